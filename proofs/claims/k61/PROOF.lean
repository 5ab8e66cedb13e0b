import PyProof.Rows.All
import Wide.All
import OpenK.AllK
import Wide.FinOn
import Lean
import PyProof.EqAt
import PyProof.EqKinds
import PyProof.TupleCall
import PyProof.ReprRoads
import PyProof.IsInstance
import PyProof.IsInstanceH
import PyProof.FitsBits
import PyProof.CompFree
import PyProof.Rows.SumAny
import PyProof.Rows.SortShell
import PyProof.Rows.TupAdd
import PyProof.NeKinds
import PyProof.ConsumeWalk
import PyProof.ZipIter
import PyProof.TupleIter
import PyProof.LayNew
import PyProof.Draws
import PyProof.EnumFor
import PyProof.EnumMake
import PyProof.ListRange
import PyProof.CollectIter
import KE.KRevIter
import PyProof.ListMulRoad
import PyProof.TupleOps
import PyProof.TupleOfStr
import PyProof.WalksMore
import PyProof.FactsAll.range_iterator
import PyProof.IsRules
import PyProof.CompUse
import PyProof.P3In
import PyProof.EqLayable
import KE.KIsAll
import PyProof.Rows.FactsN_isinstance
import PyProof.CallStr
import PyProof.Rows.StrWeight2
import PyProof.Rows.FStr
import PyProof.StrLawsRepr
import PyProof.Rows.SetFrom
import KE.KIntText
import KE.KRevSl
import PySem.Challenge.RW_askedpairs_k61_sides_of_anything
set_option Elab.async false
set_option linter.all false
set_option maxRecDepth 100000
namespace L2
open PySem PySem.Spec PyProof.Rows
abbrev ey:=Sum Int Str
def j4:ey→Value→Bool
  | .inl k,v=>Value.isInt k v
  | .inr x,v=>Value.isStrOf x v
def Aw(w:World):ey→Int
  | .inl k=>hashInt k
  | .inr x=>hashStr w x
theorem br:∀{k:ey} {v:Value},j4 k v=true→(∃i t,k=Sum.inl i∧v=Value.int i t)∨(∃x t,k=Sum.inr x∧v=Value.str x t)
  | .inl i,v,h=>by
    obtain⟨t,e⟩:=Value.isInt_shape (k:=i) (v:=v) h
    exact .inl ⟨i,t,rfl,e⟩
  | .inr x,v,h=>by
    obtain⟨t,e⟩:=Value.isStrOf_shape (x:=x) (v:=v) h
    exact .inr ⟨x,t,rfl,e⟩
theorem oZ(i:Int)(t:Tok):j4 (.inl i) (.int i t)=true:=by simp [j4,Value.isInt]
theorem o5(x:Str)(t:Tok):j4 (.inr x) (.str x t)=true:=by simp [j4,Value.isStrOf]
theorem vI(a b:Int):decide ((Sum.inl a:ey)=Sum.inl b)=(a==b):=by
  by_cases e:a=b
  · subst e;simp
  · have h:¬(Sum.inl a:ey)=Sum.inl b:=fun q=>e (Sum.inl.inj q)
    rw [decide_eq_false h]
    exact(beq_eq_false_iff_ne.mpr e).symm
theorem vL(a b:Str):decide ((Sum.inr a:ey)=Sum.inr b)=decide (a=b):=by
  by_cases e:a=b
  · subst e;simp
  · have h:¬(Sum.inr a:ey)=Sum.inr b:=fun q=>e (Sum.inr.inj q)
    rw [decide_eq_false h,decide_eq_false e]
theorem vJ(a:Int)(b:Str):decide ((Sum.inl a:ey)=Sum.inr b)=false:=decide_eq_false (fun q=>nomatch q)
theorem vK(a:Str)(b:Int):decide ((Sum.inr a:ey)=Sum.inl b)=false:=decide_eq_false (fun q=>nomatch q)
def cX(prog:Program)(w:World):PySem.KeyKind prog w ey where
  is:=j4
  hash:=Aw w
  inj:=fun v a b ha hb=>by
    rcases br ha with ⟨i,t,rfl,rfl⟩ | ⟨x,t,rfl,rfl⟩
    · rcases br hb with ⟨j,u,rfl,e⟩ | ⟨y,u,rfl,e⟩
      · injection e with e1 _;rw [e1]
      · exact nomatch e
    · rcases br hb with ⟨j,u,rfl,e⟩ | ⟨y,u,rfl,e⟩
      · exact nomatch e
      · injection e with e1 _;rw [e1]
  byValue:=fun k v h=>by
    rcases br h with ⟨i,t,rfl,rfl⟩ | ⟨x,t,rfl,rfl⟩<;>rfl
  pyHash:=fun hv h=>by
    rcases br hv with ⟨i,t,rfl,rfl⟩ | ⟨x,t,rfl,rfl⟩
    · exact wpAny_pyHash_int h
    · exact wpAny_pyHash_str h
  eqBool:=fun hu hv h=>by
    rcases br hu with ⟨i,t,rfl,rfl⟩ | ⟨x,t,rfl,rfl⟩
    · rcases br hv with ⟨j,u,rfl,rfl⟩ | ⟨y,u,rfl,rfl⟩
      · rw [vI] at h;exact wpAny_eqBool_int h
      · rw [vJ] at h;exact SeqAt.EqAt.int_str i t y u _ _ _ _ h
    · rcases br hv with ⟨j,u,rfl,rfl⟩ | ⟨y,u,rfl,rfl⟩
      · rw [vK] at h;exact SeqAt.EqAt.str_int x t j u _ _ _ _ h
      · rw [vL] at h;exact wpAny_eqBool_str h
  «strs»:=fun k x t v h=>by
    rcases br h with ⟨i,u,rfl,e⟩ | ⟨y,u,rfl,e⟩
    · exact nomatch e
    · injection e with e1 _
      subst e1
      cases v<;>rfl
theorem lY(prog:Program)(w:World)(i:Int)(t:Tok):(cX prog w).is (.inl i) (.int i t)=true:=oZ i t
theorem lZ(prog:Program)(w:World)(x:Str)(t:Tok):(cX prog w).is (.inr x) (.str x t)=true:=o5 x t
end L2
namespace L2
open PySem PySem.Spec PyProof.Rows
inductive V where
  | non | bl (b:Bool) | int (i:Int) | str (x:Str) | byt (b:Array UInt8) | flt (b:UInt64) | ref (a:Addr) | ty (n:String)
  deriving DecidableEq
def a':V→Value→Prop
  | .non,u=>u=Value.none
  | .bl b,u=>u=Value.bool b
  | .int i,u=>∃t,u=Value.int i t
  | .str x,u=>∃t,u=Value.str x t
  | .byt b,u=>∃t,u=Value.bytes b t
  | .flt b,u=>∃t,u=Value.float b t
  | .ref a,u=>u=Value.ref a
  | .ty n,u=>u=Value.type n
abbrev aB:List V→List Value→Prop:=Paired a'
theorem aB.length{xs:List V}{us:List Value}(r:aB xs us):xs.length=us.length:=Paired.length r
theorem aB.get:∀{xs:List V} {us:List Value} {i:Nat} {x:V},aB xs us→xs[i]?=some x→∃u,us[i]?=some u∧a' x u
  | _,_,_,_,.nil,e=>by simp at e
  | _,_,0,_,.cons r _,e=>by simp at e;subst e;exact⟨_,rfl,r⟩
  | _,_,i+1,x,.cons _ t,e=>by
    obtain⟨u,h1,h2⟩:=aB.get (i:=i) (x:=x) t (by simpa using e)
    exact⟨u,by simpa using h1,h2⟩
theorem aB.set{x:V}{u:Value}(r:a' x u):∀{xs:List V} {us:List Value} (i:Nat),aB xs us→aB (xs.set i x) (us.set i u)
  | _,_,_,.nil=>.nil
  | _,_,0,.cons _ t=>.cons r t
  | _,_,i+1,.cons q t=>.cons q (aB.set r i t)
theorem aB.append:∀{xs ys:List V} {us ws:List Value},aB xs us→aB ys ws→aB (xs++ys) (us++ws)
  | _,_,_,_,.nil,s=>s
  | _,_,_,_,.cons r t,s=>.cons r (aB.append t s)
theorem aB.take:∀{xs:List V} {us:List Value} (n:Nat),aB xs us→aB (xs.take n) (us.take n)
  | _,_,0,_=>.nil
  | _,_,_+1,.nil=>.nil
  | _,_,n+1,.cons r t=>.cons r (aB.take n t)
theorem aB.drop:∀{xs:List V} {us:List Value} (n:Nat),aB xs us→aB (xs.drop n) (us.drop n)
  | _,_,0,r=>r
  | _,_,_+1,.nil=>.nil
  | _,_,n+1,.cons _ t=>aB.drop n t
def xW:Option V→Option Value→Prop
  | some v,some u=>a' v u
  | none,none=>True
  | _,_=>False
def KV{κ:Type}:List (κ × V)→List (κ × Value)→Prop:=Paired fun(p:κ × V) (q:κ × Value)=>p.1=q.1∧a' p.2 q.2
def kV:ey→V
  | .inl i=>.int i
  | .inr x=>.str x
inductive HO where
  /-- a list -/
  | lst (xs:List V)
  /-- a tuple (never changes) -/
  | tup (xs:List V)
  /-- a dict whose keys are ints and texts; one whose keys are tuples of ints and texts (the empty one is both) -/
  | dK (kvs:List (ey × V)) | dT (kvs:List (List ey × V))
  /-- a set of ints: its members, its size -/
  | set (S:Int→Bool) (n:Nat)
  /-- an instance of the class at C, its dict at dx, its attributes -/
  | ins (C dx:Addr) (fs:List (Str × V))
  /-- the dict of the instance at x -/
  | own (x:Addr)
  /-- the dict of an exception -/
  | xd (fs:List (Str × V))
  /-- a bound method, f of x -/
  | met (f x:Addr)
  /-- a range object lo, lo + 1, .. below hi -/
  | rng (lo hi:Int)
  /-- a thing that is known to the object (the script; a dict while a loop walks it): read, never written while it is so -/
  | frz (o:Obj) (u:HO)
  /-- a code object's table -/
  | tbl (ps:Array Value)
  /-- any other thing, by what is true of its one object (a def of one's own: SetO a S n := HO.ext fun h => ..) -/
  | ext (φ:Heap→Prop)
abbrev Hp:=Addr→Option HO
def a8(H:Hp)(a:Addr)(o:HO):Hp:=fun b=>if b=a then some o else H b
theorem au{H:Hp}{a:Addr}{o:HO}:a8 H a o a=some o:=by unfold a8;rw [if_pos rfl]
theorem aF{H:Hp}{a b:Addr}{o:HO}(h:b≠a):a8 H a o b=H b:=by unfold a8;rw [if_neg h]
theorem cm{H:Hp}{a b:Addr}{o:HO}(h:H a=some o)(h':H b=none):a≠b:=by
  intro e;subst e;rw [h] at h';cases h'
def jD(h:Heap)(a:Addr)(items:Array Value):Prop:=∃o,h.get? a=some o∧o.cls=.type "tuple"∧∃n,o.data=.seq items n∧o.dict=none
theorem jD.tup{h:Heap}{a:Addr}{items:Array Value}(x:jD h a items):IsTup h a items:=let ⟨o,ho,hc,n,hd,_⟩:=x;⟨o,ho,hc,n,hd⟩
theorem jD.new(h:Heap)(items:Array Value):jD (h.push {cls:=.type "tuple",data:=.seq items}) h.objs.size items:=⟨_,Heap.get?_push_size _ rfl,rfl,_,rfl,rfl⟩
section
variable(P:Program)(w:World)
def cv(H:Hp)(h:Heap)(a:Addr):HO→Prop
  | .lst xs=>xs.length≤sizeLine∧∃(its:List Value) (n:Nat),aB xs its∧h.get? a=some {cls:=.type "list",data:=.seq its.toArray n}
  | .tup xs=>xs.length≤sizeLine∧∃its:List Value,aB xs its∧jD h a its.toArray
  | .dK kvs=>kvs.length≤sizeLine∧(a==sysModules)=false∧∃vs,KV kvs vs∧h.DictOf (cX P w) a vs
  | .dT kvs=>kvs.length≤sizeLine∧(a==sysModules)=false∧∃xs:List (List ey × Addr × Value),
      Paired (fun(p:List ey × V) (q:List ey × Addr × Value)=>p.1=q.1∧H q.2.1=some (.tup (p.1.map kV))∧a' p.2 q.2.2) kvs xs∧
      ∃o es ep,h.get? a=some o∧o.ExactDict∧o.data=.dict es ep∧es.toList=xs.map (entryOfKey (tupleKind (cX P w)))∧(xs.map (·.1)).Nodup
  | .set S n=>h.SetOf (intKind P w) a S n
  | .ins C dx fs=>H dx=some (.own a)∧fs.length≤1000∧dx≠a∧h.get? a=some (PySem.W.instObj C dx)∧
      ∃mA,h.Ns1 dx mA∧(∀f,xW (fs.lookup f) (mA f))∧PySem.Within mA (fs.map (·.1))
  | .own _=>∃o,h.get? a=some o
  | .xd fs=>∃mA,h.Ns1 a mA∧∀f,xW (fs.lookup f) (mA f)
  | .rng lo hi=>∃t u v,h.get? a=some {cls:=.type "range",data:=.fields #[.int lo t,.int hi u,.int 1 v]}
  | .frz o u=>h.get? a=some o∧cv H h a u
  | .tbl ps=>h.get? a=some {cls:=.none,data:=.fields ps}
  | .met f x=>h.get? a=some (PySem.W.methodObj (.ref f) (.ref x))
  | .ext φ=>φ h∧(∃o,h.get? a=some o)∧∀h1 h2:Heap,φ h1→(∀o,h1.get? a=some o→h2.get? a=some o)→φ h2
def iy(H:Hp)(h:Heap):Prop:=∀a o,H a=some o→cv P w H h a o
end
section
variable{P:Program}{w:World}{H H':Hp}{h h':Heap}{a:Addr}{o:HO}
theorem cv.lt(x:cv P w H h a o):a < h.objs.size:=by
  cases o with
  | lst xs=>obtain⟨_,_,_,_,e⟩:=x;exact Heap.lt_size e
  | tup xs=>obtain⟨_,_,_,p⟩:=x;exact p.tup.lt
  | dK kvs=>obtain⟨_,_,_,_,o,_,_,e,_⟩:=x;exact Heap.lt_size e
  | dT kvs=>obtain⟨_,_,_,_,o,_,_,e,_⟩:=x;exact Heap.lt_size e
  | set S n=>obtain⟨o,_,_,_,e,_⟩:=x;exact Heap.lt_size e
  | ins C dx fs=>obtain⟨_,_,_,e,_⟩:=x;exact Heap.lt_size e
  | own y=>obtain⟨_,e⟩:=x;exact Heap.lt_size e
  | xd fs=>obtain⟨_,⟨_,_,_,e,_⟩,_⟩:=x;exact Heap.lt_size e
  | rng lo hi=>obtain⟨_,_,_,e⟩:=x;exact Heap.lt_size e
  | frz ob u=>obtain⟨e,_⟩:=x;exact Heap.lt_size e
  | tbl ps=>exact Heap.lt_size (show h.get? a=some _ from x)
  | met f y=>exact Heap.lt_size (show h.get? a=some _ from x)
  | ext φ=>obtain⟨_,⟨_,e⟩,_⟩:=x;exact Heap.lt_size e
theorem Paired.mapP{α β:Type}{F G:α→β→Prop}:∀{l₁:List α} {l₂:List β},Paired F l₁ l₂→(∀a b,F a b→G a b)→Paired G l₁ l₂
  | _,_,.nil,_=>.nil
  | _,_,.cons r t,f=>.cons (f _ _ r) (Paired.mapP t f)
theorem cv.stay(x:cv P w H h a o)(k:∀b u,(b=a∨H b=some (.own a))→h.get? b=some u→h'.get? b=some u)
    (ho:∀b,H b=some (.own a)→H' b=some (.own a))(ht:∀b xs,H b=some (.tup xs)→H' b=some (.tup xs)):cv P w H' h' a o:=by
  induction o with
  | lst xs=>obtain⟨z,its,n,r,e⟩:=x;exact⟨z,its,n,r,k _ _ (.inl rfl) e⟩
  | tup xs=>obtain⟨z,its,r,ob,e,c⟩:=x;exact⟨z,its,r,ob,k _ _ (.inl rfl) e,c⟩
  | dK kvs=>obtain⟨z,y,vs,r,ob,es,ep,e,c⟩:=x;exact⟨z,y,vs,r,ob,es,ep,k _ _ (.inl rfl) e,c⟩
  | dT kvs=>
    obtain⟨z,y,xs,r,ob,es,ep,e,c⟩:=x
    exact⟨z,y,xs,Paired.mapP r fun p q z=>⟨z.1,ht _ _ z.2.1,z.2.2⟩,ob,es,ep,k _ _ (.inl rfl) e,c⟩
  | set S n=>obtain⟨ob,es,ep,t,e,c⟩:=x;exact⟨ob,es,ep,t,k _ _ (.inl rfl) e,c⟩
  | ins C dx fs=>
    obtain⟨d,z,ne,e,mA,⟨od,es,ep,e2,c⟩,r⟩:=x
    exact⟨ho _ d,z,ne,k _ _ (.inl rfl) e,mA,⟨od,es,ep,k _ _ (.inr d) e2,c⟩,r⟩
  | own y=>obtain⟨ob,e⟩:=x;exact⟨ob,k _ _ (.inl rfl) e⟩
  | xd fs=>obtain⟨mA,⟨od,es,ep,e,c⟩,r⟩:=x;exact⟨mA,⟨od,es,ep,k _ _ (.inl rfl) e,c⟩,r⟩
  | rng lo hi=>obtain⟨t,u,v,e⟩:=x;exact⟨t,u,v,k _ _ (.inl rfl) e⟩
  | frz ob u ih=>obtain⟨e,q⟩:=x;exact⟨k _ _ (.inl rfl) e,ih q⟩
  | tbl ps=>
    have e:h.get? a=some {cls:=.none,data:=.fields ps}:=x
    show h'.get? a=some {cls:=.none,data:=.fields ps}
    exact k a _ (.inl rfl) e
  | met f y=>
    have e:h.get? a=some (PySem.W.methodObj (.ref f) (.ref y)):=x
    show h'.get? a=some (PySem.W.methodObj (.ref f) (.ref y))
    exact k a _ (.inl rfl) e
  | ext φ=>obtain⟨p,⟨o,e⟩,st⟩:=x;exact⟨st _ _ p fun o q=>k _ _ (.inl rfl) q,⟨o,k _ _ (.inl rfl) e⟩,st⟩
theorem iy.lt(x:iy P w H h)(e:H a=some o):a < h.objs.size:=(x a o e).lt
theorem iy.fresh(x:iy P w H h)(e:h.objs.size≤a):H a=none:=by
  cases q:H a with
  | none=>rfl
  | some u=>exact absurd (Nat.lt_of_lt_of_le (x.lt q) e) (Nat.lt_irrefl _)
theorem iy.kept(x:iy P w H h)(k:∀b u,h.get? b=some u→h'.get? b=some u):iy P w H h':=fun a o e=>
  (x a o e).stay (fun b u _ q=>k b u q) (fun _ q=>q) fun _ _ q=>q
theorem iy.laid(x:iy P w H h)(k:∀b u,h.get? b=some u→h'.get? b=some u)(hp:h.objs.size≤a)(new:cv P w (a8 H a o) h' a o):iy P w (a8 H a o) h':=fun b u e=>by
  have hn:=x.fresh hp
  by_cases hb:b=a
  · subst hb;rw [au] at e;cases e;exact new
  · rw [aF hb] at e
    exact(x b u e).stay (fun c v _ q=>k c v q) (fun c q=>by rw [aF (cm q hn)];exact q) fun c xs q=>by rw [aF (cm q hn)];exact q
end
def Rd(H:Hp)(a:Addr)(u:HO):Prop:=H a=some u∨∃o,H a=some (.frz o u)
theorem Rd.ok{P:Program}{w:World}{H:Hp}{h:Heap}{a:Addr}{u:HO}(r:Rd H a u)(x:iy P w H h):cv P w H h a u:=by
  rcases r with r | ⟨o,r⟩
  · exact x a u r
  · obtain⟨_,q⟩:=x a _ r
    exact q
def xU:Option HO→Prop
  | some (.lst _)=>True
  | some (.dK _)=>True
  | some (.dT _)=>True
  | some (.set _ _)=>True
  | some (.ins _ _ _)=>True
  | some (.ext _)=>True
  | _=>False
section
variable{P:Program}{w:World}{H:Hp}{h h':Heap}{x e:Addr}{o':HO}
theorem iy.write(ok:iy P w H h)(mu:xU (H x))(he:e=x∨H e=some (.own x))(k:∀b u,b≠e→h.get? b=some u→h'.get? b=some u)(heo:∃u,h'.get? e=some u)
    (new:cv P w (a8 H x o') h' x o'):iy P w (a8 H x o') h':=fun b u q=>by
  have nown:∀c y,H c=some (.own y)→c≠x:=fun c y r z=>by subst z;rw [r] at mu;exact mu
  have ntup:∀c xs,H c=some (.tup xs)→c≠x:=fun c xs r z=>by subst z;rw [r] at mu;exact mu
  by_cases hb:b=x
  · subst hb;rw [au] at q;cases q;exact new
  · rw [aF hb] at q
    by_cases hbe:b=e
    · have q':H b=some (.own x):=by
        rcases he with z | z
        · exact absurd (hbe.trans z) hb
        · rw [hbe];exact z
      rw [q] at q';cases q'
      obtain⟨v,hv⟩:=heo
      exact⟨v,by rw [hbe];exact hv⟩
    · refine(ok b u q).stay (fun c v hc r=>k c v ?_ r) (fun c r=>by rw [aF (nown c b r)];exact r) fun c xs r=>by rw [aF (ntup c xs r)];exact r
      rcases hc with rfl | hc
      · exact hbe
      · rintro rfl
        rcases he with z | z
        · exact nown c b hc z
        · rw [hc] at z;cases z;exact hb rfl
end
structure Un (fs ex:List Addr) (H H':Hp) (h h':Heap):Prop where
  keep:∀b o,h.get? b=some o→H b=none→b∉fs→b∉ex→h'.get? b=some o
  slot:∀b o,h.get? b=some o→H b=none→b∈fs→b∉ex→∃sl,h'.get? b=some {o with slots:=sl}
  free:∀b o,h.get? b=some o→H b=none→b∉ex→H' b=none
  there:∀b o,h.get? b=some o→b∉ex→∃o',h'.get? b=some o'
  tups:∀b xs,H b=some (.tup xs)→H' b=some (.tup xs)
  frzs:∀b o u,H b=some (.frz o u)→H' b=some (.frz o u)
  tbls:∀b ps,H b=some (.tbl ps)→∃more,H' b=some (.tbl (ps++more))
section
variable{fs fs' ex ex':List Addr}{H H1 H2:Hp}{h h1 h2 h':Heap}{a x e:Addr}{o:HO}
theorem Un.any(u:Un fs ex H H1 h h1){b:Addr}{ob:Obj}(q:h.get? b=some ob)(n:H b=none)(hx:b∉ex):∃sl,h1.get? b=some {ob with slots:=sl}:=by
  by_cases hb:b∈fs
  · exact u.slot b ob q n hb hx
  · exact⟨ob.slots,u.keep b ob q n hb hx⟩
theorem Un.kept(k:∀b u,h.get? b=some u→h'.get? b=some u):Un fs ex H H h h':=
  ⟨fun b ob q _ _ _=>k b ob q,fun b ob q _ _ _=>⟨ob.slots,k b ob q⟩,fun _ _ _ n _=>n,fun b ob q _=>⟨ob,k b ob q⟩,fun _ _ q=>q,fun _ _ _ q=>q,fun _ ps q=>⟨#[],by rw [q];simp⟩⟩
theorem Un.refl:Un fs ex H H h h:=Un.kept fun _ _ q=>q
theorem Un.laid(k:∀b u,h.get? b=some u→h'.get? b=some u)(hp:h.objs.size≤a)(hn:H a=none):Un fs ex H (a8 H a o) h h' where
  keep:=fun b u q _ _ _=>k b u q
  slot:=fun b u q _ _ _=>⟨u.slots,k b u q⟩
  free:=fun b u q n _=>by rw [aF (Nat.ne_of_lt (Nat.lt_of_lt_of_le (Heap.lt_size q) hp))];exact n
  there:=fun b u q _=>⟨u,k b u q⟩
  tups:=fun b xs q=>by rw [aF (cm q hn)];exact q
  frzs:=fun b u xs q=>by rw [aF (cm q hn)];exact q
  tbls:=fun b ps q=>⟨#[],by rw [aF (cm q hn),q];simp⟩
theorem Un.write(mu:xU (H x))(he:e=x∨H e=some (.own x))(k:∀b u,b≠e→h.get? b=some u→h'.get? b=some u)(heo:∃u,h'.get? e=some u):Un fs ex H (a8 H x o) h h':=by
  have hx:∀b,H b=none→b≠x:=fun b n z=>by subst z;rw [n] at mu;exact mu
  have hb:∀b,H b=none→b≠e:=fun b n z=>by
    subst z
    rcases he with r | r
    · exact hx b n r
    · rw [n] at r;cases r
  have hm:∀b u,H b=some u→¬xU (some u)→b≠x:=fun b u q nm z=>by subst z;rw [q] at mu;exact nm mu
  refine⟨fun b u q n _ _=>k b u (hb b n) q,fun b u q n _ _=>⟨u.slots,k b u (hb b n) q⟩,fun b u q n _=>by rw [aF (hx b n)];exact n,fun b u q _=>?_,
    fun b xs q=>by rw [aF (hm b _ q fun z=>z)];exact q,fun b u xs q=>by rw [aF (hm b _ q fun z=>z)];exact q,fun b ps q=>⟨#[],by rw [aF (hm b _ q fun z=>z),q];simp⟩⟩
  by_cases hbe:b=e
  · subst hbe;exact heo
  · exact⟨u,k b u hbe q⟩
end
def zZ(h:Heap)(H:Hp):List Addr:=(List.range h.objs.size).filter fun a=>(H a).isSome
def kN(h:Heap)(H:Hp):Heap:=PySem.W.hideAll h (zZ h H)
theorem oV(h:Heap)(H:Hp):(kN h H).objs.size=h.objs.size:=PySem.W.hideAll_size _ _
theorem qk{h:Heap}{H:Hp}{b:Addr}{o:Obj}(e:h.get? b=some o)(n:H b=none):(kN h H).get? b=some o:=
  PySem.W.hideAll_get _ e fun hm=>by
    have q:(H b).isSome=true:=(List.mem_filter.mp hm).2
    rw [n] at q;simp at q
theorem sT{h:Heap}{H:Hp}{b:Addr}{o:Obj}(e:(kN h H).get? b=some o):h.get? b=some o∧H b=none:=by
  have e':h.get? b=some o:=PySem.W.of_hideAll (zZ h H) e
  refine⟨e',?_⟩
  cases q:H b with
  | none=>rfl
  | some x=>
    have hm:b∈zZ h H:=List.mem_filter.mpr ⟨List.mem_range.mpr (Heap.lt_size e'),by simp [q]⟩
    have z:(kN h H).get? b=none:=PySem.W.hideAll_none (zZ h H) hm
    rw [z] at e;cases e
def kn(g h:Heap)(L:Addr):List (Addr × Obj):=(List.range h.objs.size).filterMap fun a=>if a=L∨(g.get? a).isSome=true then none else(h.get? a).map fun o=>(a,o)
theorem jk{g h:Heap}{L:Addr}{p:Addr × Obj}(hp:p∈kn g h L):p.1≠L∧g.get? p.1=none∧h.get? p.1=some p.2:=by
  obtain⟨b,_,e⟩:=List.mem_filterMap.mp hp
  split at e
  · cases e
  · rename_i hn
    cases q:h.get? b with
    | none=>rw [q] at e;simp at e
    | some u=>
      rw [q] at e
      simp only [Option.map_some,Option.some.injEq] at e
      subst e
      refine⟨fun z=>hn (.inl z),?_,q⟩
      show g.get? b=none
      cases r:g.get? b with
      | none=>rfl
      | some v=>exact(hn (.inr (by simp [r]))).elim
def dY(g h:Heap)(L d:Addr):List (Addr × Obj):=(kn g h L).filter fun p=>decide (p.1≠d)
theorem qD{g h:Heap}{L:Addr}:News g L h (kn g h L):=fun p hp=>let ⟨a,b,c⟩:=jk hp;⟨c,a,b⟩
end L2
namespace L2
open PySem PySem.Spec PyProof.Rows
structure Mod (K:PySem.W.Frag) (mg:Str→Option Value) (base:Heap):Prop where
  kin:K.In base
  glob:base.Ns mainGlobals mg
  blt:∃mb,base.Ns builtinsNs mb∧∀x:Str,x≠"__name__"→mb x=bootBuiltins x
  nolimit:base.NoLimit
structure Cx where
  prog:Program
  w:World
  K:PySem.W.Frag
  mg:Str→Option Value
  base:Heap
  A:Around
  N:List Str
  s₀:Shared
  H₀:Hp
  env:Env
  outer:List Env
  stack:List Env
  ex:List Addr
  fn:Str→Bool
  calm:Bool
  pn:List (Addr × Obj)
  xe:Value→Shared→Prop
def p9(l:List Env):List Addr:=l.filterMap (·.frame)
abbrev Cx.fs(X:Cx):List Addr:=p9 X.outer
def x4(sc:Scope)(x:Str):Prop:=sc.names.lookup x=some .local∨sc.names.lookup x=some .cell∨sc.names.lookup x=some .free
def xM(sc:Scope)(x:Str):Prop:=sc.names.lookup x=some .local∨sc.names.lookup x=some .cell
def z9(env:Env)(h:Heap)(m:Str→Option Value)(x:Str)(u:Value):Prop:=
  (env.kindOf x=some .local∧m x=some u)∨((env.kindOf x=some .cell∨env.kindOf x=some .free)∧∃c,env.cells.lookup x=some c∧h.IsCell c (some u))
structure Cx.Ok (X:Cx):Prop where
  mod:Mod X.K X.mg X.base
  kind:X.env.scope.kind=.function
  glob:X.env.globals=mainGlobals
  blt:X.env.builtins=builtinsNs
  above:X.s₀.heap.objs.size≤X.env.locals
  inj:∀x y c,X.env.cells.lookup x=some c→X.env.cells.lookup y=some c→x=y
  has:∀x,(X.env.kindOf x=some .cell∨X.env.kindOf x=some .free)→∃c,X.env.cells.lookup x=some c
  cab:∀x c,X.fn x=true→X.env.cells.lookup x=some c→X.s₀.heap.objs.size≤c
  hd:X.calm=true→X.A.handled=none
  frames:X.A.frames=some X.stack
  stk:X.stack=X.outer∨(X.stack=X.env::X.outer∧X.env.frame=some X.env.locals)
  exf:∀b∈X.ex,b≠X.env.locals∧∀x c,X.env.cells.lookup x=some c→c≠b
  bs:∀b o,X.base.get? b=some o→X.s₀.heap.get? b=some o∧X.H₀ b=none
  bsz:X.base.objs.size≤X.s₀.heap.objs.size
  noex:∀b o,X.base.get? b=some o→b∉X.ex
  exfs:∀b∈X.ex,b∉X.fs
  funs:X.s₀.heap.FunFrames X.base X.outer
  frf:∀b∈X.fs,X.H₀ b=none
structure aw (X:Cx) (pins:List (Addr × Obj)) (σ:List (Option V)) (H:Hp) (s:Shared):Prop where
  ok:X.Ok
  os:s.os=X.s₀.os
  bare:AllBare s.gens
  base:Un X.fs X.ex X.H₀ H X.s₀.heap s.heap
  loc:∃m,s.heap.Ns X.env.locals m∧∀(i:Nat) (x:Str) (v:V),X.N[i]?=some x→σ[i]?=some (some v)→x4 X.env.scope x→∃u,a' v u∧z9 X.env s.heap m x u
  cell:∀x c,X.env.cells.lookup x=some c→∃v,s.heap.IsCell c v
  free:H X.env.locals=none
  freeC:∀x c,X.env.cells.lookup x=some c→H c=none
  pin:∀p∈X.pn++pins,s.heap.get? p.1=some p.2∧H p.1=none∧p.1≠X.env.locals∧p.1∉X.fs∧∀v,p.2.data≠.cell v
  hok:iy X.prog X.w H s.heap
  len:σ.length=X.N.length
section
variable{X:Cx}{pins:List (Addr × Obj)}{σ:List (Option V)}{H H':Hp}{s:Shared}{h':Heap}
theorem Cx.Ok.nofr(ok:X.Ok){b:Addr}{o:Obj}(e:X.base.get? b=some o):b∉X.fs:=fun hb=>by
  have:=(ok.funs.mem hb).1
  rw [e] at this;cases this
theorem aw.bs(I:aw X pins σ H s):∀b o,X.base.get? b=some o→s.heap.get? b=some o∧H b=none:=fun b o e=>
  ⟨I.base.keep b o (I.ok.bs b o e).1 (I.ok.bs b o e).2 (I.ok.nofr e) (I.ok.noex b o e),I.base.free b o (I.ok.bs b o e).1 (I.ok.bs b o e).2 (I.ok.noex b o e)⟩
theorem aw.bk(I:aw X pins σ H s):∀b o,X.base.get? b=some o→s.heap.get? b=some o:=fun b o e=>(I.bs b o e).1
theorem aw.mod(I:aw X pins σ H s):Mod X.K X.mg X.base:=I.ok.mod
theorem aw.kIn(I:aw X pins σ H s):X.K.In s.heap:=I.ok.mod.kin.keeps I.bk
theorem aw.fr(I:aw X pins σ H s):∃m,Fr X.base X.env.locals s.heap m:=
  let ⟨m,hn,_⟩:=I.loc
  ⟨m,hn,I.bk,Nat.le_trans I.ok.bsz I.ok.above⟩
theorem aw.lt(I:aw X pins σ H s):X.env.locals < s.heap.objs.size:=let ⟨_,hn,_⟩:=I.loc;hn.lt
theorem aw.sz(I:aw X pins σ H s):X.s₀.heap.objs.size≤s.heap.objs.size:=Nat.le_trans I.ok.above (Nat.le_of_lt I.lt)
theorem aw.nofs(I:aw X pins σ H s){a:Addr}(h:s.heap.objs.size≤a):a∉X.fs:=fun hb=>by
  obtain⟨_,o,ho,_⟩:=I.ok.funs.mem hb
  exact absurd (Nat.lt_of_lt_of_le (Heap.lt_size ho) (Nat.le_trans I.sz h)) (Nat.lt_irrefl _)
theorem aw.cne(I:aw X pins σ H s):∀x c,X.env.cells.lookup x=some c→c≠X.env.locals:=fun x c e z=>by
  obtain⟨v,o,ho,hd⟩:=I.cell x c e
  obtain⟨m,⟨o',es,ep,ho',hd',_⟩,_⟩:=I.loc
  rw [z,ho'] at ho;cases ho;rw [hd'] at hd;cases hd
theorem aw.funs(I:aw X pins σ H s):s.heap.FunFrames X.base X.outer:=by
  have all:∀(l:List Env),(∀b∈p9 l,b∈X.fs)→X.s₀.heap.FunFrames X.base l→s.heap.FunFrames X.base l:=by
    intro l
    induction l with
    | nil=>intro _ _;trivial
    | cons env r ih=>
      intro hs hl
      obtain⟨hk,⟨L,o,hf,hn,ho,hd⟩,hr⟩:=hl
      have hL:L∈X.fs:=hs L (by unfold p9;rw [List.filterMap_cons,hf];exact List.mem_cons_self)
      obtain⟨sl,e⟩:=I.base.slot L o ho (I.ok.frf L hL) hL fun z=>I.ok.exfs L z hL
      exact⟨hk,⟨L,_,hf,hn,e,hd⟩,ih (fun b hb=>hs b (by unfold p9;rw [List.filterMap_cons,hf];exact List.mem_cons_of_mem _ hb)) hr⟩
  exact all X.outer (fun _ hb=>hb) I.ok.funs
theorem aw.stack(I:aw X pins σ H s):s.heap.FunFrames X.base X.stack:=by
  rcases I.ok.stk with e | ⟨e,hf⟩
  · rw [e];exact I.funs
  · rw [e]
    obtain⟨m,hn,_⟩:=I.loc
    refine .cons (by rw [I.ok.kind];decide) hf hn ?_ I.funs
    exact Heap.get?_none_of_le (Nat.le_trans I.ok.bsz I.ok.above)
theorem aw.stkSub(I:aw X pins σ H s):∀b∈p9 X.stack,b∈X.env.locals::X.fs:=fun b hb=>by
  rcases I.ok.stk with e | ⟨e,hf⟩
  · rw [e] at hb;exact List.mem_cons_of_mem _ hb
  · rw [e] at hb
    unfold p9 at hb
    rw [List.filterMap_cons,hf] at hb
    exact hb
theorem aw.stkFree(I:aw X pins σ H s):∀b∈p9 X.stack,H b=none:=fun b hb=>by
  rcases List.mem_cons.mp (I.stkSub b hb) with e | hb
  · rw [e];exact I.free
  · obtain⟨_,o,ho,_⟩:=I.ok.funs.mem hb
    exact I.base.free b o ho (I.ok.frf b hb) fun z=>I.ok.exfs b z hb
theorem aw.step{g':Array GenState}{t':Nat}{d':Drawn}{ch:List Addr}(I:aw X pins σ H s)
    (hch:∀b∈ch,(b∈X.ex∨X.s₀.heap.objs.size≤b)∧b≠X.env.locals∧(∀x c,X.env.cells.lookup x=some c→c≠b)∧∀p∈X.pn++pins,p.1≠b)
    (keep:∀b o,b≠X.env.locals→b∉X.fs→b∉ch→s.heap.get? b=some o→H b=none→h'.get? b=some o)
    (slot:∀b o,b≠X.env.locals→b∈X.fs→b∉ch→s.heap.get? b=some o→H b=none→∃sl,h'.get? b=some {o with slots:=sl})(free:∀b o,b∉ch→s.heap.get? b=some o→H b=none→H' b=none)
    (there:∀b o,b∉ch→s.heap.get? b=some o→∃o',h'.get? b=some o')
    (tups:∀b xs,H b=some (.tup xs)→H' b=some (.tup xs))(frzs:∀b o u,H b=some (.frz o u)→H' b=some (.frz o u))(tbls:∀b ps,H b=some (.tbl ps)→∃more,H' b=some (.tbl (ps++more)))
    (ns:∀m,s.heap.Ns X.env.locals m→h'.Ns X.env.locals m)(hok:iy X.prog X.w H' h')(hg:AllBare g'):
    aw X pins σ H' {s with heap:=h',gens:=g',drawn:=d',toks:=t'}:=by
  have neL:∀b o,X.s₀.heap.get? b=some o→b≠X.env.locals:=fun b o e=>Nat.ne_of_lt (Nat.lt_of_lt_of_le (Heap.lt_size e) I.ok.above)
  have neC:∀b o,X.s₀.heap.get? b=some o→b∉X.ex→b∉ch:=fun b o e hx hb=>by
    rcases(hch b hb).1 with z | z
    · exact hx z
    · exact absurd (Nat.lt_of_lt_of_le (Heap.lt_size e) z) (Nat.lt_irrefl _)
  have cellK:∀x c,X.env.cells.lookup x=some c→∀v,s.heap.IsCell c v→h'.IsCell c v:=fun x c e v ⟨o,ho,hd⟩=>by
    have nch:c∉ch:=fun z=>(hch c z).2.2.1 x c e rfl
    by_cases hc:c∈X.fs
    · obtain⟨sl,q⟩:=slot c o (I.cne x c e) hc nch ho (I.freeC x c e)
      exact⟨_,q,hd⟩
    · exact⟨o,keep c o (I.cne x c e) hc nch ho (I.freeC x c e),hd⟩
  refine⟨I.ok,I.os,hg,⟨fun b o e n hb hx=>?_,fun b o e n hb hx=>?_,fun b o e n hx=>?_,fun b o e hx=>?_,fun b xs e=>tups b xs (I.base.tups b xs e),fun b o xs e=>frzs b o xs (I.base.frzs b o xs e),fun b ps e=>?_⟩,?_,fun x c e=>?_,?_,fun x c e=>?_,fun p hp=>?_,hok,I.len⟩
  · exact keep b o (neL b o e) hb (neC b o e hx) (I.base.keep b o e n hb hx) (I.base.free b o e n hx)
  · obtain⟨sl,e1⟩:=I.base.slot b o e n hb hx
    obtain⟨sl',e2⟩:=slot b _ (neL b o e) hb (neC b o e hx) e1 (I.base.free b o e n hx)
    exact⟨sl',e2⟩
  · obtain⟨o',e1⟩:=I.base.there b o e hx
    exact free b o' (neC b o e hx) e1 (I.base.free b o e n hx)
  · obtain⟨o',e1⟩:=I.base.there b o e hx
    exact there b o' (neC b o e hx) e1
  · obtain⟨m1,e1⟩:=I.base.tbls b ps e
    obtain⟨m2,e2⟩:=tbls b _ e1
    exact⟨m1++m2,by rw [e2,Array.append_assoc]⟩
  · obtain⟨m,hn,hl⟩:=I.loc
    refine⟨m,ns m hn,fun i x v e1 e2 e3=>?_⟩
    obtain⟨u,r,l⟩:=hl i x v e1 e2 e3
    refine⟨u,r,?_⟩
    rcases l with l | ⟨k,c,e,z⟩
    · exact .inl l
    · exact .inr ⟨k,c,e,cellK x c e _ z⟩
  · obtain⟨v,z⟩:=I.cell x c e
    exact⟨v,cellK x c e v z⟩
  · obtain⟨m,⟨o,_,_,ho,_⟩,_⟩:=I.loc
    exact free _ o (fun z=>(hch _ z).2.1 rfl) ho I.free
  · obtain⟨v,o,ho,hd⟩:=I.cell x c e
    exact free c o (fun z=>(hch c z).2.2.1 x c e rfl) ho (I.freeC x c e)
  · obtain⟨e,n,ne,nf,d⟩:=I.pin p hp
    have nch:p.1∉ch:=fun z=>(hch p.1 z).2.2.2 p hp rfl
    exact⟨keep p.1 p.2 ne nf nch e n,free p.1 p.2 nch e n,ne,nf,d⟩
theorem aw.un{t':Nat}(I:aw X pins σ H s)(u:Un X.fs [] H H' s.heap h')(hok:iy X.prog X.w H' h'):aw X pins σ H' {s with heap:=h',toks:=t'}:=by
  obtain⟨m,⟨o,es,ep,ho,r⟩,_⟩:=id I.loc
  obtain⟨sl,hL⟩:=u.any ho I.free (by simp)
  exact I.step (g':=s.gens) (d':=s.drawn) (ch:=[]) (fun _ z=>nomatch z) (fun b o _ hb _ e n=>u.keep b o e n hb (by simp)) (fun b o _ hb _ e n=>u.slot b o e n hb (by simp)) (fun b o _ e n=>u.free b o e n (by simp)) (fun b o _ e=>u.there b o e (by simp)) u.tups u.frzs u.tbls (fun m' hm=>by
    obtain⟨o',es',ep',ho',r'⟩:=hm
    rw [ho] at ho';cases ho'
    exact⟨_,es',ep',hL,r'⟩) hok I.bare
theorem aw.call{g':Array GenState}{t':Nat}{d':Drawn}{ch:List Addr}(I:aw X pins σ H s)(u:Un (p9 X.stack) ch H H' s.heap h')(hok:iy X.prog X.w H' h')(hg:AllBare g')
    (hch:∀b∈ch,(b∈X.ex∨X.s₀.heap.objs.size≤b)∧b≠X.env.locals∧(∀x c,X.env.cells.lookup x=some c→c≠b)∧∀p∈X.pn++pins,p.1≠b):
    aw X pins σ H' {s with heap:=h',gens:=g',drawn:=d',toks:=t'}:=by
  obtain⟨m,⟨o,es,ep,ho,r⟩,_⟩:=id I.loc
  obtain⟨sl,hL⟩:=u.any ho I.free fun z=>(hch _ z).2.1 rfl
  exact I.step (ch:=ch) hch (fun b o hL hb hc e n=>u.keep b o e n (fun z=>(List.mem_cons.mp (I.stkSub b z)).elim hL hb) hc) (fun b o _ _ hc e n=>u.any e n hc) (fun b o hc e n=>u.free b o e n hc) (fun b o hc e=>u.there b o e hc) u.tups u.frzs u.tbls (fun m' hm=>by
    obtain⟨o',es',ep',ho',r'⟩:=hm
    rw [ho] at ho';cases ho'
    exact⟨_,es',ep',hL,r'⟩) hok hg
theorem aw.turned{t':Nat}{it:Addr}(I:aw X pins σ H s)(k:∀b o,b≠it→s.heap.get? b=some o→h'.get? b=some o)(hn:H it=none)(hL:it≠X.env.locals)
    (h1:it∈X.ex∨X.s₀.heap.objs.size≤it)(h2:∀x c,X.env.cells.lookup x=some c→c≠it)(h3:∀p∈X.pn++pins,p.1≠it):aw X pins σ H {s with heap:=h',toks:=t'}:=by
  have nit:∀b u,H b=some u→b≠it:=fun b u e z=>by rw [z,hn] at e;cases e
  refine I.step (g':=s.gens) (d':=s.drawn) (ch:=[it]) (fun b hb=>?_) (fun b o _ _ hc e _=>k b o (fun z=>hc (by simp [z])) e) (fun b o _ _ hc e _=>⟨o.slots,k b o (fun z=>hc (by simp [z])) e⟩) (fun _ _ _ _ n=>n)
    (fun b o hc e=>⟨o,k b o (fun z=>hc (by simp [z])) e⟩) (fun _ _ e=>e) (fun _ _ _ e=>e) (fun b ps e=>⟨#[],by rw [e];simp⟩) (fun m hm=>?_) (fun b u e=>?_) I.bare
  · have e:b=it:=by simpa using hb
    subst e
    exact⟨h1,hL,h2,h3⟩
  · obtain⟨o,es,ep,ho,r⟩:=hm
    exact⟨o,es,ep,k _ o (Ne.symm hL) ho,r⟩
  · refine(I.hok b u e).stay (fun c v hc q=>k c v ?_ q) (fun _ q=>q) fun _ _ q=>q
    rcases hc with z | z
    · rw [z];exact nit b u e
    · exact nit c _ z
theorem aw.tok(I:aw X pins σ H s)(t:Nat):aw X pins σ H {s with toks:=t}:=I.un (h':=s.heap) (t':=t) Un.refl I.hok
theorem aw.kept{t':Nat}(I:aw X pins σ H s)(k:∀b u,s.heap.get? b=some u→h'.get? b=some u):aw X pins σ H {s with heap:=h',toks:=t'}:=I.un (Un.kept k) (I.hok.kept k)
theorem aw.laid{a:Addr}{o:HO}{t':Nat}(I:aw X pins σ H s)(k:∀b u,s.heap.get? b=some u→h'.get? b=some u)(hp:s.heap.objs.size≤a)(new:cv X.prog X.w (a8 H a o) h' a o):
    aw X pins σ (a8 H a o) {s with heap:=h',toks:=t'}:=I.un (Un.laid k hp (I.hok.fresh hp)) (I.hok.laid k hp new)
theorem aw.write{x e:Addr}{o:HO}{t':Nat}(I:aw X pins σ H s)(mu:xU (H x))(he:e=x∨H e=some (.own x))(k:∀b u,b≠e→s.heap.get? b=some u→h'.get? b=some u)(heo:∃u,h'.get? e=some u)
    (new:cv X.prog X.w (a8 H x o) h' x o):aw X pins σ (a8 H x o) {s with heap:=h',toks:=t'}:=I.un (Un.write mu he k heo) (I.hok.write mu he k heo new)
theorem aw.pins_of{pins':List (Addr × Obj)}(I:aw X pins σ H s)(h:∀p∈pins',s.heap.get? p.1=some p.2∧H p.1=none∧p.1≠X.env.locals∧p.1∉X.fs∧∀v,p.2.data≠.cell v):aw X pins' σ H s:=
  ⟨I.ok,I.os,I.bare,I.base,I.loc,I.cell,I.free,I.freeC,fun p hp=>(List.mem_append.mp hp).elim (fun z=>I.pin p (List.mem_append_left _ z)) (h p),I.hok,I.len⟩
theorem l5{N:List Str}(hN:N.Nodup){i j:Nat}{x:Str}(a:N[i]?=some x)(b:N[j]?=some x):i=j:=by
  obtain⟨h1,e1⟩:=List.getElem?_eq_some_iff.mp a
  obtain⟨h2,e2⟩:=List.getElem?_eq_some_iff.mp b
  exact(List.getElem_inj hN).mp (e1.trans e2.symm)
theorem ke{M:Model}{A:Around}{E:Value→Shared→Prop}{i:Nat}{x:Str}{v:V}{u:Value}{Q:Unit→Shared→Prop}(I:aw X pins σ H s)(hN:X.N.Nodup)(hi:X.N[i]?=some x)(hx:xM X.env.scope x)(r:a' v u)
    (h:∀s',aw X pins (σ.set i (some v)) H s'→(∃a,Heap.SameBut a s.heap s'.heap∧(a=X.env.locals∨X.env.cells.lookup x=some a))→Q () s')(hf:X.fn x=true∨X.env.scope.names.lookup x=some .local:=by first | exact .inl rfl | exact .inr rfl | assumption):wpAny M A (storeName X.env x u) Q E s:=by
  obtain⟨m,hn,hl⟩:=id I.loc
  have hcls:(X.env.scope.kind==.class || (X.env.scope.kind==.module&&X.env.locals != X.env.globals))=false:=by rw [I.ok.kind];rfl
  have hiσ:i < σ.length:=by rw [I.len];exact(List.getElem?_eq_some_iff.mp hi).1
  have cne:=I.cne
  have tracked:∀{a:Addr} {h':Heap},(∃o,s.heap.get? a=some o∧H a=none)→Heap.SameBut a s.heap h'→iy X.prog X.w H h':=fun{a h'} ha hs b ob e=>by
    obtain⟨_,_,hfree⟩:=ha
    refine(I.hok b ob e).stay (fun c w' hc q=>(hs.2 c ?_).trans q) (fun _ q=>q) fun _ _ q=>q
    rintro rfl
    rcases hc with rfl | hc
    · rw [hfree] at e;cases e
    · rw [hfree] at hc;cases hc
  rcases hx with hk | hk
  · refine wpAny_storeName_local hk hn (fun h' hn' hs=>?_) hcls
    obtain⟨oL,_,_,hoL,_⟩:=id hn
    refine h _ ⟨I.ok,I.os,I.bare,⟨fun b o e n hb hx=>?_,fun b o e n hb hx=>?_,I.base.free,fun b o e hx=>?_,I.base.tups,I.base.frzs,I.base.tbls⟩,⟨_,hn',fun j y v' e1 e2 e3=>?_⟩,fun y c e=>?_,I.free,I.freeC,fun p hp=>?_,tracked ⟨oL,hoL,I.free⟩ hs,by simpa using I.len⟩ ⟨_,hs,.inl rfl⟩
    · exact(hs.2 b (Nat.ne_of_lt (Nat.lt_of_lt_of_le (Heap.lt_size e) I.ok.above))).trans (I.base.keep b o e n hb hx)
    · obtain⟨sl,e1⟩:=I.base.slot b o e n hb hx
      exact⟨sl,(hs.2 b (Nat.ne_of_lt (Nat.lt_of_lt_of_le (Heap.lt_size e) I.ok.above))).trans e1⟩
    · obtain⟨o',e1⟩:=I.base.there b o e hx
      exact⟨o',(hs.2 b (Nat.ne_of_lt (Nat.lt_of_lt_of_le (Heap.lt_size e) I.ok.above))).trans e1⟩
    · by_cases hj:j=i
      · subst hj
        rw [hi] at e1;cases e1
        rw [List.getElem?_set_self hiσ] at e2
        cases e2
        exact⟨u,r,.inl ⟨hk,by simp⟩⟩
      · rw [List.getElem?_set_ne (Ne.symm hj)] at e2
        obtain⟨u',r',q⟩:=hl j y v' e1 e2 e3
        refine⟨u',r',?_⟩
        rcases q with ⟨k,e⟩ | ⟨k,c,e,z⟩
        · refine .inl ⟨k,?_⟩
          have:y≠x:=fun e=>hj (l5 hN e1 (e ▸ hi))
          simp [this,e]
        · exact .inr ⟨k,c,e,z.sameBut hs (cne y c e)⟩
    · obtain⟨w',z⟩:=I.cell y c e
      exact⟨w',z.sameBut hs (cne y c e)⟩
    · obtain⟨e,n,ne,nf,d⟩:=I.pin p hp
      exact⟨(hs.2 p.1 ne).trans e,n,ne,nf,d⟩
  · have hfn:X.fn x=true:=by
      rcases hf with z | z
      · exact z
      · rw [z] at hk;cases hk
    obtain⟨c,hc⟩:=I.ok.has x (.inl hk)
    obtain⟨w',z⟩:=I.cell x c hc
    refine wpAny_storeName_cell I.ok.kind hk hc z (fun h' hc' hs=>?_)
    obtain⟨oc,hoc,hocd⟩:=id z
    refine h {s with heap:=h'} ⟨I.ok,I.os,I.bare,⟨fun b o e n hb hx=>?_,fun b o e n hb hx=>?_,I.base.free,fun b o e hx=>?_,I.base.tups,I.base.frzs,I.base.tbls⟩,⟨m,hn.sameBut hs (Ne.symm (cne x c hc)),fun j y v' e1 e2 e3=>?_⟩,fun y c' e=>?_,I.free,I.freeC,fun p hp=>?_,tracked ⟨oc,hoc,I.freeC x c hc⟩ hs,by simpa using I.len⟩ ⟨c,hs,.inr hc⟩
    · exact(hs.2 b (Nat.ne_of_lt (Nat.lt_of_lt_of_le (Heap.lt_size e) (I.ok.cab x c hfn hc)))).trans (I.base.keep b o e n hb hx)
    · obtain⟨sl,e1⟩:=I.base.slot b o e n hb hx
      exact⟨sl,(hs.2 b (Nat.ne_of_lt (Nat.lt_of_lt_of_le (Heap.lt_size e) (I.ok.cab x c hfn hc)))).trans e1⟩
    · obtain⟨o',e1⟩:=I.base.there b o e hx
      exact⟨o',(hs.2 b (Nat.ne_of_lt (Nat.lt_of_lt_of_le (Heap.lt_size e) (I.ok.cab x c hfn hc)))).trans e1⟩
    · by_cases hj:j=i
      · subst hj
        rw [hi] at e1;cases e1
        rw [List.getElem?_set_self hiσ] at e2
        cases e2
        exact⟨u,r,.inr ⟨.inl hk,c,hc,hc'⟩⟩
      · rw [List.getElem?_set_ne (Ne.symm hj)] at e2
        obtain⟨u',r',q⟩:=hl j y v' e1 e2 e3
        refine⟨u',r',?_⟩
        rcases q with q | ⟨k,c',e,z'⟩
        · exact .inl q
        · refine .inr ⟨k,c',e,z'.sameBut hs ?_⟩
          rintro rfl
          exact hj (l5 hN e1 (I.ok.inj _ _ _ e hc ▸ hi))
    · by_cases hcc:c'=c
      · subst hcc;exact⟨_,hc'⟩
      · obtain⟨w2,z2⟩:=I.cell y c' e
        exact⟨w2,z2.sameBut hs hcc⟩
    · obtain⟨e,n,ne,nf,d⟩:=I.pin p hp
      refine⟨(hs.2 p.1 ?_).trans e,n,ne,nf,d⟩
      intro q
      rw [q,hoc] at e
      have q':oc=p.2:=Option.some.inj e
      exact d w' (by rw [←q'];exact hocd)
theorem hX{M:Model}{A:Around}{E:Value→Shared→Prop}{i:Nat}{x:Str}{v:V}{u:Value}{Q:Unit→Shared→Prop}(I:aw X pins σ H s)(hN:X.N.Nodup)(hi:X.N[i]?=some x)(hx:xM X.env.scope x)(r:a' v u)
    (h:∀s',aw X pins (σ.set i (some v)) H s'→Q () s')(hf:X.fn x=true∨X.env.scope.names.lookup x=some .local:=by first | exact .inl rfl | exact .inr rfl | assumption):wpAny M A (storeName X.env x u) Q E s:=
  ke I hN hi hx r (fun s' I' _=>h s' I') hf
theorem aw.call'{s':Shared}{ch:List Addr}(I:aw X pins σ H s)(ho:s'.os=s.os)(u:Un (p9 X.stack) ch H H' s.heap s'.heap)(hok:iy X.prog X.w H' s'.heap)(hg:AllBare s'.gens)
    (hch:∀b∈ch,(b∈X.ex∨X.s₀.heap.objs.size≤b)∧b≠X.env.locals∧(∀x c,X.env.cells.lookup x=some c→c≠b)∧∀p∈X.pn++pins,p.1≠b):aw X pins σ H' s':=by
  obtain⟨h',g',d',t',o'⟩:=s'
  have e:o'=s.os:=ho
  subst e
  exact I.call (g':=g') (t':=t') (d':=d') u hok hg hch
end
abbrev XK:=Value→Option Addr→Hp→Prop
abbrev St:=List (Option V)
abbrev VK:=V→Hp→Prop
abbrev TE:=St→Hp→VK→Prop
abbrev TT:=St→Hp→(Bool→Hp→Prop)→Prop
abbrev TA:=St→Hp→(List V→Hp→Prop)→Prop
structure mN where
  nx:St→Hp→Prop
  rt:VK
  bk:St→Hp→Prop:=fun _ _=>False
  ct:St→Hp→Prop:=fun _ _=>False
abbrev TS:=mN→St→Hp→Prop
def EP(X:Cx)(pins:List (Addr × Obj))(σ:St)(Q:VK)(u:Value)(s':Shared):Prop:=∃v H',aw X pins σ H' s'∧a' v u∧Q v H'
def TP(X:Cx)(pins:List (Addr × Obj))(σ:St)(Q:Bool→Hp→Prop)(b:Bool)(s':Shared):Prop:=∃H',aw X pins σ H' s'∧Q b H'
def AP(X:Cx)(pins:List (Addr × Obj))(σ:St)(Q:List V→Hp→Prop)(us:List Value)(s':Shared):Prop:=∃vs H',aw X pins σ H' s'∧aB vs us∧Q vs H'
def SP(X:Cx)(pins:List (Addr × Obj))(D:mN)(f:Flow)(s':Shared):Prop:=
  match f with
  | .next=>∃σ' H',aw X pins σ' H' s'∧D.nx σ' H'
  | .brk=>∃σ' H',aw X pins σ' H' s'∧D.bk σ' H'
  | .cont=>∃σ' H',aw X pins σ' H' s'∧D.ct σ' H'
  | .ret u=>∃v σ' H',aw X pins σ' H' s'∧a' v u∧D.rt v H'
def PE(X:Cx)(e:Expr)(t:TE):Prop:=
  ∀(pins:List (Addr × Obj)) (s:Shared) (σ:St) (H:Hp) (Q:VK),aw X pins σ H s→t σ H Q→wpAny (model X.prog X.w) X.A (eval e X.env) (EP X pins σ Q) X.xe s
def PT(X:Cx)(e:Expr)(t:TT):Prop:=
  ∀(pins:List (Addr × Obj)) (s:Shared) (σ:St) (H:Hp) (Q:Bool→Hp→Prop),aw X pins σ H s→t σ H Q→wpAny (model X.prog X.w) X.A (isTrue e X.env (eval e X.env)) (TP X pins σ Q) X.xe s
def PW(X:Cx)(e:Expr)(t:TT):Prop:=
  ∀(whole:Sem Value) (pins:List (Addr × Obj)) (s:Shared) (σ:St) (H:Hp) (Q:Bool→Hp→Prop),aw X pins σ H s→t σ H Q→wpAny (model X.prog X.w) X.A (isTrue e X.env whole) (TP X pins σ Q) X.xe s
theorem PW.pt{X:Cx}{e:Expr}{t:TT}(h:PW X e t):PT X e t:=h _
def PA(X:Cx)(es:List Expr)(t:TA):Prop:=
  ∀(pos:Pos) (pins:List (Addr × Obj)) (s:Shared) (σ:St) (H:Hp) (Q:List V→Hp→Prop),aw X pins σ H s→t σ H Q→wpAny (model X.prog X.w) X.A (spliced (backTo pos (starEach es X.env))) (AP X pins σ Q) X.xe s
def PS(X:Cx)(st:Stmt)(t:TS):Prop:=
  ∀(pins:List (Addr × Obj)) (s:Shared) (σ:St) (H:Hp) (D:mN),aw X pins σ H s→t D σ H→wpAny (model X.prog X.w) X.A (exec st X.env) (SP X pins D) X.xe s
def iJ(X:Cx)(st:List Stmt)(t:TS):Prop:=
  ∀(pins:List (Addr × Obj)) (s:Shared) (σ:St) (H:Hp) (D:mN),aw X pins σ H s→t D σ H→wpAny (model X.prog X.w) X.A (execs st X.env) (SP X pins D) X.xe s
theorem bF{α:Type}{t:Sem α}{Q Q':α→Shared→Prop}{M:Model}{A:Around}{E:Value→Shared→Prop}{s:Shared}(h:wpAny M A t Q E s)(hQ:∀a s,Q a s→Q' a s):wpAny M A t Q' E s:=wpAny_mono h hQ fun _ _ x=>x
end L2
namespace L2
open PySem PySem.Spec PyProof.Rows
section
variable{X:Cx}
def zC(i:Nat):TE:=fun σ H Q=>∃v,σ[i]?=some (some v)∧Q v H
def tC(v:V):TE:=fun _ H Q=>Q v H
theorem wF{i:Nat}{x:Str}{pos:Pos}(hN:X.N[i]?=some x)(hv:x4 X.env.scope x)(hd:(x==("__debug__":Str))=false:=by decide)(hcd:(x==("__classdict__":Str))=false:=by decide):PE X (.Name x pos) (zC i):=by
  intro pins s σ H Q I h
  obtain⟨v,e,h⟩:=h
  obtain⟨m,hn,hl⟩:=I.loc
  obtain⟨u,r,l⟩:=hl i x v hN e hv
  have fin:EP X pins σ Q u s:=⟨v,H,I,r,h⟩
  rcases l with ⟨hk,hm⟩ | ⟨hk,c,hc,hcell⟩
  · exact wpAny_Name (wpAny_loadName_local I.ok.kind hk hn hm fin) hd
  · rcases hk with hk | hk
    · exact wpAny_Name (wpAny_loadName_cell I.ok.kind hk hc hcell fin) hd
    · exact wpAny_Name (wpAny_loadName_free I.ok.kind hk hc hcell fin hcd) hd
theorem nh{i j pos}:PE X (.Constant (.int i) j pos) (tC (.int i)):=fun _ _ _ H _ I h=>wpAny_Constant_int ⟨.int i,H,I.tok _,⟨_,rfl⟩,h⟩
theorem yP{b j pos}:PE X (.Constant (.bool b) j pos) (tC (.bl b)):=fun _ _ _ H _ I h=>Constant_bool ⟨.bl b,H,I,rfl,h⟩
theorem wz{j pos}:PE X (.Constant .none j pos) (tC .non):=fun _ _ _ H _ I h=>Constant_none ⟨.non,H,I,rfl,h⟩
theorem wC{x j pos}:PE X (.Constant (.str x) j pos) (tC (.str x)):=fun _ _ _ H _ I h=>Calls.Constant_str ⟨.str x,H,I.tok _,⟨_,rfl⟩,h⟩
def Gl(X:Cx)(x:Str):Prop:=X.env.kindOf x=some .globalImplicit
theorem sO{E:Value→Shared→Prop}{pins:List (Addr × Obj)}{s:Shared}{σ:St}{H:Hp}{x:Str}{u:Value}{pos:Pos}{Q:Value→Shared→Prop}(I:aw X pins σ H s)(hg:Gl X x)(hm:X.mg x=some u)(h:Q u s)
    (hd:(x==("__debug__":Str))=false:=by decide):wpAny (model X.prog X.w) X.A (eval (.Name x pos) X.env) Q E s:=
  Calls.Name_function_global I.ok.kind hg (Calls.loadGlobal_global (by rw [I.ok.glob];exact I.mod.glob.keeps I.bk) hm h) hd
theorem ij{E:Value→Shared→Prop}{pins:List (Addr × Obj)}{s:Shared}{σ:St}{H:Hp}{x:Str}{u:Value}{pos:Pos}{Q:Value→Shared→Prop}(I:aw X pins σ H s)(hg:Gl X x)(hm:X.mg x=none)(hv:bootBuiltins x=some u)(h:Q u s)
    (hn:x≠"__name__":=by decide)(hd:(x==("__debug__":Str))=false:=by decide):wpAny (model X.prog X.w) X.A (eval (.Name x pos) X.env) Q E s:=by
  obtain⟨mb,h1,h2⟩:=I.mod.blt
  exact Calls.Name_function_global I.ok.kind hg (Calls.loadGlobal_builtin (by rw [I.ok.glob];exact I.mod.glob.keeps I.bk) hm (by rw [I.ok.blt];exact h1.keeps I.bk) ((h2 x hn).trans hv) h) hd
variable{a b:Expr}{ta tb:TE}{pos:Pos}
def tB(t:TE):TT:=fun σ H Q=>t σ H fun x H1=>∃c,x=.bl c∧Q c H1
theorem wQ{e:Expr}{t:TE}(h:PE X e t)(he:∀whole,isTrue e X.env whole=(do let v ←whole;standAt e.pos;holding [v] (truthy v)):=by intro _;rfl):PT X e (tB t):=by
  intro pins s σ H Q I hw
  refine isTrue_plain (bF (h pins s σ H _ I hw) fun v s1 ⟨x,H1,I1,r1,q1⟩=>?_) (he _)
  obtain⟨d,rfl,q⟩:=q1
  cases r1
  exact wpAny_truthy_bool ⟨H1,I1,q⟩
variable{tA tB':TT}{dY:List Expr}
def zq(t u:TT):TT:=fun σ H Q=>t σ H fun c H1=>if c=true then u σ H1 Q else Q false H1
def Bb(t u:TT):TT:=fun σ H Q=>t σ H fun c H1=>if c=true then Q true H1 else u σ H1 Q
def zw(t:TT):TT:=fun σ H Q=>t σ H fun c H1=>Q (!c) H1
theorem ue(ha:PT X a tA):PW X (.BoolOp .And [a] pos) tA:=by
  intro wh pins s σ H Q I h
  refine isTrue_and (bF (ha pins s σ H Q I h) fun c s1 e=>?_)
  cases c with
  | true=>exact isTrue_and_nil e
  | false=>exact e
theorem wU(ha:PT X a tA):PW X (.BoolOp .Or [a] pos) tA:=by
  intro wh pins s σ H Q I h
  refine isTrue_or (bF (ha pins s σ H Q I h) fun c s1 e=>?_)
  cases c with
  | false=>exact isTrue_or_nil e
  | true=>exact e
theorem wR(ha:PT X a tA)(hb:PW X (.BoolOp .And (b::dY) pos) tB'):PW X (.BoolOp .And (a::b::dY) pos) (zq tA tB'):=by
  intro wh pins s σ H Q I h
  refine isTrue_and (bF (ha pins s σ H _ I h) fun c s1 ⟨H1,I1,q1⟩=>?_)
  cases c with
  | true=>exact hb wh pins s1 σ H1 Q I1 q1
  | false=>exact⟨H1,I1,q1⟩
theorem yY(ha:PT X a tA)(hb:PW X (.BoolOp .Or (b::dY) pos) tB'):PW X (.BoolOp .Or (a::b::dY) pos) (Bb tA tB'):=by
  intro wh pins s σ H Q I h
  refine isTrue_or (bF (ha pins s σ H _ I h) fun c s1 ⟨H1,I1,q1⟩=>?_)
  cases c with
  | true=>exact⟨H1,I1,q1⟩
  | false=>exact hb wh pins s1 σ H1 Q I1 q1
theorem wO(ha:PT X a tA):PT X (.UnaryOp .Not a pos) (zw tA):=by
  intro pins s σ H Q I h
  exact isTrue_not (ha pins s σ H (fun c H1=>Q (!c) H1) I h)
def zr(ta tb:TE):TE:=fun σ H Q=>ta σ H fun x H1=>∃c,x=.bl c∧if c=true then tb σ H1 Q else Q (.bl false) H1
def zx(ta:TE):TE:=fun σ H Q=>ta σ H fun x H1=>∃c,x=.bl c∧Q (.bl (!c)) H1
theorem wB{op}{t:TE}(h:PE X a t):PE X (.BoolOp op [a] pos) t:=fun pins s σ H Q I hw=>BoolOp_one (h pins s σ H Q I hw)
theorem ww(ha:PE X a ta)(hb:PE X (.BoolOp .And (b::dY) pos) tb):PE X (.BoolOp .And (a::b::dY) pos) (zr ta tb):=by
  intro pins s σ H Q I h
  refine BoolOp_and (bF (ha pins s σ H _ I h) fun v s1 ⟨x,H1,I1,r1,q1⟩=>?_)
  obtain⟨c,rfl,q1⟩:=q1
  cases r1
  refine wpAny_truthy_bool ?_
  cases c with
  | true=>exact hb pins s1 σ H1 Q I1 q1
  | false=>exact⟨.bl false,H1,I1,rfl,q1⟩
theorem wA(ha:PE X a ta):PE X (.UnaryOp .Not a pos) (zx ta):=by
  intro pins s σ H Q I h
  refine UnaryOp_ (bF (ha pins s σ H _ I h) fun v s1 ⟨x,H1,I1,r1,q1⟩=>?_)
  obtain⟨c,rfl,q1⟩:=q1
  cases r1
  exact not_of (wpAny_truthy_bool ⟨.bl (!c),H1,I1,rfl,q1⟩)
end
end L2
namespace L2
open PySem PySem.Spec PyProof.Rows
def ef(K:PySem.W.Frag)(H:Hp)(a:Addr)(xs:List V):Prop:=
  Rd H a (.lst xs)∨
    ∃(o:Obj) (its:Array Value) (n:Nat),K.lookup a=some o∧o.cls=.type "list"∧o.dict=none∧o.data=.seq its n∧its.size≤sizeLine∧aB xs its.toList
def dg(K:PySem.W.Frag)(H:Hp)(a:Addr)(xs:List V):Prop:=
  Rd H a (.tup xs)∨
    ∃(o:Obj) (its:Array Value) (n:Nat),K.lookup a=some o∧o.cls=.type "tuple"∧o.dict=none∧o.data=.seq its n∧its.size≤sizeLine∧aB xs its.toList
def Af:Value→Option V
  | .none=>some .non
  | .bool b=>some (.bl b)
  | .int i _=>some (.int i)
  | .str x _=>some (.str x)
  | .bytes b _=>some (.byt b)
  | .float b _=>some (.flt b)
  | .ref a=>some (.ref a)
  | .type n=>some (.ty n)
  | _=>none
theorem a'.abs{x:V}{u:Value}(r:a' x u):Af u=some x:=by
  cases x with
  | non=>cases r;rfl
  | bl _=>cases r;rfl
  | int _=>obtain⟨t,rfl⟩:=r;rfl
  | str _=>obtain⟨t,rfl⟩:=r;rfl
  | byt _=>obtain⟨t,rfl⟩:=r;rfl
  | flt _=>obtain⟨t,rfl⟩:=r;rfl
  | ref _=>cases r;rfl
  | ty _=>cases r;rfl
theorem a'.inj{x y:V}{u:Value}(r:a' x u)(q:a' y u):x=y:=Option.some.inj (r.abs.symm.trans q.abs)
theorem aB.inj:∀{xs ys:List V} {us:List Value},aB xs us→aB ys us→xs=ys
  | _,_,_,.nil,.nil=>rfl
  | _,_,_,.cons r t,.cons r' t'=>by rw [r.inj r',aB.inj t t']
section
variable{X:Cx}{pins:List (Addr × Obj)}{σ:St}{H:Hp}{s:Shared}{a:Addr}{xs ys:List V}
theorem ef.of{K:PySem.W.Frag}(h:H a=some (.lst xs)):ef K H a xs:=.inl (.inl h)
theorem dg.of{K:PySem.W.Frag}(h:H a=some (.tup xs)):dg K H a xs:=.inl (.inl h)
theorem aw.list(I:aw X pins σ H s)(h:ef X.K H a xs):∃its:List Value,aB xs its∧PlainL s.heap a its.toArray∧xs.length≤sizeLine:=by
  rcases h with h | ⟨o,its,n,hk,hc,hd,hs,hz,r⟩
  · obtain⟨z,its,n,r,e⟩:=h.ok I.hok
    exact⟨its,r,⟨_,n,e,rfl,rfl,rfl⟩,z⟩
  · refine⟨its.toList,r,⟨o,n,I.kIn a o hk,hc,hd,by simpa using hs⟩,?_⟩
    have e:=r.length
    simp only [Array.length_toList] at e
    lia
theorem aw.tuple(I:aw X pins σ H s)(h:dg X.K H a xs):∃its:List Value,aB xs its∧IsTup s.heap a its.toArray∧xs.length≤sizeLine:=by
  rcases h with h | ⟨o,its,n,hk,hc,_,hs,hz,r⟩
  · obtain⟨z,its,r,p⟩:=h.ok I.hok
    exact⟨its,r,p.tup,z⟩
  · refine⟨its.toList,r,⟨o,I.kIn a o hk,hc,n,by simpa using hs⟩,?_⟩
    have e:=r.length
    simp only [Array.length_toList] at e
    lia
theorem aw.list_inj(I:aw X pins σ H s)(h:ef X.K H a xs)(h':ef X.K H a ys):xs=ys:=by
  obtain⟨its,r,⟨o,n,e,_,_,d⟩,_⟩:=I.list h
  obtain⟨its',r',⟨o',n',e',_,_,d'⟩,_⟩:=I.list h'
  rw [e] at e';cases e'
  rw [d] at d'
  injection d' with d1 _
  have:its=its':=by simpa using congrArg Array.toList d1
  subst this
  exact r.inj r'
theorem aw.tuple_inj(I:aw X pins σ H s)(h:dg X.K H a xs)(h':dg X.K H a ys):xs=ys:=by
  obtain⟨its,r,⟨o,e,_,n,d⟩,_⟩:=I.tuple h
  obtain⟨its',r',⟨o',e',_,n',d'⟩,_⟩:=I.tuple h'
  rw [e] at e';cases e'
  rw [d] at d'
  injection d' with d1 _
  have:its=its':=by simpa using congrArg Array.toList d1
  subst this
  exact r.inj r'
end
abbrev Cx.wish(X:Cx)(E:Value→Shared→Prop):Cx:={X with xe:=E}
abbrev Cx.nox(X:Cx):Cx:=X.wish fun _ _=>False
theorem Cx.Ok.wish{X:Cx}(ok:X.Ok)(E:Value→Shared→Prop):(X.wish E).Ok:=
  ⟨ok.mod,ok.kind,ok.glob,ok.blt,ok.above,ok.inj,ok.has,ok.cab,ok.hd,ok.frames,ok.stk,ok.exf,ok.bs,ok.bsz,ok.noex,ok.exfs,ok.funs,ok.frf⟩
theorem Cx.Ok.unwish{X:Cx}{E:Value→Shared→Prop}(ok:(X.wish E).Ok):X.Ok:=
  ⟨ok.mod,ok.kind,ok.glob,ok.blt,ok.above,ok.inj,ok.has,ok.cab,ok.hd,ok.frames,ok.stk,ok.exf,ok.bs,ok.bsz,ok.noex,ok.exfs,ok.funs,ok.frf⟩
section
variable{X:Cx}{pins:List (Addr × Obj)}{σ:St}{H:Hp}{s:Shared}{E:Value→Shared→Prop}
theorem aw.wish(I:aw X pins σ H s)(E:Value→Shared→Prop):aw (X.wish E) pins σ H s:=⟨I.ok.wish E,I.os,I.bare,I.base,I.loc,I.cell,I.free,I.freeC,I.pin,I.hok,I.len⟩
theorem aw.unwish(I:aw (X.wish E) pins σ H s):aw X pins σ H s:=⟨I.ok.unwish,I.os,I.bare,I.base,I.loc,I.cell,I.free,I.freeC,I.pin,I.hok,I.len⟩
theorem SP.unwish{D:mN}{f:Flow}{s':Shared}(h:SP (X.wish E) pins D f s'):SP X pins D f s':=by
  cases f with
  | next=>obtain⟨σ',H',I,q⟩:=h;exact⟨σ',H',I.unwish,q⟩
  | brk=>obtain⟨σ',H',I,q⟩:=h;exact⟨σ',H',I.unwish,q⟩
  | cont=>obtain⟨σ',H',I,q⟩:=h;exact⟨σ',H',I.unwish,q⟩
  | ret u=>obtain⟨v,σ',H',I,r,q⟩:=h;exact⟨v,σ',H',I.unwish,r,q⟩
theorem iJ.nox{st:List Stmt}{t:TS}(h:iJ X.nox st t):iJ X st t:=fun pins s σ H D I hw=>
  wpAny_mono (h pins s σ H D (I.wish _) hw) (fun _ _ q=>q.unwish) fun _ _ z=>False.elim z
end
section
variable{X:Cx}{st:Stmt}{dY:List Stmt}{t u:TS}{e:Expr}{te:TE}{pos:Pos}
def zv:TS:=fun D σ H=>D.nx σ H
def AR(t u:TS):TS:=fun D σ H=>t {D with nx:=u D} σ H
theorem tY:iJ X [] zv:=fun _ _ σ H _ I h=>wpAny_execs_nil ⟨σ,H,I,h⟩
theorem rd(h1:PS X st t)(h2:iJ X dY u):iJ X (st::dY) (AR t u):=by
  intro pins s σ H D I h
  refine wpAny_execs_cons (bF (h1 pins s σ H {D with nx:=u D} I h) fun f s1 q=>?_)
  cases f with
  | next=>
    obtain⟨σ',H',I',q⟩:=q
    exact h2 pins s1 σ' H' D I' q
  | ret v=>exact q
  | brk=>exact q
  | cont=>exact q
theorem tZ(h1:PS X st t):iJ X [st] t:=by
  intro pins s σ H D I h
  refine wpAny_execs_cons (bF (h1 pins s σ H D I h) fun f s1 q=>?_)
  cases f with
  | next=>exact wpAny_execs_nil q
  | ret v=>exact q
  | brk=>exact q
  | cont=>exact q
theorem aw.quiet{pins:List (Addr × Obj)}{σ:St}{H:Hp}{s:Shared}(I:aw X pins σ H s):interactive X.env=false:=by simp [interactive,I.ok.kind]
def zu(te:TE):TS:=fun D σ H=>te σ H fun _ H1=>D.nx σ H1
theorem tX(he:PE X e te)(hs:swapsWith e none pos.line X.env=pure false:=by rfl):PS X (.Expr e pos) (zu te):=by
  intro pins s σ H D I h
  exact wpAny_Expr_any (bF (he pins s σ H _ I h) fun v s1 ⟨x,H1,I1,r1,q1⟩=>⟨σ,H1,I1,q1⟩) I.quiet hs
def AQ(te:TE):TS:=fun D σ H=>te σ H D.rt
theorem wM(he:PE X e te):PS X (.Return (some e) pos) (AQ te):=by
  intro pins s σ H D I h
  exact wpAny_Return_some (bF (he pins s σ H _ I h) fun v s1 ⟨x,H1,I1,r1,q1⟩=>⟨x,σ,H1,I1,r1,q1⟩)
def AL(c:TT)(t u:TS):TS:=fun D σ H=>c σ H fun b H1=>if b=true then t D σ H1 else u D σ H1
theorem yX{c:Expr}{a b:List Stmt}{tc:TT}(hc:PT X c tc)(ha:iJ X a t)(hb:iJ X b u):PS X (.If c a b pos) (AL tc t u):=by
  intro pins s σ H D I h
  refine wpAny_If (bF (hc pins s σ H _ I h) fun d s1 ⟨H1,I1,q1⟩=>?_)
  cases d with
  | true=>exact ha pins s1 σ H1 D I1 q1
  | false=>exact hb pins s1 σ H1 D I1 q1
end
abbrev TG:=V→St→Hp→(St→Hp→Prop)→Prop
abbrev rY:=List V→St→Hp→(St→Hp→Prop)→Prop
def PG(X:Cx)(target:Expr)(t:TG):Prop:=
  ∀(pins:List (Addr × Obj)) (s:Shared) (σ:St) (H:Hp) (v:V) (u:Value) (Q:St→Hp→Prop),aw X pins σ H s→a' v u→t v σ H Q→
    wpAny (model X.prog X.w) X.A (assign target X.env u) (fun _ s'=>∃σ' H',aw X pins σ' H' s'∧Q σ' H') X.xe s
def pL(X:Cx)(ts:List Expr)(t:rY):Prop:=
  ∀(pins:List (Addr × Obj)) (s:Shared) (σ:St) (H:Hp) (vs:List V) (us:List Value) (Q:St→Hp→Prop),aw X pins σ H s→aB vs us→t vs σ H Q→
    wpAny (model X.prog X.w) X.A (assignInOrder ((assignEach ts X.env).map (·.2)) us) (fun _ s'=>∃σ' H',aw X pins σ' H' s'∧Q σ' H') X.xe s
abbrev vp:=V→V→V→Hp→(Hp→Prop)→Prop
def xV(X:Cx)(t:vp):Prop:=
  ∀(pins:List (Addr × Obj)) (s:Shared) (σ:St) (H:Hp) (o i v:V) (ov iv u:Value) (Q:Hp→Prop),aw X pins σ H s→a' o ov→a' i iv→a' v u→t o i v H Q→
    wpAny (model X.prog X.w) X.A (setItem ov iv u) (fun _ s'=>∃H',aw X pins σ H' s'∧Q H') X.xe s
section
variable{X:Cx}{pos:Pos}
def qf(i:Nat):TG:=fun v σ H Q=>Q (σ.set i (some v)) H
theorem tN{i:Nat}{x:Str}(hN:X.N.Nodup)(hi:X.N[i]?=some x)(hx:xM X.env.scope x)(hf:X.fn x=true∨X.env.scope.names.lookup x=some .local:=by first | exact .inl rfl | exact .inr rfl | assumption):PG X (.Name x pos) (qf i):=by
  intro pins s σ H v u Q I r h
  exact wpAny_assign_Name (hX I hN hi hx r (fun s' I'=>⟨_,H,I',h⟩) hf)
def Ai:rY:=fun vs σ H Q=>vs=[]∧Q σ H
def yl(t:TG)(u:rY):rY:=fun vs σ H Q=>∃v r,vs=v::r∧t v σ H fun σ' H'=>u r σ' H' Q
theorem tP:pL X [] Ai:=by
  intro pins s σ H vs us Q I r h
  obtain⟨e,h⟩:=h
  subst e
  cases r
  exact assignInOrder_nil ⟨σ,H,I,h⟩
theorem qU{e:Expr}{es:List Expr}{t:TG}{u:rY}(h1:PG X e t)(h2:pL X es u)
    (hs:(assignEach (e::es) X.env).map (·.2)=assign e X.env::(assignEach es X.env).map (·.2):=by rfl):pL X (e::es) (yl t u):=by
  intro pins s σ H vs us Q I r h
  obtain⟨v,vr,e1,h⟩:=h
  subst e1
  cases r with
  | cons r rr=>
    rw [hs]
    refine assignInOrder_cons (bF (h1 pins s σ H _ _ _ I r h) fun _ s1 ⟨σ1,H1,I1,q1⟩=>?_)
    exact h2 pins s1 σ1 H1 _ _ Q I1 rr q1
def qh(K:PySem.W.Frag)(n:Nat)(t:rY):TG:=fun v σ H Q=>∃a xs,v=.ref a∧dg K H a xs∧xs.length=n∧t xs σ H Q
theorem wH{es:List Expr}{k:Nat}{t:rY}{n:Nat}(hc:X.calm=true)(h:pL X es t)
    (hn:(assignEach es X.env).length=n:=by rfl)(hst:(assignEach es X.env).findIdx? (·.1)=none:=by rfl):PG X (.Tuple es k pos) (qh X.K n t):=by
  intro pins s σ H v u Q I r hw
  obtain⟨a,xs,e1,hq,hl,hw⟩:=hw
  subst e1
  cases r
  obtain⟨its,rv,ht,hz⟩:=I.tuple hq
  refine assign_Tuple_tuple (I.ok.hd hc) ht (by simp [hn,←hl,rv.length]) hst fun h' hx=>?_
  have I1:aw X pins σ H {s with heap:=h'}:=I.kept (t':=s.toks) fun b o e=>hx b o (Nat.ne_of_lt (Heap.lt_size e)) e
  exact h pins _ σ H xs _ Q I1 (by simpa using rv) hw
def Al(to ti:TE)(t:vp):TG:=fun v σ H Q=>to σ H fun o H1=>ti σ H1 fun i H2=>t o i v H2 fun H3=>Q σ H3
theorem wG{o i:Expr}{to ti:TE}{t:vp}(ho:PE X o to)(hi:PE X i ti)(hs:xV X t)
    (ha:∀v,assign (.Subscript o i pos) X.env v=(do
      let ov ←holding [v] (eval o X.env)
      let iv ←holding [v,ov] (eval i X.env)
      standAt pos
      holding [v,ov,iv] (setItem ov iv v)
      release [v,ov,iv] []):=by intro _;rfl):PG X (.Subscript o i pos) (Al to ti t):=by
  intro pins s σ H v u Q I r h
  rw [ha]
  refine wpAny_bind (wpAny_holding (bF (ho pins s σ H _ I h) fun ov s1 ⟨x,H1,I1,r1,q1⟩=>?_))
  refine wpAny_bind (wpAny_holding (bF (hi pins s1 σ H1 _ I1 q1) fun iv s2 ⟨y,H2,I2,r2,q2⟩=>?_))
  refine wpAny_bind (wpAny_standAt (wpAny_bind (wpAny_holding (bF (hs pins s2 σ H2 x y v ov iv u _ I2 r1 r2 r q2) fun _ s3 ⟨H3,I3,q3⟩=>?_))))
  exact wpAny_release ⟨σ,H3,I3,q3⟩
def xq(te:TE)(g:TG):TS:=fun D σ H=>te σ H fun x H1=>g x σ H1 D.nx
theorem q_{tg e:Expr}{te:TE}{g:TG}(he:PE X e te)(hg:PG X tg g)(hs:swapsWithSole [tg] e pos.line X.env=pure false:=by rfl)(hw:swappedStores [tg] e X.env=pure none:=by rfl)
    (h1:(assignEach [tg] X.env).map (·.2)=[assign tg X.env]:=by rfl):PS X (.Assign [tg] e pos) (xq te g):=by
  intro pins s σ H D I h
  refine wpAny_Assign_stores (bF (he pins s σ H _ I h) fun v s1 ⟨x,H1,I1,r1,q1⟩=>?_) hs hw
  rw [h1]
  exact bF (hg pins s1 σ H1 x v _ I1 r1 q1) fun _ s2 q=>q
theorem wN{i:Nat}{x:Str}{e:Expr}{te:TE}{pos':Pos}(hN:X.N.Nodup)(hi:X.N[i]?=some x)(hx:xM X.env.scope x)(he:PE X e te)(hs:swapsWith e (some (.Name x pos')) pos.line X.env=pure false:=by rfl)(hf:X.fn x=true∨X.env.scope.names.lookup x=some .local:=by first | exact .inl rfl | exact .inr rfl | assumption):
    PS X (.Assign [.Name x pos'] e pos) (xq te (qf i)):=by
  intro pins s σ H D I h
  refine wpAny_Assign_Name (bF (he pins s σ H _ I h) fun v s1 ⟨y,H1,I1,r1,q1⟩=>?_) hs
  exact hX I1 hN hi hx r1 (fun s2 I2=>⟨_,H1,I2,q1⟩) hf
def AO(i j:Nat)(ta:TA):TS:=fun D σ H=>ta σ H fun vs H1=>∃v w,vs=[v,w]∧D.nx ((σ.set i (some v)).set j (some w)) H1
theorem wL{i j:Nat}{x y:Str}{a b:Expr}{ta:TA}{px py pt:Pos}{kt k2 pt2}(hc:X.calm=true)(hN:X.N.Nodup)(hi:X.N[i]?=some x)(hj:X.N[j]?=some y)(hij:i≠j)
    (hx:X.env.scope.names.lookup x=some .local)(hy:X.env.scope.names.lookup y=some .local)(ha:PA X [a,b] ta)
    (hw:swappedStores [.Tuple [.Name x px,.Name y py] kt pt] (.Tuple [a,b] k2 pt2) X.env=pure (some [x,y]))
    (hs:swapsWithSole [.Tuple [.Name x px,.Name y py] kt pt] (.Tuple [a,b] k2 pt2) pos.line X.env=pure false:=by rfl):
    PS X (.Assign [.Tuple [.Name x px,.Name y py] kt pt] (.Tuple [a,b] k2 pt2) pos) (AO i j ta):=by
  intro pins s σ H D I h
  rw [exec_Assign_arm]
  refine wpAny_bind (wpAny_standAt ?_)
  rw [hs]
  refine wpAny_bind (wpAny_pure ?_)
  rw [if_neg (by decide)]
  refine wpAny_bind (Tuple_ (bF (ha _ pins s σ H _ I h) fun us s1 ⟨vs,H1,I1,r1,q1⟩=>?_))
  obtain⟨v,w,e1,q1⟩:=q1
  subst e1
  obtain⟨u1,u2,rfl,rv,rw'⟩:∃u1 u2,us=[u1,u2]∧a' v u1∧a' w u2:=by
    cases r1 with
    | cons p q=>
      cases q with
      | cons p' q'=>
        cases q'
        exact⟨_,_,rfl,p,p'⟩
  refine wpAny_newObj_type ?_ (by show 2≤sizeLine;decide)
  have I2:aw X pins σ H1 {s1 with heap:=s1.heap.push {cls:=.type "tuple",data:=.seq [u1,u2].toArray}}:=I1.kept (t':=s1.toks) fun b o e=>Heap.get?_push_of_some _ e
  rw [hw]
  refine wpAny_bind (wpAny_pure ?_)
  show wpAny (model X.prog X.w) X.A (do rule "assign.swapped-stores";let items ←unpackItems (.ref s1.heap.objs.size) 2 none;assignInOrder [fun v=>bindName X.env y v,fun v=>bindName X.env x v] items.reverse;pure Flow.next) _ _ _
  refine wpAny_bind (wpAny_rule (wpAny_bind (unpackItems_tuple (items:=#[u1,u2]) (I.ok.hd hc) (IsTup.new s1.heap _) fun h' hx'=>?_)))
  have I3:=I2.kept (h':=h') (t':=s1.toks) fun b o e=>hx' b o (Nat.ne_of_lt (Heap.lt_size e)) e
  show wpAny _ _ (assignInOrder [fun v=>bindName X.env y v,fun v=>bindName X.env x v] [u2,u1] >>= fun _=>pure Flow.next) _ _ _
  refine wpAny_bind (assignInOrder_cons (wpAny_bindName (hX I3 hN hj (.inl hy) rw' (fun s2 I4=>?_) (.inr hy))))
  refine assignInOrder_cons (wpAny_bindName (hX I4 hN hi (.inl hx) rv (fun s3 I5=>assignInOrder_nil (wpAny_pure ?_)) (.inr hx)))
  rw [List.set_comm _ _ (Ne.symm hij)] at I5
  exact⟨_,H1,I5,q1⟩
end
section
variable{X:Cx}{pos:Pos}
def xw(c:TT)(tb:TS):TS:=fun D σ H=>∃W:Nat→St→Hp→Prop,(∃m,W m σ H)∧∀m σ H,W m σ H→
  c σ H fun b H1=>if b=true then ∃N:St→Hp→Prop,(∀σ' H',N σ' H'→∃m',m' < m∧W m' σ' H')∧tb {D with nx:=N,ct:=N,bk:=D.nx} σ H1 else D.nx σ H1
theorem rc{c:Expr}{body:List Stmt}{tc:TT}{tb:TS}(hp:PassesOwn (model X.prog X.w) X.A X.env X.xe)(hc:PT X c tc)(hb:iJ X body tb):PS X (.While c body [] pos) (xw tc tb):=by
  intro pins s σ H D I h
  obtain⟨W,⟨m0,w0⟩,turn⟩:=h
  refine wpAny_While (codeAny_whileLoop (fun n s'=>∃σ' H',aw X pins σ' H' s'∧W n σ' H') ?_ m0 ⟨σ,H,I,w0⟩)
  rintro n s1 ⟨σ1,H1,I1,w1⟩
  refine wpAny_passesOwn hp (bF (hc pins s1 σ1 H1 _ I1 (turn n σ1 H1 w1)) fun b s2 ⟨H2,I2,q2⟩=>?_)
  cases b with
  | true=>
    obtain⟨N,hN,q2⟩:=q2
    rw [if_pos rfl]
    refine wpAny_passesOwn hp (bF (hb pins s2 σ1 H2 _ I2 q2) fun f s3 q3=>?_)
    cases f with
    | next=>
      obtain⟨σ3,H3,I3,n3⟩:=q3
      obtain⟨m',hm,w3⟩:=hN σ3 H3 n3
      exact⟨m',hm,σ3,H3,I3,w3⟩
    | cont=>
      obtain⟨σ3,H3,I3,n3⟩:=q3
      obtain⟨m',hm,w3⟩:=hN σ3 H3 n3
      exact⟨m',hm,σ3,H3,I3,w3⟩
    | brk=>exact q3
    | ret v=>exact q3
  | false=>
    rw [if_neg Bool.false_ne_true]
    exact wpAny_execs_nil ⟨σ1,H2,I2,q2⟩
end
structure It where
  go:Nat→Hp→Prop
  yld:Nat→Hp→V→Hp→Prop
  stop:Nat→Hp→Prop
def iI(X:Cx)(pins:List (Addr × Obj))(H:Hp)(b:Addr):Prop:=
  H b=none∧b≠X.env.locals∧b∉X.fs∧(b∈X.ex∨X.s₀.heap.objs.size≤b)∧(∀x c,X.env.cells.lookup x=some c→c≠b)∧∀p∈X.pn++pins,p.1≠b
theorem aw.fpOk{X:Cx}{pins:List (Addr × Obj)}{σ:St}{H H':Hp}{s:Shared}{b:Addr}(I:aw X pins σ H s)(hb:s.heap.objs.size≤b)(hn:H' b=none):iI X pins H' b:=by
  refine⟨hn,Nat.ne_of_gt (Nat.lt_of_lt_of_le I.lt hb),I.nofs hb,.inr (Nat.le_trans I.sz hb),fun x c e z=>?_,fun p hp z=>?_⟩
  · obtain⟨v,q⟩:=I.cell x c e
    exact absurd (Nat.lt_of_lt_of_le q.lt (by rw [z];exact hb)) (Nat.lt_irrefl _)
  · exact absurd (Nat.lt_of_lt_of_le (Heap.lt_size (I.pin p hp).1) (by rw [z];exact hb)) (Nat.lt_irrefl _)
structure sq (P:Program) (w:World) (K:PySem.W.Frag) (tg:Expr) (J:It) (fp:List Addr) (it:Addr) (tn:Nat→Heap→Prop):Prop where
  mem:it∈fp
  obj:∀i h,tn i h→∀b∈fp,∃o,h.get? b=some o∧∀v,o.data≠.cell v
  keep:∀i h h',tn i h→(∀b∈fp,∀o,h.get? b=some o→h'.get? b=some o)→tn i h'
  item:∀(X:Cx),X.prog=P→X.w=w→X.K=K→X.calm=true→∀(i:Nat) (pins:List (Addr × Obj)) (s:Shared) (σ:St) (H:Hp) (E:Value→Shared→Prop),aw X pins σ H s→(∀b∈fp,iI X pins H b)→tn i s.heap→J.go i H→
    wpAny (model P w) X.A (pyNext (.ref it)) (fun r s1=>∃u,r=some u∧
      wpAny (model P w) X.A (letOwnedTupleGo tg (.ref it) u) (fun _ s2=>∃x H',aw X pins σ H' s2∧a' x u∧J.yld i H x H'∧tn (i+1) s2.heap∧∀b∈fp,H' b=none) E s1) E s
  done:∀(X:Cx),X.prog=P→X.w=w→X.K=K→X.calm=true→∀(i:Nat) (pins:List (Addr × Obj)) (s:Shared) (σ:St) (H:Hp) (E:Value→Shared→Prop),aw X pins σ H s→(∀b∈fp,iI X pins H b)→tn i s.heap→J.stop i H→
    wpAny (model P w) X.A (pyNext (.ref it)) (fun r s1=>r=none∧aw X pins σ H s1) E s
  self:∀(A:Around) (i:Nat) (s:Shared) (Q:Value→Shared→Prop) (E:Value→Shared→Prop),tn i s.heap→Q (.ref it) s→wpAny (model P w) A (pyIter (.ref it)) Q E s
abbrev TI:=St→Hp→(It→Hp→Prop)→Prop
def AY(X:Cx)(pins:List (Addr × Obj))(σ:St)(tg:Expr)(R:It→Hp→Prop)(itv:Value)(s2:Shared):Prop:=
  ∃(it:Addr) (fp:List Addr) (tn:Nat→Heap→Prop) (J:It) (H':Hp),itv=.ref it∧aw X pins σ H' s2∧sq X.prog X.w X.K tg J fp it tn∧tn 0 s2.heap∧(∀b∈fp,iI X pins H' b)∧R J H'
def PI(X:Cx)(tg iter:Expr)(wi:TI):Prop:=
  ∀(pins:List (Addr × Obj)) (s:Shared) (σ:St) (H:Hp) (R:It→Hp→Prop),aw X pins σ H s→wi σ H R→
    wpAny (model X.prog X.w) X.A (eval iter X.env) (fun v s1=>wpAny (model X.prog X.w) X.A (pyIter v) (AY X pins σ tg R) X.xe s1) X.xe s
theorem qj{M:Model}{A:Around}{E:Value→Shared→Prop}{s:Shared}{tg:Expr}{it:Addr}{u:Value}{o:Obj}{n:String}{vs:Array Value}{Q:Unit→Shared→Prop}(ho:s.heap.get? it=some o)(hc:o.cls=.type n)(hd:o.data=.fields vs)
    (hn:["enumerate","zip","dict_itemiterator","dict_reverseitemiterator","odict_iterator","itertools.zip_longest","itertools.pairwise"].contains n=false)(hQ:Q () s):wpAny M A (letOwnedTupleGo tg (.ref it) u) Q E s:=by
  unfold letOwnedTupleGo
  cases tg<;>first
    | exact wpAny_pure hQ
    | (cases u<;>first
        | exact wpAny_pure hQ
        | (refine wpAny_bind (wpAny_load ho ?_)
           rw [hc,hd]
           show wpAny M A (if (["enumerate","zip","dict_itemiterator","dict_reverseitemiterator","odict_iterator","itertools.zip_longest","itertools.pairwise"].contains n&&vs[0]?==some (rawInt _))=true then _ else _) Q E s
           rw [if_neg (by intro h;rw [hn,Bool.false_and] at h;cases h)]
           exact wpAny_pure hQ))
def z5(K:PySem.W.Frag)(a:Addr):It:=
  ⟨fun i H=>∃xs x,ef K H a xs∧xs[i]?=some x,fun i H x H'=>H'=H∧∀xs,ef K H a xs→xs[i]?=some x,fun i H=>∃xs,ef K H a xs∧xs.length≤i⟩
def z7(K:PySem.W.Frag)(a:Addr):It:=
  ⟨fun i H=>∃xs x,dg K H a xs∧xs[i]?=some x,fun i H x H'=>H'=H∧∀xs,dg K H a xs→xs[i]?=some x,fun i H=>∃xs,dg K H a xs∧xs.length≤i⟩
def zN(lo:Int)(n:Nat):It:=⟨fun i _=>i < n,fun i H x H'=>H'=H∧x=.int (lo+i),fun i _=>n≤i⟩
theorem pG{P:Program}{w:World}{K:PySem.W.Frag}{tg:Expr}(a it:Addr):sq P w K tg (z5 K a) [it] it (fun i h=>h.IsListIter it a i) where
  mem:=by simp
  obj:=fun i h st b hb=>by
    have e:b=it:=by simpa using hb
    subst e
    obtain⟨o,e,c,d⟩:=st
    exact⟨o,e,fun v z=>by rw [d] at z;cases z⟩
  keep:=fun i h h' st k=>st.at fun o e=>k it (by simp) o e
  item:=by
    intro X hP hw hK hc i pins s σ H E I hf st hg
    subst hP hw hK
    obtain⟨xs,x,hq,hx⟩:=hg
    obtain⟨its,rv,p,hz⟩:=I.list hq
    obtain⟨u,hu,ru⟩:=rv.get hx
    obtain⟨f0,f1,f2,f3,f4,f5⟩:=hf it (by simp)
    refine wpAny_pyNext_list_item st p.isList (x:=u) (by simpa using hu) fun h' st' sb=>?_
    have I1:aw X pins σ H {s with heap:=h'}:=I.turned (t':=s.toks) (fun b o hb e=>(sb.2 b hb).trans e) f0 f1 f3 f4 f5
    obtain⟨o,e,c,d⟩:=id st'
    exact⟨u,rfl,qj (s:={s with heap:=h'}) e c d (by decide) ⟨x,H,I1,ru,⟨rfl,fun ys hy=>by rw [I.list_inj hy hq];exact hx⟩,st',fun b hb=>(hf b hb).1⟩⟩
  done:=by
    intro X hP hw hK hc i pins s σ H E I hf st hg
    subst hP hw hK
    obtain⟨xs,hq,hx⟩:=hg
    obtain⟨its,rv,p,hz⟩:=I.list hq
    obtain⟨f0,f1,f2,f3,f4,f5⟩:=hf it (by simp)
    have hl:=rv.length
    exact wpAny_pyNext_list_end (I.ok.hd hc) st p.isList (by simp;lia) fun h' eb=>⟨rfl,I.turned (t':=s.toks) (fun b o hb e=>eb b o hb e) f0 f1 f3 f4 f5⟩
  self:=fun _ _ _ _ _ st h=>wpAny_pyIter_listiter st h
theorem nI{P:Program}{w:World}{K:PySem.W.Frag}{tg:Expr}(a it:Addr):sq P w K tg (z7 K a) [it] it (fun i h=>h.IsTupleIter it a i) where
  mem:=by simp
  obj:=fun i h st b hb=>by
    have e:b=it:=by simpa using hb
    subst e
    obtain⟨o,e,c,d⟩:=st
    exact⟨o,e,fun v z=>by rw [d] at z;cases z⟩
  keep:=fun i h h' st k=>st.at fun o e=>k it (by simp) o e
  item:=by
    intro X hP hw hK hc i pins s σ H E I hf st hg
    subst hP hw hK
    obtain⟨xs,x,hq,hx⟩:=hg
    obtain⟨its,rv,p,hz⟩:=I.tuple hq
    obtain⟨u,hu,ru⟩:=rv.get hx
    obtain⟨f0,f1,f2,f3,f4,f5⟩:=hf it (by simp)
    refine wpAny_pyNext_tuple_item st (show s.heap.IsTuple a its.toArray from p) (x:=u) (by simpa using hu) fun h' st' sb=>?_
    have I1:aw X pins σ H {s with heap:=h'}:=I.turned (t':=s.toks) (fun b o hb e=>(sb.2 b hb).trans e) f0 f1 f3 f4 f5
    obtain⟨o,e,c,d⟩:=id st'
    exact⟨u,rfl,qj (s:={s with heap:=h'}) e c d (by decide) ⟨x,H,I1,ru,⟨rfl,fun ys hy=>by rw [I.tuple_inj hy hq];exact hx⟩,st',fun b hb=>(hf b hb).1⟩⟩
  done:=by
    intro X hP hw hK hc i pins s σ H E I hf st hg
    subst hP hw hK
    obtain⟨xs,hq,hx⟩:=hg
    obtain⟨its,rv,p,hz⟩:=I.tuple hq
    obtain⟨f0,f1,f2,f3,f4,f5⟩:=hf it (by simp)
    have hl:=rv.length
    exact wpAny_pyNext_tuple_end (I.ok.hd hc) st (show s.heap.IsTuple a its.toArray from p) (by simp;lia) fun h' eb=>⟨rfl,I.turned (t':=s.toks) (fun b o hb e=>eb b o hb e) f0 f1 f3 f4 f5⟩
  self:=fun _ _ _ _ _ st h=>wpAny_pyIter_tupleiter st h
theorem nH{P:Program}{w:World}{K:PySem.W.Frag}{tg:Expr}(it:Addr)(lo:Int)(n:Nat):sq P w K tg (zN lo n) [it] it (fun i h=>IsRangeIter h it (lo+(i:Nat)*1) ((n:Int) - (i:Nat)) 1) where
  mem:=by simp
  obj:=fun i h st b hb=>by
    have e:b=it:=by simpa using hb
    subst e
    exact⟨_,st,fun v z=>by
      have z':Data.fields _=Data.cell v:=z
      cases z'⟩
  keep:=fun i h h' st k=>k it (by simp) _ st
  item:=by
    intro X hP hw hK hc i pins s σ H E I hf st hg
    subst hP hw hK
    obtain⟨f0,f1,f2,f3,f4,f5⟩:=hf it (by simp)
    have W:=Walks.range (prog:=X.prog) (w:=X.w) (I.ok.hd hc) it lo 1 n
    refine W.item i s _ _ hg st fun v h' tk hv st' kk=>?_
    obtain⟨t,rfl⟩:=hv
    have I1:aw X pins σ H {s with heap:=h',toks:=tk}:=I.turned (fun b o hb e=>kk b o (by simpa using hb) e) f0 f1 f3 f4 f5
    refine⟨_,rfl,qj (s:={s with heap:=h',toks:=tk}) (n:="range_iterator") st' rfl rfl (by decide) ⟨.int (lo+i),H,I1,⟨t,?_⟩,⟨rfl,rfl⟩,st',fun b hb=>(hf b hb).1⟩⟩
    rw [Int.mul_one]
  done:=by
    intro X hP hw hK hc i pins s σ H E I hf st hg
    subst hP hw hK
    obtain⟨f0,f1,f2,f3,f4,f5⟩:=hf it (by simp)
    exact wpAny_pyNext_range_end (I.ok.hd hc) st (by have:n≤i:=hg;lia) fun h' eb=>⟨rfl,I.turned (t':=s.toks) (fun b o hb e=>eb b o hb e) f0 f1 f3 f4 f5⟩
  self:=fun _ _ _ _ _ st h=>wpAny_pyIter_rangeiter st h
end L2
namespace L2
open PySem PySem.Spec PyProof.Rows
section
variable{X:Cx}{tg:Expr}
def va(K:PySem.W.Frag)(tl:TE):TI:=fun σ H R=>tl σ H fun x H1=>∃a,x=.ref a∧(∃xs,ef K H1 a xs)∧R (z5 K a) H1
def yq(K:PySem.W.Frag)(tl:TE):TI:=fun σ H R=>tl σ H fun x H1=>∃a,x=.ref a∧(∃xs,dg K H1 a xs)∧R (z7 K a) H1
theorem tQ{l:Expr}{tl:TE}(hl:PE X l tl):PI X tg l (va X.K tl):=by
  intro pins s σ H R I h
  refine bF (hl pins s σ H _ I h) fun v s1 ⟨x,H1,I1,r1,q1⟩=>?_
  obtain⟨a,e,⟨xs,hq⟩,q⟩:=q1
  subst e
  cases r1
  obtain⟨its,rv,p,hz⟩:=I1.list hq
  refine wpAny_pyIter_list p.isList ?_
  refine⟨s1.heap.objs.size,[s1.heap.objs.size],_,_,H1,rfl,I1.kept (t':=s1.toks) fun b o e=>Heap.get?_push_of_some _ e,pG a _,⟨_,Heap.get?_push_size _ rfl,rfl,rfl⟩,fun b hb=>?_,q⟩
  have e:b=s1.heap.objs.size:=by simpa using hb
  subst e
  exact I1.fpOk (Nat.le_refl _) (I1.hok.fresh (Nat.le_refl _))
theorem wJ{l:Expr}{tl:TE}(hl:PE X l tl):PI X tg l (yq X.K tl):=by
  intro pins s σ H R I h
  refine bF (hl pins s σ H _ I h) fun v s1 ⟨x,H1,I1,r1,q1⟩=>?_
  obtain⟨a,e,⟨xs,hq⟩,q⟩:=q1
  subst e
  cases r1
  obtain⟨its,rv,p,hz⟩:=I1.tuple hq
  refine wpAny_pyIter_tuple (show s1.heap.IsTuple a its.toArray from p) ?_
  refine⟨s1.heap.objs.size,[s1.heap.objs.size],_,_,H1,rfl,I1.kept (t':=s1.toks) fun b o e=>Heap.get?_push_of_some _ e,nI a _,⟨_,Heap.get?_push_size _ rfl,rfl,rfl⟩,fun b hb=>?_,q⟩
  have e:b=s1.heap.objs.size:=by simpa using hb
  subst e
  exact I1.fpOk (Nat.le_refl _) (I1.hok.fresh (Nat.le_refl _))
theorem rE{pins:List (Addr × Obj)}{σ:St}{H:Hp}{s:Shared}{R:It→Hp→Prop}{E:Value→Shared→Prop}{lo hi:Int}{t u v:Tok}{tk:Nat}(I:aw X pins σ H s)(h1: -(2 ^ 62)≤lo)(h2:lo < 2 ^ 62)(h3: -(2 ^ 62)≤hi)(h4:hi < 2 ^ 62)
    (q:R (zN lo (hi - lo).toNat) H):wpAny (model X.prog X.w) X.A (pyIter (.ref s.heap.objs.size)) (AY X pins σ tg R) E {s with heap:=s.heap.push {cls:=.type "range",data:=.fields #[.int lo t,.int hi u,.int 1 v]},toks:=tk}:=by
  refine wpAny_pyIter_range (IsRange.new ..) (small_one h1 h2 h3 h4) ?_
  have I1:aw X pins σ H {s with heap:=s.heap.push {cls:=.type "range",data:=.fields #[.int lo t,.int hi u,.int 1 v]},toks:=tk}:=I.kept fun b o e=>Heap.get?_push_of_some _ e
  refine⟨(s.heap.push {cls:=.type "range",data:=.fields #[.int lo t,.int hi u,.int 1 v]}).objs.size,[(s.heap.push {cls:=.type "range",data:=.fields #[.int lo t,.int hi u,.int 1 v]}).objs.size],_,_,H,rfl,
    I1.kept (t':=tk) fun b o e=>Heap.get?_push_of_some _ e,nH _ lo (hi - lo).toNat,?_,fun b hb=>?_,q⟩
  · have e1:lo+((0:Nat):Int)*1=lo:=by simp
    have e2:(((hi - lo).toNat:Nat):Int) - ((0:Nat):Int)=Builtin.Range.rangeSize lo hi 1:=by rw [rangeSize_one];split<;>lia
    show IsRangeIter _ _ (lo+((0:Nat):Int)*1) ((((hi - lo).toNat:Nat):Int) - ((0:Nat):Int)) 1
    rw [e1,e2]
    exact Heap.get?_push_size _ rfl
  · have e:b=(s.heap.push {cls:=.type "range",data:=.fields #[.int lo t,.int hi u,.int 1 v]}).objs.size:=by simpa using hb
    subst e
    exact I1.fpOk (Nat.le_refl _) (I1.hok.fresh (Nat.le_refl _))
def yp(ta:TA):TI:=fun σ H R=>ta σ H fun vs H1=>∃j:Int,vs=[.int j]∧ -(2 ^ 62)≤j∧j < 2 ^ 62∧R (zN 0 j.toNat) H1
theorem pj{a:Expr}{ta:TA}{p pos:Pos}(hg:Gl X "range")(hm:X.mg "range"=none)(ha:PA X [a] ta)(hs:starEach [a] X.env=[(false,eval a X.env)]:=by rfl):PI X tg (.Call (.Name "range" p) [a] [] pos) (yp ta):=by
  intro pins s σ H R I h
  refine Call_ (ij I hg hm boot_range (PyProof.Rows.callWith_type1 (bF (ha pos pins s σ H _ I h) fun us s1 ⟨vs,H1,I1,r1,q1⟩=>?_) hs rfl))
  obtain⟨j,e,q1,q2,q⟩:=q1
  subst e
  cases r1 with
  | cons r rr=>
    cases rr
    obtain⟨t,rfl⟩:=r
    exact call_range_1 (rE I1 (by lia) (by lia) q1 q2 (by simpa using q))
def AK(wi:TI)(g:TG)(tb:TS):TS:=fun D σ H=>wi σ H fun J H1=>∃W:Nat→Nat→St→Hp→Prop,(∃m,W 0 m σ H1)∧∀i m σ H,W i m σ H→
  (J.stop i H∧D.nx σ H)∨(J.go i H∧∃N:St→Hp→Prop,(∀σ' H',N σ' H'→∃m',m' < m∧W (i+1) m' σ' H')∧∀x H',J.yld i H x H'→g x σ H' fun σ2 H2=>tb {D with nx:=N,ct:=N,bk:=D.nx} σ2 H2)
def ip(fp:List Addr)(h:Heap):List (Addr × Obj):=fp.filterMap fun b=>(h.get? b).map fun o=>(b,o)
theorem cQ{fp:List Addr}{h:Heap}{b:Addr}{o:Obj}(hb:b∈fp)(e:h.get? b=some o):(b,o)∈ip fp h:=List.mem_filterMap.mpr ⟨b,hb,by rw [e];rfl⟩
theorem o8{fp:List Addr}{h:Heap}{p:Addr × Obj}(hp:p∈ip fp h):p.1∈fp∧h.get? p.1=some p.2:=by
  obtain⟨b,hb,e⟩:=List.mem_filterMap.mp hp
  cases q:h.get? b with
  | none=>rw [q] at e;cases e
  | some o=>
    rw [q] at e
    have e':(b,o)=p:=Option.some.inj e
    subst e'
    exact⟨hb,q⟩
theorem aw.pinned{pins:List (Addr × Obj)}{σ:St}{H:Hp}{s:Shared}{fp:List Addr}(I:aw X pins σ H s)(hf:∀b∈fp,iI X pins H b)(ho:∀b∈fp,∃o,s.heap.get? b=some o∧∀v,o.data≠.cell v):aw X (pins++ip fp s.heap) σ H s:=
  I.pins_of fun p hp=>(List.mem_append.mp hp).elim (fun z=>I.pin p (List.mem_append_right _ z)) fun z=>by
    obtain⟨hb,e⟩:=o8 z
    obtain⟨f0,f1,f2,_⟩:=hf p.1 hb
    obtain⟨o,e',d⟩:=ho p.1 hb
    rw [e] at e';cases e'
    exact⟨e,f0,f1,f2,d⟩
theorem aw.unpinned{pins pl:List (Addr × Obj)}{σ:St}{H:Hp}{s:Shared}(I:aw X (pins++pl) σ H s):aw X pins σ H s:=I.pins_of fun p hp=>I.pin p (List.mem_append_right _ (List.mem_append_left _ hp))
theorem wK{iter:Expr}{body:List Stmt}{wi:TI}{g:TG}{tb:TS}{pos:Pos}(hp:PassesOwn (model X.prog X.w) X.A X.env X.xe)(hc:X.calm=true)(hi:PI X tg iter wi)(hg:PG X tg g)(hb:iJ X body tb)
    (hs:∀x,foldedSetIterable iter X.env x=pure x:=by intro _;rfl):PS X (.For tg iter body [] pos) (AK wi g tb):=by
  intro pins s σ H D I h
  refine wpAny_For (bF (hi pins s σ H _ I h) fun v s1 h1=>bF h1 fun itv s2 h2=>?_) hs
  obtain⟨it,fp,tn,J,H2,e,I2,T,st2,f2,W,⟨m0,w0⟩,turn⟩:=h2
  subst e
  have stat:∀{H':Hp},(∀b∈fp,H' b=none)→∀b∈fp,iI X pins H' b:=fun hn b hb=>⟨hn b hb,(f2 b hb).2⟩
  refine codeAny_forLoop_any (fun n s'=>∃i σ' H',aw X pins σ' H' s'∧tn i s'.heap∧(∀b∈fp,H' b=none)∧W i n σ' H') ?_ m0 ⟨0,σ,H2,I2,st2,fun b hb=>(f2 b hb).1,w0⟩
  rintro n s3 ⟨i,σ3,H3,I3,st3,fr3,w3⟩
  rcases turn i n σ3 H3 w3 with ⟨stop,qn⟩ | ⟨go,N,hN,step⟩
  · refine wpAny_passesOwn hp (bF (T.done X rfl rfl rfl hc i pins s3 σ3 H3 X.xe I3 (stat fr3) st3 stop) fun r s4 ⟨hr,I4⟩=>?_)
    subst hr
    exact wpAny_execs_nil ⟨σ3,H3,I4,qn⟩
  · refine wpAny_passesOwn hp (bF (T.item X rfl rfl rfl hc i pins s3 σ3 H3 X.xe I3 (stat fr3) st3 go) fun r s4 ⟨u,hr,h4⟩=>?_)
    subst hr
    refine wpAny_passesOwn hp (bF h4 fun _ s5 ⟨x,H5,I5,r5,y5,st5,fr5⟩=>?_)
    have I5':=I5.pinned (stat fr5) (T.obj _ _ st5)
    refine wpAny_passesOwn hp (bF (hg _ s5 σ3 H5 x u _ I5' r5 (step x H5 y5)) fun _ s6 ⟨σ6,H6,I6,q6⟩=>?_)
    refine wpAny_passesOwn hp (bF (hb _ s6 σ6 H6 _ I6 q6) fun f s7 q7=>?_)
    have again:∀{σ7:St} {H7:Hp},aw X (pins++ip fp s5.heap) σ7 H7 s7→N σ7 H7→∃m,m < n∧∃i σ' H',aw X pins σ' H' s7∧tn i s7.heap∧(∀b∈fp,H' b=none)∧W i m σ' H':=fun{σ7 H7} I7 n7=>by
      obtain⟨m',hm,w7⟩:=hN σ7 H7 n7
      refine⟨m',hm,i+1,σ7,H7,I7.unpinned,T.keep _ _ _ st5 fun b hb o e=>(I7.pin (b,o) (List.mem_append_right _ (List.mem_append_right _ (cQ hb e)))).1,fun b hb=>?_,w7⟩
      obtain⟨o,e,d⟩:=T.obj _ _ st5 b hb
      exact(I7.pin (b,o) (List.mem_append_right _ (List.mem_append_right _ (cQ hb e)))).2.1
    cases f with
    | next=>obtain⟨σ7,H7,I7,n7⟩:=q7;exact again I7 n7
    | cont=>obtain⟨σ7,H7,I7,n7⟩:=q7;exact again I7 n7
    | brk=>obtain⟨σ7,H7,I7,q7⟩:=q7;exact⟨σ7,H7,I7.unpinned,q7⟩
    | ret v=>obtain⟨x7,σ7,H7,I7,r7,q7⟩:=q7;exact⟨x7,σ7,H7,I7.unpinned,r7,q7⟩
end
end L2
namespace L2
open PySem PySem.Spec PyProof.Rows
abbrev R2:=V→V→Hp→VK→Prop
def dz(X:Cx)(f:Value→Value→Sem Value)(r:R2):Prop:=
  ∀(pins:List (Addr × Obj)) (s:Shared) (σ:St) (H:Hp) (x y:V) (v u:Value) (Q:VK),aw X pins σ H s→a' x v→a' y u→r x y H Q→
    wpAny (model X.prog X.w) X.A (f v u) (EP X pins σ Q) X.xe s
def zR(X:Cx)(f:Value→Sem Value)(r:V→Hp→VK→Prop):Prop:=
  ∀(pins:List (Addr × Obj)) (s:Shared) (σ:St) (H:Hp) (x:V) (v:Value) (Q:VK),aw X pins σ H s→a' x v→r x H Q→
    wpAny (model X.prog X.w) X.A (f v) (EP X pins σ Q) X.xe s
def dN(X:Cx)(f:Value)(r:List V→Hp→VK→Prop):Prop:=
  ∀(pins:List (Addr × Obj)) (s:Shared) (σ:St) (H:Hp) (xs:List V) (us:List Value) (Q:VK),aw X pins σ H s→aB xs us→r xs H Q→
    wpAny (model X.prog X.w) X.A (call f us) (EP X pins σ Q) X.xe s
def zy(r:R2)(ta tb:TE):TE:=fun σ H Q=>ta σ H fun x H1=>tb σ H1 fun y H2=>r x y H2 Q
def Bc(r:V→Hp→VK→Prop)(ta:TE):TE:=fun σ H Q=>ta σ H fun x H1=>r x H1 Q
def rI(C:Int→Int→Prop)(g:Int→Int→V):R2:=fun x y H Q=>∃i j,x=.int i∧y=.int j∧C i j∧Q (g i j) H
def nA(g:Int→Int→V):R2:=fun x y H Q=>∃i j,x=.int i∧y=.int j∧Q (g i j) H
def rU(g:Int→V):V→Hp→VK→Prop:=fun x H Q=>∃i,x=.int i∧Q (g i) H
section
variable{X:Cx}{a b c:Expr}{ta tb tc:TE}{pos:Pos}
theorem vq(ha:PE X a ta)(hb:PE X b tb){pins:List (Addr × Obj)}{s:Shared}{σ:St}{H:Hp}{R:V→V→Hp→Prop}(I:aw X pins σ H s)
    (h:ta σ H fun x H1=>tb σ H1 fun y H2=>R x y H2){Q:Value→Shared→Prop}{f:Value→Value→Sem Value}
    (hf:∀v u s2 x y H2,aw X pins σ H2 s2→a' x v→a' y u→R x y H2→wpAny (model X.prog X.w) X.A (f v u) Q X.xe s2):
    wpAny (model X.prog X.w) X.A (eval a X.env) (fun v s₁=>wpAny (model X.prog X.w) X.A (eval b X.env) (fun u s₂=>wpAny (model X.prog X.w) X.A (f v u) Q X.xe s₂) X.xe s₁) X.xe s:=by
  refine bF (ha pins s σ H _ I h) fun v s1 ⟨x,H1,I1,r1,q1⟩=>?_
  refine bF (hb pins s1 σ H1 _ I1 q1) fun u s2 ⟨y,H2,I2,r2,q2⟩=>?_
  exact hf v u s2 x y H2 I2 r1 r2 q2
theorem yS{op:Operator}{r:R2}(ho:dz X (binaryOp op) r)(ha:PE X a ta)(hb:PE X b tb):PE X (.BinOp a op b pos) (zy r ta tb):=by
  intro pins s σ H Q I h
  exact wpAny_BinOp (vq ha hb I h fun v u s2 x y H2 I2 rx ry q=>ho pins s2 σ H2 x y v u Q I2 rx ry q)
theorem yU{op:UnaryOp}{r:V→Hp→VK→Prop}(ho:zR X (unaryOp op) r)(ha:PE X a ta):PE X (.UnaryOp op a pos) (Bc r ta):=by
  intro pins s σ H Q I h
  exact UnaryOp_ (bF (ha pins s σ H _ I h) fun v s1 ⟨x,H1,I1,r1,q1⟩=>ho pins s1 σ H1 x v Q I1 r1 q1)
theorem yI{f:Value→Value→Sem Value}{C:Int→Int→Prop}{g:Int→Int→Int}
    (rule:∀(i j:Int) (t u:Tok) (s:Shared) (Q:Value→Shared→Prop) (E:Value→Shared→Prop),C i j→Q (.int (g i j) s.toks) {s with toks:=s.toks+1}→wpAny (model X.prog X.w) X.A (f (.int i t) (.int j u)) Q E s):
    dz X f (rI C fun i j=>.int (g i j)):=by
  intro pins s σ H x y v u Q I rx ry h
  obtain⟨i,j,rfl,rfl,hc,q⟩:=h
  obtain⟨t,rfl⟩:=rx
  obtain⟨t',rfl⟩:=ry
  exact rule i j t t' s _ _ hc ⟨.int (g i j),H,I.tok _,⟨_,rfl⟩,q⟩
theorem yJ{f:Value→Value→Sem Value}{g:Int→Int→Int}
    (rule:∀(i j:Int) (t u:Tok) (s:Shared) (Q:Value→Shared→Prop) (E:Value→Shared→Prop),Q (.int (g i j) s.toks) {s with toks:=s.toks+1}→wpAny (model X.prog X.w) X.A (f (.int i t) (.int j u)) Q E s):
    dz X f (nA fun i j=>.int (g i j)):=by
  intro pins s σ H x y v u Q I rx ry h
  obtain⟨i,j,rfl,rfl,q⟩:=h
  obtain⟨t,rfl⟩:=rx
  obtain⟨t',rfl⟩:=ry
  exact rule i j t t' s _ _ ⟨.int (g i j),H,I.tok _,⟨_,rfl⟩,q⟩
theorem sZ{f:Value→Value→Sem Value}{g:Int→Int→Bool}
    (rule:∀(i j:Int) (t u:Tok) (s:Shared) (Q:Value→Shared→Prop) (E:Value→Shared→Prop),Q (.bool (g i j)) s→wpAny (model X.prog X.w) X.A (f (.int i t) (.int j u)) Q E s):
    dz X f (nA fun i j=>.bl (g i j)):=by
  intro pins s σ H x y v u Q I rx ry h
  obtain⟨i,j,rfl,rfl,q⟩:=h
  obtain⟨t,rfl⟩:=rx
  obtain⟨t',rfl⟩:=ry
  exact rule i j t t' s _ _ ⟨.bl (g i j),H,I,rfl,q⟩
def vm(i j:Int):Prop:=0≤j∧j≤1000000∧i.natAbs < 2 ^ 64
def r_(i j:Int):Prop:=(-(2 ^ 64) < i∧i < 2 ^ 64)∨(-(2 ^ 64) < j∧j < 2 ^ 64)
theorem r_.ok{i j:Int}(h:r_ i j):IntMulOk i j:=by
  rcases h with ⟨h1,h2⟩ | ⟨h1,h2⟩
  · exact .of_left (intBits_le_64 h1 h2)
  · exact .of_right (intBits_le_64 h1 h2)
theorem wa:dz X (binaryOp .Add) (nA fun i j=>.int (i+j)):=yJ fun _ _ _ _ _ _ _ q=>add_int q
theorem wu:dz X (binaryOp .Sub) (nA fun i j=>.int (i - j)):=yJ fun _ _ _ _ _ _ _ q=>sub_int q
theorem wk:dz X (binaryOp .Mult) (rI r_ fun i j=>.int (i*j)):=yI fun _ _ _ _ _ _ _ hc q=>mul_int q hc.ok
theorem tu:dz X (binaryOp .Mod) (rI (fun _ j=>j≠0) fun i j=>.int (i.fmod j)):=yI fun _ _ _ _ _ _ _ hc q=>mod_int' hc q
theorem wo:dz X (binaryOp .Pow) (rI vm fun i j=>.int (i ^ j.toNat)):=yI fun _ _ _ _ _ _ _ hc q=>pow_int_small hc.1 hc.2.1 hc.2.2 q
theorem By{f:Value→Sem Value}{g:Int→Int}
    (rule:∀(i:Int) (t:Tok) (s:Shared) (Q:Value→Shared→Prop) (E:Value→Shared→Prop),Q (.int (g i) s.toks) {s with toks:=s.toks+1}→wpAny (model X.prog X.w) X.A (f (.int i t)) Q E s):
    zR X f (rU fun i=>.int (g i)):=by
  intro pins s σ H x v Q I rx h
  obtain⟨i,rfl,q⟩:=h
  obtain⟨t,rfl⟩:=rx
  exact rule i t s _ _ ⟨.int (g i),H,I.tok _,⟨_,rfl⟩,q⟩
theorem xF:zR X (unaryOp .USub) (rU fun i=>.int (-i)):=By fun _ _ _ _ _ q=>neg_int q
end
section
variable{X:Cx}{a b c:Expr}{ta tb tc:TE}{pos:Pos}
theorem p8{pins:List (Addr × Obj)}{σ:St}{H:Hp}{s:Shared}{Q:VK}{k k':Bool}(I:aw X pins σ H s)(q:Q (.bl k) H)(e:k=k'):EP X pins σ Q (.bool k') s:=by
  subst e
  exact⟨.bl k,H,I,rfl,q⟩
theorem yN:dz X (compareOp .Lt) (nA fun i j=>.bl (decide (i < j))):=sZ fun _ _ _ _ _ _ _ q=>lt_int q
theorem yM:dz X (compareOp .LtE) (nA fun i j=>.bl (decide (i≤j))):=sZ fun _ _ _ _ _ _ _ q=>le_int q
theorem yL:dz X (compareOp .Gt) (nA fun i j=>.bl (decide (j < i))):=sZ fun _ _ _ _ _ _ _ q=>gt_int q
theorem yK:dz X (compareOp .GtE) (nA fun i j=>.bl (decide (j≤i))):=sZ fun _ _ _ _ _ _ _ q=>ge_int q
theorem wj:dz X (compareOp .Is) (fun x y H Q=>y=.non∧Q (.bl (decide (x=.non))) H):=by
  intro pins s σ H x y v u Q I rx ry h
  obtain⟨rfl,q⟩:=h
  cases ry
  refine is_none_gen (p8 I q ?_)
  cases x<;>first
    | (cases rx;rfl)
    | (obtain⟨t,rfl⟩:=rx;rfl)
theorem tH:dz X (compareOp .IsNot) (fun x y H Q=>y=.non∧Q (.bl (!decide (x=.non))) H):=by
  intro pins s σ H x y v u Q I rx ry h
  obtain⟨rfl,q⟩:=h
  cases ry
  refine isnot_none_gen (p8 I q ?_)
  cases x<;>first
    | (cases rx;rfl)
    | (obtain⟨t,rfl⟩:=rx;rfl)
theorem dz.or{f:Value→Value→Sem Value}{r r':R2}(h:dz X f r)(h':dz X f r'):dz X f (fun x y H Q=>r x y H Q∨r' x y H Q):=by
  intro pins s σ H x y v u Q I rx ry q
  rcases q with q | q
  · exact h pins s σ H x y v u Q I rx ry q
  · exact h' pins s σ H x y v u Q I rx ry q
theorem aN(b:Expr){op:CmpOp}(h:op≠.In:=by decide)(h2:op≠.NotIn:=by decide):behindInMarks op b=false:=by
  have e1:(op==CmpOp.In)=false:=by cases op<;>first | rfl | exact absurd rfl h
  have e2:(op==CmpOp.NotIn)=false:=by cases op<;>first | rfl | exact absurd rfl h2
  cases b<;>simp [behindInMarks,e1,e2]
theorem tK{op:CmpOp}{r:R2}(ho:dz X (compareOp op) r)(ha:PE X a ta)(hb:PE X b tb)(hm:behindInMarks op b=false):PE X (.Compare a [op] [b] pos) (zy r ta tb):=by
  intro pins s σ H Q I h
  exact wpAny_Compare1 (vq ha hb I h fun v u s2 x y H2 I2 rx ry q=>ho pins s2 σ H2 x y v u Q I2 rx ry q) hm
def zA(t:TE):TT:=fun σ H Q=>t σ H fun x H'=>∃k,x=.bl k∧Q k H'
theorem t_{op:CmpOp}{r:R2}(ho:dz X (compareOp op) r)(ha:PE X a ta)(hb:PE X b tb)(hm:behindInMarks op b=false):PT X (.Compare a [op] [b] pos) (zA (zy r ta tb)):=by
  intro pins s σ H Q I h
  refine wpAny_isTrue_Compare1 (bF (ha pins s σ H _ I h) fun v s1 ⟨x,H1,I1,r1,q1⟩=>bF (hb pins s1 σ H1 _ I1 q1) fun u s2 ⟨y,H2,I2,r2,q2⟩=>
    bF (ho pins s2 σ H2 x y v u _ I2 r1 r2 q2) fun c s3 ⟨z,H3,I3,r3,k,e,q3⟩=>?_) hm
  subst e
  cases r3
  exact wpAny_truthy_bool ⟨H3,I3,q3⟩
def rR(r r':R2)(ta tb tc:TE):TE:=fun σ H Q=>ta σ H fun x H1=>tb σ H1 fun y H2=>r x y H2 fun z H3=>∃k,z=.bl k∧
  (if k=true then tc σ H3 fun w' H4=>r' y w' H4 Q else Q (.bl false) H3)
theorem qO{op op':CmpOp}{r r':R2}(ho:dz X (compareOp op) r)(ho':dz X (compareOp op') r')(ha:PE X a ta)(hb:PE X b tb)(hc:PE X c tc)
    (hm:lastMarks [op,op'] [b,c]=false:=by with_unfolding_all rfl):PE X (.Compare a [op,op'] [b,c] pos) (rR r r' ta tb tc):=by
  intro pins s σ H Q I h
  refine Compare_chain (bF (ha pins s σ H _ I h) fun v s1 ⟨x,H1,I1,r1,q1⟩=>chain_link (bF (hb pins s1 σ H1 _ I1 q1) fun u s2 ⟨y,H2,I2,r2,q2⟩=>
    bF (ho pins s2 σ H2 x y v u _ I2 r1 r2 q2) fun d s3 ⟨z,H3,I3,r3,k,e,q3⟩=>?_)) hm
  subst e
  cases r3
  refine wpAny_truthy_bool ?_
  cases k with
  | false=>exact ite_ff ⟨.bl false,H3,I3,rfl,q3⟩
  | true=>exact ite_tt (chain_last (bF (hc pins s3 σ H3 _ I3 q3) fun w' s4 ⟨z',H4,I4,r4,q4⟩=>ho' pins s4 σ H4 y z' u w' Q I4 r2 r4 q4))
theorem kQ:(sizeLine:Nat) < 2 ^ 63:=by rw [sizeLine_eq];decide
theorem kh{x:V}{us:List Value}(r:aB [x] us):∃u,us=[u]∧a' x u:=by
  cases r with
  | cons r1 r2=>cases r2;exact⟨_,rfl,r1⟩
theorem vj{x y:V}{us:List Value}(r:aB [x,y] us):∃u w',us=[u,w']∧a' x u∧a' y w':=by
  cases r with
  | cons r1 r2=>
    cases r2 with
    | cons r3 r4=>cases r4;exact⟨_,_,rfl,r1,r3⟩
theorem pX:dN X (.builtin "abs") (fun xs H Q=>∃i,xs=[.int i]∧Q (.int (if i < 0 then -i else i)) H):=by
  intro pins s σ H xs us Q I r h
  obtain⟨i,rfl,q⟩:=h
  obtain⟨u,rfl,t,rfl⟩:=kh r
  exact call_abs_int fun u tk=>⟨.int (if i < 0 then -i else i),H,I.tok _,⟨_,rfl⟩,q⟩
theorem oO(hc:X.calm=true):dN X (.builtin "max") (fun xs H Q=>∃i j,xs=[.int i,.int j]∧Q (.int (if j > i then j else i)) H):=by
  intro pins s σ H xs us Q I r h
  obtain⟨i,j,rfl,q⟩:=h
  obtain⟨u,w',rfl,⟨t,rfl⟩,⟨t',rfl⟩⟩:=vj r
  refine max_two_ints (I.ok.hd hc) fun h' tk k=>⟨_,H,I.kept k,?_,q⟩
  by_cases hj:j > i
  · rw [if_pos hj,if_pos hj];exact⟨_,rfl⟩
  · rw [if_neg hj,if_neg hj];exact⟨_,rfl⟩
theorem oP(hc:X.calm=true):dN X (.builtin "min") (fun xs H Q=>∃i j,xs=[.int i,.int j]∧Q (.int (if j < i then j else i)) H):=by
  intro pins s σ H xs us Q I r h
  obtain⟨i,j,rfl,q⟩:=h
  obtain⟨u,w',rfl,⟨t,rfl⟩,⟨t',rfl⟩⟩:=vj r
  refine min_two_ints (I.ok.hd hc) fun h' tk k=>⟨_,H,I.kept k,?_,q⟩
  by_cases hj:j < i
  · rw [if_pos hj,if_pos hj];exact⟨_,rfl⟩
  · rw [if_neg hj,if_neg hj];exact⟨_,rfl⟩
theorem oM:dN X (.type "int") (fun xs H Q=>(∃i,xs=[.int i]∧Q (.int i) H)∨∃k,xs=[.bl k]∧Q (.int (if k then 1 else 0)) H):=by
  intro pins s σ H xs us Q I r h
  rcases h with ⟨i,rfl,q⟩ | ⟨k,rfl,q⟩
  · obtain⟨u,rfl,t,rfl⟩:=kh r
    exact call_int_int ⟨.int i,H,I,⟨_,rfl⟩,q⟩
  · obtain⟨u,rfl,r1⟩:=kh r
    cases r1
    exact call_int_bool ⟨.int (if k then 1 else 0),H,I.tok _,⟨_,rfl⟩,q⟩
end
end L2
namespace L2
open PySem PySem.Spec PyProof.Rows
structure Bj (h:Heap) (x dx C:Addr) (mA:Str→Option Value):Prop where
  obj:h.get? x=some (PySem.W.instObj C dx)
  ns:h.Ns1 dx mA
  ne:dx≠x
section
variable{prog:Program}{w:World}{A:Around}{E:Value→Shared→Prop}{s:Shared}{K:PySem.W.Frag}{x dx C f:Addr}{mA:Str→Option Value}{name:Str}{v:Value}
end
section
variable{P:Program}{w:World}{H H':Hp}{h h':Heap}{a C dx:Addr}{fs fs':List (Str × V)}
end
structure Bf (K:PySem.W.Frag) (C:Addr):Prop where
  pg:PySem.W.plainGet K C Str.empty=true
  hd:PySem.W.hasDictIn K C=true
  po:PySem.W.plainOver K C=true
  sa:PySem.W.findIn K (.ref C) "__setattr__"=some (some (.builtin "object.__setattr__"))
structure BA (K:PySem.W.Frag) (C:Addr) (f:Str) (v:V) (u:Value):Prop where
  at_:PySem.W.findIn K (.ref C) f=some (some u)
  rel:a' v u
  get:PySem.W.specialIn K u "__get__"=some none
  cp:PySem.W.copiedNames.contains f=false
structure Bi (K:PySem.W.Frag) (C:Addr) (m:Str) (f:Addr):Prop where
  at_:PySem.W.findIn K (.ref C) m=some (some (.ref f))
  fn:PySem.W.isFn K (.ref f)=true
  kp:PySem.W.keepIn K (.ref f)=true
section
variable{X:Cx}{pins:List (Addr × Obj)}{σ:St}{H:Hp}{s:Shared}{a C dx:Addr}{fs:List (Str × V)}{f:Str}{v:V}{A:Around}{E:Value→Shared→Prop}
end
section
variable{X:Cx}{o e value:Expr}{f:Str}{pos pos' tpos:Pos}{ta tv:TE}
end
section
variable{X:Cx}{pins:List (Addr × Obj)}{σ:St}{H:Hp}{s:Shared}{A:Around}{E:Value→Shared→Prop}{Q:Value→Shared→Prop}{c:Value}{b:Bool}
inductive iY (K:PySem.W.Frag) (H:Hp):V→Value→Prop where
  | non:iY K H .non (.type "NoneType")
  | bl (x:Bool):iY K H (.bl x) (.type "bool")
  | int (i:Int):iY K H (.int i) (.type "int")
  | str (x:Str):iY K H (.str x) (.type "str")
  | flt (x:UInt64):iY K H (.flt x) (.type "float")
  | lst {a:Addr} {xs:List V} (e:H a=some (.lst xs)):iY K H (.ref a) (.type "list")
  | frz {a:Addr} {o:Obj} {xs:List V} (e:H a=some (.frz o (.lst xs))):iY K H (.ref a) (.type "list")
  | tup {a:Addr} {xs:List V} (e:H a=some (.tup xs)):iY K H (.ref a) (.type "tuple")
  | dK {a:Addr} {kvs:List (ey × V)} (e:H a=some (.dK kvs)):iY K H (.ref a) (.type "dict")
  | dT {a:Addr} {kvs:List (List ey × V)} (e:H a=some (.dT kvs)):iY K H (.ref a) (.type "dict")
  | ins {a C dx:Addr} {fs:List (Str × V)} (e:H a=some (.ins C dx fs)) (cl:Bf K C) (ha:PySem.W.findIn K (.ref C) "__class__"=some (some (.builtin "object.__class__")))
      (hn:PySem.W.specialIn K (.builtin "object.__class__") "__get__"=some (some (.builtin "getset_descriptor.__get__"))) (htk:PySem.W.takesIn K (.builtin "object.__class__")=some true)
      (hm:PySem.W.mroIn K C (.type "object")=some true):iY K H (.ref a) (.ref C)
end
end L2
namespace L2
open PySem PySem.Spec PyProof.Rows
structure cc (k:Nat) (A:Around):Prop where
  hd:A.handled=none
  dp:A.depth+3*k+5 < recursionLimit
  un:A.units+16*k+200 < cLine
  gd:A.guards=some []
theorem cc.mono{j k:Nat}{A:Around}(r:cc k A)(h:j≤k):cc j A:=⟨r.hd,by have:=r.dp;lia,by have:=r.un;lia,r.gd⟩
theorem cc.deeper{k:Nat}{A:Around}(r:cc (k+1) A)(env:Env):cc k (A.deeper env):=
  ⟨r.hd,by have:=r.dp;show A.depth+1+3*k+5 < _;lia,by have:=r.un;show A.units+3+16*k+200 < _;lia,r.gd⟩
theorem cc.depth{k:Nat}{A:Around}(r:cc k A):A.depth < recursionLimit:=by have:=r.dp;lia
theorem cc.units{k:Nat}{A:Around}(r:cc k A):A.units+64 < cLine:=by have:=r.un;lia
theorem cc.units0{k:Nat}{A:Around}(r:cc k A):A.units < cLine:=by have:=r.un;lia
def xu:TA:=fun _ H Q=>Q [] H
def mB(ta:TE)(tr:TA):TA:=fun σ H Q=>ta σ H fun x H1=>tr σ H1 fun xs H2=>Q (x::xs) H2
section
variable{X:Cx}{e:Expr}{es:List Expr}{te:TE}{t:TA}{pos:Pos}
theorem qN:PA X [] xu:=fun _ _ _ _ H Q I h=>Calls.spliced_nil ⟨[],H,I,.nil,h⟩
theorem k7(ha:PE X e te)(hr:PA X es t)(hs:starEach (e::es) X.env=(false,eval e X.env)::starEach es X.env:=by rfl):PA X (e::es) (mB te t):=by
  intro pos pins s σ H Q I h
  rw [hs]
  show wpAny _ _ (spliced ((false,eval e X.env)::backTo pos (starEach es X.env))) _ _ s
  refine Calls.spliced_cons (bF (ha pins s σ H _ I h) fun u s1 ⟨x,H1,I1,r1,q1⟩=>?_)
  exact bF (hr pos pins s1 σ H1 _ I1 q1) fun us s2 ⟨xs,H2,I2,r2,q2⟩=>⟨x::xs,H2,I2,.cons r1 r2,q2⟩
def zB(t:TA):TE:=fun σ H Q=>t σ H fun xs H1=>xs.length≤sizeLine∧∀p,H1 p=none→Q (.ref p) (a8 H1 p (.tup xs))
def AM(t:TA):TE:=fun σ H Q=>t σ H fun xs H1=>xs.length≤sizeLine∧∀p,H1 p=none→Q (.ref p) (a8 H1 p (.lst xs))
theorem wD{x1}(h:PA X es t):PE X (.Tuple es x1 pos) (zB t):=by
  intro pins s σ H Q I hq
  refine wpAny_Tuple_spliced (bF (h pos pins s σ H _ I hq) fun us s1 ⟨xs,H1,I1,r,z,q⟩=>⟨by rw [←r.length];exact z,?_⟩)
  have hf:H1 s1.heap.objs.size=none:=I1.hok.fresh (Nat.le_refl _)
  refine⟨.ref s1.heap.objs.size,a8 H1 s1.heap.objs.size (.tup xs),I1.laid (t':=s1.toks) (fun b u e=>Heap.get?_push_of_some _ e) (Nat.le_refl _) ?_,rfl,q _ hf⟩
  exact⟨z,us,r,⟨_,Heap.get?_push_size _ rfl,rfl,_,rfl,rfl⟩⟩
theorem wy(h:PA X es t):PE X (.List es pos) (AM t):=by
  intro pins s σ H Q I hq
  refine wpAny_List_spliced (bF (h pos pins s σ H _ I hq) fun us s1 ⟨xs,H1,I1,r,z,q⟩=>⟨by rw [←r.length];exact z,?_⟩)
  have hf:H1 s1.heap.objs.size=none:=I1.hok.fresh (Nat.le_refl _)
  refine⟨.ref s1.heap.objs.size,a8 H1 s1.heap.objs.size (.lst xs),I1.laid (t':=s1.toks) (fun b u e=>Heap.get?_push_of_some _ e) (Nat.le_refl _) ?_,rfl,q _ hf⟩
  exact⟨z,us,0,r,Heap.get?_push_size _ rfl⟩
end
abbrev Sp:=List V→Hp→VK→XK→Prop
abbrev oK:=List Env→Hp→Shared→XK→Value→Shared→Prop
structure sd (P:Program) (w:World) (K:PySem.W.Frag) (mg:Str→Option Value) (base:Heap) (A:Around) (outer:List Env) (s:Shared) (H:Hp):Prop where
  frames:A.frames=some outer
  mod:Mod K mg base
  bs:∀b o,base.get? b=some o→s.heap.get? b=some o∧H b=none
  bsz:base.objs.size≤s.heap.objs.size
  funs:s.heap.FunFrames base outer
  frf:∀b∈p9 outer,H b=none
  hok:iy P w H s.heap
  bare:AllBare s.gens
def CE(outer:List Env)(P:Program)(w:World)(H:Hp)(s:Shared)(Q:VK)(u:Value)(s':Shared):Prop:=
  ∃v H',s'.os=s.os∧AllBare s'.gens∧Un (p9 outer) [] H H' s.heap s'.heap∧iy P w H' s'.heap∧a' v u∧Q v H'
def CR(CX:oK)(outer:List Env)(P:Program)(w:World)(H:Hp)(s:Shared)(Q:VK)(E:XK)(r:Result)(s':Shared):Prop:=
  match r with
  | .ok (.ret u)=>CE outer P w H s Q u s'
  | .ok _=>False
  | .error e=>CX outer H s E e s'
structure aK (P:Program) (w:World) (K:PySem.W.Frag) (mg:Str→Option Value) (base:Heap) (CX:oK) (k:Nat) (f:Addr) (fd:FuncData) (ps:List Str) (sp:Sp):Prop where
  len:∀vs H Q E,sp vs H Q E→vs.length=ps.length
  run:∀(A:Around) (outer:List Env) (s:Shared) (H:Hp) (args:Args) (us:List Value) (vs:List V) (Q:VK) (E:XK),cc k A→sd P w K mg base A outer s H→BindsTo s fd args (ps.zip us)→aB vs us→sp vs H Q E→
    codeAny (model P w) A (.call (.ref f) args) (CR CX outer P w H s Q E) s
section
variable{X:Cx}{pins:List (Addr × Obj)}{σ:St}{H:Hp}{s s':Shared}
theorem aw.env0(I:aw X pins σ H s):sd X.prog X.w X.K X.mg X.base X.A X.stack s H:=
  ⟨I.ok.frames,I.ok.mod,I.bs,Nat.le_trans I.ok.bsz I.sz,I.stack,I.stkFree,I.hok,I.bare⟩
theorem aw.after{Q:VK}{u:Value}(I:aw X pins σ H s)(h:CE X.stack X.prog X.w H s Q u s'):EP X pins σ Q u s':=by
  obtain⟨v,H',os,bare,un,hok,r,q⟩:=h
  obtain⟨hh,g,d,t,os'⟩:=s'
  obtain rfl:os'=s.os:=os
  exact⟨v,H',I.call (h':=hh) (g':=g) (d':=d) (t':=t) (ch:=[]) un hok bare (fun b z=>absurd z (by simp)),r,q⟩
end
def rQ(sp:Sp)(dvs:List V)(E:XK)(t:TA):TE:=fun σ H Q=>t σ H fun vs H1=>sp (vs++dvs) H1 Q E
def jK(K:PySem.W.Frag)(fd:FuncData)(ps:List Str)(ds:List Value):Prop:=
  ∀(s:Shared) (us:List Value),K.In s.heap→(us++ds).length=ps.length→BindsTo s fd ⟨us,[]⟩ (ps.zip (us++ds))
theorem jK.all{K:PySem.W.Frag}{fd:FuncData}{ps:List Str}(h:∀us:List Value,us.length=ps.length→bindArgs fd ⟨us,[]⟩=pure (ps.zip us)):jK K fd ps []:=fun s us _ hl=>by
  rw [List.append_nil] at hl ⊢
  exact .of_eq (h us hl)
def mO(CX:oK)(X:Cx)(E:XK):Prop:=∀(pins:List (Addr × Obj)) (σ:St) (H:Hp) (s:Shared) (e:Value) (s':Shared),aw X pins σ H s→CX X.stack H s E e s'→X.xe e s'
section
variable{X:Cx}{CX:oK}{k:Nat}{f C:Addr}{fd:FuncData}{ps:List Str}{sp:Sp}{dvs:List V}{ds:List Value}{E:XK}{x m:Str}{p pos apos:Pos}{e o:Expr}{es:List Expr}{ta:TE}{t:TA}
theorem xj{pins:List (Addr × Obj)}{σ:St}{H:Hp}{s:Shared}{Q:VK}{us:List Value}{vs:List V}(F:aK X.prog X.w X.K X.mg X.base CX k f fd ps sp)(hr:cc k X.A)(hb:jK X.K fd ps ds)(hd:aB dvs ds)(hx:mO CX X E)
    (I:aw X pins σ H s)(r:aB vs us)(h:sp (vs++dvs) H Q E):wpAny (model X.prog X.w) X.A (call (.ref f) us) (EP X pins σ Q) X.xe s:=by
  have r2:aB (vs++dvs) (us++ds):=r.append hd
  have hl:(us++ds).length=ps.length:=by rw [←r2.length];exact F.len _ _ _ _ h
  refine wpAny_call (codeAny_mono (F.run X.A X.stack s H ⟨us,[]⟩ (us++ds) (vs++dvs) Q E hr I.env0 (hb s us I.kIn hl) r2 h) fun r s' hq=>?_)
  cases r with
  | error e=>exact hx pins σ H s e s' I hq
  | ok fl=>
    cases fl with
    | ret u=>exact I.after hq
    | next=>exact False.elim hq
    | brk=>exact False.elim hq
    | cont=>exact False.elim hq
theorem tJ(F:aK X.prog X.w X.K X.mg X.base CX k f fd ps sp)(hr:cc k X.A)(hg:Gl X x)(hm:X.mg x=some (.ref f))(hk:PySem.W.keepIn X.K (.ref f)=true)(hb:jK X.K fd ps ds)(hd:aB dvs ds)(hx:mO CX X E)
    (ha:PA X (e::es) t)(hdb:(x==("__debug__":Str))=false:=by decide)(he:starEach (e::es) X.env=(false,eval e X.env)::starEach es X.env:=by rfl)(hpl:(backTo pos (starEach es X.env)).any (·.1)=false:=by rfl):
    PE X (.Call (.Name x p) (e::es) [] pos) (rQ sp dvs E t):=by
  intro pins s σ H Q I h
  refine wpAny_Call_Name_kw (sO I hg hm ?_ hdb)
  refine PySem.W.callWith_K (h₀:=X.base) I.ok.mod.kin hk (bF (ha pos pins s σ H _ I h) fun us s1 ⟨vs,H1,I1,r,q⟩=>⟨I1.kIn,?_⟩) he hpl
  exact xj F hr hb hd hx I1 r q
structure Mk (K:PySem.W.Frag) (C f:Addr):Prop where
  makes:PySem.W.makesIn K C=true
  init:PySem.W.findIn K (.ref C) "__init__"=some (some (.ref f))
  fn:PySem.W.isFn K (.ref f)=true
  kp:PySem.W.keepIn K (.ref C)=true
end
section
variable{X:Cx}{CX:oK}{k:Nat}{f C:Addr}{fd:FuncData}{ps ks:List Str}{sp:Sp}{E:XK}{x m:Str}{p pos apos kpos:Pos}{e o:Expr}{es:List Expr}{kws:List Keyword}{te ta:TE}{t tk:TA}{nm:Option Str}
structure z8 (K:PySem.W.Frag) (fd:FuncData) (ps ks:List Str) (g:List Value→List Value→List Value) (gV:List V→List V→List V):Prop where
  to:∀(s:Shared) (us ws:List Value),K.In s.heap→(g us ws).length=ps.length→BindsTo s fd ⟨us,ks.zip ws⟩ (ps.zip (g us ws))
  rel:∀{vs:List V} {us:List Value} {zs:List V} {ws:List Value},aB vs us→aB zs ws→aB (gV vs zs) (g us ws)
variable{g:List Value→List Value→List Value}{gV:List V→List V→List V}
end
structure aJ (N P:List Str) (sc:Scope):Prop where
  kind:sc.kind=.function
  co:sc.isCoroutine=false
  gen:sc.isGenerator=false
  nd:N.Nodup
  pre:N.take P.length=P
  par:∀x∈P,sc.names.lookup x=some .local∨sc.names.lookup x=some .cell
  nofree:∀y∈sc.names,y.2≠.free
theorem jP{kindOf:Str→Option NameKind}{x:Str}:∀{binds:List (Str × Value)} {m:Str→Option Value},(∀v,(x,v)∉binds)→bindL kindOf binds m x=m x
  | [],_,_=>rfl
  | (n,v)::r,m,h=>by
    unfold bindL
    rw [jP fun w hw=>h w (List.mem_cons_of_mem _ hw)]
    split
    · have:x≠n:=by rintro rfl;exact h v List.mem_cons_self
      simp [this]
    · rfl
theorem jN{kindOf:Str→Option NameKind}{x:Str}:∀{binds:List (Str × Value)} {m:Str→Option Value},(∀v,(x,v)∉binds)→bindC kindOf binds m x=m x
  | [],_,_=>rfl
  | (n,v)::r,m,h=>by
    unfold bindC
    rw [jN fun w hw=>h w (List.mem_cons_of_mem _ hw)]
    split
    · rfl
    · have:x≠n:=by rintro rfl;exact h v List.mem_cons_self
      simp [this]
theorem jO{kindOf:Str→Option NameKind}{x:Str}{v:Value}:∀{P:List Str} {vs:List Value} {i:Nat} {m:Str→Option Value},P.Nodup→P[i]?=some x→vs[i]?=some v→kindOf x=some .local→
    bindL kindOf (P.zip vs) m x=some v
  | [],_,_,_,_,h,_,_=>by simp at h
  | _::_,[],_,_,_,_,h,_=>by simp at h
  | p::P,w::vs,0,m,nd,h1,h2,hk=>by
    simp at h1 h2;subst h1;subst h2
    show bindL kindOf ((p,w)::P.zip vs) m p=_
    unfold bindL
    rw [jP fun v hv=>(List.nodup_cons.mp nd).1 (List.of_mem_zip hv).1,if_pos hk]
    simp
  | p::P,w::vs,i+1,m,nd,h1,h2,hk=>by
    show bindL kindOf ((p,w)::P.zip vs) m x=_
    unfold bindL
    exact jO (i:=i) (List.nodup_cons.mp nd).2 (by simpa using h1) (by simpa using h2) hk
theorem jM{kindOf:Str→Option NameKind}{x:Str}{v:Value}:∀{P:List Str} {vs:List Value} {i:Nat} {m:Str→Option Value},P.Nodup→P[i]?=some x→vs[i]?=some v→kindOf x≠some .local→
    bindC kindOf (P.zip vs) m x=some v
  | [],_,_,_,_,h,_,_=>by simp at h
  | _::_,[],_,_,_,_,h,_=>by simp at h
  | p::P,w::vs,0,m,nd,h1,h2,hk=>by
    simp at h1 h2;subst h1;subst h2
    show bindC kindOf ((p,w)::P.zip vs) m p=_
    unfold bindC
    rw [jN fun v hv=>(List.nodup_cons.mp nd).1 (List.of_mem_zip hv).1,if_neg hk]
    simp
  | p::P,w::vs,i+1,m,nd,h1,h2,hk=>by
    show bindC kindOf ((p,w)::P.zip vs) m x=_
    unfold bindC
    exact jM (i:=i) (List.nodup_cons.mp nd).2 (by simpa using h1) (by simpa using h2) hk
def dW(N:List Str)(vs:List V):St:=vs.map some++List.replicate (N.length - vs.length) none
def mU(CX:oK)(P:Program)(w:World)(K:PySem.W.Frag)(mg:Str→Option Value)(base:Heap)(N:List Str)(qual:Str)(scope:Scope)(f:Addr)(cd:Value)(A:Around)(outer:List Env)(s:Shared)(H:Hp)(E:XK):Cx where
  prog:=P
  w:=w
  K:=K
  mg:=mg
  base:=base
  A:=A.deeper (envOfC qual scope s.heap.objs.size f cd)
  N:=N
  s₀:=s
  H₀:=H
  env:=envOfC qual scope s.heap.objs.size f cd
  outer:=outer
  stack:=envOfC qual scope s.heap.objs.size f cd::outer
  ex:=[]
  calm:=true
  fn:=fun _=>true
  pn:=[]
  xe:=fun e s'=>wpAny (model P w) (A.deeper (envOfC qual scope s.heap.objs.size f cd)) (leaving (envOfC qual scope s.heap.objs.size f cd) e) (fun _ s''=>CX outer H s E e s'') (fun e' s''=>CX outer H s E e' s'') s'
theorem lz{sc:Scope}{n:Nat}{x:Str}(h:sc.names.lookup x=some .cell):∃c,(cellsFrom n sc.names []).lookup x=some c:=by
  have q:=PySem.W.cellsFrom_some sc.names n [] (.inl h)
  exact Option.isSome_iff_exists.mp q
theorem oW{CX:oK}{P:Program}{w:World}{K:PySem.W.Frag}{mg:Str→Option Value}{base:Heap}{N ps:List Str}{qual:Str}{scope:Scope}{f:Addr}{cd:Value}{A:Around}{outer:List Env}{s s1:Shared}{H:Hp}{E:XK}{us:List Value}{vs:List V}
    (S:aJ N ps scope)(hd:A.handled=none)(e0:sd P w K mg base A outer s H)(hl:vs.length=ps.length)(r:aB vs us)
    (x:InCallC s s.heap.objs.size (bindL (envOfC qual scope s.heap.objs.size f cd).kindOf (ps.zip us) fun _=>none) (cellsFrom (s.heap.objs.size+1) scope.names []) (bindC (envOfC qual scope s.heap.objs.size f cd).kindOf (ps.zip us) fun _=>none) s1):
    aw (mU CX P w K mg base N qual scope f cd A outer s H E) [] (dW N vs) H s1:=by
  have hpl:ps.length≤N.length:=by have:=congrArg List.length S.pre;rw [List.length_take] at this;lia
  obtain⟨h1,tk,rfl,hk⟩:=x.done
  have noA:∀b:Addr,b∉(mU CX P w K mg base N qual scope f cd A outer s H E).ex:=fun b z=>absurd (show b∈([]:List Addr) from z) (by simp)
  refine⟨⟨e0.mod,S.kind,rfl,rfl,Nat.le_refl _,fun y z c h1 h2=>?_,fun y hy=>?_,fun y c _ h=>?_,fun _=>hd,Around.frames_deeper e0.frames,.inr ⟨rfl,rfl⟩,fun b z=>absurd z (noA b),e0.bs,e0.bsz,fun b _ _=>noA b,fun b z=>absurd z (noA b),e0.funs,e0.frf⟩,
    rfl,e0.bare,Un.kept hk,⟨_,x.toInCall.ns,fun i y v h1 h2 h3=>?_⟩,fun y c h=>⟨_,x.cell y c h⟩,e0.hok.fresh (Nat.le_refl _),fun y c h=>?_,fun p hp=>absurd (show p∈([]:List (Addr × Obj)) from hp) (by simp),e0.hok.kept hk,?_⟩
  · exact name_of_addr x.apart (PySem.mem_of_lookup h1) (PySem.mem_of_lookup h2)
  · have hy:scope.names.lookup y=some .cell∨scope.names.lookup y=some .free:=hy
    rcases hy with hy | hy
    · exact lz hy
    · exact absurd rfl (S.nofree _ (PySem.mem_of_lookup hy))
  · exact Nat.le_of_lt (x.above y c (PySem.mem_of_lookup h))
  · have hi:i < vs.length:=by
      unfold dW at h2
      by_cases hi:i < vs.length
      · exact hi
      · rw [List.getElem?_append_right (by simpa using hi)] at h2
        rw [List.getElem?_replicate] at h2
        split at h2<;>cases h2
    have ha:vs[i]?=some v:=by
      unfold dW at h2
      rw [List.getElem?_append_left (by simpa using hi),List.getElem?_map] at h2
      cases e:vs[i]? with
      | none=>rw [e] at h2;cases h2
      | some a=>rw [e] at h2;cases h2;rfl
    obtain⟨u,hu,rv⟩:=r.get ha
    have hp:ps[i]?=some y:=by
      rw [←S.pre,List.getElem?_take_of_lt (by lia)];exact h1
    have ndP:ps.Nodup:=by rw [←S.pre];exact S.nd.sublist (List.take_sublist _ _)
    refine⟨u,rv,?_⟩
    rcases S.par y (List.mem_of_getElem? hp) with k | k
    · exact .inl ⟨k,jO ndP hp hu k⟩
    · obtain⟨c,e⟩:=lz (n:=s.heap.objs.size+1) k
      refine .inr ⟨.inl k,c,e,?_⟩
      have q:=x.cell y c e
      rw [jM ndP hp hu (by show scope.names.lookup y≠_;rw [k];decide)] at q
      exact q
  · exact e0.hok.fresh (Nat.le_of_lt (x.above y c (PySem.mem_of_lookup h)))
  · unfold dW
    show _=N.length
    rw [List.length_append,List.length_map,List.length_replicate]
    lia
theorem yj{CX:oK}{P:Program}{w:World}{K:PySem.W.Frag}{mg:Str→Option Value}{base:Heap}{k:Nat}{f:Addr}{name qual:Str}{params:Arguments}{body:List Stmt}{scope:Scope}{dV kV doc pm cdv ct oc:Value}{an od:Option Addr}
    {osl:Array (Option Value)}{N ps:List Str}{sp:Sp}(lk:K.lookup f=some ⟨oc,od,.func (PySem.W.fnOf name qual params body scope dV kV doc pm an cdv ct),osl⟩)(hcd:PySem.W.codeIn K cdv qual=true)(S:aJ N ps scope)
    (len:∀vs H Q E,sp vs H Q E→vs.length=ps.length)
    (hbody:∀(A:Around) (outer:List Env) (s:Shared) (H:Hp) (vs:List V) (Q:VK) (E:XK),cc k (A.deeper (envOfC qual scope s.heap.objs.size f cdv))→sp vs H Q E→
      ∃t,iJ (mU CX P w K mg base N qual scope f cdv A outer s H E) body t∧t {nx:=fun _ H'=>Q .non H',rt:=Q} (dW N vs) H):
    aK P w K mg base CX (k+1) f (PySem.W.fnOf name qual params body scope dV kV doc pm an cdv ct) ps sp:=by
  refine⟨len,fun A outer s H args us vs Q E hr e0 hb r hsp=>?_⟩
  have hl:=len _ _ _ _ hsp
  have KX:K.In s.heap:=e0.mod.kin.keeps fun b o e=>(e0.bs b o e).1
  have lim:s.heap.NoLimit:=e0.mod.nolimit.keeps fun b o e=>(e0.bs b o e).1
  have hkind:∀y∈ps.zip us,scope.names.lookup y.1=some .local∨(scope.names.lookup y.1=some .cell∧((cellsFrom (s.heap.objs.size+1) scope.names []).lookup y.1).isSome=true):=fun⟨n,v⟩ hy=>by
    rcases S.par n (List.of_mem_zip hy).1 with q | q
    · exact .inl q
    · exact .inr ⟨q,PySem.W.cellsFrom_some _ _ _ (.inl q)⟩
  refine codeAny_call_function hr.depth (KX _ _ lk) rfl S.co S.gen rfl (PySem.W.codeRec_of KX hcd) (hb _ _ _ _ ?_)
  refine wpAny_newFunctionEnv_cells S.kind hkind fun env he s1 x=>?_
  subst he
  refine⟨lim.keeps x.toInCall.keep,codeAny_func ?_⟩
  obtain⟨t,ht,hq⟩:=hbody A outer s H vs Q E (hr.deeper _) hsp
  have I:aw (mU CX P w K mg base N qual scope f cdv A outer s H E) [] (dW N vs) H s1:=oW S hr.hd e0 hl r x
  refine wpAny_mono (ht [] s1 (dW N vs) H _ I hq) (fun fl s' hs=>?_) fun e s' hs=>hs
  have fin:∀{σ':St} {H':Hp} {v:V} {u:Value},aw (mU CX P w K mg base N qual scope f cdv A outer s H E) [] σ' H' s'→a' v u→Q v H'→CE outer P w H s Q u s':=
    fun{σ' H' v u} J rv q=>⟨v,H',J.os,J.bare,J.base,J.hok,rv,q⟩
  cases fl with
  | ret u=>
    obtain⟨v,σ',H',J,rv,q⟩:=hs
    exact fin J rv q
  | next=>
    obtain⟨σ',H',J,q⟩:=hs
    exact fin (v:=V.non) (u:=Value.none) J rfl q
  | brk=>
    obtain⟨_,_,_,q⟩:=hs
    exact False.elim q
  | cont=>
    obtain⟨_,_,_,q⟩:=hs
    exact False.elim q
end L2
namespace L2
open PySem PySem.Spec PyProof.Rows
section
variable{X:Cx}{x:Str}{p pos:Pos}{e:Expr}{es:List Expr}{t:TA}{id T:String}{r:List V→Hp→VK→Prop}
def AI(r:List V→Hp→VK→Prop)(t:TA):TE:=fun σ H Q=>t σ H fun vs H1=>r vs H1 Q
theorem l8(hc:dN X (.builtin id) r)(hg:Gl X x)(hm:X.mg x=none)(hv:bootBuiltins x=some (.builtin id))(ha:PA X (e::es) t)(hn:x≠"__name__":=by decide)(hdb:(x==("__debug__":Str))=false:=by decide)
    (he:starEach (e::es) X.env=(false,eval e X.env)::starEach es X.env:=by rfl)(hpl:(backTo pos (starEach es X.env)).any (·.1)=false:=by rfl):PE X (.Call (.Name x p) (e::es) [] pos) (AI r t):=by
  intro pins s σ H Q I h
  refine wpAny_Call_Name_kw (ij I hg hm hv ?_ hn hdb)
  exact PyProof.Rows.callWith_builtin1 (bF (ha pos pins s σ H _ I h) fun us s1 ⟨vs,H1,I1,r1,q1⟩=>hc pins s1 σ H1 vs us Q I1 r1 q1) he hpl
theorem ph(hc:dN X (.type T) r)(hg:Gl X x)(hm:X.mg x=none)(hv:bootBuiltins x=some (.type T))(ha:PA X (e::es) t)(hn:x≠"__name__":=by decide)(hdb:(x==("__debug__":Str))=false:=by decide)
    (he:starEach (e::es) X.env=(false,eval e X.env)::starEach es X.env:=by rfl)(hpl:(backTo pos (starEach es X.env)).any (·.1)=false:=by rfl):PE X (.Call (.Name x p) (e::es) [] pos) (AI r t):=by
  intro pins s σ H Q I h
  refine wpAny_Call_Name_kw (ij I hg hm hv ?_ hn hdb)
  exact PyProof.Rows.callWith_type1 (bF (ha pos pins s σ H _ I h) fun us s1 ⟨vs,H1,I1,r1,q1⟩=>hc pins s1 σ H1 vs us Q I1 r1 q1) he hpl
end
end L2
namespace HT
open PySem PyProof.Rows
section
open PySem.SeqAt
open PySem.AutoSeq1 (wpAny_loadPart')
open PySem.MeetsSeq PySem.MeetsSeq2 PySem.MeetsSeq3
end
section
variable{prog:Program}{w:World}{A:Around}{E:Value→Shared→Prop}{s:Shared}
theorem cat_tup{t b:Addr}{vs ws:List Value}{Q:Value→Shared→Prop}(ht:IsTup s.heap t vs.toArray)(hb:IsTup s.heap b ws.toArray)(hv:vs≠[])
    (h1:ws=[]→Q (.ref t) s)(h2:ws≠[]→Q (.ref s.heap.objs.size) {s with heap:=s.heap.push {cls:=.type "tuple",data:=.seq (vs++ws).toArray}})
    (hsz:vs.length+ws.length≤sizeLine):wpAny (model prog w) A (binaryOp .Add (.ref t) (.ref b)) Q E s:=by
  obtain⟨⟨cls,dd,data,sl⟩,ho,hc,n,hd⟩:=id ht
  obtain⟨⟨cls2,dd2,data2,sl2⟩,ho2,hc2,n2,hd2⟩:=id hb
  simp only at hc hd hc2 hd2
  subst hc hd hc2 hd2
  have e:vs.toArray++ws.toArray=(vs++ws).toArray:=by simp
  by_cases hw:ws=[]
  · exact concat_meets ⟨_,ho,rfl⟩ ⟨_,ho2,rfl⟩ noFill_tuple_add seq_tuple_add PySem.F.slot_tuple_add PySem.F.entry_tuple_add (PySem.F.args_tuple_add_2 _ _)
      (tuple_addW1 t b vs.toArray ws.toArray n n2 dd dd2 sl sl2 (by simpa using hv) (by simp [hw])) ⟨ho,ho2,h1 hw⟩
  · refine concat_meets ⟨_,ho,rfl⟩ ⟨_,ho2,rfl⟩ noFill_tuple_add seq_tuple_add PySem.F.slot_tuple_add PySem.F.entry_tuple_add (PySem.F.args_tuple_add_2 _ _)
      (tuple_addW2 t b vs.toArray ws.toArray n n2 dd dd2 sl sl2 (by simpa using hv) (by simpa using hw) (by rw [List.size_toArray,List.size_toArray];exact hsz)) ⟨ho,ho2,?_⟩
    rw [e]
    exact h2 hw
def sIx(n d:Nat):Option Int→Nat
  | none=>d
  | some v=>if v < 0 then(v+(n:Int)).toNat else min v.toNat n
theorem xk(n d:Nat)(hd:d≤n)(o:Option Int):sIx n d o≤n:=by
  cases o with
  | none=>exact hd
  | some v=>
    show(if v < 0 then(v+(n:Int)).toNat else min v.toNat n)≤n
    by_cases hv:v < 0
    · rw [if_pos hv];lia
    · rw [if_neg hv];exact Nat.min_le_right _ _
theorem nV(v:Int)(n d:Nat):(if v < 0 then max (v+(n:Int)) 0 else min v (n:Int))=((sIx n d (some v):Nat):Int):=by
  show(if v < 0 then max (v+(n:Int)) 0 else min v (n:Int))=(((if v < 0 then(v+(n:Int)).toNat else min v.toNat n):Nat):Int)
  by_cases hv:v < 0
  · simp only [if_pos hv];lia
  · simp only [if_neg hv];lia
theorem mP(lo hi:Option Int)(n:Nat):Builtin.Slice.sliceAdjust lo hi 1 (n:Int)=(((sIx n 0 lo:Nat):Int),((sIx n n hi:Nat):Int)):=by
  have h1:¬((1:Int) < 0):=by lia
  unfold Builtin.Slice.sliceAdjust
  simp only [h1,if_false]
  refine Prod.ext ?_ ?_
  · cases lo with
    | none=>rfl
    | some v=>exact nV v n 0
  · cases hi with
    | none=>rfl
    | some v=>exact nV v n n
theorem nq(i j:Nat):Builtin.Slice.slicePlaces (i:Int) (j:Int) 1=j - i:=by
  unfold Builtin.Slice.slicePlaces
  have h1:(1:Int) > 0:=by lia
  simp only [h1,if_true,Int.ediv_one]
  split<;>lia
theorem slicePart_{v:Value}{o:Option Int}{Q:Option Int→Shared→Prop}(p:IsPart v o)(h:Q o s):wpAny (model prog w) A (Builtin.Slice.slicePartIndex v) Q E s:=by
  cases p with
  | none=>exact slicePart_none h
  | int i t=>exact slicePart_int h
theorem eu{sl:Addr}{vl vu:Value}{lo hi:Option Int}{n:Nat}{Q:Int × Int × Nat→Shared→Prop}(hs:s.heap.IsSliceOf sl vl vu .none)(pl:IsPart vl lo)(pu:IsPart vu hi)
    (h:Q (((sIx n 0 lo:Nat):Int),1,sIx n n hi - sIx n 0 lo) s):wpAny (model prog w) A (Builtin.Slice.sliceApplied (.ref sl) (pure (n:Int))) Q E s:=by
  obtain⟨os,hos,hcs,hds⟩:=id hs
  unfold Builtin.Slice.sliceApplied Builtin.Slice.sliceFields
  refine wpAny_bind (wpAny_bind (wpAny_field hos hds (x:=vl) rfl (wpAny_bind (wpAny_field hos hds (x:=vu) rfl (wpAny_bind (wpAny_field hos hds (x:=.none) rfl (wpAny_pure ?_)))))))
  refine wpAny_bind (slicePart_none ?_)
  show wpAny _ _ (if ((1:Int)==0)=true then _ else _) _ _ s
  rw [if_neg (by decide)]
  refine wpAny_bind (slicePart_ pl (wpAny_bind (slicePart_ pu (wpAny_bind (wpAny_pure ?_)))))
  show wpAny _ _ (match Builtin.Slice.sliceAdjust lo hi 1 (n:Int) with | (lo,hi)=>pure (lo,(1:Int),Builtin.Slice.slicePlaces lo hi 1)) _ _ s
  rw [mP lo hi n]
  show wpAny _ _ (pure (((sIx n 0 lo:Nat):Int),(1:Int),Builtin.Slice.slicePlaces ((sIx n 0 lo:Nat):Int) ((sIx n n hi:Nat):Int) 1)) _ _ s
  rw [nq]
  exact wpAny_pure h
theorem qW(xs:Array Value)(i k:Nat):((List.range k).filterMap fun(m:Nat)=>xs[((i:Int)+(m:Int)*1).toNat]?).toArray=((xs.toList.drop i).take k).toArray:=by
  have e:(fun(m:Nat)=>xs[((i:Int)+(m:Int)*1).toNat]?)=fun m=>xs[i+m]?:=by
    funext m
    have:((i:Int)+(m:Int)*1).toNat=i+m:=by lia
    rw [this]
  rw [e]
  have:=pick_run xs i k
  rw [List.filterMap_map] at this
  have e2:((fun x=>xs[x]?) ∘ fun x=>i+x)=fun m=>xs[i+m]?:=rfl
  rw [e2] at this
  rw [this]
theorem getItem_tuple_cut{t sl:Addr}{items:Array Value}{vl vu:Value}{lo hi:Option Int}{Q:Value→Shared→Prop}(ht:IsTup s.heap t items)(hs:s.heap.IsSliceOf sl vl vu .none)(pl:IsPart vl lo)(pu:IsPart vu hi)
    (hw:¬(sIx items.size 0 lo=0∧sIx items.size items.size hi=items.size))
    (h:Q (.ref s.heap.objs.size) {s with heap:=s.heap.push {cls:=.type "tuple",data:=.seq ((items.toList.drop (sIx items.size 0 lo)).take (sIx items.size items.size hi - sIx items.size 0 lo)).toArray}})
    (hsz:items.size≤sizeLine):wpAny (model prog w) A (getItem (.ref t) (.ref sl)) Q E s:=by
  have htake:sizeOk (.seq ((items.toList.drop (sIx items.size 0 lo)).take (sIx items.size items.size hi - sIx items.size 0 lo)).toArray):=by
    show((items.toList.drop (sIx items.size 0 lo)).take (sIx items.size items.size hi - sIx items.size 0 lo)).toArray.size≤sizeLine
    rw [List.size_toArray,List.length_take,List.length_drop,Array.length_toList]
    lia
  have hj:sIx items.size items.size hi≤items.size:=xk _ _ (Nat.le_refl _) hi
  obtain⟨os,hos,hcs,hds⟩:=id hs
  have hTs:s.TypeIs (.ref sl) "slice":=⟨os,hos,hcs⟩
  unfold getItem
  try with_reducible refine wpAny_holding ?_
  first | refine wpAny_bind (wpAny_pure ?_) | skip
  refine wpAny_bind (wpAny_sequenceKey ht.typeIs (by decide) ?_)
  refine wpAny_bind (wpAny_callSpecial?_slot (name:=Str.ofString "__getitem__") ht.typeIs PyProof.Rows.slot_tuple_getitem
    (wpAny_call_entry PyProof.Rows.slot_tuple_getitem ht.typeIs entry_tuple_getitem ?_ (args_tuple_getitem _ _)))
  show wpAny _ _ (Builtin.Tuple.tupleItemsOf (.ref t) >>= _) _ _ s
  refine wpAny_bind (tupleItemsOf_ ht ?_)
  refine wpAny_bind (wpAny_typeOf hTs ?_)
  rw [if_pos (by decide)]
  refine wpAny_bind (eu hs pl pu ?_)
  have hno:¬((((sIx items.size 0 lo:Nat):Int)==0&&(1:Int)==1&&(sIx items.size items.size hi - sIx items.size 0 lo)==items.size)=true):=by
    intro q
    rw [Bool.and_eq_true,Bool.and_eq_true] at q
    have q1:((sIx items.size 0 lo:Nat):Int)=0:=eq_of_beq q.1.1
    have q2:sIx items.size items.size hi - sIx items.size 0 lo=items.size:=eq_of_beq q.2
    exact hw ⟨by lia,by lia⟩
  show wpAny _ _ (if (((sIx items.size 0 lo:Nat):Int)==0&&(1:Int)==1&&(sIx items.size items.size hi - sIx items.size 0 lo)==items.size)=true then _ else _) _ _ s
  rw [if_neg hno,qW]
  first
    | exact wpAny_bind (m:=Builtin.Tuple.tupleExact _) (wpAny_newObj_type (wpAny_pure ⟨_,rfl,wpAny_pure h⟩) htake)
    | exact wpAny_bind (m:=Builtin.Tuple.tupleExact _) (wpAny_newObj_type (wpAny_bind (wpAny_pure (wpAny_pure ⟨_,rfl,wpAny_pure h⟩))) htake)
    | exact wpAny_bind (wpAny_bind (m:=Builtin.Tuple.tupleExact _) (wpAny_newObj_type (wpAny_pure (wpAny_pure ⟨_,rfl,wpAny_pure h⟩)) htake))
    | exact wpAny_bind (wpAny_bind (m:=Builtin.Tuple.tupleExact _) (wpAny_newObj_type (wpAny_pure ⟨_,rfl,wpAny_pure h⟩) htake))
end
end HT
namespace L2
open PySem PySem.Spec PyProof.Rows
abbrev TO:=St→Hp→(Option Int→Hp→Prop)→Prop
def PO(X:Cx)(e:Option Expr)(t:TO):Prop:=
  ∀(pins:List (Addr × Obj)) (s:Shared) (σ:St) (H:Hp) (Q:Option Int→Hp→Prop),aw X pins σ H s→t σ H Q→
    wpAny (model X.prog X.w) X.A (evalPart e X.env) (fun u s'=>∃o H',aw X pins σ H' s'∧IsPart u o∧Q o H') X.xe s
def ul:TO:=fun _ H Q=>Q none H
def zz(t:TE):TO:=fun σ H Q=>t σ H fun x H1=>∃i,x=.int i∧Q (some i) H1
section
variable{X:Cx}{e:Expr}{te:TE}{lo hi:Option Expr}{tl th:TO}{pos p2:Pos}
theorem tS:PO X none ul:=by
  intro pins s σ H Q I h
  rw [evalPart_none]
  exact wpAny_pure ⟨none,H,I,.none,h⟩
theorem tT(h:PE X e te):PO X (some e) (zz te):=by
  intro pins s σ H Q I hw
  rw [evalPart_some]
  refine bF (h pins s σ H _ I hw) fun u s1 ⟨x,H1,I1,r1,q1⟩=>?_
  obtain⟨i,rfl,q⟩:=q1
  obtain⟨t,rfl⟩:=r1
  exact⟨some i,H1,I1,.int i t,q⟩
def sk(X:Cx)(r:V→Option Int→Option Int→Hp→VK→Prop):Prop:=
  ∀(pins:List (Addr × Obj)) (s:Shared) (σ:St) (H:Hp) (x:V) (v vl vu:Value) (lo hi:Option Int) (sl:Addr) (Q:VK),aw X pins σ H s→a' x v→s.heap.IsSliceOf sl vl vu .none→IsPart vl lo→IsPart vu hi→r x lo hi H Q→
    ∃T id,typeLookup (.type T) "__getitem__"=pure (some (.builtin id))∧s.TypeIs v T∧wpAny (model X.prog X.w) X.A (getItem v (.ref sl)) (EP X pins σ Q) X.xe s
theorem sk.or{r r':V→Option Int→Option Int→Hp→VK→Prop}(h:sk X r)(h':sk X r'):sk X (fun x lo hi H Q=>r x lo hi H Q∨r' x lo hi H Q):=by
  intro pins s σ H x v vl vu lo hi sl Q I rx hs pl pu q
  rcases q with q | q
  · exact h pins s σ H x v vl vu lo hi sl Q I rx hs pl pu q
  · exact h' pins s σ H x v vl vu lo hi sl Q I rx hs pl pu q
def Bx(r:V→Option Int→Option Int→Hp→VK→Prop)(te:TE)(tl th:TO):TE:=fun σ H Q=>te σ H fun x H1=>tl σ H1 fun l H2=>th σ H2 fun u H3=>r x l u H3 Q
theorem qQ{r:V→Option Int→Option Int→Hp→VK→Prop}(hr:sk X r)(he:PE X e te)(hl:PO X lo tl)(hu:PO X hi th):PE X (.Subscript e (.Slice lo hi none p2) pos) (Bx r te tl th):=by
  intro pins s σ H Q I h
  refine Subscript_ (bF (he pins s σ H _ I h) fun v s1 ⟨x,H1,I1,r1,q1⟩=>?_)
  refine wpAny_Slice (bF (hl pins s1 σ H1 _ I1 q1) fun vl s2 ⟨l,H2,I2,pl,q2⟩=>bF (hu pins s2 σ H2 _ I2 q2) fun vu s3 ⟨u,H3,I3,pu,q3⟩=>?_)
  rw [evalPart_none]
  refine wpAny_pure ?_
  have I4:aw X pins σ H3 {s3 with heap:=s3.heap.push {cls:=.type "slice",data:=.fields #[vl,vu,.none]}}:=I3.kept (t':=s3.toks) fun b ob q=>Heap.get?_push_of_some _ q
  obtain⟨T,id,hT,ht,hg⟩:=hr pins {s3 with heap:=s3.heap.push {cls:=.type "slice",data:=.fields #[vl,vu,.none]}} σ H3 x v vl vu l u s3.heap.objs.size Q I4 r1 (Heap.IsSliceOf.new ..) pl pu q3
  show wpAny (model X.prog X.w) X.A (subscriptTail e (.Slice lo hi none p2) v (.ref s3.heap.objs.size)) (EP X pins σ Q) X.xe {s3 with heap:=s3.heap.push {cls:=.type "slice",data:=.fields #[vl,vu,.none]}}
  exact tail_any (ops:=[.ref s3.heap.objs.size,v]) ht hT hg (by with_unfolding_all rfl)
def jF(xs:List V)(lo hi:Option Int):List V:=(xs.drop (HT.sIx xs.length 0 lo)).take (HT.sIx xs.length xs.length hi - HT.sIx xs.length 0 lo)
theorem iA(xs:List V)(lo hi:Option Int):(jF xs lo hi).length≤xs.length:=by
  unfold jF
  rw [List.length_take,List.length_drop]
  lia
def zg(K:PySem.W.Frag):V→Option Int→Option Int→Hp→VK→Prop:=fun x lo hi H Q=>∃a xs,x=.ref a∧dg K H a xs∧
  ¬(HT.sIx xs.length 0 lo=0∧HT.sIx xs.length xs.length hi=xs.length)∧∀p,H p=none→Q (.ref p) (a8 H p (.tup (jF xs lo hi)))
theorem xm:sk X (zg X.K):=by
  intro pins s σ H x v vl vu lo hi sl Q I rx hs pl pu h
  obtain⟨a,xs,rfl,hx,hw,q⟩:=h
  cases rx
  obtain⟨its,r,ht,hz⟩:=I.tuple hx
  have hlen:its.toArray.size=xs.length:=by rw [List.size_toArray];exact r.length.symm
  refine⟨"tuple",_,PyProof.Rows.slot_tuple_getitem.lookup,ht.typeIs,?_⟩
  refine HT.getItem_tuple_cut ht hs pl pu (by rw [hlen];exact hw) ?_ (by rw [hlen];exact hz)
  rw [hlen]
  refine⟨.ref s.heap.objs.size,_,I.laid (t':=s.toks) (o:=.tup (jF xs lo hi)) (fun b ob q=>Heap.get?_push_of_some _ q) (Nat.le_refl _) ?_,rfl,q _ (I.hok.fresh (Nat.le_refl _))⟩
  exact⟨Nat.le_trans (iA xs lo hi) hz,_,(r.drop (HT.sIx xs.length 0 lo)).take (HT.sIx xs.length xs.length hi - HT.sIx xs.length 0 lo),jD.new _ _⟩
def y6(K:PySem.W.Frag):R2:=fun x y H Q=>∃a b xs ys,x=.ref a∧y=.ref b∧dg K H a xs∧dg K H b ys∧xs≠[]∧xs.length+ys.length≤sizeLine∧
  (ys=[]→Q (.ref a) H)∧(ys≠[]→∀p,H p=none→Q (.ref p) (a8 H p (.tup (xs++ys))))
theorem aB.nil_iff{xs:List V}{us:List Value}(r:aB xs us):us=[]↔ xs=[]:=by
  cases r with
  | nil=>simp
  | cons _ _=>simp
theorem tj:dz X (binaryOp .Add) (y6 X.K):=by
  intro pins s σ H x y v u Q I rx ry h
  obtain⟨a,b,xs,ys,rfl,rfl,ha,hb,hx,hz,q1,q2⟩:=h
  cases rx
  cases ry
  obtain⟨its,r1,p1,_⟩:=I.tuple ha
  obtain⟨its2,r2,p2,_⟩:=I.tuple hb
  refine HT.cat_tup p1 p2 (fun z=>hx (r1.nil_iff.mp z)) (fun z=>⟨.ref a,H,I,rfl,q1 (r2.nil_iff.mp z)⟩) (fun z=>?_) (by rw [←r1.length,←r2.length];exact hz)
  refine⟨.ref s.heap.objs.size,_,I.laid (t':=s.toks) (o:=.tup (xs++ys)) (fun b ob q=>Heap.get?_push_of_some _ q) (Nat.le_refl _) ?_,rfl,q2 (fun w=>z (r2.nil_iff.mpr w)) _ (I.hok.fresh (Nat.le_refl _))⟩
  exact⟨by rw [List.length_append];exact hz,_,r1.append r2,jD.new _ _⟩
end
end L2
namespace L2
open PySem PySem.Spec PyProof.Rows
def qr(n:Nat)(i:Int):Option Nat:=if 0≤i then(if i < n then some i.toNat else none) else if -(n:Int)≤i then some (i+n).toNat else none
def atI{α:Type}(xs:List α)(i:Int):Option α:=(qr xs.length i).bind fun j=>xs[j]?
theorem oj{n:Nat}{i:Int}{j:Nat}(h:qr n i=some j):seqIndex? i n=some j∧j < n∧ -(n:Int)≤i∧i < n:=by
  unfold qr at h
  by_cases h0:0≤i
  · rw [if_pos h0] at h
    by_cases h1:i < n
    · rw [if_pos h1] at h
      have e:i.toNat=j:=Option.some.inj h
      exact⟨by rw [seqIndex_of h0 h1,e],by lia,by lia,h1⟩
    · rw [if_neg h1] at h;cases h
  · rw [if_neg h0] at h
    by_cases h1: -(n:Int)≤i
    · rw [if_pos h1] at h
      have e:(i+n).toNat=j:=Option.some.inj h
      exact⟨by rw [seqIndex_neg (by lia) h1,e],by lia,h1,by lia⟩
    · rw [if_neg h1] at h;cases h
theorem nM{α:Type}{xs:List α}{i:Int}{v:α}(h:atI xs i=some v):∃j,seqIndex? i xs.length=some j∧xs[j]?=some v∧j < xs.length∧ -(xs.length:Int)≤i∧i < xs.length:=by
  unfold atI at h
  cases e:qr xs.length i with
  | none=>rw [e] at h;cases h
  | some j=>
    rw [e] at h
    obtain⟨h1,h2,h3,h4⟩:=oj e
    exact⟨j,h1,h,h2,h3,h4⟩
def kl(b:Expr):Prop:=∀o i,subscripted b false o i=operate [o,i] (getItem o i)
def sj(X:Cx)(r:R2):Prop:=
  ∀(value slice:Expr) (pins:List (Addr × Obj)) (s:Shared) (σ:St) (H:Hp) (x y:V) (v u:Value) (Q:VK),aw X pins σ H s→a' x v→a' y u→r x y H Q→
    subscripted slice false v u=operate [v,u] (getItem v u)→wpAny (model X.prog X.w) X.A (subscriptTail value slice v u) (EP X pins σ Q) X.xe s
def zO(X:Cx)(id:String)(r:V→List V→Hp→VK→Prop):Prop:=
  ∀(pins:List (Addr × Obj)) (s:Shared) (σ:St) (H:Hp) (x:V) (xs:List V) (v:Value) (us:List Value) (Q:VK),aw X pins σ H s→a' x v→aB xs us→r x xs H Q→
    wpAny (model X.prog X.w) X.A (call (.builtin id) (v::us)) (EP X pins σ Q) X.xe s
section
variable{X:Cx}{a b:Expr}{ta tb:TE}{pos:Pos}
theorem sj.or{r r':R2}(h:sj X r)(h':sj X r'):sj X (fun x y H Q=>r x y H Q∨r' x y H Q):=by
  intro value slice pins s σ H x y v u Q I rx ry q hs
  rcases q with q | q
  · exact h value slice pins s σ H x y v u Q I rx ry q hs
  · exact h' value slice pins s σ H x y v u Q I rx ry q hs
theorem yR{r:R2}(hr:sj X r)(ha:PE X a ta)(hb:PE X b tb)(hs:kl b):PE X (.Subscript a b pos) (zy r ta tb):=by
  intro pins s σ H Q I h
  exact Subscript_ (vq ha hb I h fun v u s2 x y H2 I2 rx ry q=>hr a b pins s2 σ H2 x y v u Q I2 rx ry q (hs _ _))
def y'(K:PySem.W.Frag):R2:=fun x y H Q=>∃p xs i v,x=.ref p∧y=.int i∧ef K H p xs∧atI xs i=some v∧Q v H
def za(K:PySem.W.Frag):R2:=fun x y H Q=>∃p xs i v,x=.ref p∧y=.int i∧dg K H p xs∧atI xs i=some v∧Q v H
theorem sN:sj X (y' X.K):=by
  intro value slice pins s σ H x y v u Q I rx ry h hs
  obtain⟨p,xs,i,z,rfl,rfl,hq,he,q⟩:=h
  cases rx
  obtain⟨t,rfl⟩:=ry
  obtain⟨its,r,pl,hz⟩:=I.list hq
  obtain⟨j,h1,h2,h3,h4,h5⟩:=nM he
  obtain⟨w,ew,rw'⟩:=r.get h2
  have hl:=r.length
  have hn:=kQ
  have fin:EP X pins σ Q w s:=⟨z,H,I,rw',q⟩
  by_cases h0:0≤i
  · have hj:i.toNat=j:=by
      rw [seqIndex_of h0 h5] at h1
      exact Option.some.inj h1
    exact item_listR pl.isList h0 (by lia) (by rw [hj];simpa using ew) fin hs
  · have hj:(i+(its.toArray.size:Int)).toNat=j:=by
      rw [seqIndex_neg (by lia) h4] at h1
      rw [List.size_toArray,←hl]
      exact Option.some.inj h1
    exact subscriptTail_builtinR (x:=w) pl.isList.typeIs slot_list_getitem.lookup
      (wpAny_getItem_list_neg (Q:=fun r s'=>r=w∧EP X pins σ Q r s') pl.isList (by lia) (by rw [List.size_toArray]<;>lia) (by lia) (by rw [hj];simpa using ew) ⟨rfl,fin⟩) hs
theorem vH:sj X (za X.K):=by
  intro value slice pins s σ H x y v u Q I rx ry h hs
  obtain⟨p,xs,i,z,rfl,rfl,hq,he,q⟩:=h
  cases rx
  obtain⟨t,rfl⟩:=ry
  obtain⟨its,r,pl,hz⟩:=I.tuple hq
  obtain⟨j,h1,h2,h3,h4,h5⟩:=nM he
  obtain⟨w,ew,rw'⟩:=r.get h2
  have hl:=r.length
  have hn:=kQ
  have fin:EP X pins σ Q w s:=⟨z,H,I,rw',q⟩
  exact subscriptTail_builtinR (x:=w) pl.typeIs slot_tuple_getitem.lookup
    (getItem_tuple (j:=j) (Q:=fun r s'=>r=w∧EP X pins σ Q r s') pl (by lia) (by lia) (by rw [List.size_toArray,←hl];exact h1) (by simpa using ew) ⟨rfl,fin⟩) hs
theorem m7(its:List Value)(n j:Nat)(u:Value):Obj.mapSeq (·.setIfInBounds j u) {cls:=.type "list",data:=.seq its.toArray n}={cls:=.type "list",data:=.seq (its.set j u).toArray n}:=by
  simp [Obj.mapSeq]
theorem aw.lst{pins:List (Addr × Obj)}{σ:St}{H:Hp}{s:Shared}{p:Addr}{xs:List V}(I:aw X pins σ H s)(h:H p=some (.lst xs)):
    ∃(its:List Value) (n:Nat),aB xs its∧s.heap.get? p=some {cls:=.type "list",data:=.seq its.toArray n}∧xs.length≤sizeLine:=by
  obtain⟨z,its,n,r,e⟩:=I.hok p _ h
  exact⟨its,n,r,e,z⟩
theorem aw.lstUpd{pins:List (Addr × Obj)}{σ:St}{H:Hp}{s:Shared}{p:Addr}{xs ys:List V}{its its':List Value}{n n':Nat}{f:Obj→Obj}(I:aw X pins σ H s)(h:H p=some (.lst xs))
    (ho:s.heap.get? p=some {cls:=.type "list",data:=.seq its.toArray n})(hf:f {cls:=.type "list",data:=.seq its.toArray n}={cls:=.type "list",data:=.seq its'.toArray n'})(r:aB ys its')(hz:ys.length≤sizeLine)(t:Nat):
    aw X pins σ (a8 H p (.lst ys)) {s with heap:=s.heap.update p f,toks:=t}:=by
  have e:(s.heap.update p f).get? p=some {cls:=.type "list",data:=.seq its'.toArray n'}:=by
    rw [Heap.get?_update_self f ho (by rw [hf]<;>rfl),hf]
  refine I.write (x:=p) (e:=p) (by rw [h];trivial) (.inl rfl) (fun b u hb q=>(Heap.get?_update_other _ _ (Ne.symm hb)).trans q) ⟨_,e⟩ ?_
  exact⟨hz,its',n',r,e⟩
def zc:V→V→V→Hp→(Hp→Prop)→Prop:=fun o i v H Q=>∃p xs k j,o=.ref p∧i=.int k∧H p=some (.lst xs)∧qr xs.length k=some j∧Q (a8 H p (.lst (xs.set j v)))
theorem rP:xV X zc:=by
  intro pins s σ H o i v ov iv u Q I ro ri rv h
  obtain⟨p,xs,k,j,rfl,rfl,hp,hj,q⟩:=h
  cases ro
  obtain⟨t,rfl⟩:=ri
  obtain⟨its,n,r,ho,hz⟩:=I.lst hp
  obtain⟨h1,h2,h3,h4⟩:=oj hj
  have hl:=r.length
  have hn:=kQ
  have I':aw X pins σ (a8 H p (.lst (xs.set j v))) {s with heap:=s.heap.update p (Obj.mapSeq (·.setIfInBounds j u))}:=
    I.lstUpd hp ho (m7 its n j u) (r.set rv j) (by rw [List.length_set];exact hz) s.toks
  by_cases h0:0≤k
  · have hk:k.toNat=j:=by
      rw [seqIndex_of h0 h4] at h1
      exact Option.some.inj h1
    exact PySem.W.ki_setAt ho h0 (by lia) (by rw [List.size_toArray,←hl];exact h4) (by rw [hk];exact⟨_,I',q⟩)
  · have hk:(k+(its.toArray.size:Int)).toNat=j:=by
      rw [seqIndex_neg (by lia) h3] at h1
      rw [List.size_toArray,←hl]
      exact Option.some.inj h1
    exact PySem.W.ki_setBack ho (by lia) (by rw [List.size_toArray,←hl];exact h3) (by lia) (by rw [hk];exact⟨_,I',q⟩)
theorem lb(lo hi:Option Int)(n:Nat):(sliceBounds lo hi none n).1=((HT.sIx n 0 lo:Nat):Int)∧(sliceBounds lo hi none n).2.1=((HT.sIx n n hi:Nat):Int)∧(sliceBounds lo hi none n).2.2=1:=by
  refine⟨?_,?_,rfl⟩
  · cases lo with
    | none=>simp [sliceBounds,HT.sIx]
    | some i=>
      simp only [sliceBounds,HT.sIx,Option.getD_none,show(1:Int) > 0 by decide,if_true]
      by_cases h:i < 0
      · simp only [h,if_true]<;>lia
      · simp only [h,if_false]<;>lia
  · cases hi with
    | none=>simp [sliceBounds,HT.sIx]
    | some i=>
      simp only [sliceBounds,HT.sIx,Option.getD_none,show(1:Int) > 0 by decide,if_true]
      by_cases h:i < 0
      · simp only [h,if_true]<;>lia
      · simp only [h,if_false]<;>lia
theorem jI(its:List Value)(lo hi:Option Int):slicePick its.toArray lo hi none=((its.drop (HT.sIx its.length 0 lo)).take (HT.sIx its.length its.length hi - HT.sIx its.length 0 lo)).toArray:=by
  obtain⟨h1,h2,h3⟩:=lb lo hi its.toArray.size
  unfold slicePick
  rw [h1,h2,h3]
  simp only [sliceRange_one,pick_run,List.size_toArray]<;>rfl
def ze(K:PySem.W.Frag):V→Option Int→Option Int→Hp→VK→Prop:=fun x lo hi H Q=>∃a xs,x=.ref a∧ef K H a xs∧∀p,H p=none→Q (.ref p) (a8 H p (.lst (jF xs lo hi)))
theorem uj:sk X (ze X.K):=by
  intro pins s σ H x v vl vu lo hi sl Q I rx hs pl pu h
  obtain⟨a,xs,rfl,hx,q⟩:=h
  cases rx
  obtain⟨its,r,ht,hz⟩:=I.list hx
  have hlen:=r.length
  refine⟨"list",_,slot_list_getitem.lookup,ht.isList.typeIs,?_⟩
  refine wpAny_getItem_list_slice ht.isList hs pl pu .none (by simp) ?_ (by rw [List.size_toArray]<;>lia)
  rw [jI,←hlen]
  refine⟨.ref s.heap.objs.size,_,I.laid (t':=s.toks) (o:=.lst (jF xs lo hi)) (fun b ob q=>Heap.get?_push_of_some _ q) (Nat.le_refl _) ?_,rfl,q _ (I.hok.fresh (Nat.le_refl _))⟩
  exact⟨Nat.le_trans (iA xs lo hi) hz,_,0,(r.drop (HT.sIx xs.length 0 lo)).take (HT.sIx xs.length xs.length hi - HT.sIx xs.length 0 lo),Heap.get?_push_size _ rfl⟩
theorem kr:dN X (.builtin "len") (fun xs H Q=>∃p ys,xs=[.ref p]∧(ef X.K H p ys∨dg X.K H p ys)∧Q (.int ys.length) H):=by
  intro pins s σ H xs us Q I r h
  obtain⟨p,ys,rfl,hq,q⟩:=h
  obtain⟨u,rfl,rx⟩:=kh r
  cases rx
  have hn:=kQ
  rcases hq with hq | hq
  · obtain⟨its,r',pl,hz⟩:=I.list hq
    have hlen:=r'.length
    exact Calls.call_len_list pl.isList (by simp only [List.size_toArray]<;>lia) ⟨.int ys.length,H,I.tok _,⟨s.toks+1,by rw [List.size_toArray,hlen]⟩,q⟩
  · obtain⟨its,r',pl,hz⟩:=I.tuple hq
    have hlen:=r'.length
    exact len_tuple pl (by simp only [List.size_toArray]<;>lia) ⟨.int ys.length,H,I.tok _,⟨s.toks+1,by rw [List.size_toArray,hlen]⟩,q⟩
theorem ku:dN X (.type "list") (fun xs H Q=>∃p ys,xs=[.ref p]∧(ef X.K H p ys∨dg X.K H p ys)∧∀l,H l=none→Q (.ref l) (a8 H l (.lst ys))):=by
  intro pins s σ H xs us Q I r h
  obtain⟨p,ys,rfl,hq,q⟩:=h
  obtain⟨u,rfl,rx⟩:=kh r
  cases rx
  have fin:∀(its:List Value),aB ys its→ys.length≤sizeLine→∀(h':Heap) (c':Nat),(∀b o',s.heap.get? b=some o'→h'.get? b=some o')→
      h'.get? s.heap.objs.size=some {cls:=.type "list",dict:=none,data:=.seq its.toArray c',slots:=#[]}→EP X pins σ Q (.ref s.heap.objs.size) {s with heap:=h'}:=fun its r' hz h' c' kp e=>
    ⟨.ref s.heap.objs.size,_,I.laid (t':=s.toks) kp (Nat.le_refl _) (show cv X.prog X.w _ h' _ (.lst ys) from⟨hz,its,c',r',e⟩),rfl,q _ (I.hok.fresh (Nat.le_refl _))⟩
  rcases hq with hq | hq
  · obtain⟨its,r',pl,hz⟩:=I.list hq
    have hlen:=r'.length
    obtain⟨o,ho,hc,n,hd⟩:=pl.isList
    exact call_list_seq p (.inl rfl) ho hc hd (fun h' c' kp e=>fin its r' hz h' c' kp e) (by simp only [List.size_toArray]<;>lia)
  · obtain⟨its,r',pl,hz⟩:=I.tuple hq
    have hlen:=r'.length
    obtain⟨o,ho,hc,n,hd⟩:=pl
    exact call_list_seq p (.inr rfl) ho hc hd (fun h' c' kp e=>fin its r' hz h' c' kp e) (by simp only [List.size_toArray]<;>lia)
theorem jE:dN X (.type "tuple") (fun xs H Q=>∃p ys,xs=[.ref p]∧((ef X.K H p ys∧∀l,H l=none→Q (.ref l) (a8 H l (.tup ys)))∨(dg X.K H p ys∧Q (.ref p) H))):=by
  intro pins s σ H xs us Q I r h
  obtain⟨p,ys,rfl,h⟩:=h
  obtain⟨u,rfl,rx⟩:=kh r
  cases rx
  rcases h with ⟨hq,q⟩ | ⟨hq,q⟩
  · obtain⟨its,r',pl,hz⟩:=I.list hq
    have hlen:=r'.length
    refine call_tuple_list pl.isList (fun h' kp=>?_) (by simp only [List.size_toArray]<;>lia)
    have I1:aw X pins σ H {s with heap:=h'}:=I.kept (t':=s.toks) kp
    have I2:aw X pins σ (a8 H h'.objs.size (.tup ys)) {s with heap:=h'.push {cls:=.type "tuple",data:=.seq its.toArray}}:=
      I1.laid (t':=s.toks) (fun b o e=>Heap.get?_push_of_some _ e) (Nat.le_refl _) (show cv X.prog X.w _ _ _ (.tup ys) from⟨hz,its,r',jD.new _ _⟩)
    exact⟨.ref h'.objs.size,_,I2,rfl,q _ (I1.hok.fresh (Nat.le_refl _))⟩
  · obtain⟨its,r',pl,hz⟩:=I.tuple hq
    exact call_tuple_same pl ⟨.ref p,H,I,rfl,q⟩
def AS(K:PySem.W.Frag)(T:String)(x:V)(H:Hp):Prop:=match x with
  | .str _=>T="str"
  | .int _=>T="int"
  | .ref p=>(T="list"∧∃xs,ef K H p xs)∨(T="tuple"∧∃o,K.lookup p=some o∧o.cls=.type "tuple"∧o.dict=none)∨
      (T="dict"∧((∃kvs,H p=some (.dK kvs))∨∃kvs,H p=some (.dT kvs)))∨(T="set"∧∃S n,H p=some (.set S n))
  | _=>False
theorem rT{pins:List (Addr × Obj)}{σ:St}{H:Hp}{s:Shared}{T:String}{x:V}{v:Value}(I:aw X pins σ H s)(r:a' x v)(ty:AS X.K T x H):
    s.TypeIs v T∧∀a,v=.ref a→∃ob,s.heap.get? a=some ob∧ob.dict=none:=by
  cases x with
  | str z=>
    obtain⟨t,rfl⟩:=r
    cases (show T="str" from ty)
    exact⟨typeIs_str s z t,fun _ e=>nomatch e⟩
  | int i=>
    obtain⟨t,rfl⟩:=r
    cases (show T="int" from ty)
    exact⟨typeIs_int s i t,fun _ e=>nomatch e⟩
  | ref p=>
    cases r
    rcases ty with ⟨rfl,xs,hq⟩ | ⟨rfl,o,hk,hc,hd⟩ | ⟨rfl,hk⟩ | ⟨rfl,S,n,hk⟩
    · obtain⟨its,_,pl,_⟩:=I.list hq
      refine⟨pl.isList.typeIs,fun a e=>?_⟩
      cases e
      obtain⟨o,n,e,c,hd,_⟩:=pl
      exact⟨o,e,hd⟩
    · refine⟨⟨o,I.kIn p o hk,hc⟩,fun a e=>?_⟩
      cases e
      exact⟨o,I.kIn _ o hk,hd⟩
    · have z:∃o,s.heap.get? p=some o∧o.ExactDict:=by
        rcases hk with ⟨kvs,hk⟩ | ⟨kvs,hk⟩
        · obtain⟨_,_,_,_,o,_,_,e,ex,_⟩:=I.hok p _ hk
          exact⟨o,e,ex⟩
        · obtain⟨_,_,_,_,o,_,_,e,ex,_⟩:=I.hok p _ hk
          exact⟨o,e,ex⟩
      obtain⟨o,e,ex⟩:=z
      refine⟨⟨o,e,ex.1⟩,fun a e2=>?_⟩
      cases e2
      exact⟨o,e,ex.2.1⟩
    · obtain⟨o,_,_,_,e,ex,_⟩:=I.hok p _ hk
      refine⟨⟨o,e,ex.1⟩,fun a e2=>?_⟩
      cases e2
      exact⟨o,e,ex.2.1⟩
  | _=>exact False.elim ty
def AH(K:PySem.W.Frag)(T:String)(r:V→List V→Hp→VK→Prop)(to:TE):TE:=fun σ H Q=>to σ H fun x H1=>AS K T x H1∧r x [] H1 Q
def Ba(K:PySem.W.Frag)(T:String)(r:V→List V→Hp→VK→Prop)(to:TE)(t:TA):TE:=fun σ H Q=>to σ H fun x H1=>AS K T x H1∧t σ H1 fun xs H2=>r x xs H2 Q
variable{o e:Expr}{es:List Expr}{to:TE}{t:TA}{name:Str}{apos cpos:Pos}{T id:String}{r:V→List V→Hp→VK→Prop}
theorem wx(pa:PlainAttrs T)(slot:Slot T name id)(hty:typeOf (.builtin id)=pure (.type "method_descriptor"))(hm:zO X id r)(ho:PE X o to)
    (hbase:attributeBase o name X.env (eval o X.env)=eval o X.env:=by rfl)(hline:(apos.endLine==cpos.line)=true:=by rfl):PE X (.Call (.Attribute o name apos) [] [] cpos) (AH X.K T r to):=by
  intro pins s σ H Q I h
  refine wpAny_Call_method0_late hbase hline (bF (ho pins s σ H _ I h) fun v s1 ⟨x,H1,I1,r1,ty,q1⟩=>?_)
  obtain⟨h1,h2⟩:=rT I1 r1 ty
  exact⟨T,id,pa,slot,hty,h1,h2,Calls.callWith_builtin rfl (PySem.evalArgs_none (hm pins s1 σ H1 x [] v [] Q I1 r1 .nil q1))⟩
theorem yQ(pa:PlainAttrs T)(slot:Slot T name id)(hty:typeOf (.builtin id)=pure (.type "method_descriptor"))(hm:zO X id r)(ho:PE X o to)(ha:PA X (e::es) t)
    (hbase:attributeBase o name X.env (eval o X.env)=eval o X.env:=by rfl)
    (hfew:((backTo cpos (starEach (e::es) X.env)).all (fun x=> !x.1)&&(backToKw cpos (keywordEach [] X.env)).all (fun x=>x.1.isSome)
      &&decide ((e::es).length+([]:List Keyword).length+(if ([]:List Keyword).isEmpty then 0 else 1) < 30))=true:=by rfl)
    (hline:(apos.endLine==cpos.line)=true:=by rfl)(hs:starEach (e::es) X.env=(false,eval e X.env)::starEach es X.env:=by rfl)(hplain:(backTo cpos (starEach es X.env)).any (·.1)=false:=by rfl):
    PE X (.Call (.Attribute o name apos) (e::es) [] cpos) (Ba X.K T r to t):=by
  intro pins s σ H Q I h
  refine wpAny_Call_method_late hbase hfew hline rfl (bF (ho pins s σ H _ I h) fun v s1 ⟨x,H1,I1,r1,ty,q1⟩=>?_)
  obtain⟨h1,h2⟩:=rT I1 r1 ty
  refine⟨T,id,pa,slot,hty,h1,h2,?_⟩
  have hA:=ha cpos pins s1 σ H1 _ I1 q1
  rw [hs] at hA ⊢
  refine Calls.callWith_builtin (by show(false || (backTo cpos (starEach es X.env)).any (·.1))=false;rw [hplain]<;>rfl) (Calls.evalArgs_plain ?_)
  exact bF hA fun us s2 ⟨vs,H2,I2,r2,q2⟩=>hm pins s2 σ H2 x vs v us Q I2 r1 r2 q2
end
end L2
namespace L2
open PySem PySem.Spec PyProof.Rows
def z_(X:Cx)(id:String)(r:V→List V→Hp→VK→Prop):Prop:=
  ∀(pins:List (Addr × Obj)) (s:Shared) (σ:St) (H:Hp) (x:V) (xs:List V) (v:Value) (us:List Value) (Q:VK),aw X pins σ H s→a' x v→aB xs us→r x xs H Q→
    wpAny (model X.prog X.w) X.A (call (.builtin id) (v::us)) (EP X pins σ Q) X.xe s
theorem aB.one:∀{x:V} {us:List Value},aB [x] us→∃u,us=[u]∧a' x u
  | _,_,.cons r .nil=>⟨_,rfl,r⟩
theorem aB.zero:∀{us:List Value},aB [] us→us=[]
  | _,.nil=>rfl
theorem aB.dropLast{xs:List V}{us:List Value}(h:aB xs us):aB xs.dropLast us.dropLast:=by
  induction h with
  | nil=>exact .nil
  | cons r t ih=>
    cases t with
    | nil=>exact .nil
    | cons q t'=>exact .cons r ih
theorem aB.eraseIdx:∀{xs:List V} {us:List Value} (i:Nat),aB xs us→aB (xs.eraseIdx i) (us.eraseIdx i)
  | _,_,_,.nil=>.nil
  | _,_,0,.cons _ t=>t
  | _,_,i+1,.cons r t=>.cons r (aB.eraseIdx i t)
theorem aB.reverse{xs:List V}{us:List Value}(h:aB xs us):aB xs.reverse us.reverse:=by
  induction h with
  | nil=>exact .nil
  | cons r t ih=>rw [List.reverse_cons,List.reverse_cons];exact aB.append ih (.cons r .nil)
theorem aB.rep{xs:List V}{us:List Value}(h:aB xs us):∀k:Nat,aB (List.replicate k xs).flatten (List.replicate k us).flatten
  | 0=>.nil
  | k+1=>by
    rw [List.replicate_succ,List.replicate_succ,List.flatten_cons,List.flatten_cons]
    exact aB.append h (aB.rep h k)
theorem mW{α:Type}(l:List α):l.eraseIdx (l.length - 1)=l.dropLast:=by
  induction l with
  | nil=>rfl
  | cons a r ih=>
    cases r with
    | nil=>rfl
    | cons b r=>
      have e:(a::b::r).length - 1=((b::r).length - 1)+1:=by
        have h1:(a::b::r).length=r.length+2:=rfl
        have h2:(b::r).length=r.length+1:=rfl
        lia
      rw [e,List.eraseIdx_cons_succ,ih]
      all_goals rfl
theorem j5{α:Type}:∀(l:List α) (i:Nat),(l.eraseIdx i).length≤l.length
  | [],_=>Nat.le_refl _
  | _::_,0=>Nat.le_succ _
  | _::r,i+1=>Nat.succ_le_succ (j5 r i)
theorem jX(its:List Value):∀(k:Nat) (acc:List Value),
    List.foldl (fun x1 x2=>x1++x2) acc.toArray (List.replicate k its.toArray)=(acc++(List.replicate k its).flatten).toArray
  | 0,acc=>by simp
  | k+1,acc=>by
    have e:acc.toArray++its.toArray=(acc++its).toArray:=by simp
    have e2:(acc++its)++(List.replicate k its).flatten=acc++(List.replicate (k+1) its).flatten:=by
      rw [List.replicate_succ,List.flatten_cons,List.append_assoc]
    rw [←e2,←jX its k (acc++its),←e,List.replicate_succ,List.foldl_cons]
section
variable{X:Cx}{pins:List (Addr × Obj)}{σ:St}{H:Hp}{s:Shared}{l b:Addr}{xs ys zs:List V}
theorem aw.lset{its its':List Value}{n:Nat}{f:Array Value→Array Value}{t':Nat}(I:aw X pins σ H s)(hH:H l=some (.lst xs))
    (e:s.heap.get? l=some {cls:=.type "list",data:=.seq its.toArray n})(hf:f its.toArray=its'.toArray)(hv:aB ys its')(hz:ys.length≤sizeLine):
    aw X pins σ (a8 H l (.lst ys)) {s with heap:=s.heap.update l (Obj.mapSeq f),toks:=t'}:=by
  have q:=PySem.IsL.update e f
  rw [hf] at q
  refine I.write (x:=l) (e:=l) (by rw [hH];exact trivial) (.inl rfl) (fun b' u hb hu=>(Heap.get?_update_other s.heap (Obj.mapSeq f) (Ne.symm hb)).trans hu) ⟨_,q⟩ ?_
  exact⟨hz,its',_,hv,q⟩
theorem aw.lnew{its:List Value}{t':Nat}(I:aw X pins σ H s)(hv:aB ys its)(hz:ys.length≤sizeLine):
    aw X pins σ (a8 H s.heap.objs.size (.lst ys)) {s with heap:=s.heap.push {cls:=.type "list",data:=.seq its.toArray},toks:=t'}:=
  I.laid (fun _ _ q=>Heap.get?_push_of_some _ q) (Nat.le_refl _) ⟨hz,its,0,hv,Heap.get?_push_size _ rfl⟩
theorem aw.fresh(I:aw X pins σ H s):H s.heap.objs.size=none:=I.hok.fresh (Nat.le_refl _)
theorem aw.lstM(I:aw X pins σ H s)(hH:H l=some (.lst xs)):xs.length≤sizeLine∧∃(its:List Value) (n:Nat),aB xs its∧xs.length=its.length∧s.heap.get? l=some {cls:=.type "list",data:=.seq its.toArray n}:=by
  obtain⟨z,its,n,r,e⟩:=I.hok l _ hH
  exact⟨z,its,n,r,r.length,e⟩
theorem qF{n:Nat}(h:n≤sizeLine):Builtin.List.listTooLong n=false:=by
  unfold Builtin.List.listTooLong
  exact decide_eq_false (by lia)
end
section
variable{X:Cx}
def ot:V→List V→Hp→VK→Prop:=fun x vs H Q=>∃l xs y,x=.ref l∧vs=[y]∧H l=some (.lst xs)∧xs.length < sizeLine∧Q .non (a8 H l (.lst (xs++[y])))
theorem il:z_ X "list.append" ot:=by
  intro pins s σ H x vs v us Q I rx rv h
  obtain⟨l,xs,y,rfl,rfl,hH,hz,q⟩:=h
  cases rx
  obtain⟨u,rfl,ru⟩:=rv.one
  obtain⟨z,its,n,r,hl,e⟩:=I.lstM hH
  refine call_meets F.slot_list_append ⟨_,e,rfl⟩ F.entry_list_append (F.args_list_append_2 _ _) (PySem.list_append l its.toArray n u (by rw [List.size_toArray];lia)) ⟨e,?_⟩
  refine⟨.non,_,I.lset (its':=its++[u]) hH e (by simp) (r.append (.cons ru .nil)) ?_,rfl,q⟩
  rw [List.length_append,List.length_singleton]
  lia
def zb:V→List V→Hp→VK→Prop:=fun x vs H Q=>∃l xs y,x=.ref l∧vs=[]∧H l=some (.lst xs)∧xs[xs.length - 1]?=some y∧Q y (a8 H l (.lst xs.dropLast))
theorem vQ:z_ X "list.pop" zb:=by
  intro pins s σ H x vs v us Q I rx rv h
  obtain⟨l,xs,y,rfl,rfl,hH,hy,q⟩:=h
  cases rx
  have hus:=rv.zero
  subst hus
  obtain⟨z,its,n,r,hl,e⟩:=I.lstM hH
  obtain⟨u,hu,ru⟩:=r.get hy
  have hy':its.toArray[its.toArray.size - 1]?=some u:=by
    show its.toArray[its.length - 1]?=some u
    rw [←Array.getElem?_toList,←hl]
    exact hu
  refine call_meets F.slot_list_pop ⟨_,e,rfl⟩ F.entry_list_pop (F.args_list_pop_1 _) (MeetsSeq.list_pop_last l its.toArray n u hy' (by rw [List.size_toArray];lia)) ⟨e,?_⟩
  refine⟨y,_,I.lset (its':=its.dropLast) hH e ?_ r.dropLast ?_,ru,q⟩
  · show its.toArray.eraseIdxIfInBounds (its.toArray.size - 1)=its.dropLast.toArray
    rw [List.size_toArray,List.eraseIdxIfInBounds_toArray,mW]
  · rw [List.length_dropLast]
    lia
def rC:V→List V→Hp→VK→Prop:=fun x vs H Q=>∃l xs i k y,x=.ref l∧vs=[.int i]∧H l=some (.lst xs)∧ -(2 ^ 63)≤i∧i < 2 ^ 63∧seqIndex? i xs.length=some k∧xs[k]?=some y∧Q y (a8 H l (.lst (xs.eraseIdx k)))
theorem qz:z_ X "list.pop" rC:=by
  intro pins s σ H x vs v us Q I rx rv h
  obtain⟨l,xs,i,k,y,rfl,rfl,hH,h1,h2,hk,hy,q⟩:=h
  cases rx
  obtain⟨u,rfl,ru⟩:=rv.one
  obtain⟨t,rfl⟩:=ru
  obtain⟨z,its,n,r,hl,e⟩:=I.lstM hH
  obtain⟨w,hw,rw'⟩:=r.get hy
  refine call_meets F.slot_list_pop ⟨_,e,rfl⟩ F.entry_list_pop (F.args_list_pop_2 _ _)
    (MeetsSeq.list_pop_at l its.toArray n i t k w (fitsIndex_both h1 h2) (by rw [List.size_toArray,←hl];exact hk) (by rw [←Array.getElem?_toList];exact hw) (by rw [List.size_toArray];lia)) ⟨e,?_⟩
  refine⟨y,_,I.lset (its':=its.eraseIdx k) hH e ?_ (r.eraseIdx k) ?_,rw',q⟩
  · show its.toArray.eraseIdxIfInBounds k=(its.eraseIdx k).toArray
    rw [List.eraseIdxIfInBounds_toArray]
  · have:=j5 xs k
    lia
def xa:R2:=fun x y H Q=>∃l b xs zs,x=.ref l∧y=.ref b∧H l=some (.lst xs)∧H b=some (.lst zs)∧xs.length+zs.length≤sizeLine∧∀p,H p=none→Q (.ref p) (a8 H p (.lst (xs++zs)))
theorem wb:dz X (binaryOp .Add) xa:=by
  intro pins s σ H x y v u Q I rx ry h
  obtain⟨l,b,xs,zs,rfl,rfl,hH,hB,hz,q⟩:=h
  cases rx
  cases ry
  obtain⟨z,its,n,r,hl,e⟩:=I.lstM hH
  obtain⟨z2,its2,n2,r2,hl2,e2⟩:=I.lstM hB
  refine PySem.P.add_list e e2 ?_ (by rw [List.size_toArray,List.size_toArray];lia)
  have ea:its.toArray++its2.toArray=(its++its2).toArray:=by simp
  rw [ea]
  exact⟨.ref _,_,I.lnew (t':=s.toks) (r.append r2) (by rw [List.length_append];lia),rfl,q _ I.fresh⟩
def xf:R2:=fun x y H Q=>∃l k xs,x=.ref l∧y=.int k∧H l=some (.lst xs)∧ -(2 ^ 63)≤k∧k < 2 ^ 63∧xs.length*k.toNat≤sizeLine∧
  ∀p,H p=none→Q (.ref p) (a8 H p (.lst (List.replicate k.toNat xs).flatten))
theorem sP{α:Type}(xs:List α)(k:Nat):(List.replicate k xs).flatten.length=k*xs.length:=by
  induction k with
  | zero=>simp
  | succ k ih=>rw [List.replicate_succ,List.flatten_cons,List.length_append,ih,Nat.succ_mul,Nat.add_comm]
theorem wq:dz X (binaryOp .Mult) xf:=by
  intro pins s σ H x y v u Q I rx ry h
  obtain⟨l,k,xs,rfl,rfl,hH,h1,h2,hz,q⟩:=h
  cases rx
  obtain⟨t,rfl⟩:=ry
  obtain⟨z,its,n,r,hl,e⟩:=I.lstM hH
  have hlen:its.toArray.size*k.toNat≤sizeLine:=by rw [List.size_toArray,←hl];exact hz
  have hcap:¬its.toArray.size*k.toNat > (2 ^ 63 - 1) / 8:=by
    have:(sizeLine:Nat)≤(2 ^ 63 - 1) / 8:=by decide
    lia
  have hfit:¬(!Builtin.List.listFitsIndex k)=true:=by
    rw [fitsIndex_both h1 h2]
    exact Bool.false_ne_true
  have hlong:¬Builtin.List.listTooLong (its.toArray.size*k.toNat)=true:=by
    rw [qF hlen]
    exact Bool.false_ne_true
  have hnew:List.foldl (fun x1 x2=>x1++x2) #[] (List.replicate (if its.toArray.isEmpty=true then 0 else k.toNat) its.toArray)=(List.replicate k.toNat its).flatten.toArray:=by
    have f0:∀m:Nat,List.foldl (fun x1 x2=>x1++x2) #[] (List.replicate m its.toArray)=(List.replicate m its).flatten.toArray:=fun m=>by
      have:=jX its m []
      rw [List.nil_append] at this
      exact this
    rw [f0]
    cases its with
    | nil=>simp
    | cons a r'=>rw [if_neg (by simp)]
  refine wpAny_binaryOp_repeat_ref (T:="list") (U:="int") (by decide) ⟨_,e,rfl⟩ (fun s'=>typeIs_int s' k t) noFill_list_mul F.fills_int_mul F.slot_int_rmul repeat_list F.slot_int_index.lookup
    (call_meets F.slot_int_rmul (typeIs_int s k t) F.entry_int_rmul (F.args_int_rmul_2 _ _) (int___rmul___int_list k t l its.toArray n)
      ⟨e,rfl,⟨_,e,rfl⟩,call_meets F.slot_list_mul ⟨_,e,rfl⟩ F.entry_list_mul (F.args_list_mul_2 _ _) (AutoListH.list___mul___list_int_3 l its.toArray n k t hfit hcap hlong) ⟨e,?_⟩⟩)
  rw [hnew]
  exact⟨.ref _,_,I.lnew (t':=s.toks) (r.rep k.toNat) (by rw [sP,Nat.mul_comm];exact hz),rfl,q _ I.fresh⟩
end
section
variable{prog:Program}{w:World}{A:Around}{E:Value→Shared→Prop}{s:Shared}
end
section
variable{X:Cx}
end
end L2
namespace Att
open PySem PySem.W PySem.Calls PyProof.Rows
theorem iN{P:Params}{h:Heap}:∀(ns:List Int) (vs:List Value),WellAll P h vs (ns.map WData.int)→IntsAre vs ns:=by
  intro ns
  induction ns with
  | nil=>
    intro vs w
    rw [List.map_nil] at w
    cases w
    exact .nil
  | cons n ns ih=>
    intro vs w
    rw [List.map_cons] at w
    cases w with
    | cons a b=>
      cases a
      exact .cons _ _ (ih _ b)
theorem pA{l:OpenLaw}{n:Nat}(hn:l.most=some n){P:Params}{h:Heap}{args:List WData}{vals:List Value}
    (hpre:l.row.toRowW.claim.pre args=true)(hwl:WellAll P h vals args):
    ∃a vs ns,vals=[Value.ref a]∧args=[WData.list (ns.map WData.int)]∧h.get? a=some {cls:=.type "list",data:=.seq vs.toArray}∧IntsAre vs ns∧ns.length≤n:=by
  have hsh:WShape.hasAll [] args [.list .int]=true:=(pre_splitW hpre).1
  have hc:l.pre.holds [] {args:=args}=true:=(pre_splitW hpre).2
  obtain⟨d,r,rfl,h1,h2⟩:=hasAllW_cons hsh
  obtain rfl:=hasAllW_nil h2
  obtain⟨xs,rfl,h3⟩:=hasW_list h1
  obtain⟨ns,rfl⟩:=items_int h3
  have hlen:ns.length≤n:=by
    unfold OpenLaw.pre at hc
    have h4:(WTm.not (.lt (.lit (.int (n:Int))) (.len (.arg 0)))).holds [] {args:=[.list (ns.map .int)]}=true:=by
      have h4:=(holds_andW hc).1
      rw [hn] at h4
      exact h4
    have h5:=condW_of h4 (w_not (w_lt w_lit (w_len_list (w_arg rfl))))
    rw [List.length_map] at h5
    refine Nat.le_of_not_lt fun q=>?_
    have q':(n:Int) < ((ns.length:Nat):Int):=by lia
    first
      | (rw [decide_eq_true q'] at h5;exact absurd h5 (by decide))
      | (simp at h5;lia)
  cases hwl with
  | cons w1 w2=>
    cases w2
    cases w1 with
    | list ho hall=>exact⟨_,_,ns,rfl,rfl,ho,iN ns _ hall,hlen⟩
theorem pk(l:OpenLaw)(args:List WData):l.row.toRowW.claim.post args (.bool true) args=true:=
  postW_of (r:=l.row.toRowW) (X:=(true==true))
    (show WShape.has [] (.bool true) .bool=true by first | rfl | decide | simp [WShape.has,WShape.arms,WShape.armsAll])
    (show(WTm.eq .res (.lit (.bool true))).value [] {args:=args,res:=some (.bool true),after:=args}=some (.bool (true==true)) from w_eq_bool (w_res rfl) w_lit) rfl
theorem attach_call{l:OpenLaw}{n:Nat}{q:Program}{loose:List Str}{XP:(Str→Option Value)→Heap→Prop}{YP:World→Heap→Prop}{d:DefRec}
    (hn:l.most=some n)(hdf:d.params.defaults=[])
    (call:∀(w:World) (s₀ s₁:Shared) (mg mb:Str→Option Value) (fa:Addr) (o:Obj) (pm cd doc:Value) (a:Addr) (vs:List Value) (ns:List Int),
      Ground q loose [] XP w s₀ mg mb s₁.heap→YP w s₁.heap→
      s₁.heap.get? fa=some o→o.data=.func (docDef d.name d.params d.body d.scope pm cd doc)→s₁.heap.CodeRec cd d.name→mg d.name=some (.ref fa)→
      s₁.heap.get? a=some {cls:=.type "list",data:=.seq vs.toArray}→IntsAre vs ns→ns.length≤n→s₁.gens=#[]→
      codeAny (model l.prog w) callerA (.call (.ref fa) ⟨[.ref a],[]⟩) (fun r s'=>r=.ok (.ret (.bool true))∧OldK s₁.heap s'.heap∧s'.os=s₁.os∧AllBare s'.gens) s₁):
    WalkO q loose XP YP l.row.toRowW d [] (fun f vs=>PySem.call f vs):=by
  intro w s₀ s₁ mg mb G Y fa o pm cd doc dV kV ho hd hcd hD hmg hg args vals as hpre hlay hrd hwl hlo
  obtain rfl:dV=.none:=Dflts.none hD hdf
  obtain rfl:kV=.none:=Dflts.noKw hD
  obtain⟨a,vs,ns,rfl,rfl,hobj,hints,hlen⟩:=pA hn hpre hwl
  refine enter_call (codeAny_mono (call w s₀ s₁ mg mb fa o pm cd doc a vs ns G Y ho (fd_plain hd) hcd hmg hobj hints hlen hg) fun r s' hq=>?_)
  obtain⟨rfl,h2,h3,h4⟩:=hq
  exact⟨.inl ⟨.bool true,.bool true,[],rfl,fun _=>rfl,.bool true,pk l _,fun _=>⟨List.Pairwise.nil,fun _ hm=>(nomatch hm)⟩⟩,h2,h3,h4⟩
section
variable{prog:Program}{w:World}{A:Around}{E:Value→Shared→Prop}{s:Shared}{K:Frag}
end
end Att
namespace L2
open PySem PySem.Spec PyProof.Rows
theorem ki:∀{vs:List Value} {ns:List Int},IntsAre vs ns→aB (ns.map V.int) vs
  | _,_,.nil=>.nil
  | _,_,.cons n t h=>.cons ⟨t,rfl⟩ (ki h)
def vn(H:Hp):Prop:=∀b,H b=none∨∃o xs,H b=some (.frz o (.lst xs))
theorem qt{P:Program}{w:World}{K:PySem.W.Frag}{mg mb:Str→Option Value}{CX:oK}{k:Nat}{fa a:Addr}{fd:FuncData}{x:Str}{sp:Sp}{s₁:Shared}{vs:List Value}{ns:List Int}
    (KX:K.In s₁.heap)(hns:s₁.heap.Ns mainGlobals mg)(hb:s₁.heap.Ns builtinsNs mb)(hbb:∀x:Str,x≠"__name__"→mb x=bootBuiltins x)(hlim:s₁.heap.NoLimit)(hg:s₁.gens=#[])
    (ha:s₁.heap.get? a=some {cls:=.type "list",data:=.seq vs.toArray})(hi:IntsAre vs ns)(hl:ns.length≤sizeLine)(hr:cc k callerA)
    (F:∀base:Heap,K.In base→base.Ns mainGlobals mg→aK P w K mg base CX k fa fd [x] sp)(hbind:∀(s:Shared) (u:Value),BindsTo s fd ⟨[u],[]⟩ [(x,u)])
    (hsp:∀H:Hp,vn H→ef K H a (ns.map V.int)→sp [.ref a] H (fun v _=>v=.bl true) fun _ _ _=>False)
    (hCX:∀H e s',CX [] H s₁ (fun _ _ _=>False) e s'→False):
    codeAny (model P w) callerA (.call (.ref fa) ⟨[.ref a],[]⟩) (fun r s'=>r=.ok (.ret (.bool true))∧OldK s₁.heap s'.heap∧s'.os=s₁.os∧AllBare s'.gens) s₁:=by
  have rv:=ki hi
  have lenV:=hi.length
  have core:∀H:Hp,vn H→ef K H a (ns.map V.int)→iy P w H s₁.heap→(∀b,H b≠none→b=a)→(H a≠none→K.lookup a=none)→
      codeAny (model P w) callerA (.call (.ref fa) ⟨[.ref a],[]⟩) (fun r s'=>r=.ok (.ret (.bool true))∧OldK s₁.heap s'.heap∧s'.os=s₁.os∧AllBare s'.gens) s₁:=by
    intro H hO hS hok hA hK
    have base_of:∀{b:Addr} {o:Obj},s₁.heap.get? b=some o→H b=none→(kN s₁.heap H).get? b=some o:=fun e n=>qk e n
    have noA:∀{b:Addr} {o:Obj} {es:Array DictEntry} {ep:Nat},s₁.heap.get? b=some o→o.data=.dict es ep→H b=none:=fun{b o es ep} e d=>by
      cases q:H b with
      | none=>rfl
      | some u=>
        have e':b=a:=hA b (by rw [q];simp)
        subst e'
        rw [ha] at e;cases e
        have d':Data.seq vs.toArray _=Data.dict es ep:=d
        cases d'
    have nsK:∀{b:Addr} {m:Str→Option Value},s₁.heap.Ns b m→(kN s₁.heap H).Ns b m:=fun{b m} ⟨o,es,ep,e,d,r⟩=>⟨o,es,ep,base_of e (noA e d),d,r⟩
    have hKb:K.In (kN s₁.heap H):=fun b o e=>base_of (KX b o e) (by
      cases q:H b with
      | none=>rfl
      | some u=>
        have e':b=a:=hA b (by rw [q];simp)
        subst e'
        rw [hK (by rw [q];simp)] at e;cases e)
    have hM:Mod K mg (kN s₁.heap H):=⟨hKb,nsK hns,⟨mb,nsK hb,hbb⟩,let ⟨mc,h1,h2⟩:=hlim;⟨mc,nsK h1,h2⟩⟩
    have e0:sd P w K mg (kN s₁.heap H) callerA [] s₁ H:=⟨rfl,hM,fun b o e=>sT e,Nat.le_of_eq (oV _ _),trivial,fun b hb=>absurd (show b∈([]:List Addr) from hb) (by simp),hok,.of_eq hg⟩
    refine codeAny_mono ((F _ hKb (nsK hns)).run callerA [] s₁ H ⟨[.ref a],[]⟩ [.ref a] [.ref a] _ _ hr e0 (hbind s₁ (.ref a)) (.cons rfl .nil) (hsp H hO hS)) fun r s' h=>?_
    cases r with
    | error e=>exact(hCX H e s' h).elim
    | ok fl=>
      cases fl with
      | next=>exact False.elim h
      | brk=>exact False.elim h
      | cont=>exact False.elim h
      | ret u=>
        obtain⟨v,H',os,bare,un,hok',r',q⟩:=h
        have q':v=.bl true:=q
        subst q'
        obtain rfl:u=Value.bool true:=r'
        refine⟨rfl,OldK.of_keep fun b o e=>?_,os,bare⟩
        cases q:H b with
        | none=>exact un.keep b o e q (by intro z;exact absurd (show b∈([]:List Addr) from z) (by simp)) (by simp)
        | some u=>
          rcases hO b with z | ⟨ob,xs,z⟩
          · rw [q] at z;cases z
          · have z2:=un.frzs b ob _ z
            obtain⟨e1,_⟩:=hok b _ z
            obtain⟨e2,_⟩:=hok' b _ z2
            rw [e] at e1;cases e1
            exact e2
  cases hk:K.lookup a with
  | some o=>
    have e:=KX a o hk
    rw [ha] at e
    cases e
    refine core (fun _=>none) (fun _=>.inl rfl) (.inr ⟨_,vs.toArray,_,hk,rfl,rfl,rfl,by rw [List.size_toArray,lenV];exact hl,by simpa using rv⟩) (fun b u z=>by have z':(none:Option HO)=some u:=z;cases z') (fun b z=>absurd rfl z) fun z=>absurd rfl z
  | none=>
    refine core (fun b=>if b=a then some (.frz {cls:=.type "list",data:=.seq vs.toArray} (.lst (ns.map V.int))) else none) (fun b=>?_) (.inl (.inr ⟨{cls:=.type "list",data:=.seq vs.toArray},if_pos rfl⟩)) (fun b u z=>?_) (fun b z=>?_) fun _=>hk
    · by_cases hb:b=a
      · exact .inr ⟨_,_,if_pos hb⟩
      · exact .inl (if_neg hb)
    · by_cases hb:b=a
      · have z':=(if_pos hb).symm.trans z
        cases z'
        subst hb
        exact⟨ha,by rw [List.length_map];exact hl,vs,_,rv,ha⟩
      · have z':=(if_neg hb).symm.trans z
        cases z'
    · by_cases hb:b=a
      · exact hb
      · exact absurd (if_neg hb) z
end L2
namespace L2
open PySem PySem.Spec PyProof.Rows
theorem walk_of{l:PySem.W.OpenLaw}{n k:Nat}{q:Program}{loose:List Str}{XP:(Str→Option Value)→Heap→Prop}{YP:World→Heap→Prop}{d:DefRec}{K:Params→PySem.W.Frag}{CX:World→oK}{sp:World→Sp}{x:Str}
    (hn:l.most=some n)(hn2:n≤sizeLine)(hdf:d.params.defaults=[])(hr:cc k callerA)
    (hY:∀(w:World) (h:Heap),YP w h→(K w.params).In h)
    (F:∀(w:World) (mg:Str→Option Value) (fa:Addr) (h:Heap),(K w.params).In h→h.Ns mainGlobals mg→mg d.name=some (.ref fa)→
      ∃fd:FuncData,(∀(s:Shared) (u:Value),BindsTo s fd ⟨[u],[]⟩ [(x,u)])∧
        ∀base:Heap,(K w.params).In base→base.Ns mainGlobals mg→aK l.prog w (K w.params) mg base (CX w) k fa fd [x] (sp w))
    (hsp:∀(w:World) (H:Hp) (a:Addr) (ns:List Int),ns.length≤n→vn H→ef (K w.params) H a (ns.map V.int)→sp w [.ref a] H (fun v _=>v=.bl true) fun _ _ _=>False)
    (hCX:∀(w:World) (H:Hp) (s:Shared) (e:Value) (s':Shared),CX w [] H s (fun _ _ _=>False) e s'→False):
    PySem.W.WalkO q loose XP YP l.row.toRowW d [] (fun f vs=>PySem.call f vs):=by
  refine Att.attach_call hn hdf fun w s₀ s₁ mg mb fa o pm cd doc a vs ns G Y ho hd hcd hmg hobj hints hlen hg=>?_
  have KX:=hY w _ Y
  obtain⟨fd,hb,hF⟩:=F w mg fa _ KX G.T.g hmg
  exact qt KX G.T.g G.T.b G.T.builtins G.T.nolimit hg hobj hints (Nat.le_trans hlen hn2) hr hF hb (fun H hO hS=>hsp w H a ns hlen hO hS) fun H e s'=>hCX w H s₁ e s'
end L2
namespace L2
open PySem PySem.Spec PyProof.Rows
def cF(s:Stmt):Arguments:=match s with
  | .FunctionDef _ a _ _ _ _ _ _ _ _=>a
  | _=>{posonlyargs:=[],args:=[],vararg:=none,kwonlyargs:=[],kw_defaults:=[],kwarg:=none,defaults:=[]}
def bV(s:Stmt):List Stmt:=match s with
  | .FunctionDef _ _ b _ _ _ _ _ _ _=>b
  | _=>[]
def aj(s:Stmt):Scope:=match s with
  | .FunctionDef _ _ _ _ _ _ sc _ _ _=>sc
  | _=>{kind:=.function,names:=[],isGenerator:=false,isCoroutine:=false}
abbrev bU:oK:=fun _ _ _ _ _ _=>False
abbrev E0:XK:=fun _ _ _=>False
theorem yO{X:Cx}:mO bU X E0:=fun _ _ _ _ _ _ _ h=>h.elim
structure xK (K:PySem.W.Frag) (x qual:Str) (st:Stmt) (f:Addr) (fd:FuncData):Prop where
  ex:∃(oc:Value) (od:Option Addr) (kV doc pm:Value) (an:Option Addr) (cdv ct:Value) (osl:Array (Option Value)),
    fd=PySem.W.fnOf x qual (cF st) (bV st) (aj st) .none kV doc pm an cdv ct∧K.lookup f=some ⟨oc,od,.func fd,osl⟩∧PySem.W.codeIn K cdv qual=true
  kp:PySem.W.keepIn K (.ref f)=true
section
variable{P:Program}{w:World}{K:PySem.W.Frag}{mg:Str→Option Value}{base:Heap}
theorem xK.ok{x qual:Str}{st:Stmt}{f:Addr}{fd:FuncData}{N ps:List Str}{k:Nat}{sp:Sp}(F:xK K x qual st f fd)(S:aJ N ps (aj st))(len:∀vs H Q E,sp vs H Q E→vs.length=ps.length)
    (hbody:∀(cdv:Value) (A:Around) (outer:List Env) (s:Shared) (H:Hp) (vs:List V) (Q:VK) (E:XK),cc k (A.deeper (envOfC qual (aj st) s.heap.objs.size f cdv))→sp vs H Q E→
      ∃t,iJ (mU bU P w K mg base N qual (aj st) f cdv A outer s H E).nox (bV st) t∧t {nx:=fun _ H'=>Q .non H',rt:=Q} (dW N vs) H):aK P w K mg base bU (k+1) f fd ps sp:=by
  obtain⟨oc,od,kV,doc,pm,an,cdv,ct,osl,rfl,lk,hcd⟩:=F.ex
  refine yj lk hcd S len fun A outer s H vs Q E hr hsp=>?_
  obtain⟨t,h,q⟩:=hbody cdv A outer s H vs Q E hr hsp
  exact⟨t,h.nox,q⟩
theorem xK.binds{x qual:Str}{st:Stmt}{f:Addr}{fd:FuncData}{ps:List Str}(F:xK K x qual st f fd)
    (h:∀(kV doc pm:Value) (an:Option Addr) (cdv ct:Value) (us:List Value),us.length=ps.length→bindArgs (PySem.W.fnOf x qual (cF st) (bV st) (aj st) .none kV doc pm an cdv ct) ⟨us,[]⟩=pure (ps.zip us)):jK K fd ps []:=by
  obtain⟨oc,od,kV,doc,pm,an,cdv,ct,osl,rfl,lk,hcd⟩:=F.ex
  exact .all (h kV doc pm an cdv ct)
theorem p_{x qual:Str}{st:Stmt}{f:Addr}{oc:Value}{od an:Option Addr}{osl:Array (Option Value)}{kV doc pm cdv ct:Value}(l:K.lookup f=some ⟨oc,od,.func (PySem.W.fnOf x qual (cF st) (bV st) (aj st) .none kV doc pm an cdv ct),osl⟩)
    (c:PySem.W.codeIn K cdv qual=true)(k:PySem.W.keepIn K (.ref f)=true):xK K x qual st f (PySem.W.fnOf x qual (cF st) (bV st) (aj st) .none kV doc pm an cdv ct):=⟨⟨oc,od,kV,doc,pm,an,cdv,ct,osl,rfl,l,c⟩,k⟩
end
theorem kd{n:Nat}(h:n≤1000):n < sizeLine:=Nat.lt_of_le_of_lt h (by decide)
section
variable{X:Cx}
end
theorem yy{A B:Prop}(h:B):if false=true then A else B:=by
  rw [if_neg Bool.false_ne_true]
  exact h
theorem yz{A B:Prop}(h:A):if true=true then A else B:=by
  rw [if_pos rfl]
  exact h
def av(H H':Hp):Prop:=∀b o,H b=some o→H' b=some o
theorem av.refl(H:Hp):av H H:=fun _ _ h=>h
theorem av.trans{H H1 H2:Hp}(a:av H H1)(b:av H1 H2):av H H2:=fun c o h=>b c o (a c o h)
theorem av.free{H H':Hp}(e:av H H'){l:Addr}(h:H' l=Option.none):H l=Option.none:=by
  cases q:H l with
  | none=>rfl
  | some o=>
    rw [e l o q] at h
    cases h
theorem av.seq{K:PySem.W.Frag}{H H':Hp}{a:Addr}{xs:List V}(e:av H H')(h:ef K H a xs):ef K H' a xs:=by
  rcases h with (h | ⟨o,h⟩) | h
  · exact .inl (.inl (e _ _ h))
  · exact .inl (.inr ⟨o,e _ _ h⟩)
  · exact .inr h
end L2
set_option maxHeartbeats 4000000
namespace L2
open PySem PySem.Spec PyProof.Rows
def Bt(n:Nat)(i:Int):Prop:=i.natAbs < 2 ^ n
theorem Bt.mono{m n:Nat}{i:Int}(h:Bt m i)(hm:m≤n):Bt n i:=Nat.lt_of_lt_of_le h (Nat.pow_le_pow_right (by decide) hm)
theorem Bt.log{m:Nat}{i:Int}(h:Bt m i)(hm:0 < m):i.natAbs.log2 < m:=by
  unfold Bt at h
  rcases Nat.eq_zero_or_pos i.natAbs with h0 | hp
  · rw [h0];exact hm
  · exact(Nat.log2_lt (by lia)).mpr h
theorem Bt.bits{m:Nat}{i:Int}(h:Bt m i)(hm:0 < m):Builtin.Int.intBits i≤m:=by
  unfold Builtin.Int.intBits
  split
  · exact Nat.zero_le _
  · exact h.log hm
theorem Bt.of_le{m:Nat}{i:Int}{j:Int}(h:Bt m j)(e:i.natAbs≤j.natAbs):Bt m i:=Nat.lt_of_le_of_lt e h
section
variable{X:Cx}
def uA(i j:Int):Prop:=Bt 4000 i∧Bt 4000 j
theorem tG:dz X (binaryOp .Mult) (rI uA fun i j=>.int (i*j)):=yI fun _ _ _ _ _ _ _ hc q=>
  mul_int q (.of_bits (Nat.le_trans (hc.1.bits (by decide)) (by decide)) (Nat.le_trans (hc.2.bits (by decide)) (by decide)))
def uy(i j:Int):Prop:=j≠0∧Bt 8000 j
theorem qM:dz X (binaryOp .FloorDiv) (rI uy fun i j=>.int (i.fdiv j)):=yI fun _ _ _ _ _ _ _ hc q=>
  floordiv_int hc.1 q (.inl (PyProof.noPylong_of_log2 (Nat.lt_trans (hc.2.log (by decide)) (by decide))))
def AE(K:PySem.W.Frag):R2:=fun x y H Q=>∃a b xs,x=.ref a∧y=.ref b∧ef K H a xs∧ef K H b []∧Q (.bl xs.isEmpty) H
theorem wd(hu:X.A.units < cLine):dz X (compareOp .Eq) (AE X.K):=by
  intro pins s σ H x y v u Q I rx ry h
  obtain⟨a,b,xs,rfl,rfl,ha,hb,q⟩:=h
  cases rx
  cases ry
  obtain⟨its,r,p,hz⟩:=I.list ha
  obtain⟨its2,r2,p2,hz2⟩:=I.list hb
  cases r2
  cases r with
  | nil=>
    refine SeqAt.eq_listAt (e:=fun _=>true) p.isList p2.isList rfl hu (fun j h1 h2=>by simp at h1) ?_
    exact⟨.bl true,H,I,rfl,q⟩
  | cons r rr=>
    refine SeqAt.eq_list_lengthsAt p.isList p2.isList (by simp) hu ?_
    exact⟨.bl false,H,I,rfl,q⟩
theorem wg:dz X (compareOp .Is) (fun x y H Q=>∃b c,x=.bl b∧y=.bl c∧Q (.bl (b==c)) H):=by
  intro pins s σ H x y v u Q I rx ry h
  obtain⟨b,c,rfl,rfl,q⟩:=h
  cases rx;cases ry
  exact is_bool ⟨.bl _,H,I,rfl,q⟩
end
def fJ(H H':Hp):Prop:=∀a o,H a=some o→(∀xs,o≠.lst xs)→(∀ob xs,o≠.frz ob (.lst xs))→H' a=some o
theorem fJ.trans{H H1 H2:Hp}(a:fJ H H1)(b:fJ H1 H2):fJ H H2:=fun c o h n m=>b c o (a c o h n m) n m
theorem av.ts{H H':Hp}(h:av H H'):fJ H H':=fun a o e _ _=>h a o e
theorem fJ.tup{K:PySem.W.Frag}{H H':Hp}(h:fJ H H'){a:Addr}{xs:List V}(q:dg K H a xs):dg K H' a xs:=by
  rcases q with (q | ⟨o,q⟩) | q
  · exact .inl (.inl (h _ _ q (fun _ e=>nomatch e) (fun _ _ e=>nomatch e)))
  · exact .inl (.inr ⟨o,h _ _ q (fun _ e=>nomatch e) (fun _ _ e=>nomatch e)⟩)
  · exact .inr q
section
variable{X:Cx}
end
end L2
namespace L2
open PySem PySem.Spec PyProof.Rows
structure bi (K:PySem.W.Frag) (mg:Str→Option Value) (x:Str) (st:Stmt) (f:Addr) (fd:FuncData) (ps:List Str):Prop where
  F:xK K x x st f fd
  m:mg x=some (.ref f)
  b:jK K fd ps []
theorem vF{K:PySem.W.Frag}{mg:Str→Option Value}{h:Heap}{x:Str}{st:Stmt}{f:Addr}{ps:List Str}{oc:Value}{od an:Option Addr}{osl:Array (Option Value)}{kV doc pm cdv ct:Value}(X:K.In h)(G:h.Ns mainGlobals mg)(a:PySem.W.nsIn K mainGlobals x=some (some (.ref f)))
    (l:K.lookup f=some ⟨oc,od,.func (PySem.W.fnOf x x (cF st) (bV st) (aj st) .none kV doc pm an cdv ct),osl⟩)(c:PySem.W.codeIn K cdv x=true)(k:PySem.W.keepIn K (.ref f)=true)
    (hb:∀(kV doc pm:Value) (an:Option Addr) (cdv ct:Value) (us:List Value),us.length=ps.length→bindArgs (PySem.W.fnOf x x (cF st) (bV st) (aj st) .none kV doc pm an cdv ct) ⟨us,[]⟩=pure (ps.zip us)):
    bi K mg x st f (PySem.W.fnOf x x (cF st) (bV st) (aj st) .none kV doc pm an cdv ct) ps:=⟨p_ l c k,PySem.W.mg_of X G a,(p_ l c k).binds hb⟩
theorem AA{X:Cx}{x:Str}{st:Stmt}{f:Addr}{fd:FuncData}{ps:List Str}{k:Nat}{sp:Sp}{e:Expr}{es:List Expr}{t:TA}{p pos:Pos}(h:bi X.K X.mg x st f fd ps)(G:aK X.prog X.w X.K X.mg X.base bU k f fd ps sp)(hr:cc k X.A)(ha:PA X (e::es) t)
    (hg:Gl X x:=by rfl)(hdb:(x==("__debug__":Str))=false:=by decide)(he:starEach (e::es) X.env=(false,eval e X.env)::starEach es X.env:=by rfl)(hpl:(backTo pos (starEach es X.env)).any (·.1)=false:=by rfl):
    PE X (.Call (.Name x p) (e::es) [] pos) (rQ sp [] E0 t):=tJ G hr hg h.m h.F.kp h.b .nil yO ha hdb he hpl
theorem av.new{H:Hp}{p:Addr}{o:HO}(h:H p=none):av H (a8 H p o):=fun b u e=>by
  rw [aF (cm e h)];exact e
theorem av.tup{K:PySem.W.Frag}{H H':Hp}{a:Addr}{xs:List V}(e:av H H')(h:dg K H a xs):dg K H' a xs:=e.ts.tup h
end L2
namespace L2
open PySem PySem.Spec PyProof.Rows
def dj(t b:Int):Int × Int:=if b < 0 then(t.fdiv (-(Int.gcd t b:Int)),b.fdiv (-(Int.gcd t b:Int))) else(t.fdiv (Int.gcd t b:Int),b.fdiv (Int.gcd t b:Int))
theorem qi(x y:Int):Int.gcd y (x.fmod y)=Int.gcd x y:=by
  rw [Int.fmod_def,Int.gcd_sub_mul_left_right,Int.gcd_comm]
theorem iB(x:Int){y:Int}(h:y≠0):(x.fmod y).natAbs < y.natAbs:=by
  rcases Int.lt_or_gt_of_ne h with h | h
  · have h1:x.fmod y= -((-x).fmod (-y)):=by
      have:=Int.neg_fmod_neg x y
      lia
    have h2:=Int.fmod_nonneg_of_pos (-x) (b:= -y) (by lia)
    have h3:=Int.fmod_lt_of_pos (-x) (b:= -y) (by lia)
    lia
  · have h2:=Int.fmod_nonneg_of_pos x h
    have h3:=Int.fmod_lt_of_pos x h
    lia
theorem oh{t b:Int}(h:b≠0):(0:Int) < Int.gcd t b:=by
  have:=Int.gcd_pos_of_ne_zero_right t h
  lia
theorem j6{t b:Int}(h:b≠0):∃d:Int,d.natAbs=Int.gcd t b∧d≠0∧(dj t b).1*d=t∧(dj t b).2*d=b∧0 < (dj t b).2:=by
  have hg:=oh (t:=t) h
  have d1:(Int.gcd t b:Int) ∣ t:=Int.gcd_dvd_left ..
  have d2:(Int.gcd t b:Int) ∣ b:=Int.gcd_dvd_right ..
  unfold dj
  split
  · rename_i hb
    have e1:t.fdiv (-(Int.gcd t b:Int))*(-(Int.gcd t b:Int))=t:=Int.fdiv_mul_cancel (Int.neg_dvd.mpr d1)
    have e2:b.fdiv (-(Int.gcd t b:Int))*(-(Int.gcd t b:Int))=b:=Int.fdiv_mul_cancel (Int.neg_dvd.mpr d2)
    refine⟨-(Int.gcd t b:Int),by lia,by lia,e1,e2,?_⟩
    show 0 < b.fdiv (-(Int.gcd t b:Int))
    have h3:b.fdiv (-(Int.gcd t b:Int))*(Int.gcd t b:Int)= -b:=by rw [Int.mul_neg] at e2;lia
    exact Int.pos_of_mul_pos_left (by lia) (by lia) (b:=(Int.gcd t b:Int))
  · rename_i hb
    have e1:t.fdiv (Int.gcd t b:Int)*(Int.gcd t b:Int)=t:=Int.fdiv_mul_cancel d1
    have e2:b.fdiv (Int.gcd t b:Int)*(Int.gcd t b:Int)=b:=Int.fdiv_mul_cancel d2
    refine⟨(Int.gcd t b:Int),by lia,by lia,e1,e2,?_⟩
    show 0 < b.fdiv (Int.gcd t b:Int)
    exact Int.pos_of_mul_pos_left (by lia) (by lia) (b:=(Int.gcd t b:Int))
theorem qy{t b:Int}(h:b≠0):Int.gcd (dj t b).1 (dj t b).2=1:=by
  obtain⟨d,h1,h2,h3,h4,h5⟩:=j6 (t:=t) h
  have e:Int.gcd ((dj t b).1*d) ((dj t b).2*d)=Int.gcd (dj t b).1 (dj t b).2*d.natAbs:=Int.gcd_mul_right ..
  rw [h3,h4,←h1] at e
  have hd:0 < d.natAbs:=by lia
  exact(Nat.eq_of_mul_eq_mul_right hd (by rw [Nat.one_mul];exact e)).symm
theorem vE{t b:Int}(h:b≠0){n:Nat}(hb:Bt n b):Bt n (Int.gcd t b:Int):=by
  refine hb.of_le ?_
  have h1:=Nat.le_of_dvd (show 0 < b.natAbs by lia) (Int.ofNat_dvd.mp (by rw [Int.dvd_natAbs];exact Int.gcd_dvd_right t b))
  lia
mutual
def cnt:PyData→Nat
  | .tuple ds=>1+fW ds
  | .str _=>0
  | _=>1
def fW:List PyData→Nat
  | []=>0
  | d::ds=>cnt d+fW ds
end
mutual
def jj:PyData→Bool
  | .tuple ds=>en ds
  | .str _=>false
  | .list _=>false
  | .dict _=>false
  | _=>true
def en:List PyData→Bool
  | []=>true
  | d::ds=>jj d&&en ds
end
theorem jG{a:Int}(h:a.natAbs.log2 < 1920):(Str.ofString (toString a)).length≤1921:=by
  have e:=int_text_length_le (k:=1920) (by decide) h
  rw [PySem.ofString_length];lia
theorem ni(x:Str)(r:List Str):piled (x::r)=x.length+2+piled r:=by
  simp [piled]
theorem pF(ts:List Str):(tupleText ts).length≤piled ts+3:=by
  unfold tupleText
  rw [strLen_append,strLen_append]
  have h1:(("(":Str)).length=1:=by decide
  have h2:(Str.ofString (if (ts.length==1)=true then ",)" else ")")).length≤2:=by split<;>decide
  have h3:(Str.join ", " ts).length≤piled ts:=by
    cases ts with
    | nil=>show(Str.join ", " []).length≤0;decide
    | cons x r=>have:=join_length_add (x::r) (by simp);lia
  lia
mutual
theorem kc:∀{d:PyData},jj d=true→d.showable=true→d.shown.length+2≤2000*cnt d
  | .none,_,_=>by show(Str.ofString "None").length+2≤2000*1;decide
  | .bool b,_,_=>by
    cases b
    · show(Str.ofString "False").length+2≤2000*1;decide
    · show(Str.ofString "True").length+2≤2000*1;decide
  | .int i,_,hs=>by
    simp only [PyData.showable,decide_eq_true_eq] at hs
    have:=jG hs
    show(Str.ofString (toString i)).length+2≤2000*1
    lia
  | .tuple ds,hn,hs=>by
    simp only [PyData.showable] at hs
    simp only [jj] at hn
    have h1:=hV hn hs
    have h2:=pF (PyData.shownAll ds)
    simp only [PyData.shown,cnt]
    lia
  | .str _,hn,_=>by simp [jj] at hn
  | .list _,hn,_=>by simp [jj] at hn
  | .dict _,hn,_=>by simp [jj] at hn
theorem hV:∀{ds:List PyData},en ds=true→PyData.showableAll ds=true→piled (PyData.shownAll ds)≤2000*fW ds
  | [],_,_=>by simp [PyData.shownAll,piled]
  | d::ds,hn,hs=>by
    simp only [en,Bool.and_eq_true] at hn
    simp only [PyData.showableAll,Bool.and_eq_true] at hs
    have h1:=kc hn.1 hs.1
    have h2:=hV hn.2 hs.2
    simp only [PyData.shownAll,fW,ni]
    lia
end
end L2
namespace L2
open PySem PySem.Spec PyProof.Rows
def eI(env:Env):List (Str × NameKind)→List (Str × Addr)→List (Str × Addr)
  | [],cs=>cs
  | (n,k)::r,cs=>eI env r (if k==.free then(n,(env.cells.lookup n).getD 0)::cs else cs)
theorem gB{env:Env}:∀(names:List (Str × NameKind)) (cs:List (Str × Addr)),(∀y∈names,y.2=.free→∃c,env.cells.lookup y.1=some c)→
    (forIn names cs (fun(x:Str × NameKind) (r:List (Str × Addr))=>(if (x.2==NameKind.free)=true then do let a ←cellOf env x.1;pure (ForInStep.yield ((x.1,a)::r)) else pure (ForInStep.yield r):Sem (ForInStep (List (Str × Addr))))):Sem (List (Str × Addr)))=pure (eI env names cs)
  | [],cs,_=>rfl
  | (n,k)::r,cs,h=>by
    rw [List.forIn_cons]
    have ih:=fun cs'=>gB (env:=env) r cs' (fun y hy=>h y (List.mem_cons_of_mem _ hy))
    by_cases hk:(k==NameKind.free)=true
    · have hk':k=.free:=by simpa using hk
      obtain⟨c,hc⟩:=h (n,k) List.mem_cons_self hk'
      have e:cellOf env n=pure c:=by unfold cellOf;rw [hc]
      simp only [hk,if_true,e,pure_bind,eI,hc,Option.getD_some]
      exact ih _
    · have hk':(k==NameKind.free)=false:=by simpa using hk
      simp only [hk',Bool.false_eq_true,if_false,pure_bind,eI]
      exact ih _
theorem i5{scope:Scope}{env:Env}(h:∀y∈scope.names,y.2=.free→∃c,env.cells.lookup y.1=some c):closureFor scope env=pure (eI env scope.names []):=by
  have e:=gB (env:=env) scope.names [] h
  unfold closureFor
  simp only [pure_bind,bind_pure] at e ⊢
  exact e
theorem fV{env:Env}:∀(names:List (Str × NameKind)) (cs:List (Str × Addr)) (x:Str) (c:Addr),(∀y∈names,y.2=.free→∃c,env.cells.lookup y.1=some c)→(∀x c,cs.lookup x=some c→env.cells.lookup x=some c)→(eI env names cs).lookup x=some c→env.cells.lookup x=some c
  | [],cs,x,c,_,hs,h=>hs x c h
  | (n,k)::r,cs,x,c,hn,hs,h=>by
    refine fV r _ x c (fun y hy=>hn y (List.mem_cons_of_mem _ hy)) (fun x' c' e=>?_) h
    by_cases hk:(k==NameKind.free)=true
    · rw [if_pos hk] at e
      obtain⟨c0,hc⟩:=hn (n,k) List.mem_cons_self (by simpa using hk)
      rw [List.lookup_cons] at e
      cases hx:x'==n with
      | true=>
        rw [hx] at e
        have e1:x'=n:=by simpa using hx
        subst e1
        simp only [hc,Option.getD_some,Option.some.injEq] at e
        rw [←e];exact hc
      | false=>rw [hx] at e;exact hs x' c' e
    · rw [if_neg hk] at e
      exact hs x' c' e
theorem i4{env:Env}:∀(names:List (Str × NameKind)) (cs:List (Str × Addr)) (x:Str),((∃y∈names,y.1=x∧y.2=.free)∨∃c,cs.lookup x=some c)→∃c,(eI env names cs).lookup x=some c
  | [],cs,x,h=>by
    rcases h with ⟨y,hy,_⟩ | h
    · cases hy
    · exact h
  | (n,k)::r,cs,x,h=>by
    refine i4 r _ x ?_
    by_cases hk:(k==NameKind.free)=true
    · rw [if_pos hk,List.lookup_cons]
      cases hx:x==n with
      | true=>exact .inr ⟨_,rfl⟩
      | false=>
        rcases h with ⟨y,hy,e1,e2⟩ | h
        · rcases List.mem_cons.mp hy with z | z
          · subst z;subst e1;simp at hx
          · exact .inl ⟨y,z,e1,e2⟩
        · exact .inr h
    · rw [if_neg hk]
      rcases h with ⟨y,hy,e1,e2⟩ | h
      · rcases List.mem_cons.mp hy with z | z
        · subst z;exact absurd (by simpa using e2) hk
        · exact .inl ⟨y,z,e1,e2⟩
      · exact .inr h
theorem cI{env:Env}:∀{names:List (Str × NameKind)} {x:Str},(∀y∈names,y.2≠.cell)→(names.map fun(n,k)=>if (k==NameKind.free&&env.scope.kind==.function&&env.kindOf n==some .cell) then(n,NameKind.cell) else(n,k)).lookup x=some .cell∨
    (names.map fun(n,k)=>if (k==NameKind.free&&env.scope.kind==.function&&env.kindOf n==some .cell) then(n,NameKind.cell) else(n,k)).lookup x=some .free→∃y∈names,y.1=x∧y.2=.free
  | [],x,_,h=>by simp at h
  | (n,k)::r,x,hc,h=>by
    have ih:=@cI env r x (fun y hy=>hc y (List.mem_cons_of_mem _ hy))
    have nc:k≠.cell:=hc (n,k) List.mem_cons_self
    rw [List.map_cons] at h
    cases hx:x==n with
    | true=>
      have e1:x=n:=by simpa using hx
      subst e1
      refine⟨(x,k),List.mem_cons_self,rfl,?_⟩
      by_cases q:(k==NameKind.free&&env.scope.kind==.function&&env.kindOf x==some .cell)=true
      · simp only [Bool.and_eq_true,beq_iff_eq] at q;exact q.1.1
      · simp only [q,Bool.false_eq_true,if_false,List.lookup_cons,beq_self_eq_true,Option.some.injEq] at h
        rcases h with h | h
        · exact absurd h nc
        · exact h
    | false=>
      have e2:∀(l:List (Str × NameKind)),((if (k==NameKind.free&&env.scope.kind==.function&&env.kindOf n==some .cell)=true then(n,NameKind.cell) else(n,k))::l).lookup x=l.lookup x:=fun l=>by
        split<;>simp [List.lookup_cons,hx]
      simp only [e2] at h
      obtain⟨y,hy,z⟩:=ih h
      exact⟨y,List.mem_cons_of_mem _ hy,z⟩
theorem dm{env:Env}:∀{names:List (Str × NameKind)} {x:Str},names.lookup x=some .free→
    (names.map fun(n,k)=>if (k==NameKind.free&&env.scope.kind==.function&&env.kindOf n==some .cell) then(n,NameKind.cell) else(n,k)).lookup x≠some .local
  | [],x,h=>by simp at h
  | (n,k)::r,x,h=>by
    rw [List.map_cons]
    cases hx:x==n with
    | true=>
      simp only [hx,List.lookup_cons] at h
      cases h
      show List.lookup x ((if (NameKind.free==NameKind.free&&env.scope.kind==.function&&env.kindOf n==some .cell)=true then(n,NameKind.cell) else(n,NameKind.free))::_)≠_
      split<;>simp [List.lookup_cons,hx]
    | false=>
      simp only [hx,List.lookup_cons] at h
      have ih:=@dm env r x h
      have e2:∀(l:List (Str × NameKind)),((if (k==NameKind.free&&env.scope.kind==.function&&env.kindOf n==some .cell)=true then(n,NameKind.cell) else(n,k))::l).lookup x=l.lookup x:=fun l=>by
        split<;>simp [List.lookup_cons,hx]
      simp only [e2]
      exact ih
def aH(X:Cx)(scope:Scope)(cp:List (Nat × Str))(tgN:List Str)(C:Addr)(s0:Shared)(H0:Hp)(fp:List Addr):Cx where
  prog:=X.prog
  w:=X.w
  K:=X.K
  mg:=X.mg
  base:=X.base
  A:=X.A
  N:=cp.map (·.2)++tgN
  s₀:=s0
  H₀:=H0
  env:=compEnvC scope (eI X.env scope.names []) C X.env
  outer:=X.stack
  stack:=X.stack
  ex:=fp
  fn:=fun x=>scope.names.lookup x==some .local
  calm:=X.calm
  pn:=[]
  xe:=fun _ _=>False
def pO(X:Cx)(ifs:List Expr)(t:TT):Prop:=
  ∀(pins:List (Addr × Obj)) (s:Shared) (σ:L2.St) (H:Hp) (Q:Bool→Hp→Prop),aw X pins σ H s→t σ H Q→
    wpAny (model X.prog X.w) X.A (forIn ifs true fun c r=>if r=true then do let ok ←isTrue c X.env (eval c X.env);pure (ForInStep.yield ok) else pure (ForInStep.yield r)) (TP X pins σ Q) X.xe s
theorem ua{X:Cx}:pO X [] (fun _ H Q=>Q true H):=fun _ _ _ H _ I h=>wpAny_tests_nil ⟨H,I,h⟩
theorem uc{X:Cx}{c:Expr}{t:TT}(h:PT X c t):pO X [c] t:=fun pins s σ H Q I q=>wpAny_tests_one (h pins s σ H Q I q)
abbrev xQ:Value→Shared→Prop:=fun _ _=>False
def vx(prog:Program)(w:World)(A:Around)(elt tg:Expr)(ifs:List Expr)(env:Env)(it acc:Value)(onward:Shared→Prop)(v:Value)(u:Shared):Prop:=
  wpAny (model prog w) A (letOwnedTupleGo tg it v) (fun _ u1=>wpAny (model prog w) A (assign tg env v) (fun _ u2=>wpAny (model prog w) A
    (forIn ifs true fun c r=>if r=true then do let ok ←isTrue c env (eval c env);pure (ForInStep.yield ok) else pure (ForInStep.yield r)) (fun ok u3=>if ok=true then wpAny (model prog w) A (eval elt env) (fun x u4=>wpAny (model prog w) A (call (.builtin "list.append") [acc,x]) (fun _ u5=>onward u5) xQ u4) xQ u3 else onward u3) xQ u2) xQ u1) xQ u
theorem gC{prog:Program}{w:World}{A:Around}{R:Result→Shared→Prop}{elt tg iter:Expr}{ifs:List Expr}{scope:Scope}{pos:Pos}{it acc:Value}{env:Env}(J:Nat→Shared→Prop)
    (turn:∀n u,J n u→wpAny (model prog w) A (pyNext it) (fun r u1=>(r=none→R (.ok .next) u1)∧∀v,r=some v→vx prog w A elt tg ifs env it acc (fun u2=>∃m,m < n∧J m u2) v u1) xQ u){n0:Nat}{u0:Shared}(dW:J n0 u0):
    codeAny (model prog w) A (.compLoop (.ListComp elt [⟨tg,iter,ifs,0⟩] scope pos) 0 it acc env) R u0:=by
  refine codeAny_loop rfl J (fun n u ju=>?_) n0 dW
  show wpAny _ A ((compTurn (.ListComp elt [⟨tg,iter,ifs,0⟩] scope pos) 0 it acc env).onRaise _) _ _ u;refine wpAny_noted ?_;rw [compTurn_list]
  refine wpAny_bind (wpAny_standAt (wpAny_bind (wpAny_mono (turn n u ju) (fun r u1 k1=>?_) fun _ _ z=>z.elim)))
  cases r with
  | none=>exact wpAny_pure (k1.1 rfl)
  | some v=>
    refine wpAny_bind (wpAny_mono (k1.2 v rfl) (fun _ u2 k2=>wpAny_bind (wpAny_mono k2 (fun _ u3 k3=>wpAny_bind (wpAny_mono k3 (fun ok u4 k4=>?_) fun _ _ z=>z.elim)) fun _ _ z=>z.elim)) fun _ _ z=>z.elim)
    cases ok with
    | false=>rw [if_neg Bool.false_ne_true] at k4;exact wpAny_pure ⟨rfl,k4⟩
    | true=>
      rw [if_pos rfl] at k4
      refine wpAny_bind (wpAny_bind (wpAny_mono k4 (fun x u5 k5=>wpAny_bind (wpAny_mono k5 (fun _ u6 k6=>?_) fun _ _ z=>z.elim)) fun _ _ z=>z.elim));exact wpAny_pure (wpAny_pure ⟨rfl,k6⟩)
def et(cp:List (Nat × Str))(nT:Nat)(σ:L2.St):L2.St:=cp.map (fun p=>(σ[p.1]?).join)++List.replicate nT none
structure oD (cp:List (Nat × Str)) (nT:Nat) (wi:TI) (g:TG) (tc:TT) (te:TE) (σ:L2.St) (H:Hp) (Q:VK):Prop where
  go:wi σ H fun J H1=>∀l,H1 l=none→
  ∃W:Nat→Nat→L2.St→Hp→Prop,(∃m,W 0 m (et cp nT σ) (a8 H1 l (.lst [])))∧∀i m σ' H',W i m σ' H'→
    (J.stop i H'∧Q (.ref l) H')∨(J.go i H'∧∃N:L2.St→Hp→Prop,(∀σ2 H2,N σ2 H2→∃m',m' < m∧W (i+1) m' σ2 H2)∧
      ∀x H2,J.yld i H' x H2→g x σ' H2 fun σ2 H3=>tc σ2 H3 fun b H4=>if b=true then te σ2 H4 fun v H5=>∃ys,H5 l=some (.lst ys)∧ys.length < sizeLine∧N σ2 (a8 H5 l (.lst (ys++[v]))) else N σ2 H4)
theorem tL{X:Cx}{elt iter tg:Expr}{ifs:List Expr}{scope:Scope}{pos:Pos}{wi:TI}{g:TG}{tc:TT}{te:TE}(sc0:Scope)(N0:List Str)(cp:List (Nat × Str))(tgN:List Str)
    (hc:X.calm=true)(hsc:X.env.scope=sc0)(hN0:X.N=N0)(hi:PI X tg iter wi)
    (hg:∀C s0 H0 fp,PG (aH X scope cp tgN C s0 H0 fp) tg g)
    (ht:∀C s0 H0 fp,pO (aH X scope cp tgN C s0 H0 fp) ifs tc)
    (he:∀C s0 H0 fp,PE (aH X scope cp tgN C s0 H0 fp) elt te)
    (hk:scope.kind=.function)(hcell:∀y∈scope.names,y.2≠.cell)(hnames:∀y∈scope.names,y.2=.local→scope.names.lookup y.1=some .local)
    (hfr:∀y∈scope.names,y.2=.free→scope.names.lookup y.1=some .free∧sc0.names.lookup y.1=some .cell)
    (hcp:∀p∈cp,N0[p.1]?=some p.2)(hcq:∀p∈cp,sc0.names.lookup p.2=some .cell∧scope.names.lookup p.2=some .free)
    (hs:∀x,foldedSetIterable iter X.env x=pure x:=by intro _;rfl):
    PE X (.ListComp elt [⟨tg,iter,ifs,0⟩] scope pos) (oD cp tgN.length wi g tc te):=by
  intro pins s σ H Q I h
  have hkind:∀x,X.env.kindOf x=sc0.names.lookup x:=fun x=>by unfold Env.kindOf;rw [hsc]
  have hfree:∀y∈scope.names,y.2=.free→∃c,X.env.cells.lookup y.1=some c:=fun y hy e=>I.ok.has y.1 (.inl (by rw [hkind];exact(hfr y hy e).2))
  rw [eval_ListComp]
  refine wpAny_comprehension_free (use:=none) rfl hs (i5 hfree) hk hnames (wpAny_mono (hi pins s σ H _ I h.go) (fun xv s₁ h₁=>wpAny_mono h₁ (fun itv s₂ h₂=>?_) fun _ _ e=>e) fun _ _ e=>e)
  obtain⟨it,fp,tn,J,H2,rfl,I2,T,st2,f2,hq⟩:=h₂
  refine wpAny_newObj_type ?_
  have hlF:H2 s₂.heap.objs.size=none:=I2.hok.fresh (Nat.le_refl _)
  have I3:aw X pins σ (a8 H2 s₂.heap.objs.size (.lst [])) {s₂ with heap:=s₂.heap.push {cls:=.type "list",data:=.seq ([]:List Value).toArray}}:=I2.lnew (t':=s₂.toks) .nil (Nat.zero_le _)
  obtain⟨W,⟨m0,w0⟩,turn⟩:=hq _ hlF
  have f3:∀b∈fp,iI X pins (a8 H2 s₂.heap.objs.size (.lst [])) b:=fun b hb=>by
    obtain⟨f0,fr⟩:=f2 b hb
    obtain⟨o,ho,_⟩:=T.obj _ _ st2 b hb
    exact⟨by rw [aF (Nat.ne_of_lt (Heap.lt_size ho))];exact f0,fr⟩
  have st3:tn 0 (s₂.heap.push {cls:=.type "list",data:=.seq ([]:List Value).toArray}):=T.keep _ _ _ st2 fun b _ o e=>Heap.get?_push_of_some _ e
  generalize hD:s₂.heap.objs.size=D at*
  generalize hs3:({s₂ with heap:=s₂.heap.push {cls:=.type "list",data:=.seq ([]:List Value).toArray}}:Shared)=s₃ at*
  have hst3:tn 0 s₃.heap:=by rw [←hs3];exact st3
  refine wpAny_newFunctionEnv hcell (by intro y hy;simp at hy) (fun h₁ hns₁ hsb₁=>?_) hk
  generalize hC:s₃.heap.objs.size=C at*
  have old:∀b o,s₃.heap.get? b=some o→h₁.get? b=some o:=fun b o e=>hsb₁.extBut b o (by rw [←hC];exact Nat.ne_of_lt (Heap.lt_size e)) (Heap.get?_push_of_some _ e)
  have nC:∀b o,s₃.heap.get? b=some o→b≠C:=fun b o e=>by rw [←hC];exact Nat.ne_of_lt (Heap.lt_size e)
  have hHC:(a8 H2 D (.lst [])) C=none:=I3.hok.fresh (by rw [hC];exact Nat.le_refl _)
  have clS:∀x c,(eI X.env scope.names []).lookup x=some c→X.env.cells.lookup x=some c:=fun x c e=>fV _ _ x c hfree (fun _ _ z=>by simp at z) e
  have clH:∀x,(∃y∈scope.names,y.1=x∧y.2=.free)→∃c,(eI X.env scope.names []).lookup x=some c:=fun x e=>i4 _ _ x (.inl e)
  have ok':(aH X scope cp tgN C s₃ (a8 H2 D (.lst [])) fp).Ok:=by
    refine⟨I.ok.mod,hk,I.ok.glob,I.ok.blt,by rw [←hC];exact Nat.le_refl _,fun x y c e1 e2=>I.ok.inj x y c (clS _ _ e1) (clS _ _ e2),fun x e=>clH x (cI hcell e),fun x c e1 e2=>?_,I.ok.hd,I.ok.frames,.inl rfl,fun b hb=>?_,fun b o e=>I3.bs b o e,?_,fun b o e hb=>?_,fun b hb z=>?_,I3.stack,fun b hb=>I3.stkFree b hb⟩
    · exfalso
      have e1':scope.names.lookup x=some .local:=by simpa [aH] using e1
      have e2':=clS x c e2
      obtain⟨c',hc'⟩:∃y∈scope.names,y.1=x∧y.2=.free:=by
        by_cases q:∃y∈scope.names,y.1=x∧y.2=.free
        · exact q
        · exfalso
          have:∀(names:List (Str × NameKind)) (cs:List (Str × Addr)),(¬∃y∈names,y.1=x∧y.2=.free)→cs.lookup x=none→(eI X.env names cs).lookup x=none:=by
            intro names
            induction names with
            | nil=>intro cs _ h;exact h
            | cons y r ih=>
              intro cs hn hcs
              obtain⟨n,k⟩:=y
              refine ih _ (fun⟨y,hy,z⟩=>hn ⟨y,List.mem_cons_of_mem _ hy,z⟩) ?_
              by_cases hk:(k==NameKind.free)=true
              · rw [if_pos hk,List.lookup_cons]
                cases hx:x==n with
                | true=>exact absurd ⟨(n,k),List.mem_cons_self,(by simpa using hx:x=n).symm,by simpa using hk⟩ hn
                | false=>exact hcs
              · rw [if_neg hk];exact hcs
          have z:=this scope.names [] q rfl
          have e2'':(eI X.env scope.names []).lookup x=some c:=e2
          rw [z] at e2'';cases e2''
      have z:=(hfr c' hc'.1 hc'.2.2).1
      rw [hc'.2.1,e1'] at z;cases z
    · obtain⟨f0,f1,f4,f5,f6,f7⟩:=f3 b hb
      obtain⟨o,ho,_⟩:=T.obj _ _ hst3 b hb
      exact⟨nC b o ho,fun x c e=>f6 x c (clS x c e)⟩
    · exact Nat.le_trans I.ok.bsz I3.sz
    · obtain⟨f0,f1,f4,f5,f6,f7⟩:=f3 b hb
      rcases f5 with z | z
      · exact I.ok.noex b o e z
      · have:=(I.ok.bs b o e).1
        exact absurd (Nat.lt_of_lt_of_le (Heap.lt_size this) z) (Nat.lt_irrefl _)
    · obtain⟨f0,f1,f4,f5,f6,f7⟩:=f3 b hb
      rcases List.mem_cons.mp (I3.stkSub b z) with z | z
      · exact f1 z
      · exact f4 z
  have I4:aw (aH X scope cp tgN C s₃ (a8 H2 D (.lst [])) fp) [] (et cp tgN.length σ) (a8 H2 D (.lst [])) {s₃ with heap:=h₁,toks:=s₃.toks+([]:List (Str × Value)).length}:=by
    refine⟨ok',rfl,I3.bare,Un.kept old,⟨_,hns₁,fun i x v e1 e2 e3=>?_⟩,fun x c e=>?_,hHC,fun x c e=>I3.freeC x c (clS x c e),fun p hp=>by simp [aH] at hp,I3.hok.kept old,by simp [et,aH]⟩
    · have hlt:i < cp.length:=by
        by_cases q:i < cp.length
        · exact q
        · exfalso
          unfold et at e2
          rw [List.getElem?_append_right (by simp;lia)] at e2
          rw [List.getElem?_replicate] at e2
          split at e2<;>cases e2
      have e1':(cp.map (·.2))[i]?=some x:=by
        have e1'':(cp.map (·.2)++tgN)[i]?=some x:=e1
        rwa [List.getElem?_append_left (by simp;exact hlt)] at e1''
      have e2':(cp.map (fun p=>(σ[p.1]?).join))[i]?=some (some v):=by
        unfold et at e2
        rwa [List.getElem?_append_left (by simp;exact hlt)] at e2
      rw [List.getElem?_map,List.getElem?_eq_getElem hlt] at e1' e2'
      have ex:(cp[i]).2=x:=by simpa using e1'
      have ev:(σ[(cp[i]).1]?).join=some v:=by simpa using e2'
      have ev':σ[(cp[i]).1]?=some (some v):=by
        cases q:σ[(cp[i]).1]? with
        | none=>rw [q] at ev;cases ev
        | some z=>rw [q] at ev;simp only [Option.join_some] at ev;rw [ev]
      have hN:=hcp cp[i] (List.getElem_mem hlt)
      rw [←hN0] at hN
      obtain⟨hcl,hcf⟩:=hcq cp[i] (List.getElem_mem hlt)
      rw [ex] at hN hcl hcf
      obtain⟨m,hn,hl⟩:=I3.loc
      obtain⟨u,r,l⟩:=hl _ x v hN ev' (.inr (.inl (by rw [hsc];exact hcl)))
      refine⟨u,r,.inr ?_⟩
      rcases l with ⟨k1,_⟩ | ⟨k1,c,hcc,o,ho,hd⟩
      · rw [hkind,hcl] at k1;cases k1
      · have e3':(relabel scope X.env).names.lookup x=some .local∨(relabel scope X.env).names.lookup x=some .cell∨(relabel scope X.env).names.lookup x=some .free:=e3
        have nl:(relabel scope X.env).names.lookup x=some .cell∨(relabel scope X.env).names.lookup x=some .free:=by
          rcases e3' with z | z | z
          · exact absurd z (dm hcf)
          · exact .inl z
          · exact .inr z
        obtain⟨c',hc'⟩:=clH x (cI hcell nl)
        have:=clS x c' hc'
        rw [hcc] at this;cases this
        exact⟨nl,c,hc',o,old c o ho,hd⟩
    · obtain⟨v,o,ho,hd⟩:=I3.cell x c (clS x c e)
      exact⟨v,o,old c o ho,hd⟩
  have hst4:tn 0 h₁:=T.keep _ _ _ hst3 fun b _ o e=>old b o e
  have loop:codeAny (model X.prog X.w) X.A (.compLoop (.ListComp elt [⟨tg,iter,ifs,0⟩] scope pos) 0 (.ref it) (.ref D) (compEnvC scope (eI X.env scope.names []) C X.env))
      (compPost (model X.prog X.w) X.A X.xe none (EP X pins σ Q) (.ref D) C) {s₃ with heap:=h₁,toks:=s₃.toks+([]:List (Str × Value)).length}:=by
    refine gC (fun n s'=>∃i σ' H',aw (aH X scope cp tgN C s₃ (a8 H2 D (.lst [])) fp) [] σ' H' s'∧tn i s'.heap∧(∀b∈fp,H' b=none)∧W i n σ' H') ?_ (n0:=m0) ⟨0,_,_,I4,hst4,fun b hb=>(f3 b hb).1,w0⟩
    rintro n s5 ⟨i,σ5,H5,I5,st5,fr5,w5⟩
    have stat:∀{H':Hp},(∀b∈fp,H' b=none)→∀b∈fp,iI (aH X scope cp tgN C s₃ (a8 H2 D (.lst [])) fp) [] H' b:=fun hn b hb=>
      ⟨hn b hb,(ok'.exf b hb).1,ok'.exfs b hb,.inl hb,(ok'.exf b hb).2,fun p hp=>by simp [aH] at hp⟩
    rcases turn i n σ5 H5 w5 with ⟨stop,qn⟩ | ⟨go,N,hN,step⟩
    · refine bF (T.done (aH X scope cp tgN C s₃ (a8 H2 D (.lst [])) fp) rfl rfl rfl hc i [] s5 σ5 H5 (fun _ _=>False) I5 (stat fr5) st5 stop) fun r s6 ⟨hr,I6⟩=>?_
      subst hr
      refine⟨fun _=>?_,fun v z=>by cases z⟩
      obtain⟨m,hn,_⟩:=I6.loc
      refine⟨m,hn,fun h' sb=>⟨.ref D,H5,?_,rfl,qn⟩⟩
      have ub:=I6.base
      have kp:∀b u,b≠C→s6.heap.get? b=some u→h'.get? b=some u:=fun b u ne e=>sb.extBut b u ne e
      have nit:∀b u,H5 b=some u→b≠C:=fun b u e z=>by
        have:=I6.free
        rw [z] at e
        rw [show H5 C=none from this] at e;cases e
      refine I3.call' (s':={s6 with heap:=h'}) (ch:=fp) I6.os ⟨fun b o e n hb hx=>kp b o (nC b o e) (ub.keep b o e n hb hx),fun b o e n hb hx=>?_,ub.free,fun b o e hx=>?_,ub.tups,ub.frzs,ub.tbls⟩ (fun b u e=>?_) I6.bare (fun b hb=>?_)
      · obtain⟨sl,q⟩:=ub.slot b o e n hb hx
        exact⟨sl,kp b _ (nC b o e) q⟩
      · obtain⟨o',q⟩:=ub.there b o e hx
        exact⟨o',kp b _ (nC b o e) q⟩
      · refine(I6.hok b u e).stay (fun c v hc q=>kp c v ?_ q) (fun _ q=>q) fun _ _ q=>q
        rcases hc with z | z
        · rw [z];exact nit b u e
        · exact nit c _ z
      · obtain⟨f0,f1,f4,f5,f6,f7⟩:=f3 b hb
        exact⟨f5,f1,f6,f7⟩
    · refine bF (T.item (aH X scope cp tgN C s₃ (a8 H2 D (.lst [])) fp) rfl rfl rfl hc i [] s5 σ5 H5 (fun _ _=>False) I5 (stat fr5) st5 go) fun r s6 ⟨u,hr,h6⟩=>?_
      subst hr
      refine⟨fun z=>(by cases z),fun v z=>?_⟩
      cases z
      refine bF h6 fun _ s7 ⟨x,H7,I7,r7,y7,st7,fr7⟩=>?_
      have I7':=I7.pinned (stat fr7) (T.obj _ _ st7)
      have again:∀{σ8:L2.St} {H8:Hp} {s8:Shared},aw (aH X scope cp tgN C s₃ (a8 H2 D (.lst [])) fp) ([]++ip fp s7.heap) σ8 H8 s8→N σ8 H8→∃m,m < n∧∃i σ' H',aw (aH X scope cp tgN C s₃ (a8 H2 D (.lst [])) fp) [] σ' H' s8∧tn i s8.heap∧(∀b∈fp,H' b=none)∧W i m σ' H':=fun{σ8 H8 s8} I8 n8=>by
        obtain⟨m',hm,w8⟩:=hN σ8 H8 n8
        refine⟨m',hm,i+1,σ8,H8,I8.unpinned,T.keep _ _ _ st7 fun b hb o e=>(I8.pin (b,o) (List.mem_append_right _ (List.mem_append_right _ (cQ hb e)))).1,fun b hb=>?_,w8⟩
        obtain⟨o,e,d⟩:=T.obj _ _ st7 b hb
        exact(I8.pin (b,o) (List.mem_append_right _ (List.mem_append_right _ (cQ hb e)))).2.1
      refine bF (hg C s₃ (a8 H2 D (.lst [])) fp _ s7 σ5 H7 x u _ I7' r7 (step x H7 y7)) fun _ s8 ⟨σ8,H8,I8,q8⟩=>?_
      refine bF (ht C s₃ (a8 H2 D (.lst [])) fp _ s8 σ8 H8 _ I8 q8) fun ok s9 ⟨H9,I9,q9⟩=>?_
      cases ok with
      | false=>
        rw [if_neg Bool.false_ne_true] at q9 ⊢
        exact again I9 q9
      | true=>
        rw [if_pos rfl] at q9 ⊢
        refine bF (he C s₃ (a8 H2 D (.lst [])) fp _ s9 σ8 H9 _ I9 q9) fun v s10 ⟨xv,H10,I10,r10,ys,hl,hz,n10⟩=>?_
        refine bF (il _ s10 σ8 H10 (.ref D) [xv] (.ref D) [v] (fun _ H=>N σ8 H) I10 rfl (.cons r10 .nil) ⟨D,ys,xv,rfl,rfl,hl,hz,n10⟩) fun _ s11 ⟨_,H11,I11,_,q11⟩=>?_
        exact again I11 q11
  exact codeAny_compStart_list loop (T.self X.A 0 _ _ _ hst4 loop)
end L2
namespace L2
open PySem PySem.Spec PyProof.Rows
section
variable{X:Cx}
def rB(K:PySem.W.Frag):R2:=fun x y H Q=>∃a b xs ys,x=.ref a∧y=.ref b∧dg K H a xs∧dg K H b ys∧xs.length+ys.length≤sizeLine∧∀p H',av H H'→dg K H' p (xs++ys)→Q (.ref p) H'
theorem tf:dz X (binaryOp .Add) (rB X.K):=by
  intro pins s σ H x y v u Q I rx ry h
  obtain⟨a,b,xs,ys,rfl,rfl,ha,hb,hz,q⟩:=h
  cases rx;cases ry
  by_cases hx:xs=[]
  · obtain⟨i1,r1,p1,_⟩:=I.tuple ha
    obtain⟨i2,r2,p2,_⟩:=I.tuple hb
    obtain⟨m,F⟩:=I.fr
    have e1:i1=[]:=by subst hx;cases r1;rfl
    refine add_tuples F (qD (g:=X.base)) p1 p2 (fun _=>?_) (fun z1 _=>absurd e1 z1) (fun z1 _ _ _ _=>absurd e1 z1) (by rw [←r1.length,←r2.length];exact hz)
    exact⟨.ref b,H,I,rfl,q b H (av.refl H) (by rw [hx];exact hb)⟩
  · exact tj pins s σ H (.ref a) (.ref b) _ _ Q I rfl rfl ⟨a,b,xs,ys,rfl,rfl,ha,hb,hx,hz,fun z=>q a H (av.refl H) (by rw [z,List.append_nil];exact ha),fun _ p hp=>q p _ (av.new hp) (dg.of au)⟩
theorem qL{x:V}{us:List Value}(r:aB [x] us):∃u,us=[u]∧a' x u:=by
  cases r with
  | cons p p'=>cases p';exact⟨_,rfl,p⟩
end
end L2
namespace L2
open PySem PySem.Spec PyProof.Rows
section
variable{X:Cx}
end
theorem pC{e:Expr}{es:List Expr}{env:Env}(h:PySem.W.isStarred e=false):starEach (e::es) env=(false,eval e env)::starEach es env:=by
  cases e<;>first | rfl | cases h
theorem Az{X:Cx}{e:Expr}{es:List Expr}{te:TE}{t:TA}(ha:PE X e te)(hr:PA X es t)(h:PySem.W.isStarred e=false:=by rfl):PA X (e::es) (mB te t):=k7 ha hr (pC h)
def oE:List (Int × Int)→TA
  | []=>xu
  | p::r=>mB (zB (mB (tC (.int p.1)) (mB (tC (.int p.2)) xu))) (oE r)
@[irreducible] def AN(ps:List (Int × Int)):TA:=oE ps
structure fK where
  one:Int
  other:Int
  top:Int
  bot:Int
  worth:Int
structure bE where
  things:Int
  ties:List fK
  pat:List Int
  asks:Int
structure fK.Ok (n:Int) (t:fK):Prop where
  o0:0≤t.one
  o1:t.one < t.other
  o2:t.other < n
  c0:0≤t.top
  c1:t.top≤t.bot
  b0:1≤t.bot
  b1:t.bot≤100
  w0:0≤t.worth
  w1:t.worth≤1000
  cop:Int.gcd t.top t.bot=1
structure bE.Ok (w:bE):Prop where
  t0:0≤w.things
  t1:w.things≤12
  ties:∀t∈w.ties,t.Ok w.things
  len:w.ties.length≤16
  pl:(w.pat.length:Int)=w.things
  pat:∀p∈w.pat,0≤p∧p≤20
  a0:0≤w.asks
  a1:w.asks≤40
def xY(K:PySem.W.Frag)(H:Hp)(v:V)(t:fK):Prop:=∃p q,v=.ref p∧dg K H p [.int t.one,.int t.other,.ref q,.int t.worth]∧dg K H q [.int t.top,.int t.bot]
inductive km (K:PySem.W.Frag) (H:Hp):List V→List fK→Prop
  | nil:km K H [] []
  | cons {v vs t ts}:xY K H v t→km K H vs ts→km K H (v::vs) (t::ts)
structure A7 (K:PySem.W.Frag) (H:Hp) (v:V) (w:bE):Prop where
  ex:∃a b c ts,v=.ref a∧dg K H a [.int w.things,.ref b,.ref c,.int w.asks]∧dg K H b ts∧km K H ts w.ties∧dg K H c (w.pat.map V.int)
section
variable{K:PySem.W.Frag}{H H':Hp}
end
theorem m4{t b:Int}(hb:0 < b)(h0:0≤t)(h1:t≤b)(h2:b≤100):0≤(dj t b).1∧(dj t b).1≤(dj t b).2∧1≤(dj t b).2∧(dj t b).2≤100:=by
  obtain⟨d,e1,e2,e3,e4,e5⟩:=j6 (t:=t) (b:=b) (by lia)
  generalize (dj t b).1=x at*
  generalize (dj t b).2=y at*
  have dp:0 < d:=by
    rcases Int.lt_or_gt_of_ne e2 with z | z
    · exfalso
      have:y*d < 0:=Int.mul_neg_of_pos_of_neg e5 z
      lia
    · exact z
  have x0:0≤x:=by
    rcases Int.lt_or_le x 0 with z | z
    · have:x*d < 0:=Int.mul_neg_of_neg_of_pos z dp
      lia
    · exact z
  have xy:x≤y:=by
    rcases Int.lt_or_le y x with z | z
    · have:y*d < x*d:=Int.mul_lt_mul_of_pos_right z dp
      lia
    · exact z
  have yb:y≤y*d:=by
    have:=Int.mul_le_mul_of_nonneg_left (show(1:Int)≤d by lia) (show 0≤y by lia)
    lia
  exact⟨x0,xy,by lia,by lia⟩
end L2
namespace L2
open PySem PySem.Spec PyProof.Rows
inductive iH {α β:Type} (R:α→β→Prop):List α→List β→Prop
  | nil:iH R [] []
  | cons {a b as bs}:R a b→iH R as bs→iH R (a::as) (b::bs)
namespace iH
variable{α β:Type}{R S:α→β→Prop}
theorem mono(h:∀a b,R a b→S a b):∀{as:List α} {bs:List β},iH R as bs→iH S as bs
  | _,_,.nil=>.nil
  | _,_,.cons x r=>.cons (h _ _ x) (mono h r)
theorem len:∀{as:List α} {bs:List β},iH R as bs→as.length=bs.length
  | _,_,.nil=>rfl
  | _,_,.cons _ r=>by simp [len r]
theorem snoc{a:α}{b:β}(h:R a b):∀{as:List α} {bs:List β},iH R as bs→iH R (as++[a]) (bs++[b])
  | _,_,.nil=>.cons h .nil
  | _,_,.cons x r=>.cons x (snoc h r)
theorem get:∀{as:List α} {bs:List β} {i:Nat} {b:β},iH R as bs→bs[i]?=some b→∃a,as[i]?=some a∧R a b
  | _,_,_,_,.nil,e=>by simp at e
  | _,_,0,_,.cons x _,e=>by simp at e;subst e;exact⟨_,rfl,x⟩
  | _,_,i+1,b,.cons _ r,e=>by
    obtain⟨v,h1,h2⟩:=get (i:=i) (b:=b) r (by simpa using e)
    exact⟨v,by simpa using h1,h2⟩
end iH
theorem oG{α β:Type}{us:List α}{f:α→Option β}{i:Nat}{u:α}(h:us[i]?=some u):(us.take (i+1)).filterMap f=(us.take i).filterMap f++(f u).toList:=by
  have hi:i < us.length:=(List.getElem?_eq_some_iff.mp h).1
  rw [List.take_succ_eq_append_getElem hi,List.filterMap_append]
  have:us[i]=u:=by rw [List.getElem?_eq_getElem hi] at h;exact Option.some.inj h
  rw [this]
  cases e:f u<;>simp [e]
section
variable{K:PySem.W.Frag}{a l:Addr}{xs:List V}{g:TG}{tc:TT}{te:TE}{Q:VK}{σ:L2.St}{H:Hp}{α β:Type}{us:List α}{cp:List (Nat × Str)}{nT:Nat}
def gq(aR:Hp→V→β→Prop)(SI:L2.St→Prop)(us:List α)(f:α→Option β)(H:Hp)(l:Addr)(i:Nat)(σ:L2.St)(H':Hp):Prop:=SI σ∧av H H'∧∃vs,H' l=some (.lst vs)∧vs.length≤i∧iH (aR H') vs ((us.take i).filterMap f)
def pP(aR:Hp→V→β→Prop)(SI:L2.St→Prop)(f:α→Option β)(H:Hp)(g:TG)(tc:TT)(te:TE)(x:V)(u:α):Prop:=
  ∀(σ:L2.St) (H':Hp) (N:L2.St→Hp→Prop) (A:L2.St→V→Hp→Prop),SI σ→av H H'→(∀σ2 H5 v y,f u=some y→SI σ2→av H' H5→aR H5 v y→A σ2 v H5)→(∀σ2 H4,f u=none→SI σ2→av H' H4→N σ2 H4)→g x σ H' fun σ2 H3=>tc σ2 H3 fun b H4=>if b=true then te σ2 H4 (A σ2) else N σ2 H4
theorem j_{aR:Hp→V→β→Prop}{SI:L2.St→Prop}{f:α→Option β}(hm:∀{H H' v y},fJ H H'→aR H v y→aR H' v y)(hl0:H l=none){i:Nat}{x:V}{u:α}{H':Hp}(hu:us[i]?=some u)(hz:i < sizeLine)(hs:pP aR SI f H g tc te x u)(h:gq aR SI us f H l i σ H'):
    g x σ H' fun σ2 H3=>tc σ2 H3 fun b H4=>if b=true then te σ2 H4 fun v H5=>∃ys,H5 l=some (.lst ys)∧ys.length < sizeLine∧gq aR SI us f H l (i+1) σ2 (a8 H5 l (.lst (ys++[v]))) else gq aR SI us f H l (i+1) σ2 H4:=by
  obtain⟨si,sm,vs,hv,hvl,hr⟩:=h
  refine hs σ H' (fun σ2 H4=>gq aR SI us f H l (i+1) σ2 H4) (fun σ2 v H5=>∃ys,H5 l=some (.lst ys)∧ys.length < sizeLine∧gq aR SI us f H l (i+1) σ2 (a8 H5 l (.lst (ys++[v])))) si sm (fun σ2 H5 v y hf si2 s5 hy=>?_) fun σ2 H4 hf si2 s4=>?_
  · have h5:=s5 _ _ hv
    have t5:fJ H5 (a8 H5 l (.lst (vs++[v]))):=fun b u e n _=>by
      by_cases z:b=l
      · subst z;rw [h5] at e;exact absurd (Option.some.inj e).symm (n _)
      · rw [aF z];exact e
    refine⟨vs,h5,by lia,si2,fun b o e=>?_,_,au,by simp;lia,?_⟩
    · rw [aF (cm e hl0)];exact s5 _ _ (sm _ _ e)
    · rw [oG hu,hf]
      exact((hr.mono fun _ _ q=>hm (s5.ts.trans t5) q).snoc (hm t5 hy))
  · refine⟨si2,sm.trans s4,vs,s4 _ _ hv,by lia,?_⟩
    rw [oG hu,hf]
    simpa using hr.mono fun _ _ q=>hm s4.ts q
end
def my(ns:List Int):List Int:=ns.mergeSort
theorem jy(ns:List Int):(my ns).Perm ns:=List.mergeSort_perm ns _
theorem xS{ns:List Int}{x:Int}:x∈my ns↔ x∈ns:=(jy ns).mem_iff
theorem xR(ns:List Int):(my ns).length=ns.length:=(jy ns).length_eq
section
variable{X:Cx}{K:PySem.W.Frag}{pos:Pos}
theorem tO{es:List Expr}{k:Nat}{t:rY}{n:Nat}(hK:X.K=K)(hc:X.calm=true)(h:pL X es t)(hn:(assignEach es X.env).length=n:=by rfl)(hst:(assignEach es X.env).findIdx? (·.1)=none:=by rfl):PG X (.Tuple es k pos) (qh K n t):=hK ▸ wH hc h hn hst
theorem tR{tg l:Expr}{tl:TE}(h:X.K=K)(hl:PE X l tl):PI X tg l (yq K tl):=h ▸ wJ hl
theorem qV{tg l:Expr}{tl:TE}(h:X.K=K)(hl:PE X l tl):PI X tg l (va K tl):=h ▸ tQ hl
end
instance:Inhabited fK:=⟨⟨0,1,1,1,0⟩⟩
def bE.tie(W:bE)(k:Int):fK:=W.ties.getD k.toNat default
def bE.has(W:bE)(k thing:Int):Bool:=(W.tie k).one==thing || (W.tie k).other==thing
def bE.many(W:bE)(asked:List Int)(thing:Int):Int:=((asked.filter fun k=>W.has k thing).length:Nat)
def bE.bears(W:bE)(asked taken:List Int)(thing:Int):Bool:= !taken.contains thing&&decide (W.many asked thing < W.pat.getD thing.toNat 0)
def bE.may(W:bE)(asked taken:List Int)(k:Int):Bool:= !(asked.contains k || decide (W.asks≤(asked.length:Int)))&&(W.bears asked taken (W.tie k).one&&W.bears asked taken (W.tie k).other)
def bE.askd(asked:List Int)(k:Int):List Int:=my (asked++[k])
def bE.took(W:bE)(taken:List Int)(k:Int)(truth:Bool):List Int:=if truth then my (taken++[(W.tie k).one,(W.tie k).other]) else taken
def bE.rng(W:bE):List Int:=(List.range W.ties.length).map Int.ofNat
def pN(W:bE)(k:Int):Prop:=0≤k∧k < (W.ties.length:Int)
theorem pN.get{W:bE}{k:Int}(h:pN W k):W.ties[k.toNat]?=some (W.tie k):=by
  have hk:k.toNat < W.ties.length:=by have:=h.1;have:=h.2;lia
  unfold bE.tie
  rw [List.getD_eq_getElem?_getD,List.getElem?_eq_getElem hk];rfl
theorem pN.ok{W:bE}{k:Int}(h:pN W k)(o:W.Ok):(W.tie k).Ok W.things:=o.ties _ (List.mem_of_getElem? h.get)
theorem zY{W:bE}{k:Int}:k∈W.rng↔ pN W k:=by
  unfold bE.rng pN
  rw [List.mem_map]
  constructor
  · rintro⟨n,hn,rfl⟩
    have:=List.mem_range.mp hn
    exact⟨Int.natCast_nonneg n,by simp;lia⟩
  · rintro⟨h0,h1⟩
    exact⟨k.toNat,List.mem_range.mpr (by lia),by simp;lia⟩
def vo(K:PySem.W.Frag)(H:Hp)(v:V)(asked taken:List Int):Prop:=∃a b c,v=.ref a∧dg K H a [.ref b,.ref c]∧dg K H b (asked.map V.int)∧dg K H c (taken.map V.int)
theorem vo.ts{K:PySem.W.Frag}{H H':Hp}(s:fJ H H'){v:V}{asked taken:List Int}(h:vo K H v asked taken):vo K H' v asked taken:=by
  obtain⟨a,b,c,e,h1,h2,h3⟩:=h
  exact⟨a,b,c,e,s.tup h1,s.tup h2,s.tup h3⟩
section
variable{K:PySem.W.Frag}{σ:L2.St}{H:Hp}{Q:VK}{i j:Nat}{vW:V}{W:bE}{k:Int}
end
def small(k:Int):Prop:= -1000000≤k∧k≤1000000
def Dk(n dep:Nat)(d:PyData):Prop:=d.showable=true∧jj d=true∧L2.cnt d≤n∧d.depth≤dep
theorem Dk.mono{n m dep e:Nat}{d:PyData}(h:Dk n dep d)(h1:n≤m)(h2:dep≤e):Dk m e d:=⟨h.1,h.2.1,Nat.le_trans h.2.2.1 h1,Nat.le_trans h.2.2.2 h2⟩
theorem Dk.int{k:Int}(h:small k):Dk 1 2 (.int k):=by
  refine⟨?_,rfl,Nat.le_refl _,by simp [PyData.depth]⟩
  show decide (k.natAbs.log2 < 1920)=true
  rw [decide_eq_true_eq]
  exact Nat.lt_trans ((show Bt 64 k by have:=h.1;have:=h.2;unfold Bt;lia).log (by decide)) (by decide)
theorem Dk.bool(b:Bool):Dk 1 2 (.bool b):=⟨rfl,rfl,Nat.le_refl _,by simp [PyData.depth]⟩
theorem Dk.none:Dk 1 2 .none:=⟨rfl,rfl,Nat.le_refl _,by simp [PyData.depth]⟩
theorem Dk.all{n dep:Nat}:∀{ds:List PyData},(∀d∈ds,Dk n dep d)→PyData.showableAll ds=true∧en ds=true∧fW ds≤ds.length*n∧PyData.depthAll ds≤dep
  | [],_=>⟨rfl,rfl,by simp [fW],by simp [PyData.depthAll]⟩
  | d::r,h=>by
    obtain⟨a1,a2,a3,a4⟩:=h d (by simp)
    obtain⟨b1,b2,b3,b4⟩:=Dk.all (ds:=r) fun x hx=>h x (by simp [hx])
    refine⟨?_,?_,?_,?_⟩
    · simp only [PyData.showableAll,a1,b1,Bool.and_self]
    · simp only [en,a2,b2,Bool.and_self]
    · simp only [fW,List.length_cons,Nat.succ_mul]
      lia
    · simp only [PyData.depthAll];lia
theorem Dk.tup{n dep m:Nat}{ds:List PyData}(h:∀d∈ds,Dk n dep d)(hl:ds.length≤m):Dk (1+m*n) (dep+2) (.tuple ds):=by
  obtain⟨b1,b2,b3,b4⟩:=Dk.all h
  refine⟨b1,b2,?_,?_⟩
  · simp only [L2.cnt]
    have:=Nat.mul_le_mul_right n hl
    lia
  · simp only [PyData.depth];lia
theorem Dk.ok{n dep:Nat}{d:PyData}(h:Dk n dep d)(h1:n≤8000)(h2:dep≤60):d.showable=true∧d.depth≤60∧d.shown.length≤sizeLine:=by
  have:=kc h.2.1 h.1
  have sl:sizeLine=16777216:=sizeLine_eq
  have:=h.2.2.1
  exact⟨h.1,Nat.le_trans h.2.2.2 h2,by lia⟩
theorem Dk.ints{ns:List Int}{m:Nat}(hl:ns.length≤m)(h:∀r∈ns,small r):Dk (1+m) 4 (.tuple (ns.map .int)):=by
  have:=Dk.tup (n:=1) (dep:=2) (m:=m) (ds:=ns.map PyData.int) (fun d hd=>by
    obtain⟨x,hx,rfl⟩:=List.mem_map.mp hd
    exact Dk.int (h x hx)) (by rw [List.length_map];exact hl)
  simpa using this
section
variable{K:PySem.W.Frag}{H:Hp}
theorem Dk.bools{ns:List Bool}{m:Nat}(hl:ns.length≤m):Dk (1+m) 4 (.tuple (ns.map .bool)):=by
  have:=Dk.tup (n:=1) (dep:=2) (m:=m) (ds:=ns.map PyData.bool) (fun d hd=>by
    obtain⟨x,hx,rfl⟩:=List.mem_map.mp hd
    exact Dk.bool x) (by rw [List.length_map];exact hl)
  simpa using this
def aA(t:fK):PyData:=.tuple [.int t.one,.int t.other,.tuple [.int t.top,.int t.bot],.int t.worth]
def a9(W:bE):PyData:=.tuple [.int W.things,.tuple (W.ties.map aA),.tuple (W.pat.map .int),.int W.asks]
def BE(asked taken:List Int):PyData:=.tuple [.tuple (asked.map .int),.tuple (taken.map .int)]
end
end L2
namespace L2
open PySem PySem.Spec PyProof.Rows
theorem pV:∀{bs:List Bool} {us:List Value} {i:Nat} {v:Value},aB (bs.map V.bl) us→us[i]?=some v→∃b,bs[i]?=some b∧v=.bool b
  | [],us,i,v,r,e=>by cases r;simp at e
  | b::bs,us,i,v,r,e=>by
    cases r with
    | cons p q=>
      cases i with
      | zero=>simp at e;subst e;cases p;exact⟨b,rfl,rfl⟩
      | succ i=>
        obtain⟨c,h1,h2⟩:=pV (bs:=bs) (i:=i) (v:=v) q (by simpa using e)
        exact⟨c,by simpa using h1,h2⟩
theorem ui(bs:List Bool):((List.range bs.length).all fun i=>(bs[i]?).getD true)=bs.all id:=by
  rw [Bool.eq_iff_iff,List.all_eq_true,List.all_eq_true]
  constructor
  · intro h b hb
    obtain⟨i,hi,rfl⟩:=List.getElem_of_mem hb
    have:=h i (List.mem_range.mpr hi)
    rw [List.getElem?_eq_getElem hi] at this
    exact this
  · intro h i hi
    have hi':=List.mem_range.mp hi
    rw [List.getElem?_eq_getElem hi']
    exact h _ (List.getElem_mem hi')
section
variable{X:Cx}
theorem pY{k:Nat}{K:PySem.W.Frag}(hr:cc k X.A)(hK:X.K=K):dN X (.builtin "all") (fun xs H Q=>∃(l:Addr) (bs:List Bool),xs=[.ref l]∧ef K H l (bs.map V.bl)∧Q (.bl (bs.all id)) H):=by
  intro pins s σ H xs us Q I r h
  subst hK
  obtain⟨l,bs,rfl,hs,q⟩:=h
  obtain⟨u,rfl,ru⟩:=qL r
  cases ru
  obtain⟨its,rv,p,hz⟩:=I.list hs
  have hl:=p.isList
  have lt:l < s.heap.objs.size:=by obtain⟨_,e,_⟩:=hl;exact Heap.lt_size e
  refine PySem.call_all_walk (wpAny_pyIter_list hl ?_)
  refine⟨s.heap.objs.size,[s.heap.objs.size,l],[s.heap.objs.size],its.toArray.size,_,_,fun i=>(bs[i]?).getD true,rfl,Walks.list (A:=X.A.in1) hr.hd _ l (Nat.ne_of_lt lt) its.toArray,⟨⟨_,Heap.get?_push_size _ rfl,rfl,rfl⟩,hl.push _⟩,fun i v s' Q' E' hP hQ=>?_,fun h' tk hk=>?_⟩
  · obtain⟨b,e,rfl⟩:=pV rv (by simpa using hP)
    simp only [e,Option.getD_some] at hQ
    exact wpAny_truthy_bool hQ
  · have e:its.toArray.size=bs.length:=by have:=rv.length;rw [List.length_map] at this;simpa using this.symm
    rw [e,ui]
    refine⟨.bl (bs.all id),H,I.kept fun b x e=>hk b x (fun hm=>?_) (Heap.get?_push_of_some _ e),rfl,q⟩
    rw [List.mem_singleton.mp hm] at e
    exact Nat.lt_irrefl _ (Heap.lt_size e)
end
end L2
namespace L2
theorem pW:PySem.bootBuiltins "all"=some (.builtin "all"):=by decide+kernel
end L2
namespace L2
open PySem PySem.Spec PyProof.Rows
section
variable{prog:Program}{w:World}{A:Around}{E:Value→Shared→Prop}{s:Shared}
end
structure Sc (prog:Program) (w:World) (it l:Addr) (St:Nat→Heap→Prop) (Sq:Heap→Array Value→Prop):Prop where
  stay:∀{k h h'},St k h→(∀o,h.get? it=some o→h'.get? it=some o)→St k h'
  live:∀{k h},St k h→∃o,h.get? it=some o∧∀v,o.data≠.cell v
  row:∀{h h' xs},Sq h xs→(∀o,h.get? l=some o→h'.get? l=some o)→Sq h' xs
  next:∀{A:Around} {s:Shared} {E:Value→Shared→Prop} {Q:Value→Shared→Prop} {k:Nat} {xs:Array Value} {x:Value},St k s.heap→Sq s.heap xs→xs[k]?=some x→(∀g,St (k+1) g→Heap.SameBut it s.heap g→Q x {s with heap:=g})→wpAny (model prog w) A (Builtin.SmallTypes.nextOf (.ref it)) Q E s
  last:∀{A:Around} {s:Shared} {E:Value→Shared→Prop} {Q:Value→Shared→Prop} {k:Nat} {xs:Array Value},A.handled=none→St k s.heap→Sq s.heap xs→xs[k]?=none→(∀g e,Heap.ExtBut it s.heap g→(∃o,g.get? e=some o∧o.cls=.type "StopIteration")→E (.ref e) {s with heap:=g})→wpAny (model prog w) A (Builtin.SmallTypes.nextOf (.ref it)) Q E s
structure AV (z TI TO i1 i2 l1 l2:Addr):Prop where
  a1:TO≠z
  a2:i1≠z
  a3:i2≠z
  a4:TO≠i1
  a5:TO≠i2
  a6:i1≠i2
  b1:l1≠z
  b2:l1≠TO
  b3:l1≠i1
  b4:l1≠i2
  c1:l2≠z
  c2:l2≠TO
  c3:l2≠i1
  c4:l2≠i2
section
variable{prog:Program}{w:World}{A:Around}{E:Value→Shared→Prop}{s:Shared}{z TI TO i1 i2 l1 l2:Addr}{k:Nat}{xs ys:Array Value}{a b:Value}{S1 S2:Nat→Heap→Prop}{R1 R2:Heap→Array Value→Prop}
end
end L2
namespace L2
open PySem PySem.Spec PyProof.Rows
section
variable{X:Cx}{pins:List (Addr × Obj)}{σ:L2.St}{H:Hp}{s:Shared}{h':Heap}
theorem aw.turnedL{t':Nat}{fp:List Addr}(I:aw X pins σ H s)(hf:∀b∈fp,iI X pins H b)(k:∀b o,b∉fp→s.heap.get? b=some o→h'.get? b=some o):aw X pins σ H {s with heap:=h',toks:=t'}:=by
  have hL:X.env.locals∉fp:=fun z=>(hf _ z).2.1 rfl
  have nit:∀b u,H b=some u→b∉fp:=fun b u e z=>by have:=(hf b z).1;rw [this] at e;cases e
  refine I.step (g':=s.gens) (d':=s.drawn) (ch:=fp) (fun b hb=>?_) (fun b o _ _ hc e _=>k b o hc e) (fun b o _ _ hc e _=>⟨o.slots,k b o hc e⟩) (fun _ _ _ _ n=>n) (fun b o hc e=>⟨o,k b o hc e⟩) (fun _ _ e=>e) (fun _ _ _ e=>e) (fun b ps e=>⟨#[],by rw [e];simp⟩) (fun m hm=>?_) (fun b u e=>?_) I.bare
  · obtain⟨f0,f1,f2,f3,f4,f5⟩:=hf b hb
    exact⟨f3,f1,f4,f5⟩
  · obtain⟨o,es,ep,ho,r⟩:=hm
    exact⟨o,es,ep,k _ o hL ho,r⟩
  · refine(I.hok b u e).stay (fun c v hc q=>k c v ?_ q) (fun _ q=>q) fun _ _ q=>q
    rcases hc with z | z
    · rw [z];exact nit b u e
    · exact nit c _ z
end
section
variable{prog:Program}{w:World}{A:Around}{E:Value→Shared→Prop}{s:Shared}
end
end L2
namespace L2
open PySem PySem.Spec PyProof.Rows
section
variable{prog:Program}{w:World}{A:Around}{E:Value→Shared→Prop}{s:Shared}{e it l:Addr}{k:Nat}{xs:Array Value}{S:Nat→Heap→Prop}{R:Heap→Array Value→Prop}
end
section
variable{X:Cx}{pins:List (Addr × Obj)}{σ:L2.St}{H:Hp}{s:Shared}
end
end L2
namespace L2
open PySem PySem.Spec PyProof.Rows
theorem oJ:∀(us:List Value) (f:Nat→Int),(∀(j:Nat) (v:Value),us[j]?=some v→∃t,v=Value.int (f j) t)→aB ((List.range us.length).map fun j=>V.int (f j)) us
  | [],_,_=>.nil
  | u::us,f,h=>by
    rw [List.length_cons,List.range_succ_eq_map,List.map_cons,List.map_map]
    refine .cons (h 0 u rfl) (oJ us (fun j=>f (j+1)) fun j v e=>h (j+1) v (by simpa using e))
def gg(n:Nat):List Int:=(List.range n).map Int.ofNat
theorem gW(n:Nat):(gg n).length=n:=by simp [gg]
section
variable{X:Cx}{a:Expr}{ta:TA}{p p2 pos pos2:Pos}
theorem p7(hg:Gl X "range")(hm:X.mg "range"=none)(ha:PA X [a] ta)(hs:starEach [a] X.env=[(false,eval a X.env)]){pins:List (Addr × Obj)}{s:Shared}{σ:L2.St}{H:Hp}{R:Int→Hp→Prop}(I:aw X pins σ H s)(h:ta σ H fun vs H1=>∃j:Int,vs=[.int j]∧R j H1):
    wpAny (model X.prog X.w) X.A (eval (.Call (.Name "range" p) [a] [] pos) X.env) (fun v s1=>∃(r:Addr) (j:Int) (H1:Hp) (t u w:Tok),v=.ref r∧IsRange s1.heap r 0 j 1 t u w∧r < s1.heap.objs.size∧aw X pins σ H1 s1∧R j H1) X.xe s:=by
  refine Call_ (ij I hg hm boot_range (PyProof.Rows.callWith_type1 (bF (ha pos pins s σ H _ I h) fun us s1 ⟨vs,H1,I1,r1,q1⟩=>?_) hs rfl))
  obtain⟨j,e,q⟩:=q1
  subst e
  cases r1 with
  | cons r rr=>
    cases rr
    obtain⟨t,rfl⟩:=r
    exact call_range_1 ⟨_,j,H1,_,_,_,rfl,IsRange.new ..,by simp [Heap.size_push],I1.kept fun b o e=>Heap.get?_push_of_some _ e,q⟩
def Bv(ta:TA):TE:=fun σ H Q=>ta σ H fun vs H1=>∃j:Int,vs=[.int j]∧(0≤j∧j≤100000∧∀l,H1 l=none→Q (.ref l) (a8 H1 l (.lst ((gg j.toNat).map V.int))))
theorem k8(hc:X.calm=true)(hgl:Gl X "list")(hml:X.mg "list"=none)(hg:Gl X "range")(hm:X.mg "range"=none)(ha:PA X [a] ta)(hs:starEach [a] X.env=[(false,eval a X.env)]:=by rfl)
    (he:starEach [.Call (.Name "range" p) [a] [] pos] X.env=(false,eval (.Call (.Name "range" p) [a] [] pos) X.env)::starEach [] X.env:=by rfl):PE X (.Call (.Name "list" p2) [.Call (.Name "range" p) [a] [] pos] [] pos2) (Bv ta):=by
  intro pins s σ H Q I h
  refine wpAny_Call_Name_kw (ij I hgl hml PyProof.Rows.boot_list ?_ (by decide) (by decide))
  refine PyProof.Rows.callWith_type1 ?_ he rfl
  rw [he]
  refine Calls.spliced_cons (bF (p7 hg hm ha hs I h) fun u s1 ⟨r,j,H1,t,u1,w,e,hr,lt,I1,j0,j1,q⟩=>?_)
  subst e
  refine wpAny_pure ?_
  have hsm:Builtin.Range.small 0 j 1=true:=small_one (by decide) (by decide) (by lia) (by lia)
  refine call_list_range (n:=j.toNat) (I1.ok.hd hc) hr hsm (by rw [rangeSize_one];split<;>lia) (Nat.le_trans (show j.toNat≤100000 by lia) (by decide)) fun h' tk acc c hk hD hI=>?_
  have hf:H1 s1.heap.objs.size=none:=I1.hok.fresh (Nat.le_refl _)
  have vv:aB ((gg j.toNat).map V.int) acc.toList:=by
    have z:=oJ acc.toList (fun k=>(k:Int)) fun k v e=>by
      obtain⟨t,ht⟩:=hI.2 k v (by simpa using e)
      exact⟨t,by rw [ht];simp⟩
    rw [Array.length_toList,hI.1] at z
    rw [gg,List.map_map]
    exact z
  refine⟨.ref s1.heap.objs.size,_,I1.laid (o:=.lst ((gg j.toNat).map V.int)) hk (Nat.le_refl _) ⟨?_,acc.toList,c,vv,by simpa using hD⟩,rfl,q _ hf⟩
  rw [List.length_map,gW,sizeLine_eq];lia
end
end L2
namespace L2
open PySem PySem.Spec PyProof.Rows
theorem o6:fillsNumberSlot (.type "tuple") "mul"=pure false:=
  PySem.fillsNumberSlot_seq (id:="tuple.__mul__") (r:=some (.builtin "tuple.__rmul__")) F.slot_tuple_mul.lookup (by decide+kernel) F.slot_tuple_rmul.lookup (by decide+kernel)
theorem xi:seqRepeat? (.type "tuple")=pure (some (.builtin "tuple.__mul__")):=by
  unfold seqRepeat?;rw [PySem.seqSlot_of (T:="tuple") (name:="__mul__") (id:="tuple.__mul__") F.slot_tuple_mul.lookup (by decide+kernel),PySem.seqSlot_of (T:="tuple") (name:="__rmul__") (id:="tuple.__rmul__") F.slot_tuple_rmul.lookup (by decide+kernel)];rfl
theorem uh(a:Int)(t:Tok)(l:Addr)(items:Array Value)(n:Nat)(dd:Option Addr)(sl:Array (Option Value)):
    Meets (Builtin.«int.__rmul__» ⟨[.int a t,.ref l],[]⟩) (fun _ R s=>s.heap.get? l=some {cls:=.type "tuple",dict:=dd,data:=.seq items n,slots:=sl}∧R (.ok (.ret Value.notImplemented)) s):=
  .of_wp fun prog w A R s h=>by obtain⟨hp,g,d,tk,os⟩:=s;obtain⟨hl,h⟩:=h;wp_walk;exact⟨_,rfl,h⟩
theorem vS(l:Addr)(x:Value)(n:Nat)(k:Int)(u:Tok)(dd:Option Addr)(sl:Array (Option Value))(h0:2≤k)(h1:k≤100000):
    Meets (Builtin.«tuple.__mul__» ⟨[.ref l,.int k u],[]⟩) (fun _ R s=>s.heap.get? l=some {cls:=.type "tuple",dict:=dd,data:=.seq #[x] n,slots:=sl}∧
      R (.ok (.ret (.ref s.heap.objs.size))) {s with heap:=s.heap.push {cls:=.type "tuple",data:=.seq (List.replicate k.toNat x).toArray}}):=
  .of_wp fun prog w A R s h=>by
    obtain⟨hp,g,d,tk,os⟩:=s;obtain⟨hl,h⟩:=h
    have f1:=AutoSeq1.idx_int
    have c1:¬(decide (k < -(2 ^ 63)) || decide (k≥2 ^ 63))=true:=by simp;lia
    have c2:¬((#[x]:Array Value).isEmpty || k==1)=true:=by simp;lia
    have c3:¬(decide (k≤0) || (#[x]:Array Value).isEmpty)=true:=by simp;lia
    have c4:¬(((#[x]:Array Value).size:Int)*k > (2 ^ 63 - 1) / 8):=by simp;lia
    have c5:¬Builtin.Tuple.tupleTooMany (((#[x]:Array Value).size:Int)*k)=true:=by
      unfold Builtin.Tuple.tupleTooMany;rw [sizeLine_eq];simp;lia
    wp_walk using wpAny_loadPart' hl
    rw [if_neg c1]
    wp_walk using wpAny_loadPart' hl
    rw [if_neg c2]
    wp_walk using wpAny_loadPart' hl
    rw [if_neg c3]
    wp_walk using wpAny_loadPart' hl
    rw [if_neg c4]
    show wpAny _ _ (if Builtin.Tuple.tupleTooMany (((#[x]:Array Value).size:Int)*k)=true then _ else _) _ _ _
    rw [if_neg c5]
    have f0:∀(m:Nat) (acc:Array Value),List.foldl (fun x1 x2=>x1++x2) acc (List.replicate m #[x])=acc++(List.replicate m x).toArray:=by
      intro m
      induction m with
      | zero=>intro acc;simp
      | succ m ih=>intro acc;rw [List.replicate_succ,List.foldl_cons,ih,List.replicate_succ];apply Array.toList_inj.mp;simp
    have e:List.foldl (fun x1 x2=>x1++x2) #[] (List.replicate k.toNat #[x])=(List.replicate k.toNat x).toArray:=by rw [f0];simp
    show wpAny _ _ (Builtin.Tuple.tupleExact (List.foldl (fun x1 x2=>x1++x2) #[] (List.replicate k.toNat #[x])) >>= fun v=>ret v) _ _ _
    rw [e]
    unfold Builtin.Tuple.tupleExact
    refine wpAny_bind (wpAny_newObj_type ?_ (by show(List.replicate k.toNat x).toArray.size≤sizeLine;rw [List.size_toArray,List.length_replicate,sizeLine_eq];lia))
    exact wpAny_pure ⟨_,rfl,h⟩
theorem sQ(l:Addr)(x:Value)(n:Nat)(u:Tok)(dd:Option Addr)(sl:Array (Option Value)):
    Meets (Builtin.«tuple.__mul__» ⟨[.ref l,.int 0 u],[]⟩) (fun _ R s=>s.heap.get? l=some {cls:=.type "tuple",dict:=dd,data:=.seq #[x] n,slots:=sl}∧R (.ok (.ret (.ref s.heap.objs.size))) {s with heap:=s.heap.push {cls:=.type "tuple",data:=.seq #[]}}):=
  .of_wp fun prog w A R s h=>by
    obtain⟨hp,g,d,tk,os⟩:=s;obtain⟨hl,h⟩:=h;have f1:=AutoSeq1.idx_int
    have c2:¬((#[x]:Array Value).isEmpty || (0:Int)==1)=true:=by simp
    wp_walk using wpAny_loadPart' hl
    first | rw [if_neg c2] | skip
    wp_walk using wpAny_loadPart' hl
    exact⟨_,rfl,h⟩
theorem sR(l:Addr)(x:Value)(n:Nat)(u:Tok)(dd:Option Addr)(sl:Array (Option Value)):
    Meets (Builtin.«tuple.__mul__» ⟨[.ref l,.int 1 u],[]⟩) (fun _ R s=>s.heap.get? l=some {cls:=.type "tuple",dict:=dd,data:=.seq #[x] n,slots:=sl}∧R (.ok (.ret (.ref l))) s):=
  .of_wp fun prog w A R s h=>by
    obtain⟨hp,g,d,tk,os⟩:=s;obtain⟨hl,h⟩:=h;have f1:=AutoSeq1.idx_int
    wp_walk using wpAny_loadPart' hl
    exact⟨_,rfl,h⟩
section
variable{X:Cx}
def rD(K:PySem.W.Frag):R2:=fun x y H Q=>∃a k v,x=.ref a∧y=.int k∧dg K H a [v]∧0≤k∧k≤100000∧∀p H',av H H'→dg K H' p (List.replicate k.toNat v)→Q (.ref p) H'
theorem tI:dz X (binaryOp .Mult) (rD X.K):=by
  intro pins s σ H x y v u Q I rx ry h
  obtain⟨a,k,z,rfl,rfl,ha,k0,k1,q⟩:=h
  cases rx
  obtain⟨t,rfl⟩:=ry
  obtain⟨its,r,p,hz⟩:=I.tuple ha
  obtain⟨uz,rfl,rz⟩:=qL r
  obtain⟨⟨cls,dd,data,sl⟩,ho,hc,n,hd⟩:=id p
  simp only at hc hd
  subst hc hd
  refine wpAny_binaryOp_repeat_ref (T:="tuple") (U:="int") (by decide) ⟨_,ho,rfl⟩ (fun s'=>PySem.typeIs_int s' k t) o6 F.fills_int_mul F.slot_int_rmul xi F.slot_int_index.lookup (call_meets F.slot_int_rmul (PySem.typeIs_int s k t) F.entry_int_rmul (F.args_int_rmul_2 _ _) (uh k t a #[uz] n dd sl) ⟨ho,rfl,⟨_,ho,rfl⟩,?_⟩)
  have new:∀m:Nat,m=k.toNat→EP X pins σ Q (.ref s.heap.objs.size) {s with heap:=s.heap.push {cls:=.type "tuple",data:=.seq (List.replicate m uz).toArray},toks:=s.toks}:=fun m hm=>by
    have hf:H s.heap.objs.size=none:=I.hok.fresh (Nat.le_refl _)
    have vv:∀j:Nat,aB (List.replicate j z) (List.replicate j uz):=fun j=>by
      induction j with
      | zero=>exact .nil
      | succ j ih=>exact .cons rz ih
    refine⟨.ref s.heap.objs.size,_,I.laid (t':=s.toks) (o:=.tup (List.replicate m z)) (fun b ob q=>Heap.get?_push_of_some _ q) (Nat.le_refl _) ⟨by rw [List.length_replicate,sizeLine_eq];lia,_,vv m,jD.new _ _⟩,rfl,q _ _ (av.new hf) (dg.of (by rw [au,hm]))⟩
  rcases(by lia:k=0∨k=1∨2≤k) with e | e | e
  · subst e
    exact call_meets F.slot_tuple_mul ⟨_,ho,rfl⟩ F.entry_tuple_mul (F.args_tuple_mul_2 _ _) (sQ a uz n t dd sl) ⟨ho,new 0 rfl⟩
  · subst e
    exact call_meets F.slot_tuple_mul ⟨_,ho,rfl⟩ F.entry_tuple_mul (F.args_tuple_mul_2 _ _) (sR a uz n t dd sl) ⟨ho,⟨.ref a,H,I,rfl,q a H (av.refl H) ha⟩⟩
  · exact call_meets F.slot_tuple_mul ⟨_,ho,rfl⟩ F.entry_tuple_mul (F.args_tuple_mul_2 _ _) (vS a uz n k t dd sl e k1) ⟨ho,new _ rfl⟩
end
end L2
namespace L2
open PySem PySem.Spec PyProof.Rows
section
variable{prog:Program}{w:World}{A:Around}{E:Value→Shared→Prop}{s:Shared}
end
section
variable{X:Cx}{a:Expr}{ta:TA}{p p2 p3 pos pos2 pos3:Pos}
end
end L2
namespace L2
open PySem PySem.Spec PyProof.Rows
section
variable{prog:Program}{w:World}{A:Around}{E:Value→Shared→Prop}{s:Shared}
end
section
variable{X:Cx}{K:PySem.W.Frag}{es:List Expr}{k0:Nat}{tp:Pos}{a:Expr}{ta:TA}{p pos:Pos}
end
end L2
namespace L2
open PySem PySem.Spec PyProof.Rows
theorem pe{X:Cx}:dz X (compareOp .IsNot) (fun x y H Q=>∃b c,x=.bl b∧y=.bl c∧Q (.bl (!(b==c))) H):=by
  intro pins s σ H x y v u Q I rx ry h
  obtain⟨b,c,rfl,rfl,q⟩:=h
  cases rx;cases ry
  refine wpAny_isNot_plain (by cases b<;>cases c<;>rfl) ⟨.bl (!(b==c)),H,I,?_,q⟩
  show Value.bool _=Value.bool _
  cases b<;>cases c<;>rfl
section
variable{prog:Program}{w:World}{A:Around}{E:Value→Shared→Prop}{s:Shared}
end
section
variable{prog:Program}{w:World}{A:Around}{E:Value→Shared→Prop}{s:Shared}
end
section
variable{prog:Program}{w:World}{A:Around}{E:Value→Shared→Prop}{s:Shared}
end
end L2
namespace L2
open PySem PySem.Spec PyProof.Rows
theorem nv{X:Cx}{ix:Nat}{nm:Str}{posn poss:Pos}{elt iter tg:Expr}{ifs:List Expr}{scope:Scope}{pos:Pos}{wi:TI}{g:TG}{tc:TT}{te:TE}(sc0:Scope)(N0:List Str)(cp:List (Nat × Str))(tgN:List Str)
    (hc:X.calm=true)(hsc:X.env.scope=sc0)(hN0:X.N=N0)(hi:PI X tg iter wi)
    (hg:∀C s0 H0 fp,PG (aH X scope cp tgN C s0 H0 fp) tg g)
    (ht:∀C s0 H0 fp,pO (aH X scope cp tgN C s0 H0 fp) ifs tc)
    (he:∀C s0 H0 fp,PE (aH X scope cp tgN C s0 H0 fp) elt te)
    (hk:scope.kind=.function)(hcell:∀y∈scope.names,y.2≠.cell)(hnames:∀y∈scope.names,y.2=.local→scope.names.lookup y.1=some .local)
    (hfr:∀y∈scope.names,y.2=.free→scope.names.lookup y.1=some .free∧sc0.names.lookup y.1=some .cell)
    (hcp:∀p∈cp,N0[p.1]?=some p.2)(hcq:∀p∈cp,sc0.names.lookup p.2=some .cell∧scope.names.lookup p.2=some .free)
    (hNd:X.N.Nodup)(hix:X.N[ix]?=some nm)(hlc:X.env.scope.names.lookup nm=some .local)(hsw:swapsWith (.ListComp elt [⟨tg,iter,ifs,0⟩] scope pos) (some (.Name nm posn)) poss.line X.env=pure true)
    (hs:∀x,foldedSetIterable iter X.env x=pure x:=by intro _;rfl):
    PS X (.Assign [.Name nm posn] (.ListComp elt [⟨tg,iter,ifs,0⟩] scope pos) poss) (xq (oD cp tgN.length wi g tc te) (qf ix)):=by
  intro pins s σ H D0 I h
  let Q:VK:=fun x H1=>D0.nx (σ.set ix (some x)) H1
  have h:oD cp tgN.length wi g tc te σ H Q:=h
  have hkind:∀x,X.env.kindOf x=sc0.names.lookup x:=fun x=>by unfold Env.kindOf;rw [hsc]
  have hfree:∀y∈scope.names,y.2=.free→∃c,X.env.cells.lookup y.1=some c:=fun y hy e=>I.ok.has y.1 (.inl (by rw [hkind];exact(hfr y hy e).2))
  rw [exec_Assign_Name_used _ _ _ _ hsw]
  refine wpAny_bind (wpAny_standAt (wpAny_bind ?_))
  unfold evalThenUse
  refine wpAny_bind ?_
  refine wpAny_comprehension_free (use:=some (assign (.Name nm posn) X.env)) rfl hs (i5 hfree) hk hnames (wpAny_mono (hi pins s σ H _ I h.go) (fun xv s₁ h₁=>wpAny_mono h₁ (fun itv s₂ h₂=>?_) fun _ _ e=>e) fun _ _ e=>e)
  obtain⟨it,fp,tn,J,H2,rfl,I2,T,st2,f2,hq⟩:=h₂
  refine wpAny_newObj_type ?_
  have hlF:H2 s₂.heap.objs.size=none:=I2.hok.fresh (Nat.le_refl _)
  have I3:aw X pins σ (a8 H2 s₂.heap.objs.size (.lst [])) {s₂ with heap:=s₂.heap.push {cls:=.type "list",data:=.seq ([]:List Value).toArray}}:=I2.lnew (t':=s₂.toks) .nil (Nat.zero_le _)
  obtain⟨W,⟨m0,w0⟩,turn⟩:=hq _ hlF
  have f3:∀b∈fp,iI X pins (a8 H2 s₂.heap.objs.size (.lst [])) b:=fun b hb=>by
    obtain⟨f0,fr⟩:=f2 b hb
    obtain⟨o,ho,_⟩:=T.obj _ _ st2 b hb
    exact⟨by rw [aF (Nat.ne_of_lt (Heap.lt_size ho))];exact f0,fr⟩
  have st3:tn 0 (s₂.heap.push {cls:=.type "list",data:=.seq ([]:List Value).toArray}):=T.keep _ _ _ st2 fun b _ o e=>Heap.get?_push_of_some _ e
  generalize hD:s₂.heap.objs.size=D at*
  generalize hs3:({s₂ with heap:=s₂.heap.push {cls:=.type "list",data:=.seq ([]:List Value).toArray}}:Shared)=s₃ at*
  have hst3:tn 0 s₃.heap:=by rw [←hs3];exact st3
  refine wpAny_newFunctionEnv hcell (by intro y hy;simp at hy) (fun h₁ hns₁ hsb₁=>?_) hk
  generalize hC:s₃.heap.objs.size=C at*
  have old:∀b o,s₃.heap.get? b=some o→h₁.get? b=some o:=fun b o e=>hsb₁.extBut b o (by rw [←hC];exact Nat.ne_of_lt (Heap.lt_size e)) (Heap.get?_push_of_some _ e)
  have nC:∀b o,s₃.heap.get? b=some o→b≠C:=fun b o e=>by rw [←hC];exact Nat.ne_of_lt (Heap.lt_size e)
  have hHC:(a8 H2 D (.lst [])) C=none:=I3.hok.fresh (by rw [hC];exact Nat.le_refl _)
  have clS:∀x c,(eI X.env scope.names []).lookup x=some c→X.env.cells.lookup x=some c:=fun x c e=>fV _ _ x c hfree (fun _ _ z=>by simp at z) e
  have clH:∀x,(∃y∈scope.names,y.1=x∧y.2=.free)→∃c,(eI X.env scope.names []).lookup x=some c:=fun x e=>i4 _ _ x (.inl e)
  have ok':(aH X scope cp tgN C s₃ (a8 H2 D (.lst [])) fp).Ok:=by
    refine⟨I.ok.mod,hk,I.ok.glob,I.ok.blt,by rw [←hC];exact Nat.le_refl _,fun x y c e1 e2=>I.ok.inj x y c (clS _ _ e1) (clS _ _ e2),fun x e=>clH x (cI hcell e),fun x c e1 e2=>?_,I.ok.hd,I.ok.frames,.inl rfl,fun b hb=>?_,fun b o e=>I3.bs b o e,?_,fun b o e hb=>?_,fun b hb z=>?_,I3.stack,fun b hb=>I3.stkFree b hb⟩
    · exfalso
      have e1':scope.names.lookup x=some .local:=by simpa [aH] using e1
      have e2':=clS x c e2
      obtain⟨c',hc'⟩:∃y∈scope.names,y.1=x∧y.2=.free:=by
        by_cases q:∃y∈scope.names,y.1=x∧y.2=.free
        · exact q
        · exfalso
          have:∀(names:List (Str × NameKind)) (cs:List (Str × Addr)),(¬∃y∈names,y.1=x∧y.2=.free)→cs.lookup x=none→(eI X.env names cs).lookup x=none:=by
            intro names
            induction names with
            | nil=>intro cs _ h;exact h
            | cons y r ih=>
              intro cs hn hcs
              obtain⟨n,k⟩:=y
              refine ih _ (fun⟨y,hy,z⟩=>hn ⟨y,List.mem_cons_of_mem _ hy,z⟩) ?_
              by_cases hk:(k==NameKind.free)=true
              · rw [if_pos hk,List.lookup_cons]
                cases hx:x==n with
                | true=>exact absurd ⟨(n,k),List.mem_cons_self,(by simpa using hx:x=n).symm,by simpa using hk⟩ hn
                | false=>exact hcs
              · rw [if_neg hk];exact hcs
          have z:=this scope.names [] q rfl
          have e2'':(eI X.env scope.names []).lookup x=some c:=e2
          rw [z] at e2'';cases e2''
      have z:=(hfr c' hc'.1 hc'.2.2).1
      rw [hc'.2.1,e1'] at z;cases z
    · obtain⟨f0,f1,f4,f5,f6,f7⟩:=f3 b hb
      obtain⟨o,ho,_⟩:=T.obj _ _ hst3 b hb
      exact⟨nC b o ho,fun x c e=>f6 x c (clS x c e)⟩
    · exact Nat.le_trans I.ok.bsz I3.sz
    · obtain⟨f0,f1,f4,f5,f6,f7⟩:=f3 b hb
      rcases f5 with z | z
      · exact I.ok.noex b o e z
      · have:=(I.ok.bs b o e).1
        exact absurd (Nat.lt_of_lt_of_le (Heap.lt_size this) z) (Nat.lt_irrefl _)
    · obtain⟨f0,f1,f4,f5,f6,f7⟩:=f3 b hb
      rcases List.mem_cons.mp (I3.stkSub b z) with z | z
      · exact f1 z
      · exact f4 z
  have I4:aw (aH X scope cp tgN C s₃ (a8 H2 D (.lst [])) fp) [] (et cp tgN.length σ) (a8 H2 D (.lst [])) {s₃ with heap:=h₁,toks:=s₃.toks+([]:List (Str × Value)).length}:=by
    refine⟨ok',rfl,I3.bare,Un.kept old,⟨_,hns₁,fun i x v e1 e2 e3=>?_⟩,fun x c e=>?_,hHC,fun x c e=>I3.freeC x c (clS x c e),fun p hp=>by simp [aH] at hp,I3.hok.kept old,by simp [et,aH]⟩
    · have hlt:i < cp.length:=by
        by_cases q:i < cp.length
        · exact q
        · exfalso
          unfold et at e2
          rw [List.getElem?_append_right (by simp;lia)] at e2
          rw [List.getElem?_replicate] at e2
          split at e2<;>cases e2
      have e1':(cp.map (·.2))[i]?=some x:=by
        have e1'':(cp.map (·.2)++tgN)[i]?=some x:=e1
        rwa [List.getElem?_append_left (by simp;exact hlt)] at e1''
      have e2':(cp.map (fun p=>(σ[p.1]?).join))[i]?=some (some v):=by
        unfold et at e2
        rwa [List.getElem?_append_left (by simp;exact hlt)] at e2
      rw [List.getElem?_map,List.getElem?_eq_getElem hlt] at e1' e2'
      have ex:(cp[i]).2=x:=by simpa using e1'
      have ev:(σ[(cp[i]).1]?).join=some v:=by simpa using e2'
      have ev':σ[(cp[i]).1]?=some (some v):=by
        cases q:σ[(cp[i]).1]? with
        | none=>rw [q] at ev;cases ev
        | some z=>rw [q] at ev;simp only [Option.join_some] at ev;rw [ev]
      have hN:=hcp cp[i] (List.getElem_mem hlt)
      rw [←hN0] at hN
      obtain⟨hcl,hcf⟩:=hcq cp[i] (List.getElem_mem hlt)
      rw [ex] at hN hcl hcf
      obtain⟨m,hn,hl⟩:=I3.loc
      obtain⟨u,r,l⟩:=hl _ x v hN ev' (.inr (.inl (by rw [hsc];exact hcl)))
      refine⟨u,r,.inr ?_⟩
      rcases l with ⟨k1,_⟩ | ⟨k1,c,hcc,o,ho,hd⟩
      · rw [hkind,hcl] at k1;cases k1
      · have e3':(relabel scope X.env).names.lookup x=some .local∨(relabel scope X.env).names.lookup x=some .cell∨(relabel scope X.env).names.lookup x=some .free:=e3
        have nl:(relabel scope X.env).names.lookup x=some .cell∨(relabel scope X.env).names.lookup x=some .free:=by
          rcases e3' with z | z | z
          · exact absurd z (dm hcf)
          · exact .inl z
          · exact .inr z
        obtain⟨c',hc'⟩:=clH x (cI hcell nl)
        have:=clS x c' hc'
        rw [hcc] at this;cases this
        exact⟨nl,c,hc',o,old c o ho,hd⟩
    · obtain⟨v,o,ho,hd⟩:=I3.cell x c (clS x c e)
      exact⟨v,o,old c o ho,hd⟩
  have hst4:tn 0 h₁:=T.keep _ _ _ hst3 fun b _ o e=>old b o e
  have loop:codeAny (model X.prog X.w) X.A (.compLoop (.ListComp elt [⟨tg,iter,ifs,0⟩] scope pos) 0 (.ref it) (.ref D) (compEnvC scope (eI X.env scope.names []) C X.env))
      (compPost (model X.prog X.w) X.A X.xe (some (assign (.Name nm posn) X.env)) (fun _ s'=>wpAny (model X.prog X.w) X.A (pure ()) (fun _ s''=>wpAny (model X.prog X.w) X.A (pure Flow.next) (SP X pins D0) X.xe s'') X.xe s') (.ref D) C) {s₃ with heap:=h₁,toks:=s₃.toks+([]:List (Str × Value)).length}:=by
    refine gC (fun n s'=>∃i σ' H',aw (aH X scope cp tgN C s₃ (a8 H2 D (.lst [])) fp) [] σ' H' s'∧tn i s'.heap∧(∀b∈fp,H' b=none)∧W i n σ' H') ?_ (n0:=m0) ⟨0,_,_,I4,hst4,fun b hb=>(f3 b hb).1,w0⟩
    rintro n s5 ⟨i,σ5,H5,I5,st5,fr5,w5⟩
    have stat:∀{H':Hp},(∀b∈fp,H' b=none)→∀b∈fp,iI (aH X scope cp tgN C s₃ (a8 H2 D (.lst [])) fp) [] H' b:=fun hn b hb=>
      ⟨hn b hb,(ok'.exf b hb).1,ok'.exfs b hb,.inl hb,(ok'.exf b hb).2,fun p hp=>by simp [aH] at hp⟩
    rcases turn i n σ5 H5 w5 with ⟨stop,qn⟩ | ⟨go,N,hN,step⟩
    · refine bF (T.done (aH X scope cp tgN C s₃ (a8 H2 D (.lst [])) fp) rfl rfl rfl hc i [] s5 σ5 H5 (fun _ _=>False) I5 (stat fr5) st5 stop) fun r s6 ⟨hr,I6⟩=>?_
      subst hr
      refine⟨fun _=>?_,fun v z=>by cases z⟩
      obtain⟨m,hn,_⟩:=I6.loc
      have I7:aw X pins σ H5 s6:=by
        have key:∀h':Heap,Heap.SameBut C s6.heap h'→aw X pins σ H5 {s6 with heap:=h'}:=fun h' sb=>by
          have ub:=I6.base
          have kp:∀b u,b≠C→s6.heap.get? b=some u→h'.get? b=some u:=fun b u ne e=>sb.extBut b u ne e
          have nit:∀b u,H5 b=some u→b≠C:=fun b u e z=>by
            have:=I6.free
            rw [z] at e
            rw [show H5 C=none from this] at e;cases e
          refine I3.call' (s':={s6 with heap:=h'}) (ch:=fp) I6.os ⟨fun b o e n hb hx=>kp b o (nC b o e) (ub.keep b o e n hb hx),fun b o e n hb hx=>?_,ub.free,fun b o e hx=>?_,ub.tups,ub.frzs,ub.tbls⟩ (fun b u e=>?_) I6.bare (fun b hb=>?_)
          · obtain⟨sl,q⟩:=ub.slot b o e n hb hx
            exact⟨sl,kp b _ (nC b o e) q⟩
          · obtain⟨o',q⟩:=ub.there b o e hx
            exact⟨o',kp b _ (nC b o e) q⟩
          · refine(I6.hok b u e).stay (fun c v hc q=>kp c v ?_ q) (fun _ q=>q) fun _ _ q=>q
            rcases hc with z | z
            · rw [z];exact nit b u e
            · exact nit c _ z
          · obtain⟨f0,f1,f4,f5,f6,f7⟩:=f3 b hb
            exact⟨f5,f1,f6,f7⟩
        exact key s6.heap ⟨rfl,fun _ _=>rfl⟩
      have fC:iI X pins H5 C:=I3.fpOk (by rw [hC];exact Nat.le_refl _) I6.free
      show wpAny (model X.prog X.w) X.A (assign (.Name nm posn) X.env (.ref D)) _ X.xe s6
      refine wpAny_assign_Name (ke (v:=.ref D) I7 hNd hix (Or.inl hlc) rfl (fun s' I' hsb=>?_) (Or.inr hlc))
      obtain⟨a,sb,ha⟩:=hsb
      have nCa:C≠a:=by
        rcases ha with z | z
        · rw [z];exact fC.2.1
        · exact fun e=>fC.2.2.2.2.1 _ _ z e.symm
      obtain⟨oN,esN,epN,hoN,rN⟩:=hn
      refine⟨m,⟨oN,esN,epN,(sb.2 C nCa).trans hoN,rN⟩,fun h' sb'=>wpAny_pure (wpAny_pure ?_)⟩
      have I8:aw X pins (σ.set ix (some (.ref D))) H5 {s' with heap:=h',toks:=s'.toks}:=I'.turnedL (t':=s'.toks) (fp:=[C]) (fun b hb=>by rw [List.mem_singleton.mp hb];exact fC) fun b o nb e=>sb'.extBut b o (by simpa using nb) e
      exact⟨_,H5,I8,qn⟩
    · refine bF (T.item (aH X scope cp tgN C s₃ (a8 H2 D (.lst [])) fp) rfl rfl rfl hc i [] s5 σ5 H5 (fun _ _=>False) I5 (stat fr5) st5 go) fun r s6 ⟨u,hr,h6⟩=>?_
      subst hr
      refine⟨fun z=>(by cases z),fun v z=>?_⟩
      cases z
      refine bF h6 fun _ s7 ⟨x,H7,I7,r7,y7,st7,fr7⟩=>?_
      have I7':=I7.pinned (stat fr7) (T.obj _ _ st7)
      have again:∀{σ8:L2.St} {H8:Hp} {s8:Shared},aw (aH X scope cp tgN C s₃ (a8 H2 D (.lst [])) fp) ([]++ip fp s7.heap) σ8 H8 s8→N σ8 H8→∃m,m < n∧∃i σ' H',aw (aH X scope cp tgN C s₃ (a8 H2 D (.lst [])) fp) [] σ' H' s8∧tn i s8.heap∧(∀b∈fp,H' b=none)∧W i m σ' H':=fun{σ8 H8 s8} I8 n8=>by
        obtain⟨m',hm,w8⟩:=hN σ8 H8 n8
        refine⟨m',hm,i+1,σ8,H8,I8.unpinned,T.keep _ _ _ st7 fun b hb o e=>(I8.pin (b,o) (List.mem_append_right _ (List.mem_append_right _ (cQ hb e)))).1,fun b hb=>?_,w8⟩
        obtain⟨o,e,d⟩:=T.obj _ _ st7 b hb
        exact(I8.pin (b,o) (List.mem_append_right _ (List.mem_append_right _ (cQ hb e)))).2.1
      refine bF (hg C s₃ (a8 H2 D (.lst [])) fp _ s7 σ5 H7 x u _ I7' r7 (step x H7 y7)) fun _ s8 ⟨σ8,H8,I8,q8⟩=>?_
      refine bF (ht C s₃ (a8 H2 D (.lst [])) fp _ s8 σ8 H8 _ I8 q8) fun ok s9 ⟨H9,I9,q9⟩=>?_
      cases ok with
      | false=>
        rw [if_neg Bool.false_ne_true] at q9 ⊢
        exact again I9 q9
      | true=>
        rw [if_pos rfl] at q9 ⊢
        refine bF (he C s₃ (a8 H2 D (.lst [])) fp _ s9 σ8 H9 _ I9 q9) fun v s10 ⟨xv,H10,I10,r10,ys,hl,hz,n10⟩=>?_
        refine bF (il _ s10 σ8 H10 (.ref D) [xv] (.ref D) [v] (fun _ H=>N σ8 H) I10 rfl (.cons r10 .nil) ⟨D,ys,xv,rfl,rfl,hl,hz,n10⟩) fun _ s11 ⟨_,H11,I11,_,q11⟩=>?_
        exact again I11 q11
  exact codeAny_compStart_list loop (T.self X.A 0 _ _ _ hst4 loop)
end L2
namespace L2
open PySem PySem.Spec PyProof.Rows
mutual
def DA(K:PySem.W.Frag)(F:Hp):PyData→V→Prop
  | .none,v=>v=.non
  | .bool b,v=>v=.bl b
  | .int i,v=>v=.int i
  | .str x,v=>v=.str x
  | .tuple ds,v=>∃a xs,v=.ref a∧dg K F a xs∧aC K F ds xs
  | .list ds,v=>∃a xs,v=.ref a∧ef K F a xs∧aC K F ds xs
  | .dict kvs,v=>∃(a:Addr) (m:List (Int × Int)),v=.ref a∧F a=some (.dK (m.map fun p=>(Sum.inl p.1,V.int p.2)))∧kvs=m.map fun p=>(PyData.int p.1,PyData.int p.2)
def aC(K:PySem.W.Frag)(F:Hp):List PyData→List V→Prop
  | [],xs=>xs=[]
  | d::ds,xs=>∃x r,xs=x::r∧DA K F d x∧aC K F ds r
end
mutual
theorem DA.mono{K:PySem.W.Frag}{F F':Hp}(h:av F F'):∀{d:PyData} {v:V},DA K F d v→DA K F' d v
  | .none,_,q=>by simp only [DA] at q ⊢;exact q
  | .bool b,_,q=>by simp only [DA] at q ⊢;exact q
  | .int i,_,q=>by simp only [DA] at q ⊢;exact q
  | .str x,_,q=>by simp only [DA] at q ⊢;exact q
  | .tuple ds,_,q=>by
    simp only [DA] at q ⊢
    obtain⟨a,xs,e,s,r⟩:=q
    exact⟨a,xs,e,h.tup s,aC.mono h r⟩
  | .list ds,_,q=>by
    simp only [DA] at q ⊢
    obtain⟨a,xs,e,s,r⟩:=q
    exact⟨a,xs,e,h.seq s,aC.mono h r⟩
  | .dict _,_,q=>by
    simp only [DA] at q ⊢
    obtain⟨a,m,e,s,k⟩:=q
    exact⟨a,m,e,h _ _ s,k⟩
theorem aC.mono{K:PySem.W.Frag}{F F':Hp}(h:av F F'):∀{ds:List PyData} {xs:List V},aC K F ds xs→aC K F' ds xs
  | [],_,q=>by simp only [aC] at q ⊢;exact q
  | d::ds,_,q=>by
    simp only [aC] at q ⊢
    obtain⟨x,r,e,a,b⟩:=q
    exact⟨x,r,e,DA.mono h a,aC.mono h b⟩
end
section
variable{K:PySem.W.Frag}{F:Hp}
theorem aC.len:∀{ds:List PyData} {xs:List V},aC K F ds xs→ds.length=xs.length
  | [],_,q=>by simp only [aC] at q;subst q;rfl
  | d::ds,_,q=>by
    simp only [aC] at q
    obtain⟨x,r,e,a,b⟩:=q
    subst e
    simp [aC.len b]
theorem aC.get:∀{ds:List PyData} {xs:List V} {i:Nat} {d:PyData},aC K F ds xs→ds[i]?=some d→∃v,xs[i]?=some v∧DA K F d v
  | [],_,_,_,_,h=>by simp at h
  | d::ds,_,i,d',q,h=>by
    simp only [aC] at q
    obtain⟨x,r,e,a,b⟩:=q
    subst e
    cases i with
    | zero=>simp at h;subst h;exact⟨x,rfl,a⟩
    | succ i=>
      obtain⟨v,h1,h2⟩:=aC.get (i:=i) b (by simpa using h)
      exact⟨v,by simpa using h1,h2⟩
theorem aC.append:∀{ds es:List PyData} {xs ys:List V},aC K F ds xs→aC K F es ys→aC K F (ds++es) (xs++ys)
  | [],_,_,_,q,s=>by simp only [aC] at q;subst q;simpa using s
  | d::ds,es,_,ys,q,s=>by
    simp only [aC] at q
    obtain⟨x,r,e,a,b⟩:=q
    subst e
    simp only [List.cons_append,aC]
    exact⟨x,_,rfl,a,aC.append b s⟩
theorem aC.one{d:PyData}{v:V}(h:DA K F d v):aC K F [d] [v]:=by simp only [aC];exact⟨_,_,rfl,h,rfl⟩
theorem aC.nil:aC K F [] []:=by simp only [aC]
theorem aC.cons{d:PyData}{v:V}{ds:List PyData}{vs:List V}(h:DA K F d v)(r:aC K F ds vs):aC K F (d::ds) (v::vs):=by simp only [aC];exact⟨_,_,rfl,h,r⟩
theorem aC.drop:∀{ds:List PyData} {xs:List V} (n:Nat),aC K F ds xs→aC K F (ds.drop n) (xs.drop n)
  | _,_,0,q=>q
  | [],_,n+1,q=>by simp only [aC] at q;subst q;exact aC.nil
  | d::ds,_,n+1,q=>by
    simp only [aC] at q
    obtain⟨x,r,e,a,b⟩:=q
    subst e
    simpa using aC.drop n b
theorem aC.take:∀{ds:List PyData} {xs:List V} (n:Nat),aC K F ds xs→aC K F (ds.take n) (xs.take n)
  | _,_,0,q=>by simpa using aC.nil
  | [],_,n+1,q=>by simp only [aC] at q;subst q;exact aC.nil
  | d::ds,_,n+1,q=>by
    simp only [aC] at q
    obtain⟨x,r,e,a,b⟩:=q
    subst e
    simpa using aC.cons a (aC.take n b)
theorem aC.set{d:PyData}{v:V}(h:DA K F d v):∀{ds:List PyData} {xs:List V} (n:Nat),aC K F ds xs→aC K F (ds.set n d) (xs.set n v)
  | [],_,_,q=>by simp only [aC] at q;subst q;exact aC.nil
  | e::ds,_,n,q=>by
    simp only [aC] at q
    obtain⟨x,r,e,a,b⟩:=q
    subst e
    cases n with
    | zero=>exact aC.cons h b
    | succ n=>exact aC.cons a (aC.set h n b)
theorem aC.erase:∀{ds:List PyData} {xs:List V} (n:Nat),aC K F ds xs→aC K F (ds.eraseIdx n) (xs.eraseIdx n)
  | [],_,_,q=>by simp only [aC] at q;subst q;exact aC.nil
  | e::ds,_,n,q=>by
    simp only [aC] at q
    obtain⟨x,r,e,a,b⟩:=q
    subst e
    cases n with
    | zero=>exact b
    | succ n=>exact aC.cons a (aC.erase n b)
theorem aC.ints:∀{ns:List Int} {xs:List V},aC K F (ns.map .int) xs↔ xs=ns.map V.int
  | [],xs=>by simp [aC]
  | n::ns,xs=>by
    simp only [List.map_cons,aC,DA]
    constructor
    · rintro⟨x,r,e,rfl,q⟩;rw [e,aC.ints.mp q]
    · rintro rfl;exact⟨_,_,rfl,rfl,aC.ints.mpr rfl⟩
theorem aC.bools:∀{ns:List Bool} {xs:List V},aC K F (ns.map .bool) xs↔ xs=ns.map V.bl
  | [],xs=>by simp [aC]
  | n::ns,xs=>by
    simp only [List.map_cons,aC,DA]
    constructor
    · rintro⟨x,r,e,rfl,q⟩;rw [e,aC.bools.mp q]
    · rintro rfl;exact⟨_,_,rfl,rfl,aC.bools.mpr rfl⟩
theorem cj{i:Int}{v:V}:DA K F (.int i) v↔ v=.int i:=by simp only [DA]
theorem ci{b:Bool}{v:V}:DA K F (.bool b) v↔ v=.bl b:=by simp only [DA]
theorem eB{v:V}:DA K F .none v↔ v=.non:=by simp only [DA]
theorem mV{x:Str}{v:V}:DA K F (.str x) v↔ v=.str x:=by simp only [DA]
theorem cE{ds:List PyData}{v:V}:DA K F (.tuple ds) v↔ ∃a xs,v=.ref a∧dg K F a xs∧aC K F ds xs:=by simp only [DA]
theorem dh{ds:List PyData}{v:V}:DA K F (.list ds) v↔ ∃a xs,v=.ref a∧ef K F a xs∧aC K F ds xs:=by simp only [DA]
end
inductive Sv where
  | d (x:PyData)
  | l (xs:List PyData)
  /-- a list of lists that nobody else holds -/
  | n (xss:List (List PyData))
abbrev En:=List (Option Sv)
inductive Rv where
  | d (x:PyData)
  | l (xs:List PyData)
  | s (i:Nat)
def Fp(σ:L2.St)(e:En)(H:Hp)(i:Nat)(a:Addr):Prop:=(∃xs:List PyData,e[i]?=some (some (Sv.l xs))∧σ[i]?=some (some (.ref a)))∨
  ∃(xss:List (List PyData)) (l:Addr) (bs:List Addr),e[i]?=some (some (Sv.n xss))∧σ[i]?=some (some (.ref l))∧H l=some (.lst (bs.map V.ref))∧(a=l∨a∈bs)
def cO(σ:L2.St)(e:En)(H:Hp)(a:Addr):Prop:=∃i,Fp σ e H i a
structure aR (K:PySem.W.Frag) (F H:Hp) (σ:L2.St) (e:En):Prop where
  sm:av F H
  len:σ.length=e.length
  dat:∀(i:Nat) (x:PyData),e[i]?=some (some (.d x))→∃v,σ[i]?=some (some v)∧DA K F x v
  own:∀(i:Nat) (xs:List PyData),e[i]?=some (some (.l xs))→∃l vs,σ[i]?=some (some (.ref l))∧F l=none∧H l=some (.lst vs)∧aC K F xs vs
  nst:∀(i:Nat) (xss:List (List PyData)),e[i]?=some (some (.n xss))→∃(l:Addr) (bs:List Addr),σ[i]?=some (some (.ref l))∧F l=none∧H l=some (.lst (bs.map V.ref))∧bs.length=xss.length∧bs.Nodup∧l∉bs∧
    ∀(k:Nat) (b:Addr) (ys:List PyData),bs[k]?=some b→xss[k]?=some ys→F b=none∧∃us,H b=some (.lst us)∧aC K F ys us
  fp:∀(i j:Nat) (a:Addr),Fp σ e H i a→Fp σ e H j a→i=j
theorem aR.inj{K:PySem.W.Frag}{F H:Hp}{σ:L2.St}{e:En}(R:aR K F H σ e)(i j:Nat)(xs ys:List PyData)(l:Addr)(h1:e[i]?=some (some (.l xs)))(h2:e[j]?=some (some (.l ys)))(h3:σ[i]?=some (some (.ref l)))(h4:σ[j]?=some (some (.ref l))):i=j:=R.fp i j l (.inl ⟨xs,h1,h3⟩) (.inl ⟨ys,h2,h4⟩)
theorem aR.fpAt{K:PySem.W.Frag}{F H:Hp}{σ:L2.St}{e:En}(R:aR K F H σ e){i:Nat}{a:Addr}(h:Fp σ e H i a):F a=none∧∃vs,H a=some (.lst vs):=by
  rcases h with ⟨xs,h1,h2⟩ | ⟨xss,l,bs,h1,h2,h3,h4⟩
  · obtain⟨l,vs,g1,g2,g3,_⟩:=R.own i xs h1
    rw [h2] at g1;cases g1
    exact⟨g2,vs,g3⟩
  · obtain⟨l',bs',g1,g2,g3,g4,g5,g6,g7⟩:=R.nst i xss h1
    rw [h2] at g1;cases g1
    rw [h3] at g3
    have e1:bs=bs':=by
      have:=HO.lst.inj (Option.some.inj g3)
      exact List.map_inj_right (fun _ _ z=>V.ref.inj z) |>.mp this
    subst e1
    rcases h4 with rfl | h4
    · exact⟨g2,_,h3⟩
    · obtain⟨k,hk⟩:=List.getElem?_of_mem h4
      have hk2:k < xss.length:=by rw [←g4];exact(List.getElem?_eq_some_iff.mp hk).1
      obtain⟨c1,us,c2,_⟩:=g7 k a xss[k] hk (List.getElem?_eq_getElem hk2)
      exact⟨c1,us,c2⟩
structure cK (σ:L2.St) (F H:Hp) (e:En) (F' H':Hp) (e':En):Prop where
  sf:av F F'
  dom:∀a,H' a=none→H a=none
  fr:∀a vs,F a=none→H a=some (.lst vs)→¬cO σ e H a→F' a=none
  lst:∀a vs,H a=some (.lst vs)→∃vs',H' a=some (.lst vs')
  tmp:∀a o,H a=some o→¬cO σ e H a→H' a=some o
  shp:∀i:Nat,(∃xs,e'[i]?=some (some (.l xs)))↔ (∃xs,e[i]?=some (some (.l xs)))
  ow:∀a,cO σ e' H' a→cO σ e H a∨H a=none
theorem cK.refl(σ:L2.St)(F H:Hp)(e:En):cK σ F H e F H e:=⟨av.refl _,fun _ h=>h,fun _ _ h _ _=>h,fun _ vs h=>⟨vs,h⟩,fun _ _ h _=>h,fun _=>Iff.rfl,fun _ h=>.inl h⟩
theorem cK.trans{σ:L2.St}{F H F1 H1 F2 H2:Hp}{e e1 e2:En}(x:cK σ F H e F1 H1 e1)(y:cK σ F1 H1 e1 F2 H2 e2):cK σ F H e F2 H2 e2:=
  ⟨x.sf.trans y.sf,fun a h=>x.dom a (y.dom a h),fun a vs h n no=>let ⟨vs',q⟩:=x.lst a vs n;y.fr a vs' (x.fr a vs h n no) q (fun z=>(x.ow a z).elim no fun z=>by rw [n] at z;cases z),fun a vs h=>let ⟨vs',q⟩:=x.lst a vs h;y.lst a vs' q,
    fun a o h n=>y.tmp a o (x.tmp a o h n) (fun z=>(x.ow a z).elim n fun z=>by rw [h] at z;cases z),fun i=>(y.shp i).trans (x.shp i),fun a h=>(y.ow a h).elim (x.ow a) fun z=>.inr (x.dom a z)⟩
def bL(K:PySem.W.Frag)(σ:L2.St)(H0 F H:Hp)(e:En):Rv→V→Prop
  | .d x,v=>DA K F x v
  | .l xs,v=>∃l vs,v=.ref l∧H0 l=none∧F l=none∧H l=some (.lst vs)∧aC K F xs vs∧¬cO σ e H l
  | .s i,v=>σ[i]?=some (some v)∧∃xs,e[i]?=some (some (.l xs))
section
variable{K:PySem.W.Frag}{σ:L2.St}{H0 F H F' H':Hp}{e e':En}{r:Rv}{v:V}
theorem bL.ext(h:bL K σ H0 F H e r v)(x:cK σ F H e F' H' e'):bL K σ H0 F' H' e' r v:=by
  cases r with
  | d y=>exact DA.mono x.sf h
  | l xs=>
    obtain⟨l,vs,e1,h1,h2,h3,h4,h5⟩:=h
    exact⟨l,vs,e1,h1,x.fr l _ h2 h3 h5,x.tmp l _ h3 h5,aC.mono x.sf h4,fun z=>(x.ow l z).elim h5 fun z=>by rw [h3] at z;cases z⟩
  | s i=>exact⟨h.1,(x.shp i).mpr h.2⟩
theorem bL.weak{H1:Hp}(h:bL K σ H1 F H e r v)(d:∀a,H1 a=none→H0 a=none):bL K σ H0 F H e r v:=by
  cases r with
  | d y=>exact h
  | l xs=>
    obtain⟨l,vs,e1,h1,r⟩:=h
    exact⟨l,vs,e1,d l h1,r⟩
  | s i=>exact h
theorem aR.ownH(R:aR K F H σ e)(a:Addr)(h:cO σ e H a):H a≠none:=by
  obtain⟨i,h⟩:=h
  obtain⟨_,vs,h2⟩:=R.fpAt h
  rw [h2];simp
theorem aR.freeF(R:aR K F H σ e){p:Addr}(hp:H p=none):F p=none:=R.sm.free hp
theorem sD(R:aR K F H σ e)(h:∀l bs,H l=some (.lst bs)→cO σ e H l→H' l=some (.lst bs)){i:Nat}{a:Addr}:Fp σ e H' i a↔ Fp σ e H i a:=by
  have key:∀xss l,e[i]?=some (some (.n xss))→σ[i]?=some (some (.ref l))→H' l=H l:=fun xss l h1 h2=>by
    obtain⟨l',bs,g1,g2,g3,_⟩:=R.nst i xss h1
    rw [h2] at g1;cases g1
    rw [g3]
    exact h l _ g3 ⟨i,.inr ⟨xss,l,bs,h1,h2,g3,.inl rfl⟩⟩
  constructor
  · rintro(h1 | ⟨xss,l,bs,h1,h2,h3,h4⟩)
    · exact .inl h1
    · exact .inr ⟨xss,l,bs,h1,h2,by rw [←key xss l h1 h2];exact h3,h4⟩
  · rintro(h1 | ⟨xss,l,bs,h1,h2,h3,h4⟩)
    · exact .inl h1
    · exact .inr ⟨xss,l,bs,h1,h2,by rw [key xss l h1 h2];exact h3,h4⟩
theorem aR.keep(R:aR K F H σ e)(sF:av F F')(sm:av F' H')(hf:∀a,cO σ e H a→F' a=none)(hh:∀a o,cO σ e H a→H a=some o→H' a=some o):aR K F' H' σ e∧∀a,cO σ e H' a↔ cO σ e H a:=by
  have fs:∀{i a},Fp σ e H' i a↔ Fp σ e H i a:=fun{i a}=>sD R fun l bs h1 h2=>hh l _ h2 h1
  refine⟨⟨sm,R.len,fun i x h=>let ⟨v,h1,h2⟩:=R.dat i x h;⟨v,h1,DA.mono sF h2⟩,fun i xs h=>?_,fun i xss h=>?_,fun i j a h1 h2=>R.fp i j a (fs.mp h1) (fs.mp h2)⟩,fun a=>⟨fun⟨i,h⟩=>⟨i,fs.mp h⟩,fun⟨i,h⟩=>⟨i,fs.mpr h⟩⟩⟩
  · obtain⟨l,vs,h1,h2,h3,h4⟩:=R.own i xs h
    have o:cO σ e H l:=⟨i,.inl ⟨xs,h,h1⟩⟩
    exact⟨l,vs,h1,hf l o,hh l _ o h3,h4.mono sF⟩
  · obtain⟨l,bs,h1,h2,h3,h4,h5,h6,h7⟩:=R.nst i xss h
    have o:cO σ e H l:=⟨i,.inr ⟨xss,l,bs,h,h1,h3,.inl rfl⟩⟩
    refine⟨l,bs,h1,hf l o,hh l _ o h3,h4,h5,h6,fun k b ys g1 g2=>?_⟩
    obtain⟨c1,us,c2,c3⟩:=h7 k b ys g1 g2
    have ob:cO σ e H b:=⟨i,.inr ⟨xss,l,bs,h,h1,h3,.inr (List.mem_of_getElem? g1)⟩⟩
    exact⟨hf b ob,us,hh b _ ob c2,c3.mono sF⟩
theorem aR.same(R:aR K F H σ e)(s:av H H'):aR K F H' σ e∧cK σ F H e F H' e:=by
  obtain⟨R',o'⟩:=R.keep (av.refl F) (R.sm.trans s) (fun a ⟨i,h⟩=>(R.fpAt h).1) fun a o _ h=>s a o h
  exact⟨R',⟨av.refl _,fun a h=>s.free h,fun _ _ h _ _=>h,fun a vs h=>⟨vs,s _ _ h⟩,fun a o h _=>s a o h,fun _=>Iff.rfl,fun a h=>.inl ((o' a).mp h)⟩⟩
theorem aR.freeze(R:aR K F H σ e){p:Addr}{o:HO}(hF:F p=none)(hp:H p=some o)(hn:¬cO σ e H p):aR K (a8 F p o) H σ e∧av F (a8 F p o):=by
  have sF:av F (a8 F p o):=av.new hF
  refine⟨(R.keep sF (fun b u q=>?_) (fun a ha=>?_) fun _ _ _ h=>h).1,sF⟩
  · by_cases z:b=p
    · subst z;rw [au] at q;cases q;exact hp
    · rw [aF z] at q;exact R.sm _ _ q
  · obtain⟨i,hi⟩:=ha
    have z:a≠p:=fun z=>hn ⟨i,by rw [←z];exact hi⟩
    rw [aF z];exact(R.fpAt hi).1
theorem aR.notOwn(R:aR K F H σ e){p:Addr}{o:HO}(hp:H p=some o)(hl:∀vs,o≠.lst vs):¬cO σ e H p:=fun⟨i,h⟩=>by
  obtain⟨_,vs,g⟩:=R.fpAt h
  rw [hp] at g;cases g
  exact hl _ rfl
theorem aR.newT(R:aR K F H σ e){p:Addr}{vs:List V}(hp:H p=none):aR K (a8 F p (.tup vs)) (a8 H p (.tup vs)) σ e∧cK σ F H e (a8 F p (.tup vs)) (a8 H p (.tup vs)) e:=by
  have hF:=R.freeF hp
  obtain⟨R1,X1⟩:=R.same (av.new hp (o:=.tup vs))
  obtain⟨R2,s2⟩:=R1.freeze (p:=p) hF au (R1.notOwn au (fun _ z=>nomatch z))
  refine⟨R2,⟨s2,X1.dom,fun a ws h n _=>?_,X1.lst,X1.tmp,X1.shp,X1.ow⟩⟩
  have z:a≠p:=fun z=>by rw [z,hp] at n;cases n
  rw [aF z];exact h
theorem aR.sameOwn(R:aR K F H σ e)(s:av H H')(a:Addr):cO σ e H' a↔ cO σ e H a:=(R.keep (av.refl F) (R.sm.trans s) (fun a ⟨i,h⟩=>(R.fpAt h).1) fun a o _ h=>s a o h).2 a
theorem aR.newL(R:aR K F H σ e){p:Addr}{vs:List V}(hp:H p=none):aR K F (a8 H p (.lst vs)) σ e∧cK σ F H e F (a8 H p (.lst vs)) e∧F p=none∧¬cO σ e (a8 H p (.lst vs)) p:=
  ⟨(R.same (av.new hp)).1,(R.same (av.new hp)).2,R.freeF hp,fun z=>R.ownH p ((R.sameOwn (av.new hp) p).mp z) hp⟩
theorem aR.growT(R:aR K F H σ e){p:Addr}{xs:List V}(s:av H H')(hp:dg K H' p xs):∃F',aR K F' H' σ e∧cK σ F H e F' H' e∧dg K F' p xs:=by
  obtain⟨R1,X1⟩:=R.same s
  rcases hp with hp | hp
  · have key:∀o,H' p=some o→(∀vs,o≠.lst vs)→(∀G:Hp,G p=some o→Rd G p (.tup xs))→∃F',aR K F' H' σ e∧cK σ F H e F' H' e∧dg K F' p xs:=by
      intro o ho hl hr
      cases q:F p with
      | some u=>
        have:=R1.sm _ _ q
        rw [ho] at this;cases this
        exact⟨F,R1,X1,.inl (hr F q)⟩
      | none=>
        obtain⟨R2,s2⟩:=R1.freeze q ho (R1.notOwn ho hl)
        refine⟨_,R2,⟨s2,X1.dom,fun a ws h n _=>?_,X1.lst,X1.tmp,X1.shp,X1.ow⟩,.inl (hr _ au)⟩
        have z:a≠p:=fun z=>by rw [z] at n;rw [s _ _ n] at ho;cases ho;exact hl _ rfl
        rw [aF z];exact h
    rcases hp with hp | ⟨ob,hp⟩
    · exact key _ hp (fun _ z=>nomatch z) fun G g=>.inl g
    · exact key _ hp (fun _ z=>nomatch z) fun G g=>.inr ⟨ob,g⟩
  · exact⟨F,R1,X1,.inr hp⟩
theorem bL.frozen(R:aR K F H σ e){xs:List PyData}(h:bL K σ H0 F H e (.l xs) v):∃F',aR K F' H σ e∧av F F'∧DA K F' (.list xs) v∧(∀a,F a=none→H0 a≠none→F' a=none):=by
  obtain⟨l,vs,rfl,h1,h2,h3,h4,h5⟩:=h
  obtain⟨R2,s2⟩:=R.freeze h2 h3 h5
  refine⟨_,R2,s2,?_,fun a ha hn=>?_⟩
  · rw [dh]
    exact⟨l,vs,rfl,.inl (.inl au),aC.mono s2 h4⟩
  · have z:a≠l:=fun z=>hn (by rw [z];exact h1)
    rw [aF z];exact ha
def cM(e:En):Rv→Option (Bool × List PyData)
  | .d (.tuple xs)=>some (false,xs)
  | .d (.list xs)=>some (true,xs)
  | .l xs=>some (true,xs)
  | .s i=>match e[i]? with
    | some (some (.l xs))=>some (true,xs)
    | _=>none
  | _=>none
theorem bP(R:aR K F H σ e)(h:bL K σ H0 F H e r v){b:Bool}{xs:List PyData}(q:cM e r=some (b,xs)):
    ∃p vs,v=.ref p∧aC K F xs vs∧(if b=true then ef K H p vs else dg K H p vs):=by
  cases r with
  | d x=>
    cases x with
    | tuple ds=>
      cases q
      obtain⟨a,ys,e1,e2,e3⟩:=cE.mp h
      exact⟨a,ys,e1,e3,R.sm.tup e2⟩
    | list ds=>
      cases q
      obtain⟨a,ys,e1,e2,e3⟩:=dh.mp h
      exact⟨a,ys,e1,e3,R.sm.seq e2⟩
    | _=>cases q
  | l ys=>
    cases q
    obtain⟨l,vs,e1,h1,h2,h3,h4,_⟩:=h
    exact⟨l,vs,e1,h4,.inl (.inl h3)⟩
  | s i=>
    obtain⟨h1,ys,h2⟩:=h
    simp only [cM,h2] at q
    cases q
    obtain⟨l,vs,e1,e2,e3,e4⟩:=R.own i _ h2
    rw [h1] at e1;cases e1
    exact⟨l,vs,rfl,e4,.inl (.inl e3)⟩
end
end L2
namespace L2
open PySem PySem.Spec PyProof.Rows
abbrev FE:=En→Option (Rv × En)
abbrev FT:=En→Option (Bool × En)
abbrev FA:=En→Option (List Rv × En)
def cC(K:PySem.W.Frag)(σ:L2.St)(H0 F H:Hp)(e:En):List Rv→List V→Prop
  | [],vs=>vs=[]
  | r::rs,vs=>∃v ws,vs=v::ws∧bL K σ H0 F H e r v∧cC K σ H0 F H e rs ws
def fE(K:PySem.W.Frag)(f:FE):TE:=fun σ H Q=>∃F e r e',aR K F H σ e∧f e=some (r,e')∧∀F' H' v,cK σ F H e F' H' e'→aR K F' H' σ e'→bL K σ H F' H' e' r v→Q v H'
def fT(K:PySem.W.Frag)(f:FT):TT:=fun σ H Q=>∃F e b e',aR K F H σ e∧f e=some (b,e')∧∀F' H',cK σ F H e F' H' e'→aR K F' H' σ e'→Q b H'
def fA(K:PySem.W.Frag)(f:FA):TA:=fun σ H Q=>∃F e rs e',aR K F H σ e∧f e=some (rs,e')∧∀F' H' vs,cK σ F H e F' H' e'→aR K F' H' σ e'→cC K σ H F' H' e' rs vs→Q vs H'
theorem PE.mono{X:Cx}{e:Expr}{t t':TE}(h:PE X e t)(m:∀σ H Q,t' σ H Q→t σ H Q):PE X e t':=fun pins s σ H Q I q=>h pins s σ H Q I (m σ H Q q)
theorem PT.mono{X:Cx}{e:Expr}{t t':TT}(h:PT X e t)(m:∀σ H Q,t' σ H Q→t σ H Q):PT X e t':=fun pins s σ H Q I q=>h pins s σ H Q I (m σ H Q q)
theorem PW.mono{X:Cx}{e:Expr}{t t':TT}(h:PW X e t)(m:∀σ H Q,t' σ H Q→t σ H Q):PW X e t':=fun wh pins s σ H Q I q=>h wh pins s σ H Q I (m σ H Q q)
theorem PA.mono{X:Cx}{es:List Expr}{t t':TA}(h:PA X es t)(m:∀σ H Q,t' σ H Q→t σ H Q):PA X es t':=fun pos pins s σ H Q I q=>h pos pins s σ H Q I (m σ H Q q)
section
variable{K:PySem.W.Frag}{σ:L2.St}{H0 F H F' H':Hp}{e e':En}
theorem cC.weak{H1:Hp}(d:∀a,H1 a=none→H0 a=none):∀{rs:List Rv} {vs:List V},cC K σ H1 F H e rs vs→cC K σ H0 F H e rs vs
  | [],_,h=>h
  | r::rs,_,h=>by
    obtain⟨v,ws,rfl,h1,h2⟩:=h
    exact⟨v,ws,rfl,h1.weak d,cC.weak d h2⟩
theorem cK.frz{F'':Hp}(x:cK σ F H e F' H' e')(s:av F' F'')(h:∀a,F' a=none→H a≠none→F'' a=none):cK σ F H e F'' H' e':=
  ⟨x.sf.trans s,x.dom,fun a vs h1 h2 h3=>h a (x.fr a vs h1 h2 h3) (by rw [h2];simp),x.lst,x.tmp,x.shp,x.ow⟩
def gE:List Rv→Option (List PyData)
  | []=>some []
  | .d x::rs=>(gE rs).map (x::·)
  | .l xs::rs=>(gE rs).map (.list xs::·)
  | .s _::_=>none
theorem cC.frozen:∀{rs:List Rv} {vs:List V} {ds:List PyData} {F:Hp},aR K F H σ e→cC K σ H0 F H e rs vs→gE rs=some ds→
    ∃F',aR K F' H σ e∧av F F'∧aC K F' ds vs∧(∀a,F a=none→H0 a≠none→F' a=none)
  | [],_,_,F,R,h,q=>by
    cases q
    have h':_=[]:=h
    subst h'
    exact⟨F,R,av.refl _,aC.nil,fun _ h _=>h⟩
  | .d x::rs,_,ds,F,R,h,q=>by
    obtain⟨v,ws,rfl,h1,h2⟩:=h
    obtain⟨ds',q1,rfl⟩:=Option.map_eq_some_iff.mp q
    obtain⟨F',R',s',d',f'⟩:=cC.frozen R h2 q1
    exact⟨F',R',s',.cons (DA.mono s' h1) d',f'⟩
  | .l xs::rs,_,ds,F,R,h,q=>by
    obtain⟨v,ws,rfl,h1,h2⟩:=h
    obtain⟨ds',q1,rfl⟩:=Option.map_eq_some_iff.mp q
    obtain⟨F',R',s',d',f'⟩:=cC.frozen R h2 q1
    obtain⟨l,us,rfl,g1,g2,g3,g4,g5⟩:=h1
    cases hl:F' l with
    | none=>
      have h1':bL K σ H0 F' H e (.l xs) (.ref l):=⟨l,us,rfl,g1,hl,g3,aC.mono s' g4,g5⟩
      obtain⟨F2,R2,s2,d2,f2⟩:=h1'.frozen R'
      exact⟨F2,R2,s'.trans s2,.cons d2 (aC.mono s2 d'),fun a ha hn=>f2 a (f' a ha hn) hn⟩
    | some o=>
      have:=R'.sm _ _ hl
      rw [g3] at this;cases this
      exact⟨F',R',s',.cons (dh.mpr ⟨l,us,rfl,.inl (.inl hl),aC.mono s' g4⟩) d',f'⟩
end
section
variable{X:Cx}{K:PySem.W.Frag}{a b c:Expr}{fa fb:FE}{ft fu:FT}{pos:Pos}{es:List Expr}{fs:FA}
def ae(i:Nat):FE:=fun e=>match e[i]? with
  | some (some (.d x))=>some (.d x,e)
  | some (some (.l _))=>some (.s i,e)
  | _=>none
def vC(x:PyData):FE:=fun e=>some (.d x,e)
theorem uw{i:Nat}{σ:L2.St}{H:Hp}{Q:VK}(h:fE K (ae i) σ H Q):zC i σ H Q:=by
  obtain⟨F,e,r,e',R,hf,q⟩:=h
  unfold ae at hf
  match h1:e[i]?,hf with
  | some (some (.d x)),hf=>
    cases hf
    obtain⟨v,h2,h3⟩:=R.dat i x h1
    exact⟨v,h2,q F H v (cK.refl _ _ _ _) R h3⟩
  | some (some (.n _)),hf=>cases hf
  | some (some (.l xs)),hf=>
    cases hf
    obtain⟨l,vs,h2,h3⟩:=R.own i xs h1
    exact⟨_,h2,q F H _ (cK.refl _ _ _ _) R ⟨h2,xs,h1⟩⟩
  | some none,hf=>cases hf
  | none,hf=>cases hf
theorem qv(i:Nat){x:Str}{pos:Pos}(hN:X.N[i]?=some x)(hv:x4 X.env.scope x)(hd:(x==("__debug__":Str))=false)(hcd:(x==("__classdict__":Str))=false):PE X (.Name x pos) (fE K (ae i)):=(wF hN hv hd hcd).mono fun _ _ _ h=>uw h
theorem oI{x:PyData}{v:V}{σ:L2.St}{H:Hp}{Q:VK}(hx:∀F,DA K F x v)(h:fE K (vC x) σ H Q):tC v σ H Q:=by
  obtain⟨F,e,r,e',R,hf,q⟩:=h
  cases hf
  exact q F H v (cK.refl _ _ _ _) R (hx F)
theorem ac{i j pos}:PE X (.Constant (.int i) j pos) (fE K (vC (.int i))):=nh.mono fun _ _ _ h=>oI (fun _=>cj.mpr rfl) h
theorem dw{b j pos}:PE X (.Constant (.bool b) j pos) (fE K (vC (.bool b))):=yP.mono fun _ _ _ h=>oI (fun _=>ci.mpr rfl) h
theorem jn{j pos}:PE X (.Constant .none j pos) (fE K (vC .none)):=wz.mono fun _ _ _ h=>oI (fun _=>eB.mpr rfl) h
theorem jo{x j pos}:PE X (.Constant (.str x) j pos) (fE K (vC (.str x))):=wC.mono fun _ _ _ h=>oI (fun _=>mV.mpr rfl) h
def dF(K:PySem.W.Frag)(r:R2)(g:En→Rv→Rv→Option Rv):Prop:=
  ∀(σ:L2.St) (H0 F H:Hp) (e:En) (x y z:Rv) (v u:V) (Q:VK),aR K F H σ e→bL K σ H0 F H e x v→bL K σ H0 F H e y u→g e x y=some z→
    (∀F' H' w,cK σ F H e F' H' e→aR K F' H' σ e→bL K σ H F' H' e z w→Q w H')→r v u H Q
def aq(g:En→Rv→Rv→Option Rv)(fa fb:FE):FE:=fun e=>(fa e).bind fun p=>(fb p.2).bind fun q=>(g q.2 p.1 q.1).map fun z=>(z,q.2)
theorem lm{r:R2}{g:En→Rv→Rv→Option Rv}(ho:dF K r g){σ:L2.St}{H:Hp}{Q:VK}(h:fE K (aq g fa fb) σ H Q):zy r (fE K fa) (fE K fb) σ H Q:=by
  obtain⟨F,e,z,e2,R,hf,q⟩:=h
  unfold aq at hf
  obtain⟨⟨x,e1⟩,h1,hf⟩:=Option.bind_eq_some_iff.mp hf
  obtain⟨⟨y,e2'⟩,h2,hf⟩:=Option.bind_eq_some_iff.mp hf
  obtain⟨z',h3,hf⟩:=Option.map_eq_some_iff.mp hf
  cases hf
  refine⟨F,e,x,e1,R,h1,fun F1 H1 v X1 R1 A1=>⟨F1,e1,y,_,R1,h2,fun F2 H2 u X2 R2 A2=>?_⟩⟩
  have X12:=X1.trans X2
  refine ho σ H F2 H2 _ x y _ v u Q R2 (A1.ext X2) (A2.weak X1.dom) h3 fun F3 H3 w X3 R3 A3=>?_
  exact q F3 H3 w (X12.trans X3) R3 (A3.weak X12.dom)
theorem j9{op:Operator}{r:R2}{g:En→Rv→Rv→Option Rv}(hr:dz X (binaryOp op) r)(ho:dF K r g)(ha:PE X a (fE K fa))(hb:PE X b (fE K fb)):PE X (.BinOp a op b pos) (fE K (aq g fa fb)):=(yS hr ha hb).mono fun _ _ _ h=>lm ho h
theorem wW{op:CmpOp}{r:R2}{g:En→Rv→Rv→Option Rv}(hr:dz X (compareOp op) r)(ho:dF K r g)(ha:PE X a (fE K fa))(hb:PE X b (fE K fb))(hm:behindInMarks op b=false):PE X (.Compare a [op] [b] pos) (fE K (aq g fa fb)):=(tK hr ha hb hm).mono fun _ _ _ h=>lm ho h
theorem y0{r:R2}{g:En→Rv→Rv→Option Rv}(hr:sj X r)(ho:dF K r g)(ha:PE X a (fE K fa))(hb:PE X b (fE K fb))(hs:kl b):PE X (.Subscript a b pos) (fE K (aq g fa fb)):=(yR hr ha hb hs).mono fun _ _ _ h=>lm ho h
def mL(g:En→Rv→Option Rv)(fa:FE):FE:=fun e=>(fa e).bind fun p=>(g p.2 p.1).map fun z=>(z,p.2)
def xZ(K:PySem.W.Frag)(r:V→Hp→VK→Prop)(g:En→Rv→Option Rv):Prop:=
  ∀(σ:L2.St) (H0 F H:Hp) (e:En) (x z:Rv) (v:V) (Q:VK),aR K F H σ e→bL K σ H0 F H e x v→g e x=some z→
    (∀F' H' w,cK σ F H e F' H' e→aR K F' H' σ e→bL K σ H F' H' e z w→Q w H')→r v H Q
theorem rV{r:V→Hp→VK→Prop}{g:En→Rv→Option Rv}(ho:xZ K r g){σ:L2.St}{H:Hp}{Q:VK}(h:fE K (mL g fa) σ H Q):Bc r (fE K fa) σ H Q:=by
  obtain⟨F,e,z,e2,R,hf,q⟩:=h
  unfold mL at hf
  obtain⟨⟨x,e1⟩,h1,hf⟩:=Option.bind_eq_some_iff.mp hf
  obtain⟨z',h3,hf⟩:=Option.map_eq_some_iff.mp hf
  cases hf
  refine⟨F,e,x,_,R,h1,fun F1 H1 v X1 R1 A1=>?_⟩
  refine ho σ H F1 H1 _ x _ v Q R1 A1 h3 fun F3 H3 w X3 R3 A3=>?_
  exact q F3 H3 w (X1.trans X3) R3 (A3.weak X1.dom)
theorem y4{op:UnaryOp}{r:V→Hp→VK→Prop}{g:En→Rv→Option Rv}(hr:zR X (unaryOp op) r)(ho:xZ K r g)(ha:PE X a (fE K fa)):PE X (.UnaryOp op a pos) (fE K (mL g fa)):=(yU hr ha).mono fun _ _ _ h=>rV ho h
def dP:Rv→Option Bool
  | .d (.bool b)=>some b
  | _=>none
theorem cw{σ:L2.St}{H0 F H:Hp}{e:En}{r:Rv}{v:V}{b:Bool}(h:bL K σ H0 F H e r v)(q:dP r=some b):v=.bl b:=by
  unfold dP at q
  split at q
  · cases q;exact ci.mp (show DA K F (.bool _) v from h)
  · cases q
theorem bW{σ:L2.St}{H0 F H:Hp}{e:En}{b:Bool}:bL K σ H0 F H e (.d (.bool b)) (.bl b):=(ci (K:=K) (F:=F)).mpr rfl
def aS(f:FE):FT:=fun e=>(f e).bind fun p=>(dP p.1).map fun b=>(b,p.2)
theorem mK{σ:L2.St}{H:Hp}{Q:Bool→Hp→Prop}(h:fT K (aS fa) σ H Q):fE K fa σ H fun x H'=>∃k,x=.bl k∧Q k H':=by
  obtain⟨F,e,b,e1,R,hf,q⟩:=h
  unfold aS at hf
  obtain⟨⟨x,e1'⟩,h1,hf⟩:=Option.bind_eq_some_iff.mp hf
  obtain⟨b',h3,hf⟩:=Option.map_eq_some_iff.mp hf
  cases hf
  exact⟨F,e,x,_,R,h1,fun F1 H1 v X1 R1 A1=>⟨_,cw A1 h3,q F1 H1 X1 R1⟩⟩
theorem wZ{op:CmpOp}{r:R2}{g:En→Rv→Rv→Option Rv}(hr:dz X (compareOp op) r)(ho:dF K r g)(ha:PE X a (fE K fa))(hb:PE X b (fE K fb))(hm:behindInMarks op b=false):PT X (.Compare a [op] [b] pos) (fT K (aS (aq g fa fb))):=
  (t_ hr ha hb hm).mono fun σ H Q h=>by
    obtain⟨F,e,z,e2,R,hf,q⟩:=mK h
    exact lm ho ⟨F,e,z,e2,R,hf,q⟩
theorem gf{e:Expr}(h:PE X e (fE K fa))(he:∀whole,isTrue e X.env whole=(do let v ←whole;standAt e.pos;holding [v] (truthy v))):PT X e (fT K (aS fa)):=(wQ h he).mono fun _ _ _ h=>mK h
def pI(f g:FT):FT:=fun e=>(f e).bind fun p=>if p.1=true then g p.2 else some (false,p.2)
def r8(f g:FT):FT:=fun e=>(f e).bind fun p=>if p.1=true then some (true,p.2) else g p.2
def jJ(f:FT):FT:=fun e=>(f e).map fun p=>(!p.1,p.2)
theorem uu{σ:L2.St}{H:Hp}{Q:Bool→Hp→Prop}(h:fT K (pI ft fu) σ H Q):zq (fT K ft) (fT K fu) σ H Q:=by
  obtain⟨F,e,b,e1,R,hf,q⟩:=h
  unfold pI at hf
  obtain⟨⟨x,e1'⟩,h1,hf⟩:=Option.bind_eq_some_iff.mp hf
  refine⟨F,e,x,e1',R,h1,fun F1 H1 X1 R1=>?_⟩
  cases x with
  | true=>exact⟨F1,e1',b,e1,R1,hf,fun F2 H2 X2 R2=>q F2 H2 (X1.trans X2) R2⟩
  | false=>cases hf;exact q F1 H1 X1 R1
theorem xH{σ:L2.St}{H:Hp}{Q:Bool→Hp→Prop}(h:fT K (r8 ft fu) σ H Q):Bb (fT K ft) (fT K fu) σ H Q:=by
  obtain⟨F,e,b,e1,R,hf,q⟩:=h
  unfold r8 at hf
  obtain⟨⟨x,e1'⟩,h1,hf⟩:=Option.bind_eq_some_iff.mp hf
  refine⟨F,e,x,e1',R,h1,fun F1 H1 X1 R1=>?_⟩
  cases x with
  | false=>exact⟨F1,e1',b,e1,R1,hf,fun F2 H2 X2 R2=>q F2 H2 (X1.trans X2) R2⟩
  | true=>cases hf;exact q F1 H1 X1 R1
theorem uv{σ:L2.St}{H:Hp}{Q:Bool→Hp→Prop}(h:fT K (jJ ft) σ H Q):zw (fT K ft) σ H Q:=by
  obtain⟨F,e,b,e1,R,hf,q⟩:=h
  unfold jJ at hf
  obtain⟨⟨x,e1'⟩,h1,hf⟩:=Option.map_eq_some_iff.mp hf
  cases hf
  exact⟨F,e,x,_,R,h1,fun F1 H1 X1 R1=>q F1 H1 X1 R1⟩
variable{dY:List Expr}
theorem ug(ha:PT X a (fT K ft)):PW X (.BoolOp .And [a] pos) (fT K ft):=ue ha
theorem k9(ha:PT X a (fT K ft)):PW X (.BoolOp .Or [a] pos) (fT K ft):=wU ha
theorem w_(ha:PT X a (fT K ft))(hb:PW X (.BoolOp .And (b::dY) pos) (fT K fu)):PW X (.BoolOp .And (a::b::dY) pos) (fT K (pI ft fu)):=(wR ha hb).mono fun _ _ _ h=>uu h
theorem me(ha:PT X a (fT K ft))(hb:PW X (.BoolOp .Or (b::dY) pos) (fT K fu)):PW X (.BoolOp .Or (a::b::dY) pos) (fT K (r8 ft fu)):=(yY ha hb).mono fun _ _ _ h=>xH h
theorem jr(ha:PT X a (fT K ft)):PT X (.UnaryOp .Not a pos) (fT K (jJ ft)):=(wO ha).mono fun _ _ _ h=>uv h
theorem rA{e:Expr}(h:PW X e (fT K ft)):PT X e (fT K ft):=h.pt
def jA(f g:FE):FE:=fun e=>(f e).bind fun p=>(dP p.1).bind fun b=>if b=true then g p.2 else some (.d (.bool false),p.2)
def zK(f g:FE):FE:=fun e=>(f e).bind fun p=>(dP p.1).bind fun b=>if b=true then some (.d (.bool true),p.2) else g p.2
def mJ(f:FE):FE:=fun e=>(f e).bind fun p=>(dP p.1).map fun b=>(.d (.bool (!b)),p.2)
theorem ny(ha:PE X a (fE K fa))(hb:PE X (.BoolOp .And (b::dY) pos) (fE K fb)):PE X (.BoolOp .And (a::b::dY) pos) (fE K (jA fa fb)):=(ww ha hb).mono fun σ H Q h=>by
  obtain⟨F,e,z,e2,R,hf,q⟩:=h
  unfold jA at hf
  obtain⟨⟨x,e1⟩,h1,hf⟩:=Option.bind_eq_some_iff.mp hf
  obtain⟨b,h2,hf⟩:=Option.bind_eq_some_iff.mp hf
  refine⟨F,e,x,e1,R,h1,fun F1 H1 v X1 R1 A1=>⟨b,cw A1 h2,?_⟩⟩
  cases b with
  | true=>exact⟨F1,e1,z,e2,R1,hf,fun F2 H2 w X2 R2 A2=>q F2 H2 w (X1.trans X2) R2 (A2.weak X1.dom)⟩
  | false=>cases hf;exact q F1 H1 _ X1 R1 bW
theorem nz{op}(h:PE X a (fE K fa)):PE X (.BoolOp op [a] pos) (fE K fa):=wB h
theorem wX(ha:PE X a (fE K fa)):PE X (.UnaryOp .Not a pos) (fE K (mJ fa)):=(wA ha).mono fun σ H Q h=>by
  obtain⟨F,e,z,e2,R,hf,q⟩:=h
  unfold mJ at hf
  obtain⟨⟨x,e1⟩,h1,hf⟩:=Option.bind_eq_some_iff.mp hf
  obtain⟨b,h2,hf⟩:=Option.map_eq_some_iff.mp hf
  cases hf
  exact⟨F,e,x,_,R,h1,fun F1 H1 v X1 R1 A1=>⟨b,cw A1 h2,q F1 H1 _ X1 R1 bW⟩⟩
def Bd(t:FT)(f g:FE):FE:=fun e=>(t e).bind fun p=>if p.1=true then f p.2 else g p.2
def fg(g g':En→Rv→Rv→Option Rv)(fa fb fc:FE):FE:=fun e=>(fa e).bind fun p=>(fb p.2).bind fun q=>(g q.2 p.1 q.1).bind fun z=>(dP z).bind fun k=>if k=true then(fc q.2).bind fun w=>(g' w.2 q.1 w.1).map fun z'=>(z',w.2) else some (.d (.bool false),q.2)
theorem pJ{r r':R2}{g g':En→Rv→Rv→Option Rv}{fc:FE}(ho:dF K r g)(ho':dF K r' g'){σ:L2.St}{H:Hp}{Q:VK}(h:fE K (fg g g' fa fb fc) σ H Q):rR r r' (fE K fa) (fE K fb) (fE K fc) σ H Q:=by
  obtain⟨F,e,z,e4,R,hf,q⟩:=h
  unfold fg at hf
  obtain⟨⟨x,e1⟩,h1,hf⟩:=Option.bind_eq_some_iff.mp hf
  obtain⟨⟨y,e2⟩,h2,hf⟩:=Option.bind_eq_some_iff.mp hf
  obtain⟨z',h3,hf⟩:=Option.bind_eq_some_iff.mp hf
  obtain⟨k,h4,hf⟩:=Option.bind_eq_some_iff.mp hf
  refine⟨F,e,x,e1,R,h1,fun F1 H1 v X1 R1 A1=>⟨F1,e1,y,e2,R1,h2,fun F2 H2 u X2 R2 A2=>?_⟩⟩
  have X12:=X1.trans X2
  refine ho σ H F2 H2 e2 x y z' v u _ R2 (A1.ext X2) (A2.weak X1.dom) h3 fun F3 H3 w X3 R3 A3=>⟨k,cw A3 h4,?_⟩
  have X13:=X12.trans X3
  cases k with
  | false=>
    cases hf
    exact q F3 H3 _ X13 R3 bW
  | true=>
    obtain⟨⟨w',e3⟩,h5,hf⟩:=Option.bind_eq_some_iff.mp hf
    obtain⟨z2,h6,hf⟩:=Option.map_eq_some_iff.mp hf
    cases hf
    refine⟨F3,_,w',_,R3,h5,fun F4 H4 u4 X4 R4 A4=>?_⟩
    have X14:=X13.trans X4
    refine ho' σ H F4 H4 _ y w' _ u u4 Q R4 (((A2.weak X1.dom).ext X3).ext X4) (A4.weak X13.dom) h6 fun F5 H5 w5 X5 R5 A5=>?_
    exact q F5 H5 w5 (X14.trans X5) R5 (A5.weak X14.dom)
theorem rj{op op':CmpOp}{r r':R2}{g g':En→Rv→Rv→Option Rv}{fc:FE}(hr:dz X (compareOp op) r)(ho:dF K r g)(hr':dz X (compareOp op') r')(ho':dF K r' g')(ha:PE X a (fE K fa))(hb:PE X b (fE K fb))(hc:PE X c (fE K fc))
    (hm:lastMarks [op,op'] [b,c]=false):PE X (.Compare a [op,op'] [b,c] pos) (fE K (fg g g' fa fb fc)):=(qO hr hr' ha hb hc hm).mono fun _ _ _ h=>pJ ho ho' h
def ah:FA:=fun e=>some ([],e)
def aa(fa:FE)(fs:FA):FA:=fun e=>(fa e).bind fun p=>(fs p.2).map fun q=>(p.1::q.1,q.2)
theorem ab:PA X [] (fA K ah):=qN.mono fun σ H Q h=>by
  obtain⟨F,e,r,e',R,hf,q⟩:=h
  cases hf
  exact q F H [] (cK.refl _ _ _ _) R rfl
theorem AD(ha:PE X a (fE K fa))(hr:PA X es (fA K fs))(h:PySem.W.isStarred a=false):PA X (a::es) (fA K (aa fa fs)):=(Az ha hr h).mono fun σ H Q h=>by
  obtain⟨F,e,z,e2,R,hf,q⟩:=h
  unfold aa at hf
  obtain⟨⟨x,e1⟩,h1,hf⟩:=Option.bind_eq_some_iff.mp hf
  obtain⟨⟨xs,e2'⟩,h2,hf⟩:=Option.map_eq_some_iff.mp hf
  cases hf
  refine⟨F,e,x,e1,R,h1,fun F1 H1 v X1 R1 A1=>⟨F1,e1,xs,_,R1,h2,fun F2 H2 vs X2 R2 A2=>?_⟩⟩
  exact q F2 H2 (v::vs) (X1.trans X2) R2 ⟨v,vs,rfl,A1.ext X2,A2.weak X1.dom⟩
def aW(fs:FA):FE:=fun e=>(fs e).bind fun p=>(gE p.1).bind fun ds=>if ds.length≤1000 then some (.d (.tuple ds),p.2) else none
def bZ(fs:FA):FE:=fun e=>(fs e).bind fun p=>(gE p.1).bind fun ds=>if ds.length≤1000 then some (.l ds,p.2) else none
theorem ao{x1}(h:PA X es (fA K fs)):PE X (.Tuple es x1 pos) (fE K (aW fs)):=(wD h).mono fun σ H Q h=>by
  obtain⟨F,e,z,e2,R,hf,q⟩:=h
  unfold aW at hf
  obtain⟨⟨rs,e1⟩,h1,hf⟩:=Option.bind_eq_some_iff.mp hf
  obtain⟨ds,h2,hf⟩:=Option.bind_eq_some_iff.mp hf
  split at hf
  case isFalse=>cases hf
  case isTrue hl=>
  cases hf
  refine⟨F,e,rs,_,R,h1,fun F1 H1 vs X1 R1 A1=>?_⟩
  obtain⟨F2,R2,s2,d2,f2⟩:=cC.frozen R1 A1 h2
  have hlen:=d2.len
  refine⟨Nat.le_of_lt (kd (by lia)),fun p hp=>?_⟩
  obtain⟨R3,X3⟩:=R2.newT (vs:=vs) hp
  exact q _ _ _ ((X1.frz s2 f2).trans X3) R3 (cE.mpr ⟨p,vs,rfl,.inl (.inl au),aC.mono X3.sf d2⟩)
theorem aT(h:PA X es (fA K fs)):PE X (.List es pos) (fE K (bZ fs)):=(wy h).mono fun σ H Q h=>by
  obtain⟨F,e,z,e2,R,hf,q⟩:=h
  unfold bZ at hf
  obtain⟨⟨rs,e1⟩,h1,hf⟩:=Option.bind_eq_some_iff.mp hf
  obtain⟨ds,h2,hf⟩:=Option.bind_eq_some_iff.mp hf
  split at hf
  case isFalse=>cases hf
  case isTrue hl=>
  cases hf
  refine⟨F,e,rs,_,R,h1,fun F1 H1 vs X1 R1 A1=>?_⟩
  obtain⟨F2,R2,s2,d2,f2⟩:=cC.frozen R1 A1 h2
  have hlen:=d2.len
  refine⟨Nat.le_of_lt (kd (by lia)),fun p hp=>?_⟩
  obtain⟨R3,X3,hF,no⟩:=R2.newL (vs:=vs) hp
  exact q _ _ _ ((X1.frz s2 f2).trans X3) R3 ⟨p,vs,rfl,X1.dom p hp,hF,au,d2,no⟩
def dr(K:PySem.W.Frag)(r:List V→Hp→VK→Prop)(g:En→List Rv→Option Rv):Prop:=
  ∀(σ:L2.St) (H0 F H:Hp) (e:En) (xs:List Rv) (z:Rv) (vs:List V) (Q:VK),aR K F H σ e→cC K σ H0 F H e xs vs→g e xs=some z→
    (∀F' H' w,cK σ F H e F' H' e→aR K F' H' σ e→bL K σ H F' H' e z w→Q w H')→r vs H Q
def aM(g:En→List Rv→Option Rv)(fs:FA):FE:=fun e=>(fs e).bind fun p=>(g p.2 p.1).map fun z=>(z,p.2)
theorem mG{r:List V→Hp→VK→Prop}{g:En→List Rv→Option Rv}(ho:dr K r g){σ:L2.St}{H:Hp}{Q:VK}(h:fE K (aM g fs) σ H Q):AI r (fA K fs) σ H Q:=by
  obtain⟨F,e,z,e2,R,hf,q⟩:=h
  unfold aM at hf
  obtain⟨⟨x,e1⟩,h1,hf⟩:=Option.bind_eq_some_iff.mp hf
  obtain⟨z',h3,hf⟩:=Option.map_eq_some_iff.mp hf
  cases hf
  refine⟨F,e,x,_,R,h1,fun F1 H1 vs X1 R1 A1=>?_⟩
  refine ho σ H F1 H1 _ x _ vs Q R1 A1 h3 fun F3 H3 w X3 R3 A3=>?_
  exact q F3 H3 w (X1.trans X3) R3 (A3.weak X1.dom)
theorem rh{x:Str}{p pos:Pos}{id:String}{r:List V→Hp→VK→Prop}{g:En→List Rv→Option Rv}(hc:dN X (.builtin id) r)(ho:dr K r g)(hg:Gl X x)(hm:X.mg x=none)(hv:bootBuiltins x=some (.builtin id))(ha:PA X (a::es) (fA K fs))(hn:x≠"__name__")(hdb:(x==("__debug__":Str))=false)
    (he:starEach (a::es) X.env=(false,eval a X.env)::starEach es X.env)(hpl:(backTo pos (starEach es X.env)).any (·.1)=false):PE X (.Call (.Name x p) (a::es) [] pos) (fE K (aM g fs)):=(l8 hc hg hm hv ha hn hdb he hpl).mono fun _ _ _ h=>mG ho h
theorem pv{x:Str}{p pos:Pos}{T:String}{r:List V→Hp→VK→Prop}{g:En→List Rv→Option Rv}(hc:dN X (.type T) r)(ho:dr K r g)(hg:Gl X x)(hm:X.mg x=none)(hv:bootBuiltins x=some (.type T))(ha:PA X (a::es) (fA K fs))(hn:x≠"__name__")(hdb:(x==("__debug__":Str))=false)
    (he:starEach (a::es) X.env=(false,eval a X.env)::starEach es X.env)(hpl:(backTo pos (starEach es X.env)).any (·.1)=false):PE X (.Call (.Name x p) (a::es) [] pos) (fE K (aM g fs)):=(ph hc hg hm hv ha hn hdb he hpl).mono fun _ _ _ h=>mG ho h
end
end L2
namespace L2
open PySem PySem.Spec PyProof.Rows
mutual
theorem DA.reads{X:Cx}{pins:List (Addr × Obj)}{σ:L2.St}{H:Hp}{s:Shared}(I:aw X pins σ H s):∀{d:PyData} {v:V} {u:Value},d.canLay0=true→DA X.K H d v→a' v u→∃as,Reads s.heap u d as
  | .none,_,_,_,q,r=>by
    simp only [DA] at q;subst q;cases r;exact⟨_,.none⟩
  | .bool b,_,_,_,q,r=>by
    simp only [DA] at q;subst q;cases r;exact⟨_,.bool b⟩
  | .int i,_,_,_,q,r=>by
    simp only [DA] at q;subst q;obtain⟨t,rfl⟩:=r;exact⟨_,.int i t⟩
  | .str x,_,_,_,q,r=>by
    simp only [DA] at q;subst q;obtain⟨t,rfl⟩:=r;exact⟨_,.str x t⟩
  | .tuple ds,_,_,c,q,r=>by
    simp only [DA] at q
    obtain⟨a,xs,e,hs,rr⟩:=q
    subst e;cases r
    obtain⟨its,rv,⟨o,ho,hc,n,hd⟩,hz⟩:=I.tuple hs
    obtain⟨as,q⟩:=aC.reads I (by simpa [PyData.canLay0] using c) rr rv
    exact⟨_,.tuple ho hc hd q⟩
  | .list ds,_,_,c,q,r=>by
    simp only [DA] at q
    obtain⟨a,xs,e,hs,rr⟩:=q
    subst e;cases r
    obtain⟨its,rv,ht,hz⟩:=I.list hs
    obtain⟨o,ho,hc,n,hd⟩:=ht.isList
    obtain⟨as,q⟩:=aC.reads I (by simpa [PyData.canLay0] using c) rr rv
    exact⟨_,.list ho hc hd q⟩
  | .dict _,_,_,c,_,_=>by simp [PyData.canLay0] at c
theorem aC.reads{X:Cx}{pins:List (Addr × Obj)}{σ:L2.St}{H:Hp}{s:Shared}(I:aw X pins σ H s):∀{ds:List PyData} {xs:List V} {us:List Value},PyData.canLayAll0 ds=true→aC X.K H ds xs→aB xs us→∃as,ReadsAll s.heap us ds as
  | [],_,_,_,q,r=>by
    simp only [aC] at q;subst q;cases r;exact⟨_,.nil⟩
  | d::ds,_,_,c,q,r=>by
    simp only [aC] at q
    simp only [PyData.canLayAll0,Bool.and_eq_true] at c
    obtain⟨x,rr,e,a,b⟩:=q
    subst e
    cases r with
    | cons p p'=>
      obtain⟨as,q1⟩:=DA.reads I c.1 a p
      obtain⟨bs,q2⟩:=aC.reads I c.2 b p'
      exact⟨_,.cons q1 q2⟩
end
def gD(e:En):Rv→Option PyData
  | .d x=>some x
  | .l xs=>some (.list xs)
  | .s i=>match e[i]? with
    | some (some (.l xs))=>some (.list xs)
    | _=>none
theorem eR{K:PySem.W.Frag}{σ:L2.St}{H0 F H:Hp}{e:En}{r:Rv}{v:V}{d:PyData}(R:aR K F H σ e)(h:bL K σ H0 F H e r v)(q:gD e r=some d):DA K H d v:=by
  cases r with
  | d x=>cases q;exact DA.mono R.sm h
  | l xs=>
    cases q
    obtain⟨l,vs,rfl,h1,h2,h3,h4,_⟩:=h
    exact dh.mpr ⟨l,vs,rfl,.inl (.inl h3),aC.mono R.sm h4⟩
  | s i=>
    obtain⟨h1,ys,h2⟩:=h
    simp only [gD,h2] at q
    cases q
    obtain⟨l,vs,e1,e2,e3,e4⟩:=R.own i _ h2
    rw [h1] at e1;cases e1
    exact dh.mpr ⟨l,vs,rfl,.inl (.inl e3),aC.mono R.sm e4⟩
section
variable{X:Cx}{K:PySem.W.Frag}
def bM:Rv→Option Int
  | .d (.int i)=>some i
  | _=>none
theorem bG{σ:L2.St}{H0 F H:Hp}{e:En}{r:Rv}{v:V}{i:Int}(h:bL K σ H0 F H e r v)(q:bM r=some i):v=.int i:=by
  unfold bM at q
  split at q
  · cases q;exact cj.mp (show DA K F (.int _) v from h)
  · cases q
theorem js{σ:L2.St}{H0 F H:Hp}{e:En}{i:Int}:bL K σ H0 F H e (.d (.int i)) (.int i):=(cj (K:=K) (F:=F)).mpr rfl
def gI(C:Int→Int→Bool)(f:Int→Int→PyData):En→Rv→Rv→Option Rv:=fun _ x y=>(bM x).bind fun i=>(bM y).bind fun j=>if C i j=true then some (.d (f i j)) else none
theorem l7{C:Int→Int→Prop}{c:Int→Int→Bool}{g:Int→Int→V}{f:Int→Int→PyData}(hc:∀i j,c i j=true→C i j)(hf:∀F i j,DA K F (f i j) (g i j)):dF K (rI C g) (gI c f):=by
  intro σ H0 F H e x y z v u Q R A B hg q
  unfold gI at hg
  obtain⟨i,h1,hg⟩:=Option.bind_eq_some_iff.mp hg
  obtain⟨j,h2,hg⟩:=Option.bind_eq_some_iff.mp hg
  split at hg
  case isFalse=>cases hg
  case isTrue hh=>
  cases hg
  exact⟨i,j,bG A h1,bG B h2,hc i j hh,q F H _ (cK.refl _ _ _ _) R (hf F i j)⟩
theorem e6{g:Int→Int→V}{f:Int→Int→PyData}(hf:∀F i j,DA K F (f i j) (g i j)):dF K (nA g) (gI (fun _ _=>true) f):=by
  intro σ H0 F H e x y z v u Q R A B hg q
  obtain⟨i,j,h1,h2,h3,h4⟩:=l7 (K:=K) (C:=fun _ _=>True) (c:=fun _ _=>true) (g:=g) (f:=f) (fun _ _ _=>trivial) hf σ H0 F H e x y z v u Q R A B hg q
  exact⟨i,j,h1,h2,h4⟩
def oU(g g':En→Rv→Rv→Option Rv):En→Rv→Rv→Option Rv:=fun e x y=>(g e x y).or (g' e x y)
theorem dF.or{r r':R2}{g g':En→Rv→Rv→Option Rv}(h:dF K r g)(h':dF K r' g'):dF K (fun x y H Q=>r x y H Q∨r' x y H Q) (oU g g'):=by
  intro σ H0 F H e x y z v u Q R A B hg q
  unfold oU at hg
  cases e1:g e x y with
  | some w=>
    rw [e1] at hg
    cases hg
    exact .inl (h σ H0 F H e x y _ v u Q R A B e1 q)
  | none=>
    rw [e1] at hg
    exact .inr (h' σ H0 F H e x y _ v u Q R A B hg q)
def nX:=gI (fun _ _=>true) fun i j=>.int (i+j)
def di:=gI (fun _ _=>true) fun i j=>.int (i - j)
def eH(i:Int):Bool:=decide (-(2 ^ 64) < i)&&decide (i < 2 ^ 64)
def ya(n:Nat)(i:Int):Bool:=decide (i.natAbs < 2 ^ n)
theorem gw{n:Nat}{i:Int}:ya n i=true↔ Bt n i:=by unfold ya Bt;exact decide_eq_true_iff
def io(i j:Int):Bool:=eH i || eH j || (ya 4000 i&&ya 4000 j)
def lK:=gI io fun i j=>.int (i*j)
def c7:=gI (fun _ j=>j != 0&&ya 8000 j) fun i j=>.int (i.fdiv j)
def aD:=gI (fun _ j=>j != 0) fun i j=>.int (i.fmod j)
def qZ(i j:Int):Bool:=decide (0≤j)&&decide (j≤1000000)&&eH i
def kM:=gI qZ fun i j=>.int (i ^ j.toNat)
theorem gk{i:Int}(h:eH i=true): -(2 ^ 64) < i∧i < 2 ^ 64:=by
  unfold eH at h
  rw [Bool.and_eq_true,decide_eq_true_iff,decide_eq_true_iff] at h
  exact h
theorem tV{i j:Int}(h:qZ i j=true):vm i j:=by
  unfold qZ at h
  rw [Bool.and_eq_true,Bool.and_eq_true,decide_eq_true_iff,decide_eq_true_iff] at h
  have:=gk h.2
  exact⟨h.1.1,h.1.2,by lia⟩
def nK(i j:Int):Prop:=r_ i j∨uA i j
theorem tF:dz X (binaryOp .Mult) (rI nK fun i j=>.int (i*j)):=by
  intro pins s σ H x y v u Q I rx ry h
  obtain⟨i,j,e1,e2,h1,q⟩:=h
  rcases h1 with h1 | h1
  · exact wk pins s σ H x y v u Q I rx ry ⟨i,j,e1,e2,h1,q⟩
  · exact tG pins s σ H x y v u Q I rx ry ⟨i,j,e1,e2,h1,q⟩
theorem sU{i j:Int}(h:io i j=true):nK i j:=by
  unfold io at h
  rw [Bool.or_eq_true,Bool.or_eq_true,Bool.and_eq_true] at h
  rcases h with (h | h) | h
  · exact .inl (.inl (gk h))
  · exact .inl (.inr (gk h))
  · exact .inr ⟨gw.mp h.1,gw.mp h.2⟩
theorem vR:dF K (rI nK fun i j=>.int (i*j)) lK:=l7 (fun _ _ h=>sU h) fun _ _ _=>cj.mpr rfl
theorem zp:dF K (nA fun i j=>.int (i - j)) di:=e6 fun _ _ _=>cj.mpr rfl
theorem vz:dF K (rI uy fun i j=>.int (i.fdiv j)) c7:=l7 (fun i j h=>by
  rw [Bool.and_eq_true] at h
  exact⟨by simpa using h.1,gw.mp h.2⟩) fun _ _ _=>cj.mpr rfl
theorem yF:dF K (rI (fun _ j=>j≠0) fun i j=>.int (i.fmod j)) aD:=l7 (fun i j h=>by simpa using h) fun _ _ _=>cj.mpr rfl
theorem yW:dF K (rI vm fun i j=>.int (i ^ j.toNat)) kM:=l7 (fun _ _ h=>tV h) fun _ _ _=>cj.mpr rfl
def jZ:En→Rv→Rv→Option Rv:=fun e x y=>match cM e x,cM e y with
  | some (false,xs),some (false,ys)=>if xs.length+ys.length≤1000000 then some (.d (.tuple (xs++ys))) else none
  | _,_=>none
theorem vw:dF K (rB K) jZ:=by
  intro σ H0 F H e x y z v u Q R A B hg q
  unfold jZ at hg
  match h1:cM e x,h2:cM e y,hg with
  | some (false,xs),some (false,ys),hg=>
    obtain⟨p,vs,rfl,d1,s1⟩:=bP R A h1
    obtain⟨p',us,rfl,d2,s2⟩:=bP R B h2
    dsimp only at hg
    split at hg
    case isFalse=>cases hg
    case isTrue hl=>
    cases hg
    have l1:=d1.len
    have l2:=d2.len
    have sl:sizeLine=16777216:=sizeLine_eq
    refine⟨p,p',vs,us,rfl,rfl,s1,s2,by lia,fun t H' sm hT=>?_⟩
    obtain⟨F',R',X',hF⟩:=R.growT sm hT
    exact q F' H' _ X' R' (cE.mpr ⟨t,_,rfl,hF,(d1.append d2).mono X'.sf⟩)
def m5(e:En):Rv→Option (List PyData)
  | .l xs=>some xs
  | .s i=>match e[i]? with
    | some (some (.l xs))=>some xs
    | _=>none
  | _=>none
theorem kR{σ:L2.St}{H0 F H:Hp}{e:En}{r:Rv}{v:V}(R:aR K F H σ e)(h:bL K σ H0 F H e r v){xs:List PyData}(q:m5 e r=some xs):∃p vs,v=.ref p∧F p=none∧H p=some (.lst vs)∧aC K F xs vs:=by
  cases r with
  | d x=>cases q
  | l ys=>
    cases q
    obtain⟨l,vs,e1,h1,h2,h3,h4,_⟩:=h
    exact⟨l,vs,e1,h2,h3,h4⟩
  | s i=>
    obtain⟨h1,ys,h2⟩:=h
    simp only [m5,h2] at q
    cases q
    obtain⟨l,vs,e1,e2,e3,e4⟩:=R.own i _ h2
    rw [h1] at e1;cases e1
    exact⟨l,vs,rfl,e2,e3,e4⟩
def lF:En→Rv→Rv→Option Rv:=fun e x y=>(m5 e x).bind fun xs=>(m5 e y).bind fun ys=>if xs.length+ys.length≤1000000 then some (.l (xs++ys)) else none
theorem vt:dF K xa lF:=by
  intro σ H0 F H e x y z v u Q R A B hg q
  unfold lF at hg
  obtain⟨xs,h1,hg⟩:=Option.bind_eq_some_iff.mp hg
  obtain⟨ys,h2,hg⟩:=Option.bind_eq_some_iff.mp hg
  split at hg
  case isFalse=>cases hg
  case isTrue hl=>
  cases hg
  obtain⟨p,vs,rfl,f1,s1,d1⟩:=kR R A h1
  obtain⟨p',us,rfl,f2,s2,d2⟩:=kR R B h2
  have l1:=d1.len
  have l2:=d2.len
  have sl:sizeLine=16777216:=sizeLine_eq
  refine⟨p,p',vs,us,rfl,rfl,s1,s2,by lia,fun t ht=>?_⟩
  obtain⟨R3,X3,hF,no⟩:=R.newL (vs:=vs++us) ht
  exact q _ _ _ X3 R3 ⟨t,_,rfl,ht,hF,au,d1.append d2,no⟩
def aU:En→Rv→Rv→Option Rv:=oU nX (oU jZ lF)
def vg(K:PySem.W.Frag):R2:=fun x y H Q=>nA (fun i j=>.int (i+j)) x y H Q∨(rB K x y H Q∨xa x y H Q)
theorem s_:dz X (binaryOp .Add) (vg X.K):=wa.or (tf.or wb)
theorem x8:dF K (vg K) aU:=dF.or (e6 fun _ _ _=>cj.mpr rfl) (dF.or vw vt)
def lN:En→Rv→Rv→Option Rv:=fun e x y=>match cM e x,bM y with
  | some (false,[d]),some k=>if 0≤k∧k≤100000 then some (.d (.tuple (List.replicate k.toNat d))) else none
  | _,_=>none
theorem aC.rep{F:Hp}{d:PyData}{v:V}(h:DA K F d v):∀n,aC K F (List.replicate n d) (List.replicate n v)
  | 0=>aC.nil
  | n+1=>aC.cons h (aC.rep h n)
theorem xh:dF K (rD K) lN:=by
  intro σ H0 F H e x y z v u Q R A B hg q
  unfold lN at hg
  match h1:cM e x,h2:bM y,hg with
  | some (false,[d]),some k,hg=>
    obtain⟨p,vs,rfl,d1,s1⟩:=bP R A h1
    dsimp only at hg
    split at hg
    case isFalse=>cases hg
    case isTrue hl=>
    cases hg
    have hd:=d1
    simp only [aC] at hd
    obtain⟨w,r,e1,hw,e2⟩:=hd
    subst e2 e1
    refine⟨p,k,w,rfl,bG B h2,s1,hl.1,hl.2,fun t H' sm hT=>?_⟩
    obtain⟨F',R',X',hF⟩:=R.growT sm hT
    exact q F' H' _ X' R' (cE.mpr ⟨t,_,rfl,hF,(aC.rep hw _).mono X'.sf⟩)
def qg:En→Rv→Rv→Option Rv:=fun e x y=>(m5 e x).bind fun xs=>(bM y).bind fun k=>if -100000≤k∧k≤100000∧xs.length*k.toNat≤1000000 then some (.l (List.replicate k.toNat xs).flatten) else none
theorem aC.reps{F:Hp}{ds:List PyData}{vs:List V}(h:aC K F ds vs):∀n,aC K F (List.replicate n ds).flatten (List.replicate n vs).flatten
  | 0=>aC.nil
  | n+1=>by simpa [List.replicate_succ] using aC.append h (aC.reps h n)
theorem xg:dF K xf qg:=by
  intro σ H0 F H e x y z v u Q R A B hg q
  unfold qg at hg
  obtain⟨xs,h1,hg⟩:=Option.bind_eq_some_iff.mp hg
  obtain⟨k,h2,hg⟩:=Option.bind_eq_some_iff.mp hg
  split at hg
  case isFalse=>cases hg
  case isTrue hl=>
  cases hg
  obtain⟨p,vs,rfl,f1,s1,d1⟩:=kR R A h1
  have l1:=d1.len
  have sl:sizeLine=16777216:=sizeLine_eq
  refine⟨p,k,vs,rfl,bG B h2,s1,by lia,by lia,by rw [←l1];lia,fun t ht=>?_⟩
  obtain⟨R3,X3,hF,no⟩:=R.newL (vs:=(List.replicate k.toNat vs).flatten) ht
  exact q _ _ _ X3 R3 ⟨t,_,rfl,ht,hF,au,aC.reps d1 _,no⟩
def fY:En→Rv→Rv→Option Rv:=oU lK (oU lN qg)
def vh(K:PySem.W.Frag):R2:=fun x y H Q=>rI nK (fun i j=>.int (i*j)) x y H Q∨(rD K x y H Q∨xf x y H Q)
theorem tD:dz X (binaryOp .Mult) (vh X.K):=tF.or (tI.or wq)
theorem yG:dF K (vh K) fY:=dF.or vR (dF.or xh xg)
def u9:=gI (fun _ _=>true) fun i j=>.bool (decide (i < j))
def yo:=gI (fun _ _=>true) fun i j=>.bool (decide (i≤j))
def zW:=gI (fun _ _=>true) fun i j=>.bool (decide (j < i))
def ym:=gI (fun _ _=>true) fun i j=>.bool (decide (j≤i))
theorem Ay:dF K (nA fun i j=>.bl (decide (i < j))) u9:=e6 fun _ _ _=>ci.mpr rfl
theorem Ax:dF K (nA fun i j=>.bl (decide (i≤j))) yo:=e6 fun _ _ _=>ci.mpr rfl
theorem An:dF K (nA fun i j=>.bl (decide (j < i))) zW:=e6 fun _ _ _=>ci.mpr rfl
theorem Am:dF K (nA fun i j=>.bl (decide (j≤i))) ym:=e6 fun _ _ _=>ci.mpr rfl
def xb(K:PySem.W.Frag)(neg:Bool):R2:=fun x y H Q=>∃a b,DA K H a x∧DA K H b y∧SeqAt.shaped a=true∧SeqAt.shaped b=true∧Q (.bl (if neg then !PyData.eqv a b else PyData.eqv a b)) H
theorem wc{k:Nat}(hr:cc k X.A):dz X (compareOp .Eq) (xb X.K false):=by
  intro pins s σ H x y v u Q I rx ry h
  obtain⟨a,b,ha,hb,s1,s2,q⟩:=h
  obtain⟨as,ra⟩:=DA.reads I (SeqAt.canLay_of_shaped s1) ha rx
  obtain⟨bs,rb⟩:=DA.reads I (SeqAt.canLay_of_shaped s2) hb ry
  exact SeqAt.compareEq_shaped ra rb s1 s2 hr.units ⟨.bl _,H,I,rfl,q⟩
theorem wm{k:Nat}(hr:cc k X.A):dz X (compareOp .NotEq) (xb X.K true):=by
  intro pins s σ H x y v u Q I rx ry h
  obtain⟨a,b,ha,hb,s1,s2,q⟩:=h
  obtain⟨as,ra⟩:=DA.reads I (SeqAt.canLay_of_shaped s1) ha rx
  obtain⟨bs,rb⟩:=DA.reads I (SeqAt.canLay_of_shaped s2) hb ry
  exact SeqAt.compareNe_shaped ra rb s1 s2 hr.units ⟨.bl _,H,I,rfl,q⟩
def cg(neg:Bool):En→Rv→Rv→Option Rv:=fun e x y=>(gD e x).bind fun a=>(gD e y).bind fun b=>if (SeqAt.shaped a&&SeqAt.shaped b)=true then some (.d (.bool (if neg then !PyData.eqv a b else PyData.eqv a b))) else none
theorem uL{neg:Bool}:dF K (xb K neg) (cg neg):=by
  intro σ H0 F H e x y z v u Q R A B hg q
  unfold cg at hg
  obtain⟨a,h1,hg⟩:=Option.bind_eq_some_iff.mp hg
  obtain⟨b,h2,hg⟩:=Option.bind_eq_some_iff.mp hg
  split at hg
  case isFalse=>cases hg
  case isTrue hl=>
  cases hg
  rw [Bool.and_eq_true] at hl
  exact⟨a,b,eR R A h1,eR R B h2,hl.1,hl.2,q F H _ (cK.refl _ _ _ _) R bW⟩
def y8(K:PySem.W.Frag)(neg:Bool):R2:=fun x y H Q=>∃a xs,DA K H a x∧(DA K H (.list xs) y∨DA K H (.tuple xs) y)∧a.canLay0=true∧a.depth≤60∧PyData.canLayAll0 xs=true∧Q (.bl (if neg then !(xs.any fun y=>PyData.eqv y a) else xs.any fun y=>PyData.eqv y a)) H
theorem pf{k:Nat}(hr:cc k X.A):dz X (compareOp .NotIn) (y8 X.K true):=by
  intro pins s σ H x y v u Q I rx ry h
  obtain⟨a,xs,ha,hb,s1,s2,s3,q⟩:=h
  obtain⟨as,ra⟩:=DA.reads I s1 ha rx
  have hu:=hr.units
  rcases hb with hb | hb
  · obtain⟨bs,rb⟩:=DA.reads I (by simpa [PyData.canLay0] using s3) hb ry
    exact PySem.SeqAt.notIn_list_reads rb ra s3 s1 (by lia) ⟨.bl _,H,I,rfl,q⟩
  · obtain⟨bs,rb⟩:=DA.reads I (by simpa [PyData.canLay0] using s3) hb ry
    exact PySem.SeqAt.notIn_tuple_reads rb ra s3 s1 (by lia) ⟨.bl _,H,I,rfl,q⟩
def vA(neg:Bool):En→Rv→Rv→Option Rv:=fun e x y=>(gD e x).bind fun a=>(cM e y).bind fun p=>if (a.canLay0&&decide (a.depth≤60)&&PyData.canLayAll0 p.2)=true then some (.d (.bool (if neg then !(p.2.any fun y=>PyData.eqv y a) else p.2.any fun y=>PyData.eqv y a))) else none
theorem Ar{neg:Bool}:dF K (y8 K neg) (vA neg):=by
  intro σ H0 F H e x y z v u Q R A B hg q
  unfold vA at hg
  obtain⟨a,h1,hg⟩:=Option.bind_eq_some_iff.mp hg
  obtain⟨⟨b,xs⟩,h2,hg⟩:=Option.bind_eq_some_iff.mp hg
  split at hg
  case isFalse=>cases hg
  case isTrue hl=>
  cases hg
  rw [Bool.and_eq_true,Bool.and_eq_true,decide_eq_true_iff] at hl
  obtain⟨p,vs,rfl,d1,s1⟩:=bP R B h2
  refine⟨a,xs,eR R A h1,?_,hl.1.1,hl.1.2,hl.2,q F H _ (cK.refl _ _ _ _) R bW⟩
  cases b with
  | true=>exact .inl (dh.mpr ⟨p,vs,rfl,s1,d1.mono R.sm⟩)
  | false=>exact .inr (cE.mpr ⟨p,vs,rfl,s1,d1.mono R.sm⟩)
def kP:PyData→Bool
  | .none=>true
  | _=>false
theorem jU{F:Hp}{d:PyData}{v:V}(h:DA K F d v):decide (v=.non)=kP d:=by
  cases d with
  | none=>rw [eB.mp h];rfl
  | bool b=>rw [ci.mp h];rfl
  | int b=>rw [cj.mp h];rfl
  | str b=>rw [mV.mp h];rfl
  | tuple b=>obtain⟨a,_,e,_⟩:=cE.mp h;rw [e];rfl
  | list b=>obtain⟨a,_,e,_⟩:=dh.mp h;rw [e];rfl
  | dict b=>simp only [DA] at h;obtain⟨a,m,rfl,_⟩:=h;rfl
def oT(neg:Bool):En→Rv→Rv→Option Rv:=fun e x y=>(gD e x).bind fun a=>match y with
  | .d .none=>some (.d (.bool (if neg then !kP a else kP a)))
  | _=>none
def oS(neg:Bool):En→Rv→Rv→Option Rv:=fun e x y=>(dP x).bind fun a=>(dP y).bind fun b=>some (.d (.bool (if neg then !(a==b) else a==b)))
theorem yv:dF K (fun x y H Q=>y=.non∧Q (.bl (decide (x=.non))) H) (oT false):=by
  intro σ H0 F H e x y z v u Q R A B hg q
  unfold oT at hg
  obtain⟨a,h1,hg⟩:=Option.bind_eq_some_iff.mp hg
  split at hg
  · cases hg
    refine⟨eB.mp (show DA K F .none u from B),?_⟩
    rw [jU (eR R A h1)]
    exact q F H _ (cK.refl _ _ _ _) R bW
  · cases hg
theorem vU:dF K (fun x y H Q=>y=.non∧Q (.bl (!decide (x=.non))) H) (oT true):=by
  intro σ H0 F H e x y z v u Q R A B hg q
  unfold oT at hg
  obtain⟨a,h1,hg⟩:=Option.bind_eq_some_iff.mp hg
  split at hg
  · cases hg
    refine⟨eB.mp (show DA K F .none u from B),?_⟩
    rw [jU (eR R A h1)]
    exact q F H _ (cK.refl _ _ _ _) R bW
  · cases hg
theorem yt:dF K (fun x y H Q=>∃b c,x=.bl b∧y=.bl c∧Q (.bl (b==c)) H) (oS false):=by
  intro σ H0 F H e x y z v u Q R A B hg q
  unfold oS at hg
  obtain⟨a,h1,hg⟩:=Option.bind_eq_some_iff.mp hg
  obtain⟨b,h2,hg⟩:=Option.bind_eq_some_iff.mp hg
  cases hg
  exact⟨a,b,cw A h1,cw B h2,q F H _ (cK.refl _ _ _ _) R bW⟩
theorem qp:dF K (fun x y H Q=>∃b c,x=.bl b∧y=.bl c∧Q (.bl (!(b==c))) H) (oS true):=by
  intro σ H0 F H e x y z v u Q R A B hg q
  unfold oS at hg
  obtain⟨a,h1,hg⟩:=Option.bind_eq_some_iff.mp hg
  obtain⟨b,h2,hg⟩:=Option.bind_eq_some_iff.mp hg
  cases hg
  exact⟨a,b,cw A h1,cw B h2,q F H _ (cK.refl _ _ _ _) R bW⟩
def yn:En→Rv→Rv→Option Rv:=oU (oT false) (oS false)
def eS:En→Rv→Rv→Option Rv:=oU (oT true) (oS true)
def y9:R2:=fun x y H Q=>(y=.non∧Q (.bl (decide (x=.non))) H)∨∃b c,x=.bl b∧y=.bl c∧Q (.bl (b==c)) H
def ou:R2:=fun x y H Q=>(y=.non∧Q (.bl (!decide (x=.non))) H)∨∃b c,x=.bl b∧y=.bl c∧Q (.bl (!(b==c))) H
theorem wf:dz X (compareOp .Is) y9:=wj.or wg
theorem pd:dz X (compareOp .IsNot) ou:=tH.or pe
theorem As:dF K y9 yn:=dF.or yv yt
theorem sL:dF K ou eS:=dF.or vU qp
def eg:En→Rv→Rv→Option Rv:=fun e x y=>(cM e x).bind fun p=>(bM y).bind fun i=>(atI p.2 i).map .d
def y_(K:PySem.W.Frag):R2:=fun x y H Q=>y' K x y H Q∨za K x y H Q
theorem Au:sj X (y_ X.K):=sN.or vH
theorem aC.atI{F:Hp}{ds:List PyData}{vs:List V}(h:aC K F ds vs){i:Int}{d:PyData}(q:atI ds i=some d):∃v,L2.atI vs i=some v∧DA K F d v:=by
  unfold L2.atI at q ⊢
  obtain⟨j,h1,h2⟩:=Option.bind_eq_some_iff.mp q
  obtain⟨v,h3,h4⟩:=h.get h2
  exact⟨v,by rw [←h.len,h1];exact h3,h4⟩
theorem Av:dF K (y_ K) eg:=by
  intro σ H0 F H e x y z v u Q R A B hg q
  unfold eg at hg
  obtain⟨⟨b,xs⟩,h1,hg⟩:=Option.bind_eq_some_iff.mp hg
  obtain⟨i,h2,hg⟩:=Option.bind_eq_some_iff.mp hg
  obtain⟨d,h3,hg⟩:=Option.map_eq_some_iff.mp hg
  cases hg
  obtain⟨p,vs,rfl,d1,s1⟩:=bP R A h1
  obtain⟨w,h4,h5⟩:=d1.atI h3
  have fin:=q F H w (cK.refl _ _ _ _) R h5
  cases b with
  | true=>exact .inl ⟨p,vs,i,w,rfl,bG B h2,s1,h4,fin⟩
  | false=>exact .inr ⟨p,vs,i,w,rfl,bG B h2,s1,h4,fin⟩
end
end L2
namespace HT
open PySem PySem.Spec PyProof.Rows
section
variable{prog:Program}{w:World}{A:Around}{E:Value→Shared→Prop}{s:Shared}
theorem getItem_tuple_all{t sl:Addr}{items:Array Value}{vl vu:Value}{lo hi:Option Int}{Q:Value→Shared→Prop}(ht:IsTup s.heap t items)(hs:s.heap.IsSliceOf sl vl vu .none)(pl:IsPart vl lo)(pu:IsPart vu hi)
    (hw:sIx items.size 0 lo=0∧sIx items.size items.size hi=items.size)
    (h:Q (.ref t) s):wpAny (model prog w) A (getItem (.ref t) (.ref sl)) Q E s:=by
  obtain⟨os,hos,hcs,hds⟩:=id hs
  have hTs:s.TypeIs (.ref sl) "slice":=⟨os,hos,hcs⟩
  unfold getItem
  try with_reducible refine wpAny_holding ?_
  first | refine wpAny_bind (wpAny_pure ?_) | skip
  refine wpAny_bind (wpAny_sequenceKey ht.typeIs (by decide) ?_)
  refine wpAny_bind (wpAny_callSpecial?_slot (name:=Str.ofString "__getitem__") ht.typeIs PyProof.Rows.slot_tuple_getitem
    (wpAny_call_entry PyProof.Rows.slot_tuple_getitem ht.typeIs entry_tuple_getitem ?_ (args_tuple_getitem _ _)))
  show wpAny _ _ (Builtin.Tuple.tupleItemsOf (.ref t) >>= _) _ _ s
  refine wpAny_bind (tupleItemsOf_ ht ?_)
  refine wpAny_bind (wpAny_typeOf hTs ?_)
  rw [if_pos (by decide)]
  refine wpAny_bind (eu hs pl pu ?_)
  have hno:(((sIx items.size 0 lo:Nat):Int)==0&&(1:Int)==1&&(sIx items.size items.size hi - sIx items.size 0 lo)==items.size)=true:=by
    rw [hw.1,hw.2];simp
  show wpAny _ _ (if (((sIx items.size 0 lo:Nat):Int)==0&&(1:Int)==1&&(sIx items.size items.size hi - sIx items.size 0 lo)==items.size)=true then _ else _) _ _ s
  rw [if_pos hno]
  unfold Builtin.Tuple.tupleIsExact
  refine wpAny_bind (wpAny_bind (wpAny_typeOf ht.typeIs (wpAny_pure ?_)))
  rw [if_pos (by decide)]
  exact wpAny_bind (wpAny_rule (wpAny_pure ⟨_,rfl,wpAny_pure h⟩))
end
end HT
namespace L2
open PySem PySem.Spec PyProof.Rows
section
variable{X:Cx}{K:PySem.W.Frag}{a:Expr}{fa:FE}{lo hi:Option Expr}{pos p2:Pos}
def cutD(xs:List PyData)(lo hi:Option Int):List PyData:=(xs.drop (HT.sIx xs.length 0 lo)).take (HT.sIx xs.length xs.length hi - HT.sIx xs.length 0 lo)
def zh(K:PySem.W.Frag):V→Option Int→Option Int→Hp→VK→Prop:=fun x lo hi H Q=>∃a xs,x=.ref a∧dg K H a xs∧
  (HT.sIx xs.length 0 lo=0∧HT.sIx xs.length xs.length hi=xs.length)∧Q (.ref a) H
theorem uk:sk X (zh X.K):=by
  intro pins s σ H x v vl vu lo hi sl Q I rx hs pl pu h
  obtain⟨a,xs,rfl,hx,hw,q⟩:=h
  cases rx
  obtain⟨its,r,ht,hz⟩:=I.tuple hx
  have hlen:its.toArray.size=xs.length:=by rw [List.size_toArray];exact r.length.symm
  refine⟨"tuple",_,PyProof.Rows.slot_tuple_getitem.lookup,ht.typeIs,?_⟩
  exact HT.getItem_tuple_all ht hs pl pu (by rw [hlen];exact hw) ⟨.ref a,H,I,rfl,q⟩
def AF(K:PySem.W.Frag):V→Option Int→Option Int→Hp→VK→Prop:=fun x lo hi H Q=>zg K x lo hi H Q∨(zh K x lo hi H Q∨ze K x lo hi H Q)
theorem AG:sk X (AF X.K):=xm.or (uk.or uj)
abbrev FO:=En→Option (Option Int × En)
def fO(K:PySem.W.Frag)(f:FO):TO:=fun σ H Q=>∃F e o e',aR K F H σ e∧f e=some (o,e')∧∀F' H',cK σ F H e F' H' e'→aR K F' H' σ e'→Q o H'
theorem PO.mono{e:Option Expr}{t t':TO}(h:PO X e t)(m:∀σ H Q,t' σ H Q→t σ H Q):PO X e t':=fun pins s σ H Q I q=>h pins s σ H Q I (m σ H Q q)
def iD:FO:=fun e=>some (none,e)
def gO(f:FE):FO:=fun e=>(f e).bind fun p=>(bM p.1).map fun i=>(some i,p.2)
theorem gT:PO X none (fO K iD):=tS.mono fun σ H Q h=>by
  obtain⟨F,e,o,e',R,hf,q⟩:=h
  cases hf
  exact q F H (cK.refl _ _ _ _) R
theorem gU(h:PE X a (fE K fa)):PO X (some a) (fO K (gO fa)):=(tT h).mono fun σ H Q h=>by
  obtain⟨F,e,o,e',R,hf,q⟩:=h
  unfold gO at hf
  obtain⟨⟨x,e1⟩,h1,hf⟩:=Option.bind_eq_some_iff.mp hf
  obtain⟨i,h2,hf⟩:=Option.map_eq_some_iff.mp hf
  cases hf
  exact⟨F,e,x,_,R,h1,fun F1 H1 v X1 R1 A1=>⟨i,bG A1 h2,q F1 H1 X1 R1⟩⟩
def Ak(e:En)(x:Rv)(lo hi:Option Int):Option Rv:=(cM e x).map fun p=>if p.1=true then .l (cutD p.2 lo hi) else .d (.tuple (cutD p.2 lo hi))
def r9(fa:FE)(fl fh:FO):FE:=fun e=>(fa e).bind fun p=>(fl p.2).bind fun l=>(fh l.2).bind fun h=>(Ak h.2 p.1 l.1 h.1).map fun z=>(z,h.2)
theorem p5{F:Hp}{ds:List PyData}{vs:List V}(h:aC K F ds vs)(lo hi:Option Int):aC K F (cutD ds lo hi) (jF vs lo hi):=by
  unfold cutD jF
  rw [h.len]
  exact(h.drop _).take _
theorem sx{α:Type}{xs:List α}{lo hi:Option Int}(h:HT.sIx xs.length 0 lo=0∧HT.sIx xs.length xs.length hi=xs.length):(xs.drop (HT.sIx xs.length 0 lo)).take (HT.sIx xs.length xs.length hi - HT.sIx xs.length 0 lo)=xs:=by
  rw [h.1,h.2];simp
theorem rm{fl fh:FO}(he:PE X a (fE X.K fa))(hl:PO X lo (fO X.K fl))(hh:PO X hi (fO X.K fh)):PE X (.Subscript a (.Slice lo hi none p2) pos) (fE X.K (r9 fa fl fh)):=(qQ AG he hl hh).mono fun σ H Q h=>by
  obtain⟨F,e,z,e',R,hf,q⟩:=h
  unfold r9 at hf
  obtain⟨⟨x,e1⟩,h1,hf⟩:=Option.bind_eq_some_iff.mp hf
  obtain⟨⟨l,e2⟩,h2,hf⟩:=Option.bind_eq_some_iff.mp hf
  obtain⟨⟨u,e3⟩,h3,hf⟩:=Option.bind_eq_some_iff.mp hf
  obtain⟨z',h4,hf⟩:=Option.map_eq_some_iff.mp hf
  cases hf
  refine⟨F,e,x,e1,R,h1,fun F1 H1 v X1 R1 A1=>⟨F1,e1,l,e2,R1,h2,fun F2 H2 X2 R2=>⟨F2,e2,u,_,R2,h3,fun F3 H3 X3 R3=>?_⟩⟩⟩
  have X12:=X1.trans X2
  have X13:=X12.trans X3
  have A3:=(A1.ext X2).ext X3
  unfold Ak at h4
  obtain⟨⟨b,xs⟩,h5,h4⟩:=Option.map_eq_some_iff.mp h4
  obtain⟨p,vs,rfl,d1,s1⟩:=bP R3 A3 h5
  cases b with
  | true=>
    rw [if_pos rfl] at h4;cases h4
    refine .inr (.inr ⟨p,vs,rfl,s1,fun t ht=>?_⟩)
    obtain⟨R4,X4,hF,no⟩:=R3.newL (vs:=jF vs l u) ht
    exact q _ _ _ (X13.trans X4) R4 ⟨t,_,rfl,X13.dom _ ht,hF,au,p5 d1 l u,no⟩
  | false=>
    rw [if_neg (by simp)] at h4;cases h4
    by_cases hw:HT.sIx vs.length 0 l=0∧HT.sIx vs.length vs.length u=vs.length
    · refine .inr (.inl ⟨p,vs,rfl,s1,hw,?_⟩)
      have e5:cutD xs l u=xs:=by unfold cutD;exact sx (by rw [d1.len];exact hw)
      rw [e5] at q
      obtain⟨F4,R4,X4,hF⟩:=R3.growT (av.refl _) s1
      exact q _ _ _ (X13.trans X4) R4 (cE.mpr ⟨p,vs,rfl,hF,d1.mono X4.sf⟩)
    · refine .inl ⟨p,vs,rfl,s1,hw,fun t ht=>?_⟩
      obtain⟨R4,X4⟩:=R3.newT (vs:=jF vs l u) ht
      exact q _ _ _ (X13.trans X4) R4 (cE.mpr ⟨t,_,rfl,.inl (.inl au),(p5 d1 l u).mono X4.sf⟩)
end
section
variable{X:Cx}{K:PySem.W.Frag}
theorem iU{σ:L2.St}{H0 F H:Hp}{e:En}{x:Rv}{vs:List V}(h:cC K σ H0 F H e [x] vs):∃v,vs=[v]∧bL K σ H0 F H e x v:=by
  obtain⟨v,ws,rfl,h1,h2⟩:=h
  have h2':ws=[]:=h2
  subst h2'
  exact⟨v,rfl,h1⟩
theorem ox{σ:L2.St}{H0 F H:Hp}{e:En}{x y:Rv}{vs:List V}(h:cC K σ H0 F H e [x,y] vs):∃v u,vs=[v,u]∧bL K σ H0 F H e x v∧bL K σ H0 F H e y u:=by
  obtain⟨v,ws,rfl,h1,h2⟩:=h
  obtain⟨u,rfl,h3⟩:=iU h2
  exact⟨v,u,rfl,h1,h3⟩
def g1(g:En→Rv→Option Rv):En→List Rv→Option Rv:=fun e xs=>match xs with
  | [x]=>g e x
  | _=>none
def g2(g:En→Rv→Rv→Option Rv):En→List Rv→Option Rv:=fun e xs=>match xs with
  | [x,y]=>g e x y
  | _=>none
theorem fv{r:List V→Hp→VK→Prop}{g:En→Rv→Option Rv}(h:xZ K (fun v H Q=>r [v] H Q) g):dr K r (g1 g):=by
  intro σ H0 F H e xs z vs Q R A hg q
  unfold g1 at hg
  match xs,hg with
  | [x],hg=>
    obtain⟨v,rfl,h1⟩:=iU A
    exact h σ H0 F H e x z v Q R h1 hg q
theorem nU{r:List V→Hp→VK→Prop}{g:En→Rv→Rv→Option Rv}(h:dF K (fun v u H Q=>r [v,u] H Q) g):dr K r (g2 g):=by
  intro σ H0 F H e xs z vs Q R A hg q
  unfold g2 at hg
  match xs,hg with
  | [x,y],hg=>
    obtain⟨v,u,rfl,h1,h2⟩:=ox A
    exact h σ H0 F H e x y z v u Q R h1 h2 hg q
def fX:En→Rv→Option Rv:=fun e x=>(cM e x).map fun p=>.d (.int p.2.length)
theorem yB:dr K (fun xs H Q=>∃p ys,xs=[.ref p]∧(ef K H p ys∨dg K H p ys)∧Q (.int ys.length) H) (g1 fX):=fv fun σ H0 F H e x z v Q R A hg q=>by
  obtain⟨⟨b,xs⟩,h5,h4⟩:=Option.map_eq_some_iff.mp hg
  obtain⟨p,vs,rfl,d1,s1⟩:=bP R A h5
  cases h4
  refine⟨p,vs,rfl,?_,?_⟩
  · cases b with
    | true=>exact .inl s1
    | false=>exact .inr s1
  · rw [←d1.len]
    exact q F H _ (cK.refl _ _ _ _) R js
def oQ:En→Rv→Option Rv:=fun _ x=>(bM x).map fun i=>.d (.int (if i < 0 then -i else i))
theorem x6:dr K (fun xs H Q=>∃i,xs=[.int i]∧Q (.int (if i < 0 then -i else i)) H) (g1 oQ):=fv fun σ H0 F H e x z v Q R A hg q=>by
  obtain⟨i,h5,h4⟩:=Option.map_eq_some_iff.mp hg
  cases h4
  exact⟨i,by rw [bG A h5],q F H _ (cK.refl _ _ _ _) R js⟩
def oR:En→Rv→Option Rv:=fun _ x=>match x with
  | .d (.int i)=>some (.d (.int i))
  | .d (.bool k)=>some (.d (.int (if k then 1 else 0)))
  | _=>none
theorem yr:dr K (fun xs H Q=>(∃i,xs=[.int i]∧Q (.int i) H)∨∃k,xs=[.bl k]∧Q (.int (if k then 1 else 0)) H) (g1 oR):=fv fun σ H0 F H e x z v Q R A hg q=>by
  unfold oR at hg
  split at hg
  · cases hg
    exact .inl ⟨_,by rw [cj.mp (show DA K F (.int _) v from A)],q F H _ (cK.refl _ _ _ _) R js⟩
  · cases hg
    exact .inr ⟨_,by rw [ci.mp (show DA K F (.bool _) v from A)],q F H _ (cK.refl _ _ _ _) R js⟩
  · cases hg
def kL:=gI (fun _ _=>true) fun i j=>.int (if j < i then j else i)
def iM:=gI (fun _ _=>true) fun i j=>.int (if j > i then j else i)
theorem yE:dr K (fun xs H Q=>∃i j,xs=[.int i,.int j]∧Q (.int (if j < i then j else i)) H) (g2 kL):=nU fun σ H0 F H e x y z v u Q R A B hg q=>by
  obtain⟨i,j,h1,h2,h3⟩:=e6 (K:=K) (g:=fun i j=>.int (if j < i then j else i)) (fun _ _ _=>cj.mpr rfl) σ H0 F H e x y z v u Q R A B hg q
  exact⟨i,j,by rw [h1,h2],h3⟩
theorem yD:dr K (fun xs H Q=>∃i j,xs=[.int i,.int j]∧Q (.int (if j > i then j else i)) H) (g2 iM):=nU fun σ H0 F H e x y z v u Q R A B hg q=>by
  obtain⟨i,j,h1,h2,h3⟩:=e6 (K:=K) (g:=fun i j=>.int (if j > i then j else i)) (fun _ _ _=>cj.mpr rfl) σ H0 F H e x y z v u Q R A B hg q
  exact⟨i,j,by rw [h1,h2],h3⟩
def ck:En→Rv→Option Rv:=fun e x=>(cM e x).map fun p=>.d (.tuple p.2)
theorem ur:dr K (fun xs H Q=>∃p ys,xs=[.ref p]∧((ef K H p ys∧∀l,H l=none→Q (.ref l) (a8 H l (.tup ys)))∨(dg K H p ys∧Q (.ref p) H))) (g1 ck):=fv fun σ H0 F H e x z v Q R A hg q=>by
  obtain⟨⟨b,xs⟩,h5,h4⟩:=Option.map_eq_some_iff.mp hg
  obtain⟨p,vs,rfl,d1,s1⟩:=bP R A h5
  cases h4
  refine⟨p,vs,rfl,?_⟩
  cases b with
  | true=>
    refine .inl ⟨s1,fun t ht=>?_⟩
    obtain⟨R4,X4⟩:=R.newT (vs:=vs) ht
    exact q _ _ _ X4 R4 (cE.mpr ⟨t,_,rfl,.inl (.inl au),d1.mono X4.sf⟩)
  | false=>
    obtain⟨F4,R4,X4,hF⟩:=R.growT (av.refl _) s1
    exact .inr ⟨s1,q _ _ _ X4 R4 (cE.mpr ⟨p,vs,rfl,hF,d1.mono X4.sf⟩)⟩
def oe:En→Rv→Option Rv:=fun e x=>(cM e x).map fun p=>.l p.2
theorem vO:dr K (fun xs H Q=>∃p ys,xs=[.ref p]∧(ef K H p ys∨dg K H p ys)∧∀l,H l=none→Q (.ref l) (a8 H l (.lst ys))) (g1 oe):=fv fun σ H0 F H e x z v Q R A hg q=>by
  obtain⟨⟨b,xs⟩,h5,h4⟩:=Option.map_eq_some_iff.mp hg
  obtain⟨p,vs,rfl,d1,s1⟩:=bP R A h5
  cases h4
  refine⟨p,vs,rfl,?_,fun t ht=>?_⟩
  · cases b with
    | true=>exact .inl s1
    | false=>exact .inr s1
  · obtain⟨R4,X4,hF,no⟩:=R.newL (vs:=vs) ht
    exact q _ _ _ X4 R4 ⟨t,_,rfl,ht,hF,au,d1,no⟩
def i0:List PyData→Option (List Bool)
  | []=>some []
  | .bool i::r=>(i0 r).map (i::·)
  | _=>none
theorem jQ:∀{ds:List PyData} {ns:List Bool},i0 ds=some ns→ds=ns.map .bool
  | [],_,h=>by cases h;rfl
  | .bool i::r,_,h=>by
    obtain⟨ns,h1,rfl⟩:=Option.map_eq_some_iff.mp h
    rw [jQ h1];rfl
def iC(g:List PyData→Option PyData):En→Rv→Option Rv:=fun e x=>match cM e x with
  | some (true,xs)=>(g xs).map .d
  | _=>none
theorem xl{r:List V→Hp→VK→Prop}{g:List PyData→Option PyData}(h:∀(F H:Hp) (p:Addr) (xs:List PyData) (vs:List V) (d:PyData) (Q:VK),aC K F xs vs→ef K H p vs→g xs=some d→(∀v,(∀F,DA K F d v)→Q v H)→r [.ref p] H Q):dr K r (g1 (iC g)):=fv fun σ H0 F H e x z v Q R A hg q=>by
  unfold iC at hg
  split at hg
  case h_2=>cases hg
  case h_1 xs h5=>
  obtain⟨p,vs,rfl,d1,s1⟩:=bP R A h5
  obtain⟨d,h6,hg⟩:=Option.map_eq_some_iff.mp hg
  cases hg
  exact h F H p xs vs d Q d1 s1 h6 fun v hv=>q F H v (cK.refl _ _ _ _) R (hv F)
def jY:List PyData→Option PyData:=fun xs=>(i0 xs).map fun ns=>.bool (ns.all id)
theorem x9:dr K (fun xs H Q=>∃(l:Addr) (bs:List Bool),xs=[.ref l]∧ef K H l (bs.map V.bl)∧Q (.bl (bs.all id)) H) (g1 (iC jY)):=xl fun F H p xs vs d Q d1 s1 hg q=>by
  obtain⟨ns,h1,h2⟩:=Option.map_eq_some_iff.mp hg
  cases h2
  rw [jQ h1] at d1
  rw [aC.bools.mp d1] at s1
  exact⟨p,ns,rfl,s1,q _ fun _=>ci.mpr rfl⟩
mutual
def uX:PyData→Bool
  | .tuple ds=>nW ds
  | .list _=>false
  | .dict _=>false
  | _=>true
def nW:List PyData→Bool
  | []=>true
  | d::r=>uX d&&nW r
end
end
end L2
namespace L2
open PySem PySem.Spec PyProof.Rows
section
variable{K:PySem.W.Frag}{σ:L2.St}{H0 F H F' H':Hp}{e e':En}
theorem aR.upd1(R:aR K F H σ e){σ':L2.St}(i:Nat)(hl:σ'.length=e'.length)(hσ:∀j,j≠i→σ'[j]?=σ[j]?)(he:∀j,j≠i→e'[j]?=e[j]?)(sF:av F F')(sm:av F' H')(hf:∀j a,j≠i→Fp σ e H j a→F' a=none)
    (hh:∀j a o,j≠i→Fp σ e H j a→H a=some o→H' a=some o)(hd:∀x,e'[i]?=some (some (.d x))→∃v,σ'[i]?=some (some v)∧DA K F' x v)
    (ho:∀xs,e'[i]?=some (some (.l xs))→∃l vs,σ'[i]?=some (some (.ref l))∧F' l=none∧H' l=some (.lst vs)∧aC K F' xs vs)
    (hn:∀xss,e'[i]?=some (some (.n xss))→∃(l:Addr) (bs:List Addr),σ'[i]?=some (some (.ref l))∧F' l=none∧H' l=some (.lst (bs.map V.ref))∧bs.length=xss.length∧bs.Nodup∧l∉bs∧
      ∀(k:Nat) (b:Addr) (ys:List PyData),bs[k]?=some b→xss[k]?=some ys→F' b=none∧∃us,H' b=some (.lst us)∧aC K F' ys us)
    (hi:∀a j,j≠i→Fp σ' e' H' i a→¬Fp σ e H j a):aR K F' H' σ' e'∧∀j a,j≠i→(Fp σ' e' H' j a↔ Fp σ e H j a):=by
  have fs:∀j a,j≠i→(Fp σ' e' H' j a↔ Fp σ e H j a):=by
    intro j a hj
    have key:∀xss l,e[j]?=some (some (.n xss))→σ[j]?=some (some (.ref l))→H' l=H l:=fun xss l h1 h2=>by
      obtain⟨l',bs,g1,g2,g3,_⟩:=R.nst j xss h1
      rw [h2] at g1;cases g1
      rw [g3]
      exact hh j l _ hj (.inr ⟨xss,l,bs,h1,h2,g3,.inl rfl⟩) g3
    unfold Fp
    rw [he j hj,hσ j hj]
    constructor
    · rintro(h1 | ⟨xss,l,bs,h1,h2,h3,h4⟩)
      · exact .inl h1
      · exact .inr ⟨xss,l,bs,h1,h2,by rw [←key xss l h1 h2];exact h3,h4⟩
    · rintro(h1 | ⟨xss,l,bs,h1,h2,h3,h4⟩)
      · exact .inl h1
      · exact .inr ⟨xss,l,bs,h1,h2,by rw [key xss l h1 h2];exact h3,h4⟩
  refine⟨⟨sm,hl,fun j x q=>?_,fun j xs q=>?_,fun j xss q=>?_,fun j k a q1 q2=>?_⟩,fs⟩
  · by_cases z:j=i
    · subst z;exact hd x q
    · rw [he j z] at q
      obtain⟨v,h1,h2⟩:=R.dat j x q
      exact⟨v,by rw [hσ j z];exact h1,DA.mono sF h2⟩
  · by_cases z:j=i
    · subst z;exact ho xs q
    · rw [he j z] at q
      obtain⟨l,vs,h1,h2,h3,h4⟩:=R.own j xs q
      have o:Fp σ e H j l:=.inl ⟨xs,q,h1⟩
      exact⟨l,vs,by rw [hσ j z];exact h1,hf j l z o,hh j l _ z o h3,h4.mono sF⟩
  · by_cases z:j=i
    · subst z;exact hn xss q
    · rw [he j z] at q
      obtain⟨l,bs,h1,h2,h3,h4,h5,h6,h7⟩:=R.nst j xss q
      have o:Fp σ e H j l:=.inr ⟨xss,l,bs,q,h1,h3,.inl rfl⟩
      refine⟨l,bs,by rw [hσ j z];exact h1,hf j l z o,hh j l _ z o h3,h4,h5,h6,fun k b ys g1 g2=>?_⟩
      obtain⟨c1,us,c2,c3⟩:=h7 k b ys g1 g2
      have ob:Fp σ e H j b:=.inr ⟨xss,l,bs,q,h1,h3,.inr (List.mem_of_getElem? g1)⟩
      exact⟨hf j b z ob,us,hh j b _ z ob c2,c3.mono sF⟩
  · by_cases zj:j=i
    · subst zj
      by_cases zk:k=j
      · exact zk.symm
      · exact absurd ((fs k a zk).mp q2) (hi a k zk q1)
    · by_cases zk:k=i
      · subst zk
        exact absurd ((fs j a zj).mp q1) (hi a j zj q2)
      · exact R.fp j k a ((fs j a zj).mp q1) ((fs k a zk).mp q2)
theorem aR.putL(R:aR K F H σ e){i:Nat}{xs ys:List PyData}{l:Addr}{vs:List V}(hi:e[i]?=some (some (.l xs)))(hl:σ[i]?=some (some (.ref l)))(hd:aC K F ys vs):
    aR K F (a8 H l (.lst vs)) σ (e.set i (some (.l ys)))∧cK σ F H e F (a8 H l (.lst vs)) (e.set i (some (.l ys))):=by
  obtain⟨l',vs',h1,h2,h3,h4⟩:=R.own i xs hi
  rw [hl] at h1;cases h1
  have hlt:i < e.length:=(List.getElem?_eq_some_iff.mp hi).1
  have fi:Fp σ e H i l:=.inl ⟨xs,hi,hl⟩
  have gi:(e.set i (some (Sv.l ys)))[i]?=some (some (.l ys)):=List.getElem?_set_self hlt
  obtain⟨R',fs⟩:=R.upd1 (F':=F) (H':=a8 H l (.lst vs)) (e':=e.set i (some (.l ys))) i (by rw [List.length_set];exact R.len) (fun _ _=>rfl) (fun j hj=>List.getElem?_set_ne (Ne.symm hj)) (av.refl F)
    (fun b o q=>by
      have z:b≠l:=fun z=>by rw [z,h2] at q;cases q
      rw [aF z];exact R.sm b o q)
    (fun j a _ q=>(R.fpAt q).1)
    (fun j a o hj q ha=>by
      have z:a≠l:=fun z=>hj (R.fp j i a q (by rw [z];exact fi))
      rw [aF z];exact ha)
    (fun x q=>by rw [gi] at q;cases q) (fun zs q=>by rw [gi] at q;cases q;exact⟨l,vs,hl,h2,au,hd⟩) (fun xss q=>by rw [gi] at q;cases q)
    (fun a j hj q q2=>by
      rcases q with ⟨zs,_,q⟩ | ⟨xss,_,_,q,_⟩
      · rw [hl] at q;cases q
        exact hj (R.fp j i _ q2 fi)
      · rw [gi] at q;cases q)
  refine⟨R',⟨av.refl _,fun a q=>?_,fun _ _ q _ _=>q,fun a ws q=>?_,fun a o q n=>?_,fun j=>?_,fun a ⟨j,q⟩=>?_⟩⟩
  · by_cases z:a=l
    · rw [z,au] at q;cases q
    · rw [aF z] at q;exact q
  · by_cases z:a=l
    · rw [z];exact⟨vs,au⟩
    · rw [aF z];exact⟨ws,q⟩
  · have z:a≠l:=fun z=>n ⟨i,by rw [z];exact fi⟩
    rw [aF z];exact q
  · by_cases z:j=i
    · subst z;rw [gi];exact⟨fun _=>⟨xs,hi⟩,fun _=>⟨ys,rfl⟩⟩
    · rw [List.getElem?_set_ne (Ne.symm z)]
  · by_cases z:j=i
    · subst z
      rcases q with ⟨zs,_,q⟩ | ⟨xss,_,_,q,_⟩
      · rw [hl] at q;cases q;exact .inl ⟨j,fi⟩
      · rw [gi] at q;cases q
    · exact .inl ⟨j,(fs j a z).mp q⟩
theorem aR.setD(R:aR K F H σ e)(i:Nat){x:PyData}{v:V}(h:DA K F x v):aR K F H (σ.set i (some v)) (e.set i (some (.d x)))∧∀a,cO (σ.set i (some v)) (e.set i (some (.d x))) H a→cO σ e H a:=by
  have gi:∀s,(e.set i (some (Sv.d x)))[i]?=some (some s)→s=.d x∧i < e.length:=fun s q=>by
    have hlt:i < e.length:=by have:=(List.getElem?_eq_some_iff.mp q).1;simpa using this
    rw [List.getElem?_set_self hlt] at q
    exact⟨(Option.some.inj (Option.some.inj q)).symm,hlt⟩
  have nofp:∀a,¬Fp (σ.set i (some v)) (e.set i (some (.d x))) H i a:=fun a q=>by
    rcases q with ⟨zs,q,_⟩ | ⟨xss,_,_,q,_⟩
    · cases (gi _ q).1
    · cases (gi _ q).1
  obtain⟨R',fs⟩:=R.upd1 (F':=F) (H':=H) (σ':=σ.set i (some v)) (e':=e.set i (some (.d x))) i (by rw [List.length_set,List.length_set];exact R.len) (fun j hj=>List.getElem?_set_ne (Ne.symm hj)) (fun j hj=>List.getElem?_set_ne (Ne.symm hj)) (av.refl F) R.sm
    (fun j a _ q=>(R.fpAt q).1) (fun j a o _ _ ha=>ha)
    (fun y q=>by
      obtain⟨z,hlt⟩:=gi _ q
      cases z
      exact⟨v,List.getElem?_set_self (by rw [R.len];exact hlt),h⟩)
    (fun zs q=>by cases (gi _ q).1) (fun xss q=>by cases (gi _ q).1) (fun a j hj q=>absurd q (nofp a))
  refine⟨R',fun a ⟨j,q⟩=>?_⟩
  by_cases z:j=i
  · subst z;exact absurd q (nofp a)
  · exact⟨j,(fs j a z).mp q⟩
theorem aR.setL(R:aR K F H σ e)(i:Nat){xs:List PyData}{l:Addr}{vs:List V}(h1:F l=none)(h2:H l=some (.lst vs))(h3:aC K F xs vs)(h4:¬cO σ e H l):aR K F H (σ.set i (some (.ref l))) (e.set i (some (.l xs)))∧∀a,cO (σ.set i (some (.ref l))) (e.set i (some (.l xs))) H a→cO σ e H a∨a=l:=by
  have gi:∀s,(e.set i (some (Sv.l xs)))[i]?=some (some s)→s=.l xs∧i < e.length:=fun s q=>by
    have hlt:i < e.length:=by have:=(List.getElem?_eq_some_iff.mp q).1;simpa using this
    rw [List.getElem?_set_self hlt] at q
    exact⟨(Option.some.inj (Option.some.inj q)).symm,hlt⟩
  have onefp:∀a,Fp (σ.set i (some (.ref l))) (e.set i (some (.l xs))) H i a→a=l:=fun a q=>by
    rcases q with ⟨zs,q,q2⟩ | ⟨xss,_,_,q,_⟩
    · obtain⟨_,hlt⟩:=gi _ q
      rw [List.getElem?_set_self (by rw [R.len];exact hlt)] at q2
      cases q2;rfl
    · cases (gi _ q).1
  obtain⟨R',fs⟩:=R.upd1 (F':=F) (H':=H) (σ':=σ.set i (some (.ref l))) (e':=e.set i (some (.l xs))) i (by rw [List.length_set,List.length_set];exact R.len) (fun j hj=>List.getElem?_set_ne (Ne.symm hj)) (fun j hj=>List.getElem?_set_ne (Ne.symm hj)) (av.refl F) R.sm
    (fun j a _ q=>(R.fpAt q).1) (fun j a o _ _ ha=>ha) (fun y q=>by cases (gi _ q).1)
    (fun zs q=>by
      obtain⟨z,hlt⟩:=gi _ q
      cases z
      exact⟨l,vs,List.getElem?_set_self (by rw [R.len];exact hlt),h1,h2,h3⟩)
    (fun xss q=>by cases (gi _ q).1) (fun a j hj q q2=>h4 ⟨j,by rw [onefp a q] at q2;exact q2⟩)
  refine⟨R',fun a ⟨j,q⟩=>?_⟩
  by_cases z:j=i
  · subst z;exact .inr (onefp a q)
  · exact .inl ⟨j,(fs j a z).mp q⟩
end
section
variable{X:Cx}{K:PySem.W.Frag}{o a:Expr}{es:List Expr}{fo:FE}{fs:FA}{name:Str}{apos cpos:Pos}{id:String}
def jL(K:PySem.W.Frag)(r:V→List V→Hp→VK→Prop)(g:List PyData→List PyData→Option (PyData × List PyData)):Prop:=
  ∀(F H:Hp) (l:Addr) (xs ys ds:List PyData) (z:PyData) (vs us:List V) (Q:VK),F l=none→av F H→H l=some (.lst vs)→aC K F xs vs→aC K F ds us→g xs ds=some (z,ys)→
    (∀w ws,DA K F z w→aC K F ys ws→Q w (a8 H l (.lst ws)))→r (.ref l) us H Q
def bA(g:List PyData→List PyData→Option (PyData × List PyData))(fo:FE)(fs:FA):FE:=fun e=>(fo e).bind fun p=>match p.1 with
  | .s i=>(fs p.2).bind fun q=>(gE q.1).bind fun ds=>match q.2[i]? with
    | some (some (.l xs))=>(g xs ds).map fun z=>(.d z.1,q.2.set i (some (.l z.2)))
    | _=>none
  | _=>none
theorem mI{r:V→List V→Hp→VK→Prop}{g:List PyData→List PyData→Option (PyData × List PyData)}(hm:jL K r g){σ:L2.St}{H:Hp}{Q:VK}(h:fE K (bA g fo fs) σ H Q):Ba K "list" r (fE K fo) (fA K fs) σ H Q:=by
  obtain⟨F,e,z,e',R,hf,q⟩:=h
  unfold bA at hf
  obtain⟨⟨x,e1⟩,h1,hf⟩:=Option.bind_eq_some_iff.mp hf
  match x,h1,hf with
  | .s i,h1,hf=>
  dsimp only at hf
  obtain⟨⟨rs,e2⟩,h2,hf⟩:=Option.bind_eq_some_iff.mp hf
  obtain⟨ds,h3,hf⟩:=Option.bind_eq_some_iff.mp hf
  refine⟨F,e,_,e1,R,h1,fun F1 H1 v X1 R1 A1=>?_⟩
  obtain⟨g1,zs,g2⟩:=A1
  obtain⟨l,vs,c1,c2,c3,c4⟩:=R1.own i zs g2
  rw [g1] at c1;cases c1
  refine⟨.inl ⟨rfl,vs,.inl (.inl c3)⟩,F1,e1,rs,e2,R1,h2,fun F2 H2 us X2 R2 A2=>?_⟩
  match h4:e2[i]?,hf with
  | some (some (.l xs)),hf=>
  dsimp only at hf
  obtain⟨⟨zd,ys⟩,h5,hf⟩:=Option.map_eq_some_iff.mp hf
  cases hf
  obtain⟨F3,R3,s3,d3,f3⟩:=cC.frozen R2 A2 h3
  obtain⟨l',vs',k1,k2,k3,k4⟩:=R3.own i xs h4
  rw [g1] at k1;cases k1
  refine hm F3 H2 l xs ys ds zd vs' us Q k2 R3.sm k3 k4 d3 h5 fun w ws hw hws=>?_
  obtain⟨R4,X4⟩:=R3.putL h4 g1 hws
  exact q _ _ _ ((X1.trans (X2.frz s3 f3)).trans X4) R4 hw
theorem vf{r:V→List V→Hp→VK→Prop}{g:List PyData→List PyData→Option (PyData × List PyData)}(slot:Slot "list" name id)(hty:typeOf (.builtin id)=pure (.type "method_descriptor"))(hm:zO X id r)(hf:jL X.K r g)(ho:PE X o (fE X.K fo))(ha:PA X (a::es) (fA X.K fs))
    (hbase:attributeBase o name X.env (eval o X.env)=eval o X.env)
    (hfew:((backTo cpos (starEach (a::es) X.env)).all (fun x=> !x.1)&&(backToKw cpos (keywordEach [] X.env)).all (fun x=>x.1.isSome)
      &&decide ((a::es).length+([]:List Keyword).length+(if ([]:List Keyword).isEmpty then 0 else 1) < 30))=true)
    (hline:(apos.endLine==cpos.line)=true)(hs:starEach (a::es) X.env=(false,eval a X.env)::starEach es X.env)(hplain:(backTo cpos (starEach es X.env)).any (·.1)=false):
    PE X (.Call (.Attribute o name apos) (a::es) [] cpos) (fE X.K (bA g fo fs)):=(yQ PySem.F.plainAttrs_list slot hty hm ho ha hbase hfew hline hs hplain).mono fun _ _ _ h=>mI hf h
theorem wV{r:V→List V→Hp→VK→Prop}{g:List PyData→List PyData→Option (PyData × List PyData)}(slot:Slot "list" name id)(hty:typeOf (.builtin id)=pure (.type "method_descriptor"))(hm:zO X id r)(hf:jL X.K r g)(ho:PE X o (fE X.K fo))
    (hbase:attributeBase o name X.env (eval o X.env)=eval o X.env)(hline:(apos.endLine==cpos.line)=true):PE X (.Call (.Attribute o name apos) [] [] cpos) (fE X.K (bA g fo ah)):=(wx PySem.F.plainAttrs_list slot hty hm ho hbase hline).mono fun σ H Q h=>by
  obtain⟨F,e,r',e',R,hf',q⟩:=mI hf h
  refine⟨F,e,r',e',R,hf',fun F1 H1 v X1 R1 A1=>?_⟩
  obtain⟨ty,G,e2,rs,e3,R2,h2,q2⟩:=q F1 H1 v X1 R1 A1
  cases h2
  exact⟨ty,q2 G H1 [] (cK.refl _ _ _ _) R2 rfl⟩
def be:List PyData→List PyData→Option (PyData × List PyData):=fun xs ds=>match ds with
  | [d]=>if xs.length < 1000000 then some (.none,xs++[d]) else none
  | _=>none
theorem pQ:jL K ot be:=by
  intro F H l xs ys ds z vs us Q hF sm hl d1 d2 hg q
  unfold be at hg
  match ds,hg,d2 with
  | [d],hg,d2=>
    simp only [aC] at d2
    obtain⟨w,r,rfl,hw,rfl⟩:=d2
    dsimp only at hg
    split at hg
    case isFalse=>cases hg
    case isTrue hlt=>
    cases hg
    have:=d1.len
    have sl:sizeLine=16777216:=sizeLine_eq
    exact⟨l,vs,w,rfl,rfl,hl,by lia,q _ _ (eB.mpr rfl) (d1.append (aC.one hw))⟩
def m6:List PyData→List PyData→Option (PyData × List PyData):=fun xs ds=>match ds with
  | []=>(xs[xs.length - 1]?).map fun d=>(d,xs.dropLast)
  | _=>none
theorem aC.dropLast{F:Hp}{ds:List PyData}{vs:List V}(h:aC K F ds vs):aC K F ds.dropLast vs.dropLast:=by
  rw [List.dropLast_eq_take,List.dropLast_eq_take,h.len];exact h.take _
theorem yV:jL K zb m6:=by
  intro F H l xs ys ds z vs us Q hF sm hl d1 d2 hg q
  unfold m6 at hg
  match ds,hg,d2 with
  | [],hg,d2=>
    simp only [aC] at d2
    subst d2
    obtain⟨d,h1,h2⟩:=Option.map_eq_some_iff.mp hg
    cases h2
    obtain⟨v,g1,g2⟩:=d1.get h1
    rw [d1.len] at g1
    exact⟨l,vs,v,rfl,rfl,hl,g1,q _ _ g2 d1.dropLast⟩
def f_:List PyData→List PyData→Option (PyData × List PyData):=fun xs ds=>match ds with
  | [.int i]=>if 0≤i∧i < 1000000000 then(xs[i.toNat]?).map fun d=>(d,xs.eraseIdx i.toNat) else none
  | _=>none
theorem tU:jL K rC f_:=by
  intro F H l xs ys ds z vs us Q hF sm hl d1 d2 hg q
  unfold f_ at hg
  match ds,hg,d2 with
  | [.int i],hg,d2=>
    simp only [aC,DA] at d2
    obtain⟨w,r,rfl,rfl,rfl⟩:=d2
    dsimp only at hg
    split at hg
    case isFalse=>cases hg
    case isTrue hlt=>
    obtain⟨d,h1,h2⟩:=Option.map_eq_some_iff.mp hg
    cases h2
    obtain⟨v,g1,g2⟩:=d1.get h1
    have hlt2:i.toNat < vs.length:=(List.getElem?_eq_some_iff.mp g1).1
    exact⟨l,vs,i,i.toNat,v,rfl,rfl,hl,by lia,by lia,seqIndex_of hlt.1 (by lia),g1,q _ _ g2 (d1.erase _)⟩
end
end L2
namespace L2
open PySem PySem.Spec PyProof.Rows
inductive Fl where
  | nx (e:En)
  | bk (e:En)
  | ct (e:En)
  | rt (r:Rv) (e:En)
abbrev FS:=En→Option Fl
structure cL (W:List Nat) (σ:L2.St) (F H:Hp) (e:En) (σ':L2.St) (F' H':Hp) (e':En):Prop where
  sf:av F F'
  dom:∀a,H' a=none→H a=none
  fr:∀a vs,F a=none→H a=some (.lst vs)→¬cO σ e H a→F' a=none
  lst:∀a vs,H a=some (.lst vs)→∃vs',H' a=some (.lst vs')
  tmp:∀a o,H a=some o→¬cO σ e H a→H' a=some o
  own:∀a,cO σ' e' H' a→cO σ e H a∨H a=none
  wr:∀j,j∉W→σ'[j]?=σ[j]?
section
variable{K:PySem.W.Frag}{W W1 W2:List Nat}{σ σ1 σ2 σ':L2.St}{H0 F H F1 H1 F2 H2 F' H':Hp}{e e1 e2 e':En}
theorem cL.refl:cL W σ F H e σ F H e:=⟨av.refl _,fun _ h=>h,fun _ _ h _ _=>h,fun _ vs h=>⟨vs,h⟩,fun _ _ h _=>h,fun _ h=>.inl h,fun _ _=>rfl⟩
theorem cK.s(x:cK σ F H e F' H' e'):cL W σ F H e σ F' H' e':=⟨x.sf,x.dom,x.fr,x.lst,x.tmp,x.ow,fun _ _=>rfl⟩
theorem cL.trans(x:cL W σ F H e σ1 F1 H1 e1)(y:cL W σ1 F1 H1 e1 σ2 F2 H2 e2):cL W σ F H e σ2 F2 H2 e2:=
  ⟨x.sf.trans y.sf,fun a h=>x.dom a (y.dom a h),fun a vs h n no=>let ⟨vs',q⟩:=x.lst a vs n;y.fr a vs' (x.fr a vs h n no) q (fun z=>(x.own a z).elim no fun z=>by rw [n] at z;cases z),fun a vs h=>let ⟨vs',q⟩:=x.lst a vs h;y.lst a vs' q,
    fun a o h n=>y.tmp a o (x.tmp a o h n) (fun z=>(x.own a z).elim n fun z=>by rw [h] at z;cases z),
    fun a h=>(y.own a h).elim (x.own a) (fun z=>.inr (x.dom a z)),
    fun j h=>(y.wr j h).trans (x.wr j h)⟩
theorem cL.mono(x:cL W1 σ F H e σ' F' H' e')(h:∀j,j∈W1→j∈W):cL W σ F H e σ' F' H' e':=⟨x.sf,x.dom,x.fr,x.lst,x.tmp,x.own,fun j n=>x.wr j fun z=>n (h j z)⟩
end
def i9(K:PySem.W.Frag)(W:List Nat)(σ:L2.St)(F H:Hp)(e:En)(D:mN):Fl→Prop
  | .nx e'=>∀F' H' σ',cL W σ F H e σ' F' H' e'→aR K F' H' σ' e'→D.nx σ' H'
  | .bk e'=>∀F' H' σ',cL W σ F H e σ' F' H' e'→aR K F' H' σ' e'→D.bk σ' H'
  | .ct e'=>∀F' H' σ',cL W σ F H e σ' F' H' e'→aR K F' H' σ' e'→D.ct σ' H'
  | .rt r e'=>∀F' H' σ' v,cL W σ F H e σ' F' H' e'→aR K F' H' σ' e'→bL K σ' H F' H' e' r v→D.rt v H'
def fS(K:PySem.W.Frag)(f:FS)(W:List Nat):TS:=fun D σ H=>∃F e fl,aR K F H σ e∧f e=some fl∧i9 K W σ F H e D fl
theorem PS.mono{X:Cx}{st:Stmt}{t t':TS}(h:PS X st t)(m:∀D σ H,t' D σ H→t D σ H):PS X st t':=fun pins s σ H D I q=>h pins s σ H D I (m D σ H q)
theorem iJ.mono{X:Cx}{st:List Stmt}{t t':TS}(h:iJ X st t)(m:∀D σ H,t' D σ H→t D σ H):iJ X st t':=fun pins s σ H D I q=>h pins s σ H D I (m D σ H q)
theorem i9.later{K:PySem.W.Frag}{W W1 W2:List Nat}{σ σ1:L2.St}{F H F1 H1:Hp}{e e1:En}{D:mN}{fl:Fl}(h:i9 K W σ F H e D fl)(x:cL W1 σ F H e σ1 F1 H1 e1)(h1:∀j,j∈W1→j∈W)(h2:∀j,j∈W2→j∈W):i9 K W2 σ1 F1 H1 e1 D fl:=by
  cases fl with
  | nx e'=>exact fun F' H' σ' y R=>h F' H' σ' ((x.mono h1).trans (y.mono h2)) R
  | bk e'=>exact fun F' H' σ' y R=>h F' H' σ' ((x.mono h1).trans (y.mono h2)) R
  | ct e'=>exact fun F' H' σ' y R=>h F' H' σ' ((x.mono h1).trans (y.mono h2)) R
  | rt r e'=>exact fun F' H' σ' v y R A=>h F' H' σ' v ((x.mono h1).trans (y.mono h2)) R (A.weak x.dom)
section
variable{X:Cx}{K:PySem.W.Frag}{W W1 W2:List Nat}{st:Stmt}{dY:List Stmt}{f g:FS}{a b:Expr}{fa:FE}{ft:FT}{pos:Pos}
def dq:FS:=fun e=>some (.nx e)
def ay(f g:FS):FS:=fun e=>(f e).bind fun fl=>match fl with
  | .nx e1=>g e1
  | fl=>some fl
theorem aZ:iJ X [] (fS K dq []):=tY.mono fun D σ H h=>by
  obtain⟨F,e,fl,R,hf,q⟩:=h
  cases hf
  exact q F H σ cL.refl R
theorem af(h1:PS X st (fS K f W1))(h2:iJ X dY (fS K g W2)):iJ X (st::dY) (fS K (ay f g) (W1++W2)):=(rd h1 h2).mono fun D σ H h=>by
  obtain⟨F,e,fl,R,hf,q⟩:=h
  unfold ay at hf
  obtain⟨fl1,h1,hf⟩:=Option.bind_eq_some_iff.mp hf
  have s1:∀j,j∈W1→j∈W1++W2:=fun j h=>List.mem_append.mpr (.inl h)
  have s2:∀j,j∈W2→j∈W1++W2:=fun j h=>List.mem_append.mpr (.inr h)
  refine⟨F,e,fl1,R,h1,?_⟩
  cases fl1 with
  | nx e1=>exact fun F' H' σ' x R'=>⟨F',e1,fl,R',hf,q.later x s1 s2⟩
  | bk e1=>cases hf;exact fun F' H' σ' x R'=>q F' H' σ' (x.mono s1) R'
  | ct e1=>cases hf;exact fun F' H' σ' x R'=>q F' H' σ' (x.mono s1) R'
  | rt r e1=>cases hf;exact fun F' H' σ' v x R' A=>q F' H' σ' v (x.mono s1) R' A
theorem ai(h1:PS X st (fS K f W)):iJ X [st] (fS K f W):=tZ h1
def dc(fa:FE):FS:=fun e=>(fa e).map fun p=>.nx p.2
theorem bO(he:PE X a (fE K fa))(hs:swapsWith a none pos.line X.env=pure false):PS X (.Expr a pos) (fS K (dc fa) []):=(tX he hs).mono fun D σ H h=>by
  obtain⟨F,e,fl,R,hf,q⟩:=h
  obtain⟨⟨x,e1⟩,h1,hf⟩:=Option.map_eq_some_iff.mp hf
  cases hf
  exact⟨F,e,x,e1,R,h1,fun F1 H1 v X1 R1 A1=>q F1 H1 σ X1.s R1⟩
def bC(fa:FE):FS:=fun e=>(fa e).map fun p=>.rt p.1 p.2
theorem aI(he:PE X a (fE K fa)):PS X (.Return (some a) pos) (fS K (bC fa) []):=(wM he).mono fun D σ H h=>by
  obtain⟨F,e,fl,R,hf,q⟩:=h
  obtain⟨⟨x,e1⟩,h1,hf⟩:=Option.map_eq_some_iff.mp hf
  cases hf
  exact⟨F,e,x,e1,R,h1,fun F1 H1 v X1 R1 A1=>q F1 H1 σ v X1.s R1 A1⟩
def gh(ft:FT)(f g:FS):FS:=fun e=>(ft e).bind fun p=>if p.1=true then f p.2 else g p.2
theorem b5{c:Expr}{bs cs:List Stmt}(hc:PT X c (fT K ft))(ha:iJ X bs (fS K f W1))(hb:iJ X cs (fS K g W2)):PS X (.If c bs cs pos) (fS K (gh ft f g) (W1++W2)):=(yX hc ha hb).mono fun D σ H h=>by
  obtain⟨F,e,fl,R,hf,q⟩:=h
  unfold gh at hf
  obtain⟨⟨x,e1⟩,h1,hf⟩:=Option.bind_eq_some_iff.mp hf
  refine⟨F,e,x,e1,R,h1,fun F1 H1 X1 R1=>?_⟩
  cases x with
  | true=>exact⟨F1,e1,fl,R1,hf,q.later (W1:=[]) X1.s (fun j h=>by cases h) fun j h=>List.mem_append.mpr (.inl h)⟩
  | false=>exact⟨F1,e1,fl,R1,hf,q.later (W1:=[]) X1.s (fun j h=>by cases h) fun j h=>List.mem_append.mpr (.inr h)⟩
def ud(i:Nat)(r:Rv)(e:En):Option En:=match r with
  | .d x=>some (e.set i (some (.d x)))
  | .l xs=>some (e.set i (some (.l xs)))
  | .s _=>none
theorem rf{σ:L2.St}{H F H1 F1:Hp}{e e1 e2:En}{i:Nat}{r:Rv}{v:V}(R:aR K F H σ e)(X1:cK σ F H e F1 H1 e1)(R1:aR K F1 H1 σ e1)(A1:bL K σ H F1 H1 e1 r v)(h:ud i r e1=some e2):
    cL [i] σ F H e (σ.set i (some v)) F1 H1 e2∧aR K F1 H1 (σ.set i (some v)) e2:=by
  have wr:∀j,j∉[i]→(σ.set i (some v))[j]?=σ[j]?:=fun j n=>List.getElem?_set_ne (fun z=>n (by simp [z]))
  cases r with
  | d x=>
    cases h
    obtain⟨R2,o2⟩:=R1.setD i A1
    exact⟨⟨X1.sf,X1.dom,X1.fr,X1.lst,X1.tmp,fun a h=>X1.ow a (o2 a h),wr⟩,R2⟩
  | l xs=>
    cases h
    obtain⟨l,vs,rfl,h1,h2,h3,h4,h5⟩:=A1
    obtain⟨R2,o2⟩:=R1.setL i h2 h3 h4 h5
    refine⟨⟨X1.sf,X1.dom,X1.fr,X1.lst,X1.tmp,fun a h=>?_,wr⟩,R2⟩
    rcases o2 a h with z | z
    · exact X1.ow a z
    · exact .inr (by rw [z];exact h1)
  | s j=>cases h
def aO(i:Nat)(fa:FE):FS:=fun e=>(fa e).bind fun p=>(ud i p.1 p.2).map .nx
theorem am{i:Nat}{x:Str}{pos':Pos}(hN:X.N.Nodup)(hi:X.N[i]?=some x)(hx:xM X.env.scope x)(he:PE X a (fE K fa))(hs:swapsWith a (some (.Name x pos')) pos.line X.env=pure false)(hf:X.fn x=true∨X.env.scope.names.lookup x=some .local):
    PS X (.Assign [.Name x pos'] a pos) (fS K (aO i fa) [i]):=(wN hN hi hx he hs hf).mono fun D σ H h=>by
  obtain⟨F,e,fl,R,hf,q⟩:=h
  unfold aO at hf
  obtain⟨⟨r,e1⟩,h1,hf⟩:=Option.bind_eq_some_iff.mp hf
  obtain⟨e2,h2,hf⟩:=Option.map_eq_some_iff.mp hf
  cases hf
  refine⟨F,e,r,e1,R,h1,fun F1 H1 v X1 R1 A1=>?_⟩
  obtain⟨x,R2⟩:=rf R X1 R1 A1 h2
  exact q F1 H1 _ x R2
abbrev FG:=PyData→En→Option En
def fG(K:PySem.W.Frag)(g:FG)(W:List Nat):TG:=fun v σ H Q=>∃F e x e',aR K F H σ e∧DA K F x v∧g x e=some e'∧∀σ',cL W σ F H e σ' F H e'→aR K F H σ' e'→Q σ' H
abbrev uB:=List PyData→En→Option En
def zV(K:PySem.W.Frag)(g:uB)(W:List Nat):rY:=fun vs σ H Q=>∃F e xs e',aR K F H σ e∧aC K F xs vs∧g xs e=some e'∧∀σ',cL W σ F H e σ' F H e'→aR K F H σ' e'→Q σ' H
theorem PG.mono{tg:Expr}{t t':TG}(h:PG X tg t)(m:∀v σ H Q,t' v σ H Q→t v σ H Q):PG X tg t':=fun pins s σ H v u Q I r q=>h pins s σ H v u Q I r (m v σ H Q q)
theorem pL.mono{tg:List Expr}{t t':rY}(h:pL X tg t)(m:∀v σ H Q,t' v σ H Q→t v σ H Q):pL X tg t':=fun pins s σ H v u Q I r q=>h pins s σ H v u Q I r (m v σ H Q q)
def ag(i:Nat):FG:=fun x e=>some (e.set i (some (.d x)))
def cN:uB:=fun xs e=>match xs with
  | []=>some e
  | _=>none
def ar(g:FG)(gs:uB):uB:=fun xs e=>match xs with
  | x::r=>(g x e).bind fun e1=>gs r e1
  | _=>none
def du(gs:uB):FG:=fun x e=>match x with
  | .tuple xs=>gs xs e
  | _=>none
theorem ax{i:Nat}{x:Str}(hN:X.N.Nodup)(hi:X.N[i]?=some x)(hx:xM X.env.scope x)(hf:X.fn x=true∨X.env.scope.names.lookup x=some .local):PG X (.Name x pos) (fG K (ag i) [i]):=(tN hN hi hx hf).mono fun v σ H Q h=>by
  obtain⟨F,e,x,e',R,hx,hg,q⟩:=h
  cases hg
  obtain⟨R2,o2⟩:=R.setD i hx
  exact q _ ⟨av.refl _,fun _ h=>h,fun _ _ h _ _=>h,fun _ vs h=>⟨vs,h⟩,fun _ _ h _=>h,fun a h=>.inl (o2 a h),fun j n=>List.getElem?_set_ne (fun z=>n (by simp [z]))⟩ R2
theorem gS:pL X [] (zV K cN []):=tP.mono fun v σ H Q h=>by
  obtain⟨F,e,x,e',R,hx,hg,q⟩:=h
  unfold cN at hg
  split at hg
  · cases hg
    simp only [aC] at hx
    exact⟨hx,q σ cL.refl R⟩
  · cases hg
theorem ba{es:List Expr}{g1:FG}{gs:uB}(h1:PG X a (fG K g1 W1))(h2:pL X es (zV K gs W2))
    (hs:(assignEach (a::es) X.env).map (·.2)=assign a X.env::(assignEach es X.env).map (·.2)):pL X (a::es) (zV K (ar g1 gs) (W1++W2)):=(qU h1 h2 hs).mono fun v σ H Q h=>by
  obtain⟨F,e,xs,e',R,hx,hg,q⟩:=h
  unfold ar at hg
  match xs,hg,hx with
  | x::r,hg,hx=>
    simp only [aC] at hx
    obtain⟨w,ws,e1,hw,hr⟩:=hx
    dsimp only at hg
    obtain⟨e1',h3,h4⟩:=Option.bind_eq_some_iff.mp hg
    refine⟨w,ws,e1,F,e,x,e1',R,hw,h3,fun σ1 x1 R1=>⟨F,e1',r,e',R1,hr,h4,fun σ2 x2 R2=>?_⟩⟩
    exact q σ2 ((x1.mono fun j h=>List.mem_append.mpr (.inl h)).trans (x2.mono fun j h=>List.mem_append.mpr (.inr h))) R2
theorem jp{es:List Expr}{k n:Nat}{gs:uB}(hK:X.K=K)(hc:X.calm=true)(h:pL X es (zV K gs W))(hl:∀xs e e',gs xs e=some e'→xs.length=n)(hn:(assignEach es X.env).length=n)(hst:(assignEach es X.env).findIdx? (·.1)=none):PG X (.Tuple es k pos) (fG K (du gs) W):=(tO hK hc h hn hst).mono fun v σ H Q h=>by
  obtain⟨F,e,x,e',R,hx,hg,q⟩:=h
  unfold du at hg
  match x,hg,hx with
  | .tuple xs,hg,hx=>
    obtain⟨p,vs,e1,e2,e3⟩:=cE.mp hx
    exact⟨p,vs,e1,R.sm.tup e2,by rw [←e3.len];exact hl xs e e' hg,F,e,xs,e',R,e3,hg,q⟩
theorem jc(xs:List PyData)(e e':En)(h:cN xs e=some e'):xs.length=0:=by
  unfold cN at h
  split at h
  · rfl
  · cases h
theorem bw{g:FG}{gs:uB}{n:Nat}(hl:∀xs e e',gs xs e=some e'→xs.length=n)(xs:List PyData)(e e':En)(h:ar g gs xs e=some e'):xs.length=n+1:=by
  unfold ar at h
  match xs,h with
  | x::r,h=>
    obtain⟨e1,h3,h4⟩:=Option.bind_eq_some_iff.mp h
    simp [hl r e1 e' h4]
def pw(fa:FE)(g:FG):FS:=fun e=>(fa e).bind fun p=>match p.1 with
  | .d x=>(g x p.2).map .nx
  | _=>none
theorem rp{tg:Expr}{g:FG}(he:PE X a (fE K fa))(hg:PG X tg (fG K g W))(hs:swapsWithSole [tg] a pos.line X.env=pure false)(hw:swappedStores [tg] a X.env=pure none)
    (h1:(assignEach [tg] X.env).map (·.2)=[assign tg X.env]):PS X (.Assign [tg] a pos) (fS K (pw fa g) W):=(q_ he hg hs hw h1).mono fun D σ H h=>by
  obtain⟨F,e,fl,R,hf,q⟩:=h
  unfold pw at hf
  obtain⟨⟨r,e1⟩,h1,hf⟩:=Option.bind_eq_some_iff.mp hf
  match r,h1,hf with
  | .d x,h1,hf=>
    obtain⟨e2,h2,hf⟩:=Option.map_eq_some_iff.mp hf
    cases hf
    exact⟨F,e,_,e1,R,h1,fun F1 H1 v X1 R1 A1=>⟨F1,e1,x,e2,R1,A1,h2,fun σ' x2 R2=>q F1 H1 σ' (X1.s.trans x2) R2⟩⟩
def rH(i j:Nat)(fs:FA):FS:=fun e=>(fs e).bind fun p=>match p.1 with
  | [.d x,.d y]=>some (.nx ((p.2.set i (some (.d x))).set j (some (.d y))))
  | _=>none
theorem wY{i j:Nat}{x y:Str}{fs:FA}{px py pt:Pos}{kt k2 pt2}(hc:X.calm=true)(hN:X.N.Nodup)(hi:X.N[i]?=some x)(hj:X.N[j]?=some y)(hij:i≠j)
    (hx:X.env.scope.names.lookup x=some .local)(hy:X.env.scope.names.lookup y=some .local)(ha:PA X [a,b] (fA K fs))
    (hw:swappedStores [.Tuple [.Name x px,.Name y py] kt pt] (.Tuple [a,b] k2 pt2) X.env=pure (some [x,y]))
    (hs:swapsWithSole [.Tuple [.Name x px,.Name y py] kt pt] (.Tuple [a,b] k2 pt2) pos.line X.env=pure false):
    PS X (.Assign [.Tuple [.Name x px,.Name y py] kt pt] (.Tuple [a,b] k2 pt2) pos) (fS K (rH i j fs) [i,j]):=(wL hc hN hi hj hij hx hy ha hw hs).mono fun D σ H h=>by
  obtain⟨F,e,fl,R,hf,q⟩:=h
  unfold rH at hf
  obtain⟨⟨rs,e1⟩,h1,hf⟩:=Option.bind_eq_some_iff.mp hf
  refine⟨F,e,rs,e1,R,h1,fun F1 H1 vs X1 R1 A1=>?_⟩
  match rs,hf,A1 with
  | [.d x,.d y],hf,A1=>
    cases hf
    obtain⟨v,u,rfl,a1,a2⟩:=ox A1
    obtain⟨R2,o2⟩:=R1.setD i a1
    obtain⟨R3,o3⟩:=R2.setD j a2
    refine⟨v,u,rfl,q F1 H1 _ ⟨X1.sf,X1.dom,X1.fr,X1.lst,X1.tmp,fun a h=>X1.ow a (o2 a (o3 a h)),fun m n=>?_⟩ R3⟩
    rw [List.getElem?_set_ne (fun z=>n (by simp [z])),List.getElem?_set_ne (fun z=>n (by simp [z]))]
def lA:Rv→Option PyData
  | .d x=>some x
  | .l xs=>some (.list xs)
  | .s _=>none
theorem jV{r:Rv}{d:PyData}(h:lA r=some d):gE [r]=some [d]:=by
  cases r with
  | d x=>cases h;rfl
  | l xs=>cases h;rfl
  | s i=>cases h
def jx(e:En):Rv→Option (Nat × List PyData)
  | .s n=>match e[n]? with
    | some (some (.l xs))=>some (n,xs)
    | _=>none
  | _=>none
theorem pB{e:En}{r:Rv}{n:Nat}{xs:List PyData}(h:jx e r=some (n,xs)):r=.s n∧e[n]?=some (some (.l xs)):=by
  unfold jx at h
  split at h
  · split at h
    · rename_i heq
      cases h;exact⟨rfl,heq⟩
    · cases h
  · cases h
def pz(fa fo fi:FE):FS:=fun e=>(fa e).bind fun p=>(lA p.1).bind fun d=>(fo p.2).bind fun o=>(fi o.2).bind fun i=>(bM i.1).bind fun k=>(jx i.2 o.1).bind fun s=>(qr s.2.length k).map fun j=>.nx (i.2.set s.1 (some (.l (s.2.set j d))))
theorem rq{o i:Expr}{fo fi:FE}{ps:Pos}(he:PE X a (fE K fa))(ho:PE X o (fE K fo))(hi:PE X i (fE K fi))
    (ha:∀v,assign (.Subscript o i ps) X.env v=(do
      let ov ←holding [v] (eval o X.env)
      let iv ←holding [v,ov] (eval i X.env)
      standAt ps
      holding [v,ov,iv] (setItem ov iv v)
      release [v,ov,iv] []))
    (hs:swapsWithSole [.Subscript o i ps] a pos.line X.env=pure false)(hw:swappedStores [.Subscript o i ps] a X.env=pure none)
    (h1:(assignEach [.Subscript o i ps] X.env).map (·.2)=[assign (.Subscript o i ps) X.env]):PS X (.Assign [.Subscript o i ps] a pos) (fS K (pz fa fo fi) []):=(q_ he (wG ho hi rP ha) hs hw h1).mono fun D σ H h=>by
  obtain⟨F,e,fl,R,hf,q⟩:=h
  unfold pz at hf
  obtain⟨⟨r,e1⟩,g1,hf⟩:=Option.bind_eq_some_iff.mp hf
  obtain⟨d,g2,hf⟩:=Option.bind_eq_some_iff.mp hf
  obtain⟨⟨ro,e2⟩,g3,hf⟩:=Option.bind_eq_some_iff.mp hf
  obtain⟨⟨ri,e3⟩,g4,hf⟩:=Option.bind_eq_some_iff.mp hf
  obtain⟨k,g5,hf⟩:=Option.bind_eq_some_iff.mp hf
  obtain⟨⟨n,xs⟩,g6,hf⟩:=Option.bind_eq_some_iff.mp hf
  obtain⟨j,g7,hf⟩:=Option.map_eq_some_iff.mp hf
  cases hf
  obtain⟨z6,g6'⟩:=pB g6
  dsimp only at z6 g6'
  subst z6
  refine⟨F,e,r,e1,R,g1,fun F1 H1 v X1 R1 A1=>?_⟩
  refine⟨F1,e1,_,e2,R1,g3,fun F2 H2 u X2 R2 A2=>⟨F2,e2,ri,e3,R2,g4,fun F3 H3 w X3 R3 A3=>?_⟩⟩
  have X12:=X1.trans X2
  have X13:=X12.trans X3
  have A1':=(A1.ext X2).ext X3
  obtain⟨F4,R4,s4,d4,f4⟩:=cC.frozen R3 (rs:=[r]) (vs:=[v]) ⟨v,[],rfl,A1',rfl⟩ (jV g2)
  obtain⟨h1,_⟩:=A2
  obtain⟨l,vs,k1,k2,k3,k4⟩:=R4.own n xs g6'
  rw [h1] at k1;cases k1
  simp only [aC] at d4
  obtain⟨v',r',e',hv,_⟩:=d4
  cases e'
  refine⟨l,vs,k,j,rfl,bG A3 g5,k3,by rw [←k4.len];exact g7,?_⟩
  obtain⟨R5,X5⟩:=R4.putL g6' h1 (k4.set hv j)
  exact q _ _ σ ((X13.frz s4 f4).trans X5).s R5
def b_(ft:FT)(f:FS):Nat→FS
  | 0,_=>none
  | n+1,e=>(ft e).bind fun p=>if p.1=true then(f p.2).bind fun fl=>match fl with
      | .nx e1=>b_ ft f n e1
      | .ct e1=>b_ ft f n e1
      | .bk e1=>some (.nx e1)
      | .rt r e1=>some (.rt r e1)
    else some (.nx p.2)
def gj(n:Nat)(ft:FT)(f:FS):FS:=b_ ft f n
theorem jq{n:Nat}{c:Expr}{body:List Stmt}(hp:PassesOwn (model X.prog X.w) X.A X.env X.xe)(hc:PT X c (fT K ft))(hb:iJ X body (fS K f W)):PS X (.While c body [] pos) (fS K (gj n ft f) W):=(rc hp hc hb).mono fun D σ H h=>by
  refine⟨fun m σ H=>∃F e fl,aR K F H σ e∧b_ ft f m e=some fl∧i9 K W σ F H e D fl,⟨n,h⟩,?_⟩
  rintro m σ H ⟨F,e,fl,R,hf,q⟩
  cases m with
  | zero=>cases hf
  | succ m=>
    unfold b_ at hf
    obtain⟨⟨x,e1⟩,h1,hf⟩:=Option.bind_eq_some_iff.mp hf
    refine⟨F,e,x,e1,R,h1,fun F1 H1 X1 R1=>?_⟩
    have sub:∀j,j∈([]:List Nat)→j∈W:=fun j h=>by cases h
    cases x with
    | false=>
      rw [if_neg (by simp)] at hf
      cases hf
      exact yy (q F1 H1 σ X1.s R1)
    | true=>
      rw [if_pos rfl] at hf
      refine yz ?_
      obtain⟨fl1,h2,hf⟩:=Option.bind_eq_some_iff.mp hf
      have q1:i9 K W σ F1 H1 e1 D fl:=q.later (W1:=[]) X1.s sub fun j h=>h
      refine⟨fun σ' H'=>∃F' e',aR K F' H' σ' e'∧b_ ft f m e'=some fl∧i9 K W σ' F' H' e' D fl,fun σ' H' ⟨F',e',r1,r2,r3⟩=>⟨m,Nat.lt_succ_self m,F',e',fl,r1,r2,r3⟩,F1,e1,fl1,R1,h2,?_⟩
      cases fl1 with
      | nx e2=>exact fun F2 H2 σ2 x R2=>⟨F2,e2,R2,hf,q1.later x (fun j h=>h) fun j h=>h⟩
      | ct e2=>exact fun F2 H2 σ2 x R2=>⟨F2,e2,R2,hf,q1.later x (fun j h=>h) fun j h=>h⟩
      | bk e2=>cases hf;exact fun F2 H2 σ2 x R2=>q1 F2 H2 σ2 x R2
      | rt r e2=>cases hf;exact fun F2 H2 σ2 v x R2 A=>q1 F2 H2 σ2 v x R2 A
end
end L2
namespace L2
open PySem PySem.Spec PyProof.Rows
theorem PI.mono{X:Cx}{tg iter:Expr}{t t':TI}(h:PI X tg iter t)(m:∀σ H R,t' σ H R→t σ H R):PI X tg iter t':=fun pins s σ H R I q=>h pins s σ H R I (m σ H R q)
theorem PI.or{X:Cx}{tg iter:Expr}{t t':TI}(h:PI X tg iter t)(h':PI X tg iter t'):PI X tg iter (fun σ H R=>t σ H R∨t' σ H R):=fun pins s σ H R I q=>by
  rcases q with q | q
  · exact h pins s σ H R I q
  · exact h' pins s σ H R I q
abbrev eK:=List (Nat × List PyData)
def pM(K:PySem.W.Frag)(σ:L2.St)(F H:Hp)(own:eK):Prop:=∀p∈own,∃l vs,σ[p.1]?=some (some (.ref l))∧H l=some (.lst vs)∧aC K F p.2 vs
def se(K:PySem.W.Frag)(σ:L2.St)(J:It)(items:List PyData)(own:eK)(F0:Hp):Prop:=∀F H,av F0 F→av F H→pM K σ F H own→
  (∀i,i < items.length→J.go i H)∧(∀i,items.length≤i→J.stop i H)∧∀i d x H',items[i]?=some d→J.yld i H x H'→∃F',av H H'∧av F F'∧av F' H'∧(∀a,F a=none→H a≠none→F' a=none)∧DA K F' d x
abbrev FI:=En→Option (List PyData × eK × En)
def keeps(own:eK)(e:En):Prop:=∀p∈own,e[p.1]?=some (some (.l p.2))
def fI(K:PySem.W.Frag)(f:FI):TI:=fun σ H R=>∃F e items own e',aR K F H σ e∧f e=some (items,own,e')∧∀J F' H',cK σ F H e F' H' e'→aR K F' H' σ e'→keeps own e'→se K σ J items own F'→R J H'
section
variable{K:PySem.W.Frag}{σ:L2.St}{H0 F H F' H':Hp}{e e':En}
theorem aR.held(R:aR K F H σ e){own:eK}(h:keeps own e):pM K σ F H own:=fun p hp=>by
  obtain⟨l,vs,h1,h2,h3,h4⟩:=R.own p.1 p.2 (h p hp)
  exact⟨l,vs,h1,h3,h4⟩
theorem aR.step(R:aR K F H σ e)(s:av H H')(sF:av F F')(sm:av F' H')(fz:∀a,F a=none→H a≠none→F' a=none):aR K F' H' σ e∧cK σ F H e F' H' e:=by
  obtain⟨R',o'⟩:=R.keep sF sm (fun a ⟨i,h⟩=>by
    obtain⟨h1,vs,h2⟩:=R.fpAt h
    exact fz a h1 (by rw [h2];simp)) fun a o _ h=>s a o h
  exact⟨R',⟨sF,fun a h=>s.free h,fun a vs h1 h2 _=>fz a h1 (by rw [h2];simp),fun a vs h=>⟨vs,s _ _ h⟩,fun a o h _=>s a o h,fun _=>Iff.rfl,fun a h=>.inl ((o' a).mp h)⟩⟩
inductive uC (K:PySem.W.Frag) (σ:L2.St) (F:Hp) (p:Addr):Bool→List PyData→eK→Prop
  | tup {xs vs}:dg K F p vs→aC K F xs vs→uC K σ F p false xs []
  | lst {xs vs}:ef K F p vs→aC K F xs vs→uC K σ F p true xs []
  | own {i xs}:σ[i]?=some (some (.ref p))→uC K σ F p true xs [(i,xs)]
theorem uC.at{p:Addr}{b:Bool}{xs:List PyData}{own:eK}{F0:Hp}(h:uC K σ F0 p b xs own)(s0:av F0 F)(s1:av F H){own':eK}(hh:pM K σ F H own')(hs:∀q∈own,q∈own'):∃vs,aC K F xs vs∧(if b=true then ef K H p vs else dg K H p vs):=by
  cases h with
  | tup h1 h2=>exact⟨_,h2.mono s0,(s0.trans s1).tup h1⟩
  | lst h1 h2=>exact⟨_,h2.mono s0,(s0.trans s1).seq h1⟩
  | @own i xs h1=>
    obtain⟨l,vs,g1,g2,g3⟩:=hh (i,xs) (hs (i,xs) (by simp))
    dsimp only at g1 g3
    rw [h1] at g1;cases g1
    exact⟨vs,g3,.inl (.inl g2)⟩
def xn(e:En):Rv→Option (Bool × List PyData × eK)
  | .d (.tuple xs)=>some (false,xs,[])
  | .d (.list xs)=>some (true,xs,[])
  | .l xs=>some (true,xs,[])
  | .s i=>match e[i]? with
    | some (some (.l xs))=>some (true,xs,[(i,xs)])
    | _=>none
  | _=>none
theorem oC{r:Rv}{v:V}{b:Bool}{xs:List PyData}{own:eK}(R:aR K F H σ e)(A:bL K σ H0 F H e r v)(h:xn e r=some (b,xs,own)):
    ∃F' p,aR K F' H σ e∧av F F'∧(∀a,F a=none→H0 a≠none→F' a=none)∧v=.ref p∧uC K σ F' p b xs own∧keeps own e:=by
  cases r with
  | d x=>
    cases x with
    | tuple ds=>
      cases h
      obtain⟨a,ys,e1,e2,e3⟩:=cE.mp A
      exact⟨F,a,R,av.refl _,fun _ h _=>h,e1,.tup e2 e3,fun p hp=>by cases hp⟩
    | list ds=>
      cases h
      obtain⟨a,ys,e1,e2,e3⟩:=dh.mp A
      exact⟨F,a,R,av.refl _,fun _ h _=>h,e1,.lst e2 e3,fun p hp=>by cases hp⟩
    | _=>cases h
  | l ys=>
    cases h
    obtain⟨F',R',s',d',f'⟩:=A.frozen R
    obtain⟨a,ys,e1,e2,e3⟩:=dh.mp d'
    exact⟨F',a,R',s',f',e1,.lst e2 e3,fun p hp=>by cases hp⟩
  | s i=>
    obtain⟨h1,ys,h2⟩:=A
    simp only [xn,h2] at h
    cases h
    obtain⟨l,vs,e1,e2,e3,e4⟩:=R.own i _ h2
    rw [h1] at e1;cases e1
    exact⟨F,l,R,av.refl _,fun _ h _=>h,rfl,.own h1,fun p hp=>by simp only [List.mem_singleton] at hp;subst hp;exact h2⟩
theorem oY{p:Addr}{xs:List PyData}{own:eK}{F0:Hp}(h:uC K σ F0 p true xs own):se K σ (z5 K p) xs own F0:=by
  intro F H s0 s1 hh
  obtain⟨vs,d,q⟩:=h.at s0 s1 hh fun _ h=>h
  have q:ef K H p vs:=q
  refine⟨fun i hi=>⟨vs,vs[i]'(by rw [←d.len];exact hi),q,List.getElem?_eq_getElem _⟩,fun i hi=>⟨vs,q,by rw [←d.len];exact hi⟩,fun i x v H' hx hy=>?_⟩
  obtain⟨rfl,hy⟩:=hy
  obtain⟨w,g1,g2⟩:=d.get hx
  have e:=hy vs q
  rw [g1] at e;cases e
  exact⟨F,av.refl _,av.refl _,s1,fun _ h _=>h,g2⟩
theorem qq{p:Addr}{xs:List PyData}{own:eK}{F0:Hp}(h:uC K σ F0 p false xs own):se K σ (z7 K p) xs own F0:=by
  intro F H s0 s1 hh
  obtain⟨vs,d,q⟩:=h.at s0 s1 hh fun _ h=>h
  have q:dg K H p vs:=q
  refine⟨fun i hi=>⟨vs,vs[i]'(by rw [←d.len];exact hi),q,List.getElem?_eq_getElem _⟩,fun i hi=>⟨vs,q,by rw [←d.len];exact hi⟩,fun i x v H' hx hy=>?_⟩
  obtain⟨rfl,hy⟩:=hy
  obtain⟨w,g1,g2⟩:=d.get hx
  have e:=hy vs q
  rw [g1] at e;cases e
  exact⟨F,av.refl _,av.refl _,s1,fun _ h _=>h,g2⟩
def aL(lo:Int)(n:Nat):List PyData:=(List.range n).map fun(i:Nat)=>.int (lo+(i:Int))
theorem mZ{lo:Int}{n:Nat}{F0:Hp}:se K σ (zN lo n) (aL lo n) [] F0:=by
  intro F H s0 s1 hh
  unfold aL
  rw [List.length_map,List.length_range]
  refine⟨fun i hi=>hi,fun i hi=>hi,fun i x v H' hx hy=>?_⟩
  obtain⟨rfl,rfl⟩:=hy
  rw [List.getElem?_map] at hx
  obtain⟨k,h1,rfl⟩:=Option.map_eq_some_iff.mp hx
  have h2:=(List.getElem?_eq_some_iff.mp h1).2
  simp at h2
  subst h2
  exact⟨F,av.refl _,av.refl _,s1,fun _ h _=>h,cj.mpr rfl⟩
end
inductive z0 (K:PySem.W.Frag) (own:eK) (σ0:L2.St) (F1:Hp) (P:En→Prop) (G:L2.St→Hp→Hp→En→Prop) (σ:L2.St) (H:Hp):Prop
  | mk {F:Hp} {e:En} (R:aR K F H σ e) (kp:keeps own e) (hσ:∀p∈own,σ[p.1]?=σ0[p.1]?) (sF:av F1 F) (hf:P e) (q:G σ F H e):z0 K own σ0 F1 P G σ H
section
variable{X:Cx}{K:PySem.W.Frag}{tg a b:Expr}{es:List Expr}{fa:FE}{fs:FA}{pos p tp:Pos}{k0:Nat}
def eJ(fa:FE):FI:=fun e=>(fa e).bind fun p=>(xn p.2 p.1).map fun s=>(s.2.1,s.2.2,p.2)
theorem dk(hK:X.K=K)(h:PE X a (fE K fa)):PI X tg a (fI K (eJ fa)):=((qV (tg:=tg) hK h).or (tR (tg:=tg) hK h)).mono fun σ H R hh=>by
  obtain⟨F,e,items,own,e',R0,hf,q⟩:=hh
  unfold eJ at hf
  obtain⟨⟨r,e1⟩,h1,hf⟩:=Option.bind_eq_some_iff.mp hf
  obtain⟨⟨b,xs,ow⟩,h2,hf⟩:=Option.map_eq_some_iff.mp hf
  cases hf
  cases b with
  | true=>
    refine .inl ⟨F,e,r,e1,R0,h1,fun F1 H1 v X1 R1 A1=>?_⟩
    obtain⟨F2,p,R2,s2,f2,rfl,sc,kp⟩:=oC R1 A1 h2
    obtain⟨vs,_,c⟩:=sc.at (av.refl _) R2.sm (R2.held kp) fun _ h=>h
    exact⟨p,rfl,⟨vs,c⟩,q _ F2 H1 (X1.frz s2 f2) R2 kp (oY sc)⟩
  | false=>
    refine .inr ⟨F,e,r,e1,R0,h1,fun F1 H1 v X1 R1 A1=>?_⟩
    obtain⟨F2,p,R2,s2,f2,rfl,sc,kp⟩:=oC R1 A1 h2
    obtain⟨vs,_,c⟩:=sc.at (av.refl _) R2.sm (R2.held kp) fun _ h=>h
    exact⟨p,rfl,⟨vs,c⟩,q _ F2 H1 (X1.frz s2 f2) R2 kp (qq sc)⟩
def rF(j:Int):Bool:=decide (-1000000≤j)&&decide (j≤1000000)
theorem rG{j:Int}(h:rF j=true): -1000000≤j∧j≤1000000:=by
  unfold rF at h
  rw [Bool.and_eq_true,decide_eq_true_iff,decide_eq_true_iff] at h
  exact h
def bx(fs:FA):FI:=fun e=>(fs e).bind fun p=>match p.1 with
  | [r]=>(bM r).bind fun j=>if rF j=true then some (aL 0 j.toNat,[],p.2) else none
  | _=>none
theorem bj(hg:Gl X "range")(hm:X.mg "range"=none)(ha:PA X [a] (fA K fs))(hs:starEach [a] X.env=[(false,eval a X.env)]):PI X tg (.Call (.Name "range" p) [a] [] pos) (fI K (bx fs)):=(pj hg hm ha hs).mono fun σ H R hh=>by
  obtain⟨F,e,items,own,e',R0,hf,q⟩:=hh
  unfold bx at hf
  obtain⟨⟨rs,e1⟩,h1,hf⟩:=Option.bind_eq_some_iff.mp hf
  match rs,h1,hf with
  | [r],h1,hf=>
  obtain⟨j,h2,hf⟩:=Option.bind_eq_some_iff.mp hf
  split at hf
  case isFalse=>cases hf
  case isTrue hj=>
  cases hf
  refine⟨F,e,_,e1,R0,h1,fun F1 H1 vs X1 R1 A1=>?_⟩
  obtain⟨v,rfl,A2⟩:=iU A1
  have:=rG hj
  exact⟨j,by rw [bG A2 h2],by lia,by lia,q _ F1 H1 X1 R1 (fun _ h=>by cases h) mZ⟩
open Classical in
noncomputable def fF(own:eK)(g:FG)(f:FS):List PyData→FS
  | [],e=>some (.nx e)
  | x::r,e=>(g x e).bind fun e1=>(f e1).bind fun fl=>match fl with
    | .nx e2=>if keeps own e2 then fF own g f r e2 else none
    | .ct e2=>if keeps own e2 then fF own g f r e2 else none
    | .bk e2=>some (.nx e2)
    | .rt v e2=>some (.rt v e2)
noncomputable def bS(W:List Nat)(fi:FI)(g:FG)(f:FS):FS:=fun e=>(fi e).bind fun p=>if (p.2.1.all fun q=> !W.contains q.1)=true then fF p.2.1 g f p.1 p.2.2 else none
theorem cq{W1 W2:List Nat}{iter:Expr}{body:List Stmt}{fi:FI}{g:FG}{f:FS}(hp:PassesOwn (model X.prog X.w) X.A X.env X.xe)(hc:X.calm=true)(hi:PI X tg iter (fI K fi))(hg:PG X tg (fG K g W1))(hb:iJ X body (fS K f W2))(hs:∀x,foldedSetIterable iter X.env x=pure x):
    PS X (.For tg iter body [] pos) (fS K (bS (W1++W2) fi g f) (W1++W2)):=(wK hp hc hi hg hb hs).mono fun D σ0 H0 hh=>by
  obtain⟨F0,e0,fl,R0,hf,q0⟩:=hh
  unfold bS at hf
  obtain⟨⟨items,own,e1⟩,h1,hf⟩:=Option.bind_eq_some_iff.mp hf
  dsimp only at hf
  split at hf
  case isFalse=>cases hf
  case isTrue hW=>
  have hW':∀p∈own,p.1∉W1++W2:=fun p hp=>by
    have:=List.all_eq_true.mp hW p hp
    simpa using this
  refine⟨F0,e0,items,own,e1,R0,h1,fun J F1 H1 X1 R1 kp ok=>?_⟩
  have s1:∀j,j∈W1→j∈W1++W2:=fun j h=>List.mem_append.mpr (.inl h)
  have s2:∀j,j∈W2→j∈W1++W2:=fun j h=>List.mem_append.mpr (.inr h)
  have q1:i9 K (W1++W2) σ0 F1 H1 e1 D fl:=q0.later (W1:=[]) X1.s (fun j h=>by cases h) fun j h=>h
  refine⟨fun i m σ H=>m=items.length - i∧i≤items.length∧z0 K own σ0 F1 (fun e=>fF own g f (items.drop i) e=some fl) (fun σ F H e=>i9 K (W1++W2) σ F H e D fl) σ H,
    ⟨items.length,by simp,Nat.zero_le _,.mk R1 kp (fun _ _=>rfl) (av.refl _) hf q1⟩,?_⟩
  rintro i m σ H ⟨rfl,hi,⟨R,kp,hσ,sF,hf,q⟩⟩
  rename_i F e
  have held:pM K σ0 F H own:=fun p hp=>by
    obtain⟨l,vs,g1,g2⟩:=R.held kp p hp
    exact⟨l,vs,by rw [←hσ p hp];exact g1,g2⟩
  obtain⟨go,stop,yld⟩:=ok F H sF R.sm held
  by_cases hlt:i < items.length
  · have hd:items.drop i=items[i]::items.drop (i+1):=List.drop_eq_getElem_cons hlt
    rw [hd] at hf
    unfold fF at hf
    obtain⟨e2,h2,hf⟩:=Option.bind_eq_some_iff.mp hf
    obtain⟨fl2,h3,hf⟩:=Option.bind_eq_some_iff.mp hf
    refine .inr ⟨go i hlt,z0 K own σ0 F1 (fun e=>fF own g f (items.drop (i+1)) e=some fl) (fun σ F H e=>i9 K (W1++W2) σ F H e D fl),
      fun σ' H' r=>⟨items.length - (i+1),by lia,rfl,hlt,r⟩,fun x H' hy=>?_⟩
    obtain⟨F',sH,sF',sm',fz,hx⟩:=yld i items[i] x H' (List.getElem?_eq_getElem hlt) hy
    obtain⟨R',X'⟩:=R.step sH sF' sm' fz
    refine⟨F',e,items[i],e2,R',hx,h2,fun σ2 x2 R2=>⟨F',e2,fl2,R2,h3,?_⟩⟩
    have q2:i9 K (W1++W2) σ2 F' H' e2 D fl:=(q.later (W1:=[]) (W2:=W1++W2) X'.s (fun j h=>by cases h) fun j h=>h).later x2 s1 fun j h=>h
    have w2:∀p∈own,σ2[p.1]?=σ0[p.1]?:=fun p hp=>(x2.wr p.1 fun z=>hW' p hp (s1 _ z)).trans (hσ p hp)
    cases fl2 with
    | nx e3=>
      intro F3 H3 σ3 x3 R3
      dsimp only at hf
      split at hf
      case isFalse=>cases hf
      case isTrue kp3=>
      exact .mk R3 kp3 (fun p hp=>(x3.wr p.1 fun z=>hW' p hp (s2 _ z)).trans (w2 p hp)) (sF.trans (sF'.trans x3.sf)) hf (q2.later x3 s2 fun j h=>h)
    | ct e3=>
      intro F3 H3 σ3 x3 R3
      dsimp only at hf
      split at hf
      case isFalse=>cases hf
      case isTrue kp3=>
      exact .mk R3 kp3 (fun p hp=>(x3.wr p.1 fun z=>hW' p hp (s2 _ z)).trans (w2 p hp)) (sF.trans (sF'.trans x3.sf)) hf (q2.later x3 s2 fun j h=>h)
    | bk e3=>
      cases hf
      exact fun F3 H3 σ3 x3 R3=>q2 F3 H3 σ3 (x3.mono s2) R3
    | rt r e3=>
      cases hf
      exact fun F3 H3 σ3 v x3 R3 A3=>q2 F3 H3 σ3 v (x3.mono s2) R3 A3
  · have hd:items.drop i=[]:=List.drop_eq_nil_of_le (by lia)
    rw [hd] at hf
    cases hf
    exact .inl ⟨stop i (by lia),q F H σ cL.refl R⟩
end
end L2
namespace L2
open PySem PySem.Spec PyProof.Rows
def rZ:Option (Option Sv)→Bool
  | some (some (.l _))=>true
  | _=>false
theorem sJ{s:Option (Option Sv)}:rZ s=true↔ ∃xs,s=some (some (.l xs)):=by
  unfold rZ
  split
  · simp
  · rename_i h
    constructor
    · intro z;cases z
    · rintro⟨xs,rfl⟩;exact absurd rfl (h xs)
def iP(pos:Nat→Option Nat)(ei e:En):En:=e.mapIdx fun i s=>match s with
  | some (.l xs)=>match pos i with
    | some k=>(ei[k]?).join
    | none=>some (.l xs)
  | s=>s
theorem bI{pos:Nat→Option Nat}{ei e:En}{i:Nat}:(iP pos ei e)[i]?=(e[i]?).map fun s=>match s with
  | some (.l xs)=>match pos i with
    | some k=>(ei[k]?).join
    | none=>some (.l xs)
  | s=>s:=by unfold iP;rw [List.getElem?_mapIdx]
structure lr (σ:L2.St) (e:En) (σi:L2.St) (ei:En) (pos:Nat→Option Nat):Prop where
  a:∀(i k:Nat) (xs:List PyData),e[i]?=some (some (.l xs))→pos i=some k→σi[k]?=σ[i]?
  b:∀(k:Nat) (ys:List PyData),ei[k]?=some (some (.l ys))→∃(i:Nat) (xs:List PyData),e[i]?=some (some (.l xs))∧pos i=some k∧σi[k]?=σ[i]?
section
variable{K:PySem.W.Frag}{σ σi σi':L2.St}{F H F' H':Hp}{e ei ei':En}{pos:Nat→Option Nat}
def xP(e:En):Prop:=∀(i:Nat) (xss:List (List PyData)),e[i]?≠some (some (.n xss))
theorem lr.own(s:lr σ e σi ei pos)(hn:xP ei){a:Addr}{H H':Hp}(h:cO σi ei H a):∃(i k:Nat) (xs:List PyData),e[i]?=some (some (.l xs))∧pos i=some k∧σ[i]?=some (some (.ref a)):=by
  obtain⟨k,⟨ys,h1,h2⟩ | ⟨xss,_,_,h1,_⟩⟩:=h
  · obtain⟨i,xs,g1,g2,g3⟩:=s.b k ys h1
    exact⟨i,k,xs,g1,g2,by rw [←g3];exact h2⟩
  · exact absurd h1 (hn k xss)
theorem mz(R:aR K F H σ e)(s:lr σ e σi ei pos)(hnn:xP ei)(sf:av F F')(dom:∀a,H' a=none→H a=none)(fr:∀a vs,F a=none→H a=some (.lst vs)→¬cO σi ei H a→F' a=none)(lst:∀a vs,H a=some (.lst vs)→∃vs',H' a=some (.lst vs'))
    (tmp:∀a o,H a=some o→¬cO σi ei H a→H' a=some o)(R':aR K F' H' σi' ei')(hσ:∀(i k:Nat) (xs:List PyData),e[i]?=some (some (.l xs))→pos i=some k→σi'[k]?=σi[k]?)(hsh:∀(i k:Nat) (xs:List PyData),e[i]?=some (some (.l xs))→pos i=some k→∃ys,ei'[k]?=some (some (.l ys))):
    aR K F' H' σ (iP pos ei' e)∧cK σ F H e F' H' (iP pos ei' e)∧∀a,cO σ (iP pos ei' e) H' a→cO σ e H a:=by
  have shp:∀i:Nat,(∃xs,(iP pos ei' e)[i]?=some (some (.l xs)))↔ (∃xs,e[i]?=some (some (.l xs))):=by
    intro i
    rw [bI]
    match h:e[i]? with
    | none=>simp
    | some none=>simp
    | some (some (.d x))=>simp
    | some (some (.n x))=>simp
    | some (some (.l xs))=>
      simp only [Option.map_some]
      constructor
      · intro _;exact⟨xs,rfl⟩
      · intro _
        match hp:pos i with
        | none=>exact⟨xs,rfl⟩
        | some k=>
          obtain⟨ys,g⟩:=hsh i k xs h hp
          exact⟨ys,by show some ((ei'[k]?).join)=_;rw [g];rfl⟩
  have oth:∀(i:Nat) (s:Sv),(∀xs,s≠.l xs)→((iP pos ei' e)[i]?=some (some s)↔ e[i]?=some (some s)):=by
    intro i s hs
    constructor
    · intro h
      rw [bI] at h
      match h1:e[i]?,h with
      | some (some (.d y)),h=>exact h
      | some (some (.n y)),h=>exact h
      | some (some (.l ys)),h=>
        simp only [Option.map_some,Option.some.injEq] at h
        match hp:pos i,h with
        | none,h=>cases h;exact absurd rfl (hs _)
        | some k,h=>
          obtain⟨zs,g⟩:=hsh i k ys h1 hp
          change (ei'[k]?).join=_ at h
          rw [g] at h;cases h;exact absurd rfl (hs _)
      | some none,h=>simp at h
      | none,h=>simp at h
    · intro h
      rw [bI,h]
      cases s with
      | d y=>rfl
      | n y=>rfl
      | l y=>exact absurd rfl (hs y)
  have out:∀i a,Fp σ e H i a→(∀k xs,e[i]?=some (some (.l xs))→pos i≠some k)→¬cO σi ei H a:=by
    intro i a hi hp z
    obtain⟨j,k,ws,d1,d2,d3⟩:=s.own hnn (H':=H') z
    have:i=j:=R.fp i j a hi (.inl ⟨ws,d1,d3⟩)
    subst this
    exact hp k ws d1 d2
  have keep:∀i a o,Fp σ e H i a→(∀k xs,e[i]?=some (some (.l xs))→pos i≠some k)→H a=some o→H' a=some o:=fun i a o hi hp ha=>tmp a o ha (out i a hi hp)
  have sown:∀a,cO σi ei H a→cO σ e H a:=fun a z=>by
    obtain⟨j,k,ws,d1,d2,d3⟩:=s.own hnn (H':=H') z
    exact⟨j,.inl ⟨ws,d1,d3⟩⟩
  have fs:∀i a,Fp σ (iP pos ei' e) H' i a↔ Fp σ e H i a:=by
    intro i a
    have key:∀xss l,e[i]?=some (some (.n xss))→σ[i]?=some (some (.ref l))→H' l=H l:=fun xss l h1 h2=>by
      obtain⟨l',bs,g1,g2,g3,_⟩:=R.nst i xss h1
      rw [h2] at g1;cases g1
      rw [g3]
      exact keep i l _ (.inr ⟨xss,l,bs,h1,h2,g3,.inl rfl⟩) (fun k xs z=>by rw [h1] at z;cases z) g3
    constructor
    · rintro(⟨xs,h1,h2⟩ | ⟨xss,l,bs,h1,h2,h3,h4⟩)
      · obtain⟨ys,h⟩:=(shp i).mp ⟨xs,h1⟩
        exact .inl ⟨ys,h,h2⟩
      · have h1':=(oth i (.n xss) (fun _ z=>nomatch z)).mp h1
        exact .inr ⟨xss,l,bs,h1',h2,by rw [←key xss l h1' h2];exact h3,h4⟩
    · rintro(⟨xs,h1,h2⟩ | ⟨xss,l,bs,h1,h2,h3,h4⟩)
      · obtain⟨ys,h⟩:=(shp i).mpr ⟨xs,h1⟩
        exact .inl ⟨ys,h,h2⟩
      · exact .inr ⟨xss,l,bs,(oth i (.n xss) (fun _ z=>nomatch z)).mpr h1,h2,by rw [key xss l h1 h2];exact h3,h4⟩
  refine⟨⟨R'.sm,?_,fun i x h=>?_,fun i xs h=>?_,fun i xss h=>?_,fun i j a h1 h2=>R.fp i j a ((fs i a).mp h1) ((fs j a).mp h2)⟩,⟨sf,dom,fun a vs h1 h2 n=>fr a vs h1 h2 fun z=>n (sown a z),lst,fun a o h n=>tmp a o h fun z=>n (sown a z),shp,fun a ⟨i,h⟩=>.inl ⟨i,(fs i a).mp h⟩⟩,fun a ⟨i,h⟩=>⟨i,(fs i a).mp h⟩⟩
  · unfold iP;rw [List.length_mapIdx];exact R.len
  · obtain⟨v,g1,g2⟩:=R.dat i x ((oth i (.d x) (fun _ z=>nomatch z)).mp h)
    exact⟨v,g1,DA.mono sf g2⟩
  · obtain⟨ys,h1⟩:=(shp i).mp ⟨xs,h⟩
    obtain⟨l,vs,g1,g2,g3,g4⟩:=R.own i ys h1
    rw [bI,h1] at h
    simp only [Option.map_some,Option.some.injEq] at h
    match hp:pos i,h with
    | none,h=>
      cases h
      have np:∀k xs,e[i]?=some (some (Sv.l xs))→pos i≠some k:=fun k xs _ z=>by rw [hp] at z;cases z
      have fi:Fp σ e H i l:=.inl ⟨_,h1,g1⟩
      exact⟨l,vs,g1,fr l vs g2 g3 (out i l fi np),keep i l _ fi np g3,g4.mono sf⟩
    | some k,h=>
      obtain⟨zs,c1⟩:=hsh i k ys h1 hp
      change (ei'[k]?).join=_ at h
      rw [c1] at h;cases h
      obtain⟨l',vs',d1,d2,d3,d4⟩:=R'.own k _ c1
      rw [hσ i k ys h1 hp,s.a i k ys h1 hp] at d1
      exact⟨l',vs',d1,d2,d3,d4⟩
  · have h1:=(oth i (.n xss) (fun _ z=>nomatch z)).mp h
    obtain⟨l,bs,g1,g2,g3,g4,g5,g6,g7⟩:=R.nst i xss h1
    have np:∀k xs,e[i]?=some (some (Sv.l xs))→pos i≠some k:=fun k xs z=>by rw [h1] at z;cases z
    have fi:Fp σ e H i l:=.inr ⟨xss,l,bs,h1,g1,g3,.inl rfl⟩
    refine⟨l,bs,g1,fr l _ g2 g3 (out i l fi np),keep i l _ fi np g3,g4,g5,g6,fun k b ys q1 q2=>?_⟩
    obtain⟨c1,us,c2,c3⟩:=g7 k b ys q1 q2
    have fb:Fp σ e H i b:=.inr ⟨xss,l,bs,h1,g1,g3,.inr (List.mem_of_getElem? q1)⟩
    exact⟨fr b _ c1 c2 (out i b fb np),us,keep i b _ fb np c2,c3.mono sf⟩
end
def cD(e:En):List Rv→Option (List Sv)
  | []=>some []
  | .d x::r=>(cD e r).map (.d x::·)
  | .l xs::r=>(cD e r).map (.d (.list xs)::·)
  | .s i::r=>match e[i]? with
    | some (some (.l xs))=>(cD e r).map (.l xs::·)
    | _=>none
def aG:List Rv→List Nat
  | []=>[]
  | .s i::r=>i::aG r
  | .d _::r=>aG r
  | .l _::r=>aG r
def gb(rs:List Rv)(i:Nat):Option Nat:=rs.findIdx? fun r=>match r with
  | .s j=>j==i
  | _=>false
def noS:Rv→Prop
  | .s _=>False
  | _=>True
abbrev FM:=List Sv→Option (Rv × List Sv)
def b6(K:PySem.W.Frag)(n:Nat)(m:FM):Sp:=fun vs H Q _=>vs.length=n∧∃F as r as',aR K F H (vs.map some) (as.map some)∧xP (as.map some)∧m as=some (r,as')∧noS r∧
  ∀F' H' v,cK (vs.map some) F H (as.map some) F' H' (as'.map some)→aR K F' H' (vs.map some) (as'.map some)→bL K (vs.map some) H F' H' (as'.map some) r v→Q v H'
def bc:List Rv→List Sv→Bool
  | [],[]=>true
  | .s _::r,.l _::s=>bc r s
  | .d _::r,_::s=>bc r s
  | .l _::r,_::s=>bc r s
  | _,_=>false
def vT:Rv→Bool
  | .s _=>false
  | _=>true
def d_:List Rv→List Sv→En→En
  | .s i::r,.l ys::s,e=>d_ r s (e.set i (some (.l ys)))
  | .d _::r,_::s,e=>d_ r s e
  | .l _::r,_::s,e=>d_ r s e
  | _,_,e=>e
def bY(n:Nat)(m:FM)(fs:FA):FE:=fun e=>(fs e).bind fun p=>(cD p.2 p.1).bind fun as=>(m as).bind fun z=>if p.1.length=n∧(aG p.1).Nodup∧bc p.1 z.2=true∧vT z.1=true then some (z.1,d_ p.1 z.2 p.2) else none
theorem eD:∀{rs:List Rv} {as:List Sv},bc rs as=true→∀(k i:Nat),rs[k]?=some (.s i)→∃ys,as[k]?=some (.l ys)
  | [],[],_,k,i,h=>by simp at h
  | .s j::r,.l ys::s,h,k,i,hk=>by
    cases k with
    | zero=>exact⟨ys,rfl⟩
    | succ k=>simpa using eD (rs:=r) (as:=s) (by simpa [bc] using h) k i (by simpa using hk)
  | .d x::r,y::s,h,k,i,hk=>by
    cases k with
    | zero=>simp at hk
    | succ k=>simpa using eD (rs:=r) (as:=s) (by simpa [bc] using h) k i (by simpa using hk)
  | .l x::r,y::s,h,k,i,hk=>by
    cases k with
    | zero=>simp at hk
    | succ k=>simpa using eD (rs:=r) (as:=s) (by simpa [bc] using h) k i (by simpa using hk)
  | .s _::_,.d _::_,h,_,_,_=>by simp [bc] at h
  | .s _::_,[],h,_,_,_=>by simp [bc] at h
  | .d _::_,[],h,_,_,_=>by simp [bc] at h
  | .l _::_,[],h,_,_,_=>by simp [bc] at h
theorem iq{r0:Rv}{rs:List Rv}{i:Nat}:gb (r0::rs) i=if (match r0 with | .s j=>j==i | _=>false)=true then some 0 else(gb rs i).map (· +1):=by
  unfold gb;rw [List.findIdx?_cons]
theorem ir{rs:List Rv}{i k:Nat}(h:gb rs i=some k):rs[k]?=some (.s i):=by
  unfold gb at h
  rw [List.findIdx?_eq_some_iff_getElem] at h
  obtain⟨hk,h1,_⟩:=h
  rw [List.getElem?_eq_getElem hk]
  split at h1
  · rename_i heq
    rw [heq]
    have:=eq_of_beq h1
    rw [this]
  · cases h1
theorem dJ:∀{rs:List Rv} {i:Nat},i∈aG rs↔ Rv.s i∈rs
  | [],i=>by simp [aG]
  | .s j::r,i=>by simp [aG,dJ (rs:=r)]
  | .d x::r,i=>by simp [aG,dJ (rs:=r)]
  | .l x::r,i=>by simp [aG,dJ (rs:=r)]
theorem dU:∀{rs:List Rv} {i k j:Nat},(aG rs).Nodup→rs[k]?=some (.s i)→rs[j]?=some (.s i)→k=j
  | [],i,k,j,_,h,_=>by simp at h
  | .s m::r,i,k,j,hn,h1,h2=>by
    simp only [aG,List.nodup_cons] at hn
    cases k with
    | zero=>
      simp at h1;subst h1
      cases j with
      | zero=>rfl
      | succ j=>exact absurd (dJ.mpr (List.mem_of_getElem? (by simpa using h2))) hn.1
    | succ k=>
      cases j with
      | zero=>
        simp at h2;subst h2
        exact absurd (dJ.mpr (List.mem_of_getElem? (by simpa using h1))) hn.1
      | succ j=>
        have:=dU (rs:=r) (i:=i) (k:=k) (j:=j) hn.2 (by simpa using h1) (by simpa using h2)
        lia
  | .d x::r,i,k,j,hn,h1,h2=>by
    cases k with
    | zero=>simp at h1
    | succ k=>
      cases j with
      | zero=>simp at h2
      | succ j=>
        have:=dU (rs:=r) (i:=i) (k:=k) (j:=j) (by simpa [aG] using hn) (by simpa using h1) (by simpa using h2)
        lia
  | .l x::r,i,k,j,hn,h1,h2=>by
    cases k with
    | zero=>simp at h1
    | succ k=>
      cases j with
      | zero=>simp at h2
      | succ j=>
        have:=dU (rs:=r) (i:=i) (k:=k) (j:=j) (by simpa [aG] using hn) (by simpa using h1) (by simpa using h2)
        lia
theorem qY{rs:List Rv}{i:Nat}(h:i∉aG rs):gb rs i=none:=by
  unfold gb
  rw [List.findIdx?_eq_none_iff]
  intro r hr
  cases r with
  | d x=>rfl
  | l x=>rfl
  | s j=>
    have:j≠i:=fun z=>h (by rw [←z];exact dJ.mpr hr)
    simpa using this
theorem iT:∀{rs:List Rv} {as:List Sv} {e:En},(aG rs).Nodup→bc rs as=true→(∀j∈aG rs,∃xs,e[j]?=some (some (.l xs)))→d_ rs as e=iP (gb rs) (as.map some) e
  | [],[],e,_,_,_=>by
    refine List.ext_getElem? fun i=>?_
    rw [bI]
    have:gb [] i=none:=rfl
    rw [this]
    simp only [d_]
    match e[i]? with
    | none=>rfl
    | some none=>rfl
    | some (some (.d x))=>rfl
    | some (some (.l x))=>rfl
    | some (some (.n x))=>rfl
  | .d x::r,y::s,e,hn,hl,hs=>by
    rw [show d_ (.d x::r) (y::s) e=d_ r s e from rfl,iT (by simpa [aG] using hn) (by simpa [bc] using hl) (fun j hj=>hs j (by simpa [aG] using hj))]
    refine List.ext_getElem? fun i=>?_
    rw [bI,bI,iq]
    cases gb r i<;>simp
  | .l x::r,y::s,e,hn,hl,hs=>by
    rw [show d_ (.l x::r) (y::s) e=d_ r s e from rfl,iT (by simpa [aG] using hn) (by simpa [bc] using hl) (fun j hj=>hs j (by simpa [aG] using hj))]
    refine List.ext_getElem? fun i=>?_
    rw [bI,bI,iq]
    cases gb r i<;>simp
  | .s k::r,.l ys::s,e,hn,hl,hs=>by
    simp only [aG,List.nodup_cons] at hn
    obtain⟨xs,hk⟩:=hs k (by simp [aG])
    have hlt:k < e.length:=(List.getElem?_eq_some_iff.mp hk).1
    rw [show d_ (.s k::r) (.l ys::s) e=d_ r s (e.set k (some (.l ys))) from rfl,iT hn.2 (by simpa [bc] using hl) (fun j hj=>by
      have z:k≠j:=fun z=>hn.1 (by rw [z];exact hj)
      rw [List.getElem?_set_ne z]
      exact hs j (by simp [aG,hj]))]
    refine List.ext_getElem? fun i=>?_
    rw [bI,bI,iq]
    by_cases z:k=i
    · subst z
      rw [List.getElem?_set_self hlt,hk,qY hn.1]
      simp
    · rw [List.getElem?_set_ne z]
      have:((match (Rv.s k) with | .s j=>j==i | _=>false)=true)=False:=by simp [z]
      simp only [this,if_false]
      cases gb r i<;>simp
  | .s _::_,.d _::_,_,_,h,_=>by simp [bc] at h
  | .s _::_,.n _::_,_,_,h,_=>by simp [bc] at h
  | .s _::_,[],_,_,h,_=>by simp [bc] at h
  | .d _::_,[],_,_,h,_=>by simp [bc] at h
  | .l _::_,[],_,_,h,_=>by simp [bc] at h
  | [],_::_,_,_,h,_=>by simp [bc] at h
theorem dA{e:En}:∀{rs:List Rv} {as:List Sv},cD e rs=some as→∀j∈aG rs,∃xs,e[j]?=some (some (.l xs))
  | [],_,_,j,h=>by simp [aG] at h
  | .d x::rs,as,q,j,h=>by
    obtain⟨as',q1,rfl⟩:=Option.map_eq_some_iff.mp q
    exact dA q1 j (by simpa [aG] using h)
  | .l x::rs,as,q,j,h=>by
    obtain⟨as',q1,rfl⟩:=Option.map_eq_some_iff.mp q
    exact dA q1 j (by simpa [aG] using h)
  | .s k::rs,as,q,j,h=>by
    unfold cD at q
    match he:e[k]?,q with
    | some (some (.l xs)),q=>
      obtain⟨as',q1,rfl⟩:=Option.map_eq_some_iff.mp q
      simp only [aG,List.mem_cons] at h
      rcases h with rfl | h
      · exact⟨xs,he⟩
      · exact dA q1 j h
theorem gu{e:En}:∀{rs:List Rv} {as:List Sv} {k i:Nat},cD e rs=some as→rs[k]?=some (.s i)→∃xs,as[k]?=some (.l xs)
  | [],_,k,i,_,h=>by simp at h
  | .d x::rs,as,k,i,q,h=>by
    obtain⟨as',q1,rfl⟩:=Option.map_eq_some_iff.mp q
    cases k with
    | zero=>simp at h
    | succ k=>simpa using gu (k:=k) (i:=i) q1 (by simpa using h)
  | .l x::rs,as,k,i,q,h=>by
    obtain⟨as',q1,rfl⟩:=Option.map_eq_some_iff.mp q
    cases k with
    | zero=>simp at h
    | succ k=>simpa using gu (k:=k) (i:=i) q1 (by simpa using h)
  | .s j::rs,as,k,i,q,h=>by
    unfold cD at q
    match he:e[j]?,q with
    | some (some (.l xs)),q=>
      obtain⟨as',q1,rfl⟩:=Option.map_eq_some_iff.mp q
      cases k with
      | zero=>exact⟨xs,rfl⟩
      | succ k=>simpa using gu (k:=k) (i:=i) q1 (by simpa using h)
section
variable{X:Cx}{K:PySem.W.Frag}{σ:L2.St}{H0 H:Hp}{e:En}
theorem iQ:∀{rs:List Rv} {vs:List V} {as:List Sv} {F:Hp},aR K F H σ e→cC K σ H0 F H e rs vs→cD e rs=some as→
    ∃F',aR K F' H σ e∧av F F'∧(∀a,F a=none→H0 a≠none→F' a=none)∧vs.length=as.length∧rs.length=as.length∧
      (∀(k:Nat) (x:PyData),as[k]?=some (.d x)→∃v,vs[k]?=some v∧DA K F' x v)∧∀(k:Nat) (xs:List PyData),as[k]?=some (.l xs)→∃i,rs[k]?=some (.s i)∧e[i]?=some (some (.l xs))∧∃v,vs[k]?=some v∧σ[i]?=some (some v)
  | [],vs,as,F,R,h,q=>by
    cases q
    have h':vs=[]:=h
    subst h'
    exact⟨F,R,av.refl _,fun _ h _=>h,rfl,rfl,fun k x h=>by simp at h,fun k x h=>by simp at h⟩
  | .d x::rs,_,as,F,R,h,q=>by
    obtain⟨v,ws,rfl,h1,h2⟩:=h
    obtain⟨as',q1,rfl⟩:=Option.map_eq_some_iff.mp q
    obtain⟨F',R',s',f',l1,l2,d',o'⟩:=iQ R h2 q1
    refine⟨F',R',s',f',by simp [l1],by simp [l2],fun k y hk=>?_,fun k ys hk=>?_⟩
    · cases k with
      | zero=>simp at hk;subst hk;exact⟨v,rfl,DA.mono s' h1⟩
      | succ k=>simpa using d' k y (by simpa using hk)
    · cases k with
      | zero=>simp at hk
      | succ k=>simpa using o' k ys (by simpa using hk)
  | .l xs::rs,_,as,F,R,h,q=>by
    obtain⟨v,ws,rfl,h1,h2⟩:=h
    obtain⟨as',q1,rfl⟩:=Option.map_eq_some_iff.mp q
    obtain⟨F',R',s',f',l1,l2,d',o'⟩:=iQ R h2 q1
    have key:∃F2,aR K F2 H σ e∧av F' F2∧(∀a,F' a=none→H0 a≠none→F2 a=none)∧DA K F2 (.list xs) v:=by
      obtain⟨l,us,rfl,g1,g2,g3,g4,g5⟩:=h1
      cases hl:F' l with
      | none=>
        have h1':bL K σ H0 F' H e (.l xs) (.ref l):=⟨l,us,rfl,g1,hl,g3,aC.mono s' g4,g5⟩
        obtain⟨F2,R2,s2,d2,f2⟩:=h1'.frozen R'
        exact⟨F2,R2,s2,f2,d2⟩
      | some o=>
        have:=R'.sm _ _ hl
        rw [g3] at this;cases this
        exact⟨F',R',av.refl _,fun _ h _=>h,dh.mpr ⟨l,us,rfl,.inl (.inl hl),aC.mono s' g4⟩⟩
    obtain⟨F2,R2,s2,f2,d2⟩:=key
    refine⟨F2,R2,s'.trans s2,fun a ha hn=>f2 a (f' a ha hn) hn,by simp [l1],by simp [l2],fun k y hk=>?_,fun k ys hk=>?_⟩
    · cases k with
      | zero=>simp at hk;subst hk;exact⟨v,rfl,d2⟩
      | succ k=>
        obtain⟨u,c1,c2⟩:=d' k y (by simpa using hk)
        exact⟨u,by simpa using c1,DA.mono s2 c2⟩
    · cases k with
      | zero=>simp at hk
      | succ k=>simpa using o' k ys (by simpa using hk)
  | .s i::rs,_,as,F,R,h,q=>by
    obtain⟨v,ws,rfl,h1,h2⟩:=h
    unfold cD at q
    match he:e[i]?,q with
    | some (some (.l xs)),q=>
      obtain⟨as',q1,rfl⟩:=Option.map_eq_some_iff.mp q
      obtain⟨F',R',s',f',l1,l2,d',o'⟩:=iQ R h2 q1
      refine⟨F',R',s',f',by simp [l1],by simp [l2],fun k y hk=>?_,fun k ys hk=>?_⟩
      · cases k with
        | zero=>simp at hk
        | succ k=>simpa using d' k y (by simpa using hk)
      · cases k with
        | zero=>simp at hk;subst hk;exact⟨i,rfl,he,v,rfl,h1.1⟩
        | succ k=>simpa using o' k ys (by simpa using hk)
theorem dC{α:Type}{l:List α}{k:Nat}{x:α}:(l.map some)[k]?=some (some x)↔ l[k]?=some x:=by
  rw [List.getElem?_map]
  cases l[k]?<;>simp
theorem bL.noS{σ':L2.St}{e':En}{F H:Hp}{r:Rv}{v:V}(h:bL K σ' H0 F H e' r v)(n:L2.noS r)(ho:∀a,cO σ e H a→H0 a≠none):bL K σ H0 F H e r v:=by
  cases r with
  | d x=>exact h
  | l xs=>
    obtain⟨l,vs,e1,h1,h2,h3,h4,_⟩:=h
    exact⟨l,vs,e1,h1,h2,h3,h4,fun z=>ho l z h1⟩
  | s i=>exact absurd n (by simp [L2.noS])
theorem ez:∀{rs:List Rv} {as:List Sv},cD e rs=some as→xP (as.map some)
  | [],_,q=>by cases q;intro i xss h;simp at h
  | .d x::rs,as,q=>by
    obtain⟨as',q1,rfl⟩:=Option.map_eq_some_iff.mp q
    have ih:=ez q1
    intro i xss h
    cases i with
    | zero=>simp at h
    | succ i=>exact ih i xss (by simpa using h)
  | .l x::rs,as,q=>by
    obtain⟨as',q1,rfl⟩:=Option.map_eq_some_iff.mp q
    have ih:=ez q1
    intro i xss h
    cases i with
    | zero=>simp at h
    | succ i=>exact ih i xss (by simpa using h)
  | .s j::rs,as,q=>by
    unfold cD at q
    match he:e[j]?,q with
    | some (some (.l xs)),q=>
      obtain⟨as',q1,rfl⟩:=Option.map_eq_some_iff.mp q
      have ih:=ez q1
      intro i xss h
      cases i with
      | zero=>simp at h
      | succ i=>exact ih i xss (by simpa using h)
theorem xG{n:Nat}{m:FM}{fs:FA}{Q:VK}{E:XK}(h:fE K (bY n m fs) σ H Q):rQ (b6 K n m) [] E (fA K fs) σ H Q:=by
  obtain⟨F,e,z,e',R,hf,q⟩:=h
  unfold bY at hf
  obtain⟨⟨rs,e1⟩,h1,hf⟩:=Option.bind_eq_some_iff.mp hf
  obtain⟨as,h2,hf⟩:=Option.bind_eq_some_iff.mp hf
  obtain⟨⟨r,as'⟩,h3,hf⟩:=Option.bind_eq_some_iff.mp hf
  split at hf
  case isFalse=>cases hf
  case isTrue hc=>
  obtain⟨c1,c2,c3,c4⟩:=hc
  cases hf
  refine⟨F,e,rs,e1,R,h1,fun F1 H1 vs X1 R1 A1=>?_⟩
  obtain⟨F2,R2,s2,f2,l1,l2,d2,o2⟩:=iQ R1 A1 h2
  have X2:=X1.frz s2 f2
  rw [List.append_nil]
  have hn:L2.noS r:=by
    cases r with
    | d x=>trivial
    | l x=>trivial
    | s i=>cases c4
  have nN:=ez h2
  have RA:aR K F2 H1 (vs.map some) (as.map some):=by
    refine⟨R2.sm,by simp [l1],fun k x hk=>?_,fun k xs hk=>?_,fun k xss hk=>absurd hk (nN k xss),fun k j l f1 f2=>?_⟩
    · obtain⟨v,g1,g2⟩:=d2 k x (dC.mp hk)
      exact⟨v,dC.mpr g1,g2⟩
    · obtain⟨i,g1,g2,v,g3,g4⟩:=o2 k xs (dC.mp hk)
      obtain⟨l,us,k1,k2,k3,k4⟩:=R2.own i xs g2
      rw [g4] at k1;cases k1
      exact⟨l,us,dC.mpr g3,k2,k3,k4⟩
    · obtain⟨xs,g1,g3⟩:=f1.resolve_right fun⟨xss,_,_,z,_⟩=>nN k xss z
      obtain⟨ys,g2,g4⟩:=f2.resolve_right fun⟨xss,_,_,z,_⟩=>nN j xss z
      obtain⟨i1,a1,a2,v1,a3,a4⟩:=o2 k xs (dC.mp g1)
      obtain⟨i2,b1,b2,v2,b3,b4⟩:=o2 j ys (dC.mp g2)
      have e1:=dC.mp g3
      have e2:=dC.mp g4
      rw [a3] at e1;cases e1
      rw [b3] at e2;cases e2
      have:i1=i2:=R2.inj i1 i2 xs ys l a2 b2 a4 b4
      subst this
      exact dU c2 a1 b1
  have sub:lr σ e1 (vs.map some) (as.map some) (gb rs):=by
    refine⟨fun i k xs g1 g2=>?_,fun k ys g1=>?_⟩
    · have g3:=ir g2
      obtain⟨zs,hs⟩:=gu h2 g3
      obtain⟨i',a1,a2,v,a3,a4⟩:=o2 k zs hs
      rw [g3] at a1;cases a1
      rw [dC.mpr a3,a4]
    · obtain⟨i,a1,a2,v,a3,a4⟩:=o2 k ys (dC.mp g1)
      refine⟨i,ys,a2,?_,by rw [dC.mpr a3,a4]⟩
      cases hp:gb rs i with
      | none=>
        unfold gb at hp
        rw [List.findIdx?_eq_none_iff] at hp
        have:=hp _ (List.mem_of_getElem? a1)
        simp at this
      | some j=>rw [dU c2 (ir hp) a1]
  refine⟨by rw [l1,←l2];exact c1,F2,as,r,as',RA,nN,h3,hn,fun F' H' v X3 R3 A3=>?_⟩
  obtain⟨R4,X4,o4⟩:=mz R2 sub nN X3.sf X3.dom X3.fr X3.lst X3.tmp R3 (fun _ _ _ _ _=>rfl) fun i k xs g1 g2=>by
    obtain⟨ys,g3⟩:=eD c3 k i (ir g2)
    exact⟨ys,dC.mpr g3⟩
  have hb:=iT (e:=e1) c2 c3 (dA h2)
  rw [←hb] at R4 X4 o4
  exact q F' H' v (X2.trans X4) R4 ((A3.noS hn fun a z=>R2.ownH a (o4 a z)).weak X2.dom)
theorem aP{x:Str}{st:Stmt}{f:Addr}{fd:FuncData}{ps:List Str}{k n:Nat}{m:FM}{a:Expr}{es:List Expr}{fs:FA}{p pos:Pos}(h:bi X.K X.mg x st f fd ps)(G:aK X.prog X.w X.K X.mg X.base bU k f fd ps (b6 K n m))(hr:cc k X.A)(ha:PA X (a::es) (fA K fs))
    (hg:Gl X x)(hdb:(x==("__debug__":Str))=false)(he:starEach (a::es) X.env=(false,eval a X.env)::starEach es X.env)(hpl:(backTo pos (starEach es X.env)).any (·.1)=false):
    PE X (.Call (.Name x p) (a::es) [] pos) (fE K (bY n m fs)):=(AA h G hr ha hg hdb he hpl).mono fun _ _ _ h=>xG h
def pH:List Sv→En→Option (List Sv)
  | [],_=>some []
  | .d x::r,e=>(pH r e.tail).map (.d x::·)
  | .l _::r,e=>match e.head? with
    | some (some (.l ys))=>(pH r e.tail).map (.l ys::·)
    | _=>none
  | .n _::_,_=>none
def sA(n:Nat)(e:En):Rv→Option Rv
  | .s i=>if n≤i then match e[i]? with
      | some (some (.l xs))=>some (.l xs)
      | _=>none
    else none
  | r=>some r
def l3(W:List Nat)(as:List Sv):Bool:=W.all fun j=>match as[j]? with
  | some (.l _)=>false
  | _=>true
def h_(n k:Nat)(W:List Nat)(f:FS):FM:=fun as=>if as.length=n∧l3 W as=true then(f (as.map some++List.replicate k none)).bind fun fl=>match fl with
    | .rt r e=>(sA n e r).bind fun r'=>(pH as e).map fun as'=>(r',as')
    | .nx e=>(pH as e).map fun as'=>(.d .none,as')
    | _=>none
  else none
theorem iX:∀{as as':List Sv} {e:En},pH as e=some as'→as'.length=as.length∧(∀(j:Nat) (x:PyData),as'[j]?=some (.d x)↔ as[j]?=some (.d x))∧(∀(j:Nat) (ys:List PyData),as'[j]?=some (.l ys)→(∃xs,as[j]?=some (.l xs))∧e[j]?=some (some (.l ys)))∧∀(j:Nat) (xs:List PyData),as[j]?=some (.l xs)→∃ys,as'[j]?=some (.l ys)
  | [],_,e,h=>by cases h;simp
  | .d x::r,_,e,h=>by
    obtain⟨s,h1,rfl⟩:=Option.map_eq_some_iff.mp h
    obtain⟨g1,g2,g3,g4⟩:=iX h1
    refine⟨by simp [g1],fun j y=>?_,fun j ys hj=>?_,fun j xs hj=>?_⟩
    · cases j with
      | zero=>simp
      | succ j=>simpa using g2 j y
    · cases j with
      | zero=>simp at hj
      | succ j=>
        obtain⟨c1,c2⟩:=g3 j ys (by simpa using hj)
        refine⟨by simpa using c1,?_⟩
        rw [List.getElem?_tail] at c2
        exact c2
    · cases j with
      | zero=>simp at hj
      | succ j=>simpa using g4 j xs (by simpa using hj)
  | .l xs::r,_,e,h=>by
    unfold pH at h
    match he:e.head?,h with
    | some (some (.l ys)),h=>
      obtain⟨s,h1,rfl⟩:=Option.map_eq_some_iff.mp h
      obtain⟨g1,g2,g3,g4⟩:=iX h1
      refine⟨by simp [g1],fun j y=>?_,fun j zs hj=>?_,fun j zs hj=>?_⟩
      · cases j with
        | zero=>simp
        | succ j=>simpa using g2 j y
      · cases j with
        | zero=>
          simp at hj;subst hj
          exact⟨⟨xs,rfl⟩,by rw [List.head?_eq_getElem?] at he;exact he⟩
        | succ j=>
          obtain⟨c1,c2⟩:=g3 j zs (by simpa using hj)
          refine⟨by simpa using c1,?_⟩
          rw [List.getElem?_tail] at c2
          exact c2
      · cases j with
        | zero=>exact⟨ys,rfl⟩
        | succ j=>simpa using g4 j zs (by simpa using hj)
  | .n x::r,_,e,h=>by simp [pH] at h
end
end L2
namespace L2
open PySem PySem.Spec PyProof.Rows
theorem cV{α:Type}{l:List (Option α)}{k i:Nat}{x:α}(h:(l++List.replicate k none)[i]?=some (some x)):l[i]?=some (some x):=by
  rw [List.getElem?_append] at h
  split at h
  · exact h
  · rw [List.getElem?_replicate] at h
    split at h<;>simp at h
theorem c8{α:Type}{l:List (Option α)}{k i:Nat}{x:α}(h:l[i]?=some (some x)):(l++List.replicate k none)[i]?=some (some x):=by
  have hi:i < l.length:=(List.getElem?_eq_some_iff.mp h).1
  rw [List.getElem?_append_left hi];exact h
section
variable{K:PySem.W.Frag}{F H:Hp}{σ:L2.St}{e:En}{k:Nat}
theorem kG{i:Nat}{a:Addr}:Fp (σ++List.replicate k none) (e++List.replicate k none) H i a↔ Fp σ e H i a:=by
  constructor
  · rintro(⟨xs,h1,h2⟩ | ⟨xss,l,bs,h1,h2,h3⟩)
    · exact .inl ⟨xs,cV h1,cV h2⟩
    · exact .inr ⟨xss,l,bs,cV h1,cV h2,h3⟩
  · rintro(⟨xs,h1,h2⟩ | ⟨xss,l,bs,h1,h2,h3⟩)
    · exact .inl ⟨xs,c8 h1,c8 h2⟩
    · exact .inr ⟨xss,l,bs,c8 h1,c8 h2,h3⟩
theorem kZ{a:Addr}:cO (σ++List.replicate k none) (e++List.replicate k none) H a↔ cO σ e H a:=⟨fun⟨i,h⟩=>⟨i,kG.mp h⟩,fun⟨i,h⟩=>⟨i,kG.mpr h⟩⟩
theorem aR.pad(R:aR K F H σ e):aR K F H (σ++List.replicate k none) (e++List.replicate k none):=by
  refine⟨R.sm,by simp [R.len],fun i x h=>?_,fun i xs h=>?_,fun i xss h=>?_,fun i j a h1 h2=>R.fp i j a (kG.mp h1) (kG.mp h2)⟩
  · obtain⟨v,g1,g2⟩:=R.dat i x (cV h)
    exact⟨v,c8 g1,g2⟩
  · obtain⟨l,vs,g1,g2⟩:=R.own i xs (cV h)
    exact⟨l,vs,c8 g1,g2⟩
  · obtain⟨l,bs,g1,g2⟩:=R.nst i xss (cV h)
    exact⟨l,bs,c8 g1,g2⟩
end
theorem lj:∀{as as':List Sv} {e:En},pH as e=some as'→xP (as'.map some)
  | [],_,e,h=>by cases h;intro i xss z;simp at z
  | .d x::r,_,e,h=>by
    obtain⟨s,h1,rfl⟩:=Option.map_eq_some_iff.mp h
    have ih:=lj h1
    intro i xss z
    cases i with
    | zero=>simp at z
    | succ i=>exact ih i xss (by simpa using z)
  | .l xs::r,_,e,h=>by
    unfold pH at h
    match he:e.head?,h with
    | some (some (.l ys)),h=>
      obtain⟨s,h1,rfl⟩:=Option.map_eq_some_iff.mp h
      have ih:=lj h1
      intro i xss z
      cases i with
      | zero=>simp at z
      | succ i=>exact ih i xss (by simpa using z)
  | .n x::r,_,e,h=>by simp [pH] at h
theorem l4{W:List Nat}{as:List Sv}(h:l3 W as=true){j:Nat}{xs:List PyData}(hj:as[j]?=some (.l xs)):j∉W:=fun z=>by
  unfold l3 at h
  have:=List.all_eq_true.mp h j z
  rw [hj] at this
  cases this
section
variable{P:Program}{w:World}{K:PySem.W.Frag}{mg:Str→Option Value}{base:Heap}
theorem bi.fn{x:Str}{st:Stmt}{f:Addr}{fd:FuncData}{N ps:List Str}{k n k0:Nat}{W:List Nat}{fb:FS}(h:bi K mg x st f fd ps)(S:aJ N ps (aj st))(hn:ps.length=n)(hN:N.length=n+k0)
    (hb:∀(cdv:Value) (A:Around) (outer:List Env) (s:Shared) (H:Hp) (E:XK),cc k (A.deeper (envOfC x (aj st) s.heap.objs.size f cdv))→iJ (mU bU P w K mg base N x (aj st) f cdv A outer s H E).nox (bV st) (fS K fb W)):
    aK P w K mg base bU (k+1) f fd ps (b6 K n (h_ n k0 W fb)):=by
  refine h.F.ok S (fun vs H Q E q=>?_) fun cdv A outer s H vs Q E hr hsp=>⟨_,hb cdv A outer s H E hr,?_⟩
  · rw [hn];exact q.1
  · obtain⟨hl,F,as,r,as',R,nN,hm,nr,q⟩:=hsp
    unfold h_ at hm
    split at hm
    case isFalse=>cases hm
    case isTrue hc=>
    obtain⟨la,nl⟩:=hc
    obtain⟨fl,h1,hm⟩:=Option.bind_eq_some_iff.mp hm
    have hst:dW N vs=vs.map some++List.replicate k0 none:=by unfold dW;rw [hN,hl];congr 2;lia
    rw [hst]
    have key:∀{as':List Sv} {e':En},pH as e'=some as'→∀F' H' σ',cL W (vs.map some++List.replicate k0 none) F H (as.map some++List.replicate k0 none) σ' F' H' e'→aR K F' H' σ' e'→
        cK (vs.map some) F H (as.map some) F' H' (as'.map some)∧aR K F' H' (vs.map some) (as'.map some)∧∀a,cO (vs.map some) (as'.map some) H' a→cO (vs.map some) (as.map some) H a:=by
      intro as' e' hu F' H' σ' X' R'
      obtain⟨u1,u2,u3,u4⟩:=iX hu
      have uN:=lj hu
      have ow:∀a,cO (vs.map some) (as'.map some) H' a→cO (vs.map some) (as.map some) H a:=by
        rintro a ⟨j,⟨ys,c1,c2⟩ | ⟨xss,_,_,z,_⟩⟩
        · obtain⟨⟨xs,c3⟩,_⟩:=u3 j ys (dC.mp c1)
          exact⟨j,.inl ⟨xs,dC.mpr c3,c2⟩⟩
        · exact absurd z (uN j xss)
      have sg:∀(j:Nat) (xs:List PyData),as[j]?=some (.l xs)→σ'[j]?=(vs.map some)[j]?:=fun j xs hj=>by
        rw [X'.wr j (l4 nl hj)]
        have hj2:j < (vs.map some).length:=by rw [List.length_map,hl,←la];exact(List.getElem?_eq_some_iff.mp hj).1
        rw [List.getElem?_append_left hj2]
      refine⟨⟨X'.sf,X'.dom,fun a vs h1 h2 hn=>X'.fr a vs h1 h2 fun z=>hn (kZ.mp z),X'.lst,fun a o ha hn=>X'.tmp a o ha fun z=>hn (kZ.mp z),fun j=>?_,fun a z=>.inl (ow a z)⟩,⟨R'.sm,?_,fun j y hj=>?_,fun j ys hj=>?_,fun j xss hj=>absurd hj (uN j xss),fun j i l f1 f2=>?_⟩,ow⟩
      · constructor
        · rintro⟨ys,hj⟩
          obtain⟨⟨xs,c⟩,_⟩:=u3 j ys (dC.mp hj)
          exact⟨xs,dC.mpr c⟩
        · rintro⟨xs,hj⟩
          obtain⟨ys,c⟩:=u4 j xs (dC.mp hj)
          exact⟨ys,dC.mpr c⟩
      · simp [u1,hl,la]
      · obtain⟨v,c1,c2⟩:=R.dat j y (dC.mpr ((u2 j y).mp (dC.mp hj)))
        exact⟨v,c1,DA.mono X'.sf c2⟩
      · obtain⟨⟨xs,c1⟩,c2⟩:=u3 j ys (dC.mp hj)
        obtain⟨l,us,d1,d2⟩:=R'.own j ys c2
        exact⟨l,us,by rw [←sg j xs c1];exact d1,d2⟩
      · obtain⟨xs,g1,g3⟩:=f1.resolve_right fun⟨xss,_,_,z,_⟩=>uN j xss z
        obtain⟨ys,g2,g4⟩:=f2.resolve_right fun⟨xss,_,_,z,_⟩=>uN i xss z
        obtain⟨⟨zs,c1⟩,c2⟩:=u3 j xs (dC.mp g1)
        obtain⟨⟨ws,c3⟩,c4⟩:=u3 i ys (dC.mp g2)
        exact R'.inj j i xs ys l c2 c4 (by rw [sg j zs c1];exact g3) (by rw [sg i ws c3];exact g4)
    refine⟨F,as.map some++List.replicate k0 none,fl,R.pad,h1,?_⟩
    cases fl with
    | bk e'=>cases hm
    | ct e'=>cases hm
    | nx e'=>
      obtain⟨as2,h2,hm⟩:=Option.map_eq_some_iff.mp hm
      cases hm
      intro F' H' σ' X' R'
      obtain⟨X2,R2,_⟩:=key h2 F' H' σ' X' R'
      exact q F' H' .non X2 R2 ((eB (K:=K) (F:=F')).mpr rfl)
    | rt r0 e'=>
      obtain⟨r1,h2,hm⟩:=Option.bind_eq_some_iff.mp hm
      obtain⟨as2,h3,hm⟩:=Option.map_eq_some_iff.mp hm
      cases hm
      intro F' H' σ' v X' R' A'
      obtain⟨X2,R2,ow2⟩:=key h3 F' H' σ' X' R'
      have noo:∀l,H l=none→¬cO (vs.map some) (as'.map some) H' l:=fun l hl z=>R.ownH l (ow2 l z) hl
      refine q F' H' v X2 R2 ?_
      cases r0 with
      | d y=>cases h2;exact A'
      | l ys=>
        cases h2
        obtain⟨l,us,d0,d1,d2,d3,d4,_⟩:=A'
        exact⟨l,us,d0,d1,d2,d3,d4,noo l d1⟩
      | s i=>
        simp only [sA] at h2
        split at h2
        case isFalse=>cases h2
        case isTrue hi=>
        obtain⟨a1,xs,a2⟩:=A'
        rw [a2] at h2
        cases h2
        obtain⟨l,us,d1,d2,d3,d4⟩:=R'.own i _ a2
        rw [a1] at d1;cases d1
        suffices hl0:H l=none from⟨l,us,rfl,hl0,d2,d3,d4,noo l hl0⟩
        rcases X'.own l ⟨i,.inl ⟨_,a2,a1⟩⟩ with z | z
        · obtain⟨j,zf⟩:=kZ.mp z
          obtain⟨ys,z1,z2⟩:=zf.resolve_right fun⟨xss,_,_,z,_⟩=>nN j xss z
          have z1':=dC.mp z1
          obtain⟨u1,u2,u3,u4⟩:=iX h3
          obtain⟨ws,w1⟩:=u4 j ys z1'
          obtain⟨_,w2⟩:=u3 j ws w1
          have hj2:j < vs.length:=by rw [hl,←la];exact(List.getElem?_eq_some_iff.mp z1').1
          have e3:σ'[j]?=some (some (.ref l)):=by
            rw [X'.wr j (l4 nl z1'),List.getElem?_append_left (by simpa using hj2)]
            exact z2
          have:=R'.inj i j _ ws l a2 w2 a1 e3
          lia
        · exact z
end
def yC:Option Sv→Option Sv
  | some (.n _)=>none
  | s=>s
def mM(cp:List (Nat × Str))(nT:Nat)(e:En):En:=cp.map (fun p=>yC (e[p.1]?).join)++List.replicate nT none
def iO(cp:List (Nat × Str))(i:Nat):Option Nat:=cp.findIdx? fun p=>p.1==i
def dt(g:FG)(ft:FT)(fe:FE):List PyData→En→List PyData→Option (List PyData × En)
  | [],e,acc=>some (acc,e)
  | x::r,e,acc=>(g x e).bind fun e1=>(ft e1).bind fun b=>if b.1=true then(fe b.2).bind fun v=>(lA v.1).bind fun d=>if acc.length < 1000000 then dt g ft fe r v.2 (acc++[d]) else none else dt g ft fe r b.2 acc
def iZ(cp:List (Nat × Str))(ei e:En):Bool:=cp.all fun p=> !rZ e[p.1]? || rZ ei[(iO cp p.1).getD 0]?
def cJ(cp:List (Nat × Str))(nT:Nat)(fi:FI)(g:FG)(ft:FT)(fe:FE):FE:=fun e=>(fi e).bind fun p=>if (p.2.1.all fun q=> !(cp.any fun c=>c.1==q.1))=true then(dt g ft fe p.1 (mM cp nT p.2.2) []).bind fun z=>if iZ cp z.2 p.2.2=true then some (.l z.1,iP (iO cp) z.2 p.2.2) else none else none
section
variable{K:PySem.W.Frag}{F H:Hp}{σ:L2.St}{e:En}{cp:List (Nat × Str)}{nT:Nat}
theorem er{i k:Nat}(h:iO cp i=some k):∃s,cp[k]?=some (i,s):=by
  unfold iO at h
  rw [List.findIdx?_eq_some_iff_getElem] at h
  obtain⟨hk,h1,_⟩:=h
  refine⟨cp[k].2,?_⟩
  rw [List.getElem?_eq_getElem hk]
  have:=eq_of_beq h1
  rw [←this]
theorem fB{k:Nat}{x:Sv}(h:(mM cp nT e)[k]?=some (some x)):∃i s,cp[k]?=some (i,s)∧e[i]?=some (some x):=by
  unfold mM at h
  have h:=cV h
  rw [List.getElem?_map] at h
  obtain⟨p,h1,h2⟩:=Option.map_eq_some_iff.mp h
  refine⟨p.1,p.2,h1,?_⟩
  cases q:e[p.1]? with
  | none=>rw [q] at h2;cases h2
  | some y=>
    rw [q] at h2
    match y,h2 with
    | some (.d z),h2=>exact congrArg some h2
    | some (.l z),h2=>exact congrArg some h2
    | some (.n z),h2=>cases h2
    | none,h2=>cases h2
theorem gK:xP (mM cp nT e):=by
  intro k xss h
  unfold mM at h
  have h:=cV h
  rw [List.getElem?_map] at h
  obtain⟨p,h1,h2⟩:=Option.map_eq_some_iff.mp h
  match (e[p.1]?).join,h2 with
  | some (.d z),h2=>cases h2
  | some (.l z),h2=>cases h2
  | some (.n z),h2=>cases h2
  | none,h2=>cases h2
theorem iV{k i:Nat}{s:Str}{v:V}(h:cp[k]?=some (i,s))(hv:σ[i]?=some (some v)):(et cp nT σ)[k]?=some (some v):=by
  unfold et
  refine c8 ?_
  rw [List.getElem?_map,h]
  simp [hv]
theorem jw{k i:Nat}{s:Str}{v:V}(h:cp[k]?=some (i,s))(hv:(et cp nT σ)[k]?=some (some v)):σ[i]?=some (some v):=by
  unfold et at hv
  have hv:=cV hv
  rw [List.getElem?_map,h] at hv
  simp only [Option.map_some,Option.some.injEq] at hv
  cases q:σ[i]? with
  | none=>rw [q] at hv;cases hv
  | some y=>rw [q] at hv;exact congrArg some hv
theorem kx:∀{cp:List (Nat × Str)} {k j i:Nat} {s t:Str},(cp.map (·.1)).Nodup→cp[k]?=some (i,s)→cp[j]?=some (i,t)→k=j
  | [],k,j,i,s,t,_,h,_=>by simp at h
  | p::r,k,j,i,s,t,hn,h1,h2=>by
    simp only [List.map_cons,List.nodup_cons] at hn
    cases k with
    | zero=>
      simp at h1;subst h1
      cases j with
      | zero=>rfl
      | succ j=>
        have hm:(i,t)∈r:=List.mem_of_getElem? (i:=j) (by simpa using h2)
        exact absurd (List.mem_map.mpr ⟨(i,t),hm,rfl⟩) hn.1
    | succ k=>
      cases j with
      | zero=>
        simp at h2;subst h2
        have hm:(i,s)∈r:=List.mem_of_getElem? (i:=k) (by simpa using h1)
        exact absurd (List.mem_map.mpr ⟨(i,s),hm,rfl⟩) hn.1
      | succ j=>
        have:=kx (cp:=r) (k:=k) (j:=j) hn.2 (by simpa using h1) (by simpa using h2)
        lia
theorem aR.inn(R:aR K F H σ e)(hn:(cp.map (·.1)).Nodup):aR K F H (et cp nT σ) (mM cp nT e)∧lr σ e (et cp nT σ) (mM cp nT e) (iO cp):=by
  refine⟨⟨R.sm,by simp [et,mM],fun k x h=>?_,fun k xs h=>?_,fun k xss h=>absurd h (gK k xss),fun k j l f1 f2=>?_⟩,⟨fun i k xs h1 h2=>?_,fun k ys h=>?_⟩⟩
  · obtain⟨i,s,h1,h2⟩:=fB h
    obtain⟨v,g1,g2⟩:=R.dat i x h2
    exact⟨v,iV h1 g1,g2⟩
  · obtain⟨i,s,h1,h2⟩:=fB h
    obtain⟨l,vs,g1,g2⟩:=R.own i xs h2
    exact⟨l,vs,iV h1 g1,g2⟩
  · obtain⟨xs,h1,h3⟩:=f1.resolve_right fun⟨xss,_,_,z,_⟩=>gK k xss z
    obtain⟨ys,h2,h4⟩:=f2.resolve_right fun⟨xss,_,_,z,_⟩=>gK j xss z
    obtain⟨i,s,a1,a2⟩:=fB h1
    obtain⟨i',s',b1,b2⟩:=fB h2
    have:i=i':=R.inj i i' xs ys l a2 b2 (jw a1 h3) (jw b1 h4)
    subst this
    exact kx hn a1 b1
  · obtain⟨s,g⟩:=er h2
    obtain⟨l,vs,g1,_⟩:=R.own i xs h1
    rw [g1];exact iV g g1
  · obtain⟨i,s,h1,h2⟩:=fB h
    obtain⟨l,vs,g1,_⟩:=R.own i ys h2
    refine⟨i,ys,h2,?_,by rw [g1];exact iV h1 g1⟩
    cases hp:iO cp i with
    | none=>
      unfold iO at hp
      rw [List.findIdx?_eq_none_iff] at hp
      have:=hp _ (List.mem_of_getElem? h1)
      simp at this
    | some j=>
      obtain⟨t,g⟩:=er hp
      rw [kx hn g h1]
theorem aR.putT(R:aR K F H σ e){l:Addr}{ws:List V}(h1:F l=none)(h2:¬cO σ e H l):aR K F (a8 H l (.lst ws)) σ e∧∀a,cO σ e (a8 H l (.lst ws)) a↔ cO σ e H a:=
  R.keep (av.refl F) (fun b o q=>by
    have z:b≠l:=fun z=>by rw [z,h1] at q;cases q
    rw [aF z];exact R.sm b o q) (fun a ⟨i,h⟩=>(R.fpAt h).1) fun a o ha q=>by
      have z:a≠l:=fun z=>h2 (by rw [←z];exact ha)
      rw [aF z];exact q
theorem cL.putT{W:List Nat}{σ':L2.St}{F' H':Hp}{e':En}(x:cL W σ F H e σ' F' H' e'){l:Addr}{o:HO}(h:H l=none)(ho:∀a,cO σ' e' (a8 H' l o) a↔ cO σ' e' H' a):cL W σ F H e σ' F' (a8 H' l o) e':=by
  refine⟨x.sf,fun a q=>?_,x.fr,fun a vs q=>?_,fun a u q n=>?_,fun a q=>x.own a ((ho a).mp q),x.wr⟩
  · by_cases z:a=l
    · rw [z];exact h
    · rw [aF z] at q;exact x.dom a q
  · have z:a≠l:=fun z=>by rw [z,h] at q;cases q
    rw [aF z];exact x.lst a vs q
  · have z:a≠l:=fun z=>by rw [z,h] at q;cases q
    rw [aF z];exact x.tmp a u q n
inductive CI (K:PySem.W.Frag) (W:List Nat) (σ0:L2.St) (F1 H1:Hp) (e0:En) (l:Addr) (P:Hp→En→List PyData→Prop) (σ':L2.St) (H':Hp):Prop
  | mk {F':Hp} {ei:En} {acc:List PyData} {vs:List V} (R:aR K F' H' σ' ei) (X:cL W σ0 F1 H1 e0 σ' F' H' ei) (fl:F' l=none) (no:¬cO σ' ei H' l) (hl:H' l=some (.lst vs)) (da:aC K F' acc vs) (hc:P F' ei acc):CI K W σ0 F1 H1 e0 l P σ' H'
theorem mH{Q:VK}{fi:FI}{g:FG}{W:List Nat}{ft:FT}{fe:FE}(hn:(cp.map (·.1)).Nodup)(hW:∀j∈W,cp.length≤j)(h:fE K (cJ cp nT fi g ft fe) σ H Q):oD cp nT (fI K fi) (fG K g W) (fT K ft) (fE K fe) σ H Q:=by
  obtain⟨F0,e0,z,e',R0,hf,q⟩:=h
  unfold cJ at hf
  obtain⟨⟨items,own,e1⟩,h1,hf⟩:=Option.bind_eq_some_iff.mp hf
  dsimp only at hf
  split at hf
  case isFalse=>cases hf
  case isTrue hO=>
  obtain⟨⟨out,eo⟩,h2,hf⟩:=Option.bind_eq_some_iff.mp hf
  dsimp only at hf
  split at hf
  case isFalse=>cases hf
  case isTrue hB=>
  cases hf
  refine⟨⟨F0,e0,items,own,e1,R0,h1,fun J F1 H1 X1 R1 kp ok=>?_⟩⟩
  intro l hl
  obtain⟨Ri,sub⟩:=R1.inn (nT:=nT) hn
  have hFl:F1 l=none:=R1.freeF hl
  let Iv:Nat→L2.St→Hp→Prop:=fun i=>CI K W (et cp nT σ) F1 H1 (mM cp nT e1) l fun _ ei acc=>dt g ft fe (items.drop i) ei acc=some (out,eo)
  have notown:∀p∈own,∀a,σ[p.1]?=some (some (.ref a))→¬cO (et cp nT σ) (mM cp nT e1) H1 a:=by
    rintro p hp a ha ⟨k,zf⟩
    obtain⟨xs,c1,c2⟩:=zf.resolve_right fun⟨xss,_,_,z,_⟩=>gK k xss z
    obtain⟨i,s,d1,d2⟩:=fB c1
    have e2:=jw d1 c2
    have:p.1=i:=R1.inj p.1 i p.2 xs a (kp p hp) d2 ha e2
    have hh:=List.all_eq_true.mp hO p hp
    simp only [Bool.not_eq_true',List.any_eq_false,beq_iff_eq] at hh
    exact hh (i,s) (List.mem_of_getElem? d1) this.symm
  refine⟨fun i m σ' H'=>m=items.length - i∧i≤items.length∧Iv i σ' H',⟨items.length,by simp,Nat.zero_le _,.mk (Ri.putT hFl (fun z=>(Ri.ownH l z) hl)).1 (cL.refl.putT hl (Ri.putT hFl (fun z=>(Ri.ownH l z) hl)).2) hFl (fun z=>(Ri.ownH l (((Ri.putT hFl (fun z=>(Ri.ownH l z) hl)).2 l).mp z)) hl) au aC.nil h2⟩,?_⟩
  rintro i m σ' H' ⟨rfl,hi,⟨R',X',fl,no,hl',da,hc⟩⟩
  rename_i F' ei acc vs
  have held:pM K σ F' H' own:=fun p hp=>by
    obtain⟨a,us,c1,c2,c3,c4⟩:=R1.own p.1 p.2 (kp p hp)
    exact⟨a,us,c1,X'.tmp a _ c3 (notown p hp a c1),c4.mono X'.sf⟩
  obtain⟨go,stop,yld⟩:=ok F' H' X'.sf R'.sm held
  by_cases hlt:i < items.length
  · have hd:items.drop i=items[i]::items.drop (i+1):=List.drop_eq_getElem_cons hlt
    rw [hd] at hc
    unfold dt at hc
    obtain⟨e2,c2,hc⟩:=Option.bind_eq_some_iff.mp hc
    obtain⟨⟨b,e3⟩,c3,hc⟩:=Option.bind_eq_some_iff.mp hc
    refine .inr ⟨go i hlt,Iv (i+1),fun σ2 H2 r=>⟨items.length - (i+1),by lia,rfl,hlt,r⟩,fun x H2 hy=>?_⟩
    obtain⟨F2,sH,sF2,sm2,fz,hx⟩:=yld i items[i] x H2 (List.getElem?_eq_getElem hlt) hy
    obtain⟨R2,X2⟩:=R'.step sH sF2 sm2 fz
    refine⟨F2,ei,items[i],e2,R2,hx,c2,fun σ3 X3 R3=>⟨F2,e2,b,e3,R3,c3,fun F4 H4 X4 R4=>?_⟩⟩
    have hlH2:H2 l=some (.lst vs):=sH _ _ hl'
    have no2:¬cO σ' ei H2 l:=fun z=>by
      rcases X2.ow l z with z | z
      · exact no z
      · rw [hl'] at z;cases z
    have no3:¬cO σ3 e2 H2 l:=fun z=>by
      rcases X3.own l z with z | z
      · exact no2 z
      · rw [hlH2] at z;cases z
    have fl2:F2 l=none:=fz l fl (by rw [hl'];simp)
    have hlH4:H4 l=some (.lst vs):=X4.tmp l _ hlH2 no3
    have fl4:F4 l=none:=X4.fr l vs fl2 hlH2 no3
    have no4:¬cO σ3 e3 H4 l:=fun z=>by
      rcases X4.ow l z with z | z
      · exact no3 z
      · rw [hlH2] at z;cases z
    have E4:cL W (et cp nT σ) F1 H1 (mM cp nT e1) σ3 F4 H4 e3:=((X'.trans X2.s).trans X3).trans X4.s
    cases b with
    | false=>
      rw [if_neg (by simp)] at hc
      exact yy (.mk R4 E4 fl4 no4 hlH4 (da.mono (sF2.trans X4.sf)) hc)
    | true=>
      rw [if_pos rfl] at hc
      obtain⟨⟨r,e5⟩,c5,hc⟩:=Option.bind_eq_some_iff.mp hc
      obtain⟨d,c6,hc⟩:=Option.bind_eq_some_iff.mp hc
      split at hc
      case isFalse=>cases hc
      case isTrue hlen=>
      refine yz ⟨F4,e3,r,e5,R4,c5,fun F5 H5 v X5 R5 A5=>?_⟩
      have hlH5:H5 l=some (.lst vs):=X5.tmp l _ hlH4 no4
      have fl5:F5 l=none:=X5.fr l vs fl4 hlH4 no4
      have no5:¬cO σ3 e5 H5 l:=fun z=>by
        rcases X5.ow l z with z | z
        · exact no4 z
        · rw [hlH4] at z;cases z
      obtain⟨F6,R6,s6,d6,f6⟩:=cC.frozen R5 (rs:=[r]) (vs:=[v]) ⟨v,[],rfl,A5,rfl⟩ (jV c6)
      have fl6:F6 l=none:=f6 l fl5 (by rw [hlH4];simp)
      have X6:=X5.frz s6 f6
      have ll:=da.len
      have sl:sizeLine=16777216:=sizeLine_eq
      have dv:DA K F6 d v:=by
        simp only [aC] at d6
        obtain⟨v',r',e',hv,_⟩:=d6
        cases e';exact hv
      obtain⟨R7,o7⟩:=R6.putT (ws:=vs++[v]) fl6 no5
      exact⟨vs,hlH5,by lia,.mk R7 ((E4.trans X6.s).putT hl o7) fl6 (fun z=>no5 ((o7 l).mp z)) au ((da.mono (sF2.trans (X4.sf.trans (X5.sf.trans s6)))).append (aC.one dv)) hc⟩
  · have hd:items.drop i=[]:=List.drop_eq_nil_of_le (by lia)
    rw [hd] at hc
    cases hc
    refine .inl ⟨stop i (by lia),?_⟩
    obtain⟨R9,X9,o9⟩:=mz R1 sub gK X'.sf X'.dom X'.fr X'.lst X'.tmp R' (fun i k xs g1 g2=>X'.wr k fun z=>by
      obtain⟨s,g⟩:=er g2
      have:=(List.getElem?_eq_some_iff.mp g).1
      have:=hW k z
      lia) fun i k xs g1 g2=>by
        obtain⟨s,g⟩:=er g2
        unfold iZ at hB
        have hb:=List.all_eq_true.mp hB _ (List.mem_of_getElem? g)
        simp only [g1,g2,Option.getD_some,rZ,Bool.not_true,Bool.false_or] at hb
        exact sJ.mp hb
    exact q F' H' (.ref l) (X1.trans X9) R9 ⟨l,vs,rfl,X1.dom l hl,fl,hl',da,fun z=>R1.ownH l (o9 l z) hl⟩
end
end L2
namespace L2
open PySem PySem.Spec PyProof.Rows
section
variable{X:Cx}{K:PySem.W.Frag}{a b:Expr}{es:List Expr}{fa fb:FE}{fs:FA}{pos p p2 p3:Pos}{lo hi:Option Expr}
def mX:En→Rv→Option Rv:=fun _ x=>(bM x).map fun i=>.d (.int (-i))
theorem yH:xZ K (rU fun i=>.int (-i)) mX:=by
  intro σ H0 F H e x z v Q R A hg q
  obtain⟨i,h5,h4⟩:=Option.map_eq_some_iff.mp hg
  cases h4
  exact⟨i,bG A h5,q F H _ (cK.refl _ _ _ _) R js⟩
theorem om(ha:PE X a (fE K fa)):PE X (.UnaryOp .USub a pos) (fE K (mL mX fa)):=y4 xF yH ha
theorem aV(hK:X.K=K)(ha:PE X a (fE K fa))(hb:PE X b (fE K fb)):PE X (.BinOp a .Add b pos) (fE K (aq aU fa fb)):=j9 (hK ▸ s_) x8 ha hb
theorem gR(ha:PE X a (fE K fa))(hb:PE X b (fE K fb)):PE X (.BinOp a .Sub b pos) (fE K (aq di fa fb)):=j9 wu zp ha hb
theorem jm(hK:X.K=K)(ha:PE X a (fE K fa))(hb:PE X b (fE K fb)):PE X (.BinOp a .Mult b pos) (fE K (aq fY fa fb)):=j9 (hK ▸ tD) yG ha hb
theorem ee(ha:PE X a (fE K fa))(hb:PE X b (fE K fb)):PE X (.BinOp a .FloorDiv b pos) (fE K (aq c7 fa fb)):=j9 qM vz ha hb
theorem aE(ha:PE X a (fE K fa))(hb:PE X b (fE K fb)):PE X (.BinOp a .Mod b pos) (fE K (aq aD fa fb)):=j9 tu yF ha hb
theorem rg(ha:PE X a (fE K fa))(hb:PE X b (fE K fb)):PE X (.BinOp a .Pow b pos) (fE K (aq kM fa fb)):=j9 wo yW ha hb
theorem cn(hK:X.K=K)(ha:PE X a (fE K fa))(hb:PE X b (fE K fb))(hs:kl b):PE X (.Subscript a b pos) (fE K (aq eg fa fb)):=y0 (hK ▸ Au) Av ha hb hs
theorem gQ{fl fh:FO}(hK:X.K=K)(he:PE X a (fE K fa))(hl:PO X lo (fO K fl))(hh:PO X hi (fO K fh)):PE X (.Subscript a (.Slice lo hi none p2) pos) (fE K (r9 fa fl fh)):=by subst hK;exact rm he hl hh
structure fQ (X:Cx) (K:PySem.W.Frag) (op:CmpOp) (g:En→Rv→Rv→Option Rv):Prop where
  ex:∃r,dz X (compareOp op) r∧dF K r g
theorem sr:fQ X K .Lt u9:=⟨_,yN,Ay⟩
theorem yf:fQ X K .LtE yo:=⟨_,yM,Ax⟩
theorem Ah:fQ X K .Gt zW:=⟨_,yL,An⟩
theorem yd:fQ X K .GtE ym:=⟨_,yK,Am⟩
theorem gA{k:Nat}(hK:X.K=K)(hr:cc k X.A):fQ X K .Eq (cg false):=⟨_,hK ▸ wc hr,uL⟩
theorem su{k:Nat}(hK:X.K=K)(hr:cc k X.A):fQ X K .NotEq (cg true):=⟨_,hK ▸ wm hr,uL⟩
theorem sv{k:Nat}(hK:X.K=K)(hr:cc k X.A):fQ X K .NotIn (vA true):=⟨_,hK ▸ pf hr,Ar⟩
theorem ye:fQ X K .Is yn:=⟨_,wf,As⟩
theorem ko:fQ X K .IsNot eS:=⟨_,pd,sL⟩
theorem jl{op:CmpOp}{g:En→Rv→Rv→Option Rv}(h:fQ X K op g)(ha:PE X a (fE K fa))(hb:PE X b (fE K fb))(hm:behindInMarks op b=false):PE X (.Compare a [op] [b] pos) (fE K (aq g fa fb)):=by
  obtain⟨r,h1,h2⟩:=h.ex;exact wW h1 h2 ha hb hm
theorem a7{op:CmpOp}{g:En→Rv→Rv→Option Rv}(h:fQ X K op g)(ha:PE X a (fE K fa))(hb:PE X b (fE K fb))(hm:behindInMarks op b=false):PT X (.Compare a [op] [b] pos) (fT K (aS (aq g fa fb))):=by
  obtain⟨r,h1,h2⟩:=h.ex;exact wZ h1 h2 ha hb hm
theorem uf{op op':CmpOp}{g g':En→Rv→Rv→Option Rv}{c:Expr}{fc:FE}(h:fQ X K op g)(h':fQ X K op' g')(ha:PE X a (fE K fa))(hb:PE X b (fE K fb))(hc:PE X c (fE K fc))(hm:lastMarks [op,op'] [b,c]=false):PE X (.Compare a [op,op'] [b,c] pos) (fE K (fg g g' fa fb fc)):=by
  obtain⟨r,h1,h2⟩:=h.ex;obtain⟨r',h3,h4⟩:=h'.ex;exact rj h1 h2 h3 h4 ha hb hc hm
structure kj (X:Cx) (K:PySem.W.Frag) (x:Str) (g:En→List Rv→Option Rv):Prop where
  ex:(∃id r,dN X (.builtin id) r∧dr K r g∧bootBuiltins x=some (.builtin id))∨∃T r,dN X (.type T) r∧dr K r g∧bootBuiltins x=some (.type T)
theorem aX{x:Str}{g:En→List Rv→Option Rv}(h:kj X K x g)(hg:Gl X x)(hm:X.mg x=none)(ha:PA X (a::es) (fA K fs))(hn:x≠"__name__")(hdb:(x==("__debug__":Str))=false)
    (he:starEach (a::es) X.env=(false,eval a X.env)::starEach es X.env)(hpl:(backTo pos (starEach es X.env)).any (·.1)=false):PE X (.Call (.Name x p) (a::es) [] pos) (fE K (aM g fs)):=by
  rcases h.ex with ⟨id,r,h1,h2,h3⟩ | ⟨T,r,h1,h2,h3⟩
  · exact rh h1 h2 hg hm h3 ha hn hdb he hpl
  · exact pv h1 h2 hg hm h3 ha hn hdb he hpl
theorem b_len(hK:X.K=K):kj X K "len" (g1 fX):=⟨.inl ⟨_,_,hK ▸ kr,yB,PySem.boot_len⟩⟩
theorem b_abs:kj X K "abs" (g1 oQ):=⟨.inl ⟨_,_,pX,x6,PyProof.Rows.boot_abs⟩⟩
theorem b_min(hc:X.calm=true):kj X K "min" (g2 kL):=⟨.inl ⟨_,_,oP hc,yE,PyProof.Rows.boot_min⟩⟩
theorem b_max(hc:X.calm=true):kj X K "max" (g2 iM):=⟨.inl ⟨_,_,oO hc,yD,PyProof.Rows.boot_max⟩⟩
theorem b_int:kj X K "int" (g1 oR):=⟨.inr ⟨_,_,oM,yr,PyProof.Rows.boot_int⟩⟩
theorem b_tuple(hK:X.K=K):kj X K "tuple" (g1 ck):=⟨.inr ⟨_,_,hK ▸ jE,ur,PyProof.Rows.boot_tuple⟩⟩
theorem b_list(hK:X.K=K):kj X K "list" (g1 oe):=⟨.inr ⟨_,_,hK ▸ ku,vO,PyProof.Rows.boot_list⟩⟩
theorem b_all{k:Nat}(hK:X.K=K)(hr:cc k X.A):kj X K "all" (g1 (iC jY)):=⟨.inl ⟨_,_,pY hr hK,x9,pW⟩⟩
def hZ(fs:FA):FE:=fun e=>(fs e).bind fun p=>match p.1 with
  | [r]=>(bM r).bind fun j=>if 0≤j∧j≤100000 then some (.l ((gg j.toNat).map .int),p.2) else none
  | _=>none
theorem l_(hc:X.calm=true)(hgl:Gl X "list")(hml:X.mg "list"=none)(hg:Gl X "range")(hm:X.mg "range"=none)(ha:PA X [a] (fA K fs))(hs:starEach [a] X.env=[(false,eval a X.env)])
    (he:starEach [.Call (.Name "range" p2) [a] [] p3] X.env=[(false,eval (.Call (.Name "range" p2) [a] [] p3) X.env)]):PE X (.Call (.Name "list" p) [.Call (.Name "range" p2) [a] [] p3] [] pos) (fE K (hZ fs)):=(k8 hc hgl hml hg hm ha hs he).mono fun σ H Q h=>by
  obtain⟨F,e,z,e',R,hf,q⟩:=h
  unfold hZ at hf
  obtain⟨⟨rs,e1⟩,h1,hf⟩:=Option.bind_eq_some_iff.mp hf
  match rs,h1,hf with
  | [r],h1,hf=>
  obtain⟨j,h2,hf⟩:=Option.bind_eq_some_iff.mp hf
  split at hf
  case isFalse=>cases hf
  case isTrue hj=>
  cases hf
  refine⟨F,e,_,e1,R,h1,fun F1 H1 vs X1 R1 A1=>?_⟩
  obtain⟨v,rfl,A2⟩:=iU A1
  refine⟨j,by rw [bG A2 h2],hj.1,hj.2,fun t ht=>?_⟩
  obtain⟨R3,X3,hF,no⟩:=R1.newL (vs:=(gg j.toNat).map V.int) ht
  exact q _ _ _ (X1.trans X3) R3 ⟨t,_,rfl,X1.dom _ ht,hF,au,aC.ints.mpr rfl,no⟩
abbrev b7:FT:=fun e=>some (true,e)
theorem pO.mono{ifs:List Expr}{t t':TT}(h:pO X ifs t)(m:∀σ H Q,t' σ H Q→t σ H Q):pO X ifs t':=fun pins s σ H Q I q=>h pins s σ H Q I (m σ H Q q)
theorem eE:pO X [] (fT K b7):=ua.mono fun σ H Q h=>by
  obtain⟨F,e,b,e',R,hf,q⟩:=h
  cases hf
  exact q F H (cK.refl _ _ _ _) R
theorem oq{c:Expr}{ft:FT}(h:PT X c (fT K ft)):pO X [c] (fT K ft):=uc h
theorem e7{elt iter tg:Expr}{ifs:List Expr}{scope:Scope}{fi:FI}{g:FG}{ft:FT}{fe:FE}{W:List Nat}(sc0:Scope)(N0:List Str)(cp:List (Nat × Str))(tgN:List Str)
    (hc:X.calm=true)(hsc:X.env.scope=sc0)(hN0:X.N=N0)(hi:PI X tg iter (fI K fi))
    (hg:∀C s0 H0 fp,PG (aH X scope cp tgN C s0 H0 fp) tg (fG K g W))
    (ht:∀C s0 H0 fp,pO (aH X scope cp tgN C s0 H0 fp) ifs (fT K ft))
    (he:∀C s0 H0 fp,PE (aH X scope cp tgN C s0 H0 fp) elt (fE K fe))
    (hk:scope.kind=.function)(hcell:∀y∈scope.names,y.2≠.cell)(hnames:∀y∈scope.names,y.2=.local→scope.names.lookup y.1=some .local)
    (hfr:∀y∈scope.names,y.2=.free→scope.names.lookup y.1=some .free∧sc0.names.lookup y.1=some .cell)
    (hcp:∀p∈cp,N0[p.1]?=some p.2)(hcq:∀p∈cp,sc0.names.lookup p.2=some .cell∧scope.names.lookup p.2=some .free)(hnd:(cp.map (·.1)).Nodup)(hW:∀j∈W,cp.length≤j)
    (hs:∀x,foldedSetIterable iter X.env x=pure x):
    PE X (.ListComp elt [⟨tg,iter,ifs,0⟩] scope pos) (fE K (cJ cp tgN.length fi g ft fe)):=(tL sc0 N0 cp tgN hc hsc hN0 hi hg ht he hk hcell hnames hfr hcp hcq hs).mono fun _ _ _ h=>mH hnd hW h
theorem pq{ix:Nat}{nm:Str}{posn poss:Pos}{elt iter tg:Expr}{ifs:List Expr}{scope:Scope}{fi:FI}{g:FG}{ft:FT}{fe:FE}{W:List Nat}(sc0:Scope)(N0:List Str)(cp:List (Nat × Str))(tgN:List Str)
    (hc:X.calm=true)(hsc:X.env.scope=sc0)(hN0:X.N=N0)(hi:PI X tg iter (fI K fi))
    (hg:∀C s0 H0 fp,PG (aH X scope cp tgN C s0 H0 fp) tg (fG K g W))
    (ht:∀C s0 H0 fp,pO (aH X scope cp tgN C s0 H0 fp) ifs (fT K ft))
    (he:∀C s0 H0 fp,PE (aH X scope cp tgN C s0 H0 fp) elt (fE K fe))
    (hk:scope.kind=.function)(hcell:∀y∈scope.names,y.2≠.cell)(hnames:∀y∈scope.names,y.2=.local→scope.names.lookup y.1=some .local)
    (hfr:∀y∈scope.names,y.2=.free→scope.names.lookup y.1=some .free∧sc0.names.lookup y.1=some .cell)
    (hcp:∀p∈cp,N0[p.1]?=some p.2)(hcq:∀p∈cp,sc0.names.lookup p.2=some .cell∧scope.names.lookup p.2=some .free)(hnd:(cp.map (·.1)).Nodup)(hW:∀j∈W,cp.length≤j)
    (hNd:X.N.Nodup)(hix:X.N[ix]?=some nm)(hlc:X.env.scope.names.lookup nm=some .local)(hsw:swapsWith (.ListComp elt [⟨tg,iter,ifs,0⟩] scope pos) (some (.Name nm posn)) poss.line X.env=pure true)
    (hs:∀x,foldedSetIterable iter X.env x=pure x):
    PS X (.Assign [.Name nm posn] (.ListComp elt [⟨tg,iter,ifs,0⟩] scope pos) poss) (fS K (aO ix (cJ cp tgN.length fi g ft fe)) [ix]):=(nv sc0 N0 cp tgN hc hsc hN0 hi hg ht he hk hcell hnames hfr hcp hcq hNd hix hlc hsw hs).mono fun D σ H h=>by
  obtain⟨F,e,fl,R,hf,q⟩:=h
  unfold aO at hf
  obtain⟨⟨r,e1⟩,h1,hf⟩:=Option.bind_eq_some_iff.mp hf
  obtain⟨e2,h2,hf⟩:=Option.map_eq_some_iff.mp hf
  cases hf
  refine mH hnd hW ⟨F,e,r,e1,R,h1,fun F1 H1 v X1 R1 A1=>?_⟩
  obtain⟨x,R2⟩:=rf R X1 R1 A1 h2
  exact q F1 H1 _ x R2
variable{o:Expr}{fo:FE}{apos cpos:Pos}
theorem bt(hK:X.K=K)(ho:PE X o (fE K fo))(ha:PA X (a::es) (fA K fs))(hbase:attributeBase o "append" X.env (eval o X.env)=eval o X.env)
    (hfew:((backTo cpos (starEach (a::es) X.env)).all (fun x=> !x.1)&&(backToKw cpos (keywordEach [] X.env)).all (fun x=>x.1.isSome)
      &&decide ((a::es).length+([]:List Keyword).length+(if ([]:List Keyword).isEmpty then 0 else 1) < 30))=true)
    (hline:(apos.endLine==cpos.line)=true)(hs:starEach (a::es) X.env=(false,eval a X.env)::starEach es X.env)(hplain:(backTo cpos (starEach es X.env)).any (·.1)=false):
    PE X (.Call (.Attribute o "append" apos) (a::es) [] cpos) (fE K (bA be fo fs)):=by
  subst hK;exact vf PySem.F.slot_list_append PySem.F.type_list_append il pQ ho ha hbase hfew hline hs hplain
theorem oo(hK:X.K=K)(ho:PE X o (fE K fo))(ha:PA X (a::es) (fA K fs))(hbase:attributeBase o "pop" X.env (eval o X.env)=eval o X.env)
    (hfew:((backTo cpos (starEach (a::es) X.env)).all (fun x=> !x.1)&&(backToKw cpos (keywordEach [] X.env)).all (fun x=>x.1.isSome)
      &&decide ((a::es).length+([]:List Keyword).length+(if ([]:List Keyword).isEmpty then 0 else 1) < 30))=true)
    (hline:(apos.endLine==cpos.line)=true)(hs:starEach (a::es) X.env=(false,eval a X.env)::starEach es X.env)(hplain:(backTo cpos (starEach es X.env)).any (·.1)=false):
    PE X (.Call (.Attribute o "pop" apos) (a::es) [] cpos) (fE K (bA f_ fo fs)):=by
  subst hK;exact vf PySem.F.slot_list_pop PySem.F.type_list_pop qz tU ho ha hbase hfew hline hs hplain
theorem yZ(hK:X.K=K)(ho:PE X o (fE K fo))(hbase:attributeBase o "pop" X.env (eval o X.env)=eval o X.env)(hline:(apos.endLine==cpos.line)=true):
    PE X (.Call (.Attribute o "pop" apos) [] [] cpos) (fE K (bA m6 fo ah)):=by
  subst hK;exact wV PySem.F.slot_list_pop PySem.F.type_list_pop vQ yV ho hbase hline
end
end L2
namespace L2
open PySem PySem.Spec PyProof.Rows
theorem nD{K:PySem.W.Frag}{H:Hp}{a:Addr}{ns:List Int}{m:FM}{as':List Sv}{Q:VK}{E:XK}(hS:ef K H a (ns.map V.int))(hm:m [.d (.list (ns.map .int))]=some (.d (.bool true),as'))(q:∀H',Q (.bl true) H'):b6 K 1 m [.ref a] H Q E:=by
  refine⟨rfl,H,[.d (.list (ns.map .int))],_,as',?_,?_,hm,trivial,fun F' H' v X' R' A'=>?_⟩
  · refine⟨av.refl _,rfl,fun i x h=>?_,fun i xs h=>?_,fun i xss h=>?_,fun i j l f1 _=>?_⟩
    · match i,h with
      | 0,h=>
        simp at h;subst h
        exact⟨.ref a,rfl,dh.mpr ⟨a,_,rfl,hS,aC.ints.mpr rfl⟩⟩
      | i+1,h=>simp at h
    · match i,h with
      | 0,h=>simp at h
      | i+1,h=>simp at h
    · match i,h with
      | 0,h=>simp at h
      | i+1,h=>simp at h
    · rcases f1 with ⟨_,h,_⟩ | ⟨_,_,_,h,_⟩
      · match i,h with
        | 0,h=>simp at h
        | i+1,h=>simp at h
      · match i,h with
        | 0,h=>simp at h
        | i+1,h=>simp at h
  · intro i xss h
    match i,h with
    | 0,h=>simp at h
    | i+1,h=>simp at h
  · rw [ci.mp (show DA K F' (.bool true) v from A')];exact q H'
end L2
namespace L2
open PySem PySem.Spec PyProof.Rows
section
variable{K:PySem.W.Frag}{σ:L2.St}{H0 F H F' H':Hp}{e e':En}
end
section
variable{X:Cx}{K:PySem.W.Frag}{a b:Expr}{es:List Expr}{fa fb:FE}{fs:FA}{pos p p2 p3 pos':Pos}{x:Str}{i:Nat}
def nC(k:Int):En→Option Int:=fun _=>some k
end
end L2
namespace L2
open PySem PySem.Spec PyProof.Rows
theorem ic{C:Int→Int→Bool}{f:Int→Int→PyData}{e:En}{i j:Int}(h:C i j=true):gI C f e (.d (.int i)) (.d (.int j))=some (.d (f i j)):=by simp [gI,bM,h]
theorem cf{e:En}{i j:Int}:aU e (.d (.int i)) (.d (.int j))=some (.d (.int (i+j))):=rfl
theorem ja{e:En}{i j:Int}:di e (.d (.int i)) (.d (.int j))=some (.d (.int (i - j))):=rfl
theorem jb{e:En}{i j:Int}(h:io i j=true):fY e (.d (.int i)) (.d (.int j))=some (.d (.int (i*j))):=by
  unfold fY oU lK;rw [ic h];rfl
theorem qA{i j:Int}(h1: -(2 ^ 64) < i)(h2:i < 2 ^ 64):io i j=true:=by
  have:eH i=true:=by unfold eH;rw [decide_eq_true h1,decide_eq_true h2];rfl
  unfold io;rw [this];simp
theorem kS{i j:Int}(h1: -(2 ^ 64) < j)(h2:j < 2 ^ 64):io i j=true:=by
  have:eH j=true:=by unfold eH;rw [decide_eq_true h1,decide_eq_true h2];rfl
  unfold io;rw [this];simp
theorem ap{e:En}{i j:Int}(h:0 < j):aD e (.d (.int i)) (.d (.int j))=some (.d (.int (i % j))):=by
  unfold aD;rw [ic (by simp;lia)]
  rw [Int.fmod_eq_emod_of_nonneg i (by lia)]
theorem cx{e:En}{i j:Int}(h:0 < j)(h2:Bt 8000 j):c7 e (.d (.int i)) (.d (.int j))=some (.d (.int (i / j))):=by
  unfold c7;rw [ic (by simp [gw.mpr h2];lia)]
  rw [Int.fdiv_eq_ediv_of_nonneg i (by lia)]
theorem fx{e:En}{i j:Int}{neg:Bool}:cg neg e (.d (.int i)) (.d (.int j))=some (.d (.bool (if neg then !(i==j) else i==j))):=by
  unfold cg;simp [gD,SeqAt.shaped,PyData.canLay0,PyData.depth,PyData.eqv]
theorem og{e:En}{i j:Int}:u9 e (.d (.int i)) (.d (.int j))=some (.d (.bool (decide (i < j)))):=rfl
theorem n_{e:En}{i j:Int}:yo e (.d (.int i)) (.d (.int j))=some (.d (.bool (decide (i≤j)))):=rfl
theorem nZ{e:En}{i j:Int}:zW e (.d (.int i)) (.d (.int j))=some (.d (.bool (decide (j < i)))):=rfl
theorem nY{e:En}{i j:Int}:ym e (.d (.int i)) (.d (.int j))=some (.d (.bool (decide (j≤i)))):=rfl
theorem lJ{e:En}{i j:Int}:g2 kL e [.d (.int i),.d (.int j)]=some (.d (.int (min i j))):=by
  show some (Rv.d (.int (if j < i then j else i)))=_
  congr 3
  split<;>lia
theorem lI{e:En}{i j:Int}:g2 iM e [.d (.int i),.d (.int j)]=some (.d (.int (max i j))):=by
  show some (Rv.d (.int (if j > i then j else i)))=_
  congr 3
  split<;>lia
theorem lM{e:En}{i:Int}:mX e (.d (.int i))=some (.d (.int (-i))):=rfl
theorem j2{e:En}{b:Bool}:g1 oR e [.d (.bool b)]=some (.d (.int (if b then 1 else 0))):=rfl
theorem lD{e:En}{i:Int}:g1 oQ e [.d (.int i)]=some (.d (.int i.natAbs)):=by
  show some (Rv.d (.int (if i < 0 then -i else i)))=_
  congr 3
  split<;>lia
theorem eP{j:Int}(h1:0 < j)(h2:j < 2 ^ 64):Bt 8000 j:=Bt.mono (m:=64) (by unfold Bt;lia) (by decide)
theorem fU{α:Type}{xs:List α}{i:Int}(h0:0≤i)(h:i < xs.length):atI xs i=xs[i.toNat]?:=by
  unfold atI qr
  rw [if_pos h0,if_pos h];rfl
theorem lH{e:En}{i:Nat}{xs:List PyData}{neg:Bool}(h:e[i]?=some (some (.l xs)))(hs:SeqAt.shaped (.list xs)=true):cg neg e (.s i) (.l [])=some (.d (.bool (if neg then !xs.isEmpty else xs.isEmpty))):=by
  unfold cg
  simp only [gD,h,Option.bind_some,hs]
  have h0:SeqAt.shaped (.list [])=true:=by simp [SeqAt.shaped,PyData.canLay0,PyData.canLayAll0,PyData.depth,PyData.depthAll]
  rw [h0]
  cases xs<;>simp [PyData.eqv,PyData.eqvAll]
theorem iG(ns:List Int):SeqAt.shaped (.list (ns.map .int))=true∧SeqAt.shaped (.tuple (ns.map .int))=true:=by
  have h1:PyData.canLayAll0 (ns.map PyData.int)=true:=by
    induction ns with
    | nil=>rfl
    | cons n r ih=>simp [PyData.canLayAll0,PyData.canLay0,ih]
  have h2:PyData.depthAll (ns.map PyData.int)=0:=by
    clear h1
    induction ns with
    | nil=>rfl
    | cons n r ih=>simp [PyData.depthAll,PyData.depth,ih]
  constructor<;>simp [SeqAt.shaped,PyData.canLay0,PyData.depth,h1,h2]
theorem bo{own:eK}{g:FG}{f:FS}(P:Nat→En→Prop):∀(items:List PyData) (k:Nat) (e:En),(∀i x e,items[i]?=some x→P (k+i) e→∃e1 e2,g x e=some e1∧f e1=some (.nx e2)∧keeps own e2∧P (k+i+1) e2)→P k e→∃e',fF own g f items e=some (.nx e')∧P (k+items.length) e'
  | [],k,e,_,h=>⟨e,rfl,h⟩
  | x::r,k,e,hs,h=>by
    obtain⟨e1,e2,h1,h2,h3,h4⟩:=hs 0 x e rfl h
    obtain⟨e',h5,h6⟩:=bo P r (k+1) e2 (fun i y e hy hp=>by
      have:=hs (i+1) y e (by simpa using hy) (by rw [show k+(i+1)=k+1+i by lia];exact hp)
      rw [show k+(i+1)+1=k+1+i+1 by lia] at this
      exact this) h4
    refine⟨e',?_,by rw [List.length_cons,show k+(r.length+1)=k+1+r.length by lia];exact h6⟩
    unfold fF
    simp only [h1,h2,Option.bind_some,if_pos h3]
    exact h5
theorem aY{e:En}:keeps [] e:=fun _ h=>by cases h
theorem bX{W:List Nat}{fi:FI}{g:FG}{f:FS}{e e1:En}{items:List PyData}(h:fi e=some (items,[],e1)):bS W fi g f e=fF [] g f items e1:=by
  unfold bS;rw [h];rfl
theorem bR{lo:Int}{n i:Nat}{x:PyData}(h:(aL lo n)[i]?=some x):x=.int (lo+i)∧i < n:=by
  unfold aL at h
  rw [List.getElem?_map] at h
  obtain⟨k,h1,rfl⟩:=Option.map_eq_some_iff.mp h
  obtain⟨h2,h3⟩:=List.getElem?_eq_some_iff.mp h1
  simp at h2 h3
  subst h3
  exact⟨rfl,h2⟩
theorem a_{lo:Int}{n:Nat}:(aL lo n).length=n:=by simp [aL]
theorem bg{fs:FA}{e e1:En}{n:Int}(h:fs e=some ([.d (.int n)],e1))(h1: -1000000≤n)(h2:n≤1000000):bx fs e=some (aL 0 n.toNat,[],e1):=by
  unfold bx;rw [h]
  have:rF n=true:=by unfold rF;rw [decide_eq_true h1,decide_eq_true h2];rfl
  simp [bM,this]
theorem jC{ft:FT}{f:FS}(P:En→Prop)(μ:En→Nat)(hs:∀e,P e→(∃e1,ft e=some (false,e1)∧True)∨∃e1 e2,ft e=some (true,e1)∧f e1=some (.nx e2)∧P e2∧μ e2 < μ e):
    ∀(n:Nat) (e:En),P e→μ e < n→∃e0 e',b_ ft f n e=some (.nx e')∧P e0∧ft e0=some (false,e'):=by
  intro n
  induction n with
  | zero=>intro e _ h;lia
  | succ n ih=>
    intro e hp hm
    rcases hs e hp with ⟨e1,h1,_⟩ | ⟨e1,e2,h1,h2,h3,h4⟩
    · exact⟨e,e1,by unfold b_;rw [h1];rfl,hp,h1⟩
    · obtain⟨e0,e',g1,g2⟩:=ih e2 h3 (by lia)
      exact⟨e0,e',by unfold b_;rw [h1];simp only [Option.bind_some,if_true,h2];exact g1,g2⟩
theorem el{cs:En}{ft:FT}{fe:FE}{b:PyData→Bool}{y:PyData→PyData}:∀(items:List PyData) (t:Option Sv) (acc:List PyData),(∀x∈items,ft (cs++[some (.d x)])=some (b x,cs++[some (.d x)]))→(∀x∈items,b x=true→fe (cs++[some (.d x)])=some (.d (y x),cs++[some (.d x)]))→
    acc.length+items.length≤1000000→∃t',dt (ag cs.length) ft fe items (cs++[t]) acc=some (acc++(items.filter b).map y,cs++[t'])
  | [],t,acc,_,_,_=>⟨t,by simp [dt]⟩
  | x::r,t,acc,h1,h2,hl=>by
    have hg:ag cs.length x (cs++[t])=some (cs++[some (.d x)]):=by simp [ag]
    have h1x:=h1 x (by simp)
    unfold dt
    rw [hg]
    simp only [Option.bind_some,h1x]
    cases hb:b x with
    | true=>
      simp only [if_true,h2 x (by simp) hb,Option.bind_some,lA]
      rw [if_pos (by simp at hl;lia)]
      obtain⟨t',ih⟩:=el (b:=b) (y:=y) r (some (.d x)) (acc++[y x]) (fun z hz=>h1 z (by simp [hz])) (fun z hz=>h2 z (by simp [hz])) (by simp at hl ⊢;lia)
      exact⟨t',by rw [ih];simp [hb]⟩
    | false=>
      simp only [Bool.false_eq_true,if_false]
      obtain⟨t',ih⟩:=el (b:=b) (y:=y) r (some (.d x)) acc (fun z hz=>h1 z (by simp [hz])) (fun z hz=>h2 z (by simp [hz])) (by simp at hl;lia)
      exact⟨t',by rw [ih];simp [hb]⟩
theorem mY{fa:FE}{e e1:En}{xs:List PyData}(h:fa e=some (.d (.tuple xs),e1)):eJ fa e=some (xs,[],e1):=by
  unfold eJ;rw [h];rfl
theorem qm{fa:FE}{e e1:En}{xs:List PyData}(h:fa e=some (.l xs,e1)):eJ fa e=some (xs,[],e1):=by
  unfold eJ;rw [h];rfl
theorem dX{cp:List (Nat × Str)}{nT:Nat}{fi:FI}{g:FG}{ft:FT}{fe:FE}{e e1 cs:En}{t t':En}{items out:List PyData}(h1:fi e=some (items,[],e1))(hc:mM cp nT e1=cs++t)(hl:cs.length=cp.length)(h3:dt g ft fe items (mM cp nT e1) []=some (out,cs++t')):cJ cp nT fi g ft fe e=some (.l out,e1):=by
  have key:∀i x,e1[i]?=some (some (.l x))→∀k,iO cp i=some k→(cs++t')[k]?=some (some (.l x)):=by
    intro i x hi k hk
    obtain⟨s,hs⟩:=er hk
    have hk2:k < cp.length:=(List.getElem?_eq_some_iff.mp hs).1
    have:(mM cp nT e1)[k]?=some (some (.l x)):=by
      unfold mM
      rw [List.getElem?_append_left (by simpa using hk2),List.getElem?_map,hs]
      simp [hi,yC]
    rw [hc,List.getElem?_append_left (by lia)] at this
    rw [List.getElem?_append_left (by lia)]
    exact this
  unfold cJ
  rw [h1]
  simp only [Option.bind_some,List.all_nil,if_true,h3]
  have hb:iZ cp (cs++t') e1=true:=by
    unfold iZ
    rw [List.all_eq_true]
    intro p hp
    match hi:e1[p.1]? with
    | none=>simp [rZ]
    | some none=>simp [rZ]
    | some (some (.d x))=>simp [rZ]
    | some (some (.n x))=>simp [rZ]
    | some (some (.l x))=>
      cases hq:iO cp p.1 with
      | none=>
        unfold iO at hq
        rw [List.findIdx?_eq_none_iff] at hq
        have:=hq p hp
        simp at this
      | some k=>simp [key p.1 x hi k hq,rZ]
  rw [if_pos hb]
  congr 2
  refine List.ext_getElem? fun i=>?_
  rw [bI]
  match hi:e1[i]? with
  | none=>rfl
  | some none=>rfl
  | some (some (.d x))=>rfl
  | some (some (.n x))=>rfl
  | some (some (.l x))=>
    cases hp:iO cp i with
    | none=>simp [hp]
    | some k=>simp [hp,key i x hi k hp]
theorem fR{α:Type}{xs:List α}{i:Int}(h0:0≤i)(h1:i < xs.length):∃x∈xs,atI xs i=some x:=by
  rw [fU h0 h1]
  exact⟨xs[i.toNat]'(by lia),List.getElem_mem _,List.getElem?_eq_getElem _⟩
theorem uZ{e:En}{xs:List PyData}{i:Int}:eg e (.l xs) (.d (.int i))=(atI xs i).map .d:=rfl
theorem n9{e:En}{xs:List PyData}{i:Int}:eg e (.d (.tuple xs)) (.d (.int i))=(atI xs i).map .d:=rfl
theorem qb{e:En}{xs:List PyData}{i:Int}:eg e (.d (.list xs)) (.d (.int i))=(atI xs i).map .d:=rfl
theorem u7{e:En}{j:Nat}{xs:List PyData}{i:Int}(h:e[j]?=some (some (.l xs))):eg e (.s j) (.d (.int i))=(atI xs i).map .d:=by
  simp [eg,cM,h,bM]
theorem qe{e:En}{xs:List PyData}:g1 fX e [.d (.tuple xs)]=some (.d (.int xs.length)):=rfl
theorem oa{e:En}{xs:List PyData}:g1 fX e [.d (.list xs)]=some (.d (.int xs.length)):=rfl
theorem qc{e:En}{xs:List PyData}:g1 fX e [.l xs]=some (.d (.int xs.length)):=rfl
theorem qd{e:En}{j:Nat}{xs:List PyData}(h:e[j]?=some (some (.l xs))):g1 fX e [.s j]=some (.d (.int xs.length)):=by
  simp [g1,fX,cM,h]
theorem lP{e:En}{j:Nat}{xs:List PyData}(h:e[j]?=some (some (.l xs))):g1 ck e [.s j]=some (.d (.tuple xs)):=by
  simp [g1,ck,cM,h]
theorem lO{e:En}{xs:List PyData}:g1 ck e [.l xs]=some (.d (.tuple xs)):=rfl
theorem j3{e:En}{xs:List PyData}:g1 ck e [.d (.list xs)]=some (.d (.tuple xs)):=rfl
theorem lQ{e:En}{xs:List PyData}:g1 ck e [.d (.tuple xs)]=some (.d (.tuple xs)):=rfl
theorem u_{e:En}{xs:List PyData}{lo hi:Option Int}:Ak e (.d (.tuple xs)) lo hi=some (.d (.tuple (cutD xs lo hi))):=rfl
theorem eC{e:En}{xs ys:List PyData}(h:xs.length+ys.length≤1000000):aU e (.d (.tuple xs)) (.d (.tuple ys))=some (.d (.tuple (xs++ys))):=by
  simp [aU,oU,nX,gI,bM,jZ,cM,h]
theorem vB{e:En}{i j:Int}(h:j≠0):aD e (.d (.int i)) (.d (.int j))=some (.d (.int (i.fmod j))):=by
  unfold aD;rw [ic (by simpa using h)]
theorem sI{e:En}{i j:Int}(h:j≠0)(h2:Bt 8000 j):c7 e (.d (.int i)) (.d (.int j))=some (.d (.int (i.fdiv j))):=by
  unfold c7;rw [ic (by simp [gw.mpr h2,h])]
theorem eT{e:En}{i j:Int}(h:qZ i j=true):kM e (.d (.int i)) (.d (.int j))=some (.d (.int (i ^ j.toNat))):=by
  unfold kM;rw [ic h]
theorem gP:qZ 10 18=true:=by decide
theorem eG{f g:FS}{e e1:En}(h:f e=some (.nx e1)):ay f g e=g e1:=by unfold ay;rw [h];rfl
theorem zm{ft:FT}{f g:FS}{e e1:En}(h:ft e=some (true,e1)):gh ft f g e=f e1:=by unfold gh;rw [h];rfl
theorem zl{ft:FT}{f g:FS}{e e1:En}(h:ft e=some (false,e1)):gh ft f g e=g e1:=by unfold gh;rw [h];rfl
def vb(i:Nat)(e:En):Nat:=match e[i]? with
  | some (some (.l xs))=>xs.length
  | _=>0
def qB(i:Nat)(e:En):Nat:=match e[i]? with
  | some (some (.d (.int k)))=>k.natAbs
  | _=>0
theorem ol{n m:Nat}(h:n < 2 ^ m)(hm:m≤4200):n < 2 ^ 4200:=Nat.lt_of_lt_of_le h (Nat.pow_le_pow_right (by decide) hm)
theorem mQ{α:Type}{a:α}{r:List α}:atI (a::r) 0=some a:=by
  rw [fU (by decide) (by simp)];rfl
theorem mR{α:Type}{a b:α}{r:List α}:atI (a::b::r) 1=some b:=by
  rw [fU (by decide) (by simp;lia)];rfl
theorem pR{α:Type}{a b c:α}{r:List α}:atI (a::b::c::r) 2=some c:=by
  rw [fU (by decide) (by simp;lia)];rfl
theorem pS{α:Type}{a b c d:α}{r:List α}:atI (a::b::c::d::r) 3=some d:=by
  rw [fU (by decide) (by simp;lia)];rfl
theorem eh{ns:List Int}{k:Int}(h0:0≤k)(h1:k < (ns.length:Int)):atI (ns.map PyData.int) k=some (.int (ns.getD k.toNat 0)):=by
  rw [fU h0 (by rw [List.length_map];exact h1),List.getElem?_map]
  have:k.toNat < ns.length:=by lia
  simp [this]
theorem uJ{a b c d:PyData}:cutD [a,b,c,d] none (some 2)=[a,b]:=rfl
theorem jT{a b c d:PyData}:cutD [a,b,c,d] (some 2) none=[c,d]:=rfl
theorem jS{a b c:PyData}:cutD [a,b,c] (some 1) none=[b,c]:=rfl
theorem ly(ns:List Int):PyData.canLayAll0 (ns.map PyData.int)=true:=by
  induction ns with
  | nil=>rfl
  | cons n r ih=>simp [PyData.canLayAll0,PyData.canLay0,ih]
theorem ls{x:Int}:∀(ns:List Int),((ns.map PyData.int).any fun y=>PyData.eqv y (.int x))=ns.contains x
  | []=>rfl
  | n::r=>by
    rw [List.map_cons,List.any_cons,ls r,List.contains_cons]
    show(n==x || _)=_
    rw [show(n==x)=(x==n) by rw [Bool.eq_iff_iff];simp;exact eq_comm]
theorem i_{e:En}{x:Int}{ns:List Int}{neg:Bool}:vA neg e (.d (.int x)) (.d (.tuple (ns.map .int)))=some (.d (.bool (if neg then !ns.contains x else ns.contains x))):=by
  unfold vA
  simp only [gD,cM,Option.bind_some,ly,ls]
  simp [PyData.canLay0,PyData.depth]
theorem n6{e:En}{x a b:Int}{neg:Bool}:vA neg e (.d (.int x)) (.d (.tuple [.int a,.int b]))=some (.d (.bool (if neg then !(a==x || b==x) else(a==x || b==x)))):=by
  have h:=i_ (e:=e) (x:=x) (ns:=[a,b]) (neg:=neg)
  simp only [List.map_cons,List.map_nil] at h
  rw [h]
  have:[a,b].contains x=(a==x || b==x):=by
    simp only [List.contains_cons,List.contains_nil,Bool.or_false]
    rw [show(x==a)=(a==x) by rw [Bool.eq_iff_iff];simp;exact eq_comm,show(x==b)=(b==x) by rw [Bool.eq_iff_iff];simp;exact eq_comm]
  rw [this]
theorem eQ(W:bE):a9 W=.tuple [.int W.things,.tuple (W.ties.map aA),.tuple (W.pat.map .int),.int W.asks]:=rfl
end L2
namespace L2
open PySem PySem.Spec PyProof.Rows
abbrev nL:=List Int × List Int
structure xX (W:bE) (s:nL):Prop where
  inw:∀k∈s.1,pN W k
  nd:s.1.Nodup
  tk:s.2.length≤2*s.1.length
  th:∀t∈s.2,0≤t∧t < W.things
def nxt(W:bE)(s:nL)(k:Int)(b:Bool):nL:=(bE.askd s.1 k,W.took s.2 k b)
structure Nd where
  tie:Int
  yes:Int
  no:Int
def xT(W:bE)(n:Nat)(S:Nat→nL)(i:Nat)(k:Int)(b:Bool)(l:Int):Prop:=l= -1∨(0≤l∧l < (n:Int)∧S l.toNat=nxt W (S i) k b)
structure Aa (W:bE) (n:Nat) (S:Nat→nL) (i:Nat) (x:Nd):Prop where
  tie:pN W x.tie
  st:xX W (S i)
  may:W.may (S i).1 (S i).2 x.tie=true
  yes:xT W n S i x.tie true x.yes
  no:xT W n S i x.tie false x.no
def Ac(W:bE)(T:List Nd)(S:Nat→nL):Prop:=∀(i:Nat) (x:Nd),T[i]?=some x→Aa W T.length S i x
structure Wt where
  st:nL
  par:Int
  side:Int
structure Bg (W:bE) (T:List Nd) (S:Nat→nL) (ws:List Wt):Prop where
  tr:Ac W T S
  wt:∀w∈ws,xX W w.st∧(w.par= -1∨∃(p:Nat) (x:Nd),w.par=(p:Int)∧T[p]?=some x∧((w.side=0∧w.st=L2.nxt W (S p) x.tie true)∨(w.side=1∧w.st=L2.nxt W (S p) x.tie false)))
  side:∀w∈ws,w.side=0∨w.side=1
end L2
namespace L2
open PySem PySem.Spec PyProof.Rows
def nm(nums:List Int)(l:Int):Int:=(atI nums l).getD (-1)
structure AW (order:List Int) (n:Nat) (nums:List Int):Prop where
  len:nums.length=n+1
  top:nums[n]?=some (-1)
  at':∀(j:Nat) (v:Int),j < n→nums[j]?=some v→v= -1∨∃p:Nat,v=(p:Int)∧order[p]?=some (j:Int)
def qC(T:List Nd)(w:Int):Nd:=T.getD w.toNat ⟨0,0,0⟩
theorem jW{α β:Type}{f:α→β}:∀{xs:List α} {i:Nat},(xs.map f).eraseIdx i=(xs.eraseIdx i).map f
  | [],_=>by simp
  | x::r,0=>by simp
  | x::r,i+1=>by simp [jW (xs:=r) (i:=i)]
end L2
namespace L2
open PySem PySem.Spec PyProof.Rows
structure Bn (S:Nat→nL) (n:Nat) (ss:List nL):Prop where
  len:ss.length=n
  at':∀(j:Nat) (s:nL),ss[j]?=some s→s.1.length≤(S j).1.length∧s.2.length≤2*s.1.length∧(∀k∈s.1,0≤k∧k < 16)∧∀t∈s.2,0≤t∧t < 12
end L2
namespace L2
open PySem PySem.Spec PyProof.Rows
structure Sz (n dep:Nat) (d:PyData):Prop where
  fl:uX d=true
  sh:d.showable=true
  dp:d.depth≤dep
  ln:d.shown.length≤n
  so:PyData.strOk d.shown=true
end L2
namespace L2
open PySem PySem.Spec PyProof.Rows
theorem kJ{e:En}{i:Nat}{xs ys:List PyData}(h:e[i]?=some (some (.l xs)))(hl:xs.length+ys.length≤1000000):aU e (.s i) (.l ys)=some (.l (xs++ys)):=by
  simp [aU,oU,nX,gI,bM,jZ,cM,lF,m5,h,hl]
theorem sG{e:En}{xs ys:List PyData}(hl:xs.length+ys.length≤1000000):aU e (.l xs) (.l ys)=some (.l (xs++ys)):=by
  simp [aU,oU,nX,gI,bM,jZ,cM,lF,m5,hl]
theorem vD{e:En}{d:PyData}{n:Int}(h0:0≤n)(h1:n≤100000):fY e (.d (.tuple [d])) (.d (.int n))=some (.d (.tuple (List.replicate n.toNat d))):=by
  have a:lN e (.d (.tuple [d])) (.d (.int n))=some (.d (.tuple (List.replicate n.toNat d))):=by
    simp [lN,cM,bM,h0,h1]
  have b:lK e (.d (.tuple [d])) (.d (.int n))=none:=by simp [lK,gI,bM]
  unfold fY oU
  rw [b,a]
  rfl
def rn(T:List Nd)(ans:List Bool):Nat→Int→List (Int × Bool)
  | 0,_=>[]
  | f+1,at'=>if at' < 0 then [] else((qC T at').tie,ans.getD (qC T at').tie.toNat false)::rn T ans f (if ans.getD (qC T at').tie.toNat false=true then(qC T at').yes else(qC T at').no)
def rt(T:List Nd):Int:=if T.length=0 then -1 else 0
structure A6 (W:bE) (T:List Nd) (S:Nat→nL) (ans:List Bool) (r:List (Int × Bool)) (a:Int):Prop where
  at':a= -1∨(0≤a∧a < (T.length:Int)∧r.length≤(S a.toNat).1.length)
  eq:r++rn T ans (17 - r.length) a=rn T ans 17 (rt T)
  len:r.length≤16
  inw:∀p∈r,pN W p.1
end L2
namespace L2
open PySem PySem.Spec PyProof.Rows
abbrev Fr:=Int × Int
def tm(a b:Fr):Fr:=dj (a.1*b.1) (a.2*b.2)
def pl(a b:Fr):Fr:=dj (a.1*b.2+b.1*a.2) (a.2*b.2)
structure Bk (M:Int) (f:Fr):Prop where
  pos:0 < f.2
  lo:0≤f.1
  hi:f.1≤f.2
  dv:f.2 ∣ M
structure zQ (M i:Int) (f:Fr):Prop where
  pos:0 < f.2
  lo:0≤f.1
  hi:f.1≤i*f.2
  dv:f.2 ∣ M
def bp(W:bE):List Int→Int
  | []=>1
  | k::r=>(W.tie k).bot*bp W r
def x_(W:bE):Int:=bp W W.rng
def ch(W:bE)(k:Int)(b:Bool):Fr:=if b then((W.tie k).top,(W.tie k).bot) else((W.tie k).bot - (W.tie k).top,(W.tie k).bot)
structure Bm (W:bE) (S:Nat→nL) (n:Nat) (rs:List Fr):Prop where
  len:rs.length=n
  at':∀(j:Nat) (f:Fr),rs[j]?=some f→Bk (bp W (S j).1) f
structure Bh (W:bE) (i:Nat) (ss:List Fr):Prop where
  len:ss.length=W.ties.length
  at':∀(j:Nat) (f:Fr),ss[j]?=some f→zQ (x_ W) (i:Int) f
end L2
namespace L2
open PySem PySem.Spec PyProof.Rows
def xI(sc:Scope)(x:Str):Bool:=match sc.names.lookup x with
  | some .local=>true
  | some .cell=>true
  | some .free=>true
  | _=>false
theorem ux{sc:Scope}{x:Str}(h:xI sc x=true):x4 sc x:=by
  unfold xI at h
  unfold x4
  split at h
  · rename_i e;exact .inl e
  · rename_i e;exact .inr (.inl e)
  · rename_i e;exact .inr (.inr e)
  · cases h
section
variable{X:Cx}{K:PySem.W.Frag}
theorem qw(i:Nat){x:Str}{pos:Pos}(hN:X.N[i]?=some x)(hv:xI X.env.scope x=true)(hd:((x==("__debug__":Str)) || (x==("__classdict__":Str)))=false):PE X (.Name x pos) (fE K (ae i)):=qv i hN (ux hv) (Bool.or_eq_false_iff.mp hd).1 (Bool.or_eq_false_iff.mp hd).2
end
end L2
namespace L2
open PySem PySem.Spec PyProof.Rows
section
variable{X:Cx}{tg a b c:Expr}{ta:TA}{p pos p2 pos2:Pos}
end
section
variable{K:PySem.W.Frag}{σ:L2.St}
end
section
variable{X:Cx}{K:PySem.W.Frag}{tg a b c:Expr}{fs:FA}{pos p p2 pos2:Pos}
end
end L2
namespace L2
open PySem PySem.Spec PyProof.Rows
end L2
namespace L2
open PySem PySem.Spec PyProof.Rows
section
variable(P:Program)(w:World)
end
section
variable{P:Program}{w:World}{H H':Hp}{h h':Heap}{a:Addr}{o:HO}
end
section
variable{P:Program}{w:World}{H:Hp}{h h':Heap}{x e:Addr}{o':HO}
end
section
variable{fs fs' ex ex':List Addr}{H H1 H2:Hp}{h h1 h2 h':Heap}{a x e:Addr}{o:HO}
end
end L2
namespace L2
open PySem PySem.Spec PyProof.Rows
section
variable{X:Cx}{pins:List (Addr × Obj)}{σ:List (Option V)}{H H':Hp}{s:Shared}{h':Heap}
end
end L2
namespace L2
open PySem PySem.Spec PyProof.Rows
section
variable{X:Cx}
variable{a b:Expr}{ta tb:TE}{pos:Pos}
variable{tA tB':TT}{dY:List Expr}
end
end L2
namespace L2
open PySem PySem.Spec PyProof.Rows
section
variable{X:Cx}{pins:List (Addr × Obj)}{σ:St}{H:Hp}{s:Shared}{a:Addr}{xs ys:List V}
end
section
variable{X:Cx}{pins:List (Addr × Obj)}{σ:St}{H:Hp}{s:Shared}{E:Value→Shared→Prop}
end
section
variable{X:Cx}{st:Stmt}{dY:List Stmt}{t u:TS}{e:Expr}{te:TE}{pos:Pos}
end
section
variable{X:Cx}{pos:Pos}
end
section
variable{X:Cx}{pos:Pos}
end
end L2
namespace L2
open PySem PySem.Spec PyProof.Rows
section
variable{X:Cx}{tg:Expr}
end
end L2
namespace L2
open PySem PySem.Spec PyProof.Rows
section
variable{X:Cx}{a b c:Expr}{ta tb tc:TE}{pos:Pos}
end
section
variable{X:Cx}{a b c:Expr}{ta tb tc:TE}{pos:Pos}
end
end L2
namespace L2
open PySem PySem.Spec PyProof.Rows
section
variable{prog:Program}{w:World}{A:Around}{E:Value→Shared→Prop}{s:Shared}{K:PySem.W.Frag}{x dx C f:Addr}{mA:Str→Option Value}{name:Str}{v:Value}
end
section
variable{P:Program}{w:World}{H H':Hp}{h h':Heap}{a C dx:Addr}{fs fs':List (Str × V)}
end
section
variable{X:Cx}{pins:List (Addr × Obj)}{σ:St}{H:Hp}{s:Shared}{a C dx:Addr}{fs:List (Str × V)}{f:Str}{v:V}{A:Around}{E:Value→Shared→Prop}
end
section
variable{X:Cx}{o e value:Expr}{f:Str}{pos pos' tpos:Pos}{ta tv:TE}
end
section
variable{X:Cx}{pins:List (Addr × Obj)}{σ:St}{H:Hp}{s:Shared}{A:Around}{E:Value→Shared→Prop}{Q:Value→Shared→Prop}{c:Value}{b:Bool}
end
end L2
namespace L2
open PySem PySem.Spec PyProof.Rows
section
variable{X:Cx}{e:Expr}{es:List Expr}{te:TE}{t:TA}{pos:Pos}
end
section
variable{X:Cx}{pins:List (Addr × Obj)}{σ:St}{H:Hp}{s s':Shared}
end
section
variable{X:Cx}{CX:oK}{k:Nat}{f C:Addr}{fd:FuncData}{ps:List Str}{sp:Sp}{dvs:List V}{ds:List Value}{E:XK}{x m:Str}{p pos apos:Pos}{e o:Expr}{es:List Expr}{ta:TE}{t:TA}
end
section
variable{X:Cx}{CX:oK}{k:Nat}{f C:Addr}{fd:FuncData}{ps ks:List Str}{sp:Sp}{E:XK}{x m:Str}{p pos apos kpos:Pos}{e o:Expr}{es:List Expr}{kws:List Keyword}{te ta:TE}{t tk:TA}{nm:Option Str}
variable{g:List Value→List Value→List Value}{gV:List V→List V→List V}
end
end L2
namespace L2
open PySem PySem.Spec PyProof.Rows
section
variable{X:Cx}{x:Str}{p pos:Pos}{e:Expr}{es:List Expr}{t:TA}{id T:String}{r:List V→Hp→VK→Prop}
end
end L2
namespace L2
open PySem PySem.Spec PyProof.Rows
section
variable{κ:Type}[DecidableEq κ]
def l9(kvs:List (κ × V))(k:κ)(v:V):List (κ × V):=
  if (kvs.any fun kv=>decide (kv.1=k))=true then kvs.map (fun kv=>if kv.1=k then(kv.1,v) else kv) else kvs++[(k,v)]
theorem lU(kvs:List (κ × V))(k:κ)(v:V):(l9 kvs k v).length≤kvs.length+1:=by
  unfold l9
  split
  · rw [List.length_map];lia
  · rw [List.length_append,List.length_cons,List.length_nil];lia
theorem KV.any{kvs:List (κ × V)}{vs:List (κ × Value)}(r:KV kvs vs)(k:κ):(kvs.any fun kv=>decide (kv.1=k))=vs.any fun kv=>decide (kv.1=k):=by
  unfold KV at r
  induction r with
  | nil=>rfl
  | cons h t ih=>rw [List.any_cons,List.any_cons,ih,h.1]
theorem KV.repl{kvs:List (κ × V)}{vs:List (κ × Value)}(r:KV kvs vs)(k:κ){y:V}{u:Value}(ry:a' y u):
    KV (kvs.map fun kv=>if kv.1=k then(kv.1,y) else kv) (vs.map fun kv=>if kv.1=k then(kv.1,u) else kv):=by
  unfold KV at r ⊢
  induction r with
  | nil=>exact .nil
  | @cons p q ps qs h t ih=>
    rw [List.map_cons,List.map_cons]
    refine .cons ?_ ih
    obtain⟨h1,h2⟩:=h
    by_cases e:p.1=k
    · rw [if_pos e,if_pos (h1.symm.trans e)];exact⟨h1,ry⟩
    · rw [if_neg e,if_neg (fun z=>e (h1.trans z))];exact⟨h1,h2⟩
theorem KV.put{kvs:List (κ × V)}{vs:List (κ × Value)}(r:KV kvs vs)(k:κ){y:V}{u:Value}(ry:a' y u):KV (l9 kvs k y) (stored vs k u):=by
  unfold l9 stored
  rw [r.any k]
  by_cases e:(vs.any fun kv=>decide (kv.1=k))=true
  · rw [if_pos e,if_pos e];exact r.repl k ry
  · rw [if_neg e,if_neg e];exact Paired.snoc r ⟨rfl,ry⟩
end
theorem yA{P:Program}{w:World}{k:ey}{u:Value}(r:a' (kV k) u):(cX P w).is k u=true:=by
  cases k with
  | inl i=>obtain⟨t,e⟩:=(show ∃t,u=Value.int i t from r);subst e;exact lY P w i t
  | inr x=>obtain⟨t,e⟩:=(show ∃t,u=Value.str x t from r);subst e;exact lZ P w x t
section
variable{P:Program}{w:World}{H:Hp}{h:Heap}{a:Addr}
theorem zi{u:HO}(ok:iy P w H h)(e:Rd H a u):cv P w H h a u:=e.ok ok
theorem yi{kvs:List (ey × V)}(ok:iy P w H h)(e:Rd H a (.dK kvs)):kvs.length≤sizeLine∧(a==sysModules)=false∧∃vs,KV kvs vs∧h.DictOf (cX P w) a vs:=
  show cv P w H h a (.dK kvs) from zi ok e
theorem yh{kvs:List (ey × V)}(ok:iy P w H h)(e:H a=some (.dK kvs)):kvs.length≤sizeLine∧(a==sysModules)=false∧∃vs,KV kvs vs∧h.DictOf (cX P w) a vs:=yi ok (.inl e)
end
section
variable{X:Cx}{pins:List (Addr × Obj)}{σ:St}{H:Hp}{s:Shared}{a:Addr}{y v:V}{u r:Value}{o:Option V}{A:Around}{E:Value→Shared→Prop}
theorem aw.big(I:aw X pins σ H s):sysModules < s.heap.objs.size:=by
  have h:mainGlobals < s.heap.objs.size:=(I.mod.glob.keeps I.bk).lt
  exact Nat.lt_trans (by decide) h
theorem sy{h':Heap}{t':Nat}{ob:HO}(I:aw X pins σ H s)(mu:xU (H a))(hs:Heap.SameBut a s.heap h')(he:∃q,h'.get? a=some q)(new:cv X.prog X.w (a8 H a ob) h' a ob):
    aw X pins σ (a8 H a ob) {s with heap:=h',toks:=t'}:=
  I.write (x:=a) (e:=a) mu (.inl rfl) (fun b q hb z=>(hs.2 b hb).trans z) he new
theorem vy{P:Program}{w:World}{H':Hp}{h':Heap}{kvs:List (ey × V)}{vs:List (ey × Value)}(z:kvs.length≤sizeLine)(hd:(a==sysModules)=false)(rel:KV kvs vs)(dd:h'.DictOf (cX P w) a vs):
    cv P w H' h' a (.dK kvs):=⟨z,hd,vs,rel,dd⟩
end
section
variable{X:Cx}{pins:List (Addr × Obj)}{σ:St}{H:Hp}{s:Shared}{a:Addr}{kvs:List (ey × V)}{k:ey}{u:Value}{A:Around}{E:Value→Shared→Prop}
end
section
variable{X:Cx}{o i e value:Expr}{pos pos' tpos:Pos}{td ty tv:TE}
end
theorem lB{P:Program}{w:World}{H:Hp}(h:Heap)(hb:sysModules < h.objs.size):cv P w H (h.push {cls:=.type "dict",data:=.dict #[]}) h.objs.size (.dK []):=
  ⟨Nat.zero_le _,beq_eq_false_iff_ne.mpr (Ne.symm (Nat.ne_of_lt hb)),[],.nil,Heap.DictOf.new h⟩
def xr:TE:=fun _ H Q=>∀p,H p=none→Q (.ref p) (a8 H p (.dK []))
section
variable{X:Cx}{pos:Pos}
theorem qP:PE X (.Dict [] [] pos) xr:=fun pins s σ H Q I h=>
  wpAny_Dict_empty ⟨.ref s.heap.objs.size,_,I.laid (a:=s.heap.objs.size) (o:=.dK []) (t':=s.toks) (fun _ _ q=>Heap.get?_push_of_some _ q) (Nat.le_refl _) (lB s.heap I.big),rfl,h _ (I.hok.fresh (Nat.le_refl _))⟩
end
def lg:List (TE × TE)→St→Hp→(List (V × V)→Hp→Prop)→Prop
  | [],_,H,Q=>Q [] H
  | (tk,tv)::r,σ,H,Q=>tk σ H fun x H1=>tv σ H1 fun y H2=>lg r σ H2 fun ps H3=>Q ((x,y)::ps) H3
abbrev VV:List (V × V)→List (Value × Value)→Prop:=Paired fun p q=>a' p.1 q.1∧a' p.2 q.2
def zP(X:Cx)(pos:Pos)(keys:List (Option Expr))(values:List Expr)(trs:List (TE × TE)):Prop:=
  ∀(pins:List (Addr × Obj)) (s:Shared) (σ:St) (H:Hp) (Q:List (V × V)→Hp→Prop),aw X pins σ H s→lg trs σ H Q→
    wpAny (model X.prog X.w) X.A (evalPairs (pairTrees keys values X.env pos)) (fun vs s'=>∃ps H',aw X pins σ H' s'∧VV ps vs∧Q ps H') X.xe s
theorem tW{X:Cx}{pos:Pos}:zP X pos [] [] []:=fun pins s σ H Q I h=>pairTrees_nil_walk ⟨[],H,I,.nil,h⟩
theorem q5{X:Cx}{pos:Pos}{k v:Expr}{ks:List (Option Expr)}{vs:List Expr}{tk tv:TE}{trs:List (TE × TE)}(hk:PE X k tk)(hv:PE X v tv)(hr:zP X pos ks vs trs):
    zP X pos (some k::ks) (v::vs) ((tk,tv)::trs):=fun pins s σ H Q I h=>
  pairTrees_cons_walk (bF (hk pins s σ H _ I h) fun u s1 ⟨x,H1,I1,rx,q1⟩=>bF (hv pins s1 σ H1 _ I1 q1) fun w2 s2 ⟨y,H2,I2,ry,q2⟩=>
    bF (hr pins s2 σ H2 _ I2 q2) fun ws s3 ⟨ps,H3,I3,rel,q3⟩=>⟨(x,y)::ps,H3,I3,.cons ⟨rx,ry⟩ rel,q3⟩)
def eZ(kvs more:List (ey × V)):List (ey × V):=more.foldl (fun acc kv=>l9 acc kv.1 kv.2) kvs
theorem KV.merge:∀{more:List (ey × V)} {rs:List (ey × Value)} {kvs:List (ey × V)} {vs:List (ey × Value)},KV more rs→KV kvs vs→KV (eZ kvs more) (merged vs rs):=by
  intro more rs kvs vs r
  unfold KV at r
  induction r generalizing kvs vs with
  | nil=>intro q;exact q
  | @cons p q ps qs h t ih=>
    intro r0
    have e:KV (l9 kvs p.1 p.2) (stored vs q.1 q.2):=by
      have:=r0.put p.1 h.2
      rw [←h.1];exact this
    exact ih e
theorem fN:∀(more kvs:List (ey × V)),(eZ kvs more).length≤kvs.length+more.length
  | [],kvs=>by show kvs.length≤kvs.length+0;lia
  | p::r,kvs=>by
    have h1:=fN r (l9 kvs p.1 p.2)
    have h2:=lU kvs p.1 p.2
    show(eZ (l9 kvs p.1 p.2) r).length≤_
    rw [List.length_cons];lia
theorem i3{P:Program}{w:World}:∀{kvs:List (ey × V)} {ws:List (Value × Value)},VV (kvs.map fun kv=>(kV kv.1,kv.2)) ws→∃rs,Carries (cX P w) ws rs∧KV kvs rs
  | [],_,r=>by rw [List.map_nil] at r;cases r;exact⟨[],True.intro,.nil⟩
  | p::kvs,_,r=>by
    rw [List.map_cons] at r
    cases r with
    | @cons a b as bs h t=>
      obtain⟨rs,c,q⟩:=i3 (P:=P) (w:=w) t
      obtain⟨b1,b2⟩:=b
      exact⟨(p.1,b2)::rs,⟨yA h.1,rfl,c⟩,.cons ⟨rfl,h.2⟩ q⟩
def zt(trs:List (TE × TE)):TE:=fun σ H Q=>∀p,H p=none→lg trs σ (a8 H p (.dK [])) fun ps H2=>H2 p=some (.dK [])∧∃kvs:List (ey × V),ps=kvs.map (fun kv=>(kV kv.1,kv.2))∧kvs.length≤15∧Q (.ref p) (a8 H2 p (.dK (eZ [] kvs)))
theorem tM{X:Cx}{pos:Pos}{keys:List (Option Expr)}{values:List Expr}{trs:List (TE × TE)}(h:zP X pos keys values trs)(hall:keys.all (·.isSome)=true)(hl:keys.length=values.length)(h0:keys≠[])
    (h15:keys.length≤15):PE X (.Dict keys values pos) (zt trs):=by
  intro pins s σ H Q I q
  have hn:=I.hok.fresh (Nat.le_refl s.heap.objs.size)
  have I1:=I.laid (a:=s.heap.objs.size) (o:=.dK []) (h':=s.heap.push {cls:=.type "dict",data:=.dict #[]}) (t':=s.toks) (fun _ _ q=>Heap.get?_push_of_some _ q) (Nat.le_refl _) (lB s.heap I.big)
  refine wpAny_Dict_walk (knd:=cX X.prog X.w) hall hl h0 h15 (bF (h pins _ σ _ _ I1 (q _ hn)) fun ws s2 ⟨ps,H2,I2,rel,e,kvs,ep,lk,q2⟩=>?_)
  subst ep
  obtain⟨rs,c,rk⟩:=i3 (P:=X.prog) (w:=X.w) rel
  obtain⟨z,hd,vs0,r0,dd⟩:=yh I2.hok e
  cases r0
  refine⟨rs,c,dd,fun h' dd' hs=>⟨.ref s.heap.objs.size,_,?_,rfl,q2⟩⟩
  have hz:(eZ [] kvs).length≤sizeLine:=by
    have h1:=fN kvs []
    rw [List.length_nil] at h1
    rw [sizeLine_eq];lia
  have he:∃q,h'.get? s.heap.objs.size=some q:=let ⟨q,_,_,hq,_⟩:=dd';⟨q,hq⟩
  exact sy I2 (by rw [e];exact True.intro) hs he (vy hz hd (rk.merge .nil) dd')
section
variable{X:Cx}{pins:List (Addr × Obj)}{σ:St}{H:Hp}{s:Shared}{a:Addr}{y d:V}{u r:Value}{o:Option V}{A:Around}{E:Value→Shared→Prop}
end
section
variable{X:Cx}{o e f:Expr}{apos cpos:Pos}{td ty tx:TE}
end
section
variable{X:Cx}{pins:List (Addr × Obj)}{σ:St}{H:Hp}{s:Shared}{a:Addr}{kvs:List (ey × V)}{A:Around}{E:Value→Shared→Prop}
end
section
variable{X:Cx}{pins:List (Addr × Obj)}{σ:St}{H:Hp}{s:Shared}{a:Addr}{y:V}{u:Value}{A:Around}{E:Value→Shared→Prop}
end
end L2
namespace Att
open PySem PySem.W PySem.Calls PyProof.Rows
section
variable{prog:Program}{w:World}{A:Around}{E:Value→Shared→Prop}{s:Shared}{K:Frag}
end
end Att
namespace L2
open PySem PySem.Spec PyProof.Rows
end L2
namespace L2
open PySem PySem.Spec PyProof.Rows
end L2
namespace L2
open PySem PySem.Spec PyProof.Rows
section
variable{P:Program}{w:World}{K:PySem.W.Frag}{mg:Str→Option Value}{base:Heap}
end
section
variable{X:Cx}
end
section
variable{κ:Type}[DecidableEq κ]
end
end L2
namespace L2
open PySem PySem.Spec PyProof.Rows
def zJ:PyData→String
  | .none=>"NoneType"
  | .bool _=>"bool"
  | .int _=>"int"
  | .str _=>"str"
  | .tuple _=>"tuple"
  | .list _=>"list"
  | .dict _=>"dict"
def xo(t T:String):Bool:=t==T || (t=="bool"&&T=="int")
def yw(T:String)(d:PyData):Bool:=xo (zJ d) T
def iL(T:String):En→Rv→Option Rv:=fun _ r=>match r with
  | .d x=>some (.d (.bool (yw T x)))
  | _=>some (.d (.bool (yw T (.list []))))
section
variable{X:Cx}{K:PySem.W.Frag}{a:Expr}{fa:FE}{pos p p2:Pos}
def Ad(K:PySem.W.Frag)(H:Hp):V→String→Prop
  | .non,t=>t="NoneType"
  | .bl _,t=>t="bool"
  | .int _,t=>t="int"
  | .str _,t=>t="str"
  | .ref a,t=>(t="tuple"∧∃xs,dg K H a xs)∨(t="list"∧∃xs,ef K H a xs)∨(t="dict"∧∃m,H a=some (.dK m))
  | _,_=>False
theorem pZ{T:String}:dN X (.builtin "isinstance") (fun xs H Q=>∃x t b,xs=[x,.ty T]∧Ad X.K H x t∧PySem.W.kitOne X.K (.type t) (.type T)=some b∧Q (.bl b) H):=by
  intro pins s σ H xs us Q I r h
  obtain⟨x,t,b,rfl,ht,hk,q⟩:=h
  obtain⟨u1,u2,rfl,r1,r2⟩:∃u1 u2,us=[u1,u2]∧a' x u1∧a' (.ty T) u2:=by
    cases r with
    | cons p q=>cases q with
      | cons p' q'=>cases q';exact⟨_,_,rfl,p,p'⟩
  cases r2
  have q':∀tk,EP X pins σ Q (.bool b) {s with toks:=tk}:=fun tk=>⟨.bl b,H,I.tok _,rfl,q⟩
  cases x with
  | non=>cases (show u1=Value.none from r1);cases (show t=_ from ht);exact PySem.W.kia_one PySem.W.kitx_none I.kIn True.intro hk (fun z=>nomatch z) q'
  | bl y=>cases (show u1=Value.bool y from r1);cases (show t=_ from ht);exact PySem.W.kia_one PySem.W.kitx_bool I.kIn True.intro hk (fun z=>nomatch z) q'
  | int i=>obtain⟨tt,rfl⟩:=r1;cases (show t=_ from ht);exact PySem.W.kia_one PySem.W.kitx_int I.kIn True.intro hk (fun z=>nomatch z) q'
  | str y=>obtain⟨tt,rfl⟩:=r1;cases (show t=_ from ht);exact PySem.W.kia_one PySem.W.kitx_str I.kIn True.intro hk (fun z=>nomatch z) q'
  | ref a=>
    cases (show u1=Value.ref a from r1)
    rcases ht with ⟨rfl,xs,hs⟩ | ⟨rfl,xs,hs⟩ | ⟨rfl,m,hs⟩
    · obtain⟨its,rv,pl,hz⟩:=I.tuple hs
      obtain⟨o,h1,h2⟩:=pl.typeIs
      exact PySem.W.kia_one PySem.W.kitx_tuple I.kIn ⟨o,h1,h2⟩ hk (fun z=>nomatch z) q'
    · obtain⟨its,rv,pl,hz⟩:=I.list hs
      obtain⟨o,h1,h2⟩:=pl.isList.typeIs
      exact PySem.W.kia_one PySem.W.kitx_list I.kIn ⟨o,h1,h2⟩ hk (fun z=>nomatch z) q'
    · obtain⟨_,_,vs,_,pp⟩:=(show cv X.prog X.w H s.heap a (.dK m) from I.hok a _ hs)
      obtain⟨o,es,ep,h1,h2,_⟩:=pp
      exact PySem.W.kia_one PySem.W.kitx_dict I.kIn ⟨o,h1,h2.1⟩ hk (fun z=>nomatch z) q'
  | _=>exact False.elim ht
theorem qR{x:Str}{T:String}(hg:Gl X x)(hm:X.mg x=none)(hv:bootBuiltins x=some (.type T))(hn:x≠"__name__")(hd:(x==("__debug__":Str))=false):PE X (.Name x pos) (tC (.ty T)):=fun pins s σ H Q I h=>
  ij I hg hm hv ⟨.ty T,H,I,rfl,h⟩ hn hd
theorem vM{t T:String}(ht:t∈["NoneType","bool","int","str","tuple","list","dict"])(hT:T∈["int","bool","tuple","str"]):PySem.W.kitOne K (.type t) (.type T)=some (xo t T):=by
  simp only [List.mem_cons,List.not_mem_nil,or_false] at ht hT
  rcases ht with rfl | rfl | rfl | rfl | rfl | rfl | rfl<;>rcases hT with rfl | rfl | rfl | rfl<;>rfl
theorem ut(d:PyData):zJ d∈["NoneType","bool","int","str","tuple","list","dict"]:=by cases d<;>simp [zJ]
theorem xD{F H:Hp}{d:PyData}{v:V}(h:DA K F d v)(s:av F H):Ad K H v (zJ d):=by
  have h:=DA.mono s h
  cases d with
  | none=>rw [eB.mp h];rfl
  | bool b=>rw [ci.mp h];rfl
  | int b=>rw [cj.mp h];rfl
  | str b=>rw [mV.mp h];rfl
  | tuple ds=>obtain⟨a,xs,rfl,h1,_⟩:=cE.mp h;exact .inl ⟨rfl,xs,h1⟩
  | list ds=>obtain⟨a,xs,rfl,h1,_⟩:=dh.mp h;exact .inr (.inl ⟨rfl,xs,h1⟩)
  | dict m=>simp only [DA] at h;obtain⟨a,m,rfl,h1,_⟩:=h;exact .inr (.inr ⟨rfl,_,h1⟩)
theorem sC{f:FE}{σ:L2.St}{H:Hp}{Q Q':VK}(h:fE K f σ H Q)(m:∀v H1,Q v H1→Q' v H1):fE K f σ H Q':=by
  obtain⟨F,e,r,e',R,hf,q⟩:=h
  exact⟨F,e,r,e',R,hf,fun F' H' v x R' A=>m _ _ (q F' H' v x R' A)⟩
theorem yx{T:String}:xZ K (fun v H Q=>∃t,t∈["NoneType","bool","int","str","tuple","list","dict"]∧Ad K H v t∧Q (.bl (xo t T)) H) (iL T):=by
  intro σ H0 F H e x z v Q R A hg q
  unfold iL at hg
  cases x with
  | d d=>
    cases hg
    exact⟨zJ d,ut d,xD A R.sm,q F H _ (cK.refl _ _ _ _) R bW⟩
  | l xs=>
    cases hg
    obtain⟨l,vs,rfl,h1,h2,h3,h4⟩:=A
    exact⟨"list",by simp,.inr (.inl ⟨rfl,vs,ef.of h3⟩),q F H _ (cK.refl _ _ _ _) R bW⟩
  | s i=>
    cases hg
    obtain⟨h1,xs,h2⟩:=A
    obtain⟨l,vs,h3,h4,h5,h6⟩:=R.own i xs h2
    rw [h1] at h3;cases h3
    exact⟨"list",by simp,.inr (.inl ⟨rfl,vs,ef.of h5⟩),q F H _ (cK.refl _ _ _ _) R bW⟩
theorem j8{x:Str}{T:String}(hK:X.K=K)(hT:T∈["int","bool","tuple","str"])(hg:Gl X "isinstance")(hm:X.mg "isinstance"=none)(hgT:Gl X x)(hmT:X.mg x=none)(A8:bootBuiltins x=some (.type T))(hn:x≠"__name__")(hd:(x==("__debug__":Str))=false)
    (ha:PE X a (fE K fa))(he:starEach [a,.Name x p2] X.env=(false,eval a X.env)::starEach [.Name x p2] X.env)(hpl:(backTo pos (starEach [.Name x p2] X.env)).any (·.1)=false):
    PE X (.Call (.Name "isinstance" p) [a,.Name x p2] [] pos) (fE K (mL (iL T) fa)):=
  (l8 (pZ (T:=T)) hg hm boot_isinstance (k7 ha (k7 (qR hgT hmT A8 hn hd) qN) he) (by decide) (by decide) he hpl).mono fun σ H Q h=>by
    subst hK
    have h1:=rV (yx (T:=T)) h
    refine sC h1 fun v H1 ⟨t,ht,k,q⟩=>?_
    exact⟨v,t,_,rfl,k,vM ht hT,q⟩
end
end L2
namespace L2
open PySem PySem.Spec PyProof.Rows
section
variable{X:Cx}{K:PySem.W.Frag}
end
end L2
namespace L2
open PySem PySem.Spec PyProof.Rows
section
variable{X:Cx}{K:PySem.W.Frag}{σ:L2.St}{F H:Hp}{e:En}{pos p1 p2:Pos}
theorem aR.newD(R:aR K F H σ e){p:Addr}{m:List (ey × V)}(hp:H p=none):aR K (a8 F p (.dK m)) (a8 H p (.dK m)) σ e∧cK σ F H e (a8 F p (.dK m)) (a8 H p (.dK m)) e:=by
  have hF:=R.freeF hp
  obtain⟨R1,X1⟩:=R.same (av.new hp (o:=.dK m))
  obtain⟨R2,s2⟩:=R1.freeze (p:=p) hF au (R1.notOwn au (fun _ z=>nomatch z))
  refine⟨R2,⟨s2,X1.dom,fun a ws h n _=>?_,X1.lst,X1.tmp,X1.shp,X1.ow⟩⟩
  have z:a≠p:=fun z=>by rw [z,hp] at n;cases n
  rw [aF z];exact h
def jB(m:List (Int × Int)):FE:=fun e=>some (.d (.dict (m.map fun p=>(PyData.int p.1,PyData.int p.2))),e)
theorem rl:PE X (.Dict [] [] pos) (fE K (jB [])):=qP.mono fun σ H Q h=>by
  obtain⟨F,e,z,e2,R,hf,q⟩:=h
  cases hf
  intro p hp
  obtain⟨R3,X3⟩:=R.newD (m:=[]) hp
  exact q _ _ _ X3 R3 (by simp only [bL,DA];exact⟨p,[],rfl,au,rfl⟩)
theorem md{i j:Int}{k1 k2}:PE X (.Dict [some (.Constant (.int i) k1 p1)] [.Constant (.int j) k2 p2] pos) (fE K (jB [(i,j)])):=
  (tM (q5 (@nh X i k1 p1) (@nh X j k2 p2) tW) rfl rfl (by simp) (by simp)).mono fun σ H Q h=>by
  obtain⟨F,e,z,e2,R,hf,q⟩:=h
  cases hf
  intro p hp
  refine⟨au,[(Sum.inl i,.int j)],rfl,by simp,?_⟩
  have e1:a8 (a8 H p (.dK [])) p (.dK (eZ [] [((Sum.inl i:ey),V.int j)]))=a8 H p (.dK (eZ [] [((Sum.inl i:ey),V.int j)])):=by
    funext a;by_cases h:a=p
    · subst h;rw [au,au]
    · rw [aF h,aF h,aF h]
  rw [e1]
  obtain⟨R3,X3⟩:=R.newD (m:=eZ [] [((Sum.inl i:ey),V.int j)]) hp
  exact q _ _ _ X3 R3 (by simp only [bL,DA];exact⟨p,[(i,j)],rfl,au,rfl⟩)
end
end L2
namespace L2
open PySem PySem.Spec PyProof.Rows
section
variable{X:Cx}{K:PySem.W.Frag}{a b c d:Expr}{ta tb tc td:TE}{fa fb fc fd:FE}{pos:Pos}
end
end L2
namespace L2
open PySem PySem.Spec PyProof.Rows
section
variable{X:Cx}{K:PySem.W.Frag}{a b:Expr}{es:List Expr}{fa fb:FE}{fs:FA}{pos p apos:Pos}
end
end L2
namespace L2
open PySem PySem.Spec PyProof.Rows
section
variable{X:Cx}{K:PySem.W.Frag}{a b:Expr}{fa fb:FE}{fs:FA}{pos p p2 p3:Pos}
end
end L2
namespace L2
open PySem PySem.Spec PyProof.Rows
def bq(W:bE)(as:List Int):Int:=bp W (W.rng.filter fun k=> !as.contains k)
def wI(l:Nat):Int:=1000*(2 ^ (16 - l) - 1)
structure Be (W:bE) (k:Int) (as:List Int) (y n:Fr):Prop where
  y:zQ (bq W (bE.askd as k)) (wI (as.length+1)) y
  n:zQ (bq W (bE.askd as k)) (wI (as.length+1)) n
  len:as.length≤15
  inw:pN W k
  new:k∉as
def lk(ws:List Fr)(l:Int):Fr:=if l= -1 then(0,1) else ws.getD l.toNat (0,1)
structure Bo (W:bE) (S:Nat→nL) (n:Nat) (ws:List Fr):Prop where
  len:ws.length=n
  at':∀(j:Nat) (f:Fr),ws[j]?=some f→zQ (bq W (S j).1) (wI (S j).1.length) f
end L2
namespace L2
open PySem PySem.Spec PyProof.Rows
theorem cP{cs:En}{g:FG}{ft:FT}{fe:FE}{b:PyData→Bool}{y:PyData→PyData}{u:PyData→En}(n:Nat):∀(items:List PyData) (t:En) (acc:List PyData),t.length=n→(∀x∈items,∀t:En,t.length=n→g x (cs++t)=some (cs++u x))→(∀x∈items,(u x).length=n)→
    (∀x∈items,ft (cs++u x)=some (b x,cs++u x))→(∀x∈items,b x=true→fe (cs++u x)=some (.d (y x),cs++u x))→acc.length+items.length≤1000000→
    ∃t',t'.length=n∧dt g ft fe items (cs++t) acc=some (acc++(items.filter b).map y,cs++t')
  | [],t,acc,h,_,_,_,_,_=>⟨t,h,by simp [dt]⟩
  | x::r,t,acc,h,hg,hu,h1,h2,hl=>by
    have h1x:=h1 x (by simp)
    unfold dt
    rw [hg x (by simp) t h]
    simp only [Option.bind_some,h1x]
    cases hb:b x with
    | true=>
      simp only [if_true,h2 x (by simp) hb,Option.bind_some,lA]
      rw [if_pos (by simp at hl;lia)]
      obtain⟨t',e1,ih⟩:=cP (b:=b) (y:=y) (u:=u) n r (u x) (acc++[y x]) (hu x (by simp)) (fun z hz=>hg z (by simp [hz])) (fun z hz=>hu z (by simp [hz])) (fun z hz=>h1 z (by simp [hz])) (fun z hz=>h2 z (by simp [hz])) (by simp at hl ⊢;lia)
      exact⟨t',e1,by rw [ih];simp [hb]⟩
    | false=>
      simp only [Bool.false_eq_true,if_false]
      obtain⟨t',e1,ih⟩:=cP (b:=b) (y:=y) (u:=u) n r (u x) acc (hu x (by simp)) (fun z hz=>hg z (by simp [hz])) (fun z hz=>hu z (by simp [hz])) (fun z hz=>h1 z (by simp [hz])) (fun z hz=>h2 z (by simp [hz])) (by simp at hl;lia)
      exact⟨t',e1,by rw [ih];simp [hb]⟩
end L2
namespace L2
open PySem PySem.Spec PyProof.Rows
section
variable{X:Cx}{K:PySem.W.Frag}{a:Expr}{fa:FE}{pos p pos2 p2:Pos}
end
end L2
namespace L2
open PySem PySem.Spec PyProof.Rows
section
variable{X:Cx}{K:PySem.W.Frag}{a:Expr}{fa:FE}
end
end L2
namespace L2
open PySem PySem.Spec PyProof.Rows
abbrev Rn:=List (Int × Bool)
def sE(R:Rn):List Int:=R.map (·.1)
def uK(W:bE)(R:Rn):List Int:=(R.filter (·.2)).flatMap fun r=>[(W.tie r.1).one,(W.tie r.1).other]
structure Bl (W:bE) (R:Rn) (asked taken:List Int):Prop where
  pa:asked.Perm (sE R)
  pt:taken.Perm (uK W R)
  inw:∀k∈sE R,pN W k
  nd:(sE R).Nodup
  nk:(uK W R).Nodup
  bd:∀t:Int,0≤t→t < W.things→W.many (sE R) t≤W.pat.getD t.toNat 0
  ak:(R.length:Int)≤W.asks
  sa:asked.Pairwise (· ≤·)
  st:taken.Pairwise (· ≤·)
end L2
namespace L2
open PySem PySem.Spec PyProof.Rows
section
variable{prog:Program}{w:World}{A:Around}{R:Result→Shared→Prop}
end
def xt(l:Addr)(wi:TI)(g:TG)(tc:TT)(te:TE)(σ:L2.St)(H:Hp)(N:L2.St→Hp→Prop):Prop:=
  wi σ H fun J H1=>∃W:Nat→Nat→L2.St→Hp→Prop,(∃m,W 0 m σ H1)∧∀i m σ' H',W i m σ' H'→
    (J.stop i H'∧N σ' H')∨(J.go i H'∧∃N2:L2.St→Hp→Prop,(∀σ2 H2,N2 σ2 H2→∃m',m' < m∧W (i+1) m' σ2 H2)∧
      ∀x H2,J.yld i H' x H2→g x σ' H2 fun σ2 H3=>tc σ2 H3 fun b H4=>if b=true then te σ2 H4 fun v H5=>∃ys,H5 l=some (.lst ys)∧ys.length < sizeLine∧N2 σ2 (a8 H5 l (.lst (ys++[v]))) else N2 σ2 H4)
structure AJ (cp:List (Nat × Str)) (nT:Nat) (wi:TI) (g:TG) (tc:TT) (wi2:TI) (g2:TG) (tc2:TT) (te:TE) (σ:L2.St) (H:Hp) (Q:VK):Prop where
  go:wi σ H fun J H1=>∀l,H1 l=none→
  ∃W:Nat→Nat→L2.St→Hp→Prop,(∃m,W 0 m (et cp nT σ) (a8 H1 l (.lst [])))∧∀i m σ' H',W i m σ' H'→
    (J.stop i H'∧Q (.ref l) H')∨(J.go i H'∧∃N:L2.St→Hp→Prop,(∀σ2 H2,N σ2 H2→∃m',m' < m∧W (i+1) m' σ2 H2)∧
      ∀x H2,J.yld i H' x H2→g x σ' H2 fun σ2 H3=>tc σ2 H3 fun b H4=>if b=true then xt l wi2 g2 tc2 te σ2 H4 N else N σ2 H4)
section
variable{K:PySem.W.Frag}{F H:Hp}{σ:L2.St}{e:En}{cp:List (Nat × Str)}{nT:Nat}
end
section
variable{X:Cx}{K:PySem.W.Frag}{pos:Pos}
end
section
variable{X:Cx}{K:PySem.W.Frag}{pos:Pos}
variable{o:Expr}{fo:FE}{apos cpos:Pos}
end
end L2
namespace L2
open PySem PySem.Spec PyProof.Rows
section
variable{X:Cx}{K:PySem.W.Frag}
def Bq:List Int→Int
  | []=>0
  | x::r=>r.foldl max x
end
end L2
namespace L2
open PySem PySem.Spec PyProof.Rows
structure BC (f:Fr):Prop where
  pos:0 < f.2
  cop:Int.gcd f.1 f.2=1
abbrev Pg:=List Int × Int
def Br(t:fK)(p:Pg):Bool:= !p.1.contains t.one&& !p.1.contains t.other
def Ag(t:fK)(p:Pg):Pg:=(p.1++[t.one,t.other],p.2+t.worth)
def Bu(ps:List Pg)(t:fK):List Pg:=ps++(ps.filter (Br t)).map (Ag t)
def Bs(ts:List fK):List Pg:=ts.foldl Bu [([],0)]
structure AZ (k:Nat) (ps:List Pg):Prop where
  ne:ps≠[]
  len:ps.length≤2 ^ k
  pt:∀p∈ps,p.1.length≤2*k∧0≤p.2∧p.2≤1000*(k:Int)
def A8(ts:List fK):Int:=Bq ((Bs ts).map (·.2))
end L2
namespace L2
open PySem PySem.Spec PyProof.Rows
end L2
namespace L2
open PySem PySem.Spec PyProof.Rows
section
variable{prog:Program}{w:World}{A:Around}{E:Value→Shared→Prop}{s:Shared}
end
section
variable{X:Cx}{a:Expr}{ta:TA}{p p2 pos pos2:Pos}
variable{K:PySem.W.Frag}{fs:FA}{p3:Pos}
end
end L2
namespace L2
open PySem PySem.Spec PyProof.Rows
def yu:PyData→Bool
  | .int _=>true
  | _=>false
def bN(lo hi:Int):PyData→Bool
  | .int i=>decide (lo≤i)&&decide (i≤hi)
  | _=>false
theorem f9{lo hi:Int}:∀{ds:List PyData},ds.all (bN lo hi)=true→∃ns:List Int,ds=ns.map .int∧∀x∈ns,lo≤x∧x≤hi
  | [],_=>⟨[],rfl,fun _ h=>by cases h⟩
  | d::r,h=>by
    rw [List.all_cons,Bool.and_eq_true] at h
    obtain⟨ns,rfl,hn⟩:=f9 h.2
    cases d with
    | int i=>
      have h1:=h.1
      simp only [bN,Bool.and_eq_true,decide_eq_true_eq] at h1
      refine⟨i::ns,rfl,fun x hx=>?_⟩
      rcases List.mem_cons.mp hx with rfl | hx
      · exact h1
      · exact hn x hx
    | _=>simp [bN] at h
theorem jR{α:Type}(p:α→Bool):∀(ds:List α),i0 (ds.map fun d=>PyData.bool (p d))=some (ds.map p)
  | []=>rfl
  | d::r=>by simp [i0,jR p r]
theorem lE{α:Type}{e:En}(p:α→Bool)(ds:List α):g1 (iC jY) e [.l (ds.map fun d=>.bool (p d))]=some (.d (.bool (ds.all p))):=by
  simp [g1,iC,cM,jY,jR p,List.all_map]
theorem i6{α:Type}:∀(l:List α) (i:Nat) (h:i < l.length),(l[i]::l.eraseIdx i).Perm l
  | x::r,0,_=>.refl _
  | x::r,i+1,h=>(List.Perm.swap x _ _).trans ((i6 r i (by simpa using h)).cons x)
  | [],_,h=>by simp at h
theorem ky{xs:List PyData}{lo hi:Option Int}:(cutD xs lo hi).length≤xs.length:=by
  unfold cutD
  rw [List.length_take,List.length_drop]
  lia
theorem ib{g:FG}{ft:FT}{fe:FE}(P:Nat→En→Prop)(R:PyData→Prop):∀(items:List PyData) (k:Nat) (e:En) (acc:List PyData),(∀i x e,items[i]?=some x→P (k+i) e→∃e1 r d e2,g x e=some e1∧ft e1=some (true,e1)∧fe e1=some (r,e2)∧lA r=some d∧R d∧P (k+i+1) e2)→P k e→acc.length+items.length≤1000000→
    ∃out e',dt g ft fe items e acc=some (acc++out,e')∧out.length=items.length∧(∀d∈out,R d)∧P (k+items.length) e'
  | [],k,e,acc,_,h,_=>⟨[],e,by simp [dt],rfl,(fun _ h=>by cases h),h⟩
  | x::r,k,e,acc,hs,h,hl=>by
    obtain⟨e1,v,d,e2,h1,h2,h3,h3',h4,h5⟩:=hs 0 x e rfl h
    simp only [List.length_cons] at hl
    obtain⟨out,e',h6,h7,h8,h9⟩:=ib P R r (k+1) e2 (acc++[d]) (fun i y e hy hp=>by
      have:=hs (i+1) y e (by simpa using hy) (by rw [show k+(i+1)=k+1+i by lia];exact hp)
      rw [show k+(i+1)+1=k+1+i+1 by lia] at this
      exact this) (by simpa using h5) (by simp;lia)
    refine⟨d::out,e',?_,by simp [h7],fun y hy=>?_,by rw [List.length_cons,show k+(r.length+1)=k+1+r.length by lia];exact h9⟩
    · unfold dt
      simp only [h1,h2,h3,h3',Option.bind_some,if_true]
      rw [if_pos (by lia),h6]
      simp
    · rcases List.mem_cons.mp hy with rfl | hy
      · exact h4
      · exact h8 y hy
theorem kg{cp:List (Nat × Str)}{nT:Nat}{fi:FI}{g:FG}{ft:FT}{fe:FE}{e e1 eo:En}{items out:List PyData}(h1:fi e=some (items,[],e1))(h3:dt g ft fe items (mM cp nT e1) []=some (out,eo))(hb:iZ cp eo e1=true):cJ cp nT fi g ft fe e=some (.l out,iP (iO cp) eo e1):=by
  unfold cJ
  rw [h1]
  simp only [Option.bind_some,List.all_nil,if_true,h3]
  rw [if_pos hb]
end L2
namespace L2
open PySem PySem.Spec PyProof.Rows
mutual
def wt:PyData→Nat
  | .list xs=>rW xs+1
  | .tuple xs=>rW xs+1
  | .dict _=>1
  | .none=>1
  | .bool _=>1
  | .int _=>1
  | .str _=>1
def rW:List PyData→Nat
  | []=>0
  | x::r=>wt x+rW r
end
structure Bz (d:PyData) (k:Nat):Prop where
  lay:d.canLay0=true
  sh:d.showable=true
  dp:d.depth≤k
  ln:d.shown.length+2≤104*wt d
  so:PyData.strOk d.shown=true
def nB(n:Int):PyData→Bool
  | .tuple ds=>(ds.length:Int)==n
  | _=>false
end L2
namespace L2
open PySem PySem.Spec PyProof.Rows
section
variable{X:Cx}{K:PySem.W.Frag}
variable{a b:Expr}{fa fb:FE}{pos:Pos}
end
end L2
namespace L2
open PySem PySem.Spec PyProof.Rows
def tx(s:Str):List Nat:=s.cps.toList
end L2
namespace L2
open PySem PySem.Spec PyProof.Rows
end L2
namespace L2
open PySem PySem.Spec PyProof.Rows
end L2
namespace L2
open PySem PySem.Spec PyProof.Rows
section
variable{X:Cx}{K:PySem.W.Frag}{es:List Expr}{k0:Nat}{tp:Pos}{a b:Expr}{fs:FA}{p pos:Pos}
end
end L2
namespace L2
open PySem PySem.Spec PyProof.Rows
def Bp(x:Nd)(b:Bool):Int:=if b=true then x.yes else x.no
def vc(T:List Nd)(i:Nat)(b:Bool):Int:=match T[i]? with
  | some x=>Bp x b
  | none=> -1
def Ae(T:List Nd):Prop:=∀(i j:Nat) (a b:Bool),vc T i a=vc T j b→vc T i a≠ -1→i=j∧a=b
def AU(w:Wt):Int × Int:=(w.par,w.side)
structure BB (T:List Nd) (ws:List Wt):Prop where
  unq:Ae T
  rng:∀i a,vc T i a= -1∨(0 < vc T i a∧vc T i a < (T.length:Int))
  free:∀w∈ws,w.par= -1∨(0≤w.par∧w.par < (T.length:Int)∧vc T w.par.toNat (w.side==0)= -1)
  dst:(ws.map AU).Nodup
  side:∀w∈ws,w.side=0∨w.side=1
structure BD (T:List Nd) (w0 ws order:List Int):Prop where
  nd:(order++ws).Nodup
  par:∀v∈order++ws,v=0∨∃u∈order,∃b,vc T u.toNat b=v∧v≠ -1
  fst:(order=[]∧ws=w0)∨order[0]?=some 0
end L2
namespace L2
open PySem PySem.Spec PyProof.Rows
section
variable{prog:Program}{w:World}{A:Around}{E:Value→Shared→Prop}{s:Shared}
end
section
variable{X:Cx}{tg a:Expr}{ta:TA}{p pos:Pos}
end
section
variable{X:Cx}{K:PySem.W.Frag}{σ:L2.St}{tg a:Expr}{fs:FA}{p pos:Pos}
end
end L2
namespace L2
open PySem PySem.Spec PyProof.Rows
section
variable{X:Cx}{a k:Expr}{p2 pos:Pos}{fa fk:FE}{K:PySem.W.Frag}
theorem nu(n:Nat):Builtin.Slice.slicePlaces ((n:Int) - 1) (-1) (-1)=n:=by
  unfold Builtin.Slice.slicePlaces
  rw [if_neg (by decide),show(- -1:Int)=1 from rfl]
  split<;>lia
theorem lC{α β:Type}{f g:α→Option β}:∀{l:List α},(∀x∈l,f x=g x)→l.filterMap f=l.filterMap g
  | [],_=>rfl
  | x::r,h=>by rw [List.filterMap_cons,List.filterMap_cons,h x (by simp),lC fun y hy=>h y (by simp [hy])]
theorem qX(xs:Array Value):((List.range xs.size).filterMap fun(m:Nat)=>xs[((xs.size:Int) - 1+(m:Int)*(-1)).toNat]?).toArray=xs.toList.reverse.toArray:=by
  have e:(List.range xs.size).filterMap (fun(m:Nat)=>xs[((xs.size:Int) - 1+(m:Int)*(-1)).toNat]?)=((List.range xs.size).map fun k=>xs.size - 1 - k).filterMap (xs[·]?):=by
    rw [List.filterMap_map]
    refine lC fun m hm=>?_
    have:=List.mem_range.mp hm
    show xs[_]?=xs[xs.size - 1 - m]?
    congr 1
    lia
  rw [e,PySem.W.krv_range,List.filterMap_reverse,PySem.W.krv_all]
section
variable{prog:Program}{w:World}{A:Around}{E:Value→Shared→Prop}{s:Shared}
theorem iw{sl:Addr}{t:Tok}{n:Nat}{Q:Int × Int × Nat→Shared→Prop}(hs:s.heap.IsSliceOf sl .none .none (.int (-1) t))(h:Q ((n:Int) - 1, -1,n) s):wpAny (model prog w) A (Builtin.Slice.sliceApplied (.ref sl) (pure (n:Int))) Q E s:=by
  obtain⟨os,hos,hcs,hds⟩:=id hs
  unfold Builtin.Slice.sliceApplied Builtin.Slice.sliceFields
  refine wpAny_bind (wpAny_bind (wpAny_field hos hds (x:=.none) rfl (wpAny_bind (wpAny_field hos hds (x:=.none) rfl (wpAny_bind (wpAny_field hos hds (x:=.int (-1) t) rfl (wpAny_pure ?_)))))))
  refine wpAny_bind (HT.slicePart_ (.int (-1) t) ?_)
  show wpAny _ _ (if ((-1:Int)==0)=true then _ else _) _ _ s
  rw [if_neg (by decide)]
  refine wpAny_bind (HT.slicePart_ .none (wpAny_bind (HT.slicePart_ .none (wpAny_bind (wpAny_pure ?_)))))
  show wpAny _ _ (pure ((n:Int) - 1,(-1:Int),Builtin.Slice.slicePlaces ((n:Int) - 1) (-1) (-1))) _ _ s
  rw [nu]
  exact wpAny_pure h
theorem gH{t sl:Addr}{items:Array Value}{tk:Tok}{Q:Value→Shared→Prop}(ht:IsTup s.heap t items)(hs:s.heap.IsSliceOf sl .none .none (.int (-1) tk))
    (h:Q (.ref s.heap.objs.size) {s with heap:=s.heap.push {cls:=.type "tuple",data:=.seq items.toList.reverse.toArray}})(hsz:items.size≤sizeLine):wpAny (model prog w) A (getItem (.ref t) (.ref sl)) Q E s:=by
  have htake:sizeOk (.seq items.toList.reverse.toArray):=by
    show items.toList.reverse.toArray.size≤sizeLine
    rw [List.size_toArray,List.length_reverse,Array.length_toList]
    exact hsz
  obtain⟨os,hos,hcs,hds⟩:=id hs
  have hTs:s.TypeIs (.ref sl) "slice":=⟨os,hos,hcs⟩
  unfold getItem
  try with_reducible refine wpAny_holding ?_
  first | refine wpAny_bind (wpAny_pure ?_) | skip
  refine wpAny_bind (wpAny_sequenceKey ht.typeIs (by decide) ?_)
  refine wpAny_bind (wpAny_callSpecial?_slot (name:=Str.ofString "__getitem__") ht.typeIs PyProof.Rows.slot_tuple_getitem
    (wpAny_call_entry PyProof.Rows.slot_tuple_getitem ht.typeIs entry_tuple_getitem ?_ (args_tuple_getitem _ _)))
  show wpAny _ _ (Builtin.Tuple.tupleItemsOf (.ref t) >>= _) _ _ s
  refine wpAny_bind (tupleItemsOf_ ht ?_)
  refine wpAny_bind (wpAny_typeOf hTs ?_)
  rw [if_pos (by decide)]
  refine wpAny_bind (iw hs ?_)
  have hno:¬((((items.size:Int) - 1)==0&&(-1:Int)==1&&items.size==items.size)=true):=by
    intro q
    rw [Bool.and_eq_true,Bool.and_eq_true] at q
    have q1:((-1:Int)==1)=true:=q.1.2
    exact absurd q1 (by decide)
  show wpAny _ _ (if (((items.size:Int) - 1)==0&&(-1:Int)==1&&items.size==items.size)=true then _ else _) _ _ s
  rw [if_neg hno,qX]
  first
    | exact wpAny_bind (m:=Builtin.Tuple.tupleExact _) (wpAny_newObj_type (wpAny_pure ⟨_,rfl,wpAny_pure h⟩) htake)
    | exact wpAny_bind (m:=Builtin.Tuple.tupleExact _) (wpAny_newObj_type (wpAny_bind (wpAny_pure (wpAny_pure ⟨_,rfl,wpAny_pure h⟩))) htake)
    | exact wpAny_bind (wpAny_bind (m:=Builtin.Tuple.tupleExact _) (wpAny_newObj_type (wpAny_pure (wpAny_pure ⟨_,rfl,wpAny_pure h⟩)) htake))
    | exact wpAny_bind (wpAny_bind (m:=Builtin.Tuple.tupleExact _) (wpAny_newObj_type (wpAny_pure ⟨_,rfl,wpAny_pure h⟩) htake))
end
def Bw(K:PySem.W.Frag)(te tk:TE):TE:=fun σ H Q=>te σ H fun x H1=>tk σ H1 fun y H2=>y=.int (-1)∧((∃a xs,x=.ref a∧ef K H2 a xs∧∀p,H2 p=none→Q (.ref p) (a8 H2 p (.lst xs.reverse)))∨∃a xs,x=.ref a∧dg K H2 a xs∧∀p,H2 p=none→Q (.ref p) (a8 H2 p (.tup xs.reverse)))
theorem yT{te tk:TE}(he:PE X a te)(hk:PE X k tk):PE X (.Subscript a (.Slice none none (some k) p2) pos) (Bw X.K te tk):=by
  intro pins s σ H Q I h
  refine Subscript_ (bF (he pins s σ H _ I h) fun v s1 ⟨x,H1,I1,r1,q1⟩=>?_)
  refine wpAny_Slice ?_
  rw [evalPart_none]
  refine wpAny_pure (wpAny_pure ?_)
  refine bF (hk pins s1 σ H1 _ I1 q1) fun vk s3 ⟨y,H3,I3,rk,e,q⟩=>?_
  subst e
  obtain⟨t,rfl⟩:∃t,vk=.int (-1) t:=rk
  have I4:aw X pins σ H3 {s3 with heap:=s3.heap.push {cls:=.type "slice",data:=.fields #[.none,.none,.int (-1) t]}}:=I3.kept (t':=s3.toks) fun b ob q=>Heap.get?_push_of_some _ q
  rcases q with ⟨b,xs,ex,hx,q⟩ | ⟨b,xs,ex,hx,q⟩
  · subst ex
    cases r1
    obtain⟨its,r,ht,hz⟩:=I4.list hx
    have hlen:=r.length
    show wpAny (model X.prog X.w) X.A (subscriptTail a (.Slice none none (some k) p2) (.ref b) (.ref s3.heap.objs.size)) (EP X pins σ Q) X.xe {s3 with heap:=s3.heap.push {cls:=.type "slice",data:=.fields #[.none,.none,.int (-1) t]}}
    refine tail_any (T:="list") ht.isList.typeIs slot_list_getitem.lookup ?_ (by with_unfolding_all rfl)
    refine wpAny_getItem_list_slice ht.isList (Heap.IsSliceOf.new ..) .none .none (.int (-1) t) (by decide) ?_ (by rw [List.size_toArray]<;>lia)
    rw [PySem.W.krv_pick]
    refine⟨.ref _,_,I4.laid (t':=s3.toks) (o:=.lst xs.reverse) (fun b ob q=>Heap.get?_push_of_some _ q) (Nat.le_refl _) ?_,rfl,q _ (I4.hok.fresh (Nat.le_refl _))⟩
    exact⟨by rw [List.length_reverse];exact hz,_,0,r.reverse,Heap.get?_push_size _ rfl⟩
  · subst ex
    cases r1
    obtain⟨its,r,ht,hz⟩:=I4.tuple hx
    have hlen:=r.length
    show wpAny (model X.prog X.w) X.A (subscriptTail a (.Slice none none (some k) p2) (.ref b) (.ref s3.heap.objs.size)) (EP X pins σ Q) X.xe {s3 with heap:=s3.heap.push {cls:=.type "slice",data:=.fields #[.none,.none,.int (-1) t]}}
    refine tail_any (T:="tuple") ht.typeIs slot_tuple_getitem.lookup ?_ (by with_unfolding_all rfl)
    refine gH ht (Heap.IsSliceOf.new ..) ?_ (by rw [List.size_toArray]<;>lia)
    refine⟨.ref _,_,I4.laid (t':=s3.toks) (o:=.tup xs.reverse) (fun b ob q=>Heap.get?_push_of_some _ q) (Nat.le_refl _) ?_,rfl,q _ (I4.hok.fresh (Nat.le_refl _))⟩
    exact⟨by rw [List.length_reverse];exact hz,_,r.reverse,jD.new _ _⟩
def Aj(e:En)(x y:Rv):Option Rv:=match y with
  | .d (.int i)=>if i= -1 then(cM e x).bind fun p=>some (if p.1=true then .l p.2.reverse else .d (.tuple p.2.reverse)) else none
  | _=>none
def zL(fa fk:FE):FE:=fun e=>(fa e).bind fun p=>(fk p.2).bind fun k=>(Aj k.2 p.1 k.1).map fun z=>(z,k.2)
theorem kB:∀{F:Hp} {ds:List PyData} {vs:List V},aC K F ds vs→aC K F ds.reverse vs.reverse
  | F,[],vs,h=>by simp only [aC] at h;subst h;exact aC.nil
  | F,d::ds,vs,h=>by
    simp only [aC] at h
    obtain⟨v,ws,rfl,h1,h2⟩:=h
    rw [List.reverse_cons,List.reverse_cons]
    exact(kB h2).append (aC.one h1)
theorem y3(he:PE X a (fE X.K fa))(hk:PE X k (fE X.K fk)):PE X (.Subscript a (.Slice none none (some k) p2) pos) (fE X.K (zL fa fk)):=(yT he hk).mono fun σ H Q h=>by
  obtain⟨F,e,z,e',R,hf,q⟩:=h
  unfold zL at hf
  obtain⟨⟨x,e1⟩,h1,hf⟩:=Option.bind_eq_some_iff.mp hf
  obtain⟨⟨y,e2⟩,h2,hf⟩:=Option.bind_eq_some_iff.mp hf
  obtain⟨z',h4,hf⟩:=Option.map_eq_some_iff.mp hf
  cases hf
  refine⟨F,e,x,e1,R,h1,fun F1 H1 v X1 R1 A1=>⟨F1,e1,y,_,R1,h2,fun F2 H2 u X2 R2 A2=>?_⟩⟩
  unfold Aj at h4
  split at h4
  · rename_i i hy
    have hy:y=.d (.int i):=hy
    subst hy
    by_cases hi:i= -1
    case neg=>rw [if_neg hi] at h4;cases h4
    rw [if_pos hi] at h4
    subst hi
    obtain⟨⟨b,xs⟩,h5,h4⟩:=Option.bind_eq_some_iff.mp h4
    cases b with
    | false=>
      cases h4
      obtain⟨p,vs,rfl,d1,s1⟩:=bP R2 (A1.ext X2) h5
      refine⟨by first | exact A2 | cases A2;rfl,.inr ⟨p,vs,rfl,s1,fun t ht=>?_⟩⟩
      obtain⟨R4,X4⟩:=R2.newT (vs:=vs.reverse) ht
      exact q _ _ _ ((X1.trans X2).trans X4) R4 (cE.mpr ⟨t,_,rfl,.inl (.inl au),(kB d1).mono X4.sf⟩)
    | true=>
      cases h4
      obtain⟨p,vs,rfl,d1,s1⟩:=bP R2 (A1.ext X2) h5
      refine⟨by first | exact A2 | cases A2;rfl,.inl ⟨p,vs,rfl,s1,fun t ht=>?_⟩⟩
      obtain⟨R4,X4,hF,no⟩:=R2.newL (vs:=vs.reverse) ht
      exact q _ _ _ ((X1.trans X2).trans X4) R4 ⟨t,_,rfl,(X1.trans X2).dom _ ht,hF,au,kB d1,no⟩
  · cases h4
theorem AC(hK:X.K=K)(he:PE X a (fE K fa))(hk:PE X k (fE K fk)):PE X (.Subscript a (.Slice none none (some k) p2) pos) (fE K (zL fa fk)):=by subst hK;exact y3 he hk
end
end L2
namespace L2
open PySem PySem.Spec PyProof.Rows
section
variable{X:Cx}{a b:Expr}{ta:TA}{p p2 pos pos2:Pos}{K:PySem.W.Frag}{fs:FA}
end
section
variable{X:Cx}{o i e:Expr}{fo fi:FE}{tpos pos:Pos}{K:PySem.W.Frag}
end
end L2
namespace L2
open PySem PySem.Spec PyProof.Rows
section
variable{X:Cx}{K:PySem.W.Frag}
def xc(K:PySem.W.Frag)(neg:Bool):R2:=fun x y H Q=>∃a b xs,x=.ref a∧y=.ref b∧ef K H a xs∧ef K H b []∧Q (.bl (if neg then !xs.isEmpty else xs.isEmpty)) H
theorem we(hu:X.A.units < cLine):dz X (compareOp .Eq) (xc X.K false):=by
  intro pins s σ H x y v u Q I rx ry h
  exact wd hu pins s σ H x y v u Q I rx ry h
theorem wn(hu:X.A.units < cLine):dz X (compareOp .NotEq) (xc X.K true):=by
  intro pins s σ H x y v u Q I rx ry h
  obtain⟨a,b,xs,rfl,rfl,ha,hb,q⟩:=h
  cases rx
  cases ry
  obtain⟨its,r,p,hz⟩:=I.list ha
  obtain⟨its2,r2,p2,hz2⟩:=I.list hb
  cases r2
  cases r with
  | nil=>
    refine SeqAt.RcNeAt.lists (e:=fun _=>true) p.isList p2.isList rfl hu (fun j h1 h2=>by simp at h1) X.prog X.w X.xe _ ?_
    exact⟨.bl false,H,I,rfl,q⟩
  | cons r rr=>
    refine SeqAt.RcNeAt.lists_lengths p.isList p2.isList (by simp) hu X.prog X.w X.xe _ ?_
    exact⟨.bl true,H,I,rfl,q⟩
def lG(neg:Bool):En→Rv→Rv→Option Rv:=fun e x y=>(cM e x).bind fun a=>(cM e y).bind fun b=>if a.1=true∧b.1=true∧b.2.isEmpty=true then some (.d (.bool (if neg then !a.2.isEmpty else a.2.isEmpty))) else none
theorem uM{neg:Bool}:dF K (xc K neg) (lG neg):=by
  intro σ H0 F H e x y z v u Q R A B hg q
  unfold lG at hg
  obtain⟨⟨b1,xs⟩,h1,hg⟩:=Option.bind_eq_some_iff.mp hg
  obtain⟨⟨b2,ys⟩,h2,hg⟩:=Option.bind_eq_some_iff.mp hg
  split at hg
  case isFalse=>cases hg
  case isTrue hl=>
  cases hg
  obtain⟨z1,z2,z3⟩:=hl
  dsimp only at z1 z2 z3
  subst z1 z2
  have z4:ys=[]:=List.isEmpty_iff.mp z3
  subst z4
  obtain⟨p,vs,rfl,d1,s1⟩:=bP R A h1
  obtain⟨p',vs',rfl,d2,s2⟩:=bP R B h2
  have e2:vs'=[]:=by simpa only [aC] using d2
  subst e2
  rw [if_pos rfl] at s1 s2
  refine⟨p,p',vs,rfl,rfl,s1,s2,?_⟩
  have e1:vs.isEmpty=xs.isEmpty:=by
    have:=d1.len
    cases xs with
    | nil=>cases vs with
      | nil=>rfl
      | cons=>simp at this
    | cons=>cases vs with
      | nil=>simp at this
      | cons=>rfl
  rw [e1]
  exact q F H _ (cK.refl _ _ _ _) R bW
theorem yc{k:Nat}(hK:X.K=K)(hr:cc k X.A):fQ X K .Eq (lG false):=⟨_,hK ▸ we hr.units0,uM⟩
theorem yg{k:Nat}(hK:X.K=K)(hr:cc k X.A):fQ X K .NotEq (lG true):=⟨_,hK ▸ wn hr.units0,uM⟩
theorem qa{e:En}{xs:List PyData}{neg:Bool}:lG neg e (.l xs) (.l [])=some (.d (.bool (if neg then !xs.isEmpty else xs.isEmpty))):=by
  simp [lG,cM]
end
end L2
namespace V61
open PySem PySem.Spec PyProof.Rows L2
variable{P:Program}{w:World}{K:W.Frag}{mg:Str→Option Value}{base:Heap}{f:Addr}{fd:FuncData}
local macro_rules|`(tactic|trivial)=>`(tactic|first|exact .inl rfl|exact .inr rfl|assumption)
local macro_rules|`(¬$n:num)=>`(@qw _ _ $n _ _ (by rfl) (by rfl) (by decide))
local macro_rules|`($a∘$b)=>`(@AD _ _ _ _ _ _ $a $b (by rfl))
def top(i:Nat):Stmt:=PySem.Challenge.pw_askedpairs_k61_sides_of_anything.main.body.getD i (.Pass ⟨0,0,0,0⟩)
theorem uV{α:Type u}{β:Type v}{f:α→β}:List.map f []=[]:=rfl
theorem uU{α:Type u}{β:Type v}{f:α→β}{a:α}{l:List α}:List.map f (a::l)=f a::List.map f l:=rfl
theorem uP{α:Type u}{l:List α}:[]++l=l:=rfl
theorem uO{α:Type u}{a:α}{l m:List α}:(a::l)++m=a::(l++m):=rfl
theorem uR{α:Type u}{a:α}{l:List α}:(a::l)[0]?=some a:=rfl
theorem uS{α:Type u}{a:α}{l:List α}{i:Nat}:(a::l)[i+1]?=l[i]?:=rfl
theorem uQ{α:Type u}{β:Type v}{a:α}{f:α→Option β}:Option.bind (some a) f=f a:=rfl
theorem uW{α:Type u}{β:Type v}{a:α}{f:α→β}:Option.map f (some a)=some (f a):=rfl
abbrev de:Stmt:=top 1
abbrev bh:Stmt:=top 2
abbrev df:Stmt:=top 3
abbrev bD:Stmt:=top 5
abbrev gZ:Stmt:=top 7
abbrev gX:Stmt:=top 8
abbrev dn:Stmt:=top 9
abbrev mf:Stmt:=top 10
abbrev mh:Stmt:=top 11
abbrev jt:Stmt:=top 12
abbrev dR:Stmt:=top 13
abbrev eF:Stmt:=top 14
abbrev iu:Stmt:=top 15
abbrev mj:Stmt:=top 16
abbrev mi:Stmt:=top 17
abbrev cB:Stmt:=top 18
abbrev gY:Stmt:=top 19
abbrev bT:Stmt:=top 20
abbrev e_:Stmt:=top 22
abbrev dM:Stmt:=top 23
abbrev g9:Stmt:=top 24
abbrev dS:Stmt:=top 25
abbrev ff:Stmt:=top 26
abbrev iE:Stmt:=top 27
structure iK (mg:Str→Option Value):Prop where
  b_abs:mg "abs"=none
  b_len:mg "len"=none
  b_min:mg "min"=none
  b_max:mg "max"=none
  b_range:mg "range"=none
  b_tuple:mg "tuple"=none
  b_int:mg "int"=none
  b_isinstance:mg "isinstance"=none
  b_bool:mg "bool"=none
  b_all:mg "all"=none
  b_list:mg "list"=none
noncomputable def iz:FS:=(bC (jA (mL (iL "int") (ae 0)) (mJ (mL (iL "bool") (ae 0)))))
noncomputable def c9:FM:=h_ 1 0 [] iz
theorem hG:aJ ["thing"] ["thing"] (aj de):=⟨rfl,rfl,rfl,by decide+kernel,rfl,by decide+kernel,by decide+kernel⟩
theorem kX(h:bi K mg "is_number" de f fd ["thing"])(T:iK mg):aK P w K mg base bU 1 f fd ["thing"] (b6 K 1 c9):=by
  have nd:=hG.nd
  exact h.fn hG rfl rfl (fun cdv A outer s H E hr=>(@ai _ _ _ _ _ (@aI _ _ _ _ _ (@ny _ _ _ _ _ _ _ _ (@j8 _ _ _ _ _ _ _ _ "int" rfl (by decide) rfl T.b_isinstance rfl T.b_int PyProof.Rows.boot_int (by decide) (by decide) (¬0) (by rfl) (by rfl)) (@nz _ _ _ _ _ _ (@wX _ _ _ _ _ (@j8 _ _ _ _ _ _ _ _ "bool" rfl (by decide) rfl T.b_isinstance rfl T.b_bool PyProof.Rows.boot_bool (by decide) (by decide) (¬0) (by rfl) (by rfl))))))))
noncomputable def bB:FS:=(bC (jA (bY 1 c9 (aa (ae 0) ah)) (fg yo yo (ae 1) (ae 0) (ae 2))))
noncomputable def aQ:FM:=h_ 3 0 [] bB
theorem dy:aJ ["thing","low","high"] ["thing","low","high"] (aj bh):=⟨rfl,rfl,rfl,by decide+kernel,rfl,by decide+kernel,by decide+kernel⟩
theorem fH(h:bi K mg "is_number_within" bh f fd ["thing","low","high"])(T:iK mg){f_is_number:Addr}{e_is_number:FuncData}(h_is_number:bi K mg "is_number" de f_is_number e_is_number ["thing"])(G_is_number:aK P w K mg base bU 1 f_is_number e_is_number ["thing"] (b6 K 1 c9)):aK P w K mg base bU 2 f fd ["thing","low","high"] (b6 K 3 aQ):=by
  have nd:=dy.nd
  exact h.fn dy rfl rfl (fun cdv A outer s H E hr=>(@ai _ _ _ _ _ (@aI _ _ _ _ _ (@ny _ _ _ _ _ _ _ _ (@aP _ _ _ _ _ _ _ _ _ _ _ _ _ _ _ h_is_number G_is_number (hr.mono (by decide)) ((¬0)∘ab) (by rfl) (by decide) (by rfl) (by rfl)) (@nz _ _ _ _ _ _ (@uf _ _ _ _ _ _ _ _ _ _ _ _ _ (@yf _ _) (@yf _ _) (¬1) (¬0) (¬2) (by with_unfolding_all rfl)))))))
noncomputable def eO:FS:=(bC (jA (mL (iL "tuple") (ae 0)) (aq (cg false) (aM (g1 fX) (aa (ae 0) ah)) (ae 1))))
noncomputable def cA:FM:=h_ 2 0 [] eO
theorem hU:aJ ["thing","many"] ["thing","many"] (aj df):=⟨rfl,rfl,rfl,by decide+kernel,rfl,by decide+kernel,by decide+kernel⟩
theorem kY(h:bi K mg "is_row_of" df f fd ["thing","many"])(T:iK mg):aK P w K mg base bU 1 f fd ["thing","many"] (b6 K 2 cA):=by
  have nd:=hU.nd
  exact h.fn hU rfl rfl (fun cdv A outer s H E hr=>(@ai _ _ _ _ _ (@aI _ _ _ _ _ (@ny _ _ _ _ _ _ _ _ (@j8 _ _ _ _ _ _ _ _ "tuple" rfl (by decide) rfl T.b_isinstance rfl T.b_tuple PyProof.Rows.boot_tuple (by decide) (by decide) (¬0) (by rfl) (by rfl)) (@nz _ _ _ _ _ _ (@jl _ _ _ _ _ _ _ _ _ (@gA _ _ _ rfl hr) (@aX _ _ _ _ _ _ _ _ _ (@b_len _ _ rfl) (by rfl) T.b_len ((¬0)∘ab) (by decide) (by decide) (by rfl) (by rfl)) (¬1) (aN _)))))))
noncomputable def dQ:FI:=(eJ (aq eg (ae 0) (vC (.int 1))))
noncomputable def cG:FE:=(aq (cg true) (aq eg (ae 0) (ae 1)) (aq eg (ae 0) (ae 2)))
noncomputable def eW:FI:=(eJ (ae 1))
noncomputable def cH:FE:=(bY 3 aQ (aa (ae 0) (aa (vC (.int 0)) (aa (vC (.int 1)) ah))))
noncomputable def dB:FS:=(ay (gh (r8 (jJ (aS (bY 2 cA (aa (ae 1) (aa (aq eg (ae 0) (vC (.int 0))) ah))))) (jJ (aS (aM (g1 (iC jY)) (aa (cJ [] 1 eW (ag 0) b7 cH) ah)))))
    (bC (vC (.bool false)))
    dq)
    (bC (aM (g1 (iC jY)) (aa (cJ [(1,"thing")] 4 dQ (du (ar (ag 1) (ar (ag 2) (ar (ag 3) (ar (ag 4) cN))))) b7 cG) ah))))
noncomputable def bf:FM:=h_ 2 0 (([]++[])++[]) dB
theorem fP:aJ ["web","thing"] ["web","thing"] (aj bD):=⟨rfl,rfl,rfl,by decide+kernel,rfl,by decide+kernel,by decide+kernel⟩
theorem jH(h:bi K mg "sides_hold" bD f fd ["web","thing"])(T:iK mg){f_is_row_of:Addr}{e_is_row_of:FuncData}(h_is_row_of:bi K mg "is_row_of" df f_is_row_of e_is_row_of ["thing","many"])(G_is_row_of:aK P w K mg base bU 1 f_is_row_of e_is_row_of ["thing","many"] (b6 K 2 cA)){f_is_number_within:Addr}{e_is_number_within:FuncData}(h_is_number_within:bi K mg "is_number_within" bh f_is_number_within e_is_number_within ["thing","low","high"])(G_is_number_within:aK P w K mg base bU 2 f_is_number_within e_is_number_within ["thing","low","high"] (b6 K 3 aQ)):aK P w K mg base bU 3 f fd ["web","thing"] (b6 K 2 bf):=by
  have nd:=fP.nd
  exact h.fn fP rfl rfl (fun cdv A outer s H E hr=>(@af _ _ _ _ _ _ _ _ (@b5 _ _ _ _ _ _ _ _ _ _ _ (@rA _ _ _ _ (@me _ _ _ _ _ _ _ _ (@jr _ _ _ _ _ (@gf _ _ _ _ (@aP _ _ _ _ _ _ _ _ _ _ _ _ _ _ _ h_is_row_of G_is_row_of (hr.mono (by decide)) ((¬1)∘((@cn _ _ _ _ _ _ _ rfl (¬0) ac (fun _ _=>rfl))∘ab)) (by rfl) (by decide) (by rfl) (by rfl)) (by intro _;rfl))) (@k9 _ _ _ _ _ (@jr _ _ _ _ _ (@gf _ _ _ _ (@aX _ _ _ _ _ _ _ _ _ (@b_all _ _ _ rfl hr) (by rfl) T.b_all ((@e7 _ _ _ _ _ _ _ _ _ _ _ _ _ (aj bD) ["web","thing"] [] ["side"] rfl rfl rfl (@dk _ _ _ _ _ rfl (¬1))
        (fun C s0 H0 fp=>(@ax _ _ _ 0 _ (show List.Nodup (["side"]:List Str) by decide+kernel) rfl (Or.inl rfl) (by trivial))) (fun C s0 H0 fp=>(@eE _ _))
        (fun C s0 H0 fp=>(@aP _ _ _ _ _ _ _ _ _ _ _ _ _ _ _ h_is_number_within G_is_number_within (hr.mono (by decide)) ((¬0)∘(ac∘(ac∘ab))) (by rfl) (by decide) (by rfl) (by rfl))) rfl (by decide+kernel) (by decide+kernel) (by decide+kernel) (by decide+kernel) (by decide+kernel) (by decide+kernel) (by decide+kernel) (by intro _;rfl))∘ab) (by decide) (by decide) (by rfl) (by rfl)) (by intro _;rfl))))))
      (@ai _ _ _ _ _ (@aI _ _ _ _ _ (@dw _ _ _ _ _)))
      (@aZ _ _))
      (@ai _ _ _ _ _ (@aI _ _ _ _ _ (@aX _ _ _ _ _ _ _ _ _ (@b_all _ _ _ rfl hr) (by rfl) T.b_all ((@e7 _ _ _ _ _ _ _ _ _ _ _ _ _ (aj bD) ["web","thing"] [(1,"thing")] ["one","other","chance","worth"] rfl rfl rfl (@dk _ _ _ _ _ rfl (@cn _ _ _ _ _ _ _ rfl (¬0) ac (fun _ _=>rfl)))
        (fun C s0 H0 fp=>(@jp _ _ _ _ _ _ _ _ rfl rfl (@ba _ _ _ _ _ _ _ _ (@ax _ _ _ 1 _ (show List.Nodup (["thing","one","other","chance","worth"]:List Str) by decide+kernel) rfl (Or.inl rfl) (by trivial)) (@ba _ _ _ _ _ _ _ _ (@ax _ _ _ 2 _ (show List.Nodup (["thing","one","other","chance","worth"]:List Str) by decide+kernel) rfl (Or.inl rfl) (by trivial)) (@ba _ _ _ _ _ _ _ _ (@ax _ _ _ 3 _ (show List.Nodup (["thing","one","other","chance","worth"]:List Str) by decide+kernel) rfl (Or.inl rfl) (by trivial)) (@ba _ _ _ _ _ _ _ _ (@ax _ _ _ 4 _ (show List.Nodup (["thing","one","other","chance","worth"]:List Str) by decide+kernel) rfl (Or.inl rfl) (by trivial)) (@gS _ _) (by rfl)) (by rfl)) (by rfl)) (by rfl)) (bw (bw (bw (bw jc)))) (by rfl) (by rfl))) (fun C s0 H0 fp=>(@eE _ _))
        (fun C s0 H0 fp=>(@jl _ _ _ _ _ _ _ _ _ (@su _ _ _ rfl hr) (@cn _ _ _ _ _ _ _ rfl (¬0) (¬1) (fun _ _=>rfl)) (@cn _ _ _ _ _ _ _ rfl (¬0) (¬2) (fun _ _=>rfl)) (aN _))) rfl (by decide+kernel) (by decide+kernel) (by decide+kernel) (by decide+kernel) (by decide+kernel) (by decide+kernel) (by decide+kernel) (by intro _;rfl))∘ab) (by decide) (by decide) (by rfl) (by rfl))))))
noncomputable def nQ:FS:=(ay (aO 2 (aq aD (aq aU (aq aU (aq fY (aq aD (ae 0) (vC (.int 2147483647))) (vC (.int 48271))) (aq fY (aq fY (vC (.int 7919)) (ae 1)) (ae 1))) (vC (.int 104729))) (vC (.int 2147483647))))
    (bC (aq aD (aq fY (ae 2) (ae 2)) (vC (.int 2147483629)))))
noncomputable def fD:FM:=h_ 2 1 ([2]++[]) nQ
theorem mv:aJ ["_law_cell","_law_k","_law_number"] ["_law_cell","_law_k"] (aj gZ):=⟨rfl,rfl,rfl,by decide+kernel,rfl,by decide+kernel,by decide+kernel⟩
theorem qI(h:bi K mg "_law_mixed" gZ f fd ["_law_cell","_law_k"])(T:iK mg):aK P w K mg base bU 1 f fd ["_law_cell","_law_k"] (b6 K 2 fD):=by
  have nd:=mv.nd
  exact h.fn mv rfl rfl (fun cdv A outer s H E hr=>(@af _ _ _ _ _ _ _ _ (@am _ _ _ _ _ 2 _ _ nd rfl (Or.inl rfl) (@aE _ _ _ _ _ _ _ (@aV _ _ _ _ _ _ _ rfl (@aV _ _ _ _ _ _ _ rfl (@jm _ _ _ _ _ _ _ rfl (@aE _ _ _ _ _ _ _ (¬0) ac) ac) (@jm _ _ _ _ _ _ _ rfl (@jm _ _ _ _ _ _ _ rfl ac (¬1)) (¬1))) ac) ac) (by rfl) (by trivial))
      (@ai _ _ _ _ _ (@aI _ _ _ _ _ (@aE _ _ _ _ _ _ _ (@jm _ _ _ _ _ _ _ rfl (¬2) (¬2)) ac)))))
noncomputable def dH:FT:=(pI (aS (aq ym (ae 3) (aq kM (vC (.int 10)) (vC (.int 18))))) (aS (aq u9 (aM (g1 fX) (aa (ae 1) ah)) (vC (.int 900)))))
noncomputable def fj:FS:=(ay (dc (bA be (ae 1) (aa (aq aD (ae 3) (vC (.int 2147483629))) ah)))
    (aO 3 (aq c7 (ae 3) (vC (.int 2147483629)))))
noncomputable def fy:FI:=(bx (aa (vC (.int 12)) ah))
noncomputable def ej:FS:=(dc (bA be (ae 1) (aa (bY 2 fD (aa (bY 2 fD (aa (ae 3) (aa (aq aU (aq fY (vC (.int 3)) (ae 4)) (vC (.int 1))) ah))) (aa (aq aU (aq aU (ae 4) (ae 2)) (vC (.int 2))) ah))) ah)))
noncomputable def ie:FI:=(bx (aa (aM (g2 kL) (aa (aM (g1 fX) (aa (ae 0) ah)) (aa (vC (.int 63)) ah))) ah))
noncomputable def dG:FS:=(ay (aO 3 (aM (g1 oQ) (aa (aq eg (ae 0) (ae 2)) ah)))
    (ay (gh (aS (aq u9 (ae 3) (aq kM (vC (.int 10)) (vC (.int 18)))))
    (bS ([4]++[]) fy (ag 4) ej)
    dq)
    (ay (gj (2 ^ 4200) dH fj)
    (gh (aS (aq ym (ae 3) (vC (.int 2147483629))))
    (dc (bA be (ae 1) (aa (aq aD (ae 3) (vC (.int 2147483629))) ah)))
    dq))))
noncomputable def nO:FS:=(ay (aO 1 (bZ ah))
    (ay (bS ([2]++([3]++((([4]++[])++[])++(([]++[3])++([]++[]))))) ie (ag 2) dG)
    (bC (ae 1))))
noncomputable def gL:FM:=h_ 1 4 ([1]++(([2]++([3]++((([4]++[])++[])++(([]++[3])++([]++[])))))++[])) nO
theorem mn:aJ ["_law_script","_law_drawn","_law_k","_law_cell","_law_j"] ["_law_script"] (aj gX):=⟨rfl,rfl,rfl,by decide+kernel,rfl,by decide+kernel,by decide+kernel⟩
theorem qG(h:bi K mg "_law_draws" gX f fd ["_law_script"])(T:iK mg){fLmixed:Addr}{eLmixed:FuncData}(hLmixed:bi K mg "_law_mixed" gZ fLmixed eLmixed ["_law_cell","_law_k"])(GLmixed:aK P w K mg base bU 1 fLmixed eLmixed ["_law_cell","_law_k"] (b6 K 2 fD)):aK P w K mg base bU 2 f fd ["_law_script"] (b6 K 1 gL):=by
  have nd:=mn.nd
  exact h.fn mn rfl rfl (fun cdv A outer s H E hr=>(@af _ _ _ _ _ _ _ _ (@am _ _ _ _ _ 1 _ _ nd rfl (Or.inl rfl) (@aT _ _ _ _ _ ab) (by rfl) (by trivial))
      (@af _ _ _ _ _ _ _ _ (@cq _ _ _ _ _ _ _ _ _ _ _ PassesOwn.never rfl (@bj _ _ _ _ _ _ _ rfl T.b_range ((@aX _ _ _ _ _ _ _ _ _ (@b_min _ _ rfl) (by rfl) T.b_min ((@aX _ _ _ _ _ _ _ _ _ (@b_len _ _ rfl) (by rfl) T.b_len ((¬0)∘ab) (by decide) (by decide) (by rfl) (by rfl))∘(ac∘ab)) (by decide) (by decide) (by rfl) (by rfl))∘ab) (by rfl)) (@ax _ _ _ 2 _ nd rfl (Or.inl rfl) (by trivial))
      (@af _ _ _ _ _ _ _ _ (@am _ _ _ _ _ 3 _ _ nd rfl (Or.inl rfl) (@aX _ _ _ _ _ _ _ _ _ (@b_abs _ _) (by rfl) T.b_abs ((@cn _ _ _ _ _ _ _ rfl (¬0) (¬2) (fun _ _=>rfl))∘ab) (by decide) (by decide) (by rfl) (by rfl)) (by rfl) (by trivial))
      (@af _ _ _ _ _ _ _ _ (@b5 _ _ _ _ _ _ _ _ _ _ _ (@a7 _ _ _ _ _ _ _ _ _ (@sr _ _) (¬3) (@rg _ _ _ _ _ _ _ ac ac) (aN _))
      (@ai _ _ _ _ _ (@cq _ _ _ _ _ _ _ _ _ _ _ PassesOwn.never rfl (@bj _ _ _ _ _ _ _ rfl T.b_range (ac∘ab) (by rfl)) (@ax _ _ _ 4 _ nd rfl (Or.inl rfl) (by trivial))
      (@ai _ _ _ _ _ (@bO _ _ _ _ _ (@bt _ _ _ _ _ _ _ _ _ rfl (¬1) ((@aP _ _ _ _ _ _ _ _ _ _ _ _ _ _ _ hLmixed GLmixed (hr.mono (by decide)) ((@aP _ _ _ _ _ _ _ _ _ _ _ _ _ _ _ hLmixed GLmixed (hr.mono (by decide)) ((¬3)∘((@aV _ _ _ _ _ _ _ rfl (@jm _ _ _ _ _ _ _ rfl ac (¬4)) ac)∘ab)) (by rfl) (by decide) (by rfl) (by rfl))∘((@aV _ _ _ _ _ _ _ rfl (@aV _ _ _ _ _ _ _ rfl (¬4) (¬2)) ac)∘ab)) (by rfl) (by decide) (by rfl) (by rfl))∘ab) (by rfl) (by rfl) (by rfl) (by rfl) (by rfl)) (by rfl))) (by intro _;rfl)))
      (@aZ _ _))
      (@af _ _ _ _ _ _ _ _ (@jq _ _ _ _ _ _ _ _ _ PassesOwn.never (@rA _ _ _ _ (@w_ _ _ _ _ _ _ _ _ (@a7 _ _ _ _ _ _ _ _ _ (@yd _ _) (¬3) (@rg _ _ _ _ _ _ _ ac ac) (aN _)) (@ug _ _ _ _ _ (@a7 _ _ _ _ _ _ _ _ _ (@sr _ _) (@aX _ _ _ _ _ _ _ _ _ (@b_len _ _ rfl) (by rfl) T.b_len ((¬1)∘ab) (by decide) (by decide) (by rfl) (by rfl)) ac (aN _)))))
      (@af _ _ _ _ _ _ _ _ (@bO _ _ _ _ _ (@bt _ _ _ _ _ _ _ _ _ rfl (¬1) ((@aE _ _ _ _ _ _ _ (¬3) ac)∘ab) (by rfl) (by rfl) (by rfl) (by rfl) (by rfl)) (by rfl))
      (@ai _ _ _ _ _ (@am _ _ _ _ _ 3 _ _ nd rfl (Or.inl rfl) (@ee _ _ _ _ _ _ _ (¬3) ac) (by rfl) (by trivial)))))
      (@ai _ _ _ _ _ (@b5 _ _ _ _ _ _ _ _ _ _ _ (@a7 _ _ _ _ _ _ _ _ _ (@yd _ _) (¬3) ac (aN _))
      (@ai _ _ _ _ _ (@bO _ _ _ _ _ (@bt _ _ _ _ _ _ _ _ _ rfl (¬1) ((@aE _ _ _ _ _ _ _ (¬3) ac)∘ab) (by rfl) (by rfl) (by rfl) (by rfl) (by rfl)) (by rfl)))
      (@aZ _ _)))))) (by intro _;rfl))
      (@ai _ _ _ _ _ (@aI _ _ _ _ _ (¬1))))))
noncomputable def mS:FS:=(ay (gh (aS (aq (cg false) (ae 0) (bZ ah)))
    (bC (vC (.int 0)))
    dq)
    (bC (bA f_ (ae 0) (aa (vC (.int 0)) ah))))
noncomputable def az:FM:=h_ 1 0 (([]++[])++[]) mS
theorem oy:aJ ["_law_drawn"] ["_law_drawn"] (aj dn):=⟨rfl,rfl,rfl,by decide+kernel,rfl,by decide+kernel,by decide+kernel⟩
theorem sV(h:bi K mg "_law_next" dn f fd ["_law_drawn"])(T:iK mg):aK P w K mg base bU 1 f fd ["_law_drawn"] (b6 K 1 az):=by
  have nd:=oy.nd
  exact h.fn oy rfl rfl (fun cdv A outer s H E hr=>(@af _ _ _ _ _ _ _ _ (@b5 _ _ _ _ _ _ _ _ _ _ _ (@a7 _ _ _ _ _ _ _ _ _ (@gA _ _ _ rfl hr) (¬0) (@aT _ _ _ _ _ ab) (aN _))
      (@ai _ _ _ _ _ (@aI _ _ _ _ _ ac))
      (@aZ _ _))
      (@ai _ _ _ _ _ (@aI _ _ _ _ _ (@oo _ _ _ _ _ _ _ _ _ rfl (¬0) (ac∘ab) (by rfl) (by rfl) (by rfl) (by rfl) (by rfl))))))
noncomputable def gy:FT:=(aS (aq (cg true) (ae 1) (vC (.int 0))))
noncomputable def iR:FS:=(rH 0 1 (aa (ae 1) (aa (aq aD (ae 0) (ae 1)) ah)))
noncomputable def uD:FS:=(ay (gj (2 ^ 4200) gy iR)
    (bC (aM (g1 oQ) (aa (ae 0) ah))))
noncomputable def lV:FM:=h_ 2 0 ([0,1]++[]) uD
theorem rJ:aJ ["_law_one","_law_other"] ["_law_one","_law_other"] (aj mf):=⟨rfl,rfl,rfl,by decide+kernel,rfl,by decide+kernel,by decide+kernel⟩
theorem vX(h:bi K mg "_law_gcd" mf f fd ["_law_one","_law_other"])(T:iK mg):aK P w K mg base bU 1 f fd ["_law_one","_law_other"] (b6 K 2 lV):=by
  have nd:=rJ.nd
  exact h.fn rJ rfl rfl (fun cdv A outer s H E hr=>(@af _ _ _ _ _ _ _ _ (@jq _ _ _ _ _ _ _ _ _ PassesOwn.never (@a7 _ _ _ _ _ _ _ _ _ (@su _ _ _ rfl hr) (¬1) ac (aN _))
      (@ai _ _ _ _ _ (@wY _ _ _ _ _ 0 1 _ _ _ _ _ _ _ _ _ rfl nd rfl rfl (by decide) rfl rfl ((¬1)∘((@aE _ _ _ _ _ _ _ (¬0) (¬1))∘ab)) (by rfl) (by rfl))))
      (@ai _ _ _ _ _ (@aI _ _ _ _ _ (@aX _ _ _ _ _ _ _ _ _ (@b_abs _ _) (by rfl) T.b_abs ((¬0)∘ab) (by decide) (by decide) (by rfl) (by rfl))))))
noncomputable def uE:FS:=(ay (aO 2 (bY 2 lV (aa (ae 0) (aa (ae 1) ah))))
    (bC (aW (aa (aq c7 (ae 0) (ae 2)) (aa (aq c7 (ae 1) (ae 2)) ah)))))
noncomputable def j7:FM:=h_ 2 1 ([2]++[]) uE
theorem rK:aJ ["_law_top","_law_bottom","_law_common"] ["_law_top","_law_bottom"] (aj mh):=⟨rfl,rfl,rfl,by decide+kernel,rfl,by decide+kernel,by decide+kernel⟩
theorem vY(h:bi K mg "_law_low" mh f fd ["_law_top","_law_bottom"])(T:iK mg){fLgcd:Addr}{eLgcd:FuncData}(hLgcd:bi K mg "_law_gcd" mf fLgcd eLgcd ["_law_one","_law_other"])(GLgcd:aK P w K mg base bU 1 fLgcd eLgcd ["_law_one","_law_other"] (b6 K 2 lV)):aK P w K mg base bU 2 f fd ["_law_top","_law_bottom"] (b6 K 2 j7):=by
  have nd:=rK.nd
  exact h.fn rK rfl rfl (fun cdv A outer s H E hr=>(@af _ _ _ _ _ _ _ _ (@am _ _ _ _ _ 2 _ _ nd rfl (Or.inl rfl) (@aP _ _ _ _ _ _ _ _ _ _ _ _ _ _ _ hLgcd GLgcd (hr.mono (by decide)) ((¬0)∘((¬1)∘ab)) (by rfl) (by decide) (by rfl) (by rfl)) (by rfl) (by trivial))
      (@ai _ _ _ _ _ (@aI _ _ _ _ _ (@ao _ _ _ _ _ _ ((@ee _ _ _ _ _ _ _ (¬0) (¬2))∘((@ee _ _ _ _ _ _ _ (¬1) (¬2))∘ab)))))))
noncomputable def pT:FS:=(ay (gh (aS (ae 1))
    (bC (aq yn (ae 0) (vC (.bool true))))
    dq)
    (bC (aq yn (ae 0) (vC (.bool false)))))
noncomputable def jh:FM:=h_ 2 0 (([]++[])++[]) pT
theorem oA:aJ ["_law_found","_law_due"] ["_law_found","_law_due"] (aj jt):=⟨rfl,rfl,rfl,by decide+kernel,rfl,by decide+kernel,by decide+kernel⟩
theorem sX(h:bi K mg "_law_says" jt f fd ["_law_found","_law_due"])(T:iK mg):aK P w K mg base bU 1 f fd ["_law_found","_law_due"] (b6 K 2 jh):=by
  have nd:=oA.nd
  exact h.fn oA rfl rfl (fun cdv A outer s H E hr=>(@af _ _ _ _ _ _ _ _ (@b5 _ _ _ _ _ _ _ _ _ _ _ (@gf _ _ _ _ (¬1) (by intro _;rfl))
      (@ai _ _ _ _ _ (@aI _ _ _ _ _ (@jl _ _ _ _ _ _ _ _ _ (@ye _ _) (¬0) (@dw _ _ _ _ _) (aN _))))
      (@aZ _ _))
      (@ai _ _ _ _ _ (@aI _ _ _ _ _ (@jl _ _ _ _ _ _ _ _ _ (@ye _ _) (¬0) (@dw _ _ _ _ _) (aN _))))))
noncomputable def eL:FS:=(ay (gh (aS (aq (cg false) (ae 1) (vC (.int 0))))
    (bC (aq eg (bZ (aa (aW (aa (vC (.int 1)) (aa (vC (.int 2)) ah))) (aa (aW (aa (vC (.int 1)) (aa (vC (.int 3)) ah))) (aa (aW (aa (vC (.int 2)) (aa (vC (.int 3)) ah))) (aa (aW (aa (vC (.int 1)) (aa (vC (.int 1)) ah))) (aa (aW (aa (vC (.int 0)) (aa (vC (.int 1)) ah))) (aa (aW (aa (vC (.int 3)) (aa (vC (.int 4)) ah))) ah))))))) (aq aD (ae 0) (vC (.int 6)))))
    dq)
    (ay (gh (aS (aq (cg false) (ae 1) (vC (.int 1))))
    (ay (aO 2 (aq aU (vC (.int 2)) (aq aD (ae 0) (vC (.int 9)))))
    (bC (bY 2 j7 (aa (aq aU (vC (.int 1)) (aq aD (aq c7 (ae 0) (vC (.int 9))) (aq di (ae 2) (vC (.int 1))))) (aa (ae 2) ah)))))
    dq)
    (ay (gh (aS (aq (cg false) (ae 1) (vC (.int 2))))
    (ay (aO 2 (aq aU (vC (.int 1)) (aq aD (ae 0) (vC (.int 100)))))
    (bC (bY 2 j7 (aa (aq aD (aq c7 (ae 0) (vC (.int 100))) (aq aU (ae 2) (vC (.int 1)))) (aa (ae 2) ah)))))
    dq)
    (bC (aW (aa (vC (.int 1)) (aa (vC (.int 1)) ah)))))))
noncomputable def bH:FM:=h_ 2 1 (([]++[])++((([2]++[])++[])++((([2]++[])++[])++[]))) eL
theorem ka:aJ ["_law_number","_law_kind","_law_bottom"] ["_law_number","_law_kind"] (aj dR):=⟨rfl,rfl,rfl,by decide+kernel,rfl,by decide+kernel,by decide+kernel⟩
theorem pb(h:bi K mg "_law_chance" dR f fd ["_law_number","_law_kind"])(T:iK mg){fLlow:Addr}{eLlow:FuncData}(hLlow:bi K mg "_law_low" mh fLlow eLlow ["_law_top","_law_bottom"])(GLlow:aK P w K mg base bU 2 fLlow eLlow ["_law_top","_law_bottom"] (b6 K 2 j7)):aK P w K mg base bU 3 f fd ["_law_number","_law_kind"] (b6 K 2 bH):=by
  have nd:=ka.nd
  exact h.fn ka rfl rfl (fun cdv A outer s H E hr=>(@af _ _ _ _ _ _ _ _ (@b5 _ _ _ _ _ _ _ _ _ _ _ (@a7 _ _ _ _ _ _ _ _ _ (@gA _ _ _ rfl hr) (¬1) ac (aN _))
      (@ai _ _ _ _ _ (@aI _ _ _ _ _ (@cn _ _ _ _ _ _ _ rfl (@aT _ _ _ _ _ ((@ao _ _ _ _ _ _ (ac∘(ac∘ab)))∘((@ao _ _ _ _ _ _ (ac∘(ac∘ab)))∘((@ao _ _ _ _ _ _ (ac∘(ac∘ab)))∘((@ao _ _ _ _ _ _ (ac∘(ac∘ab)))∘((@ao _ _ _ _ _ _ (ac∘(ac∘ab)))∘((@ao _ _ _ _ _ _ (ac∘(ac∘ab)))∘ab))))))) (@aE _ _ _ _ _ _ _ (¬0) ac) (fun _ _=>rfl))))
      (@aZ _ _))
      (@af _ _ _ _ _ _ _ _ (@b5 _ _ _ _ _ _ _ _ _ _ _ (@a7 _ _ _ _ _ _ _ _ _ (@gA _ _ _ rfl hr) (¬1) ac (aN _))
      (@af _ _ _ _ _ _ _ _ (@am _ _ _ _ _ 2 _ _ nd rfl (Or.inl rfl) (@aV _ _ _ _ _ _ _ rfl ac (@aE _ _ _ _ _ _ _ (¬0) ac)) (by rfl) (by trivial))
      (@ai _ _ _ _ _ (@aI _ _ _ _ _ (@aP _ _ _ _ _ _ _ _ _ _ _ _ _ _ _ hLlow GLlow (hr.mono (by decide)) ((@aV _ _ _ _ _ _ _ rfl ac (@aE _ _ _ _ _ _ _ (@ee _ _ _ _ _ _ _ (¬0) ac) (@gR _ _ _ _ _ _ _ (¬2) ac)))∘((¬2)∘ab)) (by rfl) (by decide) (by rfl) (by rfl)))))
      (@aZ _ _))
      (@af _ _ _ _ _ _ _ _ (@b5 _ _ _ _ _ _ _ _ _ _ _ (@a7 _ _ _ _ _ _ _ _ _ (@gA _ _ _ rfl hr) (¬1) ac (aN _))
      (@af _ _ _ _ _ _ _ _ (@am _ _ _ _ _ 2 _ _ nd rfl (Or.inl rfl) (@aV _ _ _ _ _ _ _ rfl ac (@aE _ _ _ _ _ _ _ (¬0) ac)) (by rfl) (by trivial))
      (@ai _ _ _ _ _ (@aI _ _ _ _ _ (@aP _ _ _ _ _ _ _ _ _ _ _ _ _ _ _ hLlow GLlow (hr.mono (by decide)) ((@aE _ _ _ _ _ _ _ (@ee _ _ _ _ _ _ _ (¬0) ac) (@aV _ _ _ _ _ _ _ rfl (¬2) ac))∘((¬2)∘ab)) (by rfl) (by decide) (by rfl) (by rfl)))))
      (@aZ _ _))
      (@ai _ _ _ _ _ (@aI _ _ _ _ _ (@ao _ _ _ _ _ _ (ac∘(ac∘ab)))))))))
noncomputable def nS:FS:=(bC (aq eg (bZ (aa (aq aD (ae 0) (vC (.int 7))) (aa (aq aU (vC (.int 5)) (aq aD (ae 0) (vC (.int 2)))) (aa (aq aD (ae 0) (vC (.int 1001))) (aa (aq di (vC (.int 1000)) (aq aD (ae 0) (vC (.int 3)))) ah))))) (aq aD (ae 1) (vC (.int 4)))))
noncomputable def dD:FM:=h_ 2 0 [] nS
theorem mx:aJ ["_law_number","_law_kind"] ["_law_number","_law_kind"] (aj eF):=⟨rfl,rfl,rfl,by decide+kernel,rfl,by decide+kernel,by decide+kernel⟩
theorem qK(h:bi K mg "_law_worth" eF f fd ["_law_number","_law_kind"])(T:iK mg):aK P w K mg base bU 1 f fd ["_law_number","_law_kind"] (b6 K 2 dD):=by
  have nd:=mx.nd
  exact h.fn mx rfl rfl (fun cdv A outer s H E hr=>(@ai _ _ _ _ _ (@aI _ _ _ _ _ (@cn _ _ _ _ _ _ _ rfl (@aT _ _ _ _ _ ((@aE _ _ _ _ _ _ _ (¬0) ac)∘((@aV _ _ _ _ _ _ _ rfl ac (@aE _ _ _ _ _ _ _ (¬0) ac))∘((@aE _ _ _ _ _ _ _ (¬0) ac)∘((@gR _ _ _ _ _ _ _ ac (@aE _ _ _ _ _ _ _ (¬0) ac))∘ab))))) (@aE _ _ _ _ _ _ _ (¬1) ac) (fun _ _=>rfl)))))
noncomputable def jf:FI:=(bx (aa (ae 2) ah))
noncomputable def ek:FS:=(ay (aO 8 (bY 1 az (aa (ae 0) ah)))
    (ay (aO 9 (aq eg (bZ (aa (aq aD (ae 8) (ae 1)) (aa (vC (.int 0)) (aa (aq aD (ae 7) (ae 1)) (aa (aq aD (ae 8) (ae 1)) (aa (aq aD (ae 8) (vC (.int 2))) (aa (aq aD (ae 8) (ae 1)) ah))))))) (ae 3)))
    (ay (aO 10 (aq aD (aq aU (aq aU (ae 9) (vC (.int 1))) (aq aD (aq c7 (ae 8) (vC (.int 12))) (aq di (ae 1) (vC (.int 1))))) (ae 1)))
    (ay (gh (aS (aq (cg false) (ae 3) (vC (.int 4))))
    (pw (aW (aa (vC (.int 0)) (aa (vC (.int 1)) ah))) (du (ar (ag 9) (ar (ag 10) cN))))
    dq)
    (ay (aO 11 (bY 1 az (aa (ae 0) ah)))
    (ay (aO 12 (aW (aa (aM (g2 kL) (aa (ae 9) (aa (ae 10) ah))) (aa (aM (g2 iM) (aa (ae 9) (aa (ae 10) ah))) ah))))
    (dc (bA be (ae 6) (aa (aq aU (ae 12) (aW (aa (bY 2 bH (aa (ae 11) (aa (ae 4) ah))) (aa (bY 2 dD (aa (aq c7 (ae 11) (vC (.int 10007))) (aa (ae 5) ah))) ah)))) ah)))))))))
noncomputable def pU:FS:=(ay (aO 3 (aq aD (bY 1 az (aa (ae 0) ah)) (vC (.int 6))))
    (ay (aO 4 (aq aD (bY 1 az (aa (ae 0) ah)) (vC (.int 4))))
    (ay (aO 5 (aq aD (bY 1 az (aa (ae 0) ah)) (vC (.int 4))))
    (ay (aO 6 (bZ ah))
    (ay (bS ([7]++([8]++([9]++([10]++((([9]++([10]++[]))++[])++([11]++([12]++[]))))))) jf (ag 7) ek)
    (bC (aM (g1 ck) (aa (ae 6) ah))))))))
noncomputable def eY:FM:=h_ 3 10 ([3]++([4]++([5]++([6]++(([7]++([8]++([9]++([10]++((([9]++([10]++[]))++[])++([11]++([12]++[])))))))++[]))))) pU
theorem oB:aJ ["_law_drawn","_law_things","_law_many","_law_shape","_law_odds","_law_worths","_law_found","_law_k","_law_number","_law_one","_law_other","_law_cell","_law_ends"] ["_law_drawn","_law_things","_law_many"] (aj iu):=⟨rfl,rfl,rfl,by decide+kernel,rfl,by decide+kernel,by decide+kernel⟩
theorem sY(h:bi K mg "_law_ties" iu f fd ["_law_drawn","_law_things","_law_many"])(T:iK mg){fLnext:Addr}{eLnext:FuncData}(hLnext:bi K mg "_law_next" dn fLnext eLnext ["_law_drawn"])(GLnext:aK P w K mg base bU 1 fLnext eLnext ["_law_drawn"] (b6 K 1 az)){fLchance:Addr}{eLchance:FuncData}(hLchance:bi K mg "_law_chance" dR fLchance eLchance ["_law_number","_law_kind"])(GLchance:aK P w K mg base bU 3 fLchance eLchance ["_law_number","_law_kind"] (b6 K 2 bH)){fLworth:Addr}{eLworth:FuncData}(hLworth:bi K mg "_law_worth" eF fLworth eLworth ["_law_number","_law_kind"])(GLworth:aK P w K mg base bU 1 fLworth eLworth ["_law_number","_law_kind"] (b6 K 2 dD)):aK P w K mg base bU 4 f fd ["_law_drawn","_law_things","_law_many"] (b6 K 3 eY):=by
  have nd:=oB.nd
  exact h.fn oB rfl rfl (fun cdv A outer s H E hr=>(@af _ _ _ _ _ _ _ _ (@am _ _ _ _ _ 3 _ _ nd rfl (Or.inl rfl) (@aE _ _ _ _ _ _ _ (@aP _ _ _ _ _ _ _ _ _ _ _ _ _ _ _ hLnext GLnext (hr.mono (by decide)) ((¬0)∘ab) (by rfl) (by decide) (by rfl) (by rfl)) ac) (by rfl) (by trivial))
      (@af _ _ _ _ _ _ _ _ (@am _ _ _ _ _ 4 _ _ nd rfl (Or.inl rfl) (@aE _ _ _ _ _ _ _ (@aP _ _ _ _ _ _ _ _ _ _ _ _ _ _ _ hLnext GLnext (hr.mono (by decide)) ((¬0)∘ab) (by rfl) (by decide) (by rfl) (by rfl)) ac) (by rfl) (by trivial))
      (@af _ _ _ _ _ _ _ _ (@am _ _ _ _ _ 5 _ _ nd rfl (Or.inl rfl) (@aE _ _ _ _ _ _ _ (@aP _ _ _ _ _ _ _ _ _ _ _ _ _ _ _ hLnext GLnext (hr.mono (by decide)) ((¬0)∘ab) (by rfl) (by decide) (by rfl) (by rfl)) ac) (by rfl) (by trivial))
      (@af _ _ _ _ _ _ _ _ (@am _ _ _ _ _ 6 _ _ nd rfl (Or.inl rfl) (@aT _ _ _ _ _ ab) (by rfl) (by trivial))
      (@af _ _ _ _ _ _ _ _ (@cq _ _ _ _ _ _ _ _ _ _ _ PassesOwn.never rfl (@bj _ _ _ _ _ _ _ rfl T.b_range ((¬2)∘ab) (by rfl)) (@ax _ _ _ 7 _ nd rfl (Or.inl rfl) (by trivial))
      (@af _ _ _ _ _ _ _ _ (@am _ _ _ _ _ 8 _ _ nd rfl (Or.inl rfl) (@aP _ _ _ _ _ _ _ _ _ _ _ _ _ _ _ hLnext GLnext (hr.mono (by decide)) ((¬0)∘ab) (by rfl) (by decide) (by rfl) (by rfl)) (by rfl) (by trivial))
      (@af _ _ _ _ _ _ _ _ (@am _ _ _ _ _ 9 _ _ nd rfl (Or.inl rfl) (@cn _ _ _ _ _ _ _ rfl (@aT _ _ _ _ _ ((@aE _ _ _ _ _ _ _ (¬8) (¬1))∘(ac∘((@aE _ _ _ _ _ _ _ (¬7) (¬1))∘((@aE _ _ _ _ _ _ _ (¬8) (¬1))∘((@aE _ _ _ _ _ _ _ (¬8) ac)∘((@aE _ _ _ _ _ _ _ (¬8) (¬1))∘ab))))))) (¬3) (fun _ _=>rfl)) (by rfl) (by trivial))
      (@af _ _ _ _ _ _ _ _ (@am _ _ _ _ _ 10 _ _ nd rfl (Or.inl rfl) (@aE _ _ _ _ _ _ _ (@aV _ _ _ _ _ _ _ rfl (@aV _ _ _ _ _ _ _ rfl (¬9) ac) (@aE _ _ _ _ _ _ _ (@ee _ _ _ _ _ _ _ (¬8) ac) (@gR _ _ _ _ _ _ _ (¬1) ac))) (¬1)) (by rfl) (by trivial))
      (@af _ _ _ _ _ _ _ _ (@b5 _ _ _ _ _ _ _ _ _ _ _ (@a7 _ _ _ _ _ _ _ _ _ (@gA _ _ _ rfl hr) (¬3) ac (aN _))
      (@ai _ _ _ _ _ (@rp _ _ _ _ _ _ _ _ (@ao _ _ _ _ _ _ (ac∘(ac∘ab))) (@jp _ _ _ _ _ _ _ _ rfl rfl (@ba _ _ _ _ _ _ _ _ (@ax _ _ _ 9 _ nd rfl (Or.inl rfl) (by trivial)) (@ba _ _ _ _ _ _ _ _ (@ax _ _ _ 10 _ nd rfl (Or.inl rfl) (by trivial)) (@gS _ _) (by rfl)) (by rfl)) (bw (bw jc)) (by rfl) (by rfl)) (by rfl) (by rfl) (by rfl)))
      (@aZ _ _))
      (@af _ _ _ _ _ _ _ _ (@am _ _ _ _ _ 11 _ _ nd rfl (Or.inl rfl) (@aP _ _ _ _ _ _ _ _ _ _ _ _ _ _ _ hLnext GLnext (hr.mono (by decide)) ((¬0)∘ab) (by rfl) (by decide) (by rfl) (by rfl)) (by rfl) (by trivial))
      (@af _ _ _ _ _ _ _ _ (@am _ _ _ _ _ 12 _ _ nd rfl (Or.inl rfl) (@ao _ _ _ _ _ _ ((@aX _ _ _ _ _ _ _ _ _ (@b_min _ _ rfl) (by rfl) T.b_min ((¬9)∘((¬10)∘ab)) (by decide) (by decide) (by rfl) (by rfl))∘((@aX _ _ _ _ _ _ _ _ _ (@b_max _ _ rfl) (by rfl) T.b_max ((¬9)∘((¬10)∘ab)) (by decide) (by decide) (by rfl) (by rfl))∘ab))) (by rfl) (by trivial))
      (@ai _ _ _ _ _ (@bO _ _ _ _ _ (@bt _ _ _ _ _ _ _ _ _ rfl (¬6) ((@aV _ _ _ _ _ _ _ rfl (¬12) (@ao _ _ _ _ _ _ ((@aP _ _ _ _ _ _ _ _ _ _ _ _ _ _ _ hLchance GLchance (hr.mono (by decide)) ((¬11)∘((¬4)∘ab)) (by rfl) (by decide) (by rfl) (by rfl))∘((@aP _ _ _ _ _ _ _ _ _ _ _ _ _ _ _ hLworth GLworth (hr.mono (by decide)) ((@ee _ _ _ _ _ _ _ (¬11) ac)∘((¬5)∘ab)) (by rfl) (by decide) (by rfl) (by rfl))∘ab))))∘ab) (by rfl) (by rfl) (by rfl) (by rfl) (by rfl)) (by rfl))))))))) (by intro _;rfl))
      (@ai _ _ _ _ _ (@aI _ _ _ _ _ (@aX _ _ _ _ _ _ _ _ _ (@b_tuple _ _ rfl) (by rfl) T.b_tuple ((¬6)∘ab) (by decide) (by decide) (by rfl) (by rfl))))))))))
noncomputable def kO:FI:=(bx (aa (ae 3) ah))
noncomputable def iS:FS:=(dc (bA be (ae 7) (aa (aq eg (bZ (aa (vC (.int 20)) (aa (aq aU (vC (.int 1)) (aq aD (bY 1 az (aa (ae 0) ah)) (vC (.int 3)))) (aa (aq aD (bY 1 az (aa (ae 0) ah)) (vC (.int 21))) ah)))) (ae 6)) ah)))
noncomputable def uG:FS:=(ay (aO 3 (aq aD (bY 1 az (aa (ae 0) ah)) (aq aU (ae 1) (vC (.int 1)))))
    (ay (aO 4 (aq fY (aq aD (bY 1 az (aa (ae 0) ah)) (aq aU (ae 2) (vC (.int 1)))) (aM (g1 oR) (aa (aq zW (ae 3) (vC (.int 1))) ah))))
    (ay (aO 5 (bY 3 eY (aa (ae 0) (aa (aM (g2 iM) (aa (vC (.int 2)) (aa (ae 3) ah))) (aa (ae 4) ah)))))
    (ay (aO 6 (aq aD (bY 1 az (aa (ae 0) ah)) (vC (.int 3))))
    (ay (aO 7 (bZ ah))
    (ay (bS ([8]++[]) kO (ag 8) iS)
    (ay (aO 9 (aq eg (bZ (aa (vC (.int 40)) (aa (aq aU (vC (.int 1)) (aq aD (bY 1 az (aa (ae 0) ah)) (aM (g2 iM) (aa (vC (.int 1)) (aa (ae 4) ah))))) (aa (aq aD (bY 1 az (aa (ae 0) ah)) (vC (.int 41))) ah)))) (aq aD (bY 1 az (aa (ae 0) ah)) (vC (.int 3)))))
    (bC (aW (aa (ae 3) (aa (ae 5) (aa (aM (g1 ck) (aa (ae 7) ah)) (aa (ae 9) ah)))))))))))))
noncomputable def lX:FM:=h_ 3 7 ([3]++([4]++([5]++([6]++([7]++(([8]++[])++([9]++[]))))))) uG
theorem rM:aJ ["_law_drawn","_law_most","_law_ties_here","_law_things","_law_many","_law_rows_here","_law_way","_law_patience","_law_k","_law_asks"] ["_law_drawn","_law_most","_law_ties_here"] (aj mj):=⟨rfl,rfl,rfl,by decide+kernel,rfl,by decide+kernel,by decide+kernel⟩
theorem v0(h:bi K mg "_law_web" mj f fd ["_law_drawn","_law_most","_law_ties_here"])(T:iK mg){fLties:Addr}{eLties:FuncData}(hLties:bi K mg "_law_ties" iu fLties eLties ["_law_drawn","_law_things","_law_many"])(GLties:aK P w K mg base bU 4 fLties eLties ["_law_drawn","_law_things","_law_many"] (b6 K 3 eY)){fLnext:Addr}{eLnext:FuncData}(hLnext:bi K mg "_law_next" dn fLnext eLnext ["_law_drawn"])(GLnext:aK P w K mg base bU 1 fLnext eLnext ["_law_drawn"] (b6 K 1 az)):aK P w K mg base bU 5 f fd ["_law_drawn","_law_most","_law_ties_here"] (b6 K 3 lX):=by
  have nd:=rM.nd
  exact h.fn rM rfl rfl (fun cdv A outer s H E hr=>(@af _ _ _ _ _ _ _ _ (@am _ _ _ _ _ 3 _ _ nd rfl (Or.inl rfl) (@aE _ _ _ _ _ _ _ (@aP _ _ _ _ _ _ _ _ _ _ _ _ _ _ _ hLnext GLnext (hr.mono (by decide)) ((¬0)∘ab) (by rfl) (by decide) (by rfl) (by rfl)) (@aV _ _ _ _ _ _ _ rfl (¬1) ac)) (by rfl) (by trivial))
      (@af _ _ _ _ _ _ _ _ (@am _ _ _ _ _ 4 _ _ nd rfl (Or.inl rfl) (@jm _ _ _ _ _ _ _ rfl (@aE _ _ _ _ _ _ _ (@aP _ _ _ _ _ _ _ _ _ _ _ _ _ _ _ hLnext GLnext (hr.mono (by decide)) ((¬0)∘ab) (by rfl) (by decide) (by rfl) (by rfl)) (@aV _ _ _ _ _ _ _ rfl (¬2) ac)) (@aX _ _ _ _ _ _ _ _ _ (@b_int _ _) (by rfl) T.b_int ((@jl _ _ _ _ _ _ _ _ _ (@Ah _ _) (¬3) ac (aN _))∘ab) (by decide) (by decide) (by rfl) (by rfl))) (by rfl) (by trivial))
      (@af _ _ _ _ _ _ _ _ (@am _ _ _ _ _ 5 _ _ nd rfl (Or.inl rfl) (@aP _ _ _ _ _ _ _ _ _ _ _ _ _ _ _ hLties GLties (hr.mono (by decide)) ((¬0)∘((@aX _ _ _ _ _ _ _ _ _ (@b_max _ _ rfl) (by rfl) T.b_max (ac∘((¬3)∘ab)) (by decide) (by decide) (by rfl) (by rfl))∘((¬4)∘ab))) (by rfl) (by decide) (by rfl) (by rfl)) (by rfl) (by trivial))
      (@af _ _ _ _ _ _ _ _ (@am _ _ _ _ _ 6 _ _ nd rfl (Or.inl rfl) (@aE _ _ _ _ _ _ _ (@aP _ _ _ _ _ _ _ _ _ _ _ _ _ _ _ hLnext GLnext (hr.mono (by decide)) ((¬0)∘ab) (by rfl) (by decide) (by rfl) (by rfl)) ac) (by rfl) (by trivial))
      (@af _ _ _ _ _ _ _ _ (@am _ _ _ _ _ 7 _ _ nd rfl (Or.inl rfl) (@aT _ _ _ _ _ ab) (by rfl) (by trivial))
      (@af _ _ _ _ _ _ _ _ (@cq _ _ _ _ _ _ _ _ _ _ _ PassesOwn.never rfl (@bj _ _ _ _ _ _ _ rfl T.b_range ((¬3)∘ab) (by rfl)) (@ax _ _ _ 8 _ nd rfl (Or.inl rfl) (by trivial))
      (@ai _ _ _ _ _ (@bO _ _ _ _ _ (@bt _ _ _ _ _ _ _ _ _ rfl (¬7) ((@cn _ _ _ _ _ _ _ rfl (@aT _ _ _ _ _ (ac∘((@aV _ _ _ _ _ _ _ rfl ac (@aE _ _ _ _ _ _ _ (@aP _ _ _ _ _ _ _ _ _ _ _ _ _ _ _ hLnext GLnext (hr.mono (by decide)) ((¬0)∘ab) (by rfl) (by decide) (by rfl) (by rfl)) ac))∘((@aE _ _ _ _ _ _ _ (@aP _ _ _ _ _ _ _ _ _ _ _ _ _ _ _ hLnext GLnext (hr.mono (by decide)) ((¬0)∘ab) (by rfl) (by decide) (by rfl) (by rfl)) ac)∘ab)))) (¬6) (fun _ _=>rfl))∘ab) (by rfl) (by rfl) (by rfl) (by rfl) (by rfl)) (by rfl))) (by intro _;rfl))
      (@af _ _ _ _ _ _ _ _ (@am _ _ _ _ _ 9 _ _ nd rfl (Or.inl rfl) (@cn _ _ _ _ _ _ _ rfl (@aT _ _ _ _ _ (ac∘((@aV _ _ _ _ _ _ _ rfl ac (@aE _ _ _ _ _ _ _ (@aP _ _ _ _ _ _ _ _ _ _ _ _ _ _ _ hLnext GLnext (hr.mono (by decide)) ((¬0)∘ab) (by rfl) (by decide) (by rfl) (by rfl)) (@aX _ _ _ _ _ _ _ _ _ (@b_max _ _ rfl) (by rfl) T.b_max (ac∘((¬4)∘ab)) (by decide) (by decide) (by rfl) (by rfl))))∘((@aE _ _ _ _ _ _ _ (@aP _ _ _ _ _ _ _ _ _ _ _ _ _ _ _ hLnext GLnext (hr.mono (by decide)) ((¬0)∘ab) (by rfl) (by decide) (by rfl) (by rfl)) ac)∘ab)))) (@aE _ _ _ _ _ _ _ (@aP _ _ _ _ _ _ _ _ _ _ _ _ _ _ _ hLnext GLnext (hr.mono (by decide)) ((¬0)∘ab) (by rfl) (by decide) (by rfl) (by rfl)) ac) (fun _ _=>rfl)) (by rfl) (by trivial))
      (@ai _ _ _ _ _ (@aI _ _ _ _ _ (@ao _ _ _ _ _ _ ((¬3)∘((¬5)∘((@aX _ _ _ _ _ _ _ _ _ (@b_tuple _ _ rfl) (by rfl) T.b_tuple ((¬7)∘ab) (by decide) (by decide) (by rfl) (by rfl))∘((¬9)∘ab)))))))))))))))
noncomputable def uF:FS:=(ay (aO 1 (bZ (aa (vC .none) (aa (vC (.bool true)) (aa (vC (.bool false)) (aa (vC (.int 0)) (aa (vC (.int 1)) (aa (mL mX (vC (.int 1))) (aa (vC (.int 5)) (aa (vC (.str ("":Str))) (aa (vC (.str ("a":Str))) (aa (vC (.str ("0":Str))) (aa (aW ah) (aa (aW (aa (vC (.int 0)) ah)) (aa (aW (aa (vC (.int 0)) (aa (vC (.int 1)) ah))) (aa (aW (aa (aW ah) (aa (aW ah) ah))) (aa (bZ ah) (aa (bZ (aa (vC (.int 0)) ah)) (aa (jB []) (aa (jB [(0,1)]) ah))))))))))))))))))))
    (ay (aO 1 (aq aU (ae 1) (bZ (aa (aW (aa (vC .none) ah)) (aa (aW (aa (aW ah) ah)) (aa (bZ (aa (aW ah) ah)) (aa (aW (aa (vC (.bool true)) (aa (vC (.bool false)) ah))) (aa (aW (aa (aW (aa (vC (.int 0)) (aa (vC (.int 1)) ah))) (aa (aW (aa (vC (.int 1)) (aa (vC (.int 2)) ah))) ah))) (aa (aW (aa (aW (aa (aW ah) (aa (aW ah) ah))) ah)) (aa (aW (aa (vC (.str ("a":Str))) (aa (vC (.int 1)) ah))) (aa (aW (aa (aW (aa (vC (.int 0)) (aa (vC (.int 1)) ah))) ah)) (aa (aq kM (vC (.int 10)) (vC (.int 30))) ah))))))))))))
    (bC (aq eg (ae 1) (aq aD (ae 0) (aM (g1 fX) (aa (ae 1) ah)))))))
noncomputable def lW:FM:=h_ 1 1 ([1]++([1]++[])) uF
theorem rL:aJ ["_law_number","_law_odd_here"] ["_law_number"] (aj mi):=⟨rfl,rfl,rfl,by decide+kernel,rfl,by decide+kernel,by decide+kernel⟩
theorem vZ(h:bi K mg "_law_odd" mi f fd ["_law_number"])(T:iK mg):aK P w K mg base bU 1 f fd ["_law_number"] (b6 K 1 lW):=by
  have nd:=rL.nd
  exact h.fn rL rfl rfl (fun cdv A outer s H E hr=>(@af _ _ _ _ _ _ _ _ (@am _ _ _ _ _ 1 _ _ nd rfl (Or.inl rfl) (@aT _ _ _ _ _ ((@jn _ _ _ _)∘((@dw _ _ _ _ _)∘((@dw _ _ _ _ _)∘(ac∘(ac∘((@om _ _ _ _ _ ac)∘(ac∘((@jo _ _ _ _ _)∘((@jo _ _ _ _ _)∘((@jo _ _ _ _ _)∘((@ao _ _ _ _ _ _ ab)∘((@ao _ _ _ _ _ _ (ac∘ab))∘((@ao _ _ _ _ _ _ (ac∘(ac∘ab)))∘((@ao _ _ _ _ _ _ ((@ao _ _ _ _ _ _ ab)∘((@ao _ _ _ _ _ _ ab)∘ab)))∘((@aT _ _ _ _ _ ab)∘((@aT _ _ _ _ _ (ac∘ab))∘((@rl _ _ _)∘((@md _ _ _ _ _ _ _ _ _)∘ab))))))))))))))))))) (by rfl) (by trivial))
      (@af _ _ _ _ _ _ _ _ (@am _ _ _ _ _ 1 _ _ nd rfl (Or.inl rfl) (@aV _ _ _ _ _ _ _ rfl (¬1) (@aT _ _ _ _ _ ((@ao _ _ _ _ _ _ ((@jn _ _ _ _)∘ab))∘((@ao _ _ _ _ _ _ ((@ao _ _ _ _ _ _ ab)∘ab))∘((@aT _ _ _ _ _ ((@ao _ _ _ _ _ _ ab)∘ab))∘((@ao _ _ _ _ _ _ ((@dw _ _ _ _ _)∘((@dw _ _ _ _ _)∘ab)))∘((@ao _ _ _ _ _ _ ((@ao _ _ _ _ _ _ (ac∘(ac∘ab)))∘((@ao _ _ _ _ _ _ (ac∘(ac∘ab)))∘ab)))∘((@ao _ _ _ _ _ _ ((@ao _ _ _ _ _ _ ((@ao _ _ _ _ _ _ ab)∘((@ao _ _ _ _ _ _ ab)∘ab)))∘ab))∘((@ao _ _ _ _ _ _ ((@jo _ _ _ _ _)∘(ac∘ab)))∘((@ao _ _ _ _ _ _ ((@ao _ _ _ _ _ _ (ac∘(ac∘ab)))∘ab))∘((@rg _ _ _ _ _ _ _ ac ac)∘ab))))))))))) (by rfl) (by trivial))
      (@ai _ _ _ _ _ (@aI _ _ _ _ _ (@cn _ _ _ _ _ _ _ rfl (¬1) (@aE _ _ _ _ _ _ _ (¬0) (@aX _ _ _ _ _ _ _ _ _ (@b_len _ _ rfl) (by rfl) T.b_len ((¬1)∘ab) (by decide) (by decide) (by rfl) (by rfl))) (fun _ _=>rfl)))))))
noncomputable def ig:FI:=(eJ (aq eg (ae 0) (vC (.int 1))))
noncomputable def fm:FS:=(ay (gh (aS (aq (cg false) (ae 1) (ae 3)))
    (dc (bA be (ae 2) (aa (ae 4) ah)))
    dq)
    (gh (aS (aq (cg false) (ae 1) (ae 4)))
    (dc (bA be (ae 2) (aa (ae 3) ah)))
    dq))
noncomputable def nP:FS:=(ay (aO 2 (bZ ah))
    (ay (bS (([3]++([4]++([5]++([6]++[]))))++(([]++[])++([]++[]))) ig (du (ar (ag 3) (ar (ag 4) (ar (ag 5) (ar (ag 6) cN))))) fm)
    (bC (ae 2))))
noncomputable def gM:FM:=h_ 2 5 ([2]++((([3]++([4]++([5]++([6]++[]))))++(([]++[])++([]++[])))++[])) nP
theorem mq:aJ ["_law_web_here","_law_thing","_law_found","_law_one","_law_other","_law_chance_here","_law_worth_here"] ["_law_web_here","_law_thing"] (aj gY):=⟨rfl,rfl,rfl,by decide+kernel,rfl,by decide+kernel,by decide+kernel⟩
theorem qH(h:bi K mg "_law_mates" gY f fd ["_law_web_here","_law_thing"])(T:iK mg):aK P w K mg base bU 1 f fd ["_law_web_here","_law_thing"] (b6 K 2 gM):=by
  have nd:=mq.nd
  exact h.fn mq rfl rfl (fun cdv A outer s H E hr=>(@af _ _ _ _ _ _ _ _ (@am _ _ _ _ _ 2 _ _ nd rfl (Or.inl rfl) (@aT _ _ _ _ _ ab) (by rfl) (by trivial))
      (@af _ _ _ _ _ _ _ _ (@cq _ _ _ _ _ _ _ _ _ _ _ PassesOwn.never rfl (@dk _ _ _ _ _ rfl (@cn _ _ _ _ _ _ _ rfl (¬0) ac (fun _ _=>rfl))) (@jp _ _ _ _ _ _ _ _ rfl rfl (@ba _ _ _ _ _ _ _ _ (@ax _ _ _ 3 _ nd rfl (Or.inl rfl) (by trivial)) (@ba _ _ _ _ _ _ _ _ (@ax _ _ _ 4 _ nd rfl (Or.inl rfl) (by trivial)) (@ba _ _ _ _ _ _ _ _ (@ax _ _ _ 5 _ nd rfl (Or.inl rfl) (by trivial)) (@ba _ _ _ _ _ _ _ _ (@ax _ _ _ 6 _ nd rfl (Or.inl rfl) (by trivial)) (@gS _ _) (by rfl)) (by rfl)) (by rfl)) (by rfl)) (bw (bw (bw (bw jc)))) (by rfl) (by rfl))
      (@af _ _ _ _ _ _ _ _ (@b5 _ _ _ _ _ _ _ _ _ _ _ (@a7 _ _ _ _ _ _ _ _ _ (@gA _ _ _ rfl hr) (¬1) (¬3) (aN _))
      (@ai _ _ _ _ _ (@bO _ _ _ _ _ (@bt _ _ _ _ _ _ _ _ _ rfl (¬2) ((¬4)∘ab) (by rfl) (by rfl) (by rfl) (by rfl) (by rfl)) (by rfl)))
      (@aZ _ _))
      (@ai _ _ _ _ _ (@b5 _ _ _ _ _ _ _ _ _ _ _ (@a7 _ _ _ _ _ _ _ _ _ (@gA _ _ _ rfl hr) (¬1) (¬4) (aN _))
      (@ai _ _ _ _ _ (@bO _ _ _ _ _ (@bt _ _ _ _ _ _ _ _ _ rfl (¬2) ((¬3)∘ab) (by rfl) (by rfl) (by rfl) (by rfl) (by rfl)) (by rfl)))
      (@aZ _ _)))) (by intro _;rfl))
      (@ai _ _ _ _ _ (@aI _ _ _ _ _ (¬2))))))
noncomputable def cW:FI:=(eJ (bY 2 gM (aa (ae 0) (aa (ae 4) ah))))
noncomputable def bu:FS:=(gh (aS (aq u9 (aq eg (ae 1) (ae 5)) (vC (.int 0))))
    (ay (pz (aq di (vC (.int 1)) (aq eg (ae 1) (ae 4))) (ae 1) (ae 5))
    (dc (bA be (ae 3) (aa (ae 5) ah))))
    (gh (aS (aq (cg false) (aq eg (ae 1) (ae 5)) (aq eg (ae 1) (ae 4))))
    (bC (vC .none))
    dq))
noncomputable def ce:FT:=(aS (aq (cg true) (ae 3) (bZ ah)))
noncomputable def bv:FS:=(ay (aO 4 (bA m6 (ae 3) ah))
    (bS ([5]++(([]++[])++([]++[]))) cW (ag 5) bu))
noncomputable def fM:FI:=(bx (aa (aq eg (ae 0) (vC (.int 0))) ah))
noncomputable def bJ:FS:=(gh (aS (aq u9 (aq eg (ae 1) (ae 2)) (vC (.int 0))))
    (ay (pz (vC (.int 0)) (ae 1) (ae 2))
    (ay (aO 3 (bZ (aa (ae 2) ah)))
    (gj (2 ^ 4200) ce bv)))
    dq)
noncomputable def ed:FI:=(bx (aa (aq eg (ae 0) (vC (.int 0))) ah))
noncomputable def cU:FE:=(mL mX (vC (.int 1)))
noncomputable def eN:FS:=(ay (aO 1 (cJ [] 1 ed (ag 0) b7 cU))
    (ay (bS ([2]++(([]++([3]++([4]++([5]++(([]++[])++([]++[]))))))++[])) fM (ag 2) bJ)
    (bC (aM (g1 ck) (aa (ae 1) ah)))))
noncomputable def cz:FM:=h_ 1 5 ([1]++(([2]++(([]++([3]++([4]++([5]++(([]++[])++([]++[]))))))++[]))++[])) eN
theorem hE:aJ ["_law_web_here","_law_found","_law_start","_law_waiting","_law_here","_law_other"] ["_law_web_here"] (aj cB):=⟨rfl,rfl,rfl,by decide+kernel,rfl,by decide+kernel,by decide+kernel⟩
theorem kW(h:bi K mg "_law_two_sided" cB f fd ["_law_web_here"])(T:iK mg){fLmates:Addr}{eLmates:FuncData}(hLmates:bi K mg "_law_mates" gY fLmates eLmates ["_law_web_here","_law_thing"])(GLmates:aK P w K mg base bU 1 fLmates eLmates ["_law_web_here","_law_thing"] (b6 K 2 gM)):aK P w K mg base bU 2 f fd ["_law_web_here"] (b6 K 1 cz):=by
  have nd:=hE.nd
  exact h.fn hE rfl rfl (fun cdv A outer s H E hr=>(@af _ _ _ _ _ _ _ _ (@pq _ _ _ (1) _ _ _ _ _ _ _ _ _ _ _ _ _ (aj cB) ["_law_web_here","_law_found","_law_start","_law_waiting","_law_here","_law_other"] [] ["_law_k"] rfl rfl rfl (@bj _ _ _ _ _ _ _ rfl T.b_range ((@cn _ _ _ _ _ _ _ rfl (¬0) ac (fun _ _=>rfl))∘ab) (by rfl))
        (fun C s0 H0 fp=>(@ax _ _ _ 0 _ (show List.Nodup (["_law_k"]:List Str) by decide+kernel) rfl (Or.inl rfl) (by trivial))) (fun C s0 H0 fp=>(@eE _ _))
        (fun C s0 H0 fp=>(@om _ _ _ _ _ ac)) rfl (by decide+kernel) (by decide+kernel) (by decide+kernel) (by decide+kernel) (by decide+kernel) (by decide+kernel) (by decide+kernel) nd rfl rfl (by rfl) (by intro _;rfl))
      (@af _ _ _ _ _ _ _ _ (@cq _ _ _ _ _ _ _ _ _ _ _ PassesOwn.never rfl (@bj _ _ _ _ _ _ _ rfl T.b_range ((@cn _ _ _ _ _ _ _ rfl (¬0) ac (fun _ _=>rfl))∘ab) (by rfl)) (@ax _ _ _ 2 _ nd rfl (Or.inl rfl) (by trivial))
      (@ai _ _ _ _ _ (@b5 _ _ _ _ _ _ _ _ _ _ _ (@a7 _ _ _ _ _ _ _ _ _ (@sr _ _) (@cn _ _ _ _ _ _ _ rfl (¬1) (¬2) (fun _ _=>rfl)) ac (aN _))
      (@af _ _ _ _ _ _ _ _ (@rq _ _ _ _ _ _ _ _ _ _ ac (¬1) (¬2) (by intro _;rfl) (by rfl) (by rfl) (by rfl))
      (@af _ _ _ _ _ _ _ _ (@am _ _ _ _ _ 3 _ _ nd rfl (Or.inl rfl) (@aT _ _ _ _ _ ((¬2)∘ab)) (by rfl) (by trivial))
      (@ai _ _ _ _ _ (@jq _ _ _ _ _ _ _ _ _ PassesOwn.never (@a7 _ _ _ _ _ _ _ _ _ (@su _ _ _ rfl hr) (¬3) (@aT _ _ _ _ _ ab) (aN _))
      (@af _ _ _ _ _ _ _ _ (@am _ _ _ _ _ 4 _ _ nd rfl (Or.inl rfl) (@yZ _ _ _ _ _ _ rfl (¬3) (by rfl) (by rfl)) (by rfl) (by trivial))
      (@ai _ _ _ _ _ (@cq _ _ _ _ _ _ _ _ _ _ _ PassesOwn.never rfl (@dk _ _ _ _ _ rfl (@aP _ _ _ _ _ _ _ _ _ _ _ _ _ _ _ hLmates GLmates (hr.mono (by decide)) ((¬0)∘((¬4)∘ab)) (by rfl) (by decide) (by rfl) (by rfl))) (@ax _ _ _ 5 _ nd rfl (Or.inl rfl) (by trivial))
      (@ai _ _ _ _ _ (@b5 _ _ _ _ _ _ _ _ _ _ _ (@a7 _ _ _ _ _ _ _ _ _ (@sr _ _) (@cn _ _ _ _ _ _ _ rfl (¬1) (¬5) (fun _ _=>rfl)) ac (aN _))
      (@af _ _ _ _ _ _ _ _ (@rq _ _ _ _ _ _ _ _ _ _ (@gR _ _ _ _ _ _ _ ac (@cn _ _ _ _ _ _ _ rfl (¬1) (¬4) (fun _ _=>rfl))) (¬1) (¬5) (by intro _;rfl) (by rfl) (by rfl) (by rfl))
      (@ai _ _ _ _ _ (@bO _ _ _ _ _ (@bt _ _ _ _ _ _ _ _ _ rfl (¬3) ((¬5)∘ab) (by rfl) (by rfl) (by rfl) (by rfl) (by rfl)) (by rfl))))
      (@ai _ _ _ _ _ (@b5 _ _ _ _ _ _ _ _ _ _ _ (@a7 _ _ _ _ _ _ _ _ _ (@gA _ _ _ rfl hr) (@cn _ _ _ _ _ _ _ rfl (¬1) (¬5) (fun _ _=>rfl)) (@cn _ _ _ _ _ _ _ rfl (¬1) (¬4) (fun _ _=>rfl)) (aN _))
      (@ai _ _ _ _ _ (@aI _ _ _ _ _ (@jn _ _ _ _)))
      (@aZ _ _))))) (by intro _;rfl))))))))
      (@aZ _ _))) (by intro _;rfl))
      (@ai _ _ _ _ _ (@aI _ _ _ _ _ (@aX _ _ _ _ _ _ _ _ _ (@b_tuple _ _ rfl) (by rfl) T.b_tuple ((¬1)∘ab) (by decide) (by decide) (by rfl) (by rfl)))))))
noncomputable def ec:FI:=(eJ (aq eg (ae 0) (vC (.int 1))))
noncomputable def cR:FT:=(aS (aq (cg false) (aq eg (ae 0) (aq eg (ae 1) (vC (.int 0)))) (aq eg (ae 0) (aq eg (ae 1) (vC (.int 1))))))
noncomputable def cS:FE:=(ae 1)
noncomputable def fL:FI:=(eJ (ae 1))
noncomputable def bK:FT:=(r8 (jJ (aS (mL (iL "int") (ae 0)))) (r8 (aS (mL (iL "bool") (ae 0))) (aS (aq (vA true) (ae 0) (aW (aa (vC (.int 0)) (aa (vC (.int 1)) ah)))))))
noncomputable def cT:FE:=(ae 0)
noncomputable def cY:FS:=(ay (gh (r8 (jJ (aS (mL (iL "tuple") (ae 1)))) (aS (aq (cg true) (aM (g1 fX) (aa (ae 1) ah)) (aq eg (ae 0) (vC (.int 0))))))
    (bC (vC (.bool false)))
    dq)
    (ay (gh (aS (aq (lG true) (cJ [] 1 fL (ag 0) bK cT) (bZ ah)))
    (bC (vC (.bool false)))
    dq)
    (bC (aq (lG false) (cJ [(1,"_law_thing")] 1 ec (ag 1) cR cS) (bZ ah)))))
noncomputable def bz:FM:=h_ 2 0 (([]++[])++(([]++[])++[])) cY
theorem g_:aJ ["_law_web_here","_law_thing"] ["_law_web_here","_law_thing"] (aj bT):=⟨rfl,rfl,rfl,by decide+kernel,rfl,by decide+kernel,by decide+kernel⟩
theorem kU(h:bi K mg "_law_are_sides" bT f fd ["_law_web_here","_law_thing"])(T:iK mg):aK P w K mg base bU 1 f fd ["_law_web_here","_law_thing"] (b6 K 2 bz):=by
  have nd:=g_.nd
  exact h.fn g_ rfl rfl (fun cdv A outer s H E hr=>(@af _ _ _ _ _ _ _ _ (@b5 _ _ _ _ _ _ _ _ _ _ _ (@rA _ _ _ _ (@me _ _ _ _ _ _ _ _ (@jr _ _ _ _ _ (@gf _ _ _ _ (@j8 _ _ _ _ _ _ _ _ "tuple" rfl (by decide) rfl T.b_isinstance rfl T.b_tuple PyProof.Rows.boot_tuple (by decide) (by decide) (¬1) (by rfl) (by rfl)) (by intro _;rfl))) (@k9 _ _ _ _ _ (@a7 _ _ _ _ _ _ _ _ _ (@su _ _ _ rfl hr) (@aX _ _ _ _ _ _ _ _ _ (@b_len _ _ rfl) (by rfl) T.b_len ((¬1)∘ab) (by decide) (by decide) (by rfl) (by rfl)) (@cn _ _ _ _ _ _ _ rfl (¬0) ac (fun _ _=>rfl)) (aN _)))))
      (@ai _ _ _ _ _ (@aI _ _ _ _ _ (@dw _ _ _ _ _)))
      (@aZ _ _))
      (@af _ _ _ _ _ _ _ _ (@b5 _ _ _ _ _ _ _ _ _ _ _ (@a7 _ _ _ _ _ _ _ _ _ (@yg _ _ _ rfl hr) (@e7 _ _ _ _ _ _ _ _ _ _ _ _ _ (aj bT) ["_law_web_here","_law_thing"] [] ["_law_one"] rfl rfl rfl (@dk _ _ _ _ _ rfl (¬1))
        (fun C s0 H0 fp=>(@ax _ _ _ 0 _ (show List.Nodup (["_law_one"]:List Str) by decide+kernel) rfl (Or.inl rfl) (by trivial))) (fun C s0 H0 fp=>(@oq _ _ _ _ (@rA _ _ _ _ (@me _ _ _ _ _ _ _ _ (@jr _ _ _ _ _ (@gf _ _ _ _ (@j8 _ _ _ _ _ _ _ _ "int" rfl (by decide) rfl T.b_isinstance rfl T.b_int PyProof.Rows.boot_int (by decide) (by decide) (¬0) (by rfl) (by rfl)) (by intro _;rfl))) (@me _ _ _ _ _ _ _ _ (@gf _ _ _ _ (@j8 _ _ _ _ _ _ _ _ "bool" rfl (by decide) rfl T.b_isinstance rfl T.b_bool PyProof.Rows.boot_bool (by decide) (by decide) (¬0) (by rfl) (by rfl)) (by intro _;rfl)) (@k9 _ _ _ _ _ (@a7 _ _ _ _ _ _ _ _ _ (@sv _ _ _ rfl hr) (¬0) (@ao _ _ _ _ _ _ (ac∘(ac∘ab))) (by with_unfolding_all rfl))))))))
        (fun C s0 H0 fp=>(¬0)) rfl (by decide+kernel) (by decide+kernel) (by decide+kernel) (by decide+kernel) (by decide+kernel) (by decide+kernel) (by decide+kernel) (by intro _;rfl)) (@aT _ _ _ _ _ ab) (aN _))
      (@ai _ _ _ _ _ (@aI _ _ _ _ _ (@dw _ _ _ _ _)))
      (@aZ _ _))
      (@ai _ _ _ _ _ (@aI _ _ _ _ _ (@jl _ _ _ _ _ _ _ _ _ (@yc _ _ _ rfl hr) (@e7 _ _ _ _ _ _ _ _ _ _ _ _ _ (aj bT) ["_law_web_here","_law_thing"] [(1,"_law_thing")] ["_law_tie"] rfl rfl rfl (@dk _ _ _ _ _ rfl (@cn _ _ _ _ _ _ _ rfl (¬0) ac (fun _ _=>rfl)))
        (fun C s0 H0 fp=>(@ax _ _ _ 1 _ (show List.Nodup (["_law_thing","_law_tie"]:List Str) by decide+kernel) rfl (Or.inl rfl) (by trivial))) (fun C s0 H0 fp=>(@oq _ _ _ _ (@a7 _ _ _ _ _ _ _ _ _ (@gA _ _ _ rfl hr) (@cn _ _ _ _ _ _ _ rfl (¬0) (@cn _ _ _ _ _ _ _ rfl (¬1) ac (fun _ _=>rfl)) (fun _ _=>rfl)) (@cn _ _ _ _ _ _ _ rfl (¬0) (@cn _ _ _ _ _ _ _ rfl (¬1) ac (fun _ _=>rfl)) (fun _ _=>rfl)) (aN _))))
        (fun C s0 H0 fp=>(¬1)) rfl (by decide+kernel) (by decide+kernel) (by decide+kernel) (by decide+kernel) (by decide+kernel) (by decide+kernel) (by decide+kernel) (by intro _;rfl)) (@aT _ _ _ _ _ ab) (aN _)))))))
noncomputable def fZ:FI:=(bx (aa (ae 2) ah))
noncomputable def eA:FS:=(ay (aO 8 (bY 1 az (aa (ae 0) ah)))
    (ay (aO 9 (bY 1 az (aa (ae 0) ah)))
    (ay (aO 10 (aW (aa (aq aD (ae 8) (ae 3)) (aa (aq aU (ae 3) (aq aD (aq c7 (ae 8) (ae 3)) (aq di (ae 1) (ae 3)))) ah))))
    (dc (bA be (ae 6) (aa (aq aU (ae 10) (aW (aa (bY 2 bH (aa (ae 9) (aa (ae 4) ah))) (aa (bY 2 dD (aa (aq c7 (ae 9) (vC (.int 10007))) (aa (ae 5) ah))) ah)))) ah))))))
noncomputable def lx:FS:=(ay (aO 3 (aq aU (vC (.int 1)) (aq aD (bY 1 az (aa (ae 0) ah)) (aq di (ae 1) (vC (.int 1))))))
    (ay (aO 4 (aq aD (bY 1 az (aa (ae 0) ah)) (vC (.int 4))))
    (ay (aO 5 (aq aD (bY 1 az (aa (ae 0) ah)) (vC (.int 4))))
    (ay (aO 6 (bZ ah))
    (ay (bS ([7]++([8]++([9]++([10]++[])))) fZ (ag 7) eA)
    (bC (aM (g1 ck) (aa (ae 6) ah))))))))
noncomputable def eX:FM:=h_ 3 8 ([3]++([4]++([5]++([6]++(([7]++([8]++([9]++([10]++[]))))++[]))))) lx
theorem j':aJ ["_law_numbers","_law_things","_law_many","_law_cut","_law_odds","_law_worths","_law_found","_law_k","_law_number","_law_cell","_law_ends"] ["_law_numbers","_law_things","_law_many"] (aj e_):=⟨rfl,rfl,rfl,by decide+kernel,rfl,by decide+kernel,by decide+kernel⟩
theorem o_(h:bi K mg "_law_across" e_ f fd ["_law_numbers","_law_things","_law_many"])(T:iK mg){fLnext:Addr}{eLnext:FuncData}(hLnext:bi K mg "_law_next" dn fLnext eLnext ["_law_drawn"])(GLnext:aK P w K mg base bU 1 fLnext eLnext ["_law_drawn"] (b6 K 1 az)){fLchance:Addr}{eLchance:FuncData}(hLchance:bi K mg "_law_chance" dR fLchance eLchance ["_law_number","_law_kind"])(GLchance:aK P w K mg base bU 3 fLchance eLchance ["_law_number","_law_kind"] (b6 K 2 bH)){fLworth:Addr}{eLworth:FuncData}(hLworth:bi K mg "_law_worth" eF fLworth eLworth ["_law_number","_law_kind"])(GLworth:aK P w K mg base bU 1 fLworth eLworth ["_law_number","_law_kind"] (b6 K 2 dD)):aK P w K mg base bU 4 f fd ["_law_numbers","_law_things","_law_many"] (b6 K 3 eX):=by
  have nd:=j'.nd
  exact h.fn j' rfl rfl (fun cdv A outer s H E hr=>(@af _ _ _ _ _ _ _ _ (@am _ _ _ _ _ 3 _ _ nd rfl (Or.inl rfl) (@aV _ _ _ _ _ _ _ rfl ac (@aE _ _ _ _ _ _ _ (@aP _ _ _ _ _ _ _ _ _ _ _ _ _ _ _ hLnext GLnext (hr.mono (by decide)) ((¬0)∘ab) (by rfl) (by decide) (by rfl) (by rfl)) (@gR _ _ _ _ _ _ _ (¬1) ac))) (by rfl) (by trivial))
      (@af _ _ _ _ _ _ _ _ (@am _ _ _ _ _ 4 _ _ nd rfl (Or.inl rfl) (@aE _ _ _ _ _ _ _ (@aP _ _ _ _ _ _ _ _ _ _ _ _ _ _ _ hLnext GLnext (hr.mono (by decide)) ((¬0)∘ab) (by rfl) (by decide) (by rfl) (by rfl)) ac) (by rfl) (by trivial))
      (@af _ _ _ _ _ _ _ _ (@am _ _ _ _ _ 5 _ _ nd rfl (Or.inl rfl) (@aE _ _ _ _ _ _ _ (@aP _ _ _ _ _ _ _ _ _ _ _ _ _ _ _ hLnext GLnext (hr.mono (by decide)) ((¬0)∘ab) (by rfl) (by decide) (by rfl) (by rfl)) ac) (by rfl) (by trivial))
      (@af _ _ _ _ _ _ _ _ (@am _ _ _ _ _ 6 _ _ nd rfl (Or.inl rfl) (@aT _ _ _ _ _ ab) (by rfl) (by trivial))
      (@af _ _ _ _ _ _ _ _ (@cq _ _ _ _ _ _ _ _ _ _ _ PassesOwn.never rfl (@bj _ _ _ _ _ _ _ rfl T.b_range ((¬2)∘ab) (by rfl)) (@ax _ _ _ 7 _ nd rfl (Or.inl rfl) (by trivial))
      (@af _ _ _ _ _ _ _ _ (@am _ _ _ _ _ 8 _ _ nd rfl (Or.inl rfl) (@aP _ _ _ _ _ _ _ _ _ _ _ _ _ _ _ hLnext GLnext (hr.mono (by decide)) ((¬0)∘ab) (by rfl) (by decide) (by rfl) (by rfl)) (by rfl) (by trivial))
      (@af _ _ _ _ _ _ _ _ (@am _ _ _ _ _ 9 _ _ nd rfl (Or.inl rfl) (@aP _ _ _ _ _ _ _ _ _ _ _ _ _ _ _ hLnext GLnext (hr.mono (by decide)) ((¬0)∘ab) (by rfl) (by decide) (by rfl) (by rfl)) (by rfl) (by trivial))
      (@af _ _ _ _ _ _ _ _ (@am _ _ _ _ _ 10 _ _ nd rfl (Or.inl rfl) (@ao _ _ _ _ _ _ ((@aE _ _ _ _ _ _ _ (¬8) (¬3))∘((@aV _ _ _ _ _ _ _ rfl (¬3) (@aE _ _ _ _ _ _ _ (@ee _ _ _ _ _ _ _ (¬8) (¬3)) (@gR _ _ _ _ _ _ _ (¬1) (¬3))))∘ab))) (by rfl) (by trivial))
      (@ai _ _ _ _ _ (@bO _ _ _ _ _ (@bt _ _ _ _ _ _ _ _ _ rfl (¬6) ((@aV _ _ _ _ _ _ _ rfl (¬10) (@ao _ _ _ _ _ _ ((@aP _ _ _ _ _ _ _ _ _ _ _ _ _ _ _ hLchance GLchance (hr.mono (by decide)) ((¬9)∘((¬4)∘ab)) (by rfl) (by decide) (by rfl) (by rfl))∘((@aP _ _ _ _ _ _ _ _ _ _ _ _ _ _ _ hLworth GLworth (hr.mono (by decide)) ((@ee _ _ _ _ _ _ _ (¬9) ac)∘((¬5)∘ab)) (by rfl) (by decide) (by rfl) (by rfl))∘ab))))∘ab) (by rfl) (by rfl) (by rfl) (by rfl) (by rfl)) (by rfl)))))) (by intro _;rfl))
      (@ai _ _ _ _ _ (@aI _ _ _ _ _ (@aX _ _ _ _ _ _ _ _ _ (@b_tuple _ _ rfl) (by rfl) T.b_tuple ((¬6)∘ab) (by decide) (by decide) (by rfl) (by rfl))))))))))
noncomputable def eU:FI:=(eJ (ae 2))
noncomputable def cZ:FS:=(dc (bA be (ae 6) (aa (aW (aa (aM (g2 kL) (aa (aq eg (ae 4) (ae 7)) (aa (aq eg (ae 4) (ae 8)) ah))) (aa (aM (g2 iM) (aa (aq eg (ae 4) (ae 7)) (aa (aq eg (ae 4) (ae 8)) ah))) (aa (ae 9) (aa (ae 10) ah))))) ah)))
noncomputable def eV:FI:=(bx (aa (ae 1) ah))
noncomputable def dZ:FS:=(dc (bA be (ae 4) (aa (bA f_ (ae 3) (aa (aq aD (bY 1 az (aa (ae 0) ah)) (aM (g1 fX) (aa (ae 3) ah))) ah)) ah)))
noncomputable def ia:FS:=(ay (aO 3 (hZ (aa (ae 1) ah)))
    (ay (aO 4 (bZ ah))
    (ay (bS ([5]++[]) eV (ag 5) dZ)
    (ay (aO 6 (bZ ah))
    (ay (bS (([7]++([8]++([9]++([10]++[]))))++[]) eU (du (ar (ag 7) (ar (ag 8) (ar (ag 9) (ar (ag 10) cN))))) cZ)
    (bC (aM (g1 ck) (aa (ae 6) ah))))))))
noncomputable def cy:FM:=h_ 3 8 ([3]++([4]++(([5]++[])++([6]++((([7]++([8]++([9]++([10]++[]))))++[])++[]))))) ia
theorem jv:aJ ["_law_numbers","_law_things","_law_ties_here","_law_left","_law_names","_law_k","_law_found","_law_one","_law_other","_law_chance_here","_law_worth_here"] ["_law_numbers","_law_things","_law_ties_here"] (aj dM):=⟨rfl,rfl,rfl,by decide+kernel,rfl,by decide+kernel,by decide+kernel⟩
theorem m_(h:bi K mg "_law_renamed" dM f fd ["_law_numbers","_law_things","_law_ties_here"])(T:iK mg){fLnext:Addr}{eLnext:FuncData}(hLnext:bi K mg "_law_next" dn fLnext eLnext ["_law_drawn"])(GLnext:aK P w K mg base bU 1 fLnext eLnext ["_law_drawn"] (b6 K 1 az)):aK P w K mg base bU 2 f fd ["_law_numbers","_law_things","_law_ties_here"] (b6 K 3 cy):=by
  have nd:=jv.nd
  exact h.fn jv rfl rfl (fun cdv A outer s H E hr=>(@af _ _ _ _ _ _ _ _ (@am _ _ _ _ _ 3 _ _ nd rfl (Or.inl rfl) (@l_ _ _ _ _ _ _ _ _ rfl rfl T.b_list rfl T.b_range ((¬1)∘ab) (by rfl) (by rfl)) (by rfl) (by trivial))
      (@af _ _ _ _ _ _ _ _ (@am _ _ _ _ _ 4 _ _ nd rfl (Or.inl rfl) (@aT _ _ _ _ _ ab) (by rfl) (by trivial))
      (@af _ _ _ _ _ _ _ _ (@cq _ _ _ _ _ _ _ _ _ _ _ PassesOwn.never rfl (@bj _ _ _ _ _ _ _ rfl T.b_range ((¬1)∘ab) (by rfl)) (@ax _ _ _ 5 _ nd rfl (Or.inl rfl) (by trivial))
      (@ai _ _ _ _ _ (@bO _ _ _ _ _ (@bt _ _ _ _ _ _ _ _ _ rfl (¬4) ((@oo _ _ _ _ _ _ _ _ _ rfl (¬3) ((@aE _ _ _ _ _ _ _ (@aP _ _ _ _ _ _ _ _ _ _ _ _ _ _ _ hLnext GLnext (hr.mono (by decide)) ((¬0)∘ab) (by rfl) (by decide) (by rfl) (by rfl)) (@aX _ _ _ _ _ _ _ _ _ (@b_len _ _ rfl) (by rfl) T.b_len ((¬3)∘ab) (by decide) (by decide) (by rfl) (by rfl)))∘ab) (by rfl) (by rfl) (by rfl) (by rfl) (by rfl))∘ab) (by rfl) (by rfl) (by rfl) (by rfl) (by rfl)) (by rfl))) (by intro _;rfl))
      (@af _ _ _ _ _ _ _ _ (@am _ _ _ _ _ 6 _ _ nd rfl (Or.inl rfl) (@aT _ _ _ _ _ ab) (by rfl) (by trivial))
      (@af _ _ _ _ _ _ _ _ (@cq _ _ _ _ _ _ _ _ _ _ _ PassesOwn.never rfl (@dk _ _ _ _ _ rfl (¬2)) (@jp _ _ _ _ _ _ _ _ rfl rfl (@ba _ _ _ _ _ _ _ _ (@ax _ _ _ 7 _ nd rfl (Or.inl rfl) (by trivial)) (@ba _ _ _ _ _ _ _ _ (@ax _ _ _ 8 _ nd rfl (Or.inl rfl) (by trivial)) (@ba _ _ _ _ _ _ _ _ (@ax _ _ _ 9 _ nd rfl (Or.inl rfl) (by trivial)) (@ba _ _ _ _ _ _ _ _ (@ax _ _ _ 10 _ nd rfl (Or.inl rfl) (by trivial)) (@gS _ _) (by rfl)) (by rfl)) (by rfl)) (by rfl)) (bw (bw (bw (bw jc)))) (by rfl) (by rfl))
      (@ai _ _ _ _ _ (@bO _ _ _ _ _ (@bt _ _ _ _ _ _ _ _ _ rfl (¬6) ((@ao _ _ _ _ _ _ ((@aX _ _ _ _ _ _ _ _ _ (@b_min _ _ rfl) (by rfl) T.b_min ((@cn _ _ _ _ _ _ _ rfl (¬4) (¬7) (fun _ _=>rfl))∘((@cn _ _ _ _ _ _ _ rfl (¬4) (¬8) (fun _ _=>rfl))∘ab)) (by decide) (by decide) (by rfl) (by rfl))∘((@aX _ _ _ _ _ _ _ _ _ (@b_max _ _ rfl) (by rfl) T.b_max ((@cn _ _ _ _ _ _ _ rfl (¬4) (¬7) (fun _ _=>rfl))∘((@cn _ _ _ _ _ _ _ rfl (¬4) (¬8) (fun _ _=>rfl))∘ab)) (by decide) (by decide) (by rfl) (by rfl))∘((¬9)∘((¬10)∘ab)))))∘ab) (by rfl) (by rfl) (by rfl) (by rfl) (by rfl)) (by rfl))) (by intro _;rfl))
      (@ai _ _ _ _ _ (@aI _ _ _ _ _ (@aX _ _ _ _ _ _ _ _ _ (@b_tuple _ _ rfl) (by rfl) T.b_tuple ((¬6)∘ab) (by decide) (by decide) (by rfl) (by rfl))))))))))
noncomputable def ii:FI:=(bx (aa (ae 2) ah))
noncomputable def fq:FS:=(ay (aO 5 (bY 1 az (aa (ae 0) ah)))
    (ay (aO 6 (aW (aa (aM (g2 kL) (aa (ae 4) (aa (aq aD (aq aU (ae 4) (vC (.int 1))) (ae 2)) ah))) (aa (aM (g2 iM) (aa (ae 4) (aa (aq aD (aq aU (ae 4) (vC (.int 1))) (ae 2)) ah))) ah))))
    (dc (bA be (ae 3) (aa (aq aU (ae 6) (aW (aa (bY 2 bH (aa (ae 5) (aa (vC (.int 1)) ah))) (aa (bY 2 dD (aa (aq c7 (ae 5) (vC (.int 10007))) (aa (vC (.int 2)) ah))) ah)))) ah)))))
noncomputable def nR:FS:=(ay (aO 3 (bZ ah))
    (ay (bS ([4]++([5]++([6]++[]))) ii (ag 4) fq)
    (bC (bY 3 cy (aa (ae 0) (aa (ae 1) (aa (ae 3) ah)))))))
noncomputable def gN:FM:=h_ 3 4 ([3]++(([4]++([5]++([6]++[])))++[])) nR
theorem mw:aJ ["_law_numbers","_law_things","_law_size","_law_found","_law_k","_law_cell","_law_ends"] ["_law_numbers","_law_things","_law_size"] (aj g9):=⟨rfl,rfl,rfl,by decide+kernel,rfl,by decide+kernel,by decide+kernel⟩
theorem qJ(h:bi K mg "_law_round" g9 f fd ["_law_numbers","_law_things","_law_size"])(T:iK mg){fLrenamed:Addr}{eLrenamed:FuncData}(hLrenamed:bi K mg "_law_renamed" dM fLrenamed eLrenamed ["_law_numbers","_law_things","_law_ties_here"])(GLrenamed:aK P w K mg base bU 2 fLrenamed eLrenamed ["_law_numbers","_law_things","_law_ties_here"] (b6 K 3 cy)){fLnext:Addr}{eLnext:FuncData}(hLnext:bi K mg "_law_next" dn fLnext eLnext ["_law_drawn"])(GLnext:aK P w K mg base bU 1 fLnext eLnext ["_law_drawn"] (b6 K 1 az)){fLchance:Addr}{eLchance:FuncData}(hLchance:bi K mg "_law_chance" dR fLchance eLchance ["_law_number","_law_kind"])(GLchance:aK P w K mg base bU 3 fLchance eLchance ["_law_number","_law_kind"] (b6 K 2 bH)){fLworth:Addr}{eLworth:FuncData}(hLworth:bi K mg "_law_worth" eF fLworth eLworth ["_law_number","_law_kind"])(GLworth:aK P w K mg base bU 1 fLworth eLworth ["_law_number","_law_kind"] (b6 K 2 dD)):aK P w K mg base bU 4 f fd ["_law_numbers","_law_things","_law_size"] (b6 K 3 gN):=by
  have nd:=mw.nd
  exact h.fn mw rfl rfl (fun cdv A outer s H E hr=>(@af _ _ _ _ _ _ _ _ (@am _ _ _ _ _ 3 _ _ nd rfl (Or.inl rfl) (@aT _ _ _ _ _ ab) (by rfl) (by trivial))
      (@af _ _ _ _ _ _ _ _ (@cq _ _ _ _ _ _ _ _ _ _ _ PassesOwn.never rfl (@bj _ _ _ _ _ _ _ rfl T.b_range ((¬2)∘ab) (by rfl)) (@ax _ _ _ 4 _ nd rfl (Or.inl rfl) (by trivial))
      (@af _ _ _ _ _ _ _ _ (@am _ _ _ _ _ 5 _ _ nd rfl (Or.inl rfl) (@aP _ _ _ _ _ _ _ _ _ _ _ _ _ _ _ hLnext GLnext (hr.mono (by decide)) ((¬0)∘ab) (by rfl) (by decide) (by rfl) (by rfl)) (by rfl) (by trivial))
      (@af _ _ _ _ _ _ _ _ (@am _ _ _ _ _ 6 _ _ nd rfl (Or.inl rfl) (@ao _ _ _ _ _ _ ((@aX _ _ _ _ _ _ _ _ _ (@b_min _ _ rfl) (by rfl) T.b_min ((¬4)∘((@aE _ _ _ _ _ _ _ (@aV _ _ _ _ _ _ _ rfl (¬4) ac) (¬2))∘ab)) (by decide) (by decide) (by rfl) (by rfl))∘((@aX _ _ _ _ _ _ _ _ _ (@b_max _ _ rfl) (by rfl) T.b_max ((¬4)∘((@aE _ _ _ _ _ _ _ (@aV _ _ _ _ _ _ _ rfl (¬4) ac) (¬2))∘ab)) (by decide) (by decide) (by rfl) (by rfl))∘ab))) (by rfl) (by trivial))
      (@ai _ _ _ _ _ (@bO _ _ _ _ _ (@bt _ _ _ _ _ _ _ _ _ rfl (¬3) ((@aV _ _ _ _ _ _ _ rfl (¬6) (@ao _ _ _ _ _ _ ((@aP _ _ _ _ _ _ _ _ _ _ _ _ _ _ _ hLchance GLchance (hr.mono (by decide)) ((¬5)∘(ac∘ab)) (by rfl) (by decide) (by rfl) (by rfl))∘((@aP _ _ _ _ _ _ _ _ _ _ _ _ _ _ _ hLworth GLworth (hr.mono (by decide)) ((@ee _ _ _ _ _ _ _ (¬5) ac)∘(ac∘ab)) (by rfl) (by decide) (by rfl) (by rfl))∘ab))))∘ab) (by rfl) (by rfl) (by rfl) (by rfl) (by rfl)) (by rfl))))) (by intro _;rfl))
      (@ai _ _ _ _ _ (@aI _ _ _ _ _ (@aP _ _ _ _ _ _ _ _ _ _ _ _ _ _ _ hLrenamed GLrenamed (hr.mono (by decide)) ((¬0)∘((¬1)∘((¬3)∘ab))) (by rfl) (by decide) (by rfl) (by rfl)))))))
noncomputable def dO:FS:=(ay (aO 3 (aq aU (vC (.int 2)) (aq aD (bY 1 az (aa (ae 0) ah)) (aq di (ae 1) (vC (.int 1))))))
    (ay (aO 4 (aq aD (bY 1 az (aa (ae 0) ah)) (vC (.int 4))))
    (ay (gh (aS (aq (cg false) (ae 4) (vC (.int 0))))
    (bC (bY 3 lX (aa (ae 0) (aa (ae 1) (aa (ae 2) ah)))))
    dq)
    (ay (aO 5 (bY 3 cy (aa (ae 0) (aa (ae 3) (aa (bY 3 eX (aa (ae 0) (aa (ae 3) (aa (aq aD (bY 1 az (aa (ae 0) ah)) (aq aU (ae 2) (vC (.int 1)))) ah)))) ah)))))
    (ay (gh (aS (aq (cg false) (ae 4) (vC (.int 1))))
    (ay (aO 6 (aq aU (vC (.int 3)) (aq aD (bY 1 az (aa (ae 0) ah)) (aM (g2 iM) (aa (vC (.int 1)) (aa (aq di (ae 3) (vC (.int 2))) ah))))))
    (ay (aO 5 (bY 3 gN (aa (ae 0) (aa (aM (g2 iM) (aa (ae 3) (aa (vC (.int 3)) ah))) (aa (aM (g2 kL) (aa (ae 6) (aa (aM (g2 iM) (aa (ae 3) (aa (vC (.int 3)) ah))) ah))) ah)))))
    (ay (aO 3 (aM (g2 iM) (aa (ae 3) (aa (vC (.int 3)) ah))))
    (aO 5 (r9 (aq aU (ae 5) (bY 3 eY (aa (ae 0) (aa (ae 3) (aa (aq aD (bY 1 az (aa (ae 0) ah)) (vC (.int 4))) ah))))) iD (gO (ae 2)))))))
    dq)
    (ay (gh (aS (aq (cg false) (ae 4) (vC (.int 2))))
    (aO 5 (r9 (aq aU (ae 5) (bY 3 eY (aa (ae 0) (aa (ae 3) (aa (vC (.int 1)) ah))))) iD (gO (ae 2))))
    dq)
    (bC (aW (aa (ae 3) (aa (ae 5) (aa (aq fY (aW (aa (aq aU (vC (.int 1)) (aq aD (bY 1 az (aa (ae 0) ah)) (vC (.int 20)))) ah)) (ae 3)) (aa (aq aD (bY 1 az (aa (ae 0) ah)) (vC (.int 41))) ah))))))))))))
noncomputable def bQ:FM:=h_ 3 4 ([3]++([4]++(([]++[])++([5]++((([6]++([5]++([3]++[5])))++[])++(([5]++[])++[])))))) dO
theorem iF:aJ ["_law_numbers","_law_most","_law_many","_law_things","_law_sort","_law_ties_here","_law_size"] ["_law_numbers","_law_most","_law_many"] (aj dS):=⟨rfl,rfl,rfl,by decide+kernel,rfl,by decide+kernel,by decide+kernel⟩
theorem l6(h:bi K mg "_law_side_web" dS f fd ["_law_numbers","_law_most","_law_many"])(T:iK mg){fLrenamed:Addr}{eLrenamed:FuncData}(hLrenamed:bi K mg "_law_renamed" dM fLrenamed eLrenamed ["_law_numbers","_law_things","_law_ties_here"])(GLrenamed:aK P w K mg base bU 2 fLrenamed eLrenamed ["_law_numbers","_law_things","_law_ties_here"] (b6 K 3 cy)){fLnext:Addr}{eLnext:FuncData}(hLnext:bi K mg "_law_next" dn fLnext eLnext ["_law_drawn"])(GLnext:aK P w K mg base bU 1 fLnext eLnext ["_law_drawn"] (b6 K 1 az)){fLweb:Addr}{eLweb:FuncData}(hLweb:bi K mg "_law_web" mj fLweb eLweb ["_law_drawn","_law_most","_law_ties_here"])(GLweb:aK P w K mg base bU 5 fLweb eLweb ["_law_drawn","_law_most","_law_ties_here"] (b6 K 3 lX)){fLacross:Addr}{eLacross:FuncData}(hLacross:bi K mg "_law_across" e_ fLacross eLacross ["_law_numbers","_law_things","_law_many"])(GLacross:aK P w K mg base bU 4 fLacross eLacross ["_law_numbers","_law_things","_law_many"] (b6 K 3 eX)){fLround:Addr}{eLround:FuncData}(hLround:bi K mg "_law_round" g9 fLround eLround ["_law_numbers","_law_things","_law_size"])(GLround:aK P w K mg base bU 4 fLround eLround ["_law_numbers","_law_things","_law_size"] (b6 K 3 gN)){fLties:Addr}{eLties:FuncData}(hLties:bi K mg "_law_ties" iu fLties eLties ["_law_drawn","_law_things","_law_many"])(GLties:aK P w K mg base bU 4 fLties eLties ["_law_drawn","_law_things","_law_many"] (b6 K 3 eY)):aK P w K mg base bU 6 f fd ["_law_numbers","_law_most","_law_many"] (b6 K 3 bQ):=by
  have nd:=iF.nd
  exact h.fn iF rfl rfl (fun cdv A outer s H E hr=>(@af _ _ _ _ _ _ _ _ (@am _ _ _ _ _ 3 _ _ nd rfl (Or.inl rfl) (@aV _ _ _ _ _ _ _ rfl ac (@aE _ _ _ _ _ _ _ (@aP _ _ _ _ _ _ _ _ _ _ _ _ _ _ _ hLnext GLnext (hr.mono (by decide)) ((¬0)∘ab) (by rfl) (by decide) (by rfl) (by rfl)) (@gR _ _ _ _ _ _ _ (¬1) ac))) (by rfl) (by trivial))
      (@af _ _ _ _ _ _ _ _ (@am _ _ _ _ _ 4 _ _ nd rfl (Or.inl rfl) (@aE _ _ _ _ _ _ _ (@aP _ _ _ _ _ _ _ _ _ _ _ _ _ _ _ hLnext GLnext (hr.mono (by decide)) ((¬0)∘ab) (by rfl) (by decide) (by rfl) (by rfl)) ac) (by rfl) (by trivial))
      (@af _ _ _ _ _ _ _ _ (@b5 _ _ _ _ _ _ _ _ _ _ _ (@a7 _ _ _ _ _ _ _ _ _ (@gA _ _ _ rfl hr) (¬4) ac (aN _))
      (@ai _ _ _ _ _ (@aI _ _ _ _ _ (@aP _ _ _ _ _ _ _ _ _ _ _ _ _ _ _ hLweb GLweb (hr.mono (by decide)) ((¬0)∘((¬1)∘((¬2)∘ab))) (by rfl) (by decide) (by rfl) (by rfl))))
      (@aZ _ _))
      (@af _ _ _ _ _ _ _ _ (@am _ _ _ _ _ 5 _ _ nd rfl (Or.inl rfl) (@aP _ _ _ _ _ _ _ _ _ _ _ _ _ _ _ hLrenamed GLrenamed (hr.mono (by decide)) ((¬0)∘((¬3)∘((@aP _ _ _ _ _ _ _ _ _ _ _ _ _ _ _ hLacross GLacross (hr.mono (by decide)) ((¬0)∘((¬3)∘((@aE _ _ _ _ _ _ _ (@aP _ _ _ _ _ _ _ _ _ _ _ _ _ _ _ hLnext GLnext (hr.mono (by decide)) ((¬0)∘ab) (by rfl) (by decide) (by rfl) (by rfl)) (@aV _ _ _ _ _ _ _ rfl (¬2) ac))∘ab))) (by rfl) (by decide) (by rfl) (by rfl))∘ab))) (by rfl) (by decide) (by rfl) (by rfl)) (by rfl) (by trivial))
      (@af _ _ _ _ _ _ _ _ (@b5 _ _ _ _ _ _ _ _ _ _ _ (@a7 _ _ _ _ _ _ _ _ _ (@gA _ _ _ rfl hr) (¬4) ac (aN _))
      (@af _ _ _ _ _ _ _ _ (@am _ _ _ _ _ 6 _ _ nd rfl (Or.inl rfl) (@aV _ _ _ _ _ _ _ rfl ac (@aE _ _ _ _ _ _ _ (@aP _ _ _ _ _ _ _ _ _ _ _ _ _ _ _ hLnext GLnext (hr.mono (by decide)) ((¬0)∘ab) (by rfl) (by decide) (by rfl) (by rfl)) (@aX _ _ _ _ _ _ _ _ _ (@b_max _ _ rfl) (by rfl) T.b_max (ac∘((@gR _ _ _ _ _ _ _ (¬3) ac)∘ab)) (by decide) (by decide) (by rfl) (by rfl)))) (by rfl) (by trivial))
      (@af _ _ _ _ _ _ _ _ (@am _ _ _ _ _ 5 _ _ nd rfl (Or.inl rfl) (@aP _ _ _ _ _ _ _ _ _ _ _ _ _ _ _ hLround GLround (hr.mono (by decide)) ((¬0)∘((@aX _ _ _ _ _ _ _ _ _ (@b_max _ _ rfl) (by rfl) T.b_max ((¬3)∘(ac∘ab)) (by decide) (by decide) (by rfl) (by rfl))∘((@aX _ _ _ _ _ _ _ _ _ (@b_min _ _ rfl) (by rfl) T.b_min ((¬6)∘((@aX _ _ _ _ _ _ _ _ _ (@b_max _ _ rfl) (by rfl) T.b_max ((¬3)∘(ac∘ab)) (by decide) (by decide) (by rfl) (by rfl))∘ab)) (by decide) (by decide) (by rfl) (by rfl))∘ab))) (by rfl) (by decide) (by rfl) (by rfl)) (by rfl) (by trivial))
      (@af _ _ _ _ _ _ _ _ (@am _ _ _ _ _ 3 _ _ nd rfl (Or.inl rfl) (@aX _ _ _ _ _ _ _ _ _ (@b_max _ _ rfl) (by rfl) T.b_max ((¬3)∘(ac∘ab)) (by decide) (by decide) (by rfl) (by rfl)) (by rfl) (by trivial))
      (@ai _ _ _ _ _ (@am _ _ _ _ _ 5 _ _ nd rfl (Or.inl rfl) (@gQ _ _ _ _ _ _ _ _ _ _ rfl (@aV _ _ _ _ _ _ _ rfl (¬5) (@aP _ _ _ _ _ _ _ _ _ _ _ _ _ _ _ hLties GLties (hr.mono (by decide)) ((¬0)∘((¬3)∘((@aE _ _ _ _ _ _ _ (@aP _ _ _ _ _ _ _ _ _ _ _ _ _ _ _ hLnext GLnext (hr.mono (by decide)) ((¬0)∘ab) (by rfl) (by decide) (by rfl) (by rfl)) ac)∘ab))) (by rfl) (by decide) (by rfl) (by rfl))) (@gT _ _) (@gU _ _ _ _ (¬2))) (by rfl) (by trivial))))))
      (@aZ _ _))
      (@af _ _ _ _ _ _ _ _ (@b5 _ _ _ _ _ _ _ _ _ _ _ (@a7 _ _ _ _ _ _ _ _ _ (@gA _ _ _ rfl hr) (¬4) ac (aN _))
      (@ai _ _ _ _ _ (@am _ _ _ _ _ 5 _ _ nd rfl (Or.inl rfl) (@gQ _ _ _ _ _ _ _ _ _ _ rfl (@aV _ _ _ _ _ _ _ rfl (¬5) (@aP _ _ _ _ _ _ _ _ _ _ _ _ _ _ _ hLties GLties (hr.mono (by decide)) ((¬0)∘((¬3)∘(ac∘ab))) (by rfl) (by decide) (by rfl) (by rfl))) (@gT _ _) (@gU _ _ _ _ (¬2))) (by rfl) (by trivial)))
      (@aZ _ _))
      (@ai _ _ _ _ _ (@aI _ _ _ _ _ (@ao _ _ _ _ _ _ ((¬3)∘((¬5)∘((@jm _ _ _ _ _ _ _ rfl (@ao _ _ _ _ _ _ ((@aV _ _ _ _ _ _ _ rfl ac (@aE _ _ _ _ _ _ _ (@aP _ _ _ _ _ _ _ _ _ _ _ _ _ _ _ hLnext GLnext (hr.mono (by decide)) ((¬0)∘ab) (by rfl) (by decide) (by rfl) (by rfl)) ac))∘ab)) (¬3))∘((@aE _ _ _ _ _ _ _ (@aP _ _ _ _ _ _ _ _ _ _ _ _ _ _ _ hLnext GLnext (hr.mono (by decide)) ((¬0)∘ab) (by rfl) (by decide) (by rfl) (by rfl)) ac)∘ab))))))))))))))
noncomputable def lS:FI:=(eJ (ae 5))
noncomputable def gF:FE:=(aq (cg false) (ae 0) (vC (.int 1)))
noncomputable def jd:FI:=(eJ (bZ (aa (vC (.int 0)) (aa (vC (.int 1)) (aa (vC (.int 2)) (aa (mL mX (vC (.int 1))) (aa (vC (.bool true)) (aa (vC (.bool false)) (aa (vC .none) (aa (vC (.str ("1":Str))) (aa (aW (aa (vC (.int 1)) ah)) (aa (bZ (aa (vC (.int 0)) ah)) (aa (jB [(0,1)]) ah)))))))))))))
noncomputable def gv:FS:=(dc (bA be (ae 4) (aa (aq aU (aq aU (r9 (ae 5) iD (gO (ae 6))) (aW (aa (ae 7) ah))) (r9 (ae 5) (gO (aq aU (ae 6) (vC (.int 1)))) iD)) ah)))
noncomputable def je:FI:=(eJ (ae 3))
noncomputable def eM:FS:=(ay (dc (bA be (ae 4) (aa (ae 5) ah)))
    (ay (aO 6 (aq aD (bY 1 az (aa (ae 0) ah)) (aq aU (aM (g1 fX) (aa (ae 5) ah)) (vC (.int 1)))))
    (ay (bS ([7]++[]) jd (ag 7) gv)
    (aO 4 (aq aU (ae 4) (bZ (aa (aM (g1 ck) (aa (cJ [] 1 lS (ag 0) b7 gF) ah)) (aa (aq aU (ae 5) (aW (aa (vC (.int 0)) ah))) (aa (r9 (ae 5) (gO (vC (.int 1))) iD) (aa (aM (g1 oe) (aa (ae 5) ah)) (aa (aW (aa (ae 5) ah)) (aa (zL (ae 5) (mL mX (vC (.int 1)))) ah))))))))))))
noncomputable def lT:FI:=(eJ (ae 2))
noncomputable def gG:FE:=(aq di (vC (.int 1)) (ae 0))
noncomputable def gJ:FI:=(bx (aa (aq eg (ae 1) (vC (.int 0))) ah))
noncomputable def fw:FE:=(aq aD (bY 1 az (aa (ae 0) ah)) (vC (.int 2)))
noncomputable def mT:FS:=(ay (aO 2 (bY 1 cz (aa (ae 1) ah)))
    (ay (aO 3 (bZ (aa (aM (g1 ck) (aa (cJ [(0,"_law_numbers")] 1 gJ (ag 1) b7 fw) ah)) ah)))
    (ay (gh (aS (aq eS (ae 2) (vC .none)))
    (aO 3 (aq aU (ae 3) (bZ (aa (ae 2) (aa (aM (g1 ck) (aa (cJ [] 1 lT (ag 0) b7 gG) ah)) ah)))))
    dq)
    (ay (aO 4 (bZ ah))
    (ay (bS ([5]++([]++([6]++(([7]++[])++[4])))) je (ag 5) eM)
    (bC (ae 4)))))))
noncomputable def ik:FM:=h_ 2 6 ([2]++([3]++(([3]++[])++([4]++(([5]++([]++([6]++(([7]++[])++[4]))))++[]))))) mT
theorem oz:aJ ["_law_numbers","_law_web_here","_law_own","_law_some","_law_found","_law_row","_law_at","_law_odd_here"] ["_law_numbers","_law_web_here"] (aj ff):=⟨rfl,rfl,rfl,by decide+kernel,rfl,by decide+kernel,by decide+kernel⟩
theorem sW(h:bi K mg "_law_rows" ff f fd ["_law_numbers","_law_web_here"])(T:iK mg){fLtwo_sided:Addr}{eLtwo_sided:FuncData}(hLtwo_sided:bi K mg "_law_two_sided" cB fLtwo_sided eLtwo_sided ["_law_web_here"])(GLtwo_sided:aK P w K mg base bU 2 fLtwo_sided eLtwo_sided ["_law_web_here"] (b6 K 1 cz)){fLnext:Addr}{eLnext:FuncData}(hLnext:bi K mg "_law_next" dn fLnext eLnext ["_law_drawn"])(GLnext:aK P w K mg base bU 1 fLnext eLnext ["_law_drawn"] (b6 K 1 az)):aK P w K mg base bU 3 f fd ["_law_numbers","_law_web_here"] (b6 K 2 ik):=by
  have nd:=oz.nd
  exact h.fn oz rfl rfl (fun cdv A outer s H E hr=>(@af _ _ _ _ _ _ _ _ (@am _ _ _ _ _ 2 _ _ nd rfl (Or.inl rfl) (@aP _ _ _ _ _ _ _ _ _ _ _ _ _ _ _ hLtwo_sided GLtwo_sided (hr.mono (by decide)) ((¬1)∘ab) (by rfl) (by decide) (by rfl) (by rfl)) (by rfl) (by trivial))
      (@af _ _ _ _ _ _ _ _ (@am _ _ _ _ _ 3 _ _ nd rfl (Or.inl rfl) (@aT _ _ _ _ _ ((@aX _ _ _ _ _ _ _ _ _ (@b_tuple _ _ rfl) (by rfl) T.b_tuple ((@e7 _ _ _ _ _ _ _ _ _ _ _ _ _ (aj ff) ["_law_numbers","_law_web_here","_law_own","_law_some","_law_found","_law_row","_law_at","_law_odd_here"] [(0,"_law_numbers")] ["_law_k"] rfl rfl rfl (@bj _ _ _ _ _ _ _ rfl T.b_range ((@cn _ _ _ _ _ _ _ rfl (¬1) ac (fun _ _=>rfl))∘ab) (by rfl))
        (fun C s0 H0 fp=>(@ax _ _ _ 1 _ (show List.Nodup (["_law_numbers","_law_k"]:List Str) by decide+kernel) rfl (Or.inl rfl) (by trivial))) (fun C s0 H0 fp=>(@eE _ _))
        (fun C s0 H0 fp=>(@aE _ _ _ _ _ _ _ (@aP _ _ _ _ _ _ _ _ _ _ _ _ _ _ _ hLnext GLnext (hr.mono (by decide)) ((¬0)∘ab) (by rfl) (by decide) (by rfl) (by rfl)) ac)) rfl (by decide+kernel) (by decide+kernel) (by decide+kernel) (by decide+kernel) (by decide+kernel) (by decide+kernel) (by decide+kernel) (by intro _;rfl))∘ab) (by decide) (by decide) (by rfl) (by rfl))∘ab)) (by rfl) (by trivial))
      (@af _ _ _ _ _ _ _ _ (@b5 _ _ _ _ _ _ _ _ _ _ _ (@a7 _ _ _ _ _ _ _ _ _ (@ko _ _) (¬2) (@jn _ _ _ _) (aN _))
      (@ai _ _ _ _ _ (@am _ _ _ _ _ 3 _ _ nd rfl (Or.inl rfl) (@aV _ _ _ _ _ _ _ rfl (¬3) (@aT _ _ _ _ _ ((¬2)∘((@aX _ _ _ _ _ _ _ _ _ (@b_tuple _ _ rfl) (by rfl) T.b_tuple ((@e7 _ _ _ _ _ _ _ _ _ _ _ _ _ (aj ff) ["_law_numbers","_law_web_here","_law_own","_law_some","_law_found","_law_row","_law_at","_law_odd_here"] [] ["_law_one"] rfl rfl rfl (@dk _ _ _ _ _ rfl (¬2))
        (fun C s0 H0 fp=>(@ax _ _ _ 0 _ (show List.Nodup (["_law_one"]:List Str) by decide+kernel) rfl (Or.inl rfl) (by trivial))) (fun C s0 H0 fp=>(@eE _ _))
        (fun C s0 H0 fp=>(@gR _ _ _ _ _ _ _ ac (¬0))) rfl (by decide+kernel) (by decide+kernel) (by decide+kernel) (by decide+kernel) (by decide+kernel) (by decide+kernel) (by decide+kernel) (by intro _;rfl))∘ab) (by decide) (by decide) (by rfl) (by rfl))∘ab)))) (by rfl) (by trivial)))
      (@aZ _ _))
      (@af _ _ _ _ _ _ _ _ (@am _ _ _ _ _ 4 _ _ nd rfl (Or.inl rfl) (@aT _ _ _ _ _ ab) (by rfl) (by trivial))
      (@af _ _ _ _ _ _ _ _ (@cq _ _ _ _ _ _ _ _ _ _ _ PassesOwn.never rfl (@dk _ _ _ _ _ rfl (¬3)) (@ax _ _ _ 5 _ nd rfl (Or.inl rfl) (by trivial))
      (@af _ _ _ _ _ _ _ _ (@bO _ _ _ _ _ (@bt _ _ _ _ _ _ _ _ _ rfl (¬4) ((¬5)∘ab) (by rfl) (by rfl) (by rfl) (by rfl) (by rfl)) (by rfl))
      (@af _ _ _ _ _ _ _ _ (@am _ _ _ _ _ 6 _ _ nd rfl (Or.inl rfl) (@aE _ _ _ _ _ _ _ (@aP _ _ _ _ _ _ _ _ _ _ _ _ _ _ _ hLnext GLnext (hr.mono (by decide)) ((¬0)∘ab) (by rfl) (by decide) (by rfl) (by rfl)) (@aV _ _ _ _ _ _ _ rfl (@aX _ _ _ _ _ _ _ _ _ (@b_len _ _ rfl) (by rfl) T.b_len ((¬5)∘ab) (by decide) (by decide) (by rfl) (by rfl)) ac)) (by rfl) (by trivial))
      (@af _ _ _ _ _ _ _ _ (@cq _ _ _ _ _ _ _ _ _ _ _ PassesOwn.never rfl (@dk _ _ _ _ _ rfl (@aT _ _ _ _ _ (ac∘(ac∘(ac∘((@om _ _ _ _ _ ac)∘((@dw _ _ _ _ _)∘((@dw _ _ _ _ _)∘((@jn _ _ _ _)∘((@jo _ _ _ _ _)∘((@ao _ _ _ _ _ _ (ac∘ab))∘((@aT _ _ _ _ _ (ac∘ab))∘((@md _ _ _ _ _ _ _ _ _)∘ab))))))))))))) (@ax _ _ _ 7 _ nd rfl (Or.inl rfl) (by trivial))
      (@ai _ _ _ _ _ (@bO _ _ _ _ _ (@bt _ _ _ _ _ _ _ _ _ rfl (¬4) ((@aV _ _ _ _ _ _ _ rfl (@aV _ _ _ _ _ _ _ rfl (@gQ _ _ _ _ _ _ _ _ _ _ rfl (¬5) (@gT _ _) (@gU _ _ _ _ (¬6))) (@ao _ _ _ _ _ _ ((¬7)∘ab))) (@gQ _ _ _ _ _ _ _ _ _ _ rfl (¬5) (@gU _ _ _ _ (@aV _ _ _ _ _ _ _ rfl (¬6) ac)) (@gT _ _)))∘ab) (by rfl) (by rfl) (by rfl) (by rfl) (by rfl)) (by rfl))) (by intro _;rfl))
      (@ai _ _ _ _ _ (@am _ _ _ _ _ 4 _ _ nd rfl (Or.inl rfl) (@aV _ _ _ _ _ _ _ rfl (¬4) (@aT _ _ _ _ _ ((@aX _ _ _ _ _ _ _ _ _ (@b_tuple _ _ rfl) (by rfl) T.b_tuple ((@e7 _ _ _ _ _ _ _ _ _ _ _ _ _ (aj ff) ["_law_numbers","_law_web_here","_law_own","_law_some","_law_found","_law_row","_law_at","_law_odd_here"] [] ["_law_one"] rfl rfl rfl (@dk _ _ _ _ _ rfl (¬5))
        (fun C s0 H0 fp=>(@ax _ _ _ 0 _ (show List.Nodup (["_law_one"]:List Str) by decide+kernel) rfl (Or.inl rfl) (by trivial))) (fun C s0 H0 fp=>(@eE _ _))
        (fun C s0 H0 fp=>(@jl _ _ _ _ _ _ _ _ _ (@gA _ _ _ rfl hr) (¬0) ac (aN _))) rfl (by decide+kernel) (by decide+kernel) (by decide+kernel) (by decide+kernel) (by decide+kernel) (by decide+kernel) (by decide+kernel) (by intro _;rfl))∘ab) (by decide) (by decide) (by rfl) (by rfl))∘((@aV _ _ _ _ _ _ _ rfl (¬5) (@ao _ _ _ _ _ _ (ac∘ab)))∘((@gQ _ _ _ _ _ _ _ _ _ _ rfl (¬5) (@gU _ _ _ _ ac) (@gT _ _))∘((@aX _ _ _ _ _ _ _ _ _ (@b_list _ _ rfl) (by rfl) T.b_list ((¬5)∘ab) (by decide) (by decide) (by rfl) (by rfl))∘((@ao _ _ _ _ _ _ ((¬5)∘ab))∘((@AC _ _ _ _ _ _ _ _ rfl (¬5) (@om _ _ _ _ _ ac))∘ab)))))))) (by rfl) (by trivial)))))) (by intro _;rfl))
      (@ai _ _ _ _ _ (@aI _ _ _ _ _ (¬4)))))))))
noncomputable def Ap:FI:=(eJ (ae 6))
noncomputable def zS:FS:=(gh (jJ (aS (bY 2 jh (aa (bY 2 bf (aa (ae 5) (aa (ae 7) ah))) (aa (bY 2 bz (aa (ae 5) (aa (ae 7) ah))) ah)))))
    (bC (vC (.bool false)))
    dq)
noncomputable def Aq:FI:=(bx (aa (vC (.int 4)) ah))
noncomputable def zU:FE:=(bY 1 lW (aa (bY 1 az (aa (ae 0) ah)) ah))
noncomputable def A9:FI:=(bx (aa (aq aU (vC (.int 2)) (aM (g2 kL) (aa (vC (.int 5)) (aa (aM (g1 fX) (aa (ae 0) ah)) ah)))) ah))
noncomputable def zT:FS:=(ay (pw (aq eg (bZ (aa (aW (aa (vC (.int 8)) (aa (vC (.int 10)) ah))) (aa (aW (aa (vC (.int 12)) (aa (vC (.int 16)) ah))) ah))) (aq aD (bY 1 az (aa (ae 1) ah)) (vC (.int 2)))) (du (ar (ag 3) (ar (ag 4) cN))))
    (ay (aO 5 (bY 3 bQ (aa (ae 1) (aa (ae 3) (aa (ae 4) ah)))))
    (ay (aO 6 (aq aU (bY 2 ik (aa (ae 1) (aa (ae 5) ah))) (cJ [(1,"_law_numbers")] 1 Aq (ag 1) b7 zU)))
    (ay (bS ([7]++([]++[])) Ap (ag 7) zS)
    (gh (r8 (aS (aq eS (bY 2 bf (aa (aW (aa (vC (.int 0)) (aa (aW ah) (aa (aW ah) (aa (vC (.int 0)) ah))))) (aa (aW ah) ah))) (vC (.bool true)))) (aS (aq eS (bY 2 bf (aa (aW (aa (vC (.int 0)) (aa (aW ah) (aa (aW ah) (aa (vC (.int 0)) ah))))) (aa (aW (aa (vC (.int 0)) ah)) ah))) (vC (.bool false)))))
    (bC (vC (.bool false)))
    dq)))))
noncomputable def uH:FS:=(ay (aO 1 (bY 1 gL (aa (ae 0) ah)))
    (ay (bS ([2]++(([3]++([4]++[]))++([5]++([6]++(([7]++([]++[]))++([]++[])))))) A9 (ag 2) zT)
    (bC (vC (.bool true)))))
noncomputable def ji:FM:=h_ 1 7 ([1]++(([2]++(([3]++([4]++[]))++([5]++([6]++(([7]++([]++[]))++([]++[]))))))++[])) uH
theorem rO:aJ ["_law_script","_law_numbers","_law_turn","_law_most","_law_many","_law_web_here","_law_things","_law_thing"] ["_law_script"] (aj iE):=⟨rfl,rfl,rfl,by decide+kernel,rfl,by decide+kernel,by decide+kernel⟩
theorem v_(h:bi K mg "law" iE f fd ["_law_script"])(T:iK mg){fLdraws:Addr}{eLdraws:FuncData}(hLdraws:bi K mg "_law_draws" gX fLdraws eLdraws ["_law_script"])(GLdraws:aK P w K mg base bU 2 fLdraws eLdraws ["_law_script"] (b6 K 1 gL)){fLside_web:Addr}{eLside_web:FuncData}(hLside_web:bi K mg "_law_side_web" dS fLside_web eLside_web ["_law_numbers","_law_most","_law_many"])(GLside_web:aK P w K mg base bU 6 fLside_web eLside_web ["_law_numbers","_law_most","_law_many"] (b6 K 3 bQ)){fLrows:Addr}{eLrows:FuncData}(hLrows:bi K mg "_law_rows" ff fLrows eLrows ["_law_numbers","_law_web_here"])(GLrows:aK P w K mg base bU 3 fLrows eLrows ["_law_numbers","_law_web_here"] (b6 K 2 ik)){fLnext:Addr}{eLnext:FuncData}(hLnext:bi K mg "_law_next" dn fLnext eLnext ["_law_drawn"])(GLnext:aK P w K mg base bU 1 fLnext eLnext ["_law_drawn"] (b6 K 1 az)){fLodd:Addr}{eLodd:FuncData}(hLodd:bi K mg "_law_odd" mi fLodd eLodd ["_law_number"])(GLodd:aK P w K mg base bU 1 fLodd eLodd ["_law_number"] (b6 K 1 lW)){fLsays:Addr}{eLsays:FuncData}(hLsays:bi K mg "_law_says" jt fLsays eLsays ["_law_found","_law_due"])(GLsays:aK P w K mg base bU 1 fLsays eLsays ["_law_found","_law_due"] (b6 K 2 jh)){f_sides_hold:Addr}{e_sides_hold:FuncData}(h_sides_hold:bi K mg "sides_hold" bD f_sides_hold e_sides_hold ["web","thing"])(G_sides_hold:aK P w K mg base bU 3 f_sides_hold e_sides_hold ["web","thing"] (b6 K 2 bf)){fLare_sides:Addr}{eLare_sides:FuncData}(hLare_sides:bi K mg "_law_are_sides" bT fLare_sides eLare_sides ["_law_web_here","_law_thing"])(GLare_sides:aK P w K mg base bU 1 fLare_sides eLare_sides ["_law_web_here","_law_thing"] (b6 K 2 bz)):aK P w K mg base bU 7 f fd ["_law_script"] (b6 K 1 ji):=by
  have nd:=rO.nd
  exact h.fn rO rfl rfl (fun cdv A outer s H E hr=>(@af _ _ _ _ _ _ _ _ (@am _ _ _ _ _ 1 _ _ nd rfl (Or.inr rfl) (@aP _ _ _ _ _ _ _ _ _ _ _ _ _ _ _ hLdraws GLdraws (hr.mono (by decide)) ((¬0)∘ab) (by rfl) (by decide) (by rfl) (by rfl)) (by rfl) (by trivial))
      (@af _ _ _ _ _ _ _ _ (@cq _ _ _ _ _ _ _ _ _ _ _ PassesOwn.never rfl (@bj _ _ _ _ _ _ _ rfl T.b_range ((@aV _ _ _ _ _ _ _ rfl ac (@aX _ _ _ _ _ _ _ _ _ (@b_min _ _ rfl) (by rfl) T.b_min (ac∘((@aX _ _ _ _ _ _ _ _ _ (@b_len _ _ rfl) (by rfl) T.b_len ((¬0)∘ab) (by decide) (by decide) (by rfl) (by rfl))∘ab)) (by decide) (by decide) (by rfl) (by rfl)))∘ab) (by rfl)) (@ax _ _ _ 2 _ nd rfl (Or.inl rfl) (by trivial))
      (@af _ _ _ _ _ _ _ _ (@rp _ _ _ _ _ _ _ _ (@cn _ _ _ _ _ _ _ rfl (@aT _ _ _ _ _ ((@ao _ _ _ _ _ _ (ac∘(ac∘ab)))∘((@ao _ _ _ _ _ _ (ac∘(ac∘ab)))∘ab))) (@aE _ _ _ _ _ _ _ (@aP _ _ _ _ _ _ _ _ _ _ _ _ _ _ _ hLnext GLnext (hr.mono (by decide)) ((¬1)∘ab) (by rfl) (by decide) (by rfl) (by rfl)) ac) (fun _ _=>rfl)) (@jp _ _ _ _ _ _ _ _ rfl rfl (@ba _ _ _ _ _ _ _ _ (@ax _ _ _ 3 _ nd rfl (Or.inl rfl) (by trivial)) (@ba _ _ _ _ _ _ _ _ (@ax _ _ _ 4 _ nd rfl (Or.inl rfl) (by trivial)) (@gS _ _) (by rfl)) (by rfl)) (bw (bw jc)) (by rfl) (by rfl)) (by rfl) (by rfl) (by rfl))
      (@af _ _ _ _ _ _ _ _ (@am _ _ _ _ _ 5 _ _ nd rfl (Or.inl rfl) (@aP _ _ _ _ _ _ _ _ _ _ _ _ _ _ _ hLside_web GLside_web (hr.mono (by decide)) ((¬1)∘((¬3)∘((¬4)∘ab))) (by rfl) (by decide) (by rfl) (by rfl)) (by rfl) (by trivial))
      (@af _ _ _ _ _ _ _ _ (@am _ _ _ _ _ 6 _ _ nd rfl (Or.inl rfl) (@aV _ _ _ _ _ _ _ rfl (@aP _ _ _ _ _ _ _ _ _ _ _ _ _ _ _ hLrows GLrows (hr.mono (by decide)) ((¬1)∘((¬5)∘ab)) (by rfl) (by decide) (by rfl) (by rfl)) (@e7 _ _ _ _ _ _ _ _ _ _ _ _ _ (aj iE) ["_law_script","_law_numbers","_law_turn","_law_most","_law_many","_law_web_here","_law_things","_law_thing"] [(1,"_law_numbers")] ["_law_k"] rfl rfl rfl (@bj _ _ _ _ _ _ _ rfl T.b_range (ac∘ab) (by rfl))
        (fun C s0 H0 fp=>(@ax _ _ _ 1 _ (show List.Nodup (["_law_numbers","_law_k"]:List Str) by decide+kernel) rfl (Or.inl rfl) (by trivial))) (fun C s0 H0 fp=>(@eE _ _))
        (fun C s0 H0 fp=>(@aP _ _ _ _ _ _ _ _ _ _ _ _ _ _ _ hLodd GLodd (hr.mono (by decide)) ((@aP _ _ _ _ _ _ _ _ _ _ _ _ _ _ _ hLnext GLnext (hr.mono (by decide)) ((¬0)∘ab) (by rfl) (by decide) (by rfl) (by rfl))∘ab) (by rfl) (by decide) (by rfl) (by rfl))) rfl (by decide+kernel) (by decide+kernel) (by decide+kernel) (by decide+kernel) (by decide+kernel) (by decide+kernel) (by decide+kernel) (by intro _;rfl))) (by rfl) (by trivial))
      (@af _ _ _ _ _ _ _ _ (@cq _ _ _ _ _ _ _ _ _ _ _ PassesOwn.never rfl (@dk _ _ _ _ _ rfl (¬6)) (@ax _ _ _ 7 _ nd rfl (Or.inl rfl) (by trivial))
      (@ai _ _ _ _ _ (@b5 _ _ _ _ _ _ _ _ _ _ _ (@jr _ _ _ _ _ (@gf _ _ _ _ (@aP _ _ _ _ _ _ _ _ _ _ _ _ _ _ _ hLsays GLsays (hr.mono (by decide)) ((@aP _ _ _ _ _ _ _ _ _ _ _ _ _ _ _ h_sides_hold G_sides_hold (hr.mono (by decide)) ((¬5)∘((¬7)∘ab)) (by rfl) (by decide) (by rfl) (by rfl))∘((@aP _ _ _ _ _ _ _ _ _ _ _ _ _ _ _ hLare_sides GLare_sides (hr.mono (by decide)) ((¬5)∘((¬7)∘ab)) (by rfl) (by decide) (by rfl) (by rfl))∘ab)) (by rfl) (by decide) (by rfl) (by rfl)) (by intro _;rfl)))
      (@ai _ _ _ _ _ (@aI _ _ _ _ _ (@dw _ _ _ _ _)))
      (@aZ _ _))) (by intro _;rfl))
      (@ai _ _ _ _ _ (@b5 _ _ _ _ _ _ _ _ _ _ _ (@rA _ _ _ _ (@me _ _ _ _ _ _ _ _ (@a7 _ _ _ _ _ _ _ _ _ (@ko _ _) (@aP _ _ _ _ _ _ _ _ _ _ _ _ _ _ _ h_sides_hold G_sides_hold (hr.mono (by decide)) ((@ao _ _ _ _ _ _ (ac∘((@ao _ _ _ _ _ _ ab)∘((@ao _ _ _ _ _ _ ab)∘(ac∘ab)))))∘((@ao _ _ _ _ _ _ ab)∘ab)) (by rfl) (by decide) (by rfl) (by rfl)) (@dw _ _ _ _ _) (aN _)) (@k9 _ _ _ _ _ (@a7 _ _ _ _ _ _ _ _ _ (@ko _ _) (@aP _ _ _ _ _ _ _ _ _ _ _ _ _ _ _ h_sides_hold G_sides_hold (hr.mono (by decide)) ((@ao _ _ _ _ _ _ (ac∘((@ao _ _ _ _ _ _ ab)∘((@ao _ _ _ _ _ _ ab)∘(ac∘ab)))))∘((@ao _ _ _ _ _ _ (ac∘ab))∘ab)) (by rfl) (by decide) (by rfl) (by rfl)) (@dw _ _ _ _ _) (aN _)))))
      (@ai _ _ _ _ _ (@aI _ _ _ _ _ (@dw _ _ _ _ _)))
      (@aZ _ _))))))) (by intro _;rfl))
      (@ai _ _ _ _ _ (@aI _ _ _ _ _ (@dw _ _ _ _ _))))))
local macro_rules | `(tactic| simp? [$ts,*]) => `(tactic| simp [$ts,*, h_, l3, ay, gh, bC, dq, aO, dc, pw, rH, ud, aS, aq, mL, ae, vC, bZ, ah, aa, aW, aM, bY, pI, r8, jJ, Bd, jA, zK, mJ, r9, iD, gO, bA, be, m6, f_, gE, lA, dP, bM, sA, pH, du, ar, ag, cN, cD, aG, bc, vT, d_, cf, ja, fx, og, n_, nZ, nY, lJ, lI, lM, j2, lD, uZ, n9, qb, u7, qe, oa, qc, qd, lP, lO, j3, lQ, u_, mQ, mR, pR, pS, uJ, jT, jS, i_, n6, List.replicate, -List.map_nil, -List.map_cons, -List.nil_append, -List.cons_append, -Option.bind_some, -Option.map_some, -getElem?_pos, -List.append_nil, uV, uU, uP, uO, uR, uS, uQ, uW])
theorem i7{n k:Int}(h:0 < k):0≤n % k:=Int.emod_nonneg _ (Int.ne_of_gt h)
theorem i8{n k:Int}(h:0 < k):n % k < k:=Int.emod_lt_of_pos _ h
def nx:List Int→Int
  | []=>0
  | d::_=>d
def dI(ds:List Int):Prop:=∀d∈ds,0≤d∧d < 2147483648
theorem ve{ds:List Int}(h:dI ds):0≤nx ds∧nx ds < 2147483648:=by
  cases ds with
  | nil=>exact⟨Int.le_refl 0,by show(0:Int) < 2147483648;decide⟩
  | cons d r=>exact h d (by simp)
theorem zI{ds:List Int}(h:dI ds):dI ds.tail:=fun d hd=>h d (List.mem_of_mem_tail hd)
theorem xx(ds:List Int):az [.l (ds.map .int)]=some (.d (.int (nx ds)),[.l (ds.tail.map .int)]):=by
  have hq:∀e:En,e[0]?=some (some (.l (ds.map .int)))→cg false e (.s 0) (.l [])=some (.d (.bool (ds.map PyData.int).isEmpty)):=fun e he=>lH he (iG ds).1
  cases ds with
  | nil=>simp? [az,mS,hq,nx]
  | cons d r=>simp? [az,mS,hq,nx]
theorem cu{ds:List Int}(hd:dI ds):∃(n:Int) (ds':List Int),az [.l (ds.map .int)]=some (.d (.int n),[.l (ds'.map .int)])∧0≤n∧n < 2147483648∧dI ds':=⟨nx ds,ds.tail,xx ds,(ve hd).1,(ve hd).2,zI hd⟩
theorem oF(cell k:Int)(h0:0≤k)(h1:k≤1000):∃r,fD [.d (.int cell),.d (.int k)]=some (.d (.int r),[.d (.int cell),.d (.int k)])∧0≤r∧r < 2147483648:=by
  have a1:io (cell % 2147483647) 48271=true:=kS (by decide) (by decide)
  have a2:io 7919 k=true:=qA (by decide) (by decide)
  have a3:io (7919*k) k=true:=kS (by lia) (by lia)
  have a4:io ((cell % 2147483647*48271+7919*k*k+104729) % 2147483647) ((cell % 2147483647*48271+7919*k*k+104729) % 2147483647)=true:=kS (by lia) (by lia)
  refine⟨_,by simp? [fD,nQ,ap,jb,a1,a2,a3,a4];rfl,?_,?_⟩
  · lia
  · lia
theorem kz{ds:List Int}(h:dI ds){r:Int}(h0:0≤r)(h1:r < 2147483648):dI (ds++[r]):=fun d hd=>by
  rcases List.mem_append.mp hd with hd | hd
  · exact h d hd
  · simp at hd;subst hd;exact⟨h0,h1⟩
abbrev dE(ns ds:List Int)(v2 v3 v4:Option Sv):En:=[some (.d (.list (ns.map .int))),some (.l (ds.map .int)),v2,v3,v4]
inductive DI (ns:List Int) (i:Nat):En→Prop
  | mk {ds v2 v3 v4} (hd:dI ds) (hl:ds.length≤1000*i):DI ns i (dE ns ds v2 v3 v4)
inductive DJ (ns:List Int) (k cell:Int) (n i:Nat):En→Prop
  | mk {ds v4} (hd:dI ds) (hl:ds.length=n+i):DJ ns k cell n i (dE ns ds (some (.d (.int k))) (some (.d (.int cell))) v4)
inductive DW (ns:List Int) (k:Int) (v4:Option Sv) (n:Nat):En→Prop
  | mk {cell ds} (hc:0≤cell) (hd:dI ds) (hl:ds.length≤max n 900):DW ns k v4 n (dE ns ds (some (.d (.int k))) (some (.d (.int cell))) v4)
theorem um(ns:List Int)(hn:ns.length≤63):∃ds,gL [.d (.list (ns.map .int))]=some (.l (ds.map .int),[.d (.list (ns.map .int))])∧dI ds:=by
  have inner:∀(cell k:Int) (ds:List Int) (v4:Option Sv),0≤k→k≤63→dI ds→ds.length≤63000→∃ds' v4',(∀W,bS W fy (ag 4) ej (dE ns ds (some (.d (.int k))) (some (.d (.int cell))) v4)=some (.nx (dE ns ds' (some (.d (.int k))) (some (.d (.int cell))) v4')))∧dI ds'∧ds'.length=ds.length+12:=by
    intro cell k ds v4 k0 k1 hd hl
    obtain⟨e',h1,h2⟩:=bo (own:=[]) (g:=ag 4) (f:=ej) (DJ ns k cell ds.length) (aL 0 12) 0 (dE ns ds (some (.d (.int k))) (some (.d (.int cell))) v4) (fun i x e hx hI=>by
      obtain⟨rfl,hi⟩:=bR hx
      obtain⟨hd',hl'⟩:=hI
      rename_i ds' v4'
      obtain⟨r1,c1,_,_⟩:=oF cell (3*(0+(i:Int))+1) (by lia) (by lia)
      obtain⟨r2,c2,c3,c4⟩:=oF r1 (0+(i:Int)+k+2) (by lia) (by lia)
      have a1:io 3 (0+(i:Int))=true:=qA (by decide) (by decide)
      refine⟨_,dE ns (ds'++[r2]) (some (.d (.int k))) (some (.d (.int cell))) (some (.d (.int (0+(i:Int))))),rfl,?_,aY,.mk (kz hd' c3 c4) (by simp;lia)⟩
      have hlen:ds'.length < 1000000:=by lia
      simp only [Int.zero_add] at a1 c1 c2
      simp? [dE,ej,c1,c2,jb,a1,hlen]) (.mk hd rfl)
    obtain⟨hd',hl'⟩:=h2
    rename_i ds' v4'
    rw [a_] at hl'
    refine⟨ds',v4',fun W=>?_,hd',by lia⟩
    rw [bX (show fy _=some (aL 0 12,[],_) from bg (n:=12) rfl (by decide) (by decide))]
    exact h1
  have wh:∀(cell k:Int) (ds:List Int) (v4:Option Sv),0≤cell→dI ds→ds.length≤63100→∃cell' ds',gj (2 ^ 4200) dH fj (dE ns ds (some (.d (.int k))) (some (.d (.int cell))) v4)=some (.nx (dE ns ds' (some (.d (.int k))) (some (.d (.int cell'))) v4))∧0≤cell'∧dI ds'∧ds'.length≤max ds.length 900:=by
    intro cell k ds v4 hc hd hl
    have tst:∀(cell:Int) (ds:List Int),dH (dE ns ds (some (.d (.int k))) (some (.d (.int cell))) v4)=some (decide (1000000000000000000≤cell)&&decide ((ds.length:Int) < 900),dE ns ds (some (.d (.int k))) (some (.d (.int cell))) v4):=by
      intro cell ds
      by_cases h:(1000000000000000000:Int)≤cell
      · simp? [dE,dH,eT,gP,h]
      · simp? [dE,dH,eT,gP,h]
    obtain⟨e0,e',h1,hI,h3⟩:=jC (ft:=dH) (f:=fj) (DW ns k v4 ds.length)
      (fun e=>1000000 - vb 1 e) (fun e hI=>by
        obtain⟨hc',hd',hl'⟩:=hI
        rename_i cell' ds'
        rw [tst]
        by_cases c1:(1000000000000000000:Int)≤cell'
        · by_cases c2:(ds'.length:Int) < 900
          · refine .inr ⟨_,dE ns (ds'++[cell' % 2147483629]) (some (.d (.int k))) (some (.d (.int (cell' / 2147483629)))) v4,by rw [decide_eq_true c1,decide_eq_true c2];rfl,?_,.mk (by lia) (kz hd' (by lia) (by lia)) (by simp;lia),?_⟩
            · have hlen:ds'.length < 1000000:=by lia
              have b8:Bt 8000 2147483629:=eP (by decide) (by decide)
              simp? [dE,fj,ap,cx,b8,hlen]
            · simp [vb,dE];lia
          · exact .inl ⟨_,by rw [decide_eq_true c1,decide_eq_false c2];rfl,trivial⟩
        · exact .inl ⟨_,by rw [decide_eq_false c1];rfl,trivial⟩) (2 ^ 4200) _ (.mk hc hd (by lia)) (ol (m:=20) (Nat.lt_of_le_of_lt (Nat.sub_le _ _) (by decide)) (by decide))
    obtain⟨hc',hd',hl'⟩:=hI
    rename_i cell' ds'
    rw [tst] at h3
    have h4:=(Prod.mk.inj (Option.some.inj h3)).2
    subst h4
    exact⟨cell',ds',h1,hc',hd',hl'⟩
  have turn:∀(i:Nat) (ds:List Int) (v3 v4:Option Sv) (hi:i < ns.length),dI ds→ds.length≤1000*i→∃ds2 v3' v4',dG (dE ns ds (some (.d (.int (i:Int)))) v3 v4)=some (.nx (dE ns ds2 (some (.d (.int (i:Int)))) v3' v4'))∧dI ds2∧ds2.length≤1000*(i+1):=by
    intro i ds v3 v4 hi hd hl
    have hcell:atI (ns.map PyData.int) (i:Int)=some (.int ns[i]):=by
      rw [fU (by lia) (by rw [List.length_map];lia)]
      simp [hi]
    have c0:(0:Int)≤(ns[i].natAbs:Int):=by lia
    have st:aO 3 (aM (g1 oQ) (aa (aq eg (ae 0) (ae 2)) ah)) (dE ns ds (some (.d (.int (i:Int)))) v3 v4)=some (.nx (dE ns ds (some (.d (.int (i:Int)))) (some (.d (.int (ns[i].natAbs:Int)))) v4)):=by
      simp? [dE,hcell]
    generalize (ns[i].natAbs:Int)=cell at c0 st
    have mid:∃ds1 v4',gh (aS (aq u9 (ae 3) (aq kM (vC (.int 10)) (vC (.int 18))))) (bS ([4]++[]) fy (ag 4) ej) dq (dE ns ds (some (.d (.int (i:Int)))) (some (.d (.int cell))) v4)=some (.nx (dE ns ds1 (some (.d (.int (i:Int)))) (some (.d (.int cell))) v4'))∧dI ds1∧ds1.length≤ds.length+12:=by
      by_cases cb:cell < 1000000000000000000
      · obtain⟨ds1,v4',f1,f2,f3⟩:=inner cell (i:Int) ds v4 (by lia) (by lia) hd (by lia)
        refine⟨ds1,v4',?_,f2,by lia⟩
        rw [zm (e1:=dE ns ds (some (.d (.int (i:Int)))) (some (.d (.int cell))) v4) (by simp? [dE,eT,gP,cb])]
        exact f1 _
      · refine⟨ds,v4,?_,hd,by lia⟩
        rw [zl (e1:=dE ns ds (some (.d (.int (i:Int)))) (some (.d (.int cell))) v4) (by simp? [dE,eT,gP,cb])]
        rfl
    obtain⟨ds1,v4',m1,m2,m3⟩:=mid
    obtain⟨cell2,ds2,w1,w2,w3,w4⟩:=wh cell (i:Int) ds1 v4' c0 m2 (by lia)
    by_cases c2:(2147483629:Int)≤cell2
    · refine⟨ds2++[cell2 % 2147483629],some (.d (.int cell2)),v4',?_,kz w3 (by lia) (by lia),by simp;lia⟩
      have hlen:ds2.length < 1000000:=by lia
      unfold dG
      rw [eG st,eG m1,eG w1]
      simp? [dE,c2,ap,hlen]
    · refine⟨ds2,some (.d (.int cell2)),v4',?_,w3,by lia⟩
      unfold dG
      rw [eG st,eG m1,eG w1]
      simp? [dE,c2]
  obtain⟨e',h1,hI⟩:=bo (own:=[]) (g:=ag 2) (f:=dG) (DI ns) (aL 0 (min (ns.length:Int) 63).toNat) 0 (dE ns [] none none none) (fun i x e hx hI=>by
    obtain⟨rfl,hi⟩:=bR hx
    obtain⟨hd,hl⟩:=hI
    rename_i ds v2 v3 v4
    rw [Nat.zero_add] at hl ⊢
    obtain⟨ds2,v3',v4',t1,t2,t3⟩:=turn i ds v3 v4 (by lia) hd hl
    exact⟨dE ns ds (some (.d (.int (i:Int)))) v3 v4,_,by simp [ag,dE],t1,aY,.mk t2 t3⟩) (.mk (fun d hd=>by cases hd) (by simp))
  obtain⟨hd,hl⟩:=hI
  rename_i ds v2 v3 v4
  refine⟨ds,?_,hd⟩
  have hf:∀W,bS W ie (ag 2) dG (dE ns [] none none none)=some (.nx (dE ns ds v2 v3 v4)):=fun W=>by
    rw [bX (show ie _=some (aL 0 (min (ns.length:Int) 63).toNat,[],dE ns [] none none none) from bg (n:=min (ns.length:Int) 63) (by simp? [dE]) (by lia) (by lia))]
    exact h1
  unfold dE at hf
  simp only [List.map_nil] at hf
  simp? [gL,nO,hf]
theorem zD(a b:Int)(hb:Bt 4000 b):lV [.d (.int a),.d (.int b)]=some (.d (.int (Int.gcd a b)),[.d (.int a),.d (.int b)]):=by
  have tst:∀x y:Int,gy [some (.d (.int x)),some (.d (.int y))]=some (!(y==0),[some (.d (.int x)),some (.d (.int y))]):=fun x y=>by simp? [gy]
  obtain⟨e0,e',h1,⟨x,y,he,hg,hy⟩,h3⟩:=jC (ft:=gy) (f:=iR) (fun e=>∃x y,e=[some (.d (.int x)),some (.d (.int y))]∧Int.gcd x y=Int.gcd a b∧Bt 4000 y) (qB 1) (fun e ⟨x,y,he,hg,hy⟩=>by
    subst he
    rw [tst]
    by_cases c:y=0
    · subst c;exact .inl ⟨_,rfl,trivial⟩
    · refine .inr ⟨_,[some (.d (.int y)),some (.d (.int (x.fmod y)))],by rw [beq_false_of_ne c];rfl,by simp? [iR,vB c],⟨y,x.fmod y,rfl,by rw [qi,hg],?_⟩,?_⟩
      · have:=iB x c
        exact Bt.of_le hy (by lia)
      · have:=iB x c
        simpa [qB] using this) (2 ^ 4200) _ ⟨a,b,rfl,rfl,hb⟩ (ol (m:=4000) (by simpa [qB,Bt] using hb) (by decide))
  subst he
  rw [tst] at h3
  have h4:=Prod.mk.inj (Option.some.inj h3)
  have hy0:y=0:=by simpa using h4.1
  subst hy0
  have h5:=h4.2
  subst h5
  have hs:gj (2 ^ 4200) gy iR [some (.d (.int a)),some (.d (.int b))]=some (.nx [some (.d (.int x)),some (.d (.int 0))]):=h1
  have hg':(x.natAbs:Int)=(Int.gcd a b:Int):=by rw [←hg];simp
  simp only [lV,uD,h_,l3,ay,gh,bC,dq,aO,dc,pw,rH,ud,aS,aq,mL,ae,vC,bZ,ah,aa,aW,aM,bY,pI,r8,jJ,Bd,jA,zK,mJ,r9,iD,gO,bA,be,m6,f_,gE,lA,dP,bM,sA,pH,du,ar,ag,cN,cD,aG,bc,vT,d_,cf,ja,fx,og,n_,nZ,nY,lJ,lI,lM,j2,lD,uZ,n9,qb,u7,qe,oa,qc,qd,lP,lO,j3,lQ,u_,mQ,mR,pR,pS,uJ,jT,jS,i_,n6,List.replicate, -List.map_nil, -List.map_cons, -List.nil_append, -List.cons_append, -Option.bind_some, -Option.map_some, -getElem?_pos, -List.append_nil,uV,uU,uP,uO,uR,uS,uQ,uW]
  simp? [hs,hg']
theorem vi(t b:Int)(hb:0 < b)(h:Bt 4000 b):j7 [.d (.int t),.d (.int b)]=some (.d (.tuple [.int (dj t b).1,.int (dj t b).2]),[.d (.int t),.d (.int b)]):=by
  have g0:=oh (t:=t) (b:=b) (by lia)
  have g1:(Int.gcd t b:Int)≠0:=by lia
  have g8:Bt 8000 (Int.gcd t b:Int):=(vE (t:=t) (by lia) h).mono (by decide)
  have e:dj t b=(t.fdiv (Int.gcd t b:Int),b.fdiv (Int.gcd t b:Int)):=by unfold dj;rw [if_neg (by lia)]
  rw [e]
  simp? [j7,uE,zD t b h,sI g1 g8]
theorem uI{i:Int}{n:Nat}(h1: -2147483648 < i)(h2:i < 2147483648)(hn:31≤n):Bt n i:=Bt.mono (m:=31) (by unfold Bt;lia) hn
def p4(t b:Int):Prop:=0≤t∧t≤b∧1≤b∧b≤100∧Int.gcd t b=1
theorem jz(n k:Int)(hn:0≤n):∃t b,bH [.d (.int n),.d (.int k)]=some (.d (.tuple [.int t,.int b]),[.d (.int n),.d (.int k)])∧p4 t b:=by
  have b9:Bt 8000 9:=eP (by decide) (by decide)
  have b100:Bt 8000 100:=eP (by decide) (by decide)
  have low:∀t b:Int,0 < b→0≤t→t≤b→b≤100→p4 (dj t b).1 (dj t b).2:=fun t b hb h0 h1 h2=>by
    obtain⟨r1,r2,r3,r4⟩:=m4 hb h0 h1 h2
    exact⟨r1,r2,r3,r4,qy (by lia)⟩
  by_cases c0:k=0
  · subst c0
    obtain⟨x,hx,ha⟩:=fR (xs:=[PyData.tuple [.int 1,.int 2],.tuple [.int 1,.int 3],.tuple [.int 2,.int 3],.tuple [.int 1,.int 1],.tuple [.int 0,.int 1],.tuple [.int 3,.int 4]]) (i:=n % 6) (by lia) (by simp;lia)
    obtain⟨t,b,rfl,hc⟩:∃t b,x=.tuple [.int t,.int b]∧p4 t b:=by
      simp only [List.mem_cons,List.not_mem_nil,or_false] at hx
      rcases hx with rfl | rfl | rfl | rfl | rfl | rfl<;>exact⟨_,_,rfl,by unfold p4;decide⟩
    exact⟨t,b,by simp? [bH,eL,ap,ha],hc⟩
  · by_cases c1:k=1
    · subst c1
      have hm:(n / 9) % (2+n % 9 - 1) < 2+n % 9 - 1:=Int.emod_lt_of_pos _ (by lia)
      have hm0:0≤(n / 9) % (2+n % 9 - 1):=Int.emod_nonneg _ (by lia)
      refine⟨_,_,?_,low (1+(n / 9) % (2+n % 9 - 1)) (2+n % 9) (by lia) (by lia) (by lia) (by lia)⟩
      have hpos:∀e:En,aD e (.d (.int (n / 9))) (.d (.int (2+n % 9 - 1)))=_:=fun e=>ap (by lia)
      have hl:=vi (1+(n / 9) % (2+n % 9 - 1)) (2+n % 9) (by lia) (uI (by lia) (by lia) (by decide))
      simp? [bH,eL,ap,cx,b9,hpos,hl]
    · by_cases c2:k=2
      · subst c2
        have hm:(n / 100) % (1+n % 100+1) < 1+n % 100+1:=Int.emod_lt_of_pos _ (by lia)
        have hm0:0≤(n / 100) % (1+n % 100+1):=Int.emod_nonneg _ (by lia)
        refine⟨_,_,?_,low ((n / 100) % (1+n % 100+1)) (1+n % 100) (by lia) (by lia) (by lia) (by lia)⟩
        have hpos:∀e:En,aD e (.d (.int (n / 100))) (.d (.int (1+n % 100+1)))=_:=fun e=>ap (by lia)
        have hl:=vi ((n / 100) % (1+n % 100+1)) (1+n % 100) (by lia) (uI (by lia) (by lia) (by decide))
        simp? [bH,eL,ap,cx,b100,hpos,hl]
      · refine⟨1,1,?_,by unfold p4;decide⟩
        simp? [bH,eL,c0,c1,c2]
theorem li(n k:Int):∃r,dD [.d (.int n),.d (.int k)]=some (.d (.int r),[.d (.int n),.d (.int k)])∧0≤r∧r≤1000:=by
  obtain⟨x,hx,ha⟩:=fR (xs:=[PyData.int (n % 7),.int (5+n % 2),.int (n % 1001),.int (1000 - n % 3)]) (i:=k % 4) (by lia) (by simp;lia)
  obtain⟨r,rfl,hr⟩:∃r,x=.int r∧0≤r∧r≤1000:=by
    simp only [List.mem_cons,List.not_mem_nil,or_false] at hx
    rcases hx with rfl | rfl | rfl | rfl<;>exact⟨_,rfl,by lia,by lia⟩
  exact⟨r,by simp? [dD,nS,ap,ha],hr⟩
abbrev tE(ds:List Int)(things many shape odds ws:Int)(ts:List fK)(v7 v8 v9 v10 v11 v12:Option Sv):En:=[some (.l (ds.map .int)),some (.d (.int things)),some (.d (.int many)),some (.d (.int shape)),some (.d (.int odds)),some (.d (.int ws)),some (.l (ts.map aA)),v7,v8,v9,v10,v11,v12]
inductive TR (things many shape odds ws:Int) (ts:List fK) (k:Option Sv):En→Prop
  | mk {t ds w8 w9 w10 w11 w12} (hd:dI ds) (ht:t.Ok things):TR things many shape odds ws ts k (tE ds things many shape odds ws (ts++[t]) k w8 w9 w10 w11 w12)
inductive TI (things many a b c:Int) (i:Nat):En→Prop
  | mk {ts ds w7 w8 w9 w10 w11 w12} (hd:dI ds) (hl:ts.length=i) (ht:∀t∈ts,t.Ok things):TI things many a b c i (tE ds things many a b c ts w7 w8 w9 w10 w11 w12)
theorem zG(ds:List Int)(things many shape odds ws:Int)(ts:List fK)(k:Int)(v8 v9 v10 v11 v12:Option Sv)(hd:dI ds)(h2:2≤things)(h12:things≤100)(s0:0≤shape)(s1:shape < 6)(k0:0≤k)(hl:ts.length≤1000):
    ∃e',ek (tE ds things many shape odds ws ts (some (.d (.int k))) v8 v9 v10 v11 v12)=some (.nx e')∧TR things many shape odds ws ts (some (.d (.int k))) e':=by
  obtain⟨n,d1,tn, -, -,hd1⟩:=cu hd
  obtain⟨m,d2,tm,m0, -,hd2⟩:=cu hd1
  obtain⟨x,hx,ha⟩:=fR (xs:=[PyData.int (n % things),.int 0,.int (k % things),.int (n % things),.int (n % 2),.int (n % things)]) (i:=shape) s0 (by simp;lia)
  have tp:0 < things:=Int.lt_of_lt_of_le (by decide) h2
  have tq:0 < things - 1:=Int.sub_pos_of_lt (Int.lt_of_lt_of_le (by decide) h2)
  have nt:0≤n % things∧n % things < things:=⟨i7 tp,i8 tp⟩
  have kt:0≤k % things∧k % things < things:=⟨i7 tp,i8 tp⟩
  obtain⟨one,rfl,o0,o1⟩:∃r,x=.int r∧0≤r∧r < things:=by
    simp only [List.mem_cons,List.not_mem_nil,or_false] at hx
    rcases hx with rfl | rfl | rfl | rfl | rfl | rfl<;>exact⟨_,rfl,by lia,by lia⟩
  have r0:0≤(n / 12) % (things - 1):=i7 tq
  have r1:(n / 12) % (things - 1) < things - 1:=i8 tq
  have q0:0≤(one+1+(n / 12) % (things - 1)) % things:=i7 tp
  have q1:(one+1+(n / 12) % (things - 1)) % things < things:=i8 tp
  have qn:(one+1+(n / 12) % (things - 1)) % things≠one:=fun z=>by
    by_cases c:one+1+(n / 12) % (things - 1) < things
    · rw [Int.emod_eq_of_lt (by lia) c] at z;lia
    · have e:(one+1+(n / 12) % (things - 1)) % things=(one+1+(n / 12) % (things - 1) - things) % things:=by rw [Int.sub_emod_right]
      rw [e,Int.emod_eq_of_lt (by lia) (by lia)] at z;lia
  obtain⟨t,b,c1,c2,c3,c4,c5,c6⟩:=jz m odds m0
  obtain⟨w,w1,w2,w3⟩:=li (m / 10007) ws
  have b12:Bt 8000 12:=eP (by decide) (by decide)
  have b107:Bt 8000 10007:=eP (by decide) (by decide)
  have g1:∀(e:En) (i:Int),aD e (.d (.int i)) (.d (.int things))=some (.d (.int (i % things))):=fun e i=>ap tp
  have g2:∀(e:En) (i:Int),aD e (.d (.int i)) (.d (.int (things - 1)))=some (.d (.int (i % (things - 1)))):=fun e i=>ap tq
  have hlen:ts.length < 1000000:=by lia
  by_cases c:shape=4
  · subst c
    refine⟨tE d2 things many 4 odds ws (ts++[⟨0,1,t,b,w⟩]) (some (.d (.int k))) (some (.d (.int n))) (some (.d (.int 0))) (some (.d (.int 1))) (some (.d (.int m))) (some (.d (.tuple [.int 0,.int 1]))),?_,.mk hd2 ⟨by show(0:Int)≤0;decide,by show(0:Int) < 1;decide,by show(1:Int) < things;lia,c2,c3,c4,c5,w2,w3,c6⟩⟩
    simp? [tE,ek,tn,tm,ap,g1,g2,cx,b12,b107,ha,c1,w1,eC,aA,hlen]
    decide
  · refine⟨tE d2 things many shape odds ws (ts++[⟨min one ((one+1+(n / 12) % (things - 1)) % things),max one ((one+1+(n / 12) % (things - 1)) % things),t,b,w⟩]) (some (.d (.int k))) (some (.d (.int n))) (some (.d (.int one))) (some (.d (.int ((one+1+(n / 12) % (things - 1)) % things)))) (some (.d (.int m))) (some (.d (.tuple [.int (min one ((one+1+(n / 12) % (things - 1)) % things)),.int (max one ((one+1+(n / 12) % (things - 1)) % things))]))),?_,.mk hd2 ⟨by show 0≤min _ _;lia,by show min _ _ < max _ _;lia,by show max _ _ < _;lia,c2,c3,c4,c5,w2,w3,c6⟩⟩
    simp? [tE,ek,tn,tm,ap,g1,g2,cx,b12,b107,ha,c1,w1,eC,aA,hlen,c]
theorem nG(ds:List Int)(things many:Int)(hd:dI ds)(h2:2≤things)(h12:things≤100)(m0:0≤many)(m1:many≤1000):∃(ts:List fK) (ds':List Int),eY [.l (ds.map .int),.d (.int things),.d (.int many)]=some (.d (.tuple (ts.map aA)),[.l (ds'.map .int),.d (.int things),.d (.int many)])∧dI ds'∧(ts.length:Int)=many∧∀t∈ts,t.Ok things:=by
  obtain⟨n0,d1,t0, -, -,hd1⟩:=cu hd
  obtain⟨n1,d2,t1, -, -,hd2⟩:=cu hd1
  obtain⟨n2,d3,t2, -, -,hd3⟩:=cu hd2
  obtain⟨e',h1,hI⟩:=bo (own:=[]) (g:=ag 7) (f:=ek) (TI things many (n0 % 6) (n1 % 4) (n2 % 4)) (aL 0 many.toNat) 0 (tE d3 things many (n0 % 6) (n1 % 4) (n2 % 4) [] none none none none none none) (fun i x e hx hI=>by
    obtain⟨rfl,hi⟩:=bR hx
    obtain⟨hd',hl,ht⟩:=hI
    rename_i ts ds' w7 w8 w9 w10 w11 w12
    obtain⟨e9,s1,⟨s2,s3⟩⟩:=zG ds' things many (n0 % 6) (n1 % 4) (n2 % 4) ts (0+(i:Int)) w8 w9 w10 w11 w12 hd' h2 h12 (i7 (by decide)) (i8 (by decide)) (by lia) (by lia)
    exact⟨_,_,rfl,s1,aY,.mk s2 (by simp;lia) fun z hz=>by
      rcases List.mem_append.mp hz with hz | hz
      · exact ht z hz
      · simp at hz;subst hz;exact s3⟩) (.mk hd3 rfl fun t ht=>by cases ht)
  obtain⟨hd',hl,ht⟩:=hI
  rename_i ts ds' w7 w8 w9 w10 w11 w12
  refine⟨ts,ds',?_,hd',by rw [hl,a_];lia,ht⟩
  have hf:∀W,bS W jf (ag 7) ek (tE d3 things many (n0 % 6) (n1 % 4) (n2 % 4) [] none none none none none none)=some (.nx (tE ds' things many (n0 % 6) (n1 % 4) (n2 % 4) ts w7 w8 w9 w10 w11 w12)):=fun W=>by
    rw [bX (show jf _=some (aL 0 many.toNat,[],tE d3 things many (n0 % 6) (n1 % 4) (n2 % 4) [] none none none none none none) from bg (n:=many) (by simp? [tE]) (by lia) (by lia))]
    exact h1
  unfold tE at hf
  simp only [List.map_nil] at hf
  simp? [eY,pU,t0,t1,t2,ap,hf]
abbrev wE(ds:List Int)(most tn things many:Int)(ts:List fK)(way:Int)(ps:List Int)(v8 v9:Option Sv):En:=[some (.l (ds.map .int)),some (.d (.int most)),some (.d (.int tn)),some (.d (.int things)),some (.d (.int many)),some (.d (.tuple (ts.map aA))),some (.d (.int way)),some (.l (ps.map .int)),v8,v9]
inductive WI (most tn things many:Int) (ts:List fK) (way:Int) (i:Nat):En→Prop
  | mk {ps ds w8} (hd:dI ds) (hpl:ps.length=i) (hps:∀p∈ps,0≤p∧p≤20):WI most tn things many ts way i (wE ds most tn things many ts way ps w8 none)
theorem zH(ds:List Int)(most tn:Int)(hd:dI ds)(m0:0≤most)(m1:most≤12)(k0:0≤tn)(k1:tn≤16):∃(W:bE) (ds':List Int),lX [.l (ds.map .int),.d (.int most),.d (.int tn)]=some (.d (a9 W),[.l (ds'.map .int),.d (.int most),.d (.int tn)])∧dI ds'∧W.Ok∧W.things≤most∧(W.ties.length:Int)≤tn:=by
  obtain⟨n0,d1,t0, -, -,hd1⟩:=cu hd
  obtain⟨n1,d2,t1, -, -,hd2⟩:=cu hd1
  have mp:0 < most+1:=Int.lt_add_one_of_le m0
  have kp:0 < tn+1:=Int.lt_add_one_of_le k0
  have g0:∀(e:En),aD e (.d (.int n0)) (.d (.int (most+1)))=some (.d (.int (n0 % (most+1)))):=fun e=>ap mp
  have g1':∀(e:En),aD e (.d (.int n1)) (.d (.int (tn+1)))=some (.d (.int (n1 % (tn+1)))):=fun e=>ap kp
  have th0:0≤n0 % (most+1):=i7 mp
  have th1:n0 % (most+1) < most+1:=i8 mp
  have ti0:0≤n1 % (tn+1):=i7 kp
  have ti1:n1 % (tn+1) < tn+1:=i8 kp
  clear mp kp
  generalize n0 % (most+1)=things at th0 th1 g0
  generalize n1 % (tn+1)=tm at ti0 ti1 g1'
  obtain⟨many,hmany,mm,m00,m01⟩:∃many:Int,many=tm*(if decide (1 < things)=true then 1 else 0)∧(1 < things∨many=0)∧0≤many∧many≤tn:=by
    by_cases c:1 < things
    · exact⟨tm,by simp [c],.inl c,ti0,by lia⟩
    · exact⟨0,by simp [c],.inr rfl,by lia,by lia⟩
  have gm:∀e:En,fY e (.d (.int tm)) (.d (.int (if decide (1 < things)=true then 1 else 0)))=some (.d (.int many)):=fun e=>by
    rw [jb (kS (by split<;>decide) (by split<;>decide)),hmany]
  have gi:∀e:En,g1 oR e [.d (.bool (decide (1 < things)))]=some (.d (.int (if decide (1 < things)=true then 1 else 0))):=fun e=>rfl
  generalize (if decide (1 < things)=true then 1 else 0:Int)=one at gm gi
  obtain⟨ts,d3,t3,hd3,hlen,hts⟩:=nG d2 (max 2 things) many hd2 (by lia) (by lia) m00 (by lia)
  obtain⟨n4,d4,t4, -, -,hd4⟩:=cu hd3
  obtain⟨e',h1,hI⟩:=bo (own:=[]) (g:=ag 8) (f:=iS) (WI most tn things many ts (n4 % 3)) (aL 0 things.toNat) 0 (wE d4 most tn things many ts (n4 % 3) [] none none) (fun i x e hx hI=>by
    obtain⟨rfl,hi⟩:=bR hx
    obtain⟨hd5,hpl,hps⟩:=hI
    rename_i ps d5 w8
    obtain⟨p1,d6,t6, -, -,hd6⟩:=cu hd5
    obtain⟨p2,d7,t7, -, -,hd7⟩:=cu hd6
    obtain⟨z,hz,ha⟩:=fR (xs:=[PyData.int 20,.int (1+p1 % 3),.int (p2 % 21)]) (i:=n4 % 3) (i7 (by decide)) (i8 (k:=3) (by decide))
    obtain⟨p,rfl,hp⟩:∃r,z=.int r∧0≤r∧r≤20:=by
      simp only [List.mem_cons,List.not_mem_nil,or_false] at hz
      rcases hz with rfl | rfl | rfl<;>exact⟨_,rfl,by lia,by lia⟩
    refine⟨wE d5 most tn things many ts (n4 % 3) ps (some (.d (.int (0+(i:Int))))) none,wE d7 most tn things many ts (n4 % 3) (ps++[p]) (some (.d (.int (0+(i:Int))))) none,rfl,?_,aY,.mk hd7 (by simp;lia) fun q hq=>by
      rcases List.mem_append.mp hq with hq | hq
      · exact hps q hq
      · simp at hq;subst hq;exact hp⟩
    have hlen:ps.length < 1000000:=by lia
    simp? [wE,iS,t6,t7,ap,ha,hlen]) (.mk hd4 rfl fun p hp=>by cases hp)
  obtain⟨hd5,hpl,hps⟩:=hI
  rename_i ps d5 w8
  have hf:∀W,bS W kO (ag 8) iS (wE d4 most tn things many ts (n4 % 3) [] none none)=some (.nx (wE d5 most tn things many ts (n4 % 3) ps w8 none)):=fun W=>by
    rw [bX (show kO _=some (aL 0 things.toNat,[],wE d4 most tn things many ts (n4 % 3) [] none none) from bg (n:=things) (by simp? [wE]) (by lia) (by lia))]
    exact h1
  obtain⟨p1,d6,t6, -, -,hd6⟩:=cu hd5
  obtain⟨p2,d7,t7, -, -,hd7⟩:=cu hd6
  obtain⟨p3,d8,t8, -, -,hd8⟩:=cu hd7
  have xp:0 < max 1 many:=Int.lt_of_lt_of_le Int.zero_lt_one (Int.le_max_left _ _)
  have gx:∀(e:En),aD e (.d (.int p1)) (.d (.int (max 1 many)))=some (.d (.int (p1 % max 1 many))):=fun e=>ap xp
  have x0:0≤p1 % max 1 many:=i7 xp
  have x1:p1 % max 1 many < max 1 many:=i8 xp
  obtain⟨z,hz,ha⟩:=fR (xs:=[PyData.int 40,.int (1+p1 % max 1 many),.int (p2 % 41)]) (i:=p3 % 3) (i7 (by decide)) (i8 (k:=3) (by decide))
  obtain⟨asks,rfl,hasks⟩:∃r,z=.int r∧0≤r∧r≤40:=by
    simp only [List.mem_cons,List.not_mem_nil,or_false] at hz
    rcases hz with rfl | rfl | rfl<;>exact⟨_,rfl,by lia,by lia⟩
  rw [a_] at hpl
  refine⟨⟨things,ts,ps,asks⟩,d8,?_,hd8,⟨th0,by show things≤12;lia,fun t ht=>?_,by show ts.length≤16;lia,by show(ps.length:Int)=things;lia,hps,hasks.1,hasks.2⟩,by show things≤most;lia,by show(ts.length:Int)≤tn;lia⟩
  · unfold wE at hf
    simp only [List.map_nil] at hf
    simp? [lX,uG,t0,t1,g0,g1',gm,gi,t3,t4,ap,hf,t6,t7,t8,gx,ha,a9]
  · rcases mm with c | c
    · have:=hts t ht
      rw [show max 2 things=things by lia] at this
      exact this
    · have:ts=[]:=List.length_eq_zero_iff.mp (by lia)
      subst this;cases ht
def oX:PyData→Bool
  | .int _=>true
  | .bool _=>true
  | _=>false
def qo:PyData→Bool
  | .bool _=>true
  | _=>false
def sM:PyData→Bool
  | .tuple _=>true
  | _=>false
theorem uY{e:En}{d:PyData}:iL "int" e (.d d)=some (.d (.bool (oX d))):=by cases d<;>rfl
theorem yk{e:En}{d:PyData}:iL "bool" e (.d d)=some (.d (.bool (qo d))):=by cases d<;>rfl
theorem qh{e:En}{d:PyData}:iL "tuple" e (.d d)=some (.d (.bool (sM d))):=by cases d<;>rfl
theorem oi{d:PyData}(h:sM d=true):∃ds,d=.tuple ds:=by cases d<;>first | exact⟨_,rfl⟩ | cases h
theorem vG(d:PyData):yu d=(oX d&& !qo d):=by cases d<;>rfl
theorem xA(d:PyData):c9 [.d d]=some (.d (.bool (yu d)),[.d d]):=by
  rw [vG]
  have g1:=fun e=>uY (e:=e) (d:=d)
  have g2:=fun e=>yk (e:=e) (d:=d)
  generalize oX d=a at*
  generalize qo d=b at*
  cases a<;>simp? [c9,iz,g1,g2]
def vV:List PyData:=[.none,.bool true,.bool false,.int 0,.int 1,.int (-1),.int 5,.str "",.str "a",.str "0",.tuple [],.tuple [.int 0],.tuple [.int 0,.int 1],.tuple [.tuple [],.tuple []],.list [],.list [.int 0],.dict [],.dict [(.int 0,.int 1)],.tuple [.none],.tuple [.tuple []],.list [.tuple []],.tuple [.bool true,.bool false],.tuple [.tuple [.int 0,.int 1],.tuple [.int 1,.int 2]],.tuple [.tuple [.tuple [],.tuple []]],.tuple [.str "a",.int 1],.tuple [.tuple [.int 0,.int 1]],.int (10 ^ 30)]
theorem zF(n:Int):∃d∈vV,lW [.d (.int n)]=some (.d d,[.d (.int n)]):=by
  have m0:0≤n % 27:=Int.emod_nonneg _ (by decide)
  have m1:n % 27 < 27:=Int.emod_lt_of_pos _ (by decide)
  obtain⟨d,hd,ha⟩:=fR (xs:=vV) m0 (by show n % 27 < 27;exact m1)
  have gm:∀e,aD e (.d (.int n)) (.d (.int 27))=some (.d (.int (n % 27))):=fun e=>ap (by decide)
  have gp:∀e,kM e (.d (.int 10)) (.d (.int 30))=some (.d (.int (10 ^ 30))):=fun e=>eT (i:=10) (j:=30) (by decide)
  refine⟨d,hd,?_⟩
  generalize n % 27=k at*
  generalize hb:(10 ^ 30:Int)=big at*
  rw [show vV=[.none,.bool true,.bool false,.int 0,.int 1,.int (-1),.int 5,.str "",.str "a",.str "0",.tuple [],.tuple [.int 0],.tuple [.int 0,.int 1],.tuple [.tuple [],.tuple []],.list [],.list [.int 0],.dict [],.dict [(.int 0,.int 1)],.tuple [.none],.tuple [.tuple []],.list [.tuple []],.tuple [.bool true,.bool false],.tuple [.tuple [.int 0,.int 1],.tuple [.int 1,.int 2]],.tuple [.tuple [.tuple [],.tuple []]],.tuple [.str "a",.int 1],.tuple [.tuple [.int 0,.int 1]],.int big] by rw [←hb];rfl] at ha
  have gc:∀(e:En) (xs ys:List PyData),e[1]?=some (some (.l xs))→xs.length+ys.length≤1000000→aU e (.s 1) (.l ys)=some (.l (xs++ys)):=fun e xs ys he h=>kJ he h
  simp? [lW,uF,gm,gp,gc,ha,jB]
theorem xC(a b:Bool):jh [.d (.bool a),.d (.bool b)]=some (.d (.bool (a==b)),[.d (.bool a),.d (.bool b)]):=by
  have gi:∀(e:En) (x y:Bool),yn e (.d (.bool x)) (.d (.bool y))=some (.d (.bool (x==y))):=fun e x y=>rfl
  cases a<;>cases b<;>simp? [jh,pT,gi]
theorem pD(d:PyData)(lo hi:Int):aQ [.d d,.d (.int lo),.d (.int hi)]=some (.d (.bool (bN lo hi d)),[.d d,.d (.int lo),.d (.int hi)]):=by
  have t:=xA d
  cases d with
  | int i=>
    by_cases c:lo≤i
    · simp? [aQ,bB,t,yu,bN,fg,c]
    · simp? [aQ,bB,t,yu,bN,fg,c]
  | _=>simp? [aQ,bB,t,yu,bN,fg]
theorem pE(d:PyData)(n:Int):cA [.d d,.d (.int n)]=some (.d (.bool (nB n d)),[.d d,.d (.int n)]):=by
  have g:=fun e=>qh (e:=e) (d:=d)
  cases c:sM d with
  | false=>
    rw [c] at g
    have e:nB n d=false:=by cases d<;>first | rfl | cases c
    rw [e]
    simp? [cA,eO,g]
  | true=>
    rw [c] at g
    obtain⟨ds,rfl⟩:=oi c
    simp? [cA,eO,g,nB]
def c_(ds:List PyData)(i:Int):Int:=match ds[i.toNat]? with
  | some (.int n)=>n
  | _=>0
def kb(W:bE):PyData→Bool
  | .tuple ds=>((ds.length:Int)==W.things)&&(ds.all (bN 0 1)&&W.ties.all fun t=> !(c_ ds t.one==c_ ds t.other))
  | _=>false
def uT:PyData→En
  | .tuple [a,b,c,d]=>[some (.d a),some (.d b),some (.d c),some (.d d)]
  | _=>[]
theorem kT{ns:List Int}{i:Int}(h0:0≤i)(h1:i < (ns.length:Int)):atI (ns.map PyData.int) i=some (.int (c_ (ns.map .int) i)):=by
  rw [eh h0 h1]
  unfold c_
  have:i.toNat < ns.length:=by lia
  rw [List.getElem?_map,List.getElem?_eq_getElem this,List.getD_eq_getElem?_getD,List.getElem?_eq_getElem this]
  rfl
theorem zX{W:bE}(e:En):eg e (.d (a9 W)) (.d (.int 0))=some (.d (.int W.things)):=by rw [eQ,n9,mQ];rfl
theorem Ao{W:bE}(e:En):eg e (.d (a9 W)) (.d (.int 1))=some (.d (.tuple (W.ties.map aA))):=by rw [eQ,n9,mR];rfl
theorem iW{W:bE}{x:PyData}(h:x∈W.ties.map aA):∃t∈W.ties,x=aA t:=by
  obtain⟨t,ht,rfl⟩:=List.mem_map.mp h
  exact⟨t,ht,rfl⟩
def qT(ds:List PyData):PyData→Bool
  | .tuple [.int a,.int b,_,_]=>c_ ds a==c_ ds b
  | _=>false
theorem mF{W:bE}{ds:List PyData}:(W.ties.map aA).all (fun x=> !qT ds x)=W.ties.all fun t=> !(c_ ds t.one==c_ ds t.other):=by
  rw [List.all_map];rfl
theorem lh{W:bE}(ok:W.Ok)(d:PyData):bf [.d (a9 W),.d d]=some (.d (.bool (kb W d)),[.d (a9 W),.d d]):=by
  have tr:=pE d W.things
  have g0:=zX (W:=W)
  cases c:nB W.things d with
  | false=>
    rw [c] at tr
    have e:kb W d=false:=by
      unfold kb
      split
      · simp only [nB] at c;rw [c];rfl
      · rfl
    rw [e]
    simp? [bf,dB,g0,tr]
  | true=>
    rw [c] at tr
    cases d with
    | tuple ds=>
      have hl:(ds.length:Int)=W.things:=by simpa [nB] using c
      have t12:=ok.t1
      obtain⟨t',ht,hf⟩:=cP (cs:=[]) (g:=ag 0) (ft:=b7) (fe:=cH) (b:=fun _=>true) (y:=fun x=>.bool (bN 0 1 x)) (u:=fun x=>[some (.d x)]) 1 ds [none] [] rfl (fun x hx t ht=>by
        rcases t with _ | ⟨t1,_ | ⟨t2,r⟩⟩
        · simp at ht
        · rfl
        · simp at ht) (fun x hx=>rfl) (fun x _=>rfl) (fun x hx _=>by
        have tn:=pD x 0 1
        simp? [cH,tn]) (by simp;lia)
      have hv:=dX (cp:=[]) (nT:=1) (fi:=eW) (g:=ag 0) (ft:=b7) (fe:=cH) (e:=[some (.d (a9 W)),some (.d (.tuple ds))]) (cs:=[]) (t:=[none]) (t':=t') rfl rfl rfl hf
      rw [List.nil_append,show List.filter (fun _=>true) ds=ds from List.filter_eq_self.mpr fun _ _=>rfl] at hv
      have ga:=fun e=>lE (e:=e) (bN 0 1) ds
      cases c2:ds.all (bN 0 1) with
      | false=>
        rw [c2] at ga
        have e:kb W (.tuple ds)=false:=by simp only [kb,c2,Bool.false_and,Bool.and_false]
        rw [e]
        generalize (ds.map fun d=>PyData.bool (bN 0 1 d))=M at*
        simp? [bf,dB,g0,tr,hv,ga]
      | true=>
        rw [c2] at ga
        obtain⟨ns,rfl,hn⟩:=f9 c2
        have hln:(ns.length:Int)=W.things:=by simpa using hl
        have g1':=Ao (W:=W)
        obtain⟨t2,ht2,hf2⟩:=cP (cs:=[some (.d (.tuple (ns.map .int)))]) (g:=du (ar (ag 1) (ar (ag 2) (ar (ag 3) (ar (ag 4) cN))))) (ft:=b7) (fe:=cG) (b:=fun _=>true) (y:=fun x=>.bool (!qT (ns.map .int) x)) (u:=uT) 4 (W.ties.map aA) [none,none,none,none] [] rfl (fun x hx t ht=>by
          obtain⟨ti,hti,rfl⟩:=iW hx
          rcases t with _ | ⟨a1,_ | ⟨a2,_ | ⟨a3,_ | ⟨a4,_ | ⟨a5,r⟩⟩⟩⟩⟩
          · simp at ht
          · simp at ht
          · simp at ht
          · simp at ht
          · unfold aA
            generalize ns.map PyData.int=NN
            simp? [uT]
          · simp at ht) (fun x hx=>by
          obtain⟨ti,hti,rfl⟩:=iW hx
          rfl) (fun x _=>rfl) (fun x hx _=>by
          obtain⟨ti,hti,rfl⟩:=iW hx
          have o:=ok.ties ti hti
          have a1:=kT (ns:=ns) (i:=ti.one) o.o0 (by have:=o.o1;have:=o.o2;lia)
          have a2:=kT (ns:=ns) (i:=ti.other) (by have:=o.o0;have:=o.o1;lia) (by have:=o.o2;lia)
          rw [show qT (ns.map .int) (aA ti)=(c_ (ns.map .int) ti.one==c_ (ns.map .int) ti.other) from rfl]
          rw [show uT (aA ti)=[some (.d (.int ti.one)),some (.d (.int ti.other)),some (.d (.tuple [.int ti.top,.int ti.bot])),some (.d (.int ti.worth))] from rfl]
          generalize c_ (ns.map PyData.int) ti.one=x1 at*
          generalize c_ (ns.map PyData.int) ti.other=x2 at*
          generalize ns.map PyData.int=NN at*
          simp? [cG,a1,a2]) (by have:=ok.len;simp;lia)
        have hv2:=dX (cp:=[(1,"thing")]) (nT:=4) (fi:=dQ) (g:=du (ar (ag 1) (ar (ag 2) (ar (ag 3) (ar (ag 4) cN))))) (ft:=b7) (fe:=cG) (e:=[some (.d (a9 W)),some (.d (.tuple (ns.map .int)))]) (e1:=[some (.d (a9 W)),some (.d (.tuple (ns.map .int)))]) (cs:=[some (.d (.tuple (ns.map .int)))]) (t:=[none,none,none,none]) (t':=t2) (show dQ _=_ from mY (by simp? [g1'])) rfl rfl hf2
        rw [List.nil_append,show List.filter (fun _=>true) (W.ties.map aA)=W.ties.map aA from List.filter_eq_self.mpr fun _ _=>rfl] at hv2
        have ga2:=fun e=>lE (e:=e) (fun x=> !qT (ns.map .int) x) (W.ties.map aA)
        rw [mF] at ga2
        have e:kb W (.tuple (ns.map .int))=W.ties.all fun t=> !(c_ (ns.map .int) t.one==c_ (ns.map .int) t.other):=by simp only [kb,c2,hl,beq_self_eq_true,Bool.true_and]
        rw [e]
        generalize (W.ties.all fun t=> !(c_ (ns.map .int) t.one==c_ (ns.map .int) t.other))=bb at*
        generalize ((W.ties.map aA).map fun x=>PyData.bool (!qT (ns.map .int) x))=M2 at*
        generalize ((ns.map PyData.int).map fun d=>PyData.bool (bN 0 1 d))=M at*
        generalize ns.map PyData.int=NN at*
        simp? [bf,dB,g0,tr,hv,ga,hv2,ga2]
    | _=>simp [nB] at c
theorem mC{W:bE}(ok:W.Ok)(d:PyData):bz [.d (a9 W),.d d]=some (.d (.bool (kb W d)),[.d (a9 W),.d d]):=by
  have g0:=zX (W:=W)
  have gt:=fun e=>qh (e:=e) (d:=d)
  cases c0:sM d with
  | false=>
    rw [c0] at gt
    have e:kb W d=false:=by cases d<;>first | rfl | cases c0
    rw [e]
    simp? [bz,cY,gt]
  | true=>
    rw [c0] at gt
    obtain⟨ds,rfl⟩:=oi c0
    by_cases hl:(ds.length:Int)=W.things
    case neg=>
      have e:kb W (.tuple ds)=false:=by
        have:((ds.length:Int)==W.things)=false:=by simpa using hl
        simp only [kb,this,Bool.false_and]
      rw [e]
      have gn:∀e:En,cg true e (.d (.int ds.length)) (.d (.int W.things))=some (.d (.bool true)):=fun e=>by rw [fx];simp [hl]
      simp? [bz,cY,gt,g0,gn]
    case pos=>
      have t12:=ok.t1
      have gn:∀e:En,cg true e (.d (.int ds.length)) (.d (.int W.things))=some (.d (.bool false)):=fun e=>by rw [fx];simp [hl]
      obtain⟨t',ht,hf⟩:=cP (cs:=[]) (g:=ag 0) (ft:=bK) (fe:=cT) (b:=fun x=> !bN 0 1 x) (y:=fun x=>x) (u:=fun x=>[some (.d x)]) 1 ds [none] [] rfl (fun x hx t ht=>by
        rcases t with _ | ⟨t1,_ | ⟨t2,r⟩⟩
        · simp at ht
        · rfl
        · simp at ht) (fun x hx=>rfl) (fun x hx=>by
        have q1:=fun e=>uY (e:=e) (d:=x)
        have q2:=fun e=>yk (e:=e) (d:=x)
        cases x with
        | int i=>
          rw [show oX (.int i)=true from rfl] at q1
          rw [show qo (.int i)=false from rfl] at q2
          have e:(!(bN 0 1 (.int i)))= !((0:Int)==i || (1:Int)==i):=by
            rw [show bN 0 1 (.int i)=(decide (0≤i)&&decide (i≤1)) from rfl]
            congr 1
            rw [Bool.eq_iff_iff,Bool.and_eq_true,Bool.or_eq_true,beq_iff_eq,beq_iff_eq,decide_eq_true_eq,decide_eq_true_eq]
            lia
          rw [e]
          simp? [bK,q1,q2]
        | bool b=>
          rw [show oX (.bool b)=true from rfl] at q1
          rw [show qo (.bool b)=true from rfl] at q2
          simp? [bK,q1,q2,bN]
        | _=>
          simp only [oX] at q1
          simp? [bK,q1,bN]) (fun x hx _=>by
        simp? [cT]) (by simp;lia)
      have hv:=dX (cp:=[]) (nT:=1) (fi:=fL) (g:=ag 0) (ft:=bK) (fe:=cT) (e:=[some (.d (a9 W)),some (.d (.tuple ds))]) (cs:=[]) (t:=[none]) (t':=t') rfl rfl rfl hf
      rw [List.nil_append,List.map_id'] at hv
      have hx:(ds.filter fun x=> !bN 0 1 x).isEmpty=ds.all (bN 0 1):=by
        rw [Bool.eq_iff_iff]
        simp [List.isEmpty_iff,List.filter_eq_nil_iff,List.all_eq_true]
      have gz:=fun e=>qa (e:=e) (xs:=ds.filter fun x=> !bN 0 1 x) (neg:=true)
      simp only [if_true,hx] at gz
      cases c2:ds.all (bN 0 1) with
      | false=>
        rw [c2] at gz
        have e:kb W (.tuple ds)=false:=by simp only [kb,c2,Bool.false_and,Bool.and_false]
        rw [e]
        generalize (ds.filter fun x=> !bN 0 1 x)=M at*
        simp? [bz,cY,gt,g0,gn,hv,gz]
      | true=>
        rw [c2] at gz
        obtain⟨ns,rfl,hn⟩:=f9 c2
        have hln:(ns.length:Int)=W.things:=by simpa using hl
        have g1':=Ao (W:=W)
        obtain⟨t2,ht2,hf2⟩:=cP (cs:=[some (.d (.tuple (ns.map .int)))]) (g:=ag 1) (ft:=cR) (fe:=cS) (b:=fun x=>qT (ns.map .int) x) (y:=fun x=>x) (u:=fun x=>[some (.d x)]) 1 (W.ties.map aA) [none] [] rfl (fun x hx t ht=>by
          rcases t with _ | ⟨t1,_ | ⟨t2,r⟩⟩
          · simp at ht
          · rfl
          · simp at ht) (fun x hx=>rfl) (fun x hx=>by
          obtain⟨ti,hti,rfl⟩:=iW hx
          have o:=ok.ties ti hti
          have a1:=kT (ns:=ns) (i:=ti.one) o.o0 (by have:=o.o1;have:=o.o2;lia)
          have a2:=kT (ns:=ns) (i:=ti.other) (by have:=o.o0;have:=o.o1;lia) (by have:=o.o2;lia)
          rw [show qT (ns.map .int) (aA ti)=(c_ (ns.map .int) ti.one==c_ (ns.map .int) ti.other) from rfl]
          unfold aA
          generalize c_ (ns.map PyData.int) ti.one=x1 at*
          generalize c_ (ns.map PyData.int) ti.other=x2 at*
          generalize ns.map PyData.int=NN at*
          simp? [cR,a1,a2]) (fun x hx _=>by
          generalize ns.map PyData.int=NN at*
          simp? [cS]) (by have:=ok.len;simp;lia)
        have hv2:=dX (cp:=[(1,"_law_thing")]) (nT:=1) (fi:=ec) (g:=ag 1) (ft:=cR) (fe:=cS) (e:=[some (.d (a9 W)),some (.d (.tuple (ns.map .int)))]) (e1:=[some (.d (a9 W)),some (.d (.tuple (ns.map .int)))]) (cs:=[some (.d (.tuple (ns.map .int)))]) (t:=[none]) (t':=t2) (show ec _=_ from mY (by simp? [g1'])) rfl rfl hf2
        rw [List.nil_append,List.map_id'] at hv2
        have hx2:((W.ties.map aA).filter fun x=>qT (ns.map .int) x).isEmpty=W.ties.all fun t=> !(c_ (ns.map .int) t.one==c_ (ns.map .int) t.other):=by
          rw [←mF,Bool.eq_iff_iff]
          simp [List.isEmpty_iff,List.filter_eq_nil_iff,List.all_eq_true]
        have gz2:=fun e=>qa (e:=e) (xs:=(W.ties.map aA).filter fun x=>qT (ns.map .int) x) (neg:=false)
        simp only [Bool.false_eq_true,if_false,hx2] at gz2
        have e:kb W (.tuple (ns.map .int))=W.ties.all fun t=> !(c_ (ns.map .int) t.one==c_ (ns.map .int) t.other):=by simp only [kb,c2,hl,beq_self_eq_true,Bool.true_and]
        rw [e]
        generalize (W.ties.all fun t=> !(c_ (ns.map .int) t.one==c_ (ns.map .int) t.other))=bb at*
        generalize ((W.ties.map aA).filter fun x=>qT (ns.map .int) x)=M2 at*
        generalize ((ns.map PyData.int).filter fun x=> !bN 0 1 x)=M at*
        generalize ns.map PyData.int=NN at*
        simp? [bz,cY,gt,g0,gn,hv,gz,hv2,gz2]
abbrev xE(ds:List Int)(things many cut odds ws:Int)(ts:List fK)(v7 v8 v9 v10:Option Sv):En:=[some (.l (ds.map .int)),some (.d (.int things)),some (.d (.int many)),some (.d (.int cut)),some (.d (.int odds)),some (.d (.int ws)),some (.l (ts.map aA)),v7,v8,v9,v10]
inductive XI (things many cut a b:Int) (i:Nat):En→Prop
  | mk {ts ds w7 w8 w9 w10} (hd:dI ds) (hl:ts.length=i) (ht:∀t∈ts,t.Ok things):XI things many cut a b i (xE ds things many cut a b ts w7 w8 w9 w10)
theorem rS(ds:List Int)(things many:Int)(hd:dI ds)(h2:2≤things)(h12:things≤100)(m0:0≤many)(m1:many≤1000):∃(ts:List fK) (ds':List Int),eX [.l (ds.map .int),.d (.int things),.d (.int many)]=some (.d (.tuple (ts.map aA)),[.l (ds'.map .int),.d (.int things),.d (.int many)])∧dI ds'∧(ts.length:Int)=many∧∀t∈ts,t.Ok things:=by
  obtain⟨n0,d1,t0, -, -,hd1⟩:=cu hd
  obtain⟨n1,d2,t1, -, -,hd2⟩:=cu hd1
  obtain⟨n2,d3,t2, -, -,hd3⟩:=cu hd2
  have tq:0 < things - 1:=Int.sub_pos_of_lt (Int.lt_of_lt_of_le (by decide) h2)
  have g0:∀e:En,aD e (.d (.int n0)) (.d (.int (things - 1)))=some (.d (.int (n0 % (things - 1)))):=fun e=>ap tq
  have c0:1≤1+n0 % (things - 1):=by have:=i7 (n:=n0) tq;lia
  have c1:1+n0 % (things - 1) < things:=by have:=i8 (n:=n0) tq;lia
  generalize n0 % (things - 1)=nc at*
  obtain⟨cut,hcut⟩:∃cut,cut=1+nc:=⟨_,rfl⟩
  rw [←hcut] at c0 c1
  have gcut:∀e:En,aU e (.d (.int 1)) (.d (.int nc))=some (.d (.int cut)):=fun e=>by rw [cf,hcut]
  obtain⟨e',h1,hI⟩:=bo (own:=[]) (g:=ag 7) (f:=eA) (XI things many cut (n1 % 4) (n2 % 4)) (aL 0 many.toNat) 0 (xE d3 things many cut (n1 % 4) (n2 % 4) [] none none none none) (fun i x e hx hI=>by
    obtain⟨rfl,hi⟩:=bR hx
    obtain⟨hd',hl,ht⟩:=hI
    rename_i ts ds' w7 w8 w9 w10
    obtain⟨n,e1,tn,n0, -,hd1⟩:=cu hd'
    obtain⟨m,e2,tm,m0, -,hd2⟩:=cu hd1
    have cp:0 < cut:=by lia
    have dp:0 < things - cut:=by lia
    have g1:∀e:En,aD e (.d (.int n)) (.d (.int cut))=some (.d (.int (n % cut))):=fun e=>ap cp
    have g2:∀e:En,c7 e (.d (.int n)) (.d (.int cut))=some (.d (.int (n / cut))):=fun e=>cx cp (eP (by lia) (by lia))
    have g3:∀e:En,aD e (.d (.int (n / cut))) (.d (.int (things - cut)))=some (.d (.int (n / cut % (things - cut)))):=fun e=>ap dp
    have a0:=i7 (n:=n) cp;have a1:=i8 (n:=n) cp
    have b0:=i7 (n:=n / cut) dp;have b1:=i8 (n:=n / cut) dp
    generalize n / cut % (things - cut)=y at*
    generalize n % cut=x at*
    obtain⟨t,b,c1,c2,c3,c4,c5,c6⟩:=jz m (n1 % 4) m0
    obtain⟨w,w1,w2,w3⟩:=li (m / 10007) (n2 % 4)
    have b107:Bt 8000 10007:=eP (by decide) (by decide)
    have hlen:ts.length < 1000000:=by lia
    refine⟨xE ds' things many cut (n1 % 4) (n2 % 4) ts (some (.d (.int (0+(i:Int))))) w8 w9 w10,xE e2 things many cut (n1 % 4) (n2 % 4) (ts++[⟨x,cut+y,t,b,w⟩]) (some (.d (.int (0+(i:Int))))) (some (.d (.int n))) (some (.d (.int m))) (some (.d (.tuple [.int x,.int (cut+y)]))),rfl,?_,aY,.mk hd2 (by simp;lia) fun z hz=>by
      rcases List.mem_append.mp hz with hz | hz
      · exact ht z hz
      · simp at hz;subst hz;exact⟨a0,by show x < cut+y;lia,by show cut+y < things;lia,c2,c3,c4,c5,w2,w3,c6⟩⟩
    simp? [xE,eA,tn,tm,g1,g2,g3,cx,b107,c1,w1,eC,aA,hlen]) (.mk hd3 rfl fun t ht=>by cases ht)
  obtain⟨hd',hl,ht⟩:=hI
  rename_i ts ds' w7 w8 w9 w10
  refine⟨ts,ds',?_,hd',by rw [hl,a_];lia,ht⟩
  have hf:∀W,bS W fZ (ag 7) eA (xE d3 things many cut (n1 % 4) (n2 % 4) [] none none none none)=some (.nx (xE ds' things many cut (n1 % 4) (n2 % 4) ts w7 w8 w9 w10)):=fun W=>by
    rw [bX (show fZ _=some (aL 0 many.toNat,[],xE d3 things many cut (n1 % 4) (n2 % 4) [] none none none none) from bg (n:=many) (by simp? [xE]) (by lia) (by lia))]
    exact h1
  unfold xE at hf
  simp only [List.map_nil] at hf
  simp? [eX,lx,t0,t1,t2,g0,gcut,ap,hf, -cf]
abbrev nE(ds:List Int)(things:Int)(rs:Sv)(left names:List Int)(v5 v6 v7 v8 v9 v10:Option Sv):En:=[some (.l (ds.map .int)),some (.d (.int things)),some rs,some (.l (left.map .int)),some (.l (names.map .int)),v5,v6,v7,v8,v9,v10]
inductive NI (things:Int) (rs:Sv) (i:Nat):En→Prop
  | mk {ds left names v5} (hd:dI ds) (hl:names.length=i) (hp:(names++left).Perm (gg things.toNat)):NI things rs i (nE ds things rs left names v5 none none none none none)
inductive NJ (ds:List Int) (things:Int) (rs:Sv) (left names:List Int) (v5:Option Sv) (i:Nat):En→Prop
  | mk {ts:List fK} {v7 v8 v9 v10} (hl:ts.length=i) (ht:∀t∈ts,t.Ok things):NJ ds things rs left names v5 i (nE ds things rs left names v5 (some (.l (ts.map aA))) v7 v8 v9 v10)
theorem qS{names:List Int}{n:Nat}(h:names.Perm (gg n)):names.length=n∧names.Nodup∧∀x∈names,0≤x∧x < (n:Int):=by
  refine⟨by rw [h.length_eq,gW],h.nodup_iff.mpr ?_,fun x hx=>?_⟩
  · unfold gg
    refine List.Pairwise.map _ (fun a b h=>?_) (List.nodup_range (n:=n))
    intro e
    exact h (by have:(a:Int)=b:=e;lia)
  · have:=h.mem_iff.mp hx
    unfold gg at this
    obtain⟨k,hk,rfl⟩:=List.mem_map.mp this
    have:=List.mem_range.mp hk
    exact⟨by simp,by simpa using this⟩
theorem qE{names:List Int}(h:names.Nodup){i j:Nat}(hi:i < names.length)(hj:j < names.length)(n:i≠j):names.getD i 0≠names.getD j 0:=by
  rw [List.getD_eq_getElem?_getD,List.getD_eq_getElem?_getD,List.getElem?_eq_getElem hi,List.getElem?_eq_getElem hj]
  have p:=List.pairwise_iff_getElem.mp h
  intro e
  rcases Nat.lt_or_gt_of_ne n with q | q
  · exact p i j hi hj q e
  · exact p j i hj hi q e.symm
theorem kf{ds:List Int}{things:Int}{ts:List fK}{rs:Sv}(hr:rs=.d (.tuple (ts.map aA))∨rs=.l (ts.map aA))(hd:dI ds)(h2:1≤things)(h12:things≤100)(hl:ts.length≤1000)(ht:∀t∈ts,t.Ok things):
    ∃(us:List fK) (ds':List Int),cy [.l (ds.map .int),.d (.int things),rs]=some (.d (.tuple (us.map aA)),[.l (ds'.map .int),.d (.int things),rs])∧dI ds'∧us.length=ts.length∧∀t∈us,t.Ok things:=by
  obtain⟨e',h1,hI⟩:=bo (own:=[]) (g:=ag 5) (f:=dZ) (NI things rs) (aL 0 things.toNat) 0 (nE ds things rs (gg things.toNat) [] none none none none none none) (fun i x e hx hI=>by
    obtain⟨rfl,hi⟩:=bR hx
    obtain⟨hd',hln,hp⟩:=hI
    rename_i ds left names v5
    have hle:=hp.length_eq
    rw [List.length_append,gW] at hle
    obtain⟨n,d1,t1,a1,b1,hd1⟩:=cu hd'
    have pos:0 < left.length:=by lia
    have m0:0≤n % (left.length:Int):=Int.emod_nonneg _ (by lia)
    have m1:n % (left.length:Int) < (left.length:Int):=Int.emod_lt_of_pos _ (by lia)
    have gm:∀e,aD e (.d (.int n)) (.d (.int (left.length:Int)))=some (.d (.int (n % (left.length:Int)))):=fun e=>ap (by lia)
    generalize n % (left.length:Int)=k at*
    have hk:k.toNat < left.length:=by lia
    have hx':(left.map PyData.int)[k.toNat]?=some (.int left[k.toNat]):=by rw [List.getElem?_map,List.getElem?_eq_getElem hk];rfl
    have he:(left.map PyData.int).eraseIdx k.toNat=(left.eraseIdx k.toNat).map .int:=by rw [jW]
    refine⟨nE ds things rs left names (some (.d (.int (0+(i:Int))))) none none none none none,nE d1 things rs (left.eraseIdx k.toNat) (names++[left[k.toNat]]) (some (.d (.int (0+(i:Int))))) none none none none none,rfl,?_,aY,.mk hd1 (by simp;lia) (by
      rw [List.append_assoc]
      exact(List.Perm.append_left _ (i6 left k.toNat hk)).trans hp)⟩
    have ql:((left.map PyData.int).length:Int)=(left.length:Int):=by simp
    have hb:k < 1000000000:=by lia
    have lf:(names.map PyData.int).length < 1000000:=by simp;lia
    have e1:(names++[left[k.toNat]]).map PyData.int=names.map .int++[.int left[k.toNat]]:=by simp
    simp only [nE,e1,←he]
    generalize left[k.toNat]=z at*
    generalize names.map PyData.int=FF at*
    generalize (left.length:Int)=L at*
    generalize left.map PyData.int=LL at*
    simp? [dZ,t1,ql,gm,m0,hb,hx',lf]) (.mk hd rfl (by simp))
  obtain⟨hd2,hln,hp⟩:=hI
  rename_i d2 left names v5
  rw [Nat.zero_add,a_] at hln
  have hle:=hp.length_eq
  rw [List.length_append,gW] at hle
  have hleft:left=[]:=List.length_eq_zero_iff.mp (by lia)
  subst hleft
  rw [List.append_nil] at hp
  obtain⟨_,hnd,hrg⟩:=qS hp
  have hf:∀W,bS W eV (ag 5) dZ (nE ds things rs (gg things.toNat) [] none none none none none none)=some (.nx (nE d2 things rs [] names v5 none none none none none)):=fun W=>by
    rw [bX (show eV _=some (aL 0 things.toNat,[],nE ds things rs (gg things.toNat) [] none none none none none none) from bg (n:=things) (by simp? [nE]) (by lia) (by lia))]
    exact h1
  have step:∀(own:eK) (hown:∀e i,NJ d2 things rs [] names v5 i e→keeps own e),∃e',fF own (du (ar (ag 7) (ar (ag 8) (ar (ag 9) (ar (ag 10) cN))))) cZ (ts.map aA) (nE d2 things rs [] names v5 (some (.l [])) none none none none)=some (.nx e')∧NJ d2 things rs [] names v5 (0+(ts.map aA).length) e':=fun own hown=>by
    refine bo (own:=own) (g:=du (ar (ag 7) (ar (ag 8) (ar (ag 9) (ar (ag 10) cN))))) (f:=cZ) (NJ d2 things rs [] names v5) (ts.map aA) 0 (nE d2 things rs [] names v5 (some (.l [])) none none none none) (fun i x e hx hI=>?_) (NJ.mk (ts:=[]) rfl (fun t h=>by cases h))
    obtain⟨hl',ht'⟩:=hI
    rename_i us v7 v8 v9 v10
    rw [List.getElem?_map] at hx
    obtain⟨ti,hti,rfl⟩:=Option.map_eq_some_iff.mp hx
    have o:=ht ti (List.mem_of_getElem? hti)
    have ilt:=(List.getElem?_eq_some_iff.mp hti).1
    have:=o.o0;have:=o.o1;have:=o.o2
    have a1:=eh (ns:=names) (k:=ti.one) (by lia) (by lia)
    have a2:=eh (ns:=names) (k:=ti.other) (by lia) (by lia)
    have ne:=qE hnd (i:=ti.one.toNat) (j:=ti.other.toNat) (by lia) (by lia) (by lia)
    have r1:=hrg (names.getD ti.one.toNat 0) (by
      rw [List.getD_eq_getElem?_getD,List.getElem?_eq_getElem (by lia)]
      exact List.getElem_mem _)
    have r2:=hrg (names.getD ti.other.toNat 0) (by
      rw [List.getD_eq_getElem?_getD,List.getElem?_eq_getElem (by lia)]
      exact List.getElem_mem _)
    generalize names.getD ti.one.toNat 0=y1 at*
    generalize names.getD ti.other.toNat 0=y2 at*
    have nj:NJ d2 things rs [] names v5 (0+i+1) (nE d2 things rs [] names v5 (some (.l ((us++[fK.mk (min y1 y2) (max y1 y2) ti.top ti.bot ti.worth]).map aA))) (some (.d (.int ti.one))) (some (.d (.int ti.other))) (some (.d (.tuple [.int ti.top,.int ti.bot]))) (some (.d (.int ti.worth)))):=.mk (by simp;lia) fun z hz=>by
      rcases List.mem_append.mp hz with hz | hz
      · exact ht' z hz
      · simp at hz;subst hz
        exact⟨by show 0≤min y1 y2;lia,by show min y1 y2 < max y1 y2;lia,by show max y1 y2 < things;lia,o.c0,o.c1,o.b0,o.b1,o.w0,o.w1,o.cop⟩
    refine⟨nE d2 things rs [] names v5 (some (.l (us.map aA))) (some (.d (.int ti.one))) (some (.d (.int ti.other))) (some (.d (.tuple [.int ti.top,.int ti.bot]))) (some (.d (.int ti.worth))),_,?_,?_,hown _ _ nj,nj⟩
    · simp only [nE,aA]
      generalize us.map aA=UU
      generalize names.map PyData.int=NN
      simp? [List.replicate]
    · have lu:(us.map aA).length < 1000000:=by simp;lia
      rw [List.map_append]
      simp only [nE,aA,List.map_cons,List.map_nil]
      generalize us.map aA=UU at*
      generalize names.map PyData.int=NN at*
      simp? [cZ,a1,a2,lu]
  have fin:∃(us:List fK) (v7 v8 v9 v10:Option Sv),(∀Wl,(Wl.contains 2=false)→bS Wl eU (du (ar (ag 7) (ar (ag 8) (ar (ag 9) (ar (ag 10) cN))))) cZ (nE d2 things rs [] names v5 (some (.l [])) none none none none)=some (.nx (nE d2 things rs [] names v5 (some (.l (us.map aA))) v7 v8 v9 v10)))∧us.length=ts.length∧∀t∈us,t.Ok things:=by
    rcases hr with rfl | rfl
    · obtain⟨e',h3,hJ⟩:=step [] (fun _ _ _=>aY)
      obtain⟨hl',ht'⟩:=hJ
      rename_i us v7 v8 v9 v10
      refine⟨us,v7,v8,v9,v10,fun Wl _=>?_,by simpa using hl',ht'⟩
      rw [bX (items:=ts.map aA) (e1:=nE d2 things (.d (.tuple (ts.map aA))) [] names v5 (some (.l [])) none none none none) rfl]
      exact h3
    · obtain⟨e',h3,hJ⟩:=step [(2,ts.map aA)] (fun e i hJ=>by
        obtain⟨_,_⟩:=hJ
        intro p hp
        simp at hp;subst hp;rfl)
      obtain⟨hl',ht'⟩:=hJ
      rename_i us v7 v8 v9 v10
      refine⟨us,v7,v8,v9,v10,fun Wl hW=>?_,by simpa using hl',ht'⟩
      unfold bS
      rw [show eU (nE d2 things (.l (ts.map aA)) [] names v5 (some (.l [])) none none none none)=some (ts.map aA,[(2,ts.map aA)],nE d2 things (.l (ts.map aA)) [] names v5 (some (.l [])) none none none none) from rfl]
      simp only [Option.bind_some,List.all_cons,List.all_nil,hW,Bool.not_false,Bool.and_true,if_true]
      exact h3
  obtain⟨us,v7,v8,v9,v10,hf2,hl2,ht2⟩:=fin
  refine⟨us,d2,?_,hd2,hl2,ht2⟩
  have hf2':=fun Wl h=>hf2 Wl h
  simp only [nE,List.map_nil] at hf hf2'
  have th:things≤100000:=by lia
  have th0:0≤things:=by lia
  generalize ts.map aA=TT at*
  rcases hr with rfl | rfl
  · simp? [cy,ia,hZ,th,th0,hf,hf2']
  · simp? [cy,ia,hZ,th,th0,hf,hf2']
abbrev r6(ds:List Int)(things size:Int)(ts:List fK)(v4 v5 v6:Option Sv):En:=[some (.l (ds.map .int)),some (.d (.int things)),some (.d (.int size)),some (.l (ts.map aA)),v4,v5,v6]
inductive OI (things size:Int) (i:Nat):En→Prop
  | mk {ts ds w4 w5 w6} (hd:dI ds) (hl:ts.length=i) (ht:∀t∈ts,t.Ok things):OI things size i (r6 ds things size ts w4 w5 w6)
theorem uq(ds:List Int)(things size:Int)(hd:dI ds)(h2:2≤size)(hs:size≤things)(h12:things≤100):∃(ts:List fK) (ds':List Int),gN [.l (ds.map .int),.d (.int things),.d (.int size)]=some (.d (.tuple (ts.map aA)),[.l (ds'.map .int),.d (.int things),.d (.int size)])∧dI ds'∧(ts.length:Int)=size∧∀t∈ts,t.Ok things:=by
  have sp:0 < size:=by lia
  obtain⟨e',h1,hI⟩:=bo (own:=[]) (g:=ag 4) (f:=fq) (OI things size) (aL 0 size.toNat) 0 (r6 ds things size [] none none none) (fun i x e hx hI=>by
    obtain⟨rfl,hi⟩:=bR hx
    obtain⟨hd',hl,ht⟩:=hI
    rename_i ts ds' w4 w5 w6
    obtain⟨k,hk⟩:∃k:Int,k=0+(i:Int):=⟨_,rfl⟩
    rw [←hk]
    obtain⟨m,e2,tm,m0, -,hd2⟩:=cu hd'
    have g1:∀e:En,aD e (.d (.int (k+1))) (.d (.int size))=some (.d (.int ((k+1) % size))):=fun e=>ap sp
    have q0:=i7 (n:=k+1) sp
    have q1:=i8 (n:=k+1) sp
    have qn:(k+1) % size≠k:=fun z=>by
      by_cases c:k+1 < size
      · rw [Int.emod_eq_of_lt (by lia) c] at z;lia
      · have:k+1=size:=by lia
        rw [this,Int.emod_self] at z;lia
    generalize (k+1) % size=y at*
    obtain⟨t,b,c1,c2,c3,c4,c5,c6⟩:=jz m 1 m0
    obtain⟨w,w1,w2,w3⟩:=li (m / 10007) 2
    have b107:Bt 8000 10007:=eP (by decide) (by decide)
    have hlen:ts.length < 1000000:=by lia
    refine⟨r6 ds' things size ts (some (.d (.int k))) w5 w6,r6 e2 things size (ts++[⟨min k y,max k y,t,b,w⟩]) (some (.d (.int k))) (some (.d (.int m))) (some (.d (.tuple [.int (min k y),.int (max k y)]))),rfl,?_,aY,.mk hd2 (by simp;lia) fun z hz=>by
      rcases List.mem_append.mp hz with hz | hz
      · exact ht z hz
      · simp at hz;subst hz;exact⟨by show 0≤min k y;lia,by show min k y < max k y;lia,by show max k y < things;lia,c2,c3,c4,c5,w2,w3,c6⟩⟩
    simp? [r6,fq,tm,g1,cx,b107,c1,w1,eC,aA,hlen]) (.mk hd rfl fun t ht=>by cases ht)
  obtain⟨hd',hl,ht⟩:=hI
  rename_i ts ds' w4 w5 w6
  rw [Nat.zero_add,a_] at hl
  have hf:∀W,bS W ii (ag 4) fq (r6 ds things size [] none none none)=some (.nx (r6 ds' things size ts w4 w5 w6)):=fun W=>by
    rw [bX (show ii _=some (aL 0 size.toNat,[],r6 ds things size [] none none none) from bg (n:=size) (by simp? [r6]) (by lia) (by lia))]
    exact h1
  obtain⟨us,d2,t2,hd2,hl2,ht2⟩:=kf (ts:=ts) (.inr rfl) hd' (by lia) h12 (by lia) ht
  refine⟨us,d2,?_,hd2,by lia,ht2⟩
  unfold r6 at hf
  simp only [List.map_nil] at hf
  generalize ts.map aA=TT at*
  generalize us.map aA=UU at*
  simp? [gN,nR,hf,t2]
theorem oH{ts:List fK}{n:Int}(h:∀t∈ts,t.Ok n)(k:Nat):∀t∈ts.take k,t.Ok n:=fun t ht=>h t (List.mem_of_mem_take ht)
theorem p6{ts:List fK}{m:Int}(h0:0≤m):L2.cutD (ts.map aA) none (some m)=(ts.take m.toNat).map aA:=by
  unfold L2.cutD
  show((ts.map aA).drop 0).take (HT.sIx (ts.map aA).length (ts.map aA).length (some m) - 0)=_
  have e:HT.sIx (ts.map aA).length (ts.map aA).length (some m)=min m.toNat ts.length:=by
    show(if m < 0 then _ else min m.toNat (ts.map aA).length)=_
    rw [if_neg (by lia),List.length_map]
  rw [e,List.drop_zero,Nat.sub_zero,List.map_take]
  by_cases c:m.toNat≤ts.length
  · rw [Nat.min_eq_left c]
  · rw [Nat.min_eq_right (by lia),List.take_of_length_le (by simp),List.take_of_length_le (by simp;lia)]
theorem Ok.more{t:fK}{n m:Int}(h:t.Ok n)(k:n≤m):t.Ok m:=⟨h.o0,h.o1,by have:=h.o2;lia,h.c0,h.c1,h.b0,h.b1,h.w0,h.w1,h.cop⟩
theorem nJ{things asks p:Int}{ts:List fK}(t0:0≤things)(t1:things≤12)(ht:∀t∈ts,t.Ok things)(hl:ts.length≤16)(p0:0≤p)(p1:p≤20)(a0:0≤asks)(a1:asks≤40):(bE.mk things ts (List.replicate things.toNat p) asks).Ok:=
  ⟨t0,t1,ht,hl,by show((List.replicate things.toNat p).length:Int)=things;rw [List.length_replicate];lia,fun q hq=>by have:=(List.mem_replicate.mp hq).2;lia,a0,a1⟩
theorem nF(ds:List Int)(most many:Int)(hd:dI ds)(m0:2≤most)(m1:most≤12)(k0:0≤many)(k1:many≤16):∃(W:bE) (ds':List Int),bQ [.l (ds.map .int),.d (.int most),.d (.int many)]=some (.d (a9 W),[.l (ds'.map .int),.d (.int most),.d (.int many)])∧dI ds'∧W.Ok:=by
  obtain⟨n0,d1,t0, -, -,hd1⟩:=cu hd
  obtain⟨n1,d2,t1, -, -,hd2⟩:=cu hd1
  have mp:0 < most - 1:=by lia
  have g0:∀e:En,aD e (.d (.int n0)) (.d (.int (most - 1)))=some (.d (.int (n0 % (most - 1)))):=fun e=>ap mp
  have a0:=i7 (n:=n0) mp;have a1:=i8 (n:=n0) mp
  generalize n0 % (most - 1)=th at*
  have g1:∀e:En,aD e (.d (.int n1)) (.d (.int 4))=some (.d (.int (n1 % 4))):=fun e=>ap (by decide)
  have b0:=i7 (n:=n1) (k:=4) (by decide);have b1:=i8 (n:=n1) (k:=4) (by decide)
  generalize n1 % 4=sort at*
  by_cases c0:sort=0
  · subst c0
    obtain⟨W,d3,tw,hd3,ok,_,_⟩:=zH d2 most many hd2 (by lia) m1 k0 k1
    refine⟨W,d3,?_,hd3,ok⟩
    simp? [bQ,dO,t0,t1,g0,g1,tw]
  obtain⟨things,hth⟩:∃things,things=2+th:=⟨_,rfl⟩
  have gth:∀e:En,aU e (.d (.int 2)) (.d (.int th))=some (.d (.int things)):=fun e=>by rw [cf,hth]
  obtain⟨n2,d3,t2, -, -,hd3⟩:=cu hd2
  have kp:0 < many+1:=by lia
  have g2:∀e:En,aD e (.d (.int n2)) (.d (.int (many+1)))=some (.d (.int (n2 % (many+1)))):=fun e=>ap kp
  have e0:=i7 (n:=n2) kp;have e1:=i8 (n:=n2) kp
  generalize n2 % (many+1)=ma at*
  obtain⟨ts,d4,t3,hd4,hl3,ht3⟩:=rS d3 things ma hd3 (by lia) (by lia) (by lia) (by lia)
  obtain⟨us,d5,t4,hd5,hl4,ht4⟩:=kf (ts:=ts) (.inl rfl) hd4 (things:=things) (by lia) (by lia) (by lia) ht3
  have fin:∀(ds:List Int),dI ds→∃(p a:Int) (d7 d8:List Int),az [.l (ds.map .int)]=some (.d (.int p),[.l (d7.map .int)])∧az [.l (d7.map .int)]=some (.d (.int a),[.l (d8.map .int)])∧dI d8∧(∀e:En,aD e (.d (.int p)) (.d (.int 20))=some (.d (.int (p % 20))))∧(∀e:En,aD e (.d (.int a)) (.d (.int 41))=some (.d (.int (a % 41)))):=fun ds hd=>by
    obtain⟨p,d7,t7, -, -,hd7⟩:=cu hd
    obtain⟨a,d8,t8, -, -,hd8⟩:=cu hd7
    exact⟨p,a,d7,d8,t7,t8,hd8,fun e=>ap (by decide),fun e=>ap (by decide)⟩
  have rep:∀(e:En) (x n:Int),0≤n→n≤100→fY e (.d (.tuple [.int x])) (.d (.int n))=some (.d (.tuple ((List.replicate n.toNat x).map .int))):=fun e x n h0 h1=>by rw [List.map_replicate];exact vD h0 (by lia)
  have p20:∀p:Int,0≤1+p % 20∧1+p % 20≤20:=fun p=>by have:=i7 (n:=p) (k:=20) (by decide);have:=i8 (n:=p) (k:=20) (by decide);lia
  have a41:∀p:Int,0≤p % 41∧p % 41≤40:=fun p=>by have:=i7 (n:=p) (k:=41) (by decide);have:=i8 (n:=p) (k:=41) (by decide);lia
  by_cases c1:sort=1
  · subst c1
    obtain⟨n5,d6,t5, -, -,hd6⟩:=cu hd5
    have xp:0 < max 1 (things - 2):=by lia
    have g5:∀e:En,aD e (.d (.int n5)) (.d (.int (max 1 (things - 2))))=some (.d (.int (n5 % max 1 (things - 2)))):=fun e=>ap xp
    have f0:=i7 (n:=n5) xp;have f1:=i8 (n:=n5) xp
    generalize n5 % max 1 (things - 2)=sz at*
    obtain⟨vs,d7,t6,hd7,hl6,ht6⟩:=uq d6 (max things 3) (min (3+sz) (max things 3)) hd6 (by lia) (by lia) (by lia)
    obtain⟨n8,d8,t8, -, -,hd8⟩:=cu hd7
    have g8:∀e:En,aD e (.d (.int n8)) (.d (.int 4))=some (.d (.int (n8 % 4))):=fun e=>ap (by decide)
    have h0:=i7 (n:=n8) (k:=4) (by decide);have h1:=i8 (n:=n8) (k:=4) (by decide)
    generalize n8 % 4=m8 at*
    obtain⟨xs,d9,t9,hd9,hl9,ht9⟩:=nG d8 (max things 3) m8 hd8 (by lia) (by lia) (by lia) (by lia)
    obtain⟨p,a,d10,d11,tp,ta,hd11,gp,ga⟩:=fin d9 hd9
    have gc:∀e:En,aU e (.d (.tuple (vs.map aA))) (.d (.tuple (xs.map aA)))=some (.d (.tuple ((vs++xs).map aA))):=fun e=>by rw [List.map_append];exact eC (by simp;lia)
    have gs:=p6 (ts:=vs++xs) k0
    refine⟨⟨max things 3,(vs++xs).take many.toNat,List.replicate (max things 3).toNat (1+p % 20),a % 41⟩,d11,?_,hd11,nJ (by lia) (by lia) (oH (fun t h=>by
      rcases List.mem_append.mp h with h | h
      · exact ht6 t h
      · exact ht9 t h) _) (by have:=List.length_take_le many.toNat (vs++xs);lia) (p20 p).1 (p20 p).2 (a41 a).1 (a41 a).2⟩
    have hrep:=fun e=>rep e (1+p % 20) (max things 3) (by lia) (by lia)
    rw [eQ]
    simp only
    generalize (vs++xs).map aA=VX at*
    generalize ((vs++xs).take many.toNat).map aA=VT at*
    generalize (List.replicate (max things 3).toNat (1+p % 20)).map PyData.int=RP at*
    generalize vs.map aA=VV at*
    generalize xs.map aA=XX at*
    generalize us.map aA=UU at*
    generalize ts.map aA=TT at*
    simp? [bQ,dO,t0,t1,g0,g1,gth,t2,g2,t3,t4,t5,g5,t6,t8,g8,t9,gc,gs,tp,ta,gp,ga,hrep, -cf]
  · by_cases c2:sort=2
    · subst c2
      obtain⟨xs,d9,t9,hd9,hl9,ht9⟩:=nG d5 things 1 hd5 (by lia) (by lia) (by decide) (by decide)
      obtain⟨p,a,d10,d11,tp,ta,hd11,gp,ga⟩:=fin d9 hd9
      have gc:∀e:En,aU e (.d (.tuple (us.map aA))) (.d (.tuple (xs.map aA)))=some (.d (.tuple ((us++xs).map aA))):=fun e=>by rw [List.map_append];exact eC (by simp;lia)
      have gs:=p6 (ts:=us++xs) k0
      refine⟨⟨things,(us++xs).take many.toNat,List.replicate things.toNat (1+p % 20),a % 41⟩,d11,?_,hd11,nJ (by lia) (by lia) (oH (fun t h=>by
        rcases List.mem_append.mp h with h | h
        · exact ht4 t h
        · exact ht9 t h) _) (by have:=List.length_take_le many.toNat (us++xs);lia) (p20 p).1 (p20 p).2 (a41 a).1 (a41 a).2⟩
      have hrep:=fun e=>rep e (1+p % 20) things (by lia) (by lia)
      rw [eQ]
      simp only
      generalize (us++xs).map aA=VX at*
      generalize ((us++xs).take many.toNat).map aA=VT at*
      generalize (List.replicate things.toNat (1+p % 20)).map PyData.int=RP at*
      generalize xs.map aA=XX at*
      generalize us.map aA=UU at*
      generalize ts.map aA=TT at*
      simp? [bQ,dO,t0,t1,g0,g1,gth,t2,g2,t3,t4,t9,gc,gs,tp,ta,gp,ga,hrep, -cf]
    · have c3:sort=3:=by lia
      subst c3
      obtain⟨p,a,d10,d11,tp,ta,hd11,gp,ga⟩:=fin d5 hd5
      refine⟨⟨things,us,List.replicate things.toNat (1+p % 20),a % 41⟩,d11,?_,hd11,nJ (by lia) (by lia) ht4 (by lia) (p20 p).1 (p20 p).2 (a41 a).1 (a41 a).2⟩
      have hrep:=fun e=>rep e (1+p % 20) things (by lia) (by lia)
      rw [eQ]
      simp only
      generalize (List.replicate things.toNat (1+p % 20)).map PyData.int=RP at*
      generalize us.map aA=UU at*
      generalize ts.map aA=TT at*
      simp? [bQ,dO,t0,t1,g0,g1,gth,t2,g2,t3,t4,tp,ta,gp,ga,hrep, -cf]
theorem kD{own:eK}{g:FG}{f:FS}{Z:Rv}(P Q:En→Prop):∀(items:List PyData) (e:En),(∀x∈items,∀e,P e→∃e1,g x e=some e1∧((∃e2,f e1=some (.nx e2)∧keeps own e2∧P e2)∨∃e2,f e1=some (.rt Z e2)∧Q e2))→P e→
    (∃e',fF own g f items e=some (.nx e')∧P e')∨∃e',fF own g f items e=some (.rt Z e')∧Q e'
  | [],e,_,h=>.inl ⟨e,rfl,h⟩
  | x::r,e,hs,h=>by
    obtain⟨e1,h1,⟨e2,h4,h5,h6⟩ | ⟨e2,h4,h5⟩⟩:=hs x (by simp) e h
    · have ih:=kD P Q r e2 (fun y hy=>hs y (by simp [hy])) h6
      have e0:fF own g f (x::r) e=fF own g f r e2:=by
        simp only [fF,h1,h4,Option.bind_some]
        rw [if_pos h5]
      rw [e0]
      exact ih
    · refine .inr ⟨e2,?_,h5⟩
      simp only [fF,h1,h4,Option.bind_some]
theorem pK{ft:FT}{f:FS}{Z:Rv}(P Q:En→Prop)(μ:En→Nat)(hs:∀e,P e→ft e=some (false,e)∨(ft e=some (true,e)∧((∃e2,f e=some (.nx e2)∧P e2∧μ e2 < μ e)∨∃e2,f e=some (.rt Z e2)∧Q e2))):
    ∀(n:Nat) (e:En),P e→μ e < n→(∃e',b_ ft f n e=some (.nx e')∧P e')∨∃e',b_ ft f n e=some (.rt Z e')∧Q e':=by
  intro n
  induction n with
  | zero=>intro e _ h;lia
  | succ n ih=>
    intro e hp hm
    rcases hs e hp with h1 | ⟨h1,⟨e2,h2,h3,h4⟩ | ⟨e2,h2,h3⟩⟩
    · exact .inl ⟨e,by unfold b_;rw [h1];rfl,hp⟩
    · have e0:b_ ft f (n+1) e=b_ ft f n e2:=by
        unfold b_;rw [h1];simp only [Option.bind_some,if_true,h2]
        cases n<;>rfl
      rw [e0]
      exact ih e2 h3 (by lia)
    · exact .inr ⟨e2,by unfold b_;rw [h1];simp only [Option.bind_some,if_true,h2],h3⟩
abbrev mE(W:bE)(k:Int)(ms:List Int)(v3 v4 v5 v6:Option Sv):En:=[some (.d (a9 W)),some (.d (.int k)),some (.l (ms.map .int)),v3,v4,v5,v6]
inductive MJ (W:bE) (k:Int) (i:Nat):En→Prop
  | mk {ms v3 v4 v5 v6} (hl:ms.length≤2*i) (hm:∀m∈ms,0≤m∧m < W.things):MJ W k i (mE W k ms v3 v4 v5 v6)
theorem uo{W:bE}(ok:W.Ok)(k:Int):∃ms:List Int,gM [.d (a9 W),.d (.int k)]=some (.l (ms.map .int),[.d (a9 W),.d (.int k)])∧ms.length≤32∧∀m∈ms,0≤m∧m < W.things:=by
  have wl:=ok.len
  obtain⟨e',h1,hI⟩:=bo (own:=[]) (g:=du (ar (ag 3) (ar (ag 4) (ar (ag 5) (ar (ag 6) cN))))) (f:=fm) (MJ W k) (W.ties.map aA) 0 (mE W k [] none none none none) (fun i x e hx hI=>by
    obtain⟨hl,hm⟩:=hI
    rename_i ms v3 v4 v5 v6
    rw [List.getElem?_map] at hx
    obtain⟨ti,hti,rfl⟩:=Option.map_eq_some_iff.mp hx
    have ilt:=(List.getElem?_eq_some_iff.mp hti).1
    have o:=ok.ties ti (List.mem_of_getElem? hti)
    have:=o.o0;have:=o.o1;have:=o.o2
    have ge:∀(e:En) (y:Int),cg false e (.d (.int k)) (.d (.int y))=some (.d (.bool (k==y))):=fun e y=>by rw [fx];rfl
    have lu:ms.length < 1000000:=by lia
    have lu2:ms.length+1 < 1000000:=by lia
    refine⟨mE W k ms (some (.d (.int ti.one))) (some (.d (.int ti.other))) (some (.d (.tuple [.int ti.top,.int ti.bot]))) (some (.d (.int ti.worth))),mE W k (ms++(if (k==ti.one)=true then [ti.other] else [])++(if (k==ti.other)=true then [ti.one] else [])) (some (.d (.int ti.one))) (some (.d (.int ti.other))) (some (.d (.tuple [.int ti.top,.int ti.bot]))) (some (.d (.int ti.worth))),?_,?_,aY,.mk ?_ ?_⟩
    · simp only [mE,aA]
      generalize ms.map PyData.int=MM
      simp? [List.replicate]
    · simp only [mE]
      cases c1:(k==ti.one)<;>cases c2:(k==ti.other)<;>simp? [fm,ge,c1,c2,lu,lu2,List.map_append]
    · cases (k==ti.one)<;>cases (k==ti.other)<;>simp<;>lia
    · intro m h
      simp only [List.mem_append] at h
      rcases h with (h | h) | h
      · exact hm m h
      · split at h
        · simp at h;subst h;lia
        · cases h
      · split at h
        · simp at h;subst h;lia
        · cases h) (.mk (by simp) (fun m h=>by cases h))
  obtain⟨hl,hm⟩:=hI
  rename_i ms v3 v4 v5 v6
  rw [Nat.zero_add,List.length_map] at hl
  have hf:∀Wl,bS Wl ig (du (ar (ag 3) (ar (ag 4) (ar (ag 5) (ar (ag 6) cN))))) fm (mE W k [] none none none none)=some (.nx (mE W k ms v3 v4 v5 v6)):=fun Wl=>by
    have g1':=Ao (W:=W)
    rw [bX (items:=W.ties.map aA) (e1:=mE W k [] none none none none) (show ig _=_ from mY (by simp? [mE,g1']))]
    exact h1
  refine⟨ms,?_,by lia,hm⟩
  simp only [mE,List.map_nil] at hf
  simp? [gM,nP,hf]
def ng:List Int→Nat
  | []=>0
  | x::r=>(if x < 0 then 1 else 0)+ng r
theorem vd:∀(ns:List Int),ng ns≤ns.length
  | []=>Nat.le_refl _
  | x::r=>by have:=vd r;simp only [ng,List.length_cons];split<;>lia
theorem m9:∀{ns:List Int} {i:Nat} {v:Int},i < ns.length→ns.getD i 0 < 0→0≤v→ng (ns.set i v)+1=ng ns
  | [],i,v,h,_,_=>by simp at h
  | x::r,0,v,_,h1,h2=>by
    have h1:x < 0:=by simpa using h1
    simp only [List.set_cons_zero,ng]
    rw [if_pos h1,if_neg (by lia)];lia
  | x::r,i+1,v,h,h1,h2=>by
    have:=m9 (ns:=r) (i:=i) (v:=v) (by simpa using h) (by simpa using h1) h2
    simp only [List.set_cons_succ,ng];lia
structure lq (n:Int) (ns:List Int):Prop where
  len:(ns.length:Int)=n
  rng:∀x∈ns, -1≤x∧x≤1
theorem lq.at{n:Int}{ns:List Int}(h:lq n ns){i:Int}(h0:0≤i)(h1:i < n): -1≤ns.getD i.toNat 0∧ns.getD i.toNat 0≤1:=by
  have hl:i.toNat < ns.length:=by have:=h.len;lia
  rw [List.getD_eq_getElem?_getD,List.getElem?_eq_getElem hl]
  exact h.rng _ (List.getElem_mem _)
theorem lq.set{n:Int}{ns:List Int}(h:lq n ns){i:Nat}{v:Int}(h0: -1≤v)(h1:v≤1):lq n (ns.set i v):=⟨by rw [List.length_set];exact h.len,fun x hx=>by
  rcases List.mem_or_eq_of_mem_set hx with hx | rfl
  · exact h.rng x hx
  · exact⟨h0,h1⟩⟩
theorem lR{ns:List Int}{i j:Nat}{v:Int}(hj:0≤ns.getD j 0)(hv:0≤v):0≤(ns.set i v).getD j 0:=by
  rw [List.getD_eq_getElem?_getD] at hj ⊢
  rw [List.getElem?_set]
  split
  · split
    · exact hv
    · exact Int.le_refl _
  · exact hj
abbrev zE(W:bE)(ns:List Int)(v2:Option Sv)(ws:List Int)(v4 v5:Option Sv):En:=[some (.d (a9 W)),some (.l (ns.map .int)),v2,some (.l (ws.map .int)),v4,v5]
structure x5 (n:Int) (ns ws:List Int):Prop where
  ok:lq n ns
  wt:∀w∈ws,0≤w∧w < n∧0≤ns.getD w.toNat 0
  wl:ws.length+ng ns≤1000
inductive ZJ (W:bE) (v2:Option Sv) (here:Int) (m:Nat):En→Prop
  | mk {ns ws v5} (h:x5 W.things ns ws) (hh:0≤ns.getD here.toNat 0) (hm:ws.length+ng ns≤m):ZJ W v2 here m (zE W ns v2 ws (some (.d (.int here))) v5)
inductive ZK (W:bE) (v2:Option Sv):En→Prop
  | mk {ns ws v4 v5} (h:x5 W.things ns ws):ZK W v2 (zE W ns v2 ws v4 v5)
inductive ZQ (W:bE):En→Prop
  | mk {v1 v2 v3 v4 v5}:ZQ W [some (.d (a9 W)),v1,v2,v3,v4,v5]
def zM(e:En):Nat:=match e[1]?,e[3]? with
  | some (some (Sv.l xs)),some (some (Sv.l ys))=>ys.length+ng (xs.map fun d=>match d with | PyData.int i=>i | _=>0)
  | _,_=>0
theorem rX{W:bE}{ns ws:List Int}{v2 v4 v5:Option Sv}:zM (zE W ns v2 ws v4 v5)=ws.length+ng ns:=by
  show(ws.map PyData.int).length+ng ((ns.map PyData.int).map _)=_
  rw [List.length_map,List.map_map]
  congr 2
  exact List.map_id' ns
theorem xJ{W:bE}(ok:W.Ok){ns ws:List Int}{w:Int}{v2 v4 v5:Option Sv}(h:x5 W.things ns (ws++[w])):
    (∃e2,bv (zE W ns v2 (ws++[w]) v4 v5)=some (.nx e2)∧ZJ W v2 w (ws.length+ng ns) e2)∨∃e2,bv (zE W ns v2 (ws++[w]) v4 v5)=some (.rt (.d .none) e2)∧ZQ W e2:=by
  have t12:=ok.t1
  obtain⟨w0,w1,w2⟩:=h.wt w (by simp)
  have h0:x5 W.things ns ws:=⟨h.ok,fun x hx=>h.wt x (by simp [hx]),by have:=h.wl;simp at this;lia⟩
  obtain⟨ms,tm,ml,mr⟩:=uo ok w
  have loop:=kD (own:=[]) (g:=ag 5) (f:=bu) (Z:=.d .none) (ZJ W v2 w (ws.length+ng ns)) (ZQ W) (ms.map .int) (zE W ns v2 ws (some (.d (.int w))) v5) (fun x hx e hI=>by
    obtain⟨m,hm,rfl⟩:=List.mem_map.mp hx
    obtain⟨hW,hh,hme⟩:=hI
    rename_i ns' ws' v5
    obtain⟨m0,m1⟩:=mr m hm
    have nl:=hW.ok.len
    have a1:=eh (ns:=ns') (k:=m) m0 (by lia)
    have a2:=eh (ns:=ns') (k:=w) w0 (by lia)
    have r1:=hW.ok.at m0 m1
    have r2:=hW.ok.at w0 w1
    have hix:qr ns'.length m=some m.toNat:=by unfold qr;rw [if_pos m0,if_pos (by lia)]
    have lw:ws'.length < 1000000:=by have:=hW.wl;lia
    refine⟨zE W ns' v2 ws' (some (.d (.int w))) (some (.d (.int m))),rfl,?_⟩
    by_cases c:ns'.getD m.toNat 0 < 0
    · left
      have hn:=m9 (ns:=ns') (i:=m.toNat) (v:=1 - ns'.getD w.toNat 0) (by lia) c (by lia)
      refine⟨zE W (ns'.set m.toNat (1 - ns'.getD w.toNat 0)) v2 (ws'++[m]) (some (.d (.int w))) (some (.d (.int m))),?_,aY,.mk ⟨hW.ok.set (by lia) (by lia),fun x hx=>?_,by have:=hW.wl;rw [List.length_append];simp only [List.length_cons,List.length_nil];lia⟩ (lR hh (by lia)) (by rw [List.length_append];simp only [List.length_cons,List.length_nil];lia)⟩
      · simp only [zE]
        generalize ns'.getD m.toNat 0=y1 at*
        generalize ns'.getD w.toNat 0=y2 at*
        simp? [bu,a1,a2,c,pz,jx,hix,List.map_set,lw]
      · rcases List.mem_append.mp hx with hx | hx
        · obtain⟨q0,q1,q2⟩:=hW.wt x hx
          exact⟨q0,q1,lR q2 (by lia)⟩
        · simp at hx;subst hx
          refine⟨m0,m1,?_⟩
          rw [List.getD_eq_getElem?_getD,List.getElem?_set,if_pos rfl,if_pos (by lia)]
          show 0≤1 - _
          lia
    · by_cases c2:ns'.getD m.toNat 0=ns'.getD w.toNat 0
      · right
        refine⟨zE W ns' v2 ws' (some (.d (.int w))) (some (.d (.int m))),?_,.mk⟩
        simp only [zE]
        rw [c2] at a1 c
        generalize ns'.getD w.toNat 0=y2 at*
        simp? [bu,a1,a2,c]
      · left
        refine⟨zE W ns' v2 ws' (some (.d (.int w))) (some (.d (.int m))),?_,aY,.mk hW hh hme⟩
        simp only [zE]
        generalize ns'.getD m.toNat 0=y1 at*
        generalize ns'.getD w.toNat 0=y2 at*
        simp? [bu,a1,a2,c,c2]) (.mk h0 w2 (Nat.le_refl _))
  have hi:cW (zE W ns v2 ws (some (.d (.int w))) v5)=some (ms.map .int,[],zE W ns v2 ws (some (.d (.int w))) v5):=by
    unfold cW
    refine qm ?_
    simp? [zE,tm]
  have hg:=fun Wl=>bX (W:=Wl) (g:=ag 5) (f:=bu) hi
  have hpop:∀R,bS ([5]++(([]++[])++([]++[]))) cW (ag 5) bu (zE W ns v2 ws (some (.d (.int w))) v5)=R→bv (zE W ns v2 (ws++[w]) v4 v5)=R:=fun R hR=>by
    unfold bv
    refine(eG (e1:=zE W ns v2 ws (some (.d (.int w))) v5) ?_).trans hR
    simp only [zE,List.map_append,List.map_cons,List.map_nil]
    generalize ns.map PyData.int=NN
    generalize ws.map PyData.int=WW
    have hq:(WW++[PyData.int w])[WW.length]?=some (.int w):=by simp
    have hq2:WW++[]=WW:=List.append_nil _
    simp? [m6,hq,hq2]
  rcases loop with ⟨e',h3,hJ⟩ | ⟨e',h3,hQ⟩
  · exact .inl ⟨e',hpop _ ((hg _).trans h3),hJ⟩
  · exact .inr ⟨e',hpop _ ((hg _).trans h3),hQ⟩
inductive ZI (W:bE):En→Prop
  | mk {ns v2 v3 v4 v5} (h:lq W.things ns):ZI W [some (.d (a9 W)),some (.l (ns.map .int)),v2,v3,v4,v5]
theorem mD{W:bE}(ok:W.Ok):∃d:PyData,cz [.d (a9 W)]=some (.d d,[.d (a9 W)])∧(d=.none∨∃ns:List Int,d=.tuple (ns.map .int)∧(ns.length:Int)=W.things):=by
  have t12:=ok.t1
  have t00:=ok.t0
  have g0:=zX (W:=W)
  obtain⟨t',hf⟩:=el (cs:=[]) (ft:=b7) (fe:=cU) (b:=fun _=>true) (y:=fun _=>.int (-1)) (aL 0 W.things.toNat) none [] (fun x hx=>rfl) (fun x hx _=>by simp? [cU]) (by rw [a_];simp;lia)
  have hi:ed [some (.d (a9 W)),none,none,none,none,none]=some (aL 0 W.things.toNat,[],[some (.d (a9 W)),none,none,none,none,none]):=bg (n:=W.things) (by simp? [g0]) (by lia) (by lia)
  have hv:=dX (cp:=[]) (nT:=1) (fi:=ed) (g:=ag 0) (ft:=b7) (fe:=cU) (e:=[some (.d (a9 W)),none,none,none,none,none]) (cs:=[]) (t:=[none]) (t':=[t']) hi rfl rfl hf
  have e1:([]++((aL 0 W.things.toNat).filter fun _=>true).map fun _=>PyData.int (-1))=(List.replicate W.things.toNat (-1:Int)).map .int:=by
    rw [List.nil_append,List.filter_eq_self.mpr (fun _ _=>rfl),List.map_const',a_,List.map_replicate]
  rw [e1] at hv
  have n0:lq W.things (List.replicate W.things.toNat (-1)):=⟨by rw [List.length_replicate];lia,fun x hx=>by have:=(List.mem_replicate.mp hx).2;lia⟩
  have loop:=kD (own:=[]) (g:=ag 2) (f:=bJ) (Z:=.d .none) (ZI W) (ZQ W) (aL 0 W.things.toNat) [some (.d (a9 W)),some (.l ((List.replicate W.things.toNat (-1:Int)).map .int)),none,none,none,none] (fun x hx e hI=>by
    obtain⟨i,hx⟩:=List.getElem?_of_mem hx
    obtain⟨rfl,hi⟩:=bR hx
    obtain⟨k,hk⟩:∃k:Int,k=0+(i:Int):=⟨_,rfl⟩
    rw [←hk]
    obtain⟨hN⟩:=hI
    rename_i ns v2 v3 v4 v5
    have nl:=hN.len
    have a1:=eh (ns:=ns) (k:=k) (by lia) (by lia)
    have r1:=hN.at (i:=k) (by lia) (by lia)
    have hix:qr ns.length k=some k.toNat:=by unfold qr;rw [if_pos (by lia),if_pos (by lia)]
    refine⟨[some (.d (a9 W)),some (.l (ns.map .int)),some (.d (.int k)),v3,v4,v5],rfl,?_⟩
    by_cases c:ns.getD k.toNat 0 < 0
    · have hn:=m9 (ns:=ns) (i:=k.toNat) (v:=0) (by lia) c (by lia)
      have hle:=vd ns
      have ws0:x5 W.things (ns.set k.toNat 0) [k]:=⟨hN.set (by lia) (by lia),fun x hx=>by
        simp at hx;subst hx
        refine⟨by lia,by lia,?_⟩
        rw [List.getD_eq_getElem?_getD,List.getElem?_set,if_pos rfl,if_pos (by lia)]
        exact Int.le_refl _,by simp;lia⟩
      have q3:∀(ws:List Int) (e:En),e[3]?=some (some (.l (ws.map .int)))→cg true e (.s 3) (.l [])=some (.d (.bool (!(ws.map PyData.int).isEmpty))):=fun ws e he=>lH he (iG _).1
      have wh:=pK (ft:=ce) (f:=bv) (Z:=.d .none) (ZK W (some (.d (.int k)))) (ZQ W) zM (fun e hK=>by
        obtain⟨hW⟩:=hK
        rename_i ns ws v4 v5
        rcases List.eq_nil_or_concat ws with rfl | ⟨ws',w,rfl⟩
        · left
          have:=fun e he=>q3 [] e he
          simp only [zE,List.map_nil,List.isEmpty_nil,Bool.not_true] at this ⊢
          simp? [ce,this]
        · right
          rw [List.concat_eq_append] at hW ⊢
          refine⟨?_,?_⟩
          · have:=fun e he=>q3 (ws'++[w]) e he
            rw [show((ws'++[w]).map PyData.int).isEmpty=false by rw [List.map_append];cases ws'<;>rfl] at this
            simp only [zE] at this ⊢
            generalize (ws'++[w]).map PyData.int=WW at*
            simp? [ce,this]
          · rcases xJ ok (v2:=some (.d (.int k))) (v4:=v4) (v5:=v5) hW with ⟨e2,h2,hJ⟩ | ⟨e2,h2,hQ⟩
            · obtain⟨hW2,hh,hm⟩:=hJ
              rename_i ns2 ws2 u5
              refine .inl ⟨_,h2,.mk hW2,?_⟩
              rw [rX,rX]
              simp;lia
            · exact .inr ⟨e2,h2,hQ⟩) (2 ^ 4200) (zE W (ns.set k.toNat 0) (some (.d (.int k))) [k] v4 v5) (.mk ws0) (by
        rw [rX]
        have:=ws0.wl
        exact Nat.lt_of_le_of_lt this (by decide))
      have dW:∀R,gj (2 ^ 4200) ce bv (zE W (ns.set k.toNat 0) (some (.d (.int k))) [k] v4 v5)=R→bJ [some (.d (a9 W)),some (.l (ns.map .int)),some (.d (.int k)),v3,v4,v5]=R:=fun R hR=>by
        rw [←hR]
        simp only [zE,List.map_set]
        generalize ns.getD k.toNat 0=y1 at*
        simp? [bJ,a1,c,pz,jx,hix]
      rcases wh with ⟨e',h3,hK⟩ | ⟨e',h3,hQ⟩
      · obtain⟨hW⟩:=hK
        exact .inl ⟨_,dW _ h3,aY,.mk hW.ok⟩
      · exact .inr ⟨_,dW _ h3,hQ⟩
    · refine .inl ⟨_,?_,aY,ZI.mk (v2:=some (.d (.int k))) (v3:=v3) (v4:=v4) (v5:=v5) hN⟩
      generalize ns.getD k.toNat 0=y1 at*
      simp? [bJ,a1,c]) (.mk n0)
  have hi5:fM [some (.d (a9 W)),some (.l ((List.replicate W.things.toNat (-1:Int)).map .int)),none,none,none,none]=some (aL 0 W.things.toNat,[],[some (.d (a9 W)),some (.l ((List.replicate W.things.toNat (-1:Int)).map .int)),none,none,none,none]):=bg (n:=W.things) (by simp? [g0]) (by lia) (by lia)
  have hg:=fun Wl=>bX (W:=Wl) (g:=ag 2) (f:=bJ) hi5
  generalize (List.replicate W.things.toNat (-1:Int)).map PyData.int=RR at*
  rcases loop with ⟨e',h3,hI⟩ | ⟨e',h3,hQ⟩
  · obtain⟨hN⟩:=hI
    rename_i ns v2 v3 v4 v5
    rw [h3] at hg
    refine⟨.tuple (ns.map .int),?_,.inr ⟨ns,rfl,hN.len⟩⟩
    simp? [cz,eN,hv,hg]
  · obtain⟨⟩:=hQ
    rw [h3] at hg
    refine⟨.none,?_,.inl rfl⟩
    simp? [cz,eN,hv,hg]
theorem ky{xs:List PyData}{lo hi:Option Int}:(L2.cutD xs lo hi).length≤xs.length:=by
  unfold L2.cutD
  rw [List.length_take,List.length_drop]
  lia
abbrev k_(ds:List Int)(W:bE)(v2:Option Sv)(rows found:List PyData)(v5 v6 v7:Option Sv):En:=[some (.l (ds.map .int)),some (.d (a9 W)),v2,some (.l rows),some (.l found),v5,v6,v7]
def Ab(d:PyData):Prop:=∃ns:List Int,d=.tuple (ns.map .int)∧ns.length≤12
inductive RK (ds:List Int) (W:bE) (v2:Option Sv) (rows:List PyData) (row:PyData) (at_:Int) (b:Nat) (i:Nat):En→Prop
  | mk {found v7} (hl:found.length≤b+i):RK ds W v2 rows row at_ b i (k_ ds W v2 rows found (some (.d row)) (some (.d (.int at_))) v7)
inductive A0 (W:bE) (v2:Option Sv) (rows:List PyData) (i:Nat):En→Prop
  | mk {ds found v5 v6 v7} (hd:dI ds) (hl:found.length≤20*i):A0 W v2 rows i (k_ ds W v2 rows found v5 v6 v7)
def sS:List PyData:=[.int 0,.int 1,.int 2,.int (-1),.bool true,.bool false,.none,.str "1",.tuple [.int 1],.list [.int 0],.dict [(.int 0,.int 1)]]
theorem j_{ds:List Int}{W:bE}{v2:Option Sv}{rows found:List PyData}{v6 v7:Option Sv}{ns:List Int}(hn:ns.length≤12)(hd:dI ds)(hl:found.length≤1000):
    ∃e',eM (k_ ds W v2 rows found (some (.d (.tuple (ns.map .int)))) v6 v7)=some (.nx e')∧∃ds' found' v6 v7,e'=k_ ds' W v2 rows found' (some (.d (.tuple (ns.map .int)))) v6 v7∧dI ds'∧found'.length≤found.length+20:=by
  obtain⟨n,d1,t1,n0, -,hd1⟩:=cu hd
  have lp:0 < (ns.length:Int)+1:=by lia
  have gm:∀e:En,aD e (.d (.int n)) (.d (.int ((ns.length:Int)+1)))=some (.d (.int (n % ((ns.length:Int)+1)))):=fun e=>ap lp
  have q0:=i7 (n:=n) lp;have q1:=i8 (n:=n) lp
  generalize n % ((ns.length:Int)+1)=at_ at*
  obtain⟨t',hf⟩:=el (cs:=[]) (ft:=b7) (fe:=gF) (b:=fun _=>true) (y:=fun x=>match x with | PyData.int i=>.bool (i==1) | _=>.none) (ns.map .int) none [] (fun x hx=>rfl) (fun x hx _=>by
    obtain⟨i,_,rfl⟩:=List.mem_map.mp hx
    have ge:∀e:En,cg false e (.d (.int i)) (.d (.int 1))=some (.d (.bool (i==1))):=fun e=>by rw [fx];rfl
    simp? [gF,ge]) (by simp;lia)
  have lnn:(ns.map PyData.int).length=ns.length:=by simp
  have hv:=fun(v4 v6 v7:Option Sv)=>dX (cp:=[]) (nT:=1) (fi:=lS) (g:=ag 0) (ft:=b7) (fe:=gF) (e:=[some (.l (d1.map .int)),some (.d (a9 W)),v2,some (.l rows),v4,some (.d (.tuple (ns.map .int))),v6,v7]) (e1:=[some (.l (d1.map .int)),some (.d (a9 W)),v2,some (.l rows),v4,some (.d (.tuple (ns.map .int))),v6,v7]) (cs:=[]) (t:=[none]) (t':=[t']) rfl rfl rfl hf
  generalize ([]++((ns.map PyData.int).filter fun _=>true).map fun x=>match x with | PyData.int i=>PyData.bool (i==1) | _=>.none)=M at*
  generalize ns.map PyData.int=NN at*
  obtain⟨e3,h3,hK⟩:=bo (own:=[]) (g:=ag 7) (f:=gv) (RK d1 W v2 rows (.tuple NN) at_ (found.length+1)) sS 0 (k_ d1 W v2 rows (found++[.tuple NN]) (some (.d (.tuple NN))) (some (.d (.int at_))) v7) (fun i x e hx hK=>by
    obtain⟨hl'⟩:=hK
    rename_i fd v7
    have ilt:=(List.getElem?_eq_some_iff.mp hx).1
    have i11:i < 11:=ilt
    have c1:=ky (xs:=NN) (lo:=none) (hi:=some at_)
    have c2:=ky (xs:=NN) (lo:=some (at_+1)) (hi:=none)
    have g1:∀e:En,aU e (.d (.tuple (L2.cutD NN none (some at_)))) (.d (.tuple [x]))=some (.d (.tuple (L2.cutD NN none (some at_)++[x]))):=fun e=>eC (by simp;lia)
    have g2:∀e:En,aU e (.d (.tuple (L2.cutD NN none (some at_)++[x]))) (.d (.tuple (L2.cutD NN (some (at_+1)) none)))=some (.d (.tuple (L2.cutD NN none (some at_)++[x]++L2.cutD NN (some (at_+1)) none))):=fun e=>eC (by simp;lia)
    have lf:fd.length < 1000000:=by lia
    refine⟨k_ d1 W v2 rows fd (some (.d (.tuple NN))) (some (.d (.int at_))) (some (.d x)),k_ d1 W v2 rows (fd++[.tuple (L2.cutD NN none (some at_)++[x]++L2.cutD NN (some (at_+1)) none)]) (some (.d (.tuple NN))) (some (.d (.int at_))) (some (.d x)),rfl,?_,aY,.mk (by rw [List.length_append];simp only [List.length_cons,List.length_nil];lia)⟩
    generalize hA:L2.cutD NN none (some at_)=A at*
    generalize hB:L2.cutD NN (some (at_+1)) none=B at*
    generalize hAx:A++[x]=AX at*
    generalize AX++B=AB at*
    simp only [k_]
    simp? [gv,hA,hB,g1,g2,lf, -cf,cf]) (.mk (by simp))
  obtain⟨hl3⟩:=hK
  rename_i fd w7
  have l11:sS.length=11:=rfl
  rw [l11] at hl3
  have hi:∀(found:List PyData) (v7:Option Sv),jd (k_ d1 W v2 rows found (some (.d (.tuple NN))) (some (.d (.int at_))) v7)=some (sS,[],k_ d1 W v2 rows found (some (.d (.tuple NN))) (some (.d (.int at_))) v7):=fun found v7=>by
    unfold jd
    refine qm ?_
    simp? [k_,sS,jB]
  have hg:=fun Wl=>bX (W:=Wl) (g:=ag 7) (f:=gv) (hi (found++[.tuple NN]) v7)
  rw [h3] at hg
  have lf:found.length < 1000000:=by lia
  have g0:∀e:En,aU e (.d (.tuple NN)) (.d (.tuple [.int 0]))=some (.d (.tuple (NN++[.int 0]))):=fun e=>eC (by simp;lia)
  have gr:∀e:En,Aj e (.d (.tuple NN)) (.d (.int (-1)))=some (.d (.tuple NN.reverse)):=fun e=>rfl
  have gl:∀e:En,g1 oe e [.d (.tuple NN)]=some (.l NN):=fun e=>rfl
  have ca:∀(e:En) (xs ys:List PyData),e[4]?=some (some (.l xs))→xs.length+ys.length≤1000000→aU e (.s 4) (.l ys)=some (.l (xs++ys)):=fun e xs ys he h=>kJ he h
  have lc:fd.length+6≤1000000:=by lia
  refine⟨_,?_,d1,fd++[.tuple M,.tuple (NN++[.int 0]),.tuple (L2.cutD NN (some 1) none),.list NN,.tuple [.tuple NN],.tuple NN.reverse],some (.d (.int at_)),w7,rfl,hd1,by rw [List.length_append];simp only [List.length_cons,List.length_nil];lia⟩
  generalize hC1:L2.cutD NN (some 1) none=C1 at*
  simp only [k_] at hg ⊢
  generalize hNZ:NN++[PyData.int 0]=NZ at*
  generalize NN.reverse=NR at*
  simp? [eM,t1,lf,lnn,gm,hg,hv,g0,gl,gr,ca,lc,hC1,zL]
theorem xB{W:bE}(ok:W.Ok){ds:List Int}(hd:dI ds):∃(ds':List Int) (L:List PyData),ik [.l (ds.map .int),.d (a9 W)]=some (.l L,[.l (ds'.map .int),.d (a9 W)])∧dI ds'∧L.length≤100:=by
  have t12:=ok.t1
  have t00:=ok.t0
  have g0:=zX (W:=W)
  obtain⟨d,ts,hdd⟩:=mD ok
  obtain⟨out,e',h1,h2,h3,⟨d1,v,he,hd1⟩⟩:=ib (g:=ag 1) (ft:=b7) (fe:=fw) (fun i e=>∃ds v,e=[some (.l (ds.map .int)),v]∧dI ds) (fun d=>∃i:Int,d=.int i) (aL 0 W.things.toNat) 0 [some (.l (ds.map .int)),none] [] (fun i x e hx ⟨ds,v,he,hd⟩=>by
    subst he
    obtain⟨n,d2,t1, -, -,hd2⟩:=cu hd
    refine⟨_,.d (.int (n % 2)),.int (n % 2),_,rfl,rfl,?_,rfl,⟨_,rfl⟩,d2,some (.d x),rfl,hd2⟩
    simp? [fw,t1,ap]) ⟨ds,none,rfl,hd⟩ (by rw [a_];simp;lia)
  subst he
  rw [List.nil_append] at h1
  rw [a_] at h2
  have r0:∃ns:List Int,out=ns.map .int:=by
    clear h1 h2
    induction out with
    | nil=>exact⟨[],rfl⟩
    | cons x r ih=>
      obtain⟨ns,e⟩:=ih fun d hd=>h3 d (by simp [hd])
      obtain⟨i,rfl⟩:=h3 x (by simp)
      exact⟨i::ns,by rw [e];rfl⟩
  obtain⟨ns0,rfl⟩:=r0
  have l0:ns0.length≤12:=by simp at h2;lia
  have hi9:∀(v2 v3 v4 v5 v6 v7:Option Sv),gJ [some (.l (ds.map .int)),some (.d (a9 W)),v2,v3,v4,v5,v6,v7]=some (aL 0 W.things.toNat,[],[some (.l (ds.map .int)),some (.d (a9 W)),v2,v3,v4,v5,v6,v7]):=fun v2 v3 v4 v5 v6 v7=>bg (n:=W.things) (by simp? [g0]) (by lia) (by lia)
  have hv:cJ [(0,"_law_numbers")] 1 gJ (ag 1) b7 fw [some (.l (ds.map .int)),some (.d (a9 W)),some (.d d),none,none,none,none,none]=some (.l (ns0.map .int),[some (.l (d1.map .int)),some (.d (a9 W)),some (.d d),none,none,none,none,none]):=by
    rw [kg (cp:=[(0,"_law_numbers")]) (nT:=1) (fi:=gJ) (e:=[some (.l (ds.map .int)),some (.d (a9 W)),some (.d d),none,none,none,none,none]) (e1:=[some (.l (ds.map .int)),some (.d (a9 W)),some (.d d),none,none,none,none,none]) (items:=aL 0 W.things.toNat) (hi9 _ _ _ _ _ _) h1 rfl]
    rfl
  have main:∀(rows:List PyData),rows.length≤3→(∀r∈rows,Ab r)→∃(d2:List Int) (L:List PyData) (w5 w6 w7:Option Sv),(∀Wl:List Nat,Wl.contains 3=false→bS Wl je (ag 5) eM (k_ d1 W (some (.d d)) rows [] none none none)=some (.nx (k_ d2 W (some (.d d)) rows L w5 w6 w7)))∧dI d2∧L.length≤100:=fun rows hr hR=>by
    obtain⟨e3,h3,hI⟩:=bo (own:=[(3,rows)]) (g:=ag 5) (f:=eM) (A0 W (some (.d d)) rows) rows 0 (k_ d1 W (some (.d d)) rows [] none none none) (fun i x e hx hI=>by
      obtain⟨hd,hl⟩:=hI
      rename_i ds found v5 v6 v7
      have ilt:=(List.getElem?_eq_some_iff.mp hx).1
      obtain⟨ns,rfl,hn⟩:=hR x (List.mem_of_getElem? hx)
      obtain⟨e',h4,ds',found',v6',v7',rfl,hd',hl'⟩:=j_ (ds:=ds) (W:=W) (v2:=some (.d d)) (rows:=rows) (found:=found) (v6:=v6) (v7:=v7) (ns:=ns) hn hd (by lia)
      exact⟨_,_,rfl,h4,fun p hp=>by simp at hp;subst hp;rfl,.mk hd' (by lia)⟩) (.mk hd1 (by simp))
    obtain⟨hd2,hl2⟩:=hI
    rename_i d2 L w5 w6 w7
    refine⟨d2,L,w5,w6,w7,fun Wl hW=>?_,hd2,by lia⟩
    unfold bS
    rw [show je (k_ d1 W (some (.d d)) rows [] none none none)=some (rows,[(3,rows)],k_ d1 W (some (.d d)) rows [] none none none) from rfl]
    simp only [Option.bind_some,List.all_cons,List.all_nil,hW,Bool.not_false,Bool.and_true,if_true]
    exact h3
  have ca:∀(e:En) (xs ys:List PyData),e[3]?=some (some (.l xs))→xs.length+ys.length≤1000000→aU e (.s 3) (.l ys)=some (.l (xs++ys)):=fun e xs ys he h=>kJ he h
  rcases hdd with rfl | ⟨ns,rfl,hns⟩
  · obtain⟨d2,L,w5,w6,w7,hf,hd2,hl⟩:=main [.tuple (ns0.map .int)] (by simp) (fun r hr=>by simp at hr;exact⟨ns0,hr,l0⟩)
    refine⟨d2,L,?_,hd2,hl⟩
    have gi:∀e:En,eS e (.d .none) (.d .none)=some (.d (.bool false)):=fun e=>rfl
    simp only [k_] at hf
    generalize ns0.map PyData.int=N0 at*
    simp? [ik,mT,ts,hv,gi,hf]
  · obtain⟨t',hf8⟩:=el (cs:=[]) (ft:=b7) (fe:=gG) (b:=fun _=>true) (y:=fun x=>match x with | PyData.int i=>.int (1 - i) | _=>.none) (ns.map .int) none [] (fun x hx=>rfl) (fun x hx _=>by
      obtain⟨i,_,rfl⟩:=List.mem_map.mp hx
      simp? [gG]) (by simp;lia)
    have e8:([]++((ns.map PyData.int).filter fun _=>true).map fun x=>match x with | PyData.int i=>PyData.int (1 - i) | _=>.none)=(ns.map fun i=>1 - i).map .int:=by
      rw [List.nil_append,List.filter_eq_self.mpr (fun _ _=>rfl),List.map_map,List.map_map]
      rfl
    rw [e8] at hf8
    have hv8:=fun(v3:Option Sv)=>dX (cp:=[]) (nT:=1) (fi:=lT) (g:=ag 0) (ft:=b7) (fe:=gG) (e:=[some (.l (d1.map .int)),some (.d (a9 W)),some (.d (.tuple (ns.map .int))),v3,none,none,none,none]) (e1:=[some (.l (d1.map .int)),some (.d (a9 W)),some (.d (.tuple (ns.map .int))),v3,none,none,none,none]) (cs:=[]) (t:=[none]) (t':=[t']) rfl rfl rfl hf8
    obtain⟨d2,L,w5,w6,w7,hf,hd2,hl⟩:=main ([.tuple (ns0.map .int)]++[.tuple (ns.map .int),.tuple ((ns.map fun i=>1 - i).map .int)]) (by simp) (fun r hr=>by
      simp only [List.cons_append,List.nil_append,List.mem_cons,List.not_mem_nil,or_false] at hr
      rcases hr with rfl | rfl | rfl
      · exact⟨ns0,rfl,l0⟩
      · exact⟨ns,rfl,by lia⟩
      · exact⟨_,rfl,by simp;lia⟩)
    refine⟨d2,L,?_,hd2,hl⟩
    have gi:∀(e:En) (xs:List PyData),eS e (.d (.tuple xs)) (.d .none)=some (.d (.bool true)):=fun e xs=>rfl
    simp only [k_] at hf
    generalize (ns.map fun i=>1 - i).map PyData.int=N1 at*
    generalize ns0.map PyData.int=N0 at*
    generalize ns.map PyData.int=NN at*
    generalize hRR:[PyData.tuple N0]++[PyData.tuple NN,PyData.tuple N1]=RR at*
    simp? [ik,mT,ts,hv,gi,hv8,ca,hRR,hf]
abbrev jg(ns ds:List Int)(v2 v3 v4:Option Sv)(W:bE)(L:List PyData)(v7:Option Sv):En:=[some (.d (.list (ns.map .int))),some (.l (ds.map .int)),v2,v3,v4,some (.d (a9 W)),some (.l L),v7]
inductive LI (ns:List Int):En→Prop
  | mk {ds v2 v3 v4 v5 v6 v7} (hd:dI ds):LI ns [some (.d (.list (ns.map .int))),some (.l (ds.map .int)),v2,v3,v4,v5,v6,v7]
theorem qu(ns:List Int)(hl:ns.length≤63):∃as',ji [.d (.list (ns.map .int))]=some (.d (.bool true),as'):=by
  obtain⟨ds,td,hd⟩:=um ns hl
  have W0:(bE.mk 0 [] [] 0).Ok:=⟨by decide,by decide,(fun t h=>by cases h),by decide,rfl,(fun p h=>by cases h),by decide,by decide⟩
  have s1:=lh W0 (.tuple [])
  have s2:=lh W0 (.tuple [.int 0])
  rw [show kb (bE.mk 0 [] [] 0) (.tuple [])=true from rfl] at s1
  rw [show kb (bE.mk 0 [] [] 0) (.tuple [.int 0])=false from rfl] at s2
  rw [show a9 (bE.mk 0 [] [] 0)=.tuple [.int 0,.tuple [],.tuple [],.int 0] from rfl] at s1 s2
  have it:∀b:Bool,∀e:En,eS e (.d (.bool b)) (.d (.bool b))=some (.d (.bool false)):=fun b e=>by cases b<;>rfl
  obtain⟨e2,h1,hI⟩:=bo (own:=[]) (g:=ag 2) (f:=zT) (fun _=>LI ns) (aL 0 (2+min 5 (ns.length:Int)).toNat) 0 [some (.d (.list (ns.map .int))),some (.l (ds.map .int)),none,none,none,none,none,none] (fun i x e hx hI=>by
    obtain⟨hd⟩:=hI
    rename_i ds v2 v3 v4 v5 v6 v7
    obtain⟨n,d1,t1, -, -,hd1⟩:=cu hd
    have gn:∀e:En,aD e (.d (.int n)) (.d (.int 2))=some (.d (.int (n % 2))):=fun e=>ap (by decide)
    have q0:=i7 (n:=n) (k:=2) (by decide);have q1:=i8 (n:=n) (k:=2) (by decide)
    generalize n % 2=r at*
    obtain⟨z,hz,ha⟩:=fR (xs:=[PyData.tuple [.int 8,.int 10],.tuple [.int 12,.int 16]]) (i:=r) q0 (by simpa using q1)
    obtain⟨most,many,rfl,m0,m1,k0,k1⟩:∃a b:Int,z=.tuple [.int a,.int b]∧2≤a∧a≤12∧0≤b∧b≤16:=by
      simp only [List.mem_cons,List.not_mem_nil,or_false] at hz
      rcases hz with rfl | rfl<;>exact⟨_,_,rfl,by decide,by decide,by decide,by decide⟩
    obtain⟨W,d2,tw,hd2,ok⟩:=nF d1 most many hd1 m0 m1 k0 k1
    obtain⟨d3,L,tr,hd3,lL⟩:=xB ok hd2
    obtain⟨out,e',c1,c2,_,⟨d4,v,he,hd4⟩⟩:=ib (g:=ag 1) (ft:=b7) (fe:=zU) (fun i e=>∃ds v,e=[some (.l (ds.map .int)),v]∧dI ds) (fun _=>True) (aL 0 4) 0 [some (.l (d3.map .int)),none] [] (fun i x e hx ⟨ds,v,he,hd⟩=>by
      subst he
      obtain⟨n,d2,t1, -, -,hd2⟩:=cu hd
      obtain⟨o,ho,w1⟩:=zF n
      refine⟨_,.d o,o,_,rfl,rfl,?_,rfl,trivial,d2,some (.d x),rfl,hd2⟩
      simp? [zU,t1,w1]) ⟨d3,none,rfl,hd3⟩ (by rw [a_];simp)
    subst he
    rw [List.nil_append] at c1
    rw [a_] at c2
    have hv:cJ [(1,"_law_numbers")] 1 Aq (ag 1) b7 zU [some (.d (.list (ns.map .int))),some (.l (d3.map .int)),some (.d x),some (.d (.int most)),some (.d (.int many)),some (.d (a9 W)),v6,v7]=some (.l out,[some (.d (.list (ns.map .int))),some (.l (d4.map .int)),some (.d x),some (.d (.int most)),some (.d (.int many)),some (.d (a9 W)),v6,v7]):=by
      rw [kg (cp:=[(1,"_law_numbers")]) (nT:=1) (fi:=Aq) (e:=[some (.d (.list (ns.map .int))),some (.l (d3.map .int)),some (.d x),some (.d (.int most)),some (.d (.int many)),some (.d (a9 W)),v6,v7]) (e1:=[some (.d (.list (ns.map .int))),some (.l (d3.map .int)),some (.d x),some (.d (.int most)),some (.d (.int many)),some (.d (a9 W)),v6,v7]) (items:=aL 0 4) rfl c1 rfl]
      refine congrArg (fun z=>some (Rv.l out,z)) ?_
      rcases v6 with _ | (_ | _ | _)<;>rcases v7 with _ | (_ | _ | _)<;>rfl
    have gc:∀e:En,aU e (.l L) (.l out)=some (.l (L++out)):=fun e=>sG (by lia)
    generalize hT2:L++out=T2 at*
    obtain⟨e3,h3,⟨w7,he3⟩⟩:=bo (own:=[(6,T2)]) (g:=ag 7) (f:=zS) (fun i e=>∃v7,e=jg ns d4 (some (.d x)) (some (.d (.int most))) (some (.d (.int many))) W T2 v7) T2 0 (jg ns d4 (some (.d x)) (some (.d (.int most))) (some (.d (.int many))) W T2 v7) (fun i y e hy ⟨v7,he⟩=>by
      subst he
      have r1:=lh ok y
      have r2:=mC ok y
      have r3:=xC (kb W y) (kb W y)
      rw [beq_self_eq_true] at r3
      generalize kb W y=b at*
      refine⟨jg ns d4 (some (.d x)) (some (.d (.int most))) (some (.d (.int many))) W T2 (some (.d y)),jg ns d4 (some (.d x)) (some (.d (.int most))) (some (.d (.int many))) W T2 (some (.d y)),rfl,?_,fun p hp=>by simp at hp;subst hp;rfl,_,rfl⟩
      simp only [jg]
      simp? [zS,r1,r2,r3]) ⟨v7,rfl⟩
    subst he3
    have hf:bS [7] Ap (ag 7) zS (jg ns d4 (some (.d x)) (some (.d (.int most))) (some (.d (.int many))) W T2 v7)=some (.nx (jg ns d4 (some (.d x)) (some (.d (.int most))) (some (.d (.int many))) W T2 w7)):=by
      unfold bS
      rw [show Ap (jg ns d4 (some (.d x)) (some (.d (.int most))) (some (.d (.int many))) W T2 v7)=some (T2,[(6,T2)],jg ns d4 (some (.d x)) (some (.d (.int most))) (some (.d (.int many))) W T2 v7) from rfl]
      exact h3
    refine⟨[some (.d (.list (ns.map .int))),some (.l (ds.map .int)),some (.d x),v3,v4,v5,v6,v7],jg ns d4 (some (.d x)) (some (.d (.int most))) (some (.d (.int many))) W T2 w7,rfl,?_,aY,.mk hd4⟩
    simp only [jg] at hf ⊢
    simp? [zT,t1,gn,ha,tw,tr,hv,gc,hf,s1,s2,it]) (.mk hd)
  obtain⟨hd2⟩:=hI
  rename_i ds2 v2 v3 v4 v5 v6 v7
  have hi:A9 [some (.d (.list (ns.map .int))),some (.l (ds.map .int)),none,none,none,none,none,none]=some (aL 0 (2+min 5 (ns.length:Int)).toNat,[],[some (.d (.list (ns.map .int))),some (.l (ds.map .int)),none,none,none,none,none,none]):=bg (n:=2+min 5 (ns.length:Int)) (by simp? [List.replicate]) (by lia) (by lia)
  have hfor:=fun Wl=>bX (W:=Wl) (g:=ag 2) (f:=zT) hi
  rw [h1] at hfor
  simp? [ji,uH,td,hfor]
def kE(P:Params)(k:Str)(t:Tok)(v:Value):DictEntry:=⟨PyData.keyHash P k,.str k t,v⟩
def kF(n:Str)(s:Stmt)(doc pm:Value)(c:Addr):Obj:=⟨.type "function",none,.func (W.fnOf n n (cF s) (bV s) (aj s) .none .none doc pm none (.ref c) .none),#[]⟩
def kI(n:Int):Value:=.int n 0
def kC(n:Str)(a:Nat)(l:List Value)(z:Nat):Obj:=⟨.type "code",none,.fields (Value.str n a::Value.str n (a+1)::Value.str "/claim/cut.py" (a+2)::l++[Value.str "/claim/cut.py" z]).toArray,#[]⟩
def xN:Value:=.str "askedpairs.forms" 187
def A_:Value:=.str "askedpairs.sidepaper" 213
def em:Value:=.str "law_askedpairs_k61_sides_of_anything" 221
def kK(P:Params):W.Frag:=[(3,⟨.type "dict",none,.dict (List.toArray [kE P "__name__" 165 (.str "law_askedpairs_k61_sides_of_anything" 221),kE P "__doc__" 166 (.none),kE P "__package__" 167 (.none),kE P "__loader__" 168 (.builtin "__main__.__loader__#opaque"),kE P "__spec__" 169 (.none),kE P "__annotations__" 170 (.ref 6),kE P "__builtins__" 171 (.ref 4),kE P "__file__" 173 (.str "/claim/cut.py" 172),kE P "__cached__" 174 (.none),kE P "is_number" 195 (.ref 21),kE P "is_number_within" 204 (.ref 28),kE P "is_row_of" 212 (.ref 35),kE P "sides_hold" 220 (.ref 40),kE P "_law_mixed" 231 (.ref 47),kE P "_law_draws" 242 (.ref 54),kE P "_law_next" 249 (.ref 61),kE P "_law_gcd" 257 (.ref 68),kE P "_law_low" 266 (.ref 75),kE P "_law_says" 274 (.ref 82),kE P "_law_chance" 283 (.ref 89),kE P "_law_worth" 291 (.ref 96),kE P "_law_ties" 310 (.ref 103),kE P "_law_web" 326 (.ref 110),kE P "_law_odd" 334 (.ref 117),kE P "_law_two_sided" 340 (.ref 122),kE P "_law_mates" 353 (.ref 129),kE P "_law_are_sides" 359 (.ref 134),kE P "_law_is_ring" 365 (.ref 139),kE P "_law_across" 382 (.ref 146),kE P "_law_renamed" 399 (.ref 153),kE P "_law_round" 412 (.ref 160),kE P "_law_side_web" 425 (.ref 167),kE P "_law_rows" 431 (.ref 172),kE P "law" 437 (.ref 177)]) 34,#[]⟩),
  (21,kF "is_number" de (.none) xN 20),
  (20,kC "is_number" 189 [kI 2,kI 1,kI 0,kI 0,kI 3,.ref 15,.bool true,kI 181,.ref 16,.none,.ref 17,.ref 18,.ref 19,kI 193,kI 2] 194),
  (28,kF "is_number_within" bh (.none) xN 27),
  (27,kC "is_number_within" 196 [kI 4,kI 3,kI 0,kI 0,kI 3,.ref 22,.bool true,kI 181,.ref 23,.none,.ref 24,.ref 25,.ref 26,kI 202,kI 4] 203),
  (35,kF "is_row_of" df (.none) xN 34),
  (34,kC "is_row_of" 205 [kI 6,kI 2,kI 0,kI 0,kI 3,.ref 29,.bool true,kI 181,.ref 30,.none,.ref 31,.ref 32,.ref 33,kI 210,kI 6] 211),
  (40,kF "sides_hold" bD (.none) A_ 39),
  (39,kC "sides_hold" 215 [kI 9,kI 2,kI 0,kI 0,kI 3,.ref 36,.bool true,kI 181,.ref 37,.none,.none,.none,.ref 38,kI 218,kI 9] 219),
  (47,kF "_law_mixed" gZ (.none) em 46),
  (46,kC "_law_mixed" 223 [kI 14,kI 2,kI 0,kI 0,kI 3,.ref 41,.bool true,kI 181,.ref 42,.none,.ref 43,.ref 44,.ref 45,kI 229,kI 14] 230),
  (54,kF "_law_draws" gX (.none) em 53),
  (53,kC "_law_draws" 232 [kI 17,kI 1,kI 0,kI 0,kI 3,.ref 48,.bool true,kI 181,.ref 49,.none,.ref 50,.ref 51,.ref 52,kI 240,kI 17] 241),
  (61,kF "_law_next" dn (.none) em 60),
  (60,kC "_law_next" 243 [kI 30,kI 1,kI 0,kI 0,kI 3,.ref 55,.bool true,kI 181,.ref 56,.none,.ref 57,.ref 58,.ref 59,kI 247,kI 30] 248),
  (68,kF "_law_gcd" mf (.none) em 67),
  (67,kC "_law_gcd" 250 [kI 34,kI 2,kI 0,kI 0,kI 3,.ref 62,.bool true,kI 181,.ref 63,.none,.ref 64,.ref 65,.ref 66,kI 255,kI 34] 256),
  (75,kF "_law_low" mh (.none) em 74),
  (74,kC "_law_low" 258 [kI 38,kI 2,kI 0,kI 0,kI 3,.ref 69,.bool true,kI 181,.ref 70,.none,.ref 71,.ref 72,.ref 73,kI 264,kI 38] 265),
  (82,kF "_law_says" jt (.none) em 81),
  (81,kC "_law_says" 267 [kI 41,kI 2,kI 0,kI 0,kI 3,.ref 76,.bool true,kI 181,.ref 77,.none,.ref 78,.ref 79,.ref 80,kI 272,kI 41] 273),
  (89,kF "_law_chance" dR (.none) em 88),
  (88,kC "_law_chance" 275 [kI 45,kI 2,kI 0,kI 0,kI 3,.ref 83,.bool true,kI 181,.ref 84,.none,.ref 85,.ref 86,.ref 87,kI 281,kI 45] 282),
  (96,kF "_law_worth" eF (.none) em 95),
  (95,kC "_law_worth" 284 [kI 55,kI 2,kI 0,kI 0,kI 3,.ref 90,.bool true,kI 181,.ref 91,.none,.ref 92,.ref 93,.ref 94,kI 289,kI 55] 290),
  (103,kF "_law_ties" iu (.none) em 102),
  (102,kC "_law_ties" 292 [kI 57,kI 3,kI 0,kI 0,kI 3,.ref 97,.bool true,kI 181,.ref 98,.none,.ref 99,.ref 100,.ref 101,kI 308,kI 57] 309),
  (110,kF "_law_web" mj (.none) em 109),
  (109,kC "_law_web" 311 [kI 72,kI 3,kI 0,kI 0,kI 3,.ref 104,.bool true,kI 181,.ref 105,.none,.ref 106,.ref 107,.ref 108,kI 324,kI 72] 325),
  (117,kF "_law_odd" mi (.none) em 116),
  (116,kC "_law_odd" 327 [kI 82,kI 1,kI 0,kI 0,kI 3,.ref 111,.bool true,kI 181,.ref 112,.none,.ref 113,.ref 114,.ref 115,kI 332,kI 82] 333),
  (122,kF "_law_two_sided" cB (.none) em 121),
  (121,kC "_law_two_sided" 335 [kI 86,kI 1,kI 0,kI 0,kI 3,.ref 118,.bool true,kI 181,.ref 119,.none,.none,.none,.ref 120,kI 338,kI 86] 339),
  (129,kF "_law_mates" gY (.none) em 128),
  (128,kC "_law_mates" 341 [kI 101,kI 2,kI 0,kI 0,kI 3,.ref 123,.bool true,kI 181,.ref 124,.none,.ref 125,.ref 126,.ref 127,kI 351,kI 101] 352),
  (134,kF "_law_are_sides" bT (.none) em 133),
  (133,kC "_law_are_sides" 354 [kI 109,kI 2,kI 0,kI 0,kI 3,.ref 130,.bool true,kI 181,.ref 131,.none,.none,.none,.ref 132,kI 357,kI 109] 358),
  (146,kF "_law_across" e_ (.none) em 145),
  (145,kC "_law_across" 366 [kI 123,kI 3,kI 0,kI 0,kI 3,.ref 140,.bool true,kI 181,.ref 141,.none,.ref 142,.ref 143,.ref 144,kI 380,kI 123] 381),
  (153,kF "_law_renamed" dM (.none) em 152),
  (152,kC "_law_renamed" 383 [kI 134,kI 3,kI 0,kI 0,kI 3,.ref 147,.bool true,kI 181,.ref 148,.none,.ref 149,.ref 150,.ref 151,kI 397,kI 134] 398),
  (160,kF "_law_round" g9 (.none) em 159),
  (159,kC "_law_round" 400 [kI 143,kI 3,kI 0,kI 0,kI 3,.ref 154,.bool true,kI 181,.ref 155,.none,.ref 156,.ref 157,.ref 158,kI 410,kI 143] 411),
  (167,kF "_law_side_web" dS (.none) em 166),
  (166,kC "_law_side_web" 413 [kI 150,kI 3,kI 0,kI 0,kI 3,.ref 161,.bool true,kI 181,.ref 162,.none,.ref 163,.ref 164,.ref 165,kI 423,kI 150] 424),
  (172,kF "_law_rows" ff (.none) em 171),
  (171,kC "_law_rows" 426 [kI 164,kI 2,kI 0,kI 0,kI 3,.ref 168,.bool true,kI 181,.ref 169,.none,.none,.none,.ref 170,kI 429,kI 164] 430),
  (177,kF "law" iE (.none) em 176),
  (176,kC "law" 432 [kI 177,kI 1,kI 0,kI 0,kI 3,.ref 173,.bool true,kI 181,.ref 174,.none,.none,.none,.ref 175,kI 435,kI 177] 436)]
def kA:List Addr:=[3,21,20,28,27,35,34,40,39,47,46,54,53,61,60,68,67,75,74,82,81,89,88,96,95,103,102,110,109,117,116,122,121,129,128,134,133,146,145,153,152,160,159,167,166,172,171,177,176]
def kq:Program:={PySem.Challenge.pw_askedpairs_k61_sides_of_anything with main:={PySem.Challenge.pw_askedpairs_k61_sides_of_anything.main with body:=[top 1,top 2,top 3,top 5,top 7,top 8,top 9,top 10,top 11,top 12,top 13,top 14,top 15,top 16,top 17,top 18,top 19,top 20,top 21,top 22,top 23,top 24,top 25,top 26,top 27]}}
def kH:W.Hook:=W.kHook kK kA (fun _=>by kernel_rfl)
theorem left:W.LeftO PySem.Challenge.pw_askedpairs_k61_sides_of_anything kq [] (fun s=>W.xlAt kq [] s&&W.recOk (W.RowW.records (W.OpenRow.toRowW (W.OpenLaw.row PySem.Challenge.rw_askedpairs_k61_sides_of_anything))) s) (W.Hook.obs kH) (W.Hook.val kH) 1746:=fun w=>by kernel_rfl
theorem xO{P:List Value→Prop}(h:∀a0,P [a0]):∀us:List Value,us.length=1→P us:=fun us e=>match us,e with | [a0],_=>h a0
theorem qx{P:List Value→Prop}(h:∀a0 a1,P [a0,a1]):∀us:List Value,us.length=2→P us:=fun us e=>match us,e with | [a0,a1],_=>h a0 a1
theorem vP{P:List Value→Prop}(h:∀a0 a1 a2,P [a0,a1,a2]):∀us:List Value,us.length=3→P us:=fun us e=>match us,e with | [a0,a1,a2],_=>h a0 a1 a2
theorem hm{w:World}{h:Heap}{mg:Str→Option Value}{n:Str}{s:Stmt}{a:Addr}{ps:List Str}(c:Addr)(d p:Value)(X:(kK w.params).In h)(G:h.Ns mainGlobals mg)
    (e:(W.nsIn (kK w.params) mainGlobals n,List.lookup a (kK w.params),W.codeIn (kK w.params) (.ref c) n,W.keepIn (kK w.params) (.ref a))=(some (some (.ref a)),some (kF n s d p c),true,true))
    (b:∀(kV doc pm:Value) (an:Option Addr) (cdv ct:Value) (us:List Value),us.length=ps.length→bindArgs (W.fnOf n n (cF s) (bV s) (aj s) .none kV doc pm an cdv ct) ⟨us,[]⟩=pure (ps.zip us)):
    bi (kK w.params) mg n s a (W.fnOf n n (cF s) (bV s) (aj s) .none .none d p none (.ref c) .none) ps:=vF X G (congrArg (·.1) e) (congrArg (·.2.1) e) (congrArg (·.2.2.1) e) (congrArg (·.2.2.2) e) b
theorem all_mk{l:W.OpenLaw}{w:World}{h:Heap}{mg:Str→Option Value}{fa:Addr}(X:(kK w.params).In h)(G:h.Ns mainGlobals mg)(hfa:mg "law"=some (.ref fa)):
    ∃fd:FuncData,(∀(s:Shared) (v:Value),BindsTo s fd ⟨[v],[]⟩ [("_law_script",v)])∧∀base:Heap,(kK w.params).In base→base.Ns mainGlobals mg→aK l.prog w (kK w.params) mg base bU 7 fa fd ["_law_script"] (b6 (kK w.params) 1 ji):=by
  have e:=hfa.symm.trans (W.mg_of X G (show W.nsIn (kK w.params) mainGlobals "law"=some (some (.ref 177)) by kernel_rfl))
  cases e
  have T:iK mg:=⟨W.mg_none_of X G (show W.nsIn (kK w.params) mainGlobals "abs"=some none by kernel_rfl),W.mg_none_of X G (show W.nsIn (kK w.params) mainGlobals "len"=some none by kernel_rfl),W.mg_none_of X G (show W.nsIn (kK w.params) mainGlobals "min"=some none by kernel_rfl),W.mg_none_of X G (show W.nsIn (kK w.params) mainGlobals "max"=some none by kernel_rfl),W.mg_none_of X G (show W.nsIn (kK w.params) mainGlobals "range"=some none by kernel_rfl),W.mg_none_of X G (show W.nsIn (kK w.params) mainGlobals "tuple"=some none by kernel_rfl),W.mg_none_of X G (show W.nsIn (kK w.params) mainGlobals "int"=some none by kernel_rfl),W.mg_none_of X G (show W.nsIn (kK w.params) mainGlobals "isinstance"=some none by kernel_rfl),W.mg_none_of X G (show W.nsIn (kK w.params) mainGlobals "bool"=some none by kernel_rfl),W.mg_none_of X G (show W.nsIn (kK w.params) mainGlobals "all"=some none by kernel_rfl),W.mg_none_of X G (show W.nsIn (kK w.params) mainGlobals "list"=some none by kernel_rfl)⟩
  have h_is_number:bi (kK w.params) mg "is_number" de 21 _ ["thing"]:=hm 20 (.none) xN X G (by kernel_rfl) fun _ _ _ _ _ _=>xO fun _=>rfl
  have h_is_number_within:bi (kK w.params) mg "is_number_within" bh 28 _ ["thing","low","high"]:=hm 27 (.none) xN X G (by kernel_rfl) fun _ _ _ _ _ _=>vP fun _ _ _=>rfl
  have h_is_row_of:bi (kK w.params) mg "is_row_of" df 35 _ ["thing","many"]:=hm 34 (.none) xN X G (by kernel_rfl) fun _ _ _ _ _ _=>qx fun _ _=>rfl
  have h_sides_hold:bi (kK w.params) mg "sides_hold" bD 40 _ ["web","thing"]:=hm 39 (.none) A_ X G (by kernel_rfl) fun _ _ _ _ _ _=>qx fun _ _=>rfl
  have hLmixed:bi (kK w.params) mg "_law_mixed" gZ 47 _ ["_law_cell","_law_k"]:=hm 46 (.none) em X G (by kernel_rfl) fun _ _ _ _ _ _=>qx fun _ _=>rfl
  have hLdraws:bi (kK w.params) mg "_law_draws" gX 54 _ ["_law_script"]:=hm 53 (.none) em X G (by kernel_rfl) fun _ _ _ _ _ _=>xO fun _=>rfl
  have hLnext:bi (kK w.params) mg "_law_next" dn 61 _ ["_law_drawn"]:=hm 60 (.none) em X G (by kernel_rfl) fun _ _ _ _ _ _=>xO fun _=>rfl
  have hLgcd:bi (kK w.params) mg "_law_gcd" mf 68 _ ["_law_one","_law_other"]:=hm 67 (.none) em X G (by kernel_rfl) fun _ _ _ _ _ _=>qx fun _ _=>rfl
  have hLlow:bi (kK w.params) mg "_law_low" mh 75 _ ["_law_top","_law_bottom"]:=hm 74 (.none) em X G (by kernel_rfl) fun _ _ _ _ _ _=>qx fun _ _=>rfl
  have hLsays:bi (kK w.params) mg "_law_says" jt 82 _ ["_law_found","_law_due"]:=hm 81 (.none) em X G (by kernel_rfl) fun _ _ _ _ _ _=>qx fun _ _=>rfl
  have hLchance:bi (kK w.params) mg "_law_chance" dR 89 _ ["_law_number","_law_kind"]:=hm 88 (.none) em X G (by kernel_rfl) fun _ _ _ _ _ _=>qx fun _ _=>rfl
  have hLworth:bi (kK w.params) mg "_law_worth" eF 96 _ ["_law_number","_law_kind"]:=hm 95 (.none) em X G (by kernel_rfl) fun _ _ _ _ _ _=>qx fun _ _=>rfl
  have hLties:bi (kK w.params) mg "_law_ties" iu 103 _ ["_law_drawn","_law_things","_law_many"]:=hm 102 (.none) em X G (by kernel_rfl) fun _ _ _ _ _ _=>vP fun _ _ _=>rfl
  have hLweb:bi (kK w.params) mg "_law_web" mj 110 _ ["_law_drawn","_law_most","_law_ties_here"]:=hm 109 (.none) em X G (by kernel_rfl) fun _ _ _ _ _ _=>vP fun _ _ _=>rfl
  have hLodd:bi (kK w.params) mg "_law_odd" mi 117 _ ["_law_number"]:=hm 116 (.none) em X G (by kernel_rfl) fun _ _ _ _ _ _=>xO fun _=>rfl
  have hLtwo_sided:bi (kK w.params) mg "_law_two_sided" cB 122 _ ["_law_web_here"]:=hm 121 (.none) em X G (by kernel_rfl) fun _ _ _ _ _ _=>xO fun _=>rfl
  have hLmates:bi (kK w.params) mg "_law_mates" gY 129 _ ["_law_web_here","_law_thing"]:=hm 128 (.none) em X G (by kernel_rfl) fun _ _ _ _ _ _=>qx fun _ _=>rfl
  have hLare_sides:bi (kK w.params) mg "_law_are_sides" bT 134 _ ["_law_web_here","_law_thing"]:=hm 133 (.none) em X G (by kernel_rfl) fun _ _ _ _ _ _=>qx fun _ _=>rfl
  have hLacross:bi (kK w.params) mg "_law_across" e_ 146 _ ["_law_numbers","_law_things","_law_many"]:=hm 145 (.none) em X G (by kernel_rfl) fun _ _ _ _ _ _=>vP fun _ _ _=>rfl
  have hLrenamed:bi (kK w.params) mg "_law_renamed" dM 153 _ ["_law_numbers","_law_things","_law_ties_here"]:=hm 152 (.none) em X G (by kernel_rfl) fun _ _ _ _ _ _=>vP fun _ _ _=>rfl
  have hLround:bi (kK w.params) mg "_law_round" g9 160 _ ["_law_numbers","_law_things","_law_size"]:=hm 159 (.none) em X G (by kernel_rfl) fun _ _ _ _ _ _=>vP fun _ _ _=>rfl
  have hLside_web:bi (kK w.params) mg "_law_side_web" dS 167 _ ["_law_numbers","_law_most","_law_many"]:=hm 166 (.none) em X G (by kernel_rfl) fun _ _ _ _ _ _=>vP fun _ _ _=>rfl
  have hLrows:bi (kK w.params) mg "_law_rows" ff 172 _ ["_law_numbers","_law_web_here"]:=hm 171 (.none) em X G (by kernel_rfl) fun _ _ _ _ _ _=>qx fun _ _=>rfl
  have h_law:bi (kK w.params) mg "law" iE 177 _ ["_law_script"]:=hm 176 (.none) em X G (by kernel_rfl) fun _ _ _ _ _ _=>xO fun _=>rfl
  refine⟨W.fnOf "law" "law" (cF iE) (bV iE) (aj iE) .none .none (.none) em none (.ref 176) .none,fun s v=>.of_eq rfl,fun base _ _=>?_⟩
  have G_is_number:=kX (P:=l.prog) (w:=w) (base:=base) h_is_number T
  have G_is_number_within:=fH (P:=l.prog) (w:=w) (base:=base) h_is_number_within T h_is_number G_is_number
  have G_is_row_of:=kY (P:=l.prog) (w:=w) (base:=base) h_is_row_of T
  have G_sides_hold:=jH (P:=l.prog) (w:=w) (base:=base) h_sides_hold T h_is_row_of G_is_row_of h_is_number_within G_is_number_within
  have GLmixed:=qI (P:=l.prog) (w:=w) (base:=base) hLmixed T
  have GLdraws:=qG (P:=l.prog) (w:=w) (base:=base) hLdraws T hLmixed GLmixed
  have GLnext:=sV (P:=l.prog) (w:=w) (base:=base) hLnext T
  have GLgcd:=vX (P:=l.prog) (w:=w) (base:=base) hLgcd T
  have GLlow:=vY (P:=l.prog) (w:=w) (base:=base) hLlow T hLgcd GLgcd
  have GLsays:=sX (P:=l.prog) (w:=w) (base:=base) hLsays T
  have GLchance:=pb (P:=l.prog) (w:=w) (base:=base) hLchance T hLlow GLlow
  have GLworth:=qK (P:=l.prog) (w:=w) (base:=base) hLworth T
  have GLties:=sY (P:=l.prog) (w:=w) (base:=base) hLties T hLnext GLnext hLchance GLchance hLworth GLworth
  have GLweb:=v0 (P:=l.prog) (w:=w) (base:=base) hLweb T hLties GLties hLnext GLnext
  have GLodd:=vZ (P:=l.prog) (w:=w) (base:=base) hLodd T
  have GLmates:=qH (P:=l.prog) (w:=w) (base:=base) hLmates T
  have GLtwo_sided:=kW (P:=l.prog) (w:=w) (base:=base) hLtwo_sided T hLmates GLmates
  have GLare_sides:=kU (P:=l.prog) (w:=w) (base:=base) hLare_sides T
  have GLacross:=o_ (P:=l.prog) (w:=w) (base:=base) hLacross T hLnext GLnext hLchance GLchance hLworth GLworth
  have GLrenamed:=m_ (P:=l.prog) (w:=w) (base:=base) hLrenamed T hLnext GLnext
  have GLround:=qJ (P:=l.prog) (w:=w) (base:=base) hLround T hLrenamed GLrenamed hLnext GLnext hLchance GLchance hLworth GLworth
  have GLside_web:=l6 (P:=l.prog) (w:=w) (base:=base) hLside_web T hLrenamed GLrenamed hLnext GLnext hLweb GLweb hLacross GLacross hLround GLround hLties GLties
  have GLrows:=sW (P:=l.prog) (w:=w) (base:=base) hLrows T hLtwo_sided GLtwo_sided hLnext GLnext
  have G_law:=v_ (P:=l.prog) (w:=w) (base:=base) h_law T hLdraws GLdraws hLside_web GLside_web hLrows GLrows hLnext GLnext hLodd GLodd hLsays GLsays h_sides_hold G_sides_hold hLare_sides GLare_sides
  exact G_law
def zo(K:W.Frag):Sp:=fun vs H Q _=>∃(a:Addr) (ns:List Int),vs=[.ref a]∧ef K H a (ns.map V.int)∧ns.length≤63∧∀H',Q (.bl true) H'
theorem vN{K:W.Frag}{vs:List V}{H:Hp}{Q:VK}{E:XK}(h:zo K vs H Q E):b6 K 1 ji vs H Q E:=by
  obtain⟨a,ns,rfl,hS,hl,q⟩:=h
  obtain⟨as',hm⟩:=qu ns hl
  exact nD hS hm q
theorem walk{l:W.OpenLaw}{q:Program}{loose:List Str}{XP:(Str→Option Value)→Heap→Prop}{YP:World→Heap→Prop}{d:DefRec}{K:Params→W.Frag}(hn:l.most=some 63)(hdf:d.params.defaults=[])
    (hY:∀(w:World) (h:Heap),YP w h→(K w.params).In h)
    (F:∀(w:World) (mg:Str→Option Value) (fa:Addr) (h:Heap),(K w.params).In h→h.Ns mainGlobals mg→mg d.name=some (.ref fa)→
      ∃fd:FuncData,(∀(s:Shared) (u:Value),BindsTo s fd ⟨[u],[]⟩ [("_law_script",u)])∧∀base:Heap,(K w.params).In base→base.Ns mainGlobals mg→aK l.prog w (K w.params) mg base bU 7 fa fd ["_law_script"] (b6 (K w.params) 1 ji)):
    W.WalkO q loose XP YP l.row.toRowW d [] (fun f vs=>PySem.call f vs):=
  L2.walk_of (n:=63) (k:=7) (x:="_law_script") (CX:=fun _=>bU) (sp:=fun w=>b6 (K w.params) 1 ji) hn (by decide) hdf ⟨rfl,by decide,by decide,rfl⟩ hY F (fun _ _ a ns hl _ hS=>vN ⟨a,ns,rfl,hS,hl,fun _=>rfl⟩) fun _ _ _ _ _ z=>z
end V61
open PySem PySem.W PyProof.Rows
set_option maxRecDepth 100000 in
set_option maxHeartbeats 0 in
theorem PySem.Challenge.cw_askedpairs_k61_sides_of_anything_holds : PySem.Challenge.rw_askedpairs_k61_sides_of_anything.Holds := by
  w_on;o_law
  refine holds_open (q:=V61.kq) (loose:=[]) (Xt:=fun s=>xlAt V61.kq [] s&&recOk (RowW.records (OpenRow.toRowW (OpenLaw.row PySem.Challenge.rw_askedpairs_k61_sides_of_anything))) s) (XP:=XL V61.kq []) (Yf:=Hook.obs V61.kH) (Ya:=Hook.val V61.kH) (YP:=Hook.says V61.kH) (N:=1746) V61.left (Hook.of V61.kH) (Hook.keeps V61.kH) (fun s e=>xl_of s (Bool.and_eq_true_iff.mp e).1) XL.keeps (by rfl) (by rfl) (by rfl) (fun s e=>recFacts_of (Bool.and_eq_true_iff.mp e).2) (by rfl) (by assumption) (by decide+kernel) ⟨rfl,rfl,rfl,rfl,rfl,by decide+kernel⟩ ?hw ?hc
  case hw=>w_witness2
  case hc=>exact V61.walk (l:=PySem.Challenge.rw_askedpairs_k61_sides_of_anything) rfl rfl (fun w h Y=>kIn_of Y) (fun w mg fa h KX G hmg=>V61.all_mk KX G hmg)
