import PyProof.Rows.All
import Wide.All
import OpenK.AllK
import Wide.FinOn
import Lean
import PyProof.EqAt
import PyProof.EqKinds
import PyProof.TupleCall
import PyProof.ReprRoads
import PyProof.IsInstance
import PyProof.IsInstanceH
import PyProof.FitsBits
import PyProof.CompFree
import PyProof.Rows.SumAny
import PyProof.Rows.SortShell
import PyProof.Rows.TupAdd
import PyProof.NeKinds
import PyProof.ConsumeWalk
import PyProof.ZipIter
import PyProof.TupleIter
import PyProof.LayNew
import PyProof.CollectWalk
import PyProof.ListNew
import PyProof.Draws
import PyProof.EnumFor
import PyProof.EnumMake
import PyProof.ListRange
import PyProof.CollectIter
import KE.KRevIter
import PyProof.ListMulRoad
import PyProof.TupleOps
import PyProof.TupleOfStr
import PyProof.WalksMore
import PyProof.FactsAll.range_iterator
import PyProof.IsRules
import PyProof.CompUse
import PyProof.P3In
import PyProof.EqLayable
import KE.KIsAll
import PyProof.Rows.FactsN_isinstance
import PyProof.CallStr
import PyProof.Rows.StrWeight2
import PyProof.Rows.FStr
import PyProof.StrLawsRepr
import PyProof.Rows.SetFrom
import KE.KIntText
import KE.KRevSl
import PyProof.Rows.SeqMore2
import PySem.Challenge.RW_askedpairs_k66_whole_sides_or_ring
set_option Elab.async false
set_option linter.all false
set_option maxRecDepth 100000
namespace L2
open PySem PySem.Spec PyProof.Rows
abbrev en:=Sum Int Str
def oq:en→Value→Bool
  | .inl k,v=>Value.isInt k v
  | .inr x,v=>Value.isStrOf x v
def Gx(w:World):en→Int
  | .inl k=>hashInt k
  | .inr x=>hashStr w x
theorem bM:∀{k:en} {v:Value},oq k v=true→(∃i t,k=Sum.inl i∧v=Value.int i t)∨(∃x t,k=Sum.inr x∧v=Value.str x t)
  | .inl i,v,h=>by
    obtain⟨t,e⟩:=Value.isInt_shape (k:=i) (v:=v) h
    exact .inl ⟨i,t,rfl,e⟩
  | .inr x,v,h=>by
    obtain⟨t,e⟩:=Value.isStrOf_shape (x:=x) (v:=v) h
    exact .inr ⟨x,t,rfl,e⟩
theorem uW(i:Int)(t:Tok):oq (.inl i) (.int i t)=true:=by simp [oq,Value.isInt]
theorem uX(x:Str)(t:Tok):oq (.inr x) (.str x t)=true:=by simp [oq,Value.isStrOf]
theorem Ca(a b:Int):decide ((Sum.inl a:en)=Sum.inl b)=(a==b):=by
  by_cases e:a=b
  · subst e;simp
  · have h:¬(Sum.inl a:en)=Sum.inl b:=fun q=>e (Sum.inl.inj q)
    rw [decide_eq_false h]
    exact(beq_eq_false_iff_ne.mpr e).symm
theorem Cd(a b:Str):decide ((Sum.inr a:en)=Sum.inr b)=decide (a=b):=by
  by_cases e:a=b
  · subst e;simp
  · have h:¬(Sum.inr a:en)=Sum.inr b:=fun q=>e (Sum.inr.inj q)
    rw [decide_eq_false h,decide_eq_false e]
theorem Cb(a:Int)(b:Str):decide ((Sum.inl a:en)=Sum.inr b)=false:=decide_eq_false (fun q=>nomatch q)
theorem Cc(a:Str)(b:Int):decide ((Sum.inr a:en)=Sum.inl b)=false:=decide_eq_false (fun q=>nomatch q)
def cT(prog:Program)(w:World):PySem.KeyKind prog w en where
  is:=oq
  hash:=Gx w
  inj:=fun v a b ha hb=>by
    rcases bM ha with ⟨i,t,rfl,rfl⟩ | ⟨x,t,rfl,rfl⟩
    · rcases bM hb with ⟨j,u,rfl,e⟩ | ⟨y,u,rfl,e⟩
      · injection e with e1 _;rw [e1]
      · exact nomatch e
    · rcases bM hb with ⟨j,u,rfl,e⟩ | ⟨y,u,rfl,e⟩
      · exact nomatch e
      · injection e with e1 _;rw [e1]
  byValue:=fun k v h=>by
    rcases bM h with ⟨i,t,rfl,rfl⟩ | ⟨x,t,rfl,rfl⟩<;>rfl
  pyHash:=fun hv h=>by
    rcases bM hv with ⟨i,t,rfl,rfl⟩ | ⟨x,t,rfl,rfl⟩
    · exact wpAny_pyHash_int h
    · exact wpAny_pyHash_str h
  eqBool:=fun hu hv h=>by
    rcases bM hu with ⟨i,t,rfl,rfl⟩ | ⟨x,t,rfl,rfl⟩
    · rcases bM hv with ⟨j,u,rfl,rfl⟩ | ⟨y,u,rfl,rfl⟩
      · rw [Ca] at h;exact wpAny_eqBool_int h
      · rw [Cb] at h;exact SeqAt.EqAt.int_str i t y u _ _ _ _ h
    · rcases bM hv with ⟨j,u,rfl,rfl⟩ | ⟨y,u,rfl,rfl⟩
      · rw [Cc] at h;exact SeqAt.EqAt.str_int x t j u _ _ _ _ h
      · rw [Cd] at h;exact wpAny_eqBool_str h
  «strs»:=fun k x t v h=>by
    rcases bM h with ⟨i,u,rfl,e⟩ | ⟨y,u,rfl,e⟩
    · exact nomatch e
    · injection e with e1 _
      subst e1
      cases v<;>rfl
theorem qH(prog:Program)(w:World)(i:Int)(t:Tok):(cT prog w).is (.inl i) (.int i t)=true:=uW i t
theorem qI(prog:Program)(w:World)(x:Str)(t:Tok):(cT prog w).is (.inr x) (.str x t)=true:=uX x t
end L2
namespace L2
open PySem PySem.Spec PyProof.Rows
inductive V where
  | non | bl (b:Bool) | int (i:Int) | str (x:Str) | byt (b:Array UInt8) | flt (b:UInt64) | ref (a:Addr) | ty (n:String)
  deriving DecidableEq
def a_:V→Value→Prop
  | .non,u=>u=Value.none
  | .bl b,u=>u=Value.bool b
  | .int i,u=>∃t,u=Value.int i t
  | .str x,u=>∃t,u=Value.str x t
  | .byt b,u=>∃t,u=Value.bytes b t
  | .flt b,u=>∃t,u=Value.float b t
  | .ref a,u=>u=Value.ref a
  | .ty n,u=>u=Value.type n
abbrev aH:List V→List Value→Prop:=Paired a_
theorem aH.length{xs:List V}{us:List Value}(r:aH xs us):xs.length=us.length:=Paired.length r
theorem aH.get:∀{xs:List V} {us:List Value} {i:Nat} {x:V},aH xs us→xs[i]?=some x→∃u,us[i]?=some u∧a_ x u
  | _,_,_,_,.nil,e=>by simp at e
  | _,_,0,_,.cons r _,e=>by simp at e;subst e;exact⟨_,rfl,r⟩
  | _,_,i+1,x,.cons _ t,e=>by
    obtain⟨u,h1,h2⟩:=aH.get (i:=i) (x:=x) t (by simpa using e)
    exact⟨u,by simpa using h1,h2⟩
theorem aH.append:∀{xs ys:List V} {us ws:List Value},aH xs us→aH ys ws→aH (xs++ys) (us++ws)
  | _,_,_,_,.nil,s=>s
  | _,_,_,_,.cons r t,s=>.cons r (aH.append t s)
theorem aH.take:∀{xs:List V} {us:List Value} (n:Nat),aH xs us→aH (xs.take n) (us.take n)
  | _,_,0,_=>.nil
  | _,_,_+1,.nil=>.nil
  | _,_,n+1,.cons r t=>.cons r (aH.take n t)
theorem aH.drop:∀{xs:List V} {us:List Value} (n:Nat),aH xs us→aH (xs.drop n) (us.drop n)
  | _,_,0,r=>r
  | _,_,_+1,.nil=>.nil
  | _,_,n+1,.cons _ t=>aH.drop n t
def nh:Option V→Option Value→Prop
  | some v,some u=>a_ v u
  | none,none=>True
  | _,_=>False
def KV{κ:Type}:List (κ × V)→List (κ × Value)→Prop:=Paired fun(p:κ × V) (q:κ × Value)=>p.1=q.1∧a_ p.2 q.2
def kV:en→V
  | .inl i=>.int i
  | .inr x=>.str x
inductive HO where
  /-- a list -/
  | lst (xs:List V)
  /-- a tuple (never changes) -/
  | tup (xs:List V)
  /-- a dict whose keys are ints and texts; one whose keys are tuples of ints and texts (the empty one is both) -/
  | dK (kvs:List (en × V)) | dT (kvs:List (List en × V))
  /-- a set of ints: its members, its size -/
  | set (S:Int→Bool) (n:Nat)
  /-- an instance of the class at C, its dict at dx, its attributes -/
  | ins (C dx:Addr) (fs:List (Str × V))
  /-- the dict of the instance at x -/
  | own (x:Addr)
  /-- the dict of an exception -/
  | xd (fs:List (Str × V))
  /-- a bound method, f of x -/
  | met (f x:Addr)
  /-- a range object lo, lo + 1, .. below hi -/
  | rng (lo hi:Int)
  /-- a thing that is known to the object (the script; a dict while a loop walks it): read, never written while it is so -/
  | frz (o:Obj) (u:HO)
  /-- a code object's table -/
  | tbl (ps:Array Value)
  /-- any other thing, by what is true of its one object (a def of one's own: SetO a S n := HO.ext fun h => ..) -/
  | ext (φ:Heap→Prop)
abbrev Hp:=Addr→Option HO
def aV(H:Hp)(a:Addr)(o:HO):Hp:=fun b=>if b=a then some o else H b
theorem ax{H:Hp}{a:Addr}{o:HO}:aV H a o a=some o:=by unfold aV;rw [if_pos rfl]
theorem aB{H:Hp}{a b:Addr}{o:HO}(h:b≠a):aV H a o b=H b:=by unfold aV;rw [if_neg h]
theorem Eu{H:Hp}{a b:Addr}{o u:HO}(h:H a=some o)(h':H b=some u)(d:o≠u):a≠b:=by
  intro e;subst e;rw [h] at h';exact d (Option.some.inj h')
theorem dX{H:Hp}{a b:Addr}{o:HO}(h:H a=some o)(h':H b=none):a≠b:=by
  intro e;subst e;rw [h] at h';cases h'
def mh(h:Heap)(a:Addr)(items:Array Value):Prop:=∃o,h.get? a=some o∧o.cls=.type "tuple"∧∃n,o.data=.seq items n∧o.dict=none
theorem mh.tup{h:Heap}{a:Addr}{items:Array Value}(x:mh h a items):IsTup h a items:=let ⟨o,ho,hc,n,hd,_⟩:=x;⟨o,ho,hc,n,hd⟩
theorem mh.new(h:Heap)(items:Array Value):mh (h.push {cls:=.type "tuple",data:=.seq items}) h.objs.size items:=⟨_,Heap.get?_push_size _ rfl,rfl,_,rfl,rfl⟩
section
variable(P:Program)(w:World)
def cG(H:Hp)(h:Heap)(a:Addr):HO→Prop
  | .lst xs=>xs.length≤sizeLine∧∃(its:List Value) (n:Nat),aH xs its∧h.get? a=some {cls:=.type "list",data:=.seq its.toArray n}
  | .tup xs=>xs.length≤sizeLine∧∃its:List Value,aH xs its∧mh h a its.toArray
  | .dK kvs=>kvs.length≤sizeLine∧(a==sysModules)=false∧∃vs,KV kvs vs∧h.DictOf (cT P w) a vs
  | .dT kvs=>kvs.length≤sizeLine∧(a==sysModules)=false∧∃xs:List (List en × Addr × Value),
      Paired (fun(p:List en × V) (q:List en × Addr × Value)=>p.1=q.1∧H q.2.1=some (.tup (p.1.map kV))∧a_ p.2 q.2.2) kvs xs∧
      ∃o es ep,h.get? a=some o∧o.ExactDict∧o.data=.dict es ep∧es.toList=xs.map (entryOfKey (tupleKind (cT P w)))∧(xs.map (·.1)).Nodup
  | .set S n=>h.SetOf (intKind P w) a S n
  | .ins C dx fs=>H dx=some (.own a)∧fs.length≤1000∧dx≠a∧h.get? a=some (PySem.W.instObj C dx)∧
      ∃mA,h.Ns1 dx mA∧(∀f,nh (fs.lookup f) (mA f))∧PySem.Within mA (fs.map (·.1))
  | .own _=>∃o,h.get? a=some o
  | .xd fs=>∃mA,h.Ns1 a mA∧∀f,nh (fs.lookup f) (mA f)
  | .rng lo hi=>∃t u v,h.get? a=some {cls:=.type "range",data:=.fields #[.int lo t,.int hi u,.int 1 v]}
  | .frz o u=>h.get? a=some o∧cG H h a u
  | .tbl ps=>h.get? a=some {cls:=.none,data:=.fields ps}
  | .met f x=>h.get? a=some (PySem.W.methodObj (.ref f) (.ref x))
  | .ext φ=>φ h∧(∃o,h.get? a=some o)∧∀h1 h2:Heap,φ h1→(∀o,h1.get? a=some o→h2.get? a=some o)→φ h2
def jL(H:Hp)(h:Heap):Prop:=∀a o,H a=some o→cG P w H h a o
end
section
variable{P:Program}{w:World}{H H':Hp}{h h':Heap}{a:Addr}{o:HO}
theorem cG.lt(x:cG P w H h a o):a < h.objs.size:=by
  cases o with
  | lst xs=>obtain⟨_,_,_,_,e⟩:=x;exact Heap.lt_size e
  | tup xs=>obtain⟨_,_,_,p⟩:=x;exact p.tup.lt
  | dK kvs=>obtain⟨_,_,_,_,o,_,_,e,_⟩:=x;exact Heap.lt_size e
  | dT kvs=>obtain⟨_,_,_,_,o,_,_,e,_⟩:=x;exact Heap.lt_size e
  | set S n=>obtain⟨o,_,_,_,e,_⟩:=x;exact Heap.lt_size e
  | ins C dx fs=>obtain⟨_,_,_,e,_⟩:=x;exact Heap.lt_size e
  | own y=>obtain⟨_,e⟩:=x;exact Heap.lt_size e
  | xd fs=>obtain⟨_,⟨_,_,_,e,_⟩,_⟩:=x;exact Heap.lt_size e
  | rng lo hi=>obtain⟨_,_,_,e⟩:=x;exact Heap.lt_size e
  | frz ob u=>obtain⟨e,_⟩:=x;exact Heap.lt_size e
  | tbl ps=>exact Heap.lt_size (show h.get? a=some _ from x)
  | met f y=>exact Heap.lt_size (show h.get? a=some _ from x)
  | ext φ=>obtain⟨_,⟨_,e⟩,_⟩:=x;exact Heap.lt_size e
theorem Paired.mapP{α β:Type}{F G:α→β→Prop}:∀{l₁:List α} {l₂:List β},Paired F l₁ l₂→(∀a b,F a b→G a b)→Paired G l₁ l₂
  | _,_,.nil,_=>.nil
  | _,_,.cons r t,f=>.cons (f _ _ r) (Paired.mapP t f)
theorem cG.stay(x:cG P w H h a o)(k:∀b u,(b=a∨H b=some (.own a))→h.get? b=some u→h'.get? b=some u)
    (ho:∀b,H b=some (.own a)→H' b=some (.own a))(ht:∀b xs,H b=some (.tup xs)→H' b=some (.tup xs)):cG P w H' h' a o:=by
  induction o with
  | lst xs=>obtain⟨z,its,n,r,e⟩:=x;exact⟨z,its,n,r,k _ _ (.inl rfl) e⟩
  | tup xs=>obtain⟨z,its,r,ob,e,c⟩:=x;exact⟨z,its,r,ob,k _ _ (.inl rfl) e,c⟩
  | dK kvs=>obtain⟨z,y,vs,r,ob,es,ep,e,c⟩:=x;exact⟨z,y,vs,r,ob,es,ep,k _ _ (.inl rfl) e,c⟩
  | dT kvs=>
    obtain⟨z,y,xs,r,ob,es,ep,e,c⟩:=x
    exact⟨z,y,xs,Paired.mapP r fun p q z=>⟨z.1,ht _ _ z.2.1,z.2.2⟩,ob,es,ep,k _ _ (.inl rfl) e,c⟩
  | set S n=>obtain⟨ob,es,ep,t,e,c⟩:=x;exact⟨ob,es,ep,t,k _ _ (.inl rfl) e,c⟩
  | ins C dx fs=>
    obtain⟨d,z,ne,e,mA,⟨od,es,ep,e2,c⟩,r⟩:=x
    exact⟨ho _ d,z,ne,k _ _ (.inl rfl) e,mA,⟨od,es,ep,k _ _ (.inr d) e2,c⟩,r⟩
  | own y=>obtain⟨ob,e⟩:=x;exact⟨ob,k _ _ (.inl rfl) e⟩
  | xd fs=>obtain⟨mA,⟨od,es,ep,e,c⟩,r⟩:=x;exact⟨mA,⟨od,es,ep,k _ _ (.inl rfl) e,c⟩,r⟩
  | rng lo hi=>obtain⟨t,u,v,e⟩:=x;exact⟨t,u,v,k _ _ (.inl rfl) e⟩
  | frz ob u ih=>obtain⟨e,q⟩:=x;exact⟨k _ _ (.inl rfl) e,ih q⟩
  | tbl ps=>
    have e:h.get? a=some {cls:=.none,data:=.fields ps}:=x
    show h'.get? a=some {cls:=.none,data:=.fields ps}
    exact k a _ (.inl rfl) e
  | met f y=>
    have e:h.get? a=some (PySem.W.methodObj (.ref f) (.ref y)):=x
    show h'.get? a=some (PySem.W.methodObj (.ref f) (.ref y))
    exact k a _ (.inl rfl) e
  | ext φ=>obtain⟨p,⟨o,e⟩,st⟩:=x;exact⟨st _ _ p fun o q=>k _ _ (.inl rfl) q,⟨o,k _ _ (.inl rfl) e⟩,st⟩
theorem jL.lt(x:jL P w H h)(e:H a=some o):a < h.objs.size:=(x a o e).lt
theorem jL.fresh(x:jL P w H h)(e:h.objs.size≤a):H a=none:=by
  cases q:H a with
  | none=>rfl
  | some u=>exact absurd (Nat.lt_of_lt_of_le (x.lt q) e) (Nat.lt_irrefl _)
theorem jL.kept(x:jL P w H h)(k:∀b u,h.get? b=some u→h'.get? b=some u):jL P w H h':=fun a o e=>
  (x a o e).stay (fun b u _ q=>k b u q) (fun _ q=>q) fun _ _ q=>q
theorem jL.laid(x:jL P w H h)(k:∀b u,h.get? b=some u→h'.get? b=some u)(hp:h.objs.size≤a)(new:cG P w (aV H a o) h' a o):jL P w (aV H a o) h':=fun b u e=>by
  have hn:=x.fresh hp
  by_cases hb:b=a
  · subst hb;rw [ax] at e;cases e;exact new
  · rw [aB hb] at e
    exact(x b u e).stay (fun c v _ q=>k c v q) (fun c q=>by rw [aB (dX q hn)];exact q) fun c xs q=>by rw [aB (dX q hn)];exact q
end
def Rd(H:Hp)(a:Addr)(u:HO):Prop:=H a=some u∨∃o,H a=some (.frz o u)
theorem Rd.ok{P:Program}{w:World}{H:Hp}{h:Heap}{a:Addr}{u:HO}(r:Rd H a u)(x:jL P w H h):cG P w H h a u:=by
  rcases r with r | ⟨o,r⟩
  · exact x a u r
  · obtain⟨_,q⟩:=x a _ r
    exact q
def DQ:Option HO→Prop
  | some (.lst _)=>True
  | some (.dK _)=>True
  | some (.dT _)=>True
  | some (.set _ _)=>True
  | some (.ins _ _ _)=>True
  | some (.ext _)=>True
  | _=>False
section
variable{P:Program}{w:World}{H:Hp}{h h':Heap}{x e:Addr}{o':HO}
theorem jL.write(ok:jL P w H h)(mu:DQ (H x))(he:e=x∨H e=some (.own x))(k:∀b u,b≠e→h.get? b=some u→h'.get? b=some u)(heo:∃u,h'.get? e=some u)
    (new:cG P w (aV H x o') h' x o'):jL P w (aV H x o') h':=fun b u q=>by
  have nown:∀c y,H c=some (.own y)→c≠x:=fun c y r z=>by subst z;rw [r] at mu;exact mu
  have ntup:∀c xs,H c=some (.tup xs)→c≠x:=fun c xs r z=>by subst z;rw [r] at mu;exact mu
  by_cases hb:b=x
  · subst hb;rw [ax] at q;cases q;exact new
  · rw [aB hb] at q
    by_cases hbe:b=e
    · have q':H b=some (.own x):=by
        rcases he with z | z
        · exact absurd (hbe.trans z) hb
        · rw [hbe];exact z
      rw [q] at q';cases q'
      obtain⟨v,hv⟩:=heo
      exact⟨v,by rw [hbe];exact hv⟩
    · refine(ok b u q).stay (fun c v hc r=>k c v ?_ r) (fun c r=>by rw [aB (nown c b r)];exact r) fun c xs r=>by rw [aB (ntup c xs r)];exact r
      rcases hc with rfl | hc
      · exact hbe
      · rintro rfl
        rcases he with z | z
        · exact nown c b hc z
        · rw [hc] at z;cases z;exact hb rfl
end
structure Un (fs ex:List Addr) (H H':Hp) (h h':Heap):Prop where
  keep:∀b o,h.get? b=some o→H b=none→b∉fs→b∉ex→h'.get? b=some o
  slot:∀b o,h.get? b=some o→H b=none→b∈fs→b∉ex→∃sl,h'.get? b=some {o with slots:=sl}
  free:∀b o,h.get? b=some o→H b=none→b∉ex→H' b=none
  there:∀b o,h.get? b=some o→b∉ex→∃o',h'.get? b=some o'
  tups:∀b xs,H b=some (.tup xs)→H' b=some (.tup xs)
  frzs:∀b o u,H b=some (.frz o u)→H' b=some (.frz o u)
  tbls:∀b ps,H b=some (.tbl ps)→∃more,H' b=some (.tbl (ps++more))
section
variable{fs fs' ex ex':List Addr}{H H1 H2:Hp}{h h1 h2 h':Heap}{a x e:Addr}{o:HO}
theorem Un.any(u:Un fs ex H H1 h h1){b:Addr}{ob:Obj}(q:h.get? b=some ob)(n:H b=none)(hx:b∉ex):∃sl,h1.get? b=some {ob with slots:=sl}:=by
  by_cases hb:b∈fs
  · exact u.slot b ob q n hb hx
  · exact⟨ob.slots,u.keep b ob q n hb hx⟩
theorem Un.kept(k:∀b u,h.get? b=some u→h'.get? b=some u):Un fs ex H H h h':=
  ⟨fun b ob q _ _ _=>k b ob q,fun b ob q _ _ _=>⟨ob.slots,k b ob q⟩,fun _ _ _ n _=>n,fun b ob q _=>⟨ob,k b ob q⟩,fun _ _ q=>q,fun _ _ _ q=>q,fun _ ps q=>⟨#[],by rw [q];simp⟩⟩
theorem Un.refl:Un fs ex H H h h:=Un.kept fun _ _ q=>q
theorem Un.laid(k:∀b u,h.get? b=some u→h'.get? b=some u)(hp:h.objs.size≤a)(hn:H a=none):Un fs ex H (aV H a o) h h' where
  keep:=fun b u q _ _ _=>k b u q
  slot:=fun b u q _ _ _=>⟨u.slots,k b u q⟩
  free:=fun b u q n _=>by rw [aB (Nat.ne_of_lt (Nat.lt_of_lt_of_le (Heap.lt_size q) hp))];exact n
  there:=fun b u q _=>⟨u,k b u q⟩
  tups:=fun b xs q=>by rw [aB (dX q hn)];exact q
  frzs:=fun b u xs q=>by rw [aB (dX q hn)];exact q
  tbls:=fun b ps q=>⟨#[],by rw [aB (dX q hn),q];simp⟩
theorem Un.write(mu:DQ (H x))(he:e=x∨H e=some (.own x))(k:∀b u,b≠e→h.get? b=some u→h'.get? b=some u)(heo:∃u,h'.get? e=some u):Un fs ex H (aV H x o) h h':=by
  have hx:∀b,H b=none→b≠x:=fun b n z=>by subst z;rw [n] at mu;exact mu
  have hb:∀b,H b=none→b≠e:=fun b n z=>by
    subst z
    rcases he with r | r
    · exact hx b n r
    · rw [n] at r;cases r
  have hm:∀b u,H b=some u→¬DQ (some u)→b≠x:=fun b u q nm z=>by subst z;rw [q] at mu;exact nm mu
  refine⟨fun b u q n _ _=>k b u (hb b n) q,fun b u q n _ _=>⟨u.slots,k b u (hb b n) q⟩,fun b u q n _=>by rw [aB (hx b n)];exact n,fun b u q _=>?_,
    fun b xs q=>by rw [aB (hm b _ q fun z=>z)];exact q,fun b u xs q=>by rw [aB (hm b _ q fun z=>z)];exact q,fun b ps q=>⟨#[],by rw [aB (hm b _ q fun z=>z),q];simp⟩⟩
  by_cases hbe:b=e
  · subst hbe;exact heo
  · exact⟨u,k b u hbe q⟩
end
def FZ(h:Heap)(H:Hp):List Addr:=(List.range h.objs.size).filter fun a=>(H a).isSome
def pA(h:Heap)(H:Hp):Heap:=PySem.W.hideAll h (FZ h H)
theorem uS(h:Heap)(H:Hp):(pA h H).objs.size=h.objs.size:=PySem.W.hideAll_size _ _
theorem wM{h:Heap}{H:Hp}{b:Addr}{o:Obj}(e:h.get? b=some o)(n:H b=none):(pA h H).get? b=some o:=
  PySem.W.hideAll_get _ e fun hm=>by
    have q:(H b).isSome=true:=(List.mem_filter.mp hm).2
    rw [n] at q;simp at q
theorem zx{h:Heap}{H:Hp}{b:Addr}{o:Obj}(e:(pA h H).get? b=some o):h.get? b=some o∧H b=none:=by
  have e':h.get? b=some o:=PySem.W.of_hideAll (FZ h H) e
  refine⟨e',?_⟩
  cases q:H b with
  | none=>rfl
  | some x=>
    have hm:b∈FZ h H:=List.mem_filter.mpr ⟨List.mem_range.mpr (Heap.lt_size e'),by simp [q]⟩
    have z:(pA h H).get? b=none:=PySem.W.hideAll_none (FZ h H) hm
    rw [z] at e;cases e
def oU(g h:Heap)(L:Addr):List (Addr × Obj):=(List.range h.objs.size).filterMap fun a=>if a=L∨(g.get? a).isSome=true then none else(h.get? a).map fun o=>(a,o)
theorem mM{g h:Heap}{L:Addr}{p:Addr × Obj}(hp:p∈oU g h L):p.1≠L∧g.get? p.1=none∧h.get? p.1=some p.2:=by
  obtain⟨b,_,e⟩:=List.mem_filterMap.mp hp
  split at e
  · cases e
  · rename_i hn
    cases q:h.get? b with
    | none=>rw [q] at e;simp at e
    | some u=>
      rw [q] at e
      simp only [Option.map_some,Option.some.injEq] at e
      subst e
      refine⟨fun z=>hn (.inl z),?_,q⟩
      show g.get? b=none
      cases r:g.get? b with
      | none=>rfl
      | some v=>exact(hn (.inr (by simp [r]))).elim
def d_(g h:Heap)(L d:Addr):List (Addr × Obj):=(oU g h L).filter fun p=>decide (p.1≠d)
theorem xl{g h:Heap}{L:Addr}:News g L h (oU g h L):=fun p hp=>let ⟨a,b,c⟩:=mM hp;⟨c,a,b⟩
end L2
namespace L2
open PySem PySem.Spec PyProof.Rows
structure Mod (K:PySem.W.Frag) (mg:Str→Option Value) (base:Heap):Prop where
  kin:K.In base
  glob:base.Ns mainGlobals mg
  blt:∃mb,base.Ns builtinsNs mb∧∀x:Str,x≠"__name__"→mb x=bootBuiltins x
  nolimit:base.NoLimit
structure Cx where
  prog:Program
  w:World
  K:PySem.W.Frag
  mg:Str→Option Value
  base:Heap
  A:Around
  N:List Str
  s₀:Shared
  H₀:Hp
  env:Env
  outer:List Env
  stack:List Env
  ex:List Addr
  fn:Str→Bool
  calm:Bool
  pn:List (Addr × Obj)
  xe:Value→Shared→Prop
def ww(l:List Env):List Addr:=l.filterMap (·.frame)
abbrev Cx.fs(X:Cx):List Addr:=ww X.outer
def DG(sc:Scope)(x:Str):Prop:=sc.names.lookup x=some .local∨sc.names.lookup x=some .cell∨sc.names.lookup x=some .free
def BG(sc:Scope)(x:Str):Prop:=sc.names.lookup x=some .local∨sc.names.lookup x=some .cell
def Gc(env:Env)(h:Heap)(m:Str→Option Value)(x:Str)(u:Value):Prop:=
  (env.kindOf x=some .local∧m x=some u)∨((env.kindOf x=some .cell∨env.kindOf x=some .free)∧∃c,env.cells.lookup x=some c∧h.IsCell c (some u))
structure Cx.Ok (X:Cx):Prop where
  mod:Mod X.K X.mg X.base
  kind:X.env.scope.kind=.function
  glob:X.env.globals=mainGlobals
  blt:X.env.builtins=builtinsNs
  above:X.s₀.heap.objs.size≤X.env.locals
  inj:∀x y c,X.env.cells.lookup x=some c→X.env.cells.lookup y=some c→x=y
  has:∀x,(X.env.kindOf x=some .cell∨X.env.kindOf x=some .free)→∃c,X.env.cells.lookup x=some c
  cab:∀x c,X.fn x=true→X.env.cells.lookup x=some c→X.s₀.heap.objs.size≤c
  hd:X.calm=true→X.A.handled=none
  frames:X.A.frames=some X.stack
  stk:X.stack=X.outer∨(X.stack=X.env::X.outer∧X.env.frame=some X.env.locals)
  exf:∀b∈X.ex,b≠X.env.locals∧∀x c,X.env.cells.lookup x=some c→c≠b
  bs:∀b o,X.base.get? b=some o→X.s₀.heap.get? b=some o∧X.H₀ b=none
  bsz:X.base.objs.size≤X.s₀.heap.objs.size
  noex:∀b o,X.base.get? b=some o→b∉X.ex
  exfs:∀b∈X.ex,b∉X.fs
  funs:X.s₀.heap.FunFrames X.base X.outer
  frf:∀b∈X.fs,X.H₀ b=none
structure ay (X:Cx) (pins:List (Addr × Obj)) (σ:List (Option V)) (H:Hp) (s:Shared):Prop where
  ok:X.Ok
  os:s.os=X.s₀.os
  bare:AllBare s.gens
  base:Un X.fs X.ex X.H₀ H X.s₀.heap s.heap
  loc:∃m,s.heap.Ns X.env.locals m∧∀(i:Nat) (x:Str) (v:V),X.N[i]?=some x→σ[i]?=some (some v)→DG X.env.scope x→∃u,a_ v u∧Gc X.env s.heap m x u
  cell:∀x c,X.env.cells.lookup x=some c→∃v,s.heap.IsCell c v
  free:H X.env.locals=none
  freeC:∀x c,X.env.cells.lookup x=some c→H c=none
  pin:∀p∈X.pn++pins,s.heap.get? p.1=some p.2∧H p.1=none∧p.1≠X.env.locals∧p.1∉X.fs∧∀v,p.2.data≠.cell v
  hok:jL X.prog X.w H s.heap
  len:σ.length=X.N.length
section
variable{X:Cx}{pins:List (Addr × Obj)}{σ:List (Option V)}{H H':Hp}{s:Shared}{h':Heap}
theorem Cx.Ok.nofr(ok:X.Ok){b:Addr}{o:Obj}(e:X.base.get? b=some o):b∉X.fs:=fun hb=>by
  have:=(ok.funs.mem hb).1
  rw [e] at this;cases this
theorem ay.bs(I:ay X pins σ H s):∀b o,X.base.get? b=some o→s.heap.get? b=some o∧H b=none:=fun b o e=>
  ⟨I.base.keep b o (I.ok.bs b o e).1 (I.ok.bs b o e).2 (I.ok.nofr e) (I.ok.noex b o e),I.base.free b o (I.ok.bs b o e).1 (I.ok.bs b o e).2 (I.ok.noex b o e)⟩
theorem ay.bk(I:ay X pins σ H s):∀b o,X.base.get? b=some o→s.heap.get? b=some o:=fun b o e=>(I.bs b o e).1
theorem ay.mod(I:ay X pins σ H s):Mod X.K X.mg X.base:=I.ok.mod
theorem ay.kIn(I:ay X pins σ H s):X.K.In s.heap:=I.ok.mod.kin.keeps I.bk
theorem ay.fr(I:ay X pins σ H s):∃m,Fr X.base X.env.locals s.heap m:=
  let ⟨m,hn,_⟩:=I.loc
  ⟨m,hn,I.bk,Nat.le_trans I.ok.bsz I.ok.above⟩
theorem ay.lt(I:ay X pins σ H s):X.env.locals < s.heap.objs.size:=let ⟨_,hn,_⟩:=I.loc;hn.lt
theorem ay.sz(I:ay X pins σ H s):X.s₀.heap.objs.size≤s.heap.objs.size:=Nat.le_trans I.ok.above (Nat.le_of_lt I.lt)
theorem ay.nofs(I:ay X pins σ H s){a:Addr}(h:s.heap.objs.size≤a):a∉X.fs:=fun hb=>by
  obtain⟨_,o,ho,_⟩:=I.ok.funs.mem hb
  exact absurd (Nat.lt_of_lt_of_le (Heap.lt_size ho) (Nat.le_trans I.sz h)) (Nat.lt_irrefl _)
theorem ay.cne(I:ay X pins σ H s):∀x c,X.env.cells.lookup x=some c→c≠X.env.locals:=fun x c e z=>by
  obtain⟨v,o,ho,hd⟩:=I.cell x c e
  obtain⟨m,⟨o',es,ep,ho',hd',_⟩,_⟩:=I.loc
  rw [z,ho'] at ho;cases ho;rw [hd'] at hd;cases hd
theorem ay.funs(I:ay X pins σ H s):s.heap.FunFrames X.base X.outer:=by
  have all:∀(l:List Env),(∀b∈ww l,b∈X.fs)→X.s₀.heap.FunFrames X.base l→s.heap.FunFrames X.base l:=by
    intro l
    induction l with
    | nil=>intro _ _;trivial
    | cons env r ih=>
      intro hs hl
      obtain⟨hk,⟨L,o,hf,hn,ho,hd⟩,hr⟩:=hl
      have hL:L∈X.fs:=hs L (by unfold ww;rw [List.filterMap_cons,hf];exact List.mem_cons_self)
      obtain⟨sl,e⟩:=I.base.slot L o ho (I.ok.frf L hL) hL fun z=>I.ok.exfs L z hL
      exact⟨hk,⟨L,_,hf,hn,e,hd⟩,ih (fun b hb=>hs b (by unfold ww;rw [List.filterMap_cons,hf];exact List.mem_cons_of_mem _ hb)) hr⟩
  exact all X.outer (fun _ hb=>hb) I.ok.funs
theorem ay.stack(I:ay X pins σ H s):s.heap.FunFrames X.base X.stack:=by
  rcases I.ok.stk with e | ⟨e,hf⟩
  · rw [e];exact I.funs
  · rw [e]
    obtain⟨m,hn,_⟩:=I.loc
    refine .cons (by rw [I.ok.kind];decide) hf hn ?_ I.funs
    exact Heap.get?_none_of_le (Nat.le_trans I.ok.bsz I.ok.above)
theorem ay.stkSub(I:ay X pins σ H s):∀b∈ww X.stack,b∈X.env.locals::X.fs:=fun b hb=>by
  rcases I.ok.stk with e | ⟨e,hf⟩
  · rw [e] at hb;exact List.mem_cons_of_mem _ hb
  · rw [e] at hb
    unfold ww at hb
    rw [List.filterMap_cons,hf] at hb
    exact hb
theorem ay.stkFree(I:ay X pins σ H s):∀b∈ww X.stack,H b=none:=fun b hb=>by
  rcases List.mem_cons.mp (I.stkSub b hb) with e | hb
  · rw [e];exact I.free
  · obtain⟨_,o,ho,_⟩:=I.ok.funs.mem hb
    exact I.base.free b o ho (I.ok.frf b hb) fun z=>I.ok.exfs b z hb
theorem ay.step{g':Array GenState}{t':Nat}{d':Drawn}{ch:List Addr}(I:ay X pins σ H s)
    (hch:∀b∈ch,(b∈X.ex∨X.s₀.heap.objs.size≤b)∧b≠X.env.locals∧(∀x c,X.env.cells.lookup x=some c→c≠b)∧∀p∈X.pn++pins,p.1≠b)
    (keep:∀b o,b≠X.env.locals→b∉X.fs→b∉ch→s.heap.get? b=some o→H b=none→h'.get? b=some o)
    (slot:∀b o,b≠X.env.locals→b∈X.fs→b∉ch→s.heap.get? b=some o→H b=none→∃sl,h'.get? b=some {o with slots:=sl})(free:∀b o,b∉ch→s.heap.get? b=some o→H b=none→H' b=none)
    (there:∀b o,b∉ch→s.heap.get? b=some o→∃o',h'.get? b=some o')
    (tups:∀b xs,H b=some (.tup xs)→H' b=some (.tup xs))(frzs:∀b o u,H b=some (.frz o u)→H' b=some (.frz o u))(tbls:∀b ps,H b=some (.tbl ps)→∃more,H' b=some (.tbl (ps++more)))
    (ns:∀m,s.heap.Ns X.env.locals m→h'.Ns X.env.locals m)(hok:jL X.prog X.w H' h')(hg:AllBare g'):
    ay X pins σ H' {s with heap:=h',gens:=g',drawn:=d',toks:=t'}:=by
  have neL:∀b o,X.s₀.heap.get? b=some o→b≠X.env.locals:=fun b o e=>Nat.ne_of_lt (Nat.lt_of_lt_of_le (Heap.lt_size e) I.ok.above)
  have neC:∀b o,X.s₀.heap.get? b=some o→b∉X.ex→b∉ch:=fun b o e hx hb=>by
    rcases(hch b hb).1 with z | z
    · exact hx z
    · exact absurd (Nat.lt_of_lt_of_le (Heap.lt_size e) z) (Nat.lt_irrefl _)
  have cellK:∀x c,X.env.cells.lookup x=some c→∀v,s.heap.IsCell c v→h'.IsCell c v:=fun x c e v ⟨o,ho,hd⟩=>by
    have nch:c∉ch:=fun z=>(hch c z).2.2.1 x c e rfl
    by_cases hc:c∈X.fs
    · obtain⟨sl,q⟩:=slot c o (I.cne x c e) hc nch ho (I.freeC x c e)
      exact⟨_,q,hd⟩
    · exact⟨o,keep c o (I.cne x c e) hc nch ho (I.freeC x c e),hd⟩
  refine⟨I.ok,I.os,hg,⟨fun b o e n hb hx=>?_,fun b o e n hb hx=>?_,fun b o e n hx=>?_,fun b o e hx=>?_,fun b xs e=>tups b xs (I.base.tups b xs e),fun b o xs e=>frzs b o xs (I.base.frzs b o xs e),fun b ps e=>?_⟩,?_,fun x c e=>?_,?_,fun x c e=>?_,fun p hp=>?_,hok,I.len⟩
  · exact keep b o (neL b o e) hb (neC b o e hx) (I.base.keep b o e n hb hx) (I.base.free b o e n hx)
  · obtain⟨sl,e1⟩:=I.base.slot b o e n hb hx
    obtain⟨sl',e2⟩:=slot b _ (neL b o e) hb (neC b o e hx) e1 (I.base.free b o e n hx)
    exact⟨sl',e2⟩
  · obtain⟨o',e1⟩:=I.base.there b o e hx
    exact free b o' (neC b o e hx) e1 (I.base.free b o e n hx)
  · obtain⟨o',e1⟩:=I.base.there b o e hx
    exact there b o' (neC b o e hx) e1
  · obtain⟨m1,e1⟩:=I.base.tbls b ps e
    obtain⟨m2,e2⟩:=tbls b _ e1
    exact⟨m1++m2,by rw [e2,Array.append_assoc]⟩
  · obtain⟨m,hn,hl⟩:=I.loc
    refine⟨m,ns m hn,fun i x v e1 e2 e3=>?_⟩
    obtain⟨u,r,l⟩:=hl i x v e1 e2 e3
    refine⟨u,r,?_⟩
    rcases l with l | ⟨k,c,e,z⟩
    · exact .inl l
    · exact .inr ⟨k,c,e,cellK x c e _ z⟩
  · obtain⟨v,z⟩:=I.cell x c e
    exact⟨v,cellK x c e v z⟩
  · obtain⟨m,⟨o,_,_,ho,_⟩,_⟩:=I.loc
    exact free _ o (fun z=>(hch _ z).2.1 rfl) ho I.free
  · obtain⟨v,o,ho,hd⟩:=I.cell x c e
    exact free c o (fun z=>(hch c z).2.2.1 x c e rfl) ho (I.freeC x c e)
  · obtain⟨e,n,ne,nf,d⟩:=I.pin p hp
    have nch:p.1∉ch:=fun z=>(hch p.1 z).2.2.2 p hp rfl
    exact⟨keep p.1 p.2 ne nf nch e n,free p.1 p.2 nch e n,ne,nf,d⟩
theorem ay.un{t':Nat}(I:ay X pins σ H s)(u:Un X.fs [] H H' s.heap h')(hok:jL X.prog X.w H' h'):ay X pins σ H' {s with heap:=h',toks:=t'}:=by
  obtain⟨m,⟨o,es,ep,ho,r⟩,_⟩:=id I.loc
  obtain⟨sl,hL⟩:=u.any ho I.free (by simp)
  exact I.step (g':=s.gens) (d':=s.drawn) (ch:=[]) (fun _ z=>nomatch z) (fun b o _ hb _ e n=>u.keep b o e n hb (by simp)) (fun b o _ hb _ e n=>u.slot b o e n hb (by simp)) (fun b o _ e n=>u.free b o e n (by simp)) (fun b o _ e=>u.there b o e (by simp)) u.tups u.frzs u.tbls (fun m' hm=>by
    obtain⟨o',es',ep',ho',r'⟩:=hm
    rw [ho] at ho';cases ho'
    exact⟨_,es',ep',hL,r'⟩) hok I.bare
theorem ay.call{g':Array GenState}{t':Nat}{d':Drawn}{ch:List Addr}(I:ay X pins σ H s)(u:Un (ww X.stack) ch H H' s.heap h')(hok:jL X.prog X.w H' h')(hg:AllBare g')
    (hch:∀b∈ch,(b∈X.ex∨X.s₀.heap.objs.size≤b)∧b≠X.env.locals∧(∀x c,X.env.cells.lookup x=some c→c≠b)∧∀p∈X.pn++pins,p.1≠b):
    ay X pins σ H' {s with heap:=h',gens:=g',drawn:=d',toks:=t'}:=by
  obtain⟨m,⟨o,es,ep,ho,r⟩,_⟩:=id I.loc
  obtain⟨sl,hL⟩:=u.any ho I.free fun z=>(hch _ z).2.1 rfl
  exact I.step (ch:=ch) hch (fun b o hL hb hc e n=>u.keep b o e n (fun z=>(List.mem_cons.mp (I.stkSub b z)).elim hL hb) hc) (fun b o _ _ hc e n=>u.any e n hc) (fun b o hc e n=>u.free b o e n hc) (fun b o hc e=>u.there b o e hc) u.tups u.frzs u.tbls (fun m' hm=>by
    obtain⟨o',es',ep',ho',r'⟩:=hm
    rw [ho] at ho';cases ho'
    exact⟨_,es',ep',hL,r'⟩) hok hg
theorem ay.turned{t':Nat}{it:Addr}(I:ay X pins σ H s)(k:∀b o,b≠it→s.heap.get? b=some o→h'.get? b=some o)(hn:H it=none)(hL:it≠X.env.locals)
    (h1:it∈X.ex∨X.s₀.heap.objs.size≤it)(h2:∀x c,X.env.cells.lookup x=some c→c≠it)(h3:∀p∈X.pn++pins,p.1≠it):ay X pins σ H {s with heap:=h',toks:=t'}:=by
  have nit:∀b u,H b=some u→b≠it:=fun b u e z=>by rw [z,hn] at e;cases e
  refine I.step (g':=s.gens) (d':=s.drawn) (ch:=[it]) (fun b hb=>?_) (fun b o _ _ hc e _=>k b o (fun z=>hc (by simp [z])) e) (fun b o _ _ hc e _=>⟨o.slots,k b o (fun z=>hc (by simp [z])) e⟩) (fun _ _ _ _ n=>n)
    (fun b o hc e=>⟨o,k b o (fun z=>hc (by simp [z])) e⟩) (fun _ _ e=>e) (fun _ _ _ e=>e) (fun b ps e=>⟨#[],by rw [e];simp⟩) (fun m hm=>?_) (fun b u e=>?_) I.bare
  · have e:b=it:=by simpa using hb
    subst e
    exact⟨h1,hL,h2,h3⟩
  · obtain⟨o,es,ep,ho,r⟩:=hm
    exact⟨o,es,ep,k _ o (Ne.symm hL) ho,r⟩
  · refine(I.hok b u e).stay (fun c v hc q=>k c v ?_ q) (fun _ q=>q) fun _ _ q=>q
    rcases hc with z | z
    · rw [z];exact nit b u e
    · exact nit c _ z
theorem ay.tok(I:ay X pins σ H s)(t:Nat):ay X pins σ H {s with toks:=t}:=I.un (h':=s.heap) (t':=t) Un.refl I.hok
theorem ay.kept{t':Nat}(I:ay X pins σ H s)(k:∀b u,s.heap.get? b=some u→h'.get? b=some u):ay X pins σ H {s with heap:=h',toks:=t'}:=I.un (Un.kept k) (I.hok.kept k)
theorem ay.laid{a:Addr}{o:HO}{t':Nat}(I:ay X pins σ H s)(k:∀b u,s.heap.get? b=some u→h'.get? b=some u)(hp:s.heap.objs.size≤a)(new:cG X.prog X.w (aV H a o) h' a o):
    ay X pins σ (aV H a o) {s with heap:=h',toks:=t'}:=I.un (Un.laid k hp (I.hok.fresh hp)) (I.hok.laid k hp new)
theorem ay.write{x e:Addr}{o:HO}{t':Nat}(I:ay X pins σ H s)(mu:DQ (H x))(he:e=x∨H e=some (.own x))(k:∀b u,b≠e→s.heap.get? b=some u→h'.get? b=some u)(heo:∃u,h'.get? e=some u)
    (new:cG X.prog X.w (aV H x o) h' x o):ay X pins σ (aV H x o) {s with heap:=h',toks:=t'}:=I.un (Un.write mu he k heo) (I.hok.write mu he k heo new)
theorem ay.pins_of{pins':List (Addr × Obj)}(I:ay X pins σ H s)(h:∀p∈pins',s.heap.get? p.1=some p.2∧H p.1=none∧p.1≠X.env.locals∧p.1∉X.fs∧∀v,p.2.data≠.cell v):ay X pins' σ H s:=
  ⟨I.ok,I.os,I.bare,I.base,I.loc,I.cell,I.free,I.freeC,fun p hp=>(List.mem_append.mp hp).elim (fun z=>I.pin p (List.mem_append_left _ z)) (h p),I.hok,I.len⟩
theorem qM{N:List Str}(hN:N.Nodup){i j:Nat}{x:Str}(a:N[i]?=some x)(b:N[j]?=some x):i=j:=by
  obtain⟨h1,e1⟩:=List.getElem?_eq_some_iff.mp a
  obtain⟨h2,e2⟩:=List.getElem?_eq_some_iff.mp b
  exact(List.getElem_inj hN).mp (e1.trans e2.symm)
theorem oJ{M:Model}{A:Around}{E:Value→Shared→Prop}{i:Nat}{x:Str}{v:V}{u:Value}{Q:Unit→Shared→Prop}(I:ay X pins σ H s)(hN:X.N.Nodup)(hi:X.N[i]?=some x)(hx:BG X.env.scope x)(r:a_ v u)
    (h:∀s',ay X pins (σ.set i (some v)) H s'→(∃a,Heap.SameBut a s.heap s'.heap∧(a=X.env.locals∨X.env.cells.lookup x=some a))→Q () s')(hf:X.fn x=true∨X.env.scope.names.lookup x=some .local:=by first | exact .inl rfl | exact .inr rfl | assumption):wpAny M A (storeName X.env x u) Q E s:=by
  obtain⟨m,hn,hl⟩:=id I.loc
  have hcls:(X.env.scope.kind==.class || (X.env.scope.kind==.module&&X.env.locals != X.env.globals))=false:=by rw [I.ok.kind];rfl
  have hiσ:i < σ.length:=by rw [I.len];exact(List.getElem?_eq_some_iff.mp hi).1
  have cne:=I.cne
  have tracked:∀{a:Addr} {h':Heap},(∃o,s.heap.get? a=some o∧H a=none)→Heap.SameBut a s.heap h'→jL X.prog X.w H h':=fun{a h'} ha hs b ob e=>by
    obtain⟨_,_,hfree⟩:=ha
    refine(I.hok b ob e).stay (fun c w' hc q=>(hs.2 c ?_).trans q) (fun _ q=>q) fun _ _ q=>q
    rintro rfl
    rcases hc with rfl | hc
    · rw [hfree] at e;cases e
    · rw [hfree] at hc;cases hc
  rcases hx with hk | hk
  · refine wpAny_storeName_local hk hn (fun h' hn' hs=>?_) hcls
    obtain⟨oL,_,_,hoL,_⟩:=id hn
    refine h _ ⟨I.ok,I.os,I.bare,⟨fun b o e n hb hx=>?_,fun b o e n hb hx=>?_,I.base.free,fun b o e hx=>?_,I.base.tups,I.base.frzs,I.base.tbls⟩,⟨_,hn',fun j y v' e1 e2 e3=>?_⟩,fun y c e=>?_,I.free,I.freeC,fun p hp=>?_,tracked ⟨oL,hoL,I.free⟩ hs,by simpa using I.len⟩ ⟨_,hs,.inl rfl⟩
    · exact(hs.2 b (Nat.ne_of_lt (Nat.lt_of_lt_of_le (Heap.lt_size e) I.ok.above))).trans (I.base.keep b o e n hb hx)
    · obtain⟨sl,e1⟩:=I.base.slot b o e n hb hx
      exact⟨sl,(hs.2 b (Nat.ne_of_lt (Nat.lt_of_lt_of_le (Heap.lt_size e) I.ok.above))).trans e1⟩
    · obtain⟨o',e1⟩:=I.base.there b o e hx
      exact⟨o',(hs.2 b (Nat.ne_of_lt (Nat.lt_of_lt_of_le (Heap.lt_size e) I.ok.above))).trans e1⟩
    · by_cases hj:j=i
      · subst hj
        rw [hi] at e1;cases e1
        rw [List.getElem?_set_self hiσ] at e2
        cases e2
        exact⟨u,r,.inl ⟨hk,by simp⟩⟩
      · rw [List.getElem?_set_ne (Ne.symm hj)] at e2
        obtain⟨u',r',q⟩:=hl j y v' e1 e2 e3
        refine⟨u',r',?_⟩
        rcases q with ⟨k,e⟩ | ⟨k,c,e,z⟩
        · refine .inl ⟨k,?_⟩
          have:y≠x:=fun e=>hj (qM hN e1 (e ▸ hi))
          simp [this,e]
        · exact .inr ⟨k,c,e,z.sameBut hs (cne y c e)⟩
    · obtain⟨w',z⟩:=I.cell y c e
      exact⟨w',z.sameBut hs (cne y c e)⟩
    · obtain⟨e,n,ne,nf,d⟩:=I.pin p hp
      exact⟨(hs.2 p.1 ne).trans e,n,ne,nf,d⟩
  · have hfn:X.fn x=true:=by
      rcases hf with z | z
      · exact z
      · rw [z] at hk;cases hk
    obtain⟨c,hc⟩:=I.ok.has x (.inl hk)
    obtain⟨w',z⟩:=I.cell x c hc
    refine wpAny_storeName_cell I.ok.kind hk hc z (fun h' hc' hs=>?_)
    obtain⟨oc,hoc,hocd⟩:=id z
    refine h {s with heap:=h'} ⟨I.ok,I.os,I.bare,⟨fun b o e n hb hx=>?_,fun b o e n hb hx=>?_,I.base.free,fun b o e hx=>?_,I.base.tups,I.base.frzs,I.base.tbls⟩,⟨m,hn.sameBut hs (Ne.symm (cne x c hc)),fun j y v' e1 e2 e3=>?_⟩,fun y c' e=>?_,I.free,I.freeC,fun p hp=>?_,tracked ⟨oc,hoc,I.freeC x c hc⟩ hs,by simpa using I.len⟩ ⟨c,hs,.inr hc⟩
    · exact(hs.2 b (Nat.ne_of_lt (Nat.lt_of_lt_of_le (Heap.lt_size e) (I.ok.cab x c hfn hc)))).trans (I.base.keep b o e n hb hx)
    · obtain⟨sl,e1⟩:=I.base.slot b o e n hb hx
      exact⟨sl,(hs.2 b (Nat.ne_of_lt (Nat.lt_of_lt_of_le (Heap.lt_size e) (I.ok.cab x c hfn hc)))).trans e1⟩
    · obtain⟨o',e1⟩:=I.base.there b o e hx
      exact⟨o',(hs.2 b (Nat.ne_of_lt (Nat.lt_of_lt_of_le (Heap.lt_size e) (I.ok.cab x c hfn hc)))).trans e1⟩
    · by_cases hj:j=i
      · subst hj
        rw [hi] at e1;cases e1
        rw [List.getElem?_set_self hiσ] at e2
        cases e2
        exact⟨u,r,.inr ⟨.inl hk,c,hc,hc'⟩⟩
      · rw [List.getElem?_set_ne (Ne.symm hj)] at e2
        obtain⟨u',r',q⟩:=hl j y v' e1 e2 e3
        refine⟨u',r',?_⟩
        rcases q with q | ⟨k,c',e,z'⟩
        · exact .inl q
        · refine .inr ⟨k,c',e,z'.sameBut hs ?_⟩
          rintro rfl
          exact hj (qM hN e1 (I.ok.inj _ _ _ e hc ▸ hi))
    · by_cases hcc:c'=c
      · subst hcc;exact⟨_,hc'⟩
      · obtain⟨w2,z2⟩:=I.cell y c' e
        exact⟨w2,z2.sameBut hs hcc⟩
    · obtain⟨e,n,ne,nf,d⟩:=I.pin p hp
      refine⟨(hs.2 p.1 ?_).trans e,n,ne,nf,d⟩
      intro q
      rw [q,hoc] at e
      have q':oc=p.2:=Option.some.inj e
      exact d w' (by rw [←q'];exact hocd)
theorem kG{M:Model}{A:Around}{E:Value→Shared→Prop}{i:Nat}{x:Str}{v:V}{u:Value}{Q:Unit→Shared→Prop}(I:ay X pins σ H s)(hN:X.N.Nodup)(hi:X.N[i]?=some x)(hx:BG X.env.scope x)(r:a_ v u)
    (h:∀s',ay X pins (σ.set i (some v)) H s'→Q () s')(hf:X.fn x=true∨X.env.scope.names.lookup x=some .local:=by first | exact .inl rfl | exact .inr rfl | assumption):wpAny M A (storeName X.env x u) Q E s:=
  oJ I hN hi hx r (fun s' I' _=>h s' I') hf
theorem ay.call'{s':Shared}{ch:List Addr}(I:ay X pins σ H s)(ho:s'.os=s.os)(u:Un (ww X.stack) ch H H' s.heap s'.heap)(hok:jL X.prog X.w H' s'.heap)(hg:AllBare s'.gens)
    (hch:∀b∈ch,(b∈X.ex∨X.s₀.heap.objs.size≤b)∧b≠X.env.locals∧(∀x c,X.env.cells.lookup x=some c→c≠b)∧∀p∈X.pn++pins,p.1≠b):ay X pins σ H' s':=by
  obtain⟨h',g',d',t',o'⟩:=s'
  have e:o'=s.os:=ho
  subst e
  exact I.call (g':=g') (t':=t') (d':=d') u hok hg hch
end
abbrev XK:=Value→Option Addr→Hp→Prop
abbrev St:=List (Option V)
abbrev VK:=V→Hp→Prop
abbrev TE:=St→Hp→VK→Prop
abbrev TT:=St→Hp→(Bool→Hp→Prop)→Prop
abbrev TA:=St→Hp→(List V→Hp→Prop)→Prop
structure oR where
  nx:St→Hp→Prop
  rt:VK
  bk:St→Hp→Prop:=fun _ _=>False
  ct:St→Hp→Prop:=fun _ _=>False
abbrev TS:=oR→St→Hp→Prop
def EP(X:Cx)(pins:List (Addr × Obj))(σ:St)(Q:VK)(u:Value)(s':Shared):Prop:=∃v H',ay X pins σ H' s'∧a_ v u∧Q v H'
def TP(X:Cx)(pins:List (Addr × Obj))(σ:St)(Q:Bool→Hp→Prop)(b:Bool)(s':Shared):Prop:=∃H',ay X pins σ H' s'∧Q b H'
def AP(X:Cx)(pins:List (Addr × Obj))(σ:St)(Q:List V→Hp→Prop)(us:List Value)(s':Shared):Prop:=∃vs H',ay X pins σ H' s'∧aH vs us∧Q vs H'
def SP(X:Cx)(pins:List (Addr × Obj))(D:oR)(f:Flow)(s':Shared):Prop:=
  match f with
  | .next=>∃σ' H',ay X pins σ' H' s'∧D.nx σ' H'
  | .brk=>∃σ' H',ay X pins σ' H' s'∧D.bk σ' H'
  | .cont=>∃σ' H',ay X pins σ' H' s'∧D.ct σ' H'
  | .ret u=>∃v σ' H',ay X pins σ' H' s'∧a_ v u∧D.rt v H'
def PE(X:Cx)(e:Expr)(t:TE):Prop:=
  ∀(pins:List (Addr × Obj)) (s:Shared) (σ:St) (H:Hp) (Q:VK),ay X pins σ H s→t σ H Q→wpAny (model X.prog X.w) X.A (eval e X.env) (EP X pins σ Q) X.xe s
def PT(X:Cx)(e:Expr)(t:TT):Prop:=
  ∀(pins:List (Addr × Obj)) (s:Shared) (σ:St) (H:Hp) (Q:Bool→Hp→Prop),ay X pins σ H s→t σ H Q→wpAny (model X.prog X.w) X.A (isTrue e X.env (eval e X.env)) (TP X pins σ Q) X.xe s
def PW(X:Cx)(e:Expr)(t:TT):Prop:=
  ∀(whole:Sem Value) (pins:List (Addr × Obj)) (s:Shared) (σ:St) (H:Hp) (Q:Bool→Hp→Prop),ay X pins σ H s→t σ H Q→wpAny (model X.prog X.w) X.A (isTrue e X.env whole) (TP X pins σ Q) X.xe s
theorem PW.pt{X:Cx}{e:Expr}{t:TT}(h:PW X e t):PT X e t:=h _
def PA(X:Cx)(es:List Expr)(t:TA):Prop:=
  ∀(pos:Pos) (pins:List (Addr × Obj)) (s:Shared) (σ:St) (H:Hp) (Q:List V→Hp→Prop),ay X pins σ H s→t σ H Q→wpAny (model X.prog X.w) X.A (spliced (backTo pos (starEach es X.env))) (AP X pins σ Q) X.xe s
def PS(X:Cx)(st:Stmt)(t:TS):Prop:=
  ∀(pins:List (Addr × Obj)) (s:Shared) (σ:St) (H:Hp) (D:oR),ay X pins σ H s→t D σ H→wpAny (model X.prog X.w) X.A (exec st X.env) (SP X pins D) X.xe s
def iM(X:Cx)(st:List Stmt)(t:TS):Prop:=
  ∀(pins:List (Addr × Obj)) (s:Shared) (σ:St) (H:Hp) (D:oR),ay X pins σ H s→t D σ H→wpAny (model X.prog X.w) X.A (execs st X.env) (SP X pins D) X.xe s
theorem bG{α:Type}{t:Sem α}{Q Q':α→Shared→Prop}{M:Model}{A:Around}{E:Value→Shared→Prop}{s:Shared}(h:wpAny M A t Q E s)(hQ:∀a s,Q a s→Q' a s):wpAny M A t Q' E s:=wpAny_mono h hQ fun _ _ x=>x
end L2
namespace L2
open PySem PySem.Spec PyProof.Rows
section
variable{X:Cx}
def pY(i:Nat):TE:=fun σ H Q=>∃v,σ[i]?=some (some v)∧Q v H
def tC(v:V):TE:=fun _ H Q=>Q v H
theorem i5{i:Nat}{x:Str}{pos:Pos}(hN:X.N[i]?=some x)(hv:DG X.env.scope x)(hd:(x==("__debug__":Str))=false:=by decide)(hcd:(x==("__classdict__":Str))=false:=by decide):PE X (.Name x pos) (pY i):=by
  intro pins s σ H Q I h
  obtain⟨v,e,h⟩:=h
  obtain⟨m,hn,hl⟩:=I.loc
  obtain⟨u,r,l⟩:=hl i x v hN e hv
  have fin:EP X pins σ Q u s:=⟨v,H,I,r,h⟩
  rcases l with ⟨hk,hm⟩ | ⟨hk,c,hc,hcell⟩
  · exact wpAny_Name (wpAny_loadName_local I.ok.kind hk hn hm fin) hd
  · rcases hk with hk | hk
    · exact wpAny_Name (wpAny_loadName_cell I.ok.kind hk hc hcell fin) hd
    · exact wpAny_Name (wpAny_loadName_free I.ok.kind hk hc hcell fin hcd) hd
theorem CK{i j pos}:PE X (.Constant (.int i) j pos) (tC (.int i)):=fun _ _ _ H _ I h=>wpAny_Constant_int ⟨.int i,H,I.tok _,⟨_,rfl⟩,h⟩
theorem EF{b j pos}:PE X (.Constant (.bool b) j pos) (tC (.bl b)):=fun _ _ _ H _ I h=>Constant_bool ⟨.bl b,H,I,rfl,h⟩
theorem CM{j pos}:PE X (.Constant .none j pos) (tC .non):=fun _ _ _ H _ I h=>Constant_none ⟨.non,H,I,rfl,h⟩
theorem CP{x j pos}:PE X (.Constant (.str x) j pos) (tC (.str x)):=fun _ _ _ H _ I h=>Calls.Constant_str ⟨.str x,H,I.tok _,⟨_,rfl⟩,h⟩
def Gl(X:Cx)(x:Str):Prop:=X.env.kindOf x=some .globalImplicit
theorem ua{E:Value→Shared→Prop}{pins:List (Addr × Obj)}{s:Shared}{σ:St}{H:Hp}{x:Str}{u:Value}{pos:Pos}{Q:Value→Shared→Prop}(I:ay X pins σ H s)(hg:Gl X x)(hm:X.mg x=some u)(h:Q u s)
    (hd:(x==("__debug__":Str))=false:=by decide):wpAny (model X.prog X.w) X.A (eval (.Name x pos) X.env) Q E s:=
  Calls.Name_function_global I.ok.kind hg (Calls.loadGlobal_global (by rw [I.ok.glob];exact I.mod.glob.keeps I.bk) hm h) hd
theorem jE{E:Value→Shared→Prop}{pins:List (Addr × Obj)}{s:Shared}{σ:St}{H:Hp}{x:Str}{u:Value}{pos:Pos}{Q:Value→Shared→Prop}(I:ay X pins σ H s)(hg:Gl X x)(hm:X.mg x=none)(hv:bootBuiltins x=some u)(h:Q u s)
    (hn:x≠"__name__":=by decide)(hd:(x==("__debug__":Str))=false:=by decide):wpAny (model X.prog X.w) X.A (eval (.Name x pos) X.env) Q E s:=by
  obtain⟨mb,h1,h2⟩:=I.mod.blt
  exact Calls.Name_function_global I.ok.kind hg (Calls.loadGlobal_builtin (by rw [I.ok.glob];exact I.mod.glob.keeps I.bk) hm (by rw [I.ok.blt];exact h1.keeps I.bk) ((h2 x hn).trans hv) h) hd
theorem zP{x:Str}{v:V}{u:Value}{pos:Pos}(hg:Gl X x)(hm:X.mg x=some u)(r:a_ v u)(hd:(x==("__debug__":Str))=false:=by decide):PE X (.Name x pos) (tC v):=
  fun _ _ _ H _ I h=>ua I hg hm ⟨v,H,I,r,h⟩ hd
variable{a b:Expr}{ta tb:TE}{pos:Pos}
def PC(X:Cx)(op:CmpOp)(a b:Expr)(t:TE):Prop:=
  ∀(pins:List (Addr × Obj)) (s:Shared) (σ:St) (H:Hp) (Q:VK),ay X pins σ H s→t σ H Q→
    wpAny (model X.prog X.w) X.A (eval a X.env) (fun v s₁=>wpAny (model X.prog X.w) X.A (eval b X.env) (fun u s₂=>wpAny (model X.prog X.w) X.A (compareOp op v u) (EP X pins σ Q) X.xe s₂) X.xe s₁) X.xe s
theorem xn(b:Expr){op:CmpOp}(h:op≠.In)(h2:op≠.NotIn):behindInMarks op b=false:=by
  have e1:(op==CmpOp.In)=false:=by cases op<;>first | rfl | exact absurd rfl h
  have e2:(op==CmpOp.NotIn)=false:=by cases op<;>first | rfl | exact absurd rfl h2
  cases b<;>simp [behindInMarks,e1,e2]
def tB(t:TE):TT:=fun σ H Q=>t σ H fun x H1=>∃c,x=.bl c∧Q c H1
theorem CY{op:CmpOp}{t:TE}(h:PC X op a b t)(h1:behindInMarks op b=false:=by first | exact xn _ (by decide) (by decide) | rfl):PT X (.Compare a [op] [b] pos) (tB t):=by
  intro pins s σ H Q I hw
  refine wpAny_isTrue_Compare1 (bG (h pins s σ H _ I hw) fun v s1 h1=>bG h1 fun u s2 h2=>bG h2 fun c s3 ⟨x,H1,I1,r1,q1⟩=>?_) h1
  obtain⟨d,rfl,q⟩:=q1
  cases r1
  exact wpAny_truthy_bool ⟨H1,I1,q⟩
theorem C0{e:Expr}{t:TE}(h:PE X e t)(he:∀whole,isTrue e X.env whole=(do let v ←whole;standAt e.pos;holding [v] (truthy v)):=by intro _;rfl):PT X e (tB t):=by
  intro pins s σ H Q I hw
  refine isTrue_plain (bG (h pins s σ H _ I hw) fun v s1 ⟨x,H1,I1,r1,q1⟩=>?_) (he _)
  obtain⟨d,rfl,q⟩:=q1
  cases r1
  exact wpAny_truthy_bool ⟨H1,I1,q⟩
variable{tA tB':TT}{d_:List Expr}
def Fi(t u:TT):TT:=fun σ H Q=>t σ H fun c H1=>if c=true then u σ H1 Q else Q false H1
def G5(t u:TT):TT:=fun σ H Q=>t σ H fun c H1=>if c=true then Q true H1 else u σ H1 Q
def Fo(t:TT):TT:=fun σ H Q=>t σ H fun c H1=>Q (!c) H1
theorem Ad(ha:PT X a tA):PW X (.BoolOp .And [a] pos) tA:=by
  intro wh pins s σ H Q I h
  refine isTrue_and (bG (ha pins s σ H Q I h) fun c s1 e=>?_)
  cases c with
  | true=>exact isTrue_and_nil e
  | false=>exact e
theorem C2(ha:PT X a tA):PW X (.BoolOp .Or [a] pos) tA:=by
  intro wh pins s σ H Q I h
  refine isTrue_or (bG (ha pins s σ H Q I h) fun c s1 e=>?_)
  cases c with
  | false=>exact isTrue_or_nil e
  | true=>exact e
theorem C1(ha:PT X a tA)(hb:PW X (.BoolOp .And (b::d_) pos) tB'):PW X (.BoolOp .And (a::b::d_) pos) (Fi tA tB'):=by
  intro wh pins s σ H Q I h
  refine isTrue_and (bG (ha pins s σ H _ I h) fun c s1 ⟨H1,I1,q1⟩=>?_)
  cases c with
  | true=>exact hb wh pins s1 σ H1 Q I1 q1
  | false=>exact⟨H1,I1,q1⟩
theorem EN(ha:PT X a tA)(hb:PW X (.BoolOp .Or (b::d_) pos) tB'):PW X (.BoolOp .Or (a::b::d_) pos) (G5 tA tB'):=by
  intro wh pins s σ H Q I h
  refine isTrue_or (bG (ha pins s σ H _ I h) fun c s1 ⟨H1,I1,q1⟩=>?_)
  cases c with
  | true=>exact⟨H1,I1,q1⟩
  | false=>exact hb wh pins s1 σ H1 Q I1 q1
theorem CZ(ha:PT X a tA):PT X (.UnaryOp .Not a pos) (Fo tA):=by
  intro pins s σ H Q I h
  exact isTrue_not (ha pins s σ H (fun c H1=>Q (!c) H1) I h)
def Fj(ta tb:TE):TE:=fun σ H Q=>ta σ H fun x H1=>∃c,x=.bl c∧if c=true then tb σ H1 Q else Q (.bl false) H1
def Fq(ta:TE):TE:=fun σ H Q=>ta σ H fun x H1=>∃c,x=.bl c∧Q (.bl (!c)) H1
theorem CO{op}{t:TE}(h:PE X a t):PE X (.BoolOp op [a] pos) t:=fun pins s σ H Q I hw=>BoolOp_one (h pins s σ H Q I hw)
theorem CH(ha:PE X a ta)(hb:PE X (.BoolOp .And (b::d_) pos) tb):PE X (.BoolOp .And (a::b::d_) pos) (Fj ta tb):=by
  intro pins s σ H Q I h
  refine BoolOp_and (bG (ha pins s σ H _ I h) fun v s1 ⟨x,H1,I1,r1,q1⟩=>?_)
  obtain⟨c,rfl,q1⟩:=q1
  cases r1
  refine wpAny_truthy_bool ?_
  cases c with
  | true=>exact hb pins s1 σ H1 Q I1 q1
  | false=>exact⟨.bl false,H1,I1,rfl,q1⟩
theorem CN(ha:PE X a ta):PE X (.UnaryOp .Not a pos) (Fq ta):=by
  intro pins s σ H Q I h
  refine UnaryOp_ (bG (ha pins s σ H _ I h) fun v s1 ⟨x,H1,I1,r1,q1⟩=>?_)
  obtain⟨c,rfl,q1⟩:=q1
  cases r1
  exact not_of (wpAny_truthy_bool ⟨.bl (!c),H1,I1,rfl,q1⟩)
end
end L2
namespace L2
open PySem PySem.Spec PyProof.Rows
def gA(K:PySem.W.Frag)(H:Hp)(a:Addr)(xs:List V):Prop:=
  Rd H a (.lst xs)∨
    ∃(o:Obj) (its:Array Value) (n:Nat),K.lookup a=some o∧o.cls=.type "list"∧o.dict=none∧o.data=.seq its n∧its.size≤sizeLine∧aH xs its.toList
def cW(K:PySem.W.Frag)(H:Hp)(a:Addr)(xs:List V):Prop:=
  Rd H a (.tup xs)∨
    ∃(o:Obj) (its:Array Value) (n:Nat),K.lookup a=some o∧o.cls=.type "tuple"∧o.dict=none∧o.data=.seq its n∧its.size≤sizeLine∧aH xs its.toList
def Gi:Value→Option V
  | .none=>some .non
  | .bool b=>some (.bl b)
  | .int i _=>some (.int i)
  | .str x _=>some (.str x)
  | .bytes b _=>some (.byt b)
  | .float b _=>some (.flt b)
  | .ref a=>some (.ref a)
  | .type n=>some (.ty n)
  | _=>none
theorem a_.abs{x:V}{u:Value}(r:a_ x u):Gi u=some x:=by
  cases x with
  | non=>cases r;rfl
  | bl _=>cases r;rfl
  | int _=>obtain⟨t,rfl⟩:=r;rfl
  | str _=>obtain⟨t,rfl⟩:=r;rfl
  | byt _=>obtain⟨t,rfl⟩:=r;rfl
  | flt _=>obtain⟨t,rfl⟩:=r;rfl
  | ref _=>cases r;rfl
  | ty _=>cases r;rfl
theorem a_.inj{x y:V}{u:Value}(r:a_ x u)(q:a_ y u):x=y:=Option.some.inj (r.abs.symm.trans q.abs)
theorem aH.inj:∀{xs ys:List V} {us:List Value},aH xs us→aH ys us→xs=ys
  | _,_,_,.nil,.nil=>rfl
  | _,_,_,.cons r t,.cons r' t'=>by rw [r.inj r',aH.inj t t']
section
variable{X:Cx}{pins:List (Addr × Obj)}{σ:St}{H:Hp}{s:Shared}{a:Addr}{xs ys:List V}
theorem gA.of{K:PySem.W.Frag}(h:H a=some (.lst xs)):gA K H a xs:=.inl (.inl h)
theorem cW.of{K:PySem.W.Frag}(h:H a=some (.tup xs)):cW K H a xs:=.inl (.inl h)
theorem ay.list(I:ay X pins σ H s)(h:gA X.K H a xs):∃its:List Value,aH xs its∧PlainL s.heap a its.toArray∧xs.length≤sizeLine:=by
  rcases h with h | ⟨o,its,n,hk,hc,hd,hs,hz,r⟩
  · obtain⟨z,its,n,r,e⟩:=h.ok I.hok
    exact⟨its,r,⟨_,n,e,rfl,rfl,rfl⟩,z⟩
  · refine⟨its.toList,r,⟨o,n,I.kIn a o hk,hc,hd,by simpa using hs⟩,?_⟩
    have e:=r.length
    simp only [Array.length_toList] at e
    lia
theorem ay.tuple(I:ay X pins σ H s)(h:cW X.K H a xs):∃its:List Value,aH xs its∧IsTup s.heap a its.toArray∧xs.length≤sizeLine:=by
  rcases h with h | ⟨o,its,n,hk,hc,_,hs,hz,r⟩
  · obtain⟨z,its,r,p⟩:=h.ok I.hok
    exact⟨its,r,p.tup,z⟩
  · refine⟨its.toList,r,⟨o,I.kIn a o hk,hc,n,by simpa using hs⟩,?_⟩
    have e:=r.length
    simp only [Array.length_toList] at e
    lia
theorem ay.tupD(I:ay X pins σ H s)(h:cW X.K H a xs):∃o,s.heap.get? a=some o∧o.dict=none:=by
  rcases h with h | ⟨o,its,n,hk,hc,hd,hs,hz,r⟩
  · obtain⟨z,its,r,o,e,_,_,_,hd⟩:=h.ok I.hok
    exact⟨o,e,hd⟩
  · exact⟨o,I.kIn a o hk,hd⟩
theorem ay.list_inj(I:ay X pins σ H s)(h:gA X.K H a xs)(h':gA X.K H a ys):xs=ys:=by
  obtain⟨its,r,⟨o,n,e,_,_,d⟩,_⟩:=I.list h
  obtain⟨its',r',⟨o',n',e',_,_,d'⟩,_⟩:=I.list h'
  rw [e] at e';cases e'
  rw [d] at d'
  injection d' with d1 _
  have:its=its':=by simpa using congrArg Array.toList d1
  subst this
  exact r.inj r'
theorem ay.tuple_inj(I:ay X pins σ H s)(h:cW X.K H a xs)(h':cW X.K H a ys):xs=ys:=by
  obtain⟨its,r,⟨o,e,_,n,d⟩,_⟩:=I.tuple h
  obtain⟨its',r',⟨o',e',_,n',d'⟩,_⟩:=I.tuple h'
  rw [e] at e';cases e'
  rw [d] at d'
  injection d' with d1 _
  have:its=its':=by simpa using congrArg Array.toList d1
  subst this
  exact r.inj r'
end
abbrev Cx.wish(X:Cx)(E:Value→Shared→Prop):Cx:={X with xe:=E}
abbrev Cx.nox(X:Cx):Cx:=X.wish fun _ _=>False
theorem Cx.Ok.wish{X:Cx}(ok:X.Ok)(E:Value→Shared→Prop):(X.wish E).Ok:=
  ⟨ok.mod,ok.kind,ok.glob,ok.blt,ok.above,ok.inj,ok.has,ok.cab,ok.hd,ok.frames,ok.stk,ok.exf,ok.bs,ok.bsz,ok.noex,ok.exfs,ok.funs,ok.frf⟩
theorem Cx.Ok.unwish{X:Cx}{E:Value→Shared→Prop}(ok:(X.wish E).Ok):X.Ok:=
  ⟨ok.mod,ok.kind,ok.glob,ok.blt,ok.above,ok.inj,ok.has,ok.cab,ok.hd,ok.frames,ok.stk,ok.exf,ok.bs,ok.bsz,ok.noex,ok.exfs,ok.funs,ok.frf⟩
section
variable{X:Cx}{pins:List (Addr × Obj)}{σ:St}{H:Hp}{s:Shared}{E:Value→Shared→Prop}
theorem ay.wish(I:ay X pins σ H s)(E:Value→Shared→Prop):ay (X.wish E) pins σ H s:=⟨I.ok.wish E,I.os,I.bare,I.base,I.loc,I.cell,I.free,I.freeC,I.pin,I.hok,I.len⟩
theorem ay.unwish(I:ay (X.wish E) pins σ H s):ay X pins σ H s:=⟨I.ok.unwish,I.os,I.bare,I.base,I.loc,I.cell,I.free,I.freeC,I.pin,I.hok,I.len⟩
theorem SP.unwish{D:oR}{f:Flow}{s':Shared}(h:SP (X.wish E) pins D f s'):SP X pins D f s':=by
  cases f with
  | next=>obtain⟨σ',H',I,q⟩:=h;exact⟨σ',H',I.unwish,q⟩
  | brk=>obtain⟨σ',H',I,q⟩:=h;exact⟨σ',H',I.unwish,q⟩
  | cont=>obtain⟨σ',H',I,q⟩:=h;exact⟨σ',H',I.unwish,q⟩
  | ret u=>obtain⟨v,σ',H',I,r,q⟩:=h;exact⟨v,σ',H',I.unwish,r,q⟩
theorem iM.nox{st:List Stmt}{t:TS}(h:iM X.nox st t):iM X st t:=fun pins s σ H D I hw=>
  wpAny_mono (h pins s σ H D (I.wish _) hw) (fun _ _ q=>q.unwish) fun _ _ z=>False.elim z
end
section
variable{X:Cx}{st:Stmt}{d_:List Stmt}{t u:TS}{e:Expr}{te:TE}{pos:Pos}
def Fn:TS:=fun D σ H=>D.nx σ H
def GN(t u:TS):TS:=fun D σ H=>t {D with nx:=u D} σ H
theorem uf:iM X [] Fn:=fun _ _ σ H _ I h=>wpAny_execs_nil ⟨σ,H,I,h⟩
theorem mP(h1:PS X st t)(h2:iM X d_ u):iM X (st::d_) (GN t u):=by
  intro pins s σ H D I h
  refine wpAny_execs_cons (bG (h1 pins s σ H {D with nx:=u D} I h) fun f s1 q=>?_)
  cases f with
  | next=>
    obtain⟨σ',H',I',q⟩:=q
    exact h2 pins s1 σ' H' D I' q
  | ret v=>exact q
  | brk=>exact q
  | cont=>exact q
theorem ug(h1:PS X st t):iM X [st] t:=by
  intro pins s σ H D I h
  refine wpAny_execs_cons (bG (h1 pins s σ H D I h) fun f s1 q=>?_)
  cases f with
  | next=>exact wpAny_execs_nil q
  | ret v=>exact q
  | brk=>exact q
  | cont=>exact q
theorem ay.quiet{pins:List (Addr × Obj)}{σ:St}{H:Hp}{s:Shared}(I:ay X pins σ H s):interactive X.env=false:=by simp [interactive,I.ok.kind]
def Fm(te:TE):TS:=fun D σ H=>te σ H fun _ H1=>D.nx σ H1
theorem z0(he:PE X e te)(hs:swapsWith e none pos.line X.env=pure false:=by rfl):PS X (.Expr e pos) (Fm te):=by
  intro pins s σ H D I h
  exact wpAny_Expr_any (bG (he pins s σ H _ I h) fun v s1 ⟨x,H1,I1,r1,q1⟩=>⟨σ,H1,I1,q1⟩) I.quiet hs
def GM(te:TE):TS:=fun D σ H=>te σ H D.rt
theorem xQ(he:PE X e te):PS X (.Return (some e) pos) (GM te):=by
  intro pins s σ H D I h
  exact wpAny_Return_some (bG (he pins s σ H _ I h) fun v s1 ⟨x,H1,I1,r1,q1⟩=>⟨x,σ,H1,I1,r1,q1⟩)
def GI(c:TT)(t u:TS):TS:=fun D σ H=>c σ H fun b H1=>if b=true then t D σ H1 else u D σ H1
theorem Bn{c:Expr}{a b:List Stmt}{tc:TT}(hc:PT X c tc)(ha:iM X a t)(hb:iM X b u):PS X (.If c a b pos) (GI tc t u):=by
  intro pins s σ H D I h
  refine wpAny_If (bG (hc pins s σ H _ I h) fun d s1 ⟨H1,I1,q1⟩=>?_)
  cases d with
  | true=>exact ha pins s1 σ H1 D I1 q1
  | false=>exact hb pins s1 σ H1 D I1 q1
end
abbrev TG:=V→St→Hp→(St→Hp→Prop)→Prop
abbrev yK:=List V→St→Hp→(St→Hp→Prop)→Prop
def PG(X:Cx)(target:Expr)(t:TG):Prop:=
  ∀(pins:List (Addr × Obj)) (s:Shared) (σ:St) (H:Hp) (v:V) (u:Value) (Q:St→Hp→Prop),ay X pins σ H s→a_ v u→t v σ H Q→
    wpAny (model X.prog X.w) X.A (assign target X.env u) (fun _ s'=>∃σ' H',ay X pins σ' H' s'∧Q σ' H') X.xe s
def vM(X:Cx)(ts:List Expr)(t:yK):Prop:=
  ∀(pins:List (Addr × Obj)) (s:Shared) (σ:St) (H:Hp) (vs:List V) (us:List Value) (Q:St→Hp→Prop),ay X pins σ H s→aH vs us→t vs σ H Q→
    wpAny (model X.prog X.w) X.A (assignInOrder ((assignEach ts X.env).map (·.2)) us) (fun _ s'=>∃σ' H',ay X pins σ' H' s'∧Q σ' H') X.xe s
section
variable{X:Cx}{pos:Pos}
def wH(i:Nat):TG:=fun v σ H Q=>Q (σ.set i (some v)) H
theorem zQ{i:Nat}{x:Str}(hN:X.N.Nodup)(hi:X.N[i]?=some x)(hx:BG X.env.scope x)(hf:X.fn x=true∨X.env.scope.names.lookup x=some .local:=by first | exact .inl rfl | exact .inr rfl | assumption):PG X (.Name x pos) (wH i):=by
  intro pins s σ H v u Q I r h
  exact wpAny_assign_Name (kG I hN hi hx r (fun s' I'=>⟨_,H,I',h⟩) hf)
def Gm:yK:=fun vs σ H Q=>vs=[]∧Q σ H
def Ea(t:TG)(u:yK):yK:=fun vs σ H Q=>∃v r,vs=v::r∧t v σ H fun σ' H'=>u r σ' H' Q
theorem zS:vM X [] Gm:=by
  intro pins s σ H vs us Q I r h
  obtain⟨e,h⟩:=h
  subst e
  cases r
  exact assignInOrder_nil ⟨σ,H,I,h⟩
theorem xI{e:Expr}{es:List Expr}{t:TG}{u:yK}(h1:PG X e t)(h2:vM X es u)
    (hs:(assignEach (e::es) X.env).map (·.2)=assign e X.env::(assignEach es X.env).map (·.2):=by rfl):vM X (e::es) (Ea t u):=by
  intro pins s σ H vs us Q I r h
  obtain⟨v,vr,e1,h⟩:=h
  subst e1
  cases r with
  | cons r rr=>
    rw [hs]
    refine assignInOrder_cons (bG (h1 pins s σ H _ _ _ I r h) fun _ s1 ⟨σ1,H1,I1,q1⟩=>?_)
    exact h2 pins s1 σ1 H1 _ _ Q I1 rr q1
def zg(K:PySem.W.Frag)(n:Nat)(t:yK):TG:=fun v σ H Q=>∃a xs,v=.ref a∧cW K H a xs∧xs.length=n∧t xs σ H Q
theorem CS{es:List Expr}{k:Nat}{t:yK}{n:Nat}(hc:X.calm=true)(h:vM X es t)
    (hn:(assignEach es X.env).length=n:=by rfl)(hst:(assignEach es X.env).findIdx? (·.1)=none:=by rfl):PG X (.Tuple es k pos) (zg X.K n t):=by
  intro pins s σ H v u Q I r hw
  obtain⟨a,xs,e1,hq,hl,hw⟩:=hw
  subst e1
  cases r
  obtain⟨its,rv,ht,hz⟩:=I.tuple hq
  refine assign_Tuple_tuple (I.ok.hd hc) ht (by simp [hn,←hl,rv.length]) hst fun h' hx=>?_
  have I1:ay X pins σ H {s with heap:=h'}:=I.kept (t':=s.toks) fun b o e=>hx b o (Nat.ne_of_lt (Heap.lt_size e)) e
  exact h pins _ σ H xs _ Q I1 (by simpa using rv) hw
def Dm(te:TE)(g:TG):TS:=fun D σ H=>te σ H fun x H1=>g x σ H1 D.nx
theorem CV{tg e:Expr}{te:TE}{g:TG}(he:PE X e te)(hg:PG X tg g)(hs:swapsWithSole [tg] e pos.line X.env=pure false:=by rfl)(hw:swappedStores [tg] e X.env=pure none:=by rfl)
    (h1:(assignEach [tg] X.env).map (·.2)=[assign tg X.env]:=by rfl):PS X (.Assign [tg] e pos) (Dm te g):=by
  intro pins s σ H D I h
  refine wpAny_Assign_stores (bG (he pins s σ H _ I h) fun v s1 ⟨x,H1,I1,r1,q1⟩=>?_) hs hw
  rw [h1]
  exact bG (hg pins s1 σ H1 x v _ I1 r1 q1) fun _ s2 q=>q
theorem xR{i:Nat}{x:Str}{e:Expr}{te:TE}{pos':Pos}(hN:X.N.Nodup)(hi:X.N[i]?=some x)(hx:BG X.env.scope x)(he:PE X e te)(hs:swapsWith e (some (.Name x pos')) pos.line X.env=pure false:=by rfl)(hf:X.fn x=true∨X.env.scope.names.lookup x=some .local:=by first | exact .inl rfl | exact .inr rfl | assumption):
    PS X (.Assign [.Name x pos'] e pos) (Dm te (wH i)):=by
  intro pins s σ H D I h
  refine wpAny_Assign_Name (bG (he pins s σ H _ I h) fun v s1 ⟨y,H1,I1,r1,q1⟩=>?_) hs
  exact kG I1 hN hi hx r1 (fun s2 I2=>⟨_,H1,I2,q1⟩) hf
def GL(i j:Nat)(ta:TA):TS:=fun D σ H=>ta σ H fun vs H1=>∃v w,vs=[v,w]∧D.nx ((σ.set i (some v)).set j (some w)) H1
theorem CW{i j:Nat}{x y:Str}{a b:Expr}{ta:TA}{px py pt:Pos}{kt k2 pt2}(hc:X.calm=true)(hN:X.N.Nodup)(hi:X.N[i]?=some x)(hj:X.N[j]?=some y)(hij:i≠j)
    (hx:X.env.scope.names.lookup x=some .local)(hy:X.env.scope.names.lookup y=some .local)(ha:PA X [a,b] ta)
    (hw:swappedStores [.Tuple [.Name x px,.Name y py] kt pt] (.Tuple [a,b] k2 pt2) X.env=pure (some [x,y]))
    (hs:swapsWithSole [.Tuple [.Name x px,.Name y py] kt pt] (.Tuple [a,b] k2 pt2) pos.line X.env=pure false:=by rfl):
    PS X (.Assign [.Tuple [.Name x px,.Name y py] kt pt] (.Tuple [a,b] k2 pt2) pos) (GL i j ta):=by
  intro pins s σ H D I h
  rw [exec_Assign_arm]
  refine wpAny_bind (wpAny_standAt ?_)
  rw [hs]
  refine wpAny_bind (wpAny_pure ?_)
  rw [if_neg (by decide)]
  refine wpAny_bind (Tuple_ (bG (ha _ pins s σ H _ I h) fun us s1 ⟨vs,H1,I1,r1,q1⟩=>?_))
  obtain⟨v,w,e1,q1⟩:=q1
  subst e1
  obtain⟨u1,u2,rfl,rv,rw'⟩:∃u1 u2,us=[u1,u2]∧a_ v u1∧a_ w u2:=by
    cases r1 with
    | cons p q=>
      cases q with
      | cons p' q'=>
        cases q'
        exact⟨_,_,rfl,p,p'⟩
  refine wpAny_newObj_type ?_ (by show 2≤sizeLine;decide)
  have I2:ay X pins σ H1 {s1 with heap:=s1.heap.push {cls:=.type "tuple",data:=.seq [u1,u2].toArray}}:=I1.kept (t':=s1.toks) fun b o e=>Heap.get?_push_of_some _ e
  rw [hw]
  refine wpAny_bind (wpAny_pure ?_)
  show wpAny (model X.prog X.w) X.A (do rule "assign.swapped-stores";let items ←unpackItems (.ref s1.heap.objs.size) 2 none;assignInOrder [fun v=>bindName X.env y v,fun v=>bindName X.env x v] items.reverse;pure Flow.next) _ _ _
  refine wpAny_bind (wpAny_rule (wpAny_bind (unpackItems_tuple (items:=#[u1,u2]) (I.ok.hd hc) (IsTup.new s1.heap _) fun h' hx'=>?_)))
  have I3:=I2.kept (h':=h') (t':=s1.toks) fun b o e=>hx' b o (Nat.ne_of_lt (Heap.lt_size e)) e
  show wpAny _ _ (assignInOrder [fun v=>bindName X.env y v,fun v=>bindName X.env x v] [u2,u1] >>= fun _=>pure Flow.next) _ _ _
  refine wpAny_bind (assignInOrder_cons (wpAny_bindName (kG I3 hN hj (.inl hy) rw' (fun s2 I4=>?_) (.inr hy))))
  refine assignInOrder_cons (wpAny_bindName (kG I4 hN hi (.inl hx) rv (fun s3 I5=>assignInOrder_nil (wpAny_pure ?_)) (.inr hx)))
  rw [List.set_comm _ _ (Ne.symm hij)] at I5
  exact⟨_,H1,I5,q1⟩
end
section
variable{X:Cx}{pos:Pos}
def Dp(c:TT)(tb:TS):TS:=fun D σ H=>∃W:Nat→St→Hp→Prop,(∃m,W m σ H)∧∀m σ H,W m σ H→
  c σ H fun b H1=>if b=true then ∃N:St→Hp→Prop,(∀σ' H',N σ' H'→∃m',m' < m∧W m' σ' H')∧tb {D with nx:=N,ct:=N,bk:=D.nx} σ H1 else D.nx σ H1
theorem qW{c:Expr}{body:List Stmt}{tc:TT}{tb:TS}(hp:PassesOwn (model X.prog X.w) X.A X.env X.xe)(hc:PT X c tc)(hb:iM X body tb):PS X (.While c body [] pos) (Dp tc tb):=by
  intro pins s σ H D I h
  obtain⟨W,⟨m0,w0⟩,turn⟩:=h
  refine wpAny_While (codeAny_whileLoop (fun n s'=>∃σ' H',ay X pins σ' H' s'∧W n σ' H') ?_ m0 ⟨σ,H,I,w0⟩)
  rintro n s1 ⟨σ1,H1,I1,w1⟩
  refine wpAny_passesOwn hp (bG (hc pins s1 σ1 H1 _ I1 (turn n σ1 H1 w1)) fun b s2 ⟨H2,I2,q2⟩=>?_)
  cases b with
  | true=>
    obtain⟨N,hN,q2⟩:=q2
    rw [if_pos rfl]
    refine wpAny_passesOwn hp (bG (hb pins s2 σ1 H2 _ I2 q2) fun f s3 q3=>?_)
    cases f with
    | next=>
      obtain⟨σ3,H3,I3,n3⟩:=q3
      obtain⟨m',hm,w3⟩:=hN σ3 H3 n3
      exact⟨m',hm,σ3,H3,I3,w3⟩
    | cont=>
      obtain⟨σ3,H3,I3,n3⟩:=q3
      obtain⟨m',hm,w3⟩:=hN σ3 H3 n3
      exact⟨m',hm,σ3,H3,I3,w3⟩
    | brk=>exact q3
    | ret v=>exact q3
  | false=>
    rw [if_neg Bool.false_ne_true]
    exact wpAny_execs_nil ⟨σ1,H2,I2,q2⟩
end
structure It where
  go:Nat→Hp→Prop
  yld:Nat→Hp→V→Hp→Prop
  stop:Nat→Hp→Prop
def iL(X:Cx)(pins:List (Addr × Obj))(H:Hp)(b:Addr):Prop:=
  H b=none∧b≠X.env.locals∧b∉X.fs∧(b∈X.ex∨X.s₀.heap.objs.size≤b)∧(∀x c,X.env.cells.lookup x=some c→c≠b)∧∀p∈X.pn++pins,p.1≠b
theorem ay.fpOk{X:Cx}{pins:List (Addr × Obj)}{σ:St}{H H':Hp}{s:Shared}{b:Addr}(I:ay X pins σ H s)(hb:s.heap.objs.size≤b)(hn:H' b=none):iL X pins H' b:=by
  refine⟨hn,Nat.ne_of_gt (Nat.lt_of_lt_of_le I.lt hb),I.nofs hb,.inr (Nat.le_trans I.sz hb),fun x c e z=>?_,fun p hp z=>?_⟩
  · obtain⟨v,q⟩:=I.cell x c e
    exact absurd (Nat.lt_of_lt_of_le q.lt (by rw [z];exact hb)) (Nat.lt_irrefl _)
  · exact absurd (Nat.lt_of_lt_of_le (Heap.lt_size (I.pin p hp).1) (by rw [z];exact hb)) (Nat.lt_irrefl _)
structure vS (P:Program) (w:World) (K:PySem.W.Frag) (tg:Expr) (J:It) (fp:List Addr) (it:Addr) (tn:Nat→Heap→Prop):Prop where
  mem:it∈fp
  obj:∀i h,tn i h→∀b∈fp,∃o,h.get? b=some o∧∀v,o.data≠.cell v
  keep:∀i h h',tn i h→(∀b∈fp,∀o,h.get? b=some o→h'.get? b=some o)→tn i h'
  item:∀(X:Cx),X.prog=P→X.w=w→X.K=K→X.calm=true→∀(i:Nat) (pins:List (Addr × Obj)) (s:Shared) (σ:St) (H:Hp) (E:Value→Shared→Prop),ay X pins σ H s→(∀b∈fp,iL X pins H b)→tn i s.heap→J.go i H→
    wpAny (model P w) X.A (pyNext (.ref it)) (fun r s1=>∃u,r=some u∧
      wpAny (model P w) X.A (letOwnedTupleGo tg (.ref it) u) (fun _ s2=>∃x H',ay X pins σ H' s2∧a_ x u∧J.yld i H x H'∧tn (i+1) s2.heap∧∀b∈fp,H' b=none) E s1) E s
  done:∀(X:Cx),X.prog=P→X.w=w→X.K=K→X.calm=true→∀(i:Nat) (pins:List (Addr × Obj)) (s:Shared) (σ:St) (H:Hp) (E:Value→Shared→Prop),ay X pins σ H s→(∀b∈fp,iL X pins H b)→tn i s.heap→J.stop i H→
    wpAny (model P w) X.A (pyNext (.ref it)) (fun r s1=>r=none∧ay X pins σ H s1) E s
  self:∀(A:Around) (i:Nat) (s:Shared) (Q:Value→Shared→Prop) (E:Value→Shared→Prop),tn i s.heap→Q (.ref it) s→wpAny (model P w) A (pyIter (.ref it)) Q E s
abbrev TI:=St→Hp→(It→Hp→Prop)→Prop
def GT(X:Cx)(pins:List (Addr × Obj))(σ:St)(tg:Expr)(R:It→Hp→Prop)(itv:Value)(s2:Shared):Prop:=
  ∃(it:Addr) (fp:List Addr) (tn:Nat→Heap→Prop) (J:It) (H':Hp),itv=.ref it∧ay X pins σ H' s2∧vS X.prog X.w X.K tg J fp it tn∧tn 0 s2.heap∧(∀b∈fp,iL X pins H' b)∧R J H'
def PI(X:Cx)(tg iter:Expr)(wi:TI):Prop:=
  ∀(pins:List (Addr × Obj)) (s:Shared) (σ:St) (H:Hp) (R:It→Hp→Prop),ay X pins σ H s→wi σ H R→
    wpAny (model X.prog X.w) X.A (eval iter X.env) (fun v s1=>wpAny (model X.prog X.w) X.A (pyIter v) (GT X pins σ tg R) X.xe s1) X.xe s
theorem wL{M:Model}{A:Around}{E:Value→Shared→Prop}{s:Shared}{tg:Expr}{it:Addr}{u:Value}{o:Obj}{n:String}{vs:Array Value}{Q:Unit→Shared→Prop}(ho:s.heap.get? it=some o)(hc:o.cls=.type n)(hd:o.data=.fields vs)
    (hn:["enumerate","zip","dict_itemiterator","dict_reverseitemiterator","odict_iterator","itertools.zip_longest","itertools.pairwise"].contains n=false)(hQ:Q () s):wpAny M A (letOwnedTupleGo tg (.ref it) u) Q E s:=by
  unfold letOwnedTupleGo
  cases tg<;>first
    | exact wpAny_pure hQ
    | (cases u<;>first
        | exact wpAny_pure hQ
        | (refine wpAny_bind (wpAny_load ho ?_)
           rw [hc,hd]
           show wpAny M A (if (["enumerate","zip","dict_itemiterator","dict_reverseitemiterator","odict_iterator","itertools.zip_longest","itertools.pairwise"].contains n&&vs[0]?==some (rawInt _))=true then _ else _) Q E s
           rw [if_neg (by intro h;rw [hn,Bool.false_and] at h;cases h)]
           exact wpAny_pure hQ))
def F_(K:PySem.W.Frag)(a:Addr):It:=
  ⟨fun i H=>∃xs x,gA K H a xs∧xs[i]?=some x,fun i H x H'=>H'=H∧∀xs,gA K H a xs→xs[i]?=some x,fun i H=>∃xs,gA K H a xs∧xs.length≤i⟩
def Ga(K:PySem.W.Frag)(a:Addr):It:=
  ⟨fun i H=>∃xs x,cW K H a xs∧xs[i]?=some x,fun i H x H'=>H'=H∧∀xs,cW K H a xs→xs[i]?=some x,fun i H=>∃xs,cW K H a xs∧xs.length≤i⟩
def FJ(lo:Int)(n:Nat):It:=⟨fun i _=>i < n,fun i H x H'=>H'=H∧x=.int (lo+i),fun i _=>n≤i⟩
theorem vE{P:Program}{w:World}{K:PySem.W.Frag}{tg:Expr}(a it:Addr):vS P w K tg (F_ K a) [it] it (fun i h=>h.IsListIter it a i) where
  mem:=by simp
  obj:=fun i h st b hb=>by
    have e:b=it:=by simpa using hb
    subst e
    obtain⟨o,e,c,d⟩:=st
    exact⟨o,e,fun v z=>by rw [d] at z;cases z⟩
  keep:=fun i h h' st k=>st.at fun o e=>k it (by simp) o e
  item:=by
    intro X hP hw hK hc i pins s σ H E I hf st hg
    subst hP hw hK
    obtain⟨xs,x,hq,hx⟩:=hg
    obtain⟨its,rv,p,hz⟩:=I.list hq
    obtain⟨u,hu,ru⟩:=rv.get hx
    obtain⟨f0,f1,f2,f3,f4,f5⟩:=hf it (by simp)
    refine wpAny_pyNext_list_item st p.isList (x:=u) (by simpa using hu) fun h' st' sb=>?_
    have I1:ay X pins σ H {s with heap:=h'}:=I.turned (t':=s.toks) (fun b o hb e=>(sb.2 b hb).trans e) f0 f1 f3 f4 f5
    obtain⟨o,e,c,d⟩:=id st'
    exact⟨u,rfl,wL (s:={s with heap:=h'}) e c d (by decide) ⟨x,H,I1,ru,⟨rfl,fun ys hy=>by rw [I.list_inj hy hq];exact hx⟩,st',fun b hb=>(hf b hb).1⟩⟩
  done:=by
    intro X hP hw hK hc i pins s σ H E I hf st hg
    subst hP hw hK
    obtain⟨xs,hq,hx⟩:=hg
    obtain⟨its,rv,p,hz⟩:=I.list hq
    obtain⟨f0,f1,f2,f3,f4,f5⟩:=hf it (by simp)
    have hl:=rv.length
    exact wpAny_pyNext_list_end (I.ok.hd hc) st p.isList (by simp;lia) fun h' eb=>⟨rfl,I.turned (t':=s.toks) (fun b o hb e=>eb b o hb e) f0 f1 f3 f4 f5⟩
  self:=fun _ _ _ _ _ st h=>wpAny_pyIter_listiter st h
theorem sR{P:Program}{w:World}{K:PySem.W.Frag}{tg:Expr}(a it:Addr):vS P w K tg (Ga K a) [it] it (fun i h=>h.IsTupleIter it a i) where
  mem:=by simp
  obj:=fun i h st b hb=>by
    have e:b=it:=by simpa using hb
    subst e
    obtain⟨o,e,c,d⟩:=st
    exact⟨o,e,fun v z=>by rw [d] at z;cases z⟩
  keep:=fun i h h' st k=>st.at fun o e=>k it (by simp) o e
  item:=by
    intro X hP hw hK hc i pins s σ H E I hf st hg
    subst hP hw hK
    obtain⟨xs,x,hq,hx⟩:=hg
    obtain⟨its,rv,p,hz⟩:=I.tuple hq
    obtain⟨u,hu,ru⟩:=rv.get hx
    obtain⟨f0,f1,f2,f3,f4,f5⟩:=hf it (by simp)
    refine wpAny_pyNext_tuple_item st (show s.heap.IsTuple a its.toArray from p) (x:=u) (by simpa using hu) fun h' st' sb=>?_
    have I1:ay X pins σ H {s with heap:=h'}:=I.turned (t':=s.toks) (fun b o hb e=>(sb.2 b hb).trans e) f0 f1 f3 f4 f5
    obtain⟨o,e,c,d⟩:=id st'
    exact⟨u,rfl,wL (s:={s with heap:=h'}) e c d (by decide) ⟨x,H,I1,ru,⟨rfl,fun ys hy=>by rw [I.tuple_inj hy hq];exact hx⟩,st',fun b hb=>(hf b hb).1⟩⟩
  done:=by
    intro X hP hw hK hc i pins s σ H E I hf st hg
    subst hP hw hK
    obtain⟨xs,hq,hx⟩:=hg
    obtain⟨its,rv,p,hz⟩:=I.tuple hq
    obtain⟨f0,f1,f2,f3,f4,f5⟩:=hf it (by simp)
    have hl:=rv.length
    exact wpAny_pyNext_tuple_end (I.ok.hd hc) st (show s.heap.IsTuple a its.toArray from p) (by simp;lia) fun h' eb=>⟨rfl,I.turned (t':=s.toks) (fun b o hb e=>eb b o hb e) f0 f1 f3 f4 f5⟩
  self:=fun _ _ _ _ _ st h=>wpAny_pyIter_tupleiter st h
theorem sQ{P:Program}{w:World}{K:PySem.W.Frag}{tg:Expr}(it:Addr)(lo:Int)(n:Nat):vS P w K tg (FJ lo n) [it] it (fun i h=>IsRangeIter h it (lo+(i:Nat)*1) ((n:Int) - (i:Nat)) 1) where
  mem:=by simp
  obj:=fun i h st b hb=>by
    have e:b=it:=by simpa using hb
    subst e
    exact⟨_,st,fun v z=>by
      have z':Data.fields _=Data.cell v:=z
      cases z'⟩
  keep:=fun i h h' st k=>k it (by simp) _ st
  item:=by
    intro X hP hw hK hc i pins s σ H E I hf st hg
    subst hP hw hK
    obtain⟨f0,f1,f2,f3,f4,f5⟩:=hf it (by simp)
    have W:=Walks.range (prog:=X.prog) (w:=X.w) (I.ok.hd hc) it lo 1 n
    refine W.item i s _ _ hg st fun v h' tk hv st' kk=>?_
    obtain⟨t,rfl⟩:=hv
    have I1:ay X pins σ H {s with heap:=h',toks:=tk}:=I.turned (fun b o hb e=>kk b o (by simpa using hb) e) f0 f1 f3 f4 f5
    refine⟨_,rfl,wL (s:={s with heap:=h',toks:=tk}) (n:="range_iterator") st' rfl rfl (by decide) ⟨.int (lo+i),H,I1,⟨t,?_⟩,⟨rfl,rfl⟩,st',fun b hb=>(hf b hb).1⟩⟩
    rw [Int.mul_one]
  done:=by
    intro X hP hw hK hc i pins s σ H E I hf st hg
    subst hP hw hK
    obtain⟨f0,f1,f2,f3,f4,f5⟩:=hf it (by simp)
    exact wpAny_pyNext_range_end (I.ok.hd hc) st (by have:n≤i:=hg;lia) fun h' eb=>⟨rfl,I.turned (t':=s.toks) (fun b o hb e=>eb b o hb e) f0 f1 f3 f4 f5⟩
  self:=fun _ _ _ _ _ st h=>wpAny_pyIter_rangeiter st h
end L2
namespace L2
open PySem PySem.Spec PyProof.Rows
section
variable{X:Cx}{tg:Expr}
def Bg(K:PySem.W.Frag)(tl:TE):TI:=fun σ H R=>tl σ H fun x H1=>∃a,x=.ref a∧(∃xs,gA K H1 a xs)∧R (F_ K a) H1
def Eh(K:PySem.W.Frag)(tl:TE):TI:=fun σ H R=>tl σ H fun x H1=>∃a,x=.ref a∧(∃xs,cW K H1 a xs)∧R (Ga K a) H1
theorem zT{l:Expr}{tl:TE}(hl:PE X l tl):PI X tg l (Bg X.K tl):=by
  intro pins s σ H R I h
  refine bG (hl pins s σ H _ I h) fun v s1 ⟨x,H1,I1,r1,q1⟩=>?_
  obtain⟨a,e,⟨xs,hq⟩,q⟩:=q1
  subst e
  cases r1
  obtain⟨its,rv,p,hz⟩:=I1.list hq
  refine wpAny_pyIter_list p.isList ?_
  refine⟨s1.heap.objs.size,[s1.heap.objs.size],_,_,H1,rfl,I1.kept (t':=s1.toks) fun b o e=>Heap.get?_push_of_some _ e,vE a _,⟨_,Heap.get?_push_size _ rfl,rfl,rfl⟩,fun b hb=>?_,q⟩
  have e:b=s1.heap.objs.size:=by simpa using hb
  subst e
  exact I1.fpOk (Nat.le_refl _) (I1.hok.fresh (Nat.le_refl _))
theorem CT{l:Expr}{tl:TE}(hl:PE X l tl):PI X tg l (Eh X.K tl):=by
  intro pins s σ H R I h
  refine bG (hl pins s σ H _ I h) fun v s1 ⟨x,H1,I1,r1,q1⟩=>?_
  obtain⟨a,e,⟨xs,hq⟩,q⟩:=q1
  subst e
  cases r1
  obtain⟨its,rv,p,hz⟩:=I1.tuple hq
  refine wpAny_pyIter_tuple (show s1.heap.IsTuple a its.toArray from p) ?_
  refine⟨s1.heap.objs.size,[s1.heap.objs.size],_,_,H1,rfl,I1.kept (t':=s1.toks) fun b o e=>Heap.get?_push_of_some _ e,sR a _,⟨_,Heap.get?_push_size _ rfl,rfl,rfl⟩,fun b hb=>?_,q⟩
  have e:b=s1.heap.objs.size:=by simpa using hb
  subst e
  exact I1.fpOk (Nat.le_refl _) (I1.hok.fresh (Nat.le_refl _))
theorem yd{pins:List (Addr × Obj)}{σ:St}{H:Hp}{s:Shared}{R:It→Hp→Prop}{E:Value→Shared→Prop}{lo hi:Int}{t u v:Tok}{tk:Nat}(I:ay X pins σ H s)(h1: -(2 ^ 62)≤lo)(h2:lo < 2 ^ 62)(h3: -(2 ^ 62)≤hi)(h4:hi < 2 ^ 62)
    (q:R (FJ lo (hi - lo).toNat) H):wpAny (model X.prog X.w) X.A (pyIter (.ref s.heap.objs.size)) (GT X pins σ tg R) E {s with heap:=s.heap.push {cls:=.type "range",data:=.fields #[.int lo t,.int hi u,.int 1 v]},toks:=tk}:=by
  refine wpAny_pyIter_range (IsRange.new ..) (small_one h1 h2 h3 h4) ?_
  have I1:ay X pins σ H {s with heap:=s.heap.push {cls:=.type "range",data:=.fields #[.int lo t,.int hi u,.int 1 v]},toks:=tk}:=I.kept fun b o e=>Heap.get?_push_of_some _ e
  refine⟨(s.heap.push {cls:=.type "range",data:=.fields #[.int lo t,.int hi u,.int 1 v]}).objs.size,[(s.heap.push {cls:=.type "range",data:=.fields #[.int lo t,.int hi u,.int 1 v]}).objs.size],_,_,H,rfl,
    I1.kept (t':=tk) fun b o e=>Heap.get?_push_of_some _ e,sQ _ lo (hi - lo).toNat,?_,fun b hb=>?_,q⟩
  · have e1:lo+((0:Nat):Int)*1=lo:=by simp
    have e2:(((hi - lo).toNat:Nat):Int) - ((0:Nat):Int)=Builtin.Range.rangeSize lo hi 1:=by rw [rangeSize_one];split<;>lia
    show IsRangeIter _ _ (lo+((0:Nat):Int)*1) ((((hi - lo).toNat:Nat):Int) - ((0:Nat):Int)) 1
    rw [e1,e2]
    exact Heap.get?_push_size _ rfl
  · have e:b=(s.heap.push {cls:=.type "range",data:=.fields #[.int lo t,.int hi u,.int 1 v]}).objs.size:=by simpa using hb
    subst e
    exact I1.fpOk (Nat.le_refl _) (I1.hok.fresh (Nat.le_refl _))
def Eg(ta:TA):TI:=fun σ H R=>ta σ H fun vs H1=>∃j:Int,vs=[.int j]∧ -(2 ^ 62)≤j∧j < 2 ^ 62∧R (FJ 0 j.toNat) H1
theorem vf{a:Expr}{ta:TA}{p pos:Pos}(hg:Gl X "range")(hm:X.mg "range"=none)(ha:PA X [a] ta)(hs:starEach [a] X.env=[(false,eval a X.env)]:=by rfl):PI X tg (.Call (.Name "range" p) [a] [] pos) (Eg ta):=by
  intro pins s σ H R I h
  refine Call_ (jE I hg hm boot_range (PyProof.Rows.callWith_type1 (bG (ha pos pins s σ H _ I h) fun us s1 ⟨vs,H1,I1,r1,q1⟩=>?_) hs rfl))
  obtain⟨j,e,q1,q2,q⟩:=q1
  subst e
  cases r1 with
  | cons r rr=>
    cases rr
    obtain⟨t,rfl⟩:=r
    exact call_range_1 (yd I1 (by lia) (by lia) q1 q2 (by simpa using q))
def GH(wi:TI)(g:TG)(tb:TS):TS:=fun D σ H=>wi σ H fun J H1=>∃W:Nat→Nat→St→Hp→Prop,(∃m,W 0 m σ H1)∧∀i m σ H,W i m σ H→
  (J.stop i H∧D.nx σ H)∨(J.go i H∧∃N:St→Hp→Prop,(∀σ' H',N σ' H'→∃m',m' < m∧W (i+1) m' σ' H')∧∀x H',J.yld i H x H'→g x σ H' fun σ2 H2=>tb {D with nx:=N,ct:=N,bk:=D.nx} σ2 H2)
def i6(fp:List Addr)(h:Heap):List (Addr × Obj):=fp.filterMap fun b=>(h.get? b).map fun o=>(b,o)
theorem bP{fp:List Addr}{h:Heap}{b:Addr}{o:Obj}(hb:b∈fp)(e:h.get? b=some o):(b,o)∈i6 fp h:=List.mem_filterMap.mpr ⟨b,hb,by rw [e];rfl⟩
theorem u9{fp:List Addr}{h:Heap}{p:Addr × Obj}(hp:p∈i6 fp h):p.1∈fp∧h.get? p.1=some p.2:=by
  obtain⟨b,hb,e⟩:=List.mem_filterMap.mp hp
  cases q:h.get? b with
  | none=>rw [q] at e;cases e
  | some o=>
    rw [q] at e
    have e':(b,o)=p:=Option.some.inj e
    subst e'
    exact⟨hb,q⟩
theorem ay.pinned{pins:List (Addr × Obj)}{σ:St}{H:Hp}{s:Shared}{fp:List Addr}(I:ay X pins σ H s)(hf:∀b∈fp,iL X pins H b)(ho:∀b∈fp,∃o,s.heap.get? b=some o∧∀v,o.data≠.cell v):ay X (pins++i6 fp s.heap) σ H s:=
  I.pins_of fun p hp=>(List.mem_append.mp hp).elim (fun z=>I.pin p (List.mem_append_right _ z)) fun z=>by
    obtain⟨hb,e⟩:=u9 z
    obtain⟨f0,f1,f2,_⟩:=hf p.1 hb
    obtain⟨o,e',d⟩:=ho p.1 hb
    rw [e] at e';cases e'
    exact⟨e,f0,f1,f2,d⟩
theorem ay.unpinned{pins pl:List (Addr × Obj)}{σ:St}{H:Hp}{s:Shared}(I:ay X (pins++pl) σ H s):ay X pins σ H s:=I.pins_of fun p hp=>I.pin p (List.mem_append_right _ (List.mem_append_left _ hp))
theorem xP{iter:Expr}{body:List Stmt}{wi:TI}{g:TG}{tb:TS}{pos:Pos}(hp:PassesOwn (model X.prog X.w) X.A X.env X.xe)(hc:X.calm=true)(hi:PI X tg iter wi)(hg:PG X tg g)(hb:iM X body tb)
    (hs:∀x,foldedSetIterable iter X.env x=pure x:=by intro _;rfl):PS X (.For tg iter body [] pos) (GH wi g tb):=by
  intro pins s σ H D I h
  refine wpAny_For (bG (hi pins s σ H _ I h) fun v s1 h1=>bG h1 fun itv s2 h2=>?_) hs
  obtain⟨it,fp,tn,J,H2,e,I2,T,st2,f2,W,⟨m0,w0⟩,turn⟩:=h2
  subst e
  have stat:∀{H':Hp},(∀b∈fp,H' b=none)→∀b∈fp,iL X pins H' b:=fun hn b hb=>⟨hn b hb,(f2 b hb).2⟩
  refine codeAny_forLoop_any (fun n s'=>∃i σ' H',ay X pins σ' H' s'∧tn i s'.heap∧(∀b∈fp,H' b=none)∧W i n σ' H') ?_ m0 ⟨0,σ,H2,I2,st2,fun b hb=>(f2 b hb).1,w0⟩
  rintro n s3 ⟨i,σ3,H3,I3,st3,fr3,w3⟩
  rcases turn i n σ3 H3 w3 with ⟨stop,qn⟩ | ⟨go,N,hN,step⟩
  · refine wpAny_passesOwn hp (bG (T.done X rfl rfl rfl hc i pins s3 σ3 H3 X.xe I3 (stat fr3) st3 stop) fun r s4 ⟨hr,I4⟩=>?_)
    subst hr
    exact wpAny_execs_nil ⟨σ3,H3,I4,qn⟩
  · refine wpAny_passesOwn hp (bG (T.item X rfl rfl rfl hc i pins s3 σ3 H3 X.xe I3 (stat fr3) st3 go) fun r s4 ⟨u,hr,h4⟩=>?_)
    subst hr
    refine wpAny_passesOwn hp (bG h4 fun _ s5 ⟨x,H5,I5,r5,y5,st5,fr5⟩=>?_)
    have I5':=I5.pinned (stat fr5) (T.obj _ _ st5)
    refine wpAny_passesOwn hp (bG (hg _ s5 σ3 H5 x u _ I5' r5 (step x H5 y5)) fun _ s6 ⟨σ6,H6,I6,q6⟩=>?_)
    refine wpAny_passesOwn hp (bG (hb _ s6 σ6 H6 _ I6 q6) fun f s7 q7=>?_)
    have again:∀{σ7:St} {H7:Hp},ay X (pins++i6 fp s5.heap) σ7 H7 s7→N σ7 H7→∃m,m < n∧∃i σ' H',ay X pins σ' H' s7∧tn i s7.heap∧(∀b∈fp,H' b=none)∧W i m σ' H':=fun{σ7 H7} I7 n7=>by
      obtain⟨m',hm,w7⟩:=hN σ7 H7 n7
      refine⟨m',hm,i+1,σ7,H7,I7.unpinned,T.keep _ _ _ st5 fun b hb o e=>(I7.pin (b,o) (List.mem_append_right _ (List.mem_append_right _ (bP hb e)))).1,fun b hb=>?_,w7⟩
      obtain⟨o,e,d⟩:=T.obj _ _ st5 b hb
      exact(I7.pin (b,o) (List.mem_append_right _ (List.mem_append_right _ (bP hb e)))).2.1
    cases f with
    | next=>obtain⟨σ7,H7,I7,n7⟩:=q7;exact again I7 n7
    | cont=>obtain⟨σ7,H7,I7,n7⟩:=q7;exact again I7 n7
    | brk=>obtain⟨σ7,H7,I7,q7⟩:=q7;exact⟨σ7,H7,I7.unpinned,q7⟩
    | ret v=>obtain⟨x7,σ7,H7,I7,r7,q7⟩:=q7;exact⟨x7,σ7,H7,I7.unpinned,r7,q7⟩
end
end L2
namespace L2
open PySem PySem.Spec PyProof.Rows
abbrev R2:=V→V→Hp→VK→Prop
def gK(X:Cx)(f:Value→Value→Sem Value)(r:R2):Prop:=
  ∀(pins:List (Addr × Obj)) (s:Shared) (σ:St) (H:Hp) (x y:V) (v u:Value) (Q:VK),ay X pins σ H s→a_ x v→a_ y u→r x y H Q→
    wpAny (model X.prog X.w) X.A (f v u) (EP X pins σ Q) X.xe s
def FP(X:Cx)(f:Value→Sem Value)(r:V→Hp→VK→Prop):Prop:=
  ∀(pins:List (Addr × Obj)) (s:Shared) (σ:St) (H:Hp) (x:V) (v:Value) (Q:VK),ay X pins σ H s→a_ x v→r x H Q→
    wpAny (model X.prog X.w) X.A (f v) (EP X pins σ Q) X.xe s
def dU(X:Cx)(f:Value)(r:List V→Hp→VK→Prop):Prop:=
  ∀(pins:List (Addr × Obj)) (s:Shared) (σ:St) (H:Hp) (xs:List V) (us:List Value) (Q:VK),ay X pins σ H s→aH xs us→r xs H Q→
    wpAny (model X.prog X.w) X.A (call f us) (EP X pins σ Q) X.xe s
def Fs(r:R2)(ta tb:TE):TE:=fun σ H Q=>ta σ H fun x H1=>tb σ H1 fun y H2=>r x y H2 Q
def G7(r:V→Hp→VK→Prop)(ta:TE):TE:=fun σ H Q=>ta σ H fun x H1=>r x H1 Q
def rI(C:Int→Int→Prop)(g:Int→Int→V):R2:=fun x y H Q=>∃i j,x=.int i∧y=.int j∧C i j∧Q (g i j) H
def sD(g:Int→Int→V):R2:=fun x y H Q=>∃i j,x=.int i∧y=.int j∧Q (g i j) H
def rU(g:Int→V):V→Hp→VK→Prop:=fun x H Q=>∃i,x=.int i∧Q (g i) H
section
variable{X:Cx}{a b c:Expr}{ta tb tc:TE}{pos:Pos}
theorem BL(ha:PE X a ta)(hb:PE X b tb){pins:List (Addr × Obj)}{s:Shared}{σ:St}{H:Hp}{R:V→V→Hp→Prop}(I:ay X pins σ H s)
    (h:ta σ H fun x H1=>tb σ H1 fun y H2=>R x y H2){Q:Value→Shared→Prop}{f:Value→Value→Sem Value}
    (hf:∀v u s2 x y H2,ay X pins σ H2 s2→a_ x v→a_ y u→R x y H2→wpAny (model X.prog X.w) X.A (f v u) Q X.xe s2):
    wpAny (model X.prog X.w) X.A (eval a X.env) (fun v s₁=>wpAny (model X.prog X.w) X.A (eval b X.env) (fun u s₂=>wpAny (model X.prog X.w) X.A (f v u) Q X.xe s₂) X.xe s₁) X.xe s:=by
  refine bG (ha pins s σ H _ I h) fun v s1 ⟨x,H1,I1,r1,q1⟩=>?_
  refine bG (hb pins s1 σ H1 _ I1 q1) fun u s2 ⟨y,H2,I2,r2,q2⟩=>?_
  exact hf v u s2 x y H2 I2 r1 r2 q2
theorem EH{op:Operator}{r:R2}(ho:gK X (binaryOp op) r)(ha:PE X a ta)(hb:PE X b tb):PE X (.BinOp a op b pos) (Fs r ta tb):=by
  intro pins s σ H Q I h
  exact wpAny_BinOp (BL ha hb I h fun v u s2 x y H2 I2 rx ry q=>ho pins s2 σ H2 x y v u Q I2 rx ry q)
theorem EK{op:UnaryOp}{r:V→Hp→VK→Prop}(ho:FP X (unaryOp op) r)(ha:PE X a ta):PE X (.UnaryOp op a pos) (G7 r ta):=by
  intro pins s σ H Q I h
  exact UnaryOp_ (bG (ha pins s σ H _ I h) fun v s1 ⟨x,H1,I1,r1,q1⟩=>ho pins s1 σ H1 x v Q I1 r1 q1)
theorem Ex{f:Value→Value→Sem Value}{C:Int→Int→Prop}{g:Int→Int→Int}
    (rule:∀(i j:Int) (t u:Tok) (s:Shared) (Q:Value→Shared→Prop) (E:Value→Shared→Prop),C i j→Q (.int (g i j) s.toks) {s with toks:=s.toks+1}→wpAny (model X.prog X.w) X.A (f (.int i t) (.int j u)) Q E s):
    gK X f (rI C fun i j=>.int (g i j)):=by
  intro pins s σ H x y v u Q I rx ry h
  obtain⟨i,j,rfl,rfl,hc,q⟩:=h
  obtain⟨t,rfl⟩:=rx
  obtain⟨t',rfl⟩:=ry
  exact rule i j t t' s _ _ hc ⟨.int (g i j),H,I.tok _,⟨_,rfl⟩,q⟩
theorem Ey{f:Value→Value→Sem Value}{g:Int→Int→Int}
    (rule:∀(i j:Int) (t u:Tok) (s:Shared) (Q:Value→Shared→Prop) (E:Value→Shared→Prop),Q (.int (g i j) s.toks) {s with toks:=s.toks+1}→wpAny (model X.prog X.w) X.A (f (.int i t) (.int j u)) Q E s):
    gK X f (sD fun i j=>.int (g i j)):=by
  intro pins s σ H x y v u Q I rx ry h
  obtain⟨i,j,rfl,rfl,q⟩:=h
  obtain⟨t,rfl⟩:=rx
  obtain⟨t',rfl⟩:=ry
  exact rule i j t t' s _ _ ⟨.int (g i j),H,I.tok _,⟨_,rfl⟩,q⟩
theorem zB{f:Value→Value→Sem Value}{g:Int→Int→Bool}
    (rule:∀(i j:Int) (t u:Tok) (s:Shared) (Q:Value→Shared→Prop) (E:Value→Shared→Prop),Q (.bool (g i j)) s→wpAny (model X.prog X.w) X.A (f (.int i t) (.int j u)) Q E s):
    gK X f (sD fun i j=>.bl (g i j)):=by
  intro pins s σ H x y v u Q I rx ry h
  obtain⟨i,j,rfl,rfl,q⟩:=h
  obtain⟨t,rfl⟩:=rx
  obtain⟨t',rfl⟩:=ry
  exact rule i j t t' s _ _ ⟨.bl (g i j),H,I,rfl,q⟩
def BD(i j:Int):Prop:=0≤j∧j≤1000000∧i.natAbs < 2 ^ 64
def yP(i j:Int):Prop:=(-(2 ^ 64) < i∧i < 2 ^ 64)∨(-(2 ^ 64) < j∧j < 2 ^ 64)
theorem yP.ok{i j:Int}(h:yP i j):IntMulOk i j:=by
  rcases h with ⟨h1,h2⟩ | ⟨h1,h2⟩
  · exact .of_left (intBits_le_64 h1 h2)
  · exact .of_right (intBits_le_64 h1 h2)
theorem Cv:gK X (binaryOp .Add) (sD fun i j=>.int (i+j)):=Ey fun _ _ _ _ _ _ _ q=>add_int q
theorem CG:gK X (binaryOp .Sub) (sD fun i j=>.int (i - j)):=Ey fun _ _ _ _ _ _ _ q=>sub_int q
theorem CA:gK X (binaryOp .Mult) (rI yP fun i j=>.int (i*j)):=Ex fun _ _ _ _ _ _ _ hc q=>mul_int q hc.ok
theorem zF:gK X (binaryOp .Mod) (rI (fun _ j=>j≠0) fun i j=>.int (i.fmod j)):=Ex fun _ _ _ _ _ _ _ hc q=>mod_int' hc q
theorem CC:gK X (binaryOp .Pow) (rI BD fun i j=>.int (i ^ j.toNat)):=Ex fun _ _ _ _ _ _ _ hc q=>pow_int_small hc.1 hc.2.1 hc.2.2 q
theorem Hv{f:Value→Sem Value}{g:Int→Int}
    (rule:∀(i:Int) (t:Tok) (s:Shared) (Q:Value→Shared→Prop) (E:Value→Shared→Prop),Q (.int (g i) s.toks) {s with toks:=s.toks+1}→wpAny (model X.prog X.w) X.A (f (.int i t)) Q E s):
    FP X f (rU fun i=>.int (g i)):=by
  intro pins s σ H x v Q I rx h
  obtain⟨i,rfl,q⟩:=h
  obtain⟨t,rfl⟩:=rx
  exact rule i t s _ _ ⟨.int (g i),H,I.tok _,⟨_,rfl⟩,q⟩
theorem Dv:FP X (unaryOp .USub) (rU fun i=>.int (-i)):=Hv fun _ _ _ _ _ q=>neg_int q
end
section
variable{X:Cx}{a b c:Expr}{ta tb tc:TE}{pos:Pos}
theorem BV{pins:List (Addr × Obj)}{σ:St}{H:Hp}{s:Shared}{Q:VK}{k k':Bool}(I:ay X pins σ H s)(q:Q (.bl k) H)(e:k=k'):EP X pins σ Q (.bool k') s:=by
  subst e
  exact⟨.bl k,H,I,rfl,q⟩
theorem EC:gK X (compareOp .Lt) (sD fun i j=>.bl (decide (i < j))):=zB fun _ _ _ _ _ _ _ q=>lt_int q
theorem EB:gK X (compareOp .LtE) (sD fun i j=>.bl (decide (i≤j))):=zB fun _ _ _ _ _ _ _ q=>le_int q
theorem EA:gK X (compareOp .Gt) (sD fun i j=>.bl (decide (j < i))):=zB fun _ _ _ _ _ _ _ q=>gt_int q
theorem Ez:gK X (compareOp .GtE) (sD fun i j=>.bl (decide (j≤i))):=zB fun _ _ _ _ _ _ _ q=>ge_int q
theorem zJ:gK X (compareOp .IsNot) (fun x y H Q=>y=.non∧Q (.bl (!decide (x=.non))) H):=by
  intro pins s σ H x y v u Q I rx ry h
  obtain⟨rfl,q⟩:=h
  cases ry
  refine isnot_none_gen (BV I q ?_)
  cases x<;>first
    | (cases rx;rfl)
    | (obtain⟨t,rfl⟩:=rx;rfl)
theorem gK.or{f:Value→Value→Sem Value}{r r':R2}(h:gK X f r)(h':gK X f r'):gK X f (fun x y H Q=>r x y H Q∨r' x y H Q):=by
  intro pins s σ H x y v u Q I rx ry q
  rcases q with q | q
  · exact h pins s σ H x y v u Q I rx ry q
  · exact h' pins s σ H x y v u Q I rx ry q
theorem a8(b:Expr){op:CmpOp}(h:op≠.In:=by decide)(h2:op≠.NotIn:=by decide):behindInMarks op b=false:=by
  have e1:(op==CmpOp.In)=false:=by cases op<;>first | rfl | exact absurd rfl h
  have e2:(op==CmpOp.NotIn)=false:=by cases op<;>first | rfl | exact absurd rfl h2
  cases b<;>simp [behindInMarks,e1,e2]
theorem zM{op:CmpOp}{r:R2}(ho:gK X (compareOp op) r)(ha:PE X a ta)(hb:PE X b tb)(hm:behindInMarks op b=false):PE X (.Compare a [op] [b] pos) (Fs r ta tb):=by
  intro pins s σ H Q I h
  exact wpAny_Compare1 (BL ha hb I h fun v u s2 x y H2 I2 rx ry q=>ho pins s2 σ H2 x y v u Q I2 rx ry q) hm
def Fu(t:TE):TT:=fun σ H Q=>t σ H fun x H'=>∃k,x=.bl k∧Q k H'
theorem z9{op:CmpOp}{r:R2}(ho:gK X (compareOp op) r)(ha:PE X a ta)(hb:PE X b tb)(hm:behindInMarks op b=false):PT X (.Compare a [op] [b] pos) (Fu (Fs r ta tb)):=by
  intro pins s σ H Q I h
  refine wpAny_isTrue_Compare1 (bG (ha pins s σ H _ I h) fun v s1 ⟨x,H1,I1,r1,q1⟩=>bG (hb pins s1 σ H1 _ I1 q1) fun u s2 ⟨y,H2,I2,r2,q2⟩=>
    bG (ho pins s2 σ H2 x y v u _ I2 r1 r2 q2) fun c s3 ⟨z,H3,I3,r3,k,e,q3⟩=>?_) hm
  subst e
  cases r3
  exact wpAny_truthy_bool ⟨H3,I3,q3⟩
def yp(r r':R2)(ta tb tc:TE):TE:=fun σ H Q=>ta σ H fun x H1=>tb σ H1 fun y H2=>r x y H2 fun z H3=>∃k,z=.bl k∧
  (if k=true then tc σ H3 fun w' H4=>r' y w' H4 Q else Q (.bl false) H3)
theorem xB{op op':CmpOp}{r r':R2}(ho:gK X (compareOp op) r)(ho':gK X (compareOp op') r')(ha:PE X a ta)(hb:PE X b tb)(hc:PE X c tc)
    (hm:lastMarks [op,op'] [b,c]=false:=by with_unfolding_all rfl):PE X (.Compare a [op,op'] [b,c] pos) (yp r r' ta tb tc):=by
  intro pins s σ H Q I h
  refine Compare_chain (bG (ha pins s σ H _ I h) fun v s1 ⟨x,H1,I1,r1,q1⟩=>chain_link (bG (hb pins s1 σ H1 _ I1 q1) fun u s2 ⟨y,H2,I2,r2,q2⟩=>
    bG (ho pins s2 σ H2 x y v u _ I2 r1 r2 q2) fun d s3 ⟨z,H3,I3,r3,k,e,q3⟩=>?_)) hm
  subst e
  cases r3
  refine wpAny_truthy_bool ?_
  cases k with
  | false=>exact ite_ff ⟨.bl false,H3,I3,rfl,q3⟩
  | true=>exact ite_tt (chain_last (bG (hc pins s3 σ H3 _ I3 q3) fun w' s4 ⟨z',H4,I4,r4,q4⟩=>ho' pins s4 σ H4 y z' u w' Q I4 r2 r4 q4))
theorem r9:(sizeLine:Nat) < 2 ^ 63:=by rw [sizeLine_eq];decide
theorem oP{x:V}{us:List Value}(r:aH [x] us):∃u,us=[u]∧a_ x u:=by
  cases r with
  | cons r1 r2=>cases r2;exact⟨_,rfl,r1⟩
theorem BA{x y:V}{us:List Value}(r:aH [x,y] us):∃u w',us=[u,w']∧a_ x u∧a_ y w':=by
  cases r with
  | cons r1 r2=>
    cases r2 with
    | cons r3 r4=>cases r4;exact⟨_,_,rfl,r1,r3⟩
theorem wb:dU X (.builtin "abs") (fun xs H Q=>∃i,xs=[.int i]∧Q (.int (if i < 0 then -i else i)) H):=by
  intro pins s σ H xs us Q I r h
  obtain⟨i,rfl,q⟩:=h
  obtain⟨u,rfl,t,rfl⟩:=oP r
  exact call_abs_int fun u tk=>⟨.int (if i < 0 then -i else i),H,I.tok _,⟨_,rfl⟩,q⟩
theorem uJ(hc:X.calm=true):dU X (.builtin "max") (fun xs H Q=>∃i j,xs=[.int i,.int j]∧Q (.int (if j > i then j else i)) H):=by
  intro pins s σ H xs us Q I r h
  obtain⟨i,j,rfl,q⟩:=h
  obtain⟨u,w',rfl,⟨t,rfl⟩,⟨t',rfl⟩⟩:=BA r
  refine max_two_ints (I.ok.hd hc) fun h' tk k=>⟨_,H,I.kept k,?_,q⟩
  by_cases hj:j > i
  · rw [if_pos hj,if_pos hj];exact⟨_,rfl⟩
  · rw [if_neg hj,if_neg hj];exact⟨_,rfl⟩
theorem uK(hc:X.calm=true):dU X (.builtin "min") (fun xs H Q=>∃i j,xs=[.int i,.int j]∧Q (.int (if j < i then j else i)) H):=by
  intro pins s σ H xs us Q I r h
  obtain⟨i,j,rfl,q⟩:=h
  obtain⟨u,w',rfl,⟨t,rfl⟩,⟨t',rfl⟩⟩:=BA r
  refine min_two_ints (I.ok.hd hc) fun h' tk k=>⟨_,H,I.kept k,?_,q⟩
  by_cases hj:j < i
  · rw [if_pos hj,if_pos hj];exact⟨_,rfl⟩
  · rw [if_neg hj,if_neg hj];exact⟨_,rfl⟩
theorem uH:dU X (.type "int") (fun xs H Q=>(∃i,xs=[.int i]∧Q (.int i) H)∨∃k,xs=[.bl k]∧Q (.int (if k then 1 else 0)) H):=by
  intro pins s σ H xs us Q I r h
  rcases h with ⟨i,rfl,q⟩ | ⟨k,rfl,q⟩
  · obtain⟨u,rfl,t,rfl⟩:=oP r
    exact call_int_int ⟨.int i,H,I,⟨_,rfl⟩,q⟩
  · obtain⟨u,rfl,r1⟩:=oP r
    cases r1
    exact call_int_bool ⟨.int (if k then 1 else 0),H,I.tok _,⟨_,rfl⟩,q⟩
end
end L2
namespace L2
open PySem PySem.Spec PyProof.Rows
structure He (h:Heap) (x dx C:Addr) (mA:Str→Option Value):Prop where
  obj:h.get? x=some (PySem.W.instObj C dx)
  ns:h.Ns1 dx mA
  ne:dx≠x
section
variable{prog:Program}{w:World}{A:Around}{E:Value→Shared→Prop}{s:Shared}{K:PySem.W.Frag}{x dx C f:Addr}{mA:Str→Option Value}{name:Str}{v:Value}
end
theorem nh.some_of{v:V}{o:Option Value}(r:nh (some v) o):∃u,o=some u∧a_ v u:=by
  cases o with
  | none=>exact(show False from r).elim
  | some u=>exact⟨u,rfl,r⟩
section
variable{P:Program}{w:World}{H H':Hp}{h h':Heap}{a C dx:Addr}{fs fs':List (Str × V)}
end
structure G_ (K:PySem.W.Frag) (C:Addr):Prop where
  pg:PySem.W.plainGet K C Str.empty=true
  hd:PySem.W.hasDictIn K C=true
  po:PySem.W.plainOver K C=true
  sa:PySem.W.findIn K (.ref C) "__setattr__"=some (some (.builtin "object.__setattr__"))
structure Hy (K:PySem.W.Frag) (C:Addr) (f:Str) (v:V) (u:Value):Prop where
  at_:PySem.W.findIn K (.ref C) f=some (some u)
  rel:a_ v u
  get:PySem.W.specialIn K u "__get__"=some none
  cp:PySem.W.copiedNames.contains f=false
structure Hd (K:PySem.W.Frag) (C:Addr) (m:Str) (f:Addr):Prop where
  at_:PySem.W.findIn K (.ref C) m=some (some (.ref f))
  fn:PySem.W.isFn K (.ref f)=true
  kp:PySem.W.keepIn K (.ref f)=true
section
variable{X:Cx}{pins:List (Addr × Obj)}{σ:St}{H:Hp}{s:Shared}{a C dx:Addr}{fs:List (Str × V)}{f:Str}{v:V}{A:Around}{E:Value→Shared→Prop}
end
section
variable{X:Cx}{o e value:Expr}{f:Str}{pos pos' tpos:Pos}{ta tv:TE}
end
section
variable{X:Cx}{pins:List (Addr × Obj)}{σ:St}{H:Hp}{s:Shared}{A:Around}{E:Value→Shared→Prop}{Q:Value→Shared→Prop}{c:Value}{b:Bool}
inductive mi (K:PySem.W.Frag) (H:Hp):V→Value→Prop where
  | non:mi K H .non (.type "NoneType")
  | bl (x:Bool):mi K H (.bl x) (.type "bool")
  | int (i:Int):mi K H (.int i) (.type "int")
  | str (x:Str):mi K H (.str x) (.type "str")
  | flt (x:UInt64):mi K H (.flt x) (.type "float")
  | lst {a:Addr} {xs:List V} (e:H a=some (.lst xs)):mi K H (.ref a) (.type "list")
  | frz {a:Addr} {o:Obj} {xs:List V} (e:H a=some (.frz o (.lst xs))):mi K H (.ref a) (.type "list")
  | tup {a:Addr} {xs:List V} (e:H a=some (.tup xs)):mi K H (.ref a) (.type "tuple")
  | dK {a:Addr} {kvs:List (en × V)} (e:H a=some (.dK kvs)):mi K H (.ref a) (.type "dict")
  | dT {a:Addr} {kvs:List (List en × V)} (e:H a=some (.dT kvs)):mi K H (.ref a) (.type "dict")
  | ins {a C dx:Addr} {fs:List (Str × V)} (e:H a=some (.ins C dx fs)) (cl:G_ K C) (ha:PySem.W.findIn K (.ref C) "__class__"=some (some (.builtin "object.__class__")))
      (hn:PySem.W.specialIn K (.builtin "object.__class__") "__get__"=some (some (.builtin "getset_descriptor.__get__"))) (htk:PySem.W.takesIn K (.builtin "object.__class__")=some true)
      (hm:PySem.W.mroIn K C (.type "object")=some true):mi K H (.ref a) (.ref C)
end
end L2
namespace L2
open PySem PySem.Spec PyProof.Rows
structure cX (k:Nat) (A:Around):Prop where
  hd:A.handled=none
  dp:A.depth+3*k+5 < recursionLimit
  un:A.units+16*k+200 < cLine
  gd:A.guards=some []
theorem cX.mono{j k:Nat}{A:Around}(r:cX k A)(h:j≤k):cX j A:=⟨r.hd,by have:=r.dp;lia,by have:=r.un;lia,r.gd⟩
theorem cX.deeper{k:Nat}{A:Around}(r:cX (k+1) A)(env:Env):cX k (A.deeper env):=
  ⟨r.hd,by have:=r.dp;show A.depth+1+3*k+5 < _;lia,by have:=r.un;show A.units+3+16*k+200 < _;lia,r.gd⟩
theorem cX.depth{k:Nat}{A:Around}(r:cX k A):A.depth < recursionLimit:=by have:=r.dp;lia
theorem cX.units{k:Nat}{A:Around}(r:cX k A):A.units+64 < cLine:=by have:=r.un;lia
def Do:TA:=fun _ H Q=>Q [] H
def rp(ta:TE)(tr:TA):TA:=fun σ H Q=>ta σ H fun x H1=>tr σ H1 fun xs H2=>Q (x::xs) H2
section
variable{X:Cx}{e:Expr}{es:List Expr}{te:TE}{t:TA}{pos:Pos}
theorem k_:PA X [] Do:=fun _ _ _ _ H Q I h=>Calls.spliced_nil ⟨[],H,I,.nil,h⟩
theorem jl(ha:PE X e te)(hr:PA X es t)(hs:starEach (e::es) X.env=(false,eval e X.env)::starEach es X.env:=by rfl):PA X (e::es) (rp te t):=by
  intro pos pins s σ H Q I h
  rw [hs]
  show wpAny _ _ (spliced ((false,eval e X.env)::backTo pos (starEach es X.env))) _ _ s
  refine Calls.spliced_cons (bG (ha pins s σ H _ I h) fun u s1 ⟨x,H1,I1,r1,q1⟩=>?_)
  exact bG (hr pos pins s1 σ H1 _ I1 q1) fun us s2 ⟨xs,H2,I2,r2,q2⟩=>⟨x::xs,H2,I2,.cons r1 r2,q2⟩
def Fv(t:TA):TE:=fun σ H Q=>t σ H fun xs H1=>xs.length≤sizeLine∧∀p,H1 p=none→Q (.ref p) (aV H1 p (.tup xs))
def GJ(t:TA):TE:=fun σ H Q=>t σ H fun xs H1=>xs.length≤sizeLine∧∀p,H1 p=none→Q (.ref p) (aV H1 p (.lst xs))
theorem CQ{x1}(h:PA X es t):PE X (.Tuple es x1 pos) (Fv t):=by
  intro pins s σ H Q I hq
  refine wpAny_Tuple_spliced (bG (h pos pins s σ H _ I hq) fun us s1 ⟨xs,H1,I1,r,z,q⟩=>⟨by rw [←r.length];exact z,?_⟩)
  have hf:H1 s1.heap.objs.size=none:=I1.hok.fresh (Nat.le_refl _)
  refine⟨.ref s1.heap.objs.size,aV H1 s1.heap.objs.size (.tup xs),I1.laid (t':=s1.toks) (fun b u e=>Heap.get?_push_of_some _ e) (Nat.le_refl _) ?_,rfl,q _ hf⟩
  exact⟨z,us,r,⟨_,Heap.get?_push_size _ rfl,rfl,_,rfl,rfl⟩⟩
theorem CL(h:PA X es t):PE X (.List es pos) (GJ t):=by
  intro pins s σ H Q I hq
  refine wpAny_List_spliced (bG (h pos pins s σ H _ I hq) fun us s1 ⟨xs,H1,I1,r,z,q⟩=>⟨by rw [←r.length];exact z,?_⟩)
  have hf:H1 s1.heap.objs.size=none:=I1.hok.fresh (Nat.le_refl _)
  refine⟨.ref s1.heap.objs.size,aV H1 s1.heap.objs.size (.lst xs),I1.laid (t':=s1.toks) (fun b u e=>Heap.get?_push_of_some _ e) (Nat.le_refl _) ?_,rfl,q _ hf⟩
  exact⟨z,us,0,r,Heap.get?_push_size _ rfl⟩
end
abbrev Sp:=List V→Hp→VK→XK→Prop
abbrev uE:=List Env→Hp→Shared→XK→Value→Shared→Prop
structure yQ (P:Program) (w:World) (K:PySem.W.Frag) (mg:Str→Option Value) (base:Heap) (A:Around) (outer:List Env) (s:Shared) (H:Hp):Prop where
  frames:A.frames=some outer
  mod:Mod K mg base
  bs:∀b o,base.get? b=some o→s.heap.get? b=some o∧H b=none
  bsz:base.objs.size≤s.heap.objs.size
  funs:s.heap.FunFrames base outer
  frf:∀b∈ww outer,H b=none
  hok:jL P w H s.heap
  bare:AllBare s.gens
def CE(outer:List Env)(P:Program)(w:World)(H:Hp)(s:Shared)(Q:VK)(u:Value)(s':Shared):Prop:=
  ∃v H',s'.os=s.os∧AllBare s'.gens∧Un (ww outer) [] H H' s.heap s'.heap∧jL P w H' s'.heap∧a_ v u∧Q v H'
def CR(CX:uE)(outer:List Env)(P:Program)(w:World)(H:Hp)(s:Shared)(Q:VK)(E:XK)(r:Result)(s':Shared):Prop:=
  match r with
  | .ok (.ret u)=>CE outer P w H s Q u s'
  | .ok _=>False
  | .error e=>CX outer H s E e s'
structure aL (P:Program) (w:World) (K:PySem.W.Frag) (mg:Str→Option Value) (base:Heap) (CX:uE) (k:Nat) (f:Addr) (fd:FuncData) (ps:List Str) (sp:Sp):Prop where
  len:∀vs H Q E,sp vs H Q E→vs.length=ps.length
  run:∀(A:Around) (outer:List Env) (s:Shared) (H:Hp) (args:Args) (us:List Value) (vs:List V) (Q:VK) (E:XK),cX k A→yQ P w K mg base A outer s H→BindsTo s fd args (ps.zip us)→aH vs us→sp vs H Q E→
    codeAny (model P w) A (.call (.ref f) args) (CR CX outer P w H s Q E) s
section
variable{X:Cx}{pins:List (Addr × Obj)}{σ:St}{H:Hp}{s s':Shared}
theorem ay.env0(I:ay X pins σ H s):yQ X.prog X.w X.K X.mg X.base X.A X.stack s H:=
  ⟨I.ok.frames,I.ok.mod,I.bs,Nat.le_trans I.ok.bsz I.sz,I.stack,I.stkFree,I.hok,I.bare⟩
theorem ay.after{Q:VK}{u:Value}(I:ay X pins σ H s)(h:CE X.stack X.prog X.w H s Q u s'):EP X pins σ Q u s':=by
  obtain⟨v,H',os,bare,un,hok,r,q⟩:=h
  obtain⟨hh,g,d,t,os'⟩:=s'
  obtain rfl:os'=s.os:=os
  exact⟨v,H',I.call (h':=hh) (g':=g) (d':=d) (t':=t) (ch:=[]) un hok bare (fun b z=>absurd z (by simp)),r,q⟩
end
def yo(sp:Sp)(dvs:List V)(E:XK)(t:TA):TE:=fun σ H Q=>t σ H fun vs H1=>sp (vs++dvs) H1 Q E
def nJ(K:PySem.W.Frag)(fd:FuncData)(ps:List Str)(ds:List Value):Prop:=
  ∀(s:Shared) (us:List Value),K.In s.heap→(us++ds).length=ps.length→BindsTo s fd ⟨us,[]⟩ (ps.zip (us++ds))
theorem nJ.all{K:PySem.W.Frag}{fd:FuncData}{ps:List Str}(h:∀us:List Value,us.length=ps.length→bindArgs fd ⟨us,[]⟩=pure (ps.zip us)):nJ K fd ps []:=fun s us _ hl=>by
  rw [List.append_nil] at hl ⊢
  exact .of_eq (h us hl)
def rP(CX:uE)(X:Cx)(E:XK):Prop:=∀(pins:List (Addr × Obj)) (σ:St) (H:Hp) (s:Shared) (e:Value) (s':Shared),ay X pins σ H s→CX X.stack H s E e s'→X.xe e s'
section
variable{X:Cx}{CX:uE}{k:Nat}{f C:Addr}{fd:FuncData}{ps:List Str}{sp:Sp}{dvs:List V}{ds:List Value}{E:XK}{x m:Str}{p pos apos:Pos}{e o:Expr}{es:List Expr}{ta:TE}{t:TA}
theorem Di{pins:List (Addr × Obj)}{σ:St}{H:Hp}{s:Shared}{Q:VK}{us:List Value}{vs:List V}(F:aL X.prog X.w X.K X.mg X.base CX k f fd ps sp)(hr:cX k X.A)(hb:nJ X.K fd ps ds)(hd:aH dvs ds)(hx:rP CX X E)
    (I:ay X pins σ H s)(r:aH vs us)(h:sp (vs++dvs) H Q E):wpAny (model X.prog X.w) X.A (call (.ref f) us) (EP X pins σ Q) X.xe s:=by
  have r2:aH (vs++dvs) (us++ds):=r.append hd
  have hl:(us++ds).length=ps.length:=by rw [←r2.length];exact F.len _ _ _ _ h
  refine wpAny_call (codeAny_mono (F.run X.A X.stack s H ⟨us,[]⟩ (us++ds) (vs++dvs) Q E hr I.env0 (hb s us I.kIn hl) r2 h) fun r s' hq=>?_)
  cases r with
  | error e=>exact hx pins σ H s e s' I hq
  | ok fl=>
    cases fl with
    | ret u=>exact I.after hq
    | next=>exact False.elim hq
    | brk=>exact False.elim hq
    | cont=>exact False.elim hq
theorem zL(F:aL X.prog X.w X.K X.mg X.base CX k f fd ps sp)(hr:cX k X.A)(hg:Gl X x)(hm:X.mg x=some (.ref f))(hk:PySem.W.keepIn X.K (.ref f)=true)(hb:nJ X.K fd ps ds)(hd:aH dvs ds)(hx:rP CX X E)
    (ha:PA X (e::es) t)(hdb:(x==("__debug__":Str))=false:=by decide)(he:starEach (e::es) X.env=(false,eval e X.env)::starEach es X.env:=by rfl)(hpl:(backTo pos (starEach es X.env)).any (·.1)=false:=by rfl):
    PE X (.Call (.Name x p) (e::es) [] pos) (yo sp dvs E t):=by
  intro pins s σ H Q I h
  refine wpAny_Call_Name_kw (ua I hg hm ?_ hdb)
  refine PySem.W.callWith_K (h₀:=X.base) I.ok.mod.kin hk (bG (ha pos pins s σ H _ I h) fun us s1 ⟨vs,H1,I1,r,q⟩=>⟨I1.kIn,?_⟩) he hpl
  exact Di F hr hb hd hx I1 r q
structure Mk (K:PySem.W.Frag) (C f:Addr):Prop where
  makes:PySem.W.makesIn K C=true
  init:PySem.W.findIn K (.ref C) "__init__"=some (some (.ref f))
  fn:PySem.W.isFn K (.ref f)=true
  kp:PySem.W.keepIn K (.ref C)=true
end
section
variable{X:Cx}{CX:uE}{k:Nat}{f C:Addr}{fd:FuncData}{ps ks:List Str}{sp:Sp}{E:XK}{x m:Str}{p pos apos kpos:Pos}{e o:Expr}{es:List Expr}{kws:List Keyword}{te ta:TE}{t tk:TA}{nm:Option Str}
structure Gb (K:PySem.W.Frag) (fd:FuncData) (ps ks:List Str) (g:List Value→List Value→List Value) (gV:List V→List V→List V):Prop where
  to:∀(s:Shared) (us ws:List Value),K.In s.heap→(g us ws).length=ps.length→BindsTo s fd ⟨us,ks.zip ws⟩ (ps.zip (g us ws))
  rel:∀{vs:List V} {us:List Value} {zs:List V} {ws:List Value},aH vs us→aH zs ws→aH (gV vs zs) (g us ws)
variable{g:List Value→List Value→List Value}{gV:List V→List V→List V}
end
structure aF (N P:List Str) (sc:Scope):Prop where
  kind:sc.kind=.function
  co:sc.isCoroutine=false
  gen:sc.isGenerator=false
  nd:N.Nodup
  pre:N.take P.length=P
  par:∀x∈P,sc.names.lookup x=some .local∨sc.names.lookup x=some .cell
  nofree:∀y∈sc.names,y.2≠.free
theorem nS{kindOf:Str→Option NameKind}{x:Str}:∀{binds:List (Str × Value)} {m:Str→Option Value},(∀v,(x,v)∉binds)→bindL kindOf binds m x=m x
  | [],_,_=>rfl
  | (n,v)::r,m,h=>by
    unfold bindL
    rw [nS fun w hw=>h w (List.mem_cons_of_mem _ hw)]
    split
    · have:x≠n:=by rintro rfl;exact h v List.mem_cons_self
      simp [this]
    · rfl
theorem nP{kindOf:Str→Option NameKind}{x:Str}:∀{binds:List (Str × Value)} {m:Str→Option Value},(∀v,(x,v)∉binds)→bindC kindOf binds m x=m x
  | [],_,_=>rfl
  | (n,v)::r,m,h=>by
    unfold bindC
    rw [nP fun w hw=>h w (List.mem_cons_of_mem _ hw)]
    split
    · rfl
    · have:x≠n:=by rintro rfl;exact h v List.mem_cons_self
      simp [this]
theorem nQ{kindOf:Str→Option NameKind}{x:Str}{v:Value}:∀{P:List Str} {vs:List Value} {i:Nat} {m:Str→Option Value},P.Nodup→P[i]?=some x→vs[i]?=some v→kindOf x=some .local→
    bindL kindOf (P.zip vs) m x=some v
  | [],_,_,_,_,h,_,_=>by simp at h
  | _::_,[],_,_,_,_,h,_=>by simp at h
  | p::P,w::vs,0,m,nd,h1,h2,hk=>by
    simp at h1 h2;subst h1;subst h2
    show bindL kindOf ((p,w)::P.zip vs) m p=_
    unfold bindL
    rw [nS fun v hv=>(List.nodup_cons.mp nd).1 (List.of_mem_zip hv).1,if_pos hk]
    simp
  | p::P,w::vs,i+1,m,nd,h1,h2,hk=>by
    show bindL kindOf ((p,w)::P.zip vs) m x=_
    unfold bindL
    exact nQ (i:=i) (List.nodup_cons.mp nd).2 (by simpa using h1) (by simpa using h2) hk
theorem nM{kindOf:Str→Option NameKind}{x:Str}{v:Value}:∀{P:List Str} {vs:List Value} {i:Nat} {m:Str→Option Value},P.Nodup→P[i]?=some x→vs[i]?=some v→kindOf x≠some .local→
    bindC kindOf (P.zip vs) m x=some v
  | [],_,_,_,_,h,_,_=>by simp at h
  | _::_,[],_,_,_,_,h,_=>by simp at h
  | p::P,w::vs,0,m,nd,h1,h2,hk=>by
    simp at h1 h2;subst h1;subst h2
    show bindC kindOf ((p,w)::P.zip vs) m p=_
    unfold bindC
    rw [nP fun v hv=>(List.nodup_cons.mp nd).1 (List.of_mem_zip hv).1,if_neg hk]
    simp
  | p::P,w::vs,i+1,m,nd,h1,h2,hk=>by
    show bindC kindOf ((p,w)::P.zip vs) m x=_
    unfold bindC
    exact nM (i:=i) (List.nodup_cons.mp nd).2 (by simpa using h1) (by simpa using h2) hk
def eV(N:List Str)(vs:List V):St:=vs.map some++List.replicate (N.length - vs.length) none
def rV(CX:uE)(P:Program)(w:World)(K:PySem.W.Frag)(mg:Str→Option Value)(base:Heap)(N:List Str)(qual:Str)(scope:Scope)(f:Addr)(cd:Value)(A:Around)(outer:List Env)(s:Shared)(H:Hp)(E:XK):Cx where
  prog:=P
  w:=w
  K:=K
  mg:=mg
  base:=base
  A:=A.deeper (envOfC qual scope s.heap.objs.size f cd)
  N:=N
  s₀:=s
  H₀:=H
  env:=envOfC qual scope s.heap.objs.size f cd
  outer:=outer
  stack:=envOfC qual scope s.heap.objs.size f cd::outer
  ex:=[]
  calm:=true
  fn:=fun _=>true
  pn:=[]
  xe:=fun e s'=>wpAny (model P w) (A.deeper (envOfC qual scope s.heap.objs.size f cd)) (leaving (envOfC qual scope s.heap.objs.size f cd) e) (fun _ s''=>CX outer H s E e s'') (fun e' s''=>CX outer H s E e' s'') s'
theorem qb{sc:Scope}{n:Nat}{x:Str}(h:sc.names.lookup x=some .cell):∃c,(cellsFrom n sc.names []).lookup x=some c:=by
  have q:=PySem.W.cellsFrom_some sc.names n [] (.inl h)
  exact Option.isSome_iff_exists.mp q
theorem uU{CX:uE}{P:Program}{w:World}{K:PySem.W.Frag}{mg:Str→Option Value}{base:Heap}{N ps:List Str}{qual:Str}{scope:Scope}{f:Addr}{cd:Value}{A:Around}{outer:List Env}{s s1:Shared}{H:Hp}{E:XK}{us:List Value}{vs:List V}
    (S:aF N ps scope)(hd:A.handled=none)(e0:yQ P w K mg base A outer s H)(hl:vs.length=ps.length)(r:aH vs us)
    (x:InCallC s s.heap.objs.size (bindL (envOfC qual scope s.heap.objs.size f cd).kindOf (ps.zip us) fun _=>none) (cellsFrom (s.heap.objs.size+1) scope.names []) (bindC (envOfC qual scope s.heap.objs.size f cd).kindOf (ps.zip us) fun _=>none) s1):
    ay (rV CX P w K mg base N qual scope f cd A outer s H E) [] (eV N vs) H s1:=by
  have hpl:ps.length≤N.length:=by have:=congrArg List.length S.pre;rw [List.length_take] at this;lia
  obtain⟨h1,tk,rfl,hk⟩:=x.done
  have noA:∀b:Addr,b∉(rV CX P w K mg base N qual scope f cd A outer s H E).ex:=fun b z=>absurd (show b∈([]:List Addr) from z) (by simp)
  refine⟨⟨e0.mod,S.kind,rfl,rfl,Nat.le_refl _,fun y z c h1 h2=>?_,fun y hy=>?_,fun y c _ h=>?_,fun _=>hd,Around.frames_deeper e0.frames,.inr ⟨rfl,rfl⟩,fun b z=>absurd z (noA b),e0.bs,e0.bsz,fun b _ _=>noA b,fun b z=>absurd z (noA b),e0.funs,e0.frf⟩,
    rfl,e0.bare,Un.kept hk,⟨_,x.toInCall.ns,fun i y v h1 h2 h3=>?_⟩,fun y c h=>⟨_,x.cell y c h⟩,e0.hok.fresh (Nat.le_refl _),fun y c h=>?_,fun p hp=>absurd (show p∈([]:List (Addr × Obj)) from hp) (by simp),e0.hok.kept hk,?_⟩
  · exact name_of_addr x.apart (PySem.mem_of_lookup h1) (PySem.mem_of_lookup h2)
  · have hy:scope.names.lookup y=some .cell∨scope.names.lookup y=some .free:=hy
    rcases hy with hy | hy
    · exact qb hy
    · exact absurd rfl (S.nofree _ (PySem.mem_of_lookup hy))
  · exact Nat.le_of_lt (x.above y c (PySem.mem_of_lookup h))
  · have hi:i < vs.length:=by
      unfold eV at h2
      by_cases hi:i < vs.length
      · exact hi
      · rw [List.getElem?_append_right (by simpa using hi)] at h2
        rw [List.getElem?_replicate] at h2
        split at h2<;>cases h2
    have ha:vs[i]?=some v:=by
      unfold eV at h2
      rw [List.getElem?_append_left (by simpa using hi),List.getElem?_map] at h2
      cases e:vs[i]? with
      | none=>rw [e] at h2;cases h2
      | some a=>rw [e] at h2;cases h2;rfl
    obtain⟨u,hu,rv⟩:=r.get ha
    have hp:ps[i]?=some y:=by
      rw [←S.pre,List.getElem?_take_of_lt (by lia)];exact h1
    have ndP:ps.Nodup:=by rw [←S.pre];exact S.nd.sublist (List.take_sublist _ _)
    refine⟨u,rv,?_⟩
    rcases S.par y (List.mem_of_getElem? hp) with k | k
    · exact .inl ⟨k,nQ ndP hp hu k⟩
    · obtain⟨c,e⟩:=qb (n:=s.heap.objs.size+1) k
      refine .inr ⟨.inl k,c,e,?_⟩
      have q:=x.cell y c e
      rw [nM ndP hp hu (by show scope.names.lookup y≠_;rw [k];decide)] at q
      exact q
  · exact e0.hok.fresh (Nat.le_of_lt (x.above y c (PySem.mem_of_lookup h)))
  · unfold eV
    show _=N.length
    rw [List.length_append,List.length_map,List.length_replicate]
    lia
theorem D'{CX:uE}{P:Program}{w:World}{K:PySem.W.Frag}{mg:Str→Option Value}{base:Heap}{k:Nat}{f:Addr}{name qual:Str}{params:Arguments}{body:List Stmt}{scope:Scope}{dV kV doc pm cdv ct oc:Value}{an od:Option Addr}
    {osl:Array (Option Value)}{N ps:List Str}{sp:Sp}(lk:K.lookup f=some ⟨oc,od,.func (PySem.W.fnOf name qual params body scope dV kV doc pm an cdv ct),osl⟩)(hcd:PySem.W.codeIn K cdv qual=true)(S:aF N ps scope)
    (len:∀vs H Q E,sp vs H Q E→vs.length=ps.length)
    (hbody:∀(A:Around) (outer:List Env) (s:Shared) (H:Hp) (vs:List V) (Q:VK) (E:XK),cX k (A.deeper (envOfC qual scope s.heap.objs.size f cdv))→sp vs H Q E→
      ∃t,iM (rV CX P w K mg base N qual scope f cdv A outer s H E) body t∧t {nx:=fun _ H'=>Q .non H',rt:=Q} (eV N vs) H):
    aL P w K mg base CX (k+1) f (PySem.W.fnOf name qual params body scope dV kV doc pm an cdv ct) ps sp:=by
  refine⟨len,fun A outer s H args us vs Q E hr e0 hb r hsp=>?_⟩
  have hl:=len _ _ _ _ hsp
  have KX:K.In s.heap:=e0.mod.kin.keeps fun b o e=>(e0.bs b o e).1
  have lim:s.heap.NoLimit:=e0.mod.nolimit.keeps fun b o e=>(e0.bs b o e).1
  have hkind:∀y∈ps.zip us,scope.names.lookup y.1=some .local∨(scope.names.lookup y.1=some .cell∧((cellsFrom (s.heap.objs.size+1) scope.names []).lookup y.1).isSome=true):=fun⟨n,v⟩ hy=>by
    rcases S.par n (List.of_mem_zip hy).1 with q | q
    · exact .inl q
    · exact .inr ⟨q,PySem.W.cellsFrom_some _ _ _ (.inl q)⟩
  refine codeAny_call_function hr.depth (KX _ _ lk) rfl S.co S.gen rfl (PySem.W.codeRec_of KX hcd) (hb _ _ _ _ ?_)
  refine wpAny_newFunctionEnv_cells S.kind hkind fun env he s1 x=>?_
  subst he
  refine⟨lim.keeps x.toInCall.keep,codeAny_func ?_⟩
  obtain⟨t,ht,hq⟩:=hbody A outer s H vs Q E (hr.deeper _) hsp
  have I:ay (rV CX P w K mg base N qual scope f cdv A outer s H E) [] (eV N vs) H s1:=uU S hr.hd e0 hl r x
  refine wpAny_mono (ht [] s1 (eV N vs) H _ I hq) (fun fl s' hs=>?_) fun e s' hs=>hs
  have fin:∀{σ':St} {H':Hp} {v:V} {u:Value},ay (rV CX P w K mg base N qual scope f cdv A outer s H E) [] σ' H' s'→a_ v u→Q v H'→CE outer P w H s Q u s':=
    fun{σ' H' v u} J rv q=>⟨v,H',J.os,J.bare,J.base,J.hok,rv,q⟩
  cases fl with
  | ret u=>
    obtain⟨v,σ',H',J,rv,q⟩:=hs
    exact fin J rv q
  | next=>
    obtain⟨σ',H',J,q⟩:=hs
    exact fin (v:=V.non) (u:=Value.none) J rfl q
  | brk=>
    obtain⟨_,_,_,q⟩:=hs
    exact False.elim q
  | cont=>
    obtain⟨_,_,_,q⟩:=hs
    exact False.elim q
end L2
namespace L2
open PySem PySem.Spec PyProof.Rows
section
variable{X:Cx}{x:Str}{p pos:Pos}{e:Expr}{es:List Expr}{t:TA}{id T:String}{r:List V→Hp→VK→Prop}
def GG(r:List V→Hp→VK→Prop)(t:TA):TE:=fun σ H Q=>t σ H fun vs H1=>r vs H1 Q
theorem mO(hc:dU X (.builtin id) r)(hg:Gl X x)(hm:X.mg x=none)(hv:bootBuiltins x=some (.builtin id))(ha:PA X (e::es) t)(hn:x≠"__name__":=by decide)(hdb:(x==("__debug__":Str))=false:=by decide)
    (he:starEach (e::es) X.env=(false,eval e X.env)::starEach es X.env:=by rfl)(hpl:(backTo pos (starEach es X.env)).any (·.1)=false:=by rfl):PE X (.Call (.Name x p) (e::es) [] pos) (GG r t):=by
  intro pins s σ H Q I h
  refine wpAny_Call_Name_kw (jE I hg hm hv ?_ hn hdb)
  exact PyProof.Rows.callWith_builtin1 (bG (ha pos pins s σ H _ I h) fun us s1 ⟨vs,H1,I1,r1,q1⟩=>hc pins s1 σ H1 vs us Q I1 r1 q1) he hpl
theorem oz(hc:dU X (.type T) r)(hg:Gl X x)(hm:X.mg x=none)(hv:bootBuiltins x=some (.type T))(ha:PA X (e::es) t)(hn:x≠"__name__":=by decide)(hdb:(x==("__debug__":Str))=false:=by decide)
    (he:starEach (e::es) X.env=(false,eval e X.env)::starEach es X.env:=by rfl)(hpl:(backTo pos (starEach es X.env)).any (·.1)=false:=by rfl):PE X (.Call (.Name x p) (e::es) [] pos) (GG r t):=by
  intro pins s σ H Q I h
  refine wpAny_Call_Name_kw (jE I hg hm hv ?_ hn hdb)
  exact PyProof.Rows.callWith_type1 (bG (ha pos pins s σ H _ I h) fun us s1 ⟨vs,H1,I1,r1,q1⟩=>hc pins s1 σ H1 vs us Q I1 r1 q1) he hpl
end
end L2
namespace HT
open PySem PyProof.Rows
section
open PySem.SeqAt
open PySem.AutoSeq1 (wpAny_loadPart')
open PySem.MeetsSeq PySem.MeetsSeq2 PySem.MeetsSeq3
end
section
variable{prog:Program}{w:World}{A:Around}{E:Value→Shared→Prop}{s:Shared}
theorem cat_tup{t b:Addr}{vs ws:List Value}{Q:Value→Shared→Prop}(ht:IsTup s.heap t vs.toArray)(hb:IsTup s.heap b ws.toArray)(hv:vs≠[])
    (h1:ws=[]→Q (.ref t) s)(h2:ws≠[]→Q (.ref s.heap.objs.size) {s with heap:=s.heap.push {cls:=.type "tuple",data:=.seq (vs++ws).toArray}})
    (hsz:vs.length+ws.length≤sizeLine):wpAny (model prog w) A (binaryOp .Add (.ref t) (.ref b)) Q E s:=by
  obtain⟨⟨cls,dd,data,sl⟩,ho,hc,n,hd⟩:=id ht
  obtain⟨⟨cls2,dd2,data2,sl2⟩,ho2,hc2,n2,hd2⟩:=id hb
  simp only at hc hd hc2 hd2
  subst hc hd hc2 hd2
  have e:vs.toArray++ws.toArray=(vs++ws).toArray:=by simp
  by_cases hw:ws=[]
  · exact concat_meets ⟨_,ho,rfl⟩ ⟨_,ho2,rfl⟩ noFill_tuple_add seq_tuple_add PySem.F.slot_tuple_add PySem.F.entry_tuple_add (PySem.F.args_tuple_add_2 _ _)
      (tuple_addW1 t b vs.toArray ws.toArray n n2 dd dd2 sl sl2 (by simpa using hv) (by simp [hw])) ⟨ho,ho2,h1 hw⟩
  · refine concat_meets ⟨_,ho,rfl⟩ ⟨_,ho2,rfl⟩ noFill_tuple_add seq_tuple_add PySem.F.slot_tuple_add PySem.F.entry_tuple_add (PySem.F.args_tuple_add_2 _ _)
      (tuple_addW2 t b vs.toArray ws.toArray n n2 dd dd2 sl sl2 (by simpa using hv) (by simpa using hw) (by rw [List.size_toArray,List.size_toArray];exact hsz)) ⟨ho,ho2,?_⟩
    rw [e]
    exact h2 hw
def sIx(n d:Nat):Option Int→Nat
  | none=>d
  | some v=>if v < 0 then(v+(n:Int)).toNat else min v.toNat n
theorem sIx_none(n d:Nat):sIx n d none=d:=rfl
theorem sIx_nat(n d k:Nat):sIx n d (some (k:Int))=min k n:=by
  show(if (k:Int) < 0 then((k:Int)+(n:Int)).toNat else min (k:Int).toNat n)=min k n
  rw [if_neg (by lia),Int.toNat_natCast]
theorem Dj(n d:Nat)(hd:d≤n)(o:Option Int):sIx n d o≤n:=by
  cases o with
  | none=>exact hd
  | some v=>
    show(if v < 0 then(v+(n:Int)).toNat else min v.toNat n)≤n
    by_cases hv:v < 0
    · rw [if_pos hv];lia
    · rw [if_neg hv];exact Nat.min_le_right _ _
theorem tF(v:Int)(n d:Nat):(if v < 0 then max (v+(n:Int)) 0 else min v (n:Int))=((sIx n d (some v):Nat):Int):=by
  show(if v < 0 then max (v+(n:Int)) 0 else min v (n:Int))=(((if v < 0 then(v+(n:Int)).toNat else min v.toNat n):Nat):Int)
  by_cases hv:v < 0
  · simp only [if_pos hv];lia
  · simp only [if_neg hv];lia
theorem rQ(lo hi:Option Int)(n:Nat):Builtin.Slice.sliceAdjust lo hi 1 (n:Int)=(((sIx n 0 lo:Nat):Int),((sIx n n hi:Nat):Int)):=by
  have h1:¬((1:Int) < 0):=by lia
  unfold Builtin.Slice.sliceAdjust
  simp only [h1,if_false]
  refine Prod.ext ?_ ?_
  · cases lo with
    | none=>rfl
    | some v=>exact tF v n 0
  · cases hi with
    | none=>rfl
    | some v=>exact tF v n n
theorem su(i j:Nat):Builtin.Slice.slicePlaces (i:Int) (j:Int) 1=j - i:=by
  unfold Builtin.Slice.slicePlaces
  have h1:(1:Int) > 0:=by lia
  simp only [h1,if_true,Int.ediv_one]
  split<;>lia
theorem slicePart_{v:Value}{o:Option Int}{Q:Option Int→Shared→Prop}(p:IsPart v o)(h:Q o s):wpAny (model prog w) A (Builtin.Slice.slicePartIndex v) Q E s:=by
  cases p with
  | none=>exact slicePart_none h
  | int i t=>exact slicePart_int h
theorem h_{sl:Addr}{vl vu:Value}{lo hi:Option Int}{n:Nat}{Q:Int × Int × Nat→Shared→Prop}(hs:s.heap.IsSliceOf sl vl vu .none)(pl:IsPart vl lo)(pu:IsPart vu hi)
    (h:Q (((sIx n 0 lo:Nat):Int),1,sIx n n hi - sIx n 0 lo) s):wpAny (model prog w) A (Builtin.Slice.sliceApplied (.ref sl) (pure (n:Int))) Q E s:=by
  obtain⟨os,hos,hcs,hds⟩:=id hs
  unfold Builtin.Slice.sliceApplied Builtin.Slice.sliceFields
  refine wpAny_bind (wpAny_bind (wpAny_field hos hds (x:=vl) rfl (wpAny_bind (wpAny_field hos hds (x:=vu) rfl (wpAny_bind (wpAny_field hos hds (x:=.none) rfl (wpAny_pure ?_)))))))
  refine wpAny_bind (slicePart_none ?_)
  show wpAny _ _ (if ((1:Int)==0)=true then _ else _) _ _ s
  rw [if_neg (by decide)]
  refine wpAny_bind (slicePart_ pl (wpAny_bind (slicePart_ pu (wpAny_bind (wpAny_pure ?_)))))
  show wpAny _ _ (match Builtin.Slice.sliceAdjust lo hi 1 (n:Int) with | (lo,hi)=>pure (lo,(1:Int),Builtin.Slice.slicePlaces lo hi 1)) _ _ s
  rw [rQ lo hi n]
  show wpAny _ _ (pure (((sIx n 0 lo:Nat):Int),(1:Int),Builtin.Slice.slicePlaces ((sIx n 0 lo:Nat):Int) ((sIx n n hi:Nat):Int) 1)) _ _ s
  rw [su]
  exact wpAny_pure h
theorem xK(xs:Array Value)(i k:Nat):((List.range k).filterMap fun(m:Nat)=>xs[((i:Int)+(m:Int)*1).toNat]?).toArray=((xs.toList.drop i).take k).toArray:=by
  have e:(fun(m:Nat)=>xs[((i:Int)+(m:Int)*1).toNat]?)=fun m=>xs[i+m]?:=by
    funext m
    have:((i:Int)+(m:Int)*1).toNat=i+m:=by lia
    rw [this]
  rw [e]
  have:=pick_run xs i k
  rw [List.filterMap_map] at this
  have e2:((fun x=>xs[x]?) ∘ fun x=>i+x)=fun m=>xs[i+m]?:=rfl
  rw [e2] at this
  rw [this]
theorem getItem_tuple_cut{t sl:Addr}{items:Array Value}{vl vu:Value}{lo hi:Option Int}{Q:Value→Shared→Prop}(ht:IsTup s.heap t items)(hs:s.heap.IsSliceOf sl vl vu .none)(pl:IsPart vl lo)(pu:IsPart vu hi)
    (hw:¬(sIx items.size 0 lo=0∧sIx items.size items.size hi=items.size))
    (h:Q (.ref s.heap.objs.size) {s with heap:=s.heap.push {cls:=.type "tuple",data:=.seq ((items.toList.drop (sIx items.size 0 lo)).take (sIx items.size items.size hi - sIx items.size 0 lo)).toArray}})
    (hsz:items.size≤sizeLine):wpAny (model prog w) A (getItem (.ref t) (.ref sl)) Q E s:=by
  have htake:sizeOk (.seq ((items.toList.drop (sIx items.size 0 lo)).take (sIx items.size items.size hi - sIx items.size 0 lo)).toArray):=by
    show((items.toList.drop (sIx items.size 0 lo)).take (sIx items.size items.size hi - sIx items.size 0 lo)).toArray.size≤sizeLine
    rw [List.size_toArray,List.length_take,List.length_drop,Array.length_toList]
    lia
  have hj:sIx items.size items.size hi≤items.size:=Dj _ _ (Nat.le_refl _) hi
  obtain⟨os,hos,hcs,hds⟩:=id hs
  have hTs:s.TypeIs (.ref sl) "slice":=⟨os,hos,hcs⟩
  unfold getItem
  try with_reducible refine wpAny_holding ?_
  first | refine wpAny_bind (wpAny_pure ?_) | skip
  refine wpAny_bind (wpAny_sequenceKey ht.typeIs (by decide) ?_)
  refine wpAny_bind (wpAny_callSpecial?_slot (name:=Str.ofString "__getitem__") ht.typeIs PyProof.Rows.slot_tuple_getitem
    (wpAny_call_entry PyProof.Rows.slot_tuple_getitem ht.typeIs entry_tuple_getitem ?_ (args_tuple_getitem _ _)))
  show wpAny _ _ (Builtin.Tuple.tupleItemsOf (.ref t) >>= _) _ _ s
  refine wpAny_bind (tupleItemsOf_ ht ?_)
  refine wpAny_bind (wpAny_typeOf hTs ?_)
  rw [if_pos (by decide)]
  refine wpAny_bind (h_ hs pl pu ?_)
  have hno:¬((((sIx items.size 0 lo:Nat):Int)==0&&(1:Int)==1&&(sIx items.size items.size hi - sIx items.size 0 lo)==items.size)=true):=by
    intro q
    rw [Bool.and_eq_true,Bool.and_eq_true] at q
    have q1:((sIx items.size 0 lo:Nat):Int)=0:=eq_of_beq q.1.1
    have q2:sIx items.size items.size hi - sIx items.size 0 lo=items.size:=eq_of_beq q.2
    exact hw ⟨by lia,by lia⟩
  show wpAny _ _ (if (((sIx items.size 0 lo:Nat):Int)==0&&(1:Int)==1&&(sIx items.size items.size hi - sIx items.size 0 lo)==items.size)=true then _ else _) _ _ s
  rw [if_neg hno,xK]
  first
    | exact wpAny_bind (m:=Builtin.Tuple.tupleExact _) (wpAny_newObj_type (wpAny_pure ⟨_,rfl,wpAny_pure h⟩) htake)
    | exact wpAny_bind (m:=Builtin.Tuple.tupleExact _) (wpAny_newObj_type (wpAny_bind (wpAny_pure (wpAny_pure ⟨_,rfl,wpAny_pure h⟩))) htake)
    | exact wpAny_bind (wpAny_bind (m:=Builtin.Tuple.tupleExact _) (wpAny_newObj_type (wpAny_pure (wpAny_pure ⟨_,rfl,wpAny_pure h⟩)) htake))
    | exact wpAny_bind (wpAny_bind (m:=Builtin.Tuple.tupleExact _) (wpAny_newObj_type (wpAny_pure ⟨_,rfl,wpAny_pure h⟩) htake))
end
end HT
namespace L2
open PySem PySem.Spec PyProof.Rows
abbrev TO:=St→Hp→(Option Int→Hp→Prop)→Prop
def PO(X:Cx)(e:Option Expr)(t:TO):Prop:=
  ∀(pins:List (Addr × Obj)) (s:Shared) (σ:St) (H:Hp) (Q:Option Int→Hp→Prop),ay X pins σ H s→t σ H Q→
    wpAny (model X.prog X.w) X.A (evalPart e X.env) (fun u s'=>∃o H',ay X pins σ H' s'∧IsPart u o∧Q o H') X.xe s
def Az:TO:=fun _ H Q=>Q none H
def Ft(t:TE):TO:=fun σ H Q=>t σ H fun x H1=>∃i,x=.int i∧Q (some i) H1
theorem jD{ns:List Int}:∀{us:List Value},aH (ns.map V.int) us→IntsAre us ns:=by
  induction ns with
  | nil=>intro us r;rw [List.map_nil] at r;cases r;exact .nil
  | cons n ns ih=>
    intro us r
    rw [List.map_cons] at r
    cases r with
    | cons r1 r2=>
      obtain⟨t,e⟩:=r1
      subst e
      exact .cons n t (ih r2)
section
variable{X:Cx}{e:Expr}{te:TE}{lo hi:Option Expr}{tl th:TO}{pos p2:Pos}
theorem zV:PO X none Az:=by
  intro pins s σ H Q I h
  rw [evalPart_none]
  exact wpAny_pure ⟨none,H,I,.none,h⟩
theorem zW(h:PE X e te):PO X (some e) (Ft te):=by
  intro pins s σ H Q I hw
  rw [evalPart_some]
  refine bG (h pins s σ H _ I hw) fun u s1 ⟨x,H1,I1,r1,q1⟩=>?_
  obtain⟨i,rfl,q⟩:=q1
  obtain⟨t,rfl⟩:=r1
  exact⟨some i,H1,I1,.int i t,q⟩
def yS(X:Cx)(r:V→Option Int→Option Int→Hp→VK→Prop):Prop:=
  ∀(pins:List (Addr × Obj)) (s:Shared) (σ:St) (H:Hp) (x:V) (v vl vu:Value) (lo hi:Option Int) (sl:Addr) (Q:VK),ay X pins σ H s→a_ x v→s.heap.IsSliceOf sl vl vu .none→IsPart vl lo→IsPart vu hi→r x lo hi H Q→
    ∃T id,typeLookup (.type T) "__getitem__"=pure (some (.builtin id))∧s.TypeIs v T∧wpAny (model X.prog X.w) X.A (getItem v (.ref sl)) (EP X pins σ Q) X.xe s
theorem yS.or{r r':V→Option Int→Option Int→Hp→VK→Prop}(h:yS X r)(h':yS X r'):yS X (fun x lo hi H Q=>r x lo hi H Q∨r' x lo hi H Q):=by
  intro pins s σ H x v vl vu lo hi sl Q I rx hs pl pu q
  rcases q with q | q
  · exact h pins s σ H x v vl vu lo hi sl Q I rx hs pl pu q
  · exact h' pins s σ H x v vl vu lo hi sl Q I rx hs pl pu q
def Hu(r:V→Option Int→Option Int→Hp→VK→Prop)(te:TE)(tl th:TO):TE:=fun σ H Q=>te σ H fun x H1=>tl σ H1 fun l H2=>th σ H2 fun u H3=>r x l u H3 Q
theorem xF{r:V→Option Int→Option Int→Hp→VK→Prop}(hr:yS X r)(he:PE X e te)(hl:PO X lo tl)(hu:PO X hi th):PE X (.Subscript e (.Slice lo hi none p2) pos) (Hu r te tl th):=by
  intro pins s σ H Q I h
  refine Subscript_ (bG (he pins s σ H _ I h) fun v s1 ⟨x,H1,I1,r1,q1⟩=>?_)
  refine wpAny_Slice (bG (hl pins s1 σ H1 _ I1 q1) fun vl s2 ⟨l,H2,I2,pl,q2⟩=>bG (hu pins s2 σ H2 _ I2 q2) fun vu s3 ⟨u,H3,I3,pu,q3⟩=>?_)
  rw [evalPart_none]
  refine wpAny_pure ?_
  have I4:ay X pins σ H3 {s3 with heap:=s3.heap.push {cls:=.type "slice",data:=.fields #[vl,vu,.none]}}:=I3.kept (t':=s3.toks) fun b ob q=>Heap.get?_push_of_some _ q
  obtain⟨T,id,hT,ht,hg⟩:=hr pins {s3 with heap:=s3.heap.push {cls:=.type "slice",data:=.fields #[vl,vu,.none]}} σ H3 x v vl vu l u s3.heap.objs.size Q I4 r1 (Heap.IsSliceOf.new ..) pl pu q3
  show wpAny (model X.prog X.w) X.A (subscriptTail e (.Slice lo hi none p2) v (.ref s3.heap.objs.size)) (EP X pins σ Q) X.xe {s3 with heap:=s3.heap.push {cls:=.type "slice",data:=.fields #[vl,vu,.none]}}
  exact tail_any (ops:=[.ref s3.heap.objs.size,v]) ht hT hg (by with_unfolding_all rfl)
def nu(xs:List V)(lo hi:Option Int):List V:=(xs.drop (HT.sIx xs.length 0 lo)).take (HT.sIx xs.length xs.length hi - HT.sIx xs.length 0 lo)
theorem lF(xs:List V)(lo hi:Option Int):(nu xs lo hi).length≤xs.length:=by
  unfold nu
  rw [List.length_take,List.length_drop]
  lia
def E7(K:PySem.W.Frag):V→Option Int→Option Int→Hp→VK→Prop:=fun x lo hi H Q=>∃a xs,x=.ref a∧cW K H a xs∧
  ¬(HT.sIx xs.length 0 lo=0∧HT.sIx xs.length xs.length hi=xs.length)∧∀p,H p=none→Q (.ref p) (aV H p (.tup (nu xs lo hi)))
theorem Dl:yS X (E7 X.K):=by
  intro pins s σ H x v vl vu lo hi sl Q I rx hs pl pu h
  obtain⟨a,xs,rfl,hx,hw,q⟩:=h
  cases rx
  obtain⟨its,r,ht,hz⟩:=I.tuple hx
  have hlen:its.toArray.size=xs.length:=by rw [List.size_toArray];exact r.length.symm
  refine⟨"tuple",_,PyProof.Rows.slot_tuple_getitem.lookup,ht.typeIs,?_⟩
  refine HT.getItem_tuple_cut ht hs pl pu (by rw [hlen];exact hw) ?_ (by rw [hlen];exact hz)
  rw [hlen]
  refine⟨.ref s.heap.objs.size,_,I.laid (t':=s.toks) (o:=.tup (nu xs lo hi)) (fun b ob q=>Heap.get?_push_of_some _ q) (Nat.le_refl _) ?_,rfl,q _ (I.hok.fresh (Nat.le_refl _))⟩
  exact⟨Nat.le_trans (lF xs lo hi) hz,_,(r.drop (HT.sIx xs.length 0 lo)).take (HT.sIx xs.length xs.length hi - HT.sIx xs.length 0 lo),mh.new _ _⟩
def EV(K:PySem.W.Frag):R2:=fun x y H Q=>∃a b xs ys,x=.ref a∧y=.ref b∧cW K H a xs∧cW K H b ys∧xs≠[]∧xs.length+ys.length≤sizeLine∧
  (ys=[]→Q (.ref a) H)∧(ys≠[]→∀p,H p=none→Q (.ref p) (aV H p (.tup (xs++ys))))
theorem aH.nil_iff{xs:List V}{us:List Value}(r:aH xs us):us=[]↔ xs=[]:=by
  cases r with
  | nil=>simp
  | cons _ _=>simp
theorem zE:gK X (binaryOp .Add) (EV X.K):=by
  intro pins s σ H x y v u Q I rx ry h
  obtain⟨a,b,xs,ys,rfl,rfl,ha,hb,hx,hz,q1,q2⟩:=h
  cases rx
  cases ry
  obtain⟨its,r1,p1,_⟩:=I.tuple ha
  obtain⟨its2,r2,p2,_⟩:=I.tuple hb
  refine HT.cat_tup p1 p2 (fun z=>hx (r1.nil_iff.mp z)) (fun z=>⟨.ref a,H,I,rfl,q1 (r2.nil_iff.mp z)⟩) (fun z=>?_) (by rw [←r1.length,←r2.length];exact hz)
  refine⟨.ref s.heap.objs.size,_,I.laid (t':=s.toks) (o:=.tup (xs++ys)) (fun b ob q=>Heap.get?_push_of_some _ q) (Nat.le_refl _) ?_,rfl,q2 (fun w=>z (r2.nil_iff.mpr w)) _ (I.hok.fresh (Nat.le_refl _))⟩
  exact⟨by rw [List.length_append];exact hz,_,r1.append r2,mh.new _ _⟩
end
end L2
namespace L2
open PySem PySem.Spec PyProof.Rows
def El(n:Nat)(i:Int):Option Nat:=if 0≤i then(if i < n then some i.toNat else none) else if -(n:Int)≤i then some (i+n).toNat else none
def atI{α:Type}(xs:List α)(i:Int):Option α:=(El xs.length i).bind fun j=>xs[j]?
theorem zo{n:Nat}{i:Int}{j:Nat}(h:El n i=some j):seqIndex? i n=some j∧j < n∧ -(n:Int)≤i∧i < n:=by
  unfold El at h
  by_cases h0:0≤i
  · rw [if_pos h0] at h
    by_cases h1:i < n
    · rw [if_pos h1] at h
      have e:i.toNat=j:=Option.some.inj h
      exact⟨by rw [seqIndex_of h0 h1,e],by lia,by lia,h1⟩
    · rw [if_neg h1] at h;cases h
  · rw [if_neg h0] at h
    by_cases h1: -(n:Int)≤i
    · rw [if_pos h1] at h
      have e:(i+n).toNat=j:=Option.some.inj h
      exact⟨by rw [seqIndex_neg (by lia) h1,e],by lia,h1,by lia⟩
    · rw [if_neg h1] at h;cases h
theorem sY{α:Type}{xs:List α}{i:Int}{v:α}(h:atI xs i=some v):∃j,seqIndex? i xs.length=some j∧xs[j]?=some v∧j < xs.length∧ -(xs.length:Int)≤i∧i < xs.length:=by
  unfold atI at h
  cases e:El xs.length i with
  | none=>rw [e] at h;cases h
  | some j=>
    rw [e] at h
    obtain⟨h1,h2,h3,h4⟩:=zo e
    exact⟨j,h1,h,h2,h3,h4⟩
def oS(b:Expr):Prop:=∀o i,subscripted b false o i=operate [o,i] (getItem o i)
def yR(X:Cx)(r:R2):Prop:=
  ∀(value slice:Expr) (pins:List (Addr × Obj)) (s:Shared) (σ:St) (H:Hp) (x y:V) (v u:Value) (Q:VK),ay X pins σ H s→a_ x v→a_ y u→r x y H Q→
    subscripted slice false v u=operate [v,u] (getItem v u)→wpAny (model X.prog X.w) X.A (subscriptTail value slice v u) (EP X pins σ Q) X.xe s
def DE(X:Cx)(id:String)(r:V→List V→Hp→VK→Prop):Prop:=
  ∀(pins:List (Addr × Obj)) (s:Shared) (σ:St) (H:Hp) (x:V) (xs:List V) (v:Value) (us:List Value) (Q:VK),ay X pins σ H s→a_ x v→aH xs us→r x xs H Q→
    wpAny (model X.prog X.w) X.A (call (.builtin id) (v::us)) (EP X pins σ Q) X.xe s
section
variable{X:Cx}{a b:Expr}{ta tb:TE}{pos:Pos}
theorem yR.or{r r':R2}(h:yR X r)(h':yR X r'):yR X (fun x y H Q=>r x y H Q∨r' x y H Q):=by
  intro value slice pins s σ H x y v u Q I rx ry q hs
  rcases q with q | q
  · exact h value slice pins s σ H x y v u Q I rx ry q hs
  · exact h' value slice pins s σ H x y v u Q I rx ry q hs
theorem EG{r:R2}(hr:yR X r)(ha:PE X a ta)(hb:PE X b tb)(hs:oS b):PE X (.Subscript a b pos) (Fs r ta tb):=by
  intro pins s σ H Q I h
  exact Subscript_ (BL ha hb I h fun v u s2 x y H2 I2 rx ry q=>hr a b pins s2 σ H2 x y v u Q I2 rx ry q (hs _ _))
def EY(K:PySem.W.Frag):R2:=fun x y H Q=>∃p xs i v,x=.ref p∧y=.int i∧gA K H p xs∧atI xs i=some v∧Q v H
def EZ(K:PySem.W.Frag):R2:=fun x y H Q=>∃p xs i v,x=.ref p∧y=.int i∧cW K H p xs∧atI xs i=some v∧Q v H
theorem zq:yR X (EY X.K):=by
  intro value slice pins s σ H x y v u Q I rx ry h hs
  obtain⟨p,xs,i,z,rfl,rfl,hq,he,q⟩:=h
  cases rx
  obtain⟨t,rfl⟩:=ry
  obtain⟨its,r,pl,hz⟩:=I.list hq
  obtain⟨j,h1,h2,h3,h4,h5⟩:=sY he
  obtain⟨w,ew,rw'⟩:=r.get h2
  have hl:=r.length
  have hn:=r9
  have fin:EP X pins σ Q w s:=⟨z,H,I,rw',q⟩
  by_cases h0:0≤i
  · have hj:i.toNat=j:=by
      rw [seqIndex_of h0 h5] at h1
      exact Option.some.inj h1
    exact item_listR pl.isList h0 (by lia) (by rw [hj];simpa using ew) fin hs
  · have hj:(i+(its.toArray.size:Int)).toNat=j:=by
      rw [seqIndex_neg (by lia) h4] at h1
      rw [List.size_toArray,←hl]
      exact Option.some.inj h1
    exact subscriptTail_builtinR (x:=w) pl.isList.typeIs slot_list_getitem.lookup
      (wpAny_getItem_list_neg (Q:=fun r s'=>r=w∧EP X pins σ Q r s') pl.isList (by lia) (by rw [List.size_toArray]<;>lia) (by lia) (by rw [hj];simpa using ew) ⟨rfl,fin⟩) hs
theorem B_:yR X (EZ X.K):=by
  intro value slice pins s σ H x y v u Q I rx ry h hs
  obtain⟨p,xs,i,z,rfl,rfl,hq,he,q⟩:=h
  cases rx
  obtain⟨t,rfl⟩:=ry
  obtain⟨its,r,pl,hz⟩:=I.tuple hq
  obtain⟨j,h1,h2,h3,h4,h5⟩:=sY he
  obtain⟨w,ew,rw'⟩:=r.get h2
  have hl:=r.length
  have hn:=r9
  have fin:EP X pins σ Q w s:=⟨z,H,I,rw',q⟩
  exact subscriptTail_builtinR (x:=w) pl.typeIs slot_tuple_getitem.lookup
    (getItem_tuple (j:=j) (Q:=fun r s'=>r=w∧EP X pins σ Q r s') pl (by lia) (by lia) (by rw [List.size_toArray,←hl];exact h1) (by simpa using ew) ⟨rfl,fin⟩) hs
theorem pV(lo hi:Option Int)(n:Nat):(sliceBounds lo hi none n).1=((HT.sIx n 0 lo:Nat):Int)∧(sliceBounds lo hi none n).2.1=((HT.sIx n n hi:Nat):Int)∧(sliceBounds lo hi none n).2.2=1:=by
  refine⟨?_,?_,rfl⟩
  · cases lo with
    | none=>simp [sliceBounds,HT.sIx]
    | some i=>
      simp only [sliceBounds,HT.sIx,Option.getD_none,show(1:Int) > 0 by decide,if_true]
      by_cases h:i < 0
      · simp only [h,if_true]<;>lia
      · simp only [h,if_false]<;>lia
  · cases hi with
    | none=>simp [sliceBounds,HT.sIx]
    | some i=>
      simp only [sliceBounds,HT.sIx,Option.getD_none,show(1:Int) > 0 by decide,if_true]
      by_cases h:i < 0
      · simp only [h,if_true]<;>lia
      · simp only [h,if_false]<;>lia
theorem nG(its:List Value)(lo hi:Option Int):slicePick its.toArray lo hi none=((its.drop (HT.sIx its.length 0 lo)).take (HT.sIx its.length its.length hi - HT.sIx its.length 0 lo)).toArray:=by
  obtain⟨h1,h2,h3⟩:=pV lo hi its.toArray.size
  unfold slicePick
  rw [h1,h2,h3]
  simp only [sliceRange_one,pick_run,List.size_toArray]<;>rfl
def E6(K:PySem.W.Frag):V→Option Int→Option Int→Hp→VK→Prop:=fun x lo hi H Q=>∃a xs,x=.ref a∧gA K H a xs∧∀p,H p=none→Q (.ref p) (aV H p (.lst (nu xs lo hi)))
theorem Au:yS X (E6 X.K):=by
  intro pins s σ H x v vl vu lo hi sl Q I rx hs pl pu h
  obtain⟨a,xs,rfl,hx,q⟩:=h
  cases rx
  obtain⟨its,r,ht,hz⟩:=I.list hx
  have hlen:=r.length
  refine⟨"list",_,slot_list_getitem.lookup,ht.isList.typeIs,?_⟩
  refine wpAny_getItem_list_slice ht.isList hs pl pu .none (by simp) ?_ (by rw [List.size_toArray]<;>lia)
  rw [nG,←hlen]
  refine⟨.ref s.heap.objs.size,_,I.laid (t':=s.toks) (o:=.lst (nu xs lo hi)) (fun b ob q=>Heap.get?_push_of_some _ q) (Nat.le_refl _) ?_,rfl,q _ (I.hok.fresh (Nat.le_refl _))⟩
  exact⟨Nat.le_trans (lF xs lo hi) hz,_,0,(r.drop (HT.sIx xs.length 0 lo)).take (HT.sIx xs.length xs.length hi - HT.sIx xs.length 0 lo),Heap.get?_push_size _ rfl⟩
theorem oX:dU X (.builtin "len") (fun xs H Q=>∃p ys,xs=[.ref p]∧(gA X.K H p ys∨cW X.K H p ys)∧Q (.int ys.length) H):=by
  intro pins s σ H xs us Q I r h
  obtain⟨p,ys,rfl,hq,q⟩:=h
  obtain⟨u,rfl,rx⟩:=oP r
  cases rx
  have hn:=r9
  rcases hq with hq | hq
  · obtain⟨its,r',pl,hz⟩:=I.list hq
    have hlen:=r'.length
    exact Calls.call_len_list pl.isList (by simp only [List.size_toArray]<;>lia) ⟨.int ys.length,H,I.tok _,⟨s.toks+1,by rw [List.size_toArray,hlen]⟩,q⟩
  · obtain⟨its,r',pl,hz⟩:=I.tuple hq
    have hlen:=r'.length
    exact len_tuple pl (by simp only [List.size_toArray]<;>lia) ⟨.int ys.length,H,I.tok _,⟨s.toks+1,by rw [List.size_toArray,hlen]⟩,q⟩
theorem oY:dU X (.type "list") (fun xs H Q=>∃p ys,xs=[.ref p]∧(gA X.K H p ys∨cW X.K H p ys)∧∀l,H l=none→Q (.ref l) (aV H l (.lst ys))):=by
  intro pins s σ H xs us Q I r h
  obtain⟨p,ys,rfl,hq,q⟩:=h
  obtain⟨u,rfl,rx⟩:=oP r
  cases rx
  have fin:∀(its:List Value),aH ys its→ys.length≤sizeLine→∀(h':Heap) (c':Nat),(∀b o',s.heap.get? b=some o'→h'.get? b=some o')→
      h'.get? s.heap.objs.size=some {cls:=.type "list",dict:=none,data:=.seq its.toArray c',slots:=#[]}→EP X pins σ Q (.ref s.heap.objs.size) {s with heap:=h'}:=fun its r' hz h' c' kp e=>
    ⟨.ref s.heap.objs.size,_,I.laid (t':=s.toks) kp (Nat.le_refl _) (show cG X.prog X.w _ h' _ (.lst ys) from⟨hz,its,c',r',e⟩),rfl,q _ (I.hok.fresh (Nat.le_refl _))⟩
  rcases hq with hq | hq
  · obtain⟨its,r',pl,hz⟩:=I.list hq
    have hlen:=r'.length
    obtain⟨o,ho,hc,n,hd⟩:=pl.isList
    exact call_list_seq p (.inl rfl) ho hc hd (fun h' c' kp e=>fin its r' hz h' c' kp e) (by simp only [List.size_toArray]<;>lia)
  · obtain⟨its,r',pl,hz⟩:=I.tuple hq
    have hlen:=r'.length
    obtain⟨o,ho,hc,n,hd⟩:=pl
    exact call_list_seq p (.inr rfl) ho hc hd (fun h' c' kp e=>fin its r' hz h' c' kp e) (by simp only [List.size_toArray]<;>lia)
theorem nq:dU X (.type "tuple") (fun xs H Q=>∃p ys,xs=[.ref p]∧((gA X.K H p ys∧∀l,H l=none→Q (.ref l) (aV H l (.tup ys)))∨(cW X.K H p ys∧Q (.ref p) H))):=by
  intro pins s σ H xs us Q I r h
  obtain⟨p,ys,rfl,h⟩:=h
  obtain⟨u,rfl,rx⟩:=oP r
  cases rx
  rcases h with ⟨hq,q⟩ | ⟨hq,q⟩
  · obtain⟨its,r',pl,hz⟩:=I.list hq
    have hlen:=r'.length
    refine call_tuple_list pl.isList (fun h' kp=>?_) (by simp only [List.size_toArray]<;>lia)
    have I1:ay X pins σ H {s with heap:=h'}:=I.kept (t':=s.toks) kp
    have I2:ay X pins σ (aV H h'.objs.size (.tup ys)) {s with heap:=h'.push {cls:=.type "tuple",data:=.seq its.toArray}}:=
      I1.laid (t':=s.toks) (fun b o e=>Heap.get?_push_of_some _ e) (Nat.le_refl _) (show cG X.prog X.w _ _ _ (.tup ys) from⟨hz,its,r',mh.new _ _⟩)
    exact⟨.ref h'.objs.size,_,I2,rfl,q _ (I1.hok.fresh (Nat.le_refl _))⟩
  · obtain⟨its,r',pl,hz⟩:=I.tuple hq
    exact call_tuple_same pl ⟨.ref p,H,I,rfl,q⟩
def GO(K:PySem.W.Frag)(T:String)(x:V)(H:Hp):Prop:=match x with
  | .str _=>T="str"
  | .int _=>T="int"
  | .ref p=>(T="list"∧∃xs,gA K H p xs)∨(T="tuple"∧∃o,K.lookup p=some o∧o.cls=.type "tuple"∧o.dict=none)∨
      (T="dict"∧((∃kvs,H p=some (.dK kvs))∨∃kvs,H p=some (.dT kvs)))∨(T="set"∧∃S n,H p=some (.set S n))
  | _=>False
theorem sS{pins:List (Addr × Obj)}{σ:St}{H:Hp}{s:Shared}{T:String}{x:V}{v:Value}(I:ay X pins σ H s)(r:a_ x v)(ty:GO X.K T x H):
    s.TypeIs v T∧∀a,v=.ref a→∃ob,s.heap.get? a=some ob∧ob.dict=none:=by
  cases x with
  | str z=>
    obtain⟨t,rfl⟩:=r
    cases (show T="str" from ty)
    exact⟨typeIs_str s z t,fun _ e=>nomatch e⟩
  | int i=>
    obtain⟨t,rfl⟩:=r
    cases (show T="int" from ty)
    exact⟨typeIs_int s i t,fun _ e=>nomatch e⟩
  | ref p=>
    cases r
    rcases ty with ⟨rfl,xs,hq⟩ | ⟨rfl,o,hk,hc,hd⟩ | ⟨rfl,hk⟩ | ⟨rfl,S,n,hk⟩
    · obtain⟨its,_,pl,_⟩:=I.list hq
      refine⟨pl.isList.typeIs,fun a e=>?_⟩
      cases e
      obtain⟨o,n,e,c,hd,_⟩:=pl
      exact⟨o,e,hd⟩
    · refine⟨⟨o,I.kIn p o hk,hc⟩,fun a e=>?_⟩
      cases e
      exact⟨o,I.kIn _ o hk,hd⟩
    · have z:∃o,s.heap.get? p=some o∧o.ExactDict:=by
        rcases hk with ⟨kvs,hk⟩ | ⟨kvs,hk⟩
        · obtain⟨_,_,_,_,o,_,_,e,ex,_⟩:=I.hok p _ hk
          exact⟨o,e,ex⟩
        · obtain⟨_,_,_,_,o,_,_,e,ex,_⟩:=I.hok p _ hk
          exact⟨o,e,ex⟩
      obtain⟨o,e,ex⟩:=z
      refine⟨⟨o,e,ex.1⟩,fun a e2=>?_⟩
      cases e2
      exact⟨o,e,ex.2.1⟩
    · obtain⟨o,_,_,_,e,ex,_⟩:=I.hok p _ hk
      refine⟨⟨o,e,ex.1⟩,fun a e2=>?_⟩
      cases e2
      exact⟨o,e,ex.2.1⟩
  | _=>exact False.elim ty
def GF(K:PySem.W.Frag)(T:String)(r:V→List V→Hp→VK→Prop)(to:TE):TE:=fun σ H Q=>to σ H fun x H1=>GO K T x H1∧r x [] H1 Q
def G4(K:PySem.W.Frag)(T:String)(r:V→List V→Hp→VK→Prop)(to:TE)(t:TA):TE:=fun σ H Q=>to σ H fun x H1=>GO K T x H1∧t σ H1 fun xs H2=>r x xs H2 Q
variable{o e:Expr}{es:List Expr}{to:TE}{t:TA}{name:Str}{apos cpos:Pos}{T id:String}{r:V→List V→Hp→VK→Prop}
theorem CJ(pa:PlainAttrs T)(slot:Slot T name id)(hty:typeOf (.builtin id)=pure (.type "method_descriptor"))(hm:DE X id r)(ho:PE X o to)
    (hbase:attributeBase o name X.env (eval o X.env)=eval o X.env:=by rfl)(hline:(apos.endLine==cpos.line)=true:=by rfl):PE X (.Call (.Attribute o name apos) [] [] cpos) (GF X.K T r to):=by
  intro pins s σ H Q I h
  refine wpAny_Call_method0_late hbase hline (bG (ho pins s σ H _ I h) fun v s1 ⟨x,H1,I1,r1,ty,q1⟩=>?_)
  obtain⟨h1,h2⟩:=sS I1 r1 ty
  exact⟨T,id,pa,slot,hty,h1,h2,Calls.callWith_builtin rfl (PySem.evalArgs_none (hm pins s1 σ H1 x [] v [] Q I1 r1 .nil q1))⟩
theorem Bm(pa:PlainAttrs T)(slot:Slot T name id)(hty:typeOf (.builtin id)=pure (.type "method_descriptor"))(hm:DE X id r)(ho:PE X o to)(ha:PA X (e::es) t)
    (hbase:attributeBase o name X.env (eval o X.env)=eval o X.env:=by rfl)
    (hfew:((backTo cpos (starEach (e::es) X.env)).all (fun x=> !x.1)&&(backToKw cpos (keywordEach [] X.env)).all (fun x=>x.1.isSome)
      &&decide ((e::es).length+([]:List Keyword).length+(if ([]:List Keyword).isEmpty then 0 else 1) < 30))=true:=by rfl)
    (hline:(apos.endLine==cpos.line)=true:=by rfl)(hs:starEach (e::es) X.env=(false,eval e X.env)::starEach es X.env:=by rfl)(hplain:(backTo cpos (starEach es X.env)).any (·.1)=false:=by rfl):
    PE X (.Call (.Attribute o name apos) (e::es) [] cpos) (G4 X.K T r to t):=by
  intro pins s σ H Q I h
  refine wpAny_Call_method_late hbase hfew hline rfl (bG (ho pins s σ H _ I h) fun v s1 ⟨x,H1,I1,r1,ty,q1⟩=>?_)
  obtain⟨h1,h2⟩:=sS I1 r1 ty
  refine⟨T,id,pa,slot,hty,h1,h2,?_⟩
  have hA:=ha cpos pins s1 σ H1 _ I1 q1
  rw [hs] at hA ⊢
  refine Calls.callWith_builtin (by show(false || (backTo cpos (starEach es X.env)).any (·.1))=false;rw [hplain]<;>rfl) (Calls.evalArgs_plain ?_)
  exact bG hA fun us s2 ⟨vs,H2,I2,r2,q2⟩=>hm pins s2 σ H2 x vs v us Q I2 r1 r2 q2
end
end L2
namespace L2
open PySem PySem.Spec PyProof.Rows
def FK(X:Cx)(id:String)(r:V→List V→Hp→VK→Prop):Prop:=
  ∀(pins:List (Addr × Obj)) (s:Shared) (σ:St) (H:Hp) (x:V) (xs:List V) (v:Value) (us:List Value) (Q:VK),ay X pins σ H s→a_ x v→aH xs us→r x xs H Q→
    wpAny (model X.prog X.w) X.A (call (.builtin id) (v::us)) (EP X pins σ Q) X.xe s
theorem aH.one:∀{x:V} {us:List Value},aH [x] us→∃u,us=[u]∧a_ x u
  | _,_,.cons r .nil=>⟨_,rfl,r⟩
theorem aH.zero:∀{us:List Value},aH [] us→us=[]
  | _,.nil=>rfl
theorem aH.dropLast{xs:List V}{us:List Value}(h:aH xs us):aH xs.dropLast us.dropLast:=by
  induction h with
  | nil=>exact .nil
  | cons r t ih=>
    cases t with
    | nil=>exact .nil
    | cons q t'=>exact .cons r ih
theorem aH.eraseIdx:∀{xs:List V} {us:List Value} (i:Nat),aH xs us→aH (xs.eraseIdx i) (us.eraseIdx i)
  | _,_,_,.nil=>.nil
  | _,_,0,.cons _ t=>t
  | _,_,i+1,.cons r t=>.cons r (aH.eraseIdx i t)
theorem aH.reverse{xs:List V}{us:List Value}(h:aH xs us):aH xs.reverse us.reverse:=by
  induction h with
  | nil=>exact .nil
  | cons r t ih=>rw [List.reverse_cons,List.reverse_cons];exact aH.append ih (.cons r .nil)
theorem aH.rep{xs:List V}{us:List Value}(h:aH xs us):∀k:Nat,aH (List.replicate k xs).flatten (List.replicate k us).flatten
  | 0=>.nil
  | k+1=>by
    rw [List.replicate_succ,List.replicate_succ,List.flatten_cons,List.flatten_cons]
    exact aH.append h (aH.rep h k)
theorem rY{α:Type}(l:List α):l.eraseIdx (l.length - 1)=l.dropLast:=by
  induction l with
  | nil=>rfl
  | cons a r ih=>
    cases r with
    | nil=>rfl
    | cons b r=>
      have e:(a::b::r).length - 1=((b::r).length - 1)+1:=by
        have h1:(a::b::r).length=r.length+2:=rfl
        have h2:(b::r).length=r.length+1:=rfl
        lia
      rw [e,List.eraseIdx_cons_succ,ih]
      all_goals rfl
theorem ou{α:Type}:∀(l:List α) (i:Nat),(l.eraseIdx i).length≤l.length
  | [],_=>Nat.le_refl _
  | _::_,0=>Nat.le_succ _
  | _::r,i+1=>Nat.succ_le_succ (ou r i)
theorem nY(its:List Value):∀(k:Nat) (acc:List Value),
    List.foldl (fun x1 x2=>x1++x2) acc.toArray (List.replicate k its.toArray)=(acc++(List.replicate k its).flatten).toArray
  | 0,acc=>by simp
  | k+1,acc=>by
    have e:acc.toArray++its.toArray=(acc++its).toArray:=by simp
    have e2:(acc++its)++(List.replicate k its).flatten=acc++(List.replicate (k+1) its).flatten:=by
      rw [List.replicate_succ,List.flatten_cons,List.append_assoc]
    rw [←e2,←nY its k (acc++its),←e,List.replicate_succ,List.foldl_cons]
section
variable{X:Cx}{pins:List (Addr × Obj)}{σ:St}{H:Hp}{s:Shared}{l b:Addr}{xs ys zs:List V}
theorem ay.lset{its its':List Value}{n:Nat}{f:Array Value→Array Value}{t':Nat}(I:ay X pins σ H s)(hH:H l=some (.lst xs))
    (e:s.heap.get? l=some {cls:=.type "list",data:=.seq its.toArray n})(hf:f its.toArray=its'.toArray)(hv:aH ys its')(hz:ys.length≤sizeLine):
    ay X pins σ (aV H l (.lst ys)) {s with heap:=s.heap.update l (Obj.mapSeq f),toks:=t'}:=by
  have q:=PySem.IsL.update e f
  rw [hf] at q
  refine I.write (x:=l) (e:=l) (by rw [hH];exact trivial) (.inl rfl) (fun b' u hb hu=>(Heap.get?_update_other s.heap (Obj.mapSeq f) (Ne.symm hb)).trans hu) ⟨_,q⟩ ?_
  exact⟨hz,its',_,hv,q⟩
theorem ay.lnew{its:List Value}{t':Nat}(I:ay X pins σ H s)(hv:aH ys its)(hz:ys.length≤sizeLine):
    ay X pins σ (aV H s.heap.objs.size (.lst ys)) {s with heap:=s.heap.push {cls:=.type "list",data:=.seq its.toArray},toks:=t'}:=
  I.laid (fun _ _ q=>Heap.get?_push_of_some _ q) (Nat.le_refl _) ⟨hz,its,0,hv,Heap.get?_push_size _ rfl⟩
theorem ay.fresh(I:ay X pins σ H s):H s.heap.objs.size=none:=I.hok.fresh (Nat.le_refl _)
theorem ay.lstM(I:ay X pins σ H s)(hH:H l=some (.lst xs)):xs.length≤sizeLine∧∃(its:List Value) (n:Nat),aH xs its∧xs.length=its.length∧s.heap.get? l=some {cls:=.type "list",data:=.seq its.toArray n}:=by
  obtain⟨z,its,n,r,e⟩:=I.hok l _ hH
  exact⟨z,its,n,r,r.length,e⟩
theorem qN{n:Nat}(h:n≤sizeLine):Builtin.List.listTooLong n=false:=by
  unfold Builtin.List.listTooLong
  exact decide_eq_false (by lia)
end
section
variable{X:Cx}
def ui:V→List V→Hp→VK→Prop:=fun x vs H Q=>∃l xs y,x=.ref l∧vs=[y]∧H l=some (.lst xs)∧xs.length < sizeLine∧Q .non (aV H l (.lst (xs++[y])))
theorem jk:FK X "list.append" ui:=by
  intro pins s σ H x vs v us Q I rx rv h
  obtain⟨l,xs,y,rfl,rfl,hH,hz,q⟩:=h
  cases rx
  obtain⟨u,rfl,ru⟩:=rv.one
  obtain⟨z,its,n,r,hl,e⟩:=I.lstM hH
  refine call_meets F.slot_list_append ⟨_,e,rfl⟩ F.entry_list_append (F.args_list_append_2 _ _) (PySem.list_append l its.toArray n u (by rw [List.size_toArray];lia)) ⟨e,?_⟩
  refine⟨.non,_,I.lset (its':=its++[u]) hH e (by simp) (r.append (.cons ru .nil)) ?_,rfl,q⟩
  rw [List.length_append,List.length_singleton]
  lia
def Am:V→List V→Hp→VK→Prop:=fun x vs H Q=>∃l b xs zs,x=.ref l∧vs=[.ref b]∧H l=some (.lst xs)∧H b=some (.lst zs)∧xs.length+zs.length≤sizeLine∧Q .non (aV H l (.lst (xs++zs)))
theorem uZ:FK X "list.extend" Am:=by
  intro pins s σ H x vs v us Q I rx rv h
  obtain⟨l,b,xs,zs,rfl,rfl,hH,hB,hz,q⟩:=h
  cases rx
  obtain⟨u,rfl,ru⟩:=rv.one
  cases ru
  obtain⟨z,its,n,r,hl,e⟩:=I.lstM hH
  obtain⟨z2,its2,n2,r2,hl2,e2⟩:=I.lstM hB
  have hsz:its.toArray.size+its2.toArray.size≤sizeLine:=by rw [List.size_toArray,List.size_toArray];lia
  have hlong:¬(!its.toArray.isEmpty&&Builtin.List.listTooLong (its.toArray.size+its2.toArray.size))=true:=by
    rw [qN hsz,Bool.and_false]
    exact Bool.false_ne_true
  refine call_meets F.slot_list_extend ⟨_,e,rfl⟩ F.entry_list_extend (F.args_list_extend_2 _ _)
    (AutoSeq1.list_extend_list_list_0 l its.toArray n b its2.toArray n2 hlong (by rw [List.size_toArray];lia) (by lia)) ⟨e,e2,?_⟩
  refine⟨.non,_,I.lset (its':=its++its2) hH e (by simp) (r.append r2) ?_,rfl,q⟩
  rw [List.length_append]
  lia
def E3:V→List V→Hp→VK→Prop:=fun x vs H Q=>∃l xs y,x=.ref l∧vs=[]∧H l=some (.lst xs)∧xs[xs.length - 1]?=some y∧Q y (aV H l (.lst xs.dropLast))
theorem Cj:FK X "list.pop" E3:=by
  intro pins s σ H x vs v us Q I rx rv h
  obtain⟨l,xs,y,rfl,rfl,hH,hy,q⟩:=h
  cases rx
  have hus:=rv.zero
  subst hus
  obtain⟨z,its,n,r,hl,e⟩:=I.lstM hH
  obtain⟨u,hu,ru⟩:=r.get hy
  have hy':its.toArray[its.toArray.size - 1]?=some u:=by
    show its.toArray[its.length - 1]?=some u
    rw [←Array.getElem?_toList,←hl]
    exact hu
  refine call_meets F.slot_list_pop ⟨_,e,rfl⟩ F.entry_list_pop (F.args_list_pop_1 _) (MeetsSeq.list_pop_last l its.toArray n u hy' (by rw [List.size_toArray];lia)) ⟨e,?_⟩
  refine⟨y,_,I.lset (its':=its.dropLast) hH e ?_ r.dropLast ?_,ru,q⟩
  · show its.toArray.eraseIdxIfInBounds (its.toArray.size - 1)=its.dropLast.toArray
    rw [List.size_toArray,List.eraseIdxIfInBounds_toArray,rY]
  · rw [List.length_dropLast]
    lia
def ya:V→List V→Hp→VK→Prop:=fun x vs H Q=>∃l xs i k y,x=.ref l∧vs=[.int i]∧H l=some (.lst xs)∧ -(2 ^ 63)≤i∧i < 2 ^ 63∧seqIndex? i xs.length=some k∧xs[k]?=some y∧Q y (aV H l (.lst (xs.eraseIdx k)))
theorem xc:FK X "list.pop" ya:=by
  intro pins s σ H x vs v us Q I rx rv h
  obtain⟨l,xs,i,k,y,rfl,rfl,hH,h1,h2,hk,hy,q⟩:=h
  cases rx
  obtain⟨u,rfl,ru⟩:=rv.one
  obtain⟨t,rfl⟩:=ru
  obtain⟨z,its,n,r,hl,e⟩:=I.lstM hH
  obtain⟨w,hw,rw'⟩:=r.get hy
  refine call_meets F.slot_list_pop ⟨_,e,rfl⟩ F.entry_list_pop (F.args_list_pop_2 _ _)
    (MeetsSeq.list_pop_at l its.toArray n i t k w (fitsIndex_both h1 h2) (by rw [List.size_toArray,←hl];exact hk) (by rw [←Array.getElem?_toList];exact hw) (by rw [List.size_toArray];lia)) ⟨e,?_⟩
  refine⟨y,_,I.lset (its':=its.eraseIdx k) hH e ?_ (r.eraseIdx k) ?_,rw',q⟩
  · show its.toArray.eraseIdxIfInBounds k=(its.eraseIdx k).toArray
    rw [List.eraseIdxIfInBounds_toArray]
  · have:=ou xs k
    lia
def Dc:R2:=fun x y H Q=>∃l b xs zs,x=.ref l∧y=.ref b∧H l=some (.lst xs)∧H b=some (.lst zs)∧xs.length+zs.length≤sizeLine∧∀p,H p=none→Q (.ref p) (aV H p (.lst (xs++zs)))
theorem Cw:gK X (binaryOp .Add) Dc:=by
  intro pins s σ H x y v u Q I rx ry h
  obtain⟨l,b,xs,zs,rfl,rfl,hH,hB,hz,q⟩:=h
  cases rx
  cases ry
  obtain⟨z,its,n,r,hl,e⟩:=I.lstM hH
  obtain⟨z2,its2,n2,r2,hl2,e2⟩:=I.lstM hB
  refine PySem.P.add_list e e2 ?_ (by rw [List.size_toArray,List.size_toArray];lia)
  have ea:its.toArray++its2.toArray=(its++its2).toArray:=by simp
  rw [ea]
  exact⟨.ref _,_,I.lnew (t':=s.toks) (r.append r2) (by rw [List.length_append];lia),rfl,q _ I.fresh⟩
def De:R2:=fun x y H Q=>∃l k xs,x=.ref l∧y=.int k∧H l=some (.lst xs)∧ -(2 ^ 63)≤k∧k < 2 ^ 63∧xs.length*k.toNat≤sizeLine∧
  ∀p,H p=none→Q (.ref p) (aV H p (.lst (List.replicate k.toNat xs).flatten))
theorem zt{α:Type}(xs:List α)(k:Nat):(List.replicate k xs).flatten.length=k*xs.length:=by
  induction k with
  | zero=>simp
  | succ k ih=>rw [List.replicate_succ,List.flatten_cons,List.length_append,ih,Nat.succ_mul,Nat.add_comm]
theorem CF:gK X (binaryOp .Mult) De:=by
  intro pins s σ H x y v u Q I rx ry h
  obtain⟨l,k,xs,rfl,rfl,hH,h1,h2,hz,q⟩:=h
  cases rx
  obtain⟨t,rfl⟩:=ry
  obtain⟨z,its,n,r,hl,e⟩:=I.lstM hH
  have hlen:its.toArray.size*k.toNat≤sizeLine:=by rw [List.size_toArray,←hl];exact hz
  have hcap:¬its.toArray.size*k.toNat > (2 ^ 63 - 1) / 8:=by
    have:(sizeLine:Nat)≤(2 ^ 63 - 1) / 8:=by decide
    lia
  have hfit:¬(!Builtin.List.listFitsIndex k)=true:=by
    rw [fitsIndex_both h1 h2]
    exact Bool.false_ne_true
  have hlong:¬Builtin.List.listTooLong (its.toArray.size*k.toNat)=true:=by
    rw [qN hlen]
    exact Bool.false_ne_true
  have hnew:List.foldl (fun x1 x2=>x1++x2) #[] (List.replicate (if its.toArray.isEmpty=true then 0 else k.toNat) its.toArray)=(List.replicate k.toNat its).flatten.toArray:=by
    have f0:∀m:Nat,List.foldl (fun x1 x2=>x1++x2) #[] (List.replicate m its.toArray)=(List.replicate m its).flatten.toArray:=fun m=>by
      have:=nY its m []
      rw [List.nil_append] at this
      exact this
    rw [f0]
    cases its with
    | nil=>simp
    | cons a r'=>rw [if_neg (by simp)]
  refine wpAny_binaryOp_repeat_ref (T:="list") (U:="int") (by decide) ⟨_,e,rfl⟩ (fun s'=>typeIs_int s' k t) noFill_list_mul F.fills_int_mul F.slot_int_rmul repeat_list F.slot_int_index.lookup
    (call_meets F.slot_int_rmul (typeIs_int s k t) F.entry_int_rmul (F.args_int_rmul_2 _ _) (int___rmul___int_list k t l its.toArray n)
      ⟨e,rfl,⟨_,e,rfl⟩,call_meets F.slot_list_mul ⟨_,e,rfl⟩ F.entry_list_mul (F.args_list_mul_2 _ _) (AutoListH.list___mul___list_int_3 l its.toArray n k t hfit hcap hlong) ⟨e,?_⟩⟩)
  rw [hnew]
  exact⟨.ref _,_,I.lnew (t':=s.toks) (r.rep k.toNat) (by rw [zt,Nat.mul_comm];exact hz),rfl,q _ I.fresh⟩
end
section
variable{prog:Program}{w:World}{A:Around}{E:Value→Shared→Prop}{s:Shared}
end
section
variable{X:Cx}
end
end L2
namespace Att
open PySem PySem.W PySem.Calls PyProof.Rows
theorem lY{P:Params}{h:Heap}:∀(ns:List Int) (vs:List Value),WellAll P h vs (ns.map WData.int)→IntsAre vs ns:=by
  intro ns
  induction ns with
  | nil=>
    intro vs w
    rw [List.map_nil] at w
    cases w
    exact .nil
  | cons n ns ih=>
    intro vs w
    rw [List.map_cons] at w
    cases w with
    | cons a b=>
      cases a
      exact .cons _ _ (ih _ b)
theorem vp{l:OpenLaw}{n:Nat}(hn:l.most=some n){P:Params}{h:Heap}{args:List WData}{vals:List Value}
    (hpre:l.row.toRowW.claim.pre args=true)(hwl:WellAll P h vals args):
    ∃a vs ns,vals=[Value.ref a]∧args=[WData.list (ns.map WData.int)]∧h.get? a=some {cls:=.type "list",data:=.seq vs.toArray}∧IntsAre vs ns∧ns.length≤n:=by
  have hsh:WShape.hasAll [] args [.list .int]=true:=(pre_splitW hpre).1
  have hc:l.pre.holds [] {args:=args}=true:=(pre_splitW hpre).2
  obtain⟨d,r,rfl,h1,h2⟩:=hasAllW_cons hsh
  obtain rfl:=hasAllW_nil h2
  obtain⟨xs,rfl,h3⟩:=hasW_list h1
  obtain⟨ns,rfl⟩:=items_int h3
  have hlen:ns.length≤n:=by
    unfold OpenLaw.pre at hc
    have h4:(WTm.not (.lt (.lit (.int (n:Int))) (.len (.arg 0)))).holds [] {args:=[.list (ns.map .int)]}=true:=by
      have h4:=(holds_andW hc).1
      rw [hn] at h4
      exact h4
    have h5:=condW_of h4 (w_not (w_lt w_lit (w_len_list (w_arg rfl))))
    rw [List.length_map] at h5
    refine Nat.le_of_not_lt fun q=>?_
    have q':(n:Int) < ((ns.length:Nat):Int):=by lia
    first
      | (rw [decide_eq_true q'] at h5;exact absurd h5 (by decide))
      | (simp at h5;lia)
  cases hwl with
  | cons w1 w2=>
    cases w2
    cases w1 with
    | list ho hall=>exact⟨_,_,ns,rfl,rfl,ho,lY ns _ hall,hlen⟩
theorem vg(l:OpenLaw)(args:List WData):l.row.toRowW.claim.post args (.bool true) args=true:=
  postW_of (r:=l.row.toRowW) (X:=(true==true))
    (show WShape.has [] (.bool true) .bool=true by first | rfl | decide | simp [WShape.has,WShape.arms,WShape.armsAll])
    (show(WTm.eq .res (.lit (.bool true))).value [] {args:=args,res:=some (.bool true),after:=args}=some (.bool (true==true)) from w_eq_bool (w_res rfl) w_lit) rfl
theorem attach_call{l:OpenLaw}{n:Nat}{q:Program}{loose:List Str}{XP:(Str→Option Value)→Heap→Prop}{YP:World→Heap→Prop}{d:DefRec}
    (hn:l.most=some n)(hdf:d.params.defaults=[])
    (call:∀(w:World) (s₀ s₁:Shared) (mg mb:Str→Option Value) (fa:Addr) (o:Obj) (pm cd doc:Value) (a:Addr) (vs:List Value) (ns:List Int),
      Ground q loose [] XP w s₀ mg mb s₁.heap→YP w s₁.heap→
      s₁.heap.get? fa=some o→o.data=.func (docDef d.name d.params d.body d.scope pm cd doc)→s₁.heap.CodeRec cd d.name→mg d.name=some (.ref fa)→
      s₁.heap.get? a=some {cls:=.type "list",data:=.seq vs.toArray}→IntsAre vs ns→ns.length≤n→s₁.gens=#[]→
      codeAny (model l.prog w) callerA (.call (.ref fa) ⟨[.ref a],[]⟩) (fun r s'=>r=.ok (.ret (.bool true))∧OldK s₁.heap s'.heap∧s'.os=s₁.os∧AllBare s'.gens) s₁):
    WalkO q loose XP YP l.row.toRowW d [] (fun f vs=>PySem.call f vs):=by
  intro w s₀ s₁ mg mb G Y fa o pm cd doc dV kV ho hd hcd hD hmg hg args vals as hpre hlay hrd hwl hlo
  obtain rfl:dV=.none:=Dflts.none hD hdf
  obtain rfl:kV=.none:=Dflts.noKw hD
  obtain⟨a,vs,ns,rfl,rfl,hobj,hints,hlen⟩:=vp hn hpre hwl
  refine enter_call (codeAny_mono (call w s₀ s₁ mg mb fa o pm cd doc a vs ns G Y ho (fd_plain hd) hcd hmg hobj hints hlen hg) fun r s' hq=>?_)
  obtain⟨rfl,h2,h3,h4⟩:=hq
  exact⟨.inl ⟨.bool true,.bool true,[],rfl,fun _=>rfl,.bool true,vg l _,fun _=>⟨List.Pairwise.nil,fun _ hm=>(nomatch hm)⟩⟩,h2,h3,h4⟩
section
variable{prog:Program}{w:World}{A:Around}{E:Value→Shared→Prop}{s:Shared}{K:Frag}
end
end Att
namespace L2
open PySem PySem.Spec PyProof.Rows
theorem oQ:∀{vs:List Value} {ns:List Int},IntsAre vs ns→aH (ns.map V.int) vs
  | _,_,.nil=>.nil
  | _,_,.cons n t h=>.cons ⟨t,rfl⟩ (oQ h)
def BI(H:Hp):Prop:=∀b,H b=none∨∃o xs,H b=some (.frz o (.lst xs))
theorem wZ{P:Program}{w:World}{K:PySem.W.Frag}{mg mb:Str→Option Value}{CX:uE}{k:Nat}{fa a:Addr}{fd:FuncData}{x:Str}{sp:Sp}{s₁:Shared}{vs:List Value}{ns:List Int}
    (KX:K.In s₁.heap)(hns:s₁.heap.Ns mainGlobals mg)(hb:s₁.heap.Ns builtinsNs mb)(hbb:∀x:Str,x≠"__name__"→mb x=bootBuiltins x)(hlim:s₁.heap.NoLimit)(hg:s₁.gens=#[])
    (ha:s₁.heap.get? a=some {cls:=.type "list",data:=.seq vs.toArray})(hi:IntsAre vs ns)(hl:ns.length≤sizeLine)(hr:cX k callerA)
    (F:∀base:Heap,K.In base→base.Ns mainGlobals mg→aL P w K mg base CX k fa fd [x] sp)(hbind:∀(s:Shared) (u:Value),BindsTo s fd ⟨[u],[]⟩ [(x,u)])
    (hsp:∀H:Hp,BI H→gA K H a (ns.map V.int)→sp [.ref a] H (fun v _=>v=.bl true) fun _ _ _=>False)
    (hCX:∀H e s',CX [] H s₁ (fun _ _ _=>False) e s'→False):
    codeAny (model P w) callerA (.call (.ref fa) ⟨[.ref a],[]⟩) (fun r s'=>r=.ok (.ret (.bool true))∧OldK s₁.heap s'.heap∧s'.os=s₁.os∧AllBare s'.gens) s₁:=by
  have rv:=oQ hi
  have lenV:=hi.length
  have core:∀H:Hp,BI H→gA K H a (ns.map V.int)→jL P w H s₁.heap→(∀b,H b≠none→b=a)→(H a≠none→K.lookup a=none)→
      codeAny (model P w) callerA (.call (.ref fa) ⟨[.ref a],[]⟩) (fun r s'=>r=.ok (.ret (.bool true))∧OldK s₁.heap s'.heap∧s'.os=s₁.os∧AllBare s'.gens) s₁:=by
    intro H hO hS hok hA hK
    have base_of:∀{b:Addr} {o:Obj},s₁.heap.get? b=some o→H b=none→(pA s₁.heap H).get? b=some o:=fun e n=>wM e n
    have noA:∀{b:Addr} {o:Obj} {es:Array DictEntry} {ep:Nat},s₁.heap.get? b=some o→o.data=.dict es ep→H b=none:=fun{b o es ep} e d=>by
      cases q:H b with
      | none=>rfl
      | some u=>
        have e':b=a:=hA b (by rw [q];simp)
        subst e'
        rw [ha] at e;cases e
        have d':Data.seq vs.toArray _=Data.dict es ep:=d
        cases d'
    have nsK:∀{b:Addr} {m:Str→Option Value},s₁.heap.Ns b m→(pA s₁.heap H).Ns b m:=fun{b m} ⟨o,es,ep,e,d,r⟩=>⟨o,es,ep,base_of e (noA e d),d,r⟩
    have hKb:K.In (pA s₁.heap H):=fun b o e=>base_of (KX b o e) (by
      cases q:H b with
      | none=>rfl
      | some u=>
        have e':b=a:=hA b (by rw [q];simp)
        subst e'
        rw [hK (by rw [q];simp)] at e;cases e)
    have hM:Mod K mg (pA s₁.heap H):=⟨hKb,nsK hns,⟨mb,nsK hb,hbb⟩,let ⟨mc,h1,h2⟩:=hlim;⟨mc,nsK h1,h2⟩⟩
    have e0:yQ P w K mg (pA s₁.heap H) callerA [] s₁ H:=⟨rfl,hM,fun b o e=>zx e,Nat.le_of_eq (uS _ _),trivial,fun b hb=>absurd (show b∈([]:List Addr) from hb) (by simp),hok,.of_eq hg⟩
    refine codeAny_mono ((F _ hKb (nsK hns)).run callerA [] s₁ H ⟨[.ref a],[]⟩ [.ref a] [.ref a] _ _ hr e0 (hbind s₁ (.ref a)) (.cons rfl .nil) (hsp H hO hS)) fun r s' h=>?_
    cases r with
    | error e=>exact(hCX H e s' h).elim
    | ok fl=>
      cases fl with
      | next=>exact False.elim h
      | brk=>exact False.elim h
      | cont=>exact False.elim h
      | ret u=>
        obtain⟨v,H',os,bare,un,hok',r',q⟩:=h
        have q':v=.bl true:=q
        subst q'
        obtain rfl:u=Value.bool true:=r'
        refine⟨rfl,OldK.of_keep fun b o e=>?_,os,bare⟩
        cases q:H b with
        | none=>exact un.keep b o e q (by intro z;exact absurd (show b∈([]:List Addr) from z) (by simp)) (by simp)
        | some u=>
          rcases hO b with z | ⟨ob,xs,z⟩
          · rw [q] at z;cases z
          · have z2:=un.frzs b ob _ z
            obtain⟨e1,_⟩:=hok b _ z
            obtain⟨e2,_⟩:=hok' b _ z2
            rw [e] at e1;cases e1
            exact e2
  cases hk:K.lookup a with
  | some o=>
    have e:=KX a o hk
    rw [ha] at e
    cases e
    refine core (fun _=>none) (fun _=>.inl rfl) (.inr ⟨_,vs.toArray,_,hk,rfl,rfl,rfl,by rw [List.size_toArray,lenV];exact hl,by simpa using rv⟩) (fun b u z=>by have z':(none:Option HO)=some u:=z;cases z') (fun b z=>absurd rfl z) fun z=>absurd rfl z
  | none=>
    refine core (fun b=>if b=a then some (.frz {cls:=.type "list",data:=.seq vs.toArray} (.lst (ns.map V.int))) else none) (fun b=>?_) (.inl (.inr ⟨{cls:=.type "list",data:=.seq vs.toArray},if_pos rfl⟩)) (fun b u z=>?_) (fun b z=>?_) fun _=>hk
    · by_cases hb:b=a
      · exact .inr ⟨_,_,if_pos hb⟩
      · exact .inl (if_neg hb)
    · by_cases hb:b=a
      · have z':=(if_pos hb).symm.trans z
        cases z'
        subst hb
        exact⟨ha,by rw [List.length_map];exact hl,vs,_,rv,ha⟩
      · have z':=(if_neg hb).symm.trans z
        cases z'
    · by_cases hb:b=a
      · exact hb
      · exact absurd (if_neg hb) z
end L2
namespace L2
open PySem PySem.Spec PyProof.Rows
theorem walk_of{l:PySem.W.OpenLaw}{n k:Nat}{q:Program}{loose:List Str}{XP:(Str→Option Value)→Heap→Prop}{YP:World→Heap→Prop}{d:DefRec}{K:Params→PySem.W.Frag}{CX:World→uE}{sp:World→Sp}{x:Str}
    (hn:l.most=some n)(hn2:n≤sizeLine)(hdf:d.params.defaults=[])(hr:cX k callerA)
    (hY:∀(w:World) (h:Heap),YP w h→(K w.params).In h)
    (F:∀(w:World) (mg:Str→Option Value) (fa:Addr) (h:Heap),(K w.params).In h→h.Ns mainGlobals mg→mg d.name=some (.ref fa)→
      ∃fd:FuncData,(∀(s:Shared) (u:Value),BindsTo s fd ⟨[u],[]⟩ [(x,u)])∧
        ∀base:Heap,(K w.params).In base→base.Ns mainGlobals mg→aL l.prog w (K w.params) mg base (CX w) k fa fd [x] (sp w))
    (hsp:∀(w:World) (H:Hp) (a:Addr) (ns:List Int),ns.length≤n→BI H→gA (K w.params) H a (ns.map V.int)→sp w [.ref a] H (fun v _=>v=.bl true) fun _ _ _=>False)
    (hCX:∀(w:World) (H:Hp) (s:Shared) (e:Value) (s':Shared),CX w [] H s (fun _ _ _=>False) e s'→False):
    PySem.W.WalkO q loose XP YP l.row.toRowW d [] (fun f vs=>PySem.call f vs):=by
  refine Att.attach_call hn hdf fun w s₀ s₁ mg mb fa o pm cd doc a vs ns G Y ho hd hcd hmg hobj hints hlen hg=>?_
  have KX:=hY w _ Y
  obtain⟨fd,hb,hF⟩:=F w mg fa _ KX G.T.g hmg
  exact wZ KX G.T.g G.T.b G.T.builtins G.T.nolimit hg hobj hints (Nat.le_trans hlen hn2) hr hF hb (fun H hO hS=>hsp w H a ns hlen hO hS) fun H e s'=>hCX w H s₁ e s'
end L2
namespace L2
open PySem PySem.Spec PyProof.Rows
def dM(s:Stmt):Arguments:=match s with
  | .FunctionDef _ a _ _ _ _ _ _ _ _=>a
  | _=>{posonlyargs:=[],args:=[],vararg:=none,kwonlyargs:=[],kw_defaults:=[],kwarg:=none,defaults:=[]}
def cS(s:Stmt):List Stmt:=match s with
  | .FunctionDef _ _ b _ _ _ _ _ _ _=>b
  | _=>[]
def aj(s:Stmt):Scope:=match s with
  | .FunctionDef _ _ _ _ _ _ sc _ _ _=>sc
  | _=>{kind:=.function,names:=[],isGenerator:=false,isCoroutine:=false}
abbrev cf:uE:=fun _ _ _ _ _ _=>False
abbrev E0:XK:=fun _ _ _=>False
theorem EE{X:Cx}:rP cf X E0:=fun _ _ _ _ _ _ _ h=>h.elim
structure DC (K:PySem.W.Frag) (x qual:Str) (st:Stmt) (f:Addr) (fd:FuncData):Prop where
  ex:∃(oc:Value) (od:Option Addr) (kV doc pm:Value) (an:Option Addr) (cdv ct:Value) (osl:Array (Option Value)),
    fd=PySem.W.fnOf x qual (dM st) (cS st) (aj st) .none kV doc pm an cdv ct∧K.lookup f=some ⟨oc,od,.func fd,osl⟩∧PySem.W.codeIn K cdv qual=true
  kp:PySem.W.keepIn K (.ref f)=true
section
variable{P:Program}{w:World}{K:PySem.W.Frag}{mg:Str→Option Value}{base:Heap}
theorem DC.ok{x qual:Str}{st:Stmt}{f:Addr}{fd:FuncData}{N ps:List Str}{k:Nat}{sp:Sp}(F:DC K x qual st f fd)(S:aF N ps (aj st))(len:∀vs H Q E,sp vs H Q E→vs.length=ps.length)
    (hbody:∀(cdv:Value) (A:Around) (outer:List Env) (s:Shared) (H:Hp) (vs:List V) (Q:VK) (E:XK),cX k (A.deeper (envOfC qual (aj st) s.heap.objs.size f cdv))→sp vs H Q E→
      ∃t,iM (rV cf P w K mg base N qual (aj st) f cdv A outer s H E).nox (cS st) t∧t {nx:=fun _ H'=>Q .non H',rt:=Q} (eV N vs) H):aL P w K mg base cf (k+1) f fd ps sp:=by
  obtain⟨oc,od,kV,doc,pm,an,cdv,ct,osl,rfl,lk,hcd⟩:=F.ex
  refine D' lk hcd S len fun A outer s H vs Q E hr hsp=>?_
  obtain⟨t,h,q⟩:=hbody cdv A outer s H vs Q E hr hsp
  exact⟨t,h.nox,q⟩
theorem DC.binds{x qual:Str}{st:Stmt}{f:Addr}{fd:FuncData}{ps:List Str}(F:DC K x qual st f fd)
    (h:∀(kV doc pm:Value) (an:Option Addr) (cdv ct:Value) (us:List Value),us.length=ps.length→bindArgs (PySem.W.fnOf x qual (dM st) (cS st) (aj st) .none kV doc pm an cdv ct) ⟨us,[]⟩=pure (ps.zip us)):nJ K fd ps []:=by
  obtain⟨oc,od,kV,doc,pm,an,cdv,ct,osl,rfl,lk,hcd⟩:=F.ex
  exact .all (h kV doc pm an cdv ct)
theorem wx{x qual:Str}{st:Stmt}{f:Addr}{oc:Value}{od an:Option Addr}{osl:Array (Option Value)}{kV doc pm cdv ct:Value}(l:K.lookup f=some ⟨oc,od,.func (PySem.W.fnOf x qual (dM st) (cS st) (aj st) .none kV doc pm an cdv ct),osl⟩)
    (c:PySem.W.codeIn K cdv qual=true)(k:PySem.W.keepIn K (.ref f)=true):DC K x qual st f (PySem.W.fnOf x qual (dM st) (cS st) (aj st) .none kV doc pm an cdv ct):=⟨⟨oc,od,kV,doc,pm,an,cdv,ct,osl,rfl,l,c⟩,k⟩
end
theorem oI{n:Nat}(h:n≤1000):n < sizeLine:=Nat.lt_of_le_of_lt h (by decide)
section
variable{X:Cx}
theorem pv(i:Nat){x:Str}{pos:Pos}(hN:X.N[i]?=some x:=by rfl)(hv:DG X.env.scope x:=by first | exact Or.inl rfl | exact Or.inr (Or.inl rfl) | exact Or.inr (Or.inr rfl))(hd:(x==("__debug__":Str))=false:=by decide)
    (hcd:(x==("__classdict__":Str))=false:=by decide):PE X (.Name x pos) (pY i):=i5 hN hv hd hcd
end
theorem wX{A B:Prop}(h:B):if false=true then A else B:=by
  rw [if_neg Bool.false_ne_true]
  exact h
theorem wY{A B:Prop}(h:A):if true=true then A else B:=by
  rw [if_pos rfl]
  exact h
def av(H H':Hp):Prop:=∀b o,H b=some o→H' b=some o
theorem av.refl(H:Hp):av H H:=fun _ _ h=>h
theorem av.trans{H H1 H2:Hp}(a:av H H1)(b:av H1 H2):av H H2:=fun c o h=>b c o (a c o h)
theorem av.free{H H':Hp}(e:av H H'){l:Addr}(h:H' l=Option.none):H l=Option.none:=by
  cases q:H l with
  | none=>rfl
  | some o=>
    rw [e l o q] at h
    cases h
theorem av.seq{K:PySem.W.Frag}{H H':Hp}{a:Addr}{xs:List V}(e:av H H')(h:gA K H a xs):gA K H' a xs:=by
  rcases h with (h | ⟨o,h⟩) | h
  · exact .inl (.inl (e _ _ h))
  · exact .inl (.inr ⟨o,e _ _ h⟩)
  · exact .inr h
end L2
set_option maxHeartbeats 4000000
namespace L2
open PySem PySem.Spec PyProof.Rows
def Bt(n:Nat)(i:Int):Prop:=i.natAbs < 2 ^ n
theorem Bt.mono{m n:Nat}{i:Int}(h:Bt m i)(hm:m≤n):Bt n i:=Nat.lt_of_lt_of_le h (Nat.pow_le_pow_right (by decide) hm)
theorem Bt.log{m:Nat}{i:Int}(h:Bt m i)(hm:0 < m):i.natAbs.log2 < m:=by
  unfold Bt at h
  rcases Nat.eq_zero_or_pos i.natAbs with h0 | hp
  · rw [h0];exact hm
  · exact(Nat.log2_lt (by lia)).mpr h
theorem Bt.bits{m:Nat}{i:Int}(h:Bt m i)(hm:0 < m):Builtin.Int.intBits i≤m:=by
  unfold Builtin.Int.intBits
  split
  · exact Nat.zero_le _
  · exact h.log hm
theorem Bt.of_le{m:Nat}{i:Int}{j:Int}(h:Bt m j)(e:i.natAbs≤j.natAbs):Bt m i:=Nat.lt_of_le_of_lt e h
section
variable{X:Cx}
def AO(i j:Int):Prop:=Bt 4000 i∧Bt 4000 j
theorem zI:gK X (binaryOp .Mult) (rI AO fun i j=>.int (i*j)):=Ex fun _ _ _ _ _ _ _ hc q=>
  mul_int q (.of_bits (Nat.le_trans (hc.1.bits (by decide)) (by decide)) (Nat.le_trans (hc.2.bits (by decide)) (by decide)))
def AN(i j:Int):Prop:=j≠0∧Bt 8000 j
theorem xA:gK X (binaryOp .FloorDiv) (rI AN fun i j=>.int (i.fdiv j)):=Ex fun _ _ _ _ _ _ _ hc q=>
  floordiv_int hc.1 q (.inl (PyProof.noPylong_of_log2 (Nat.lt_trans (hc.2.log (by decide)) (by decide))))
end
def lD(H H':Hp):Prop:=∀a o,H a=some o→(∀xs,o≠.lst xs)→(∀ob xs,o≠.frz ob (.lst xs))→H' a=some o
theorem lD.trans{H H1 H2:Hp}(a:lD H H1)(b:lD H1 H2):lD H H2:=fun c o h n m=>b c o (a c o h n m) n m
theorem av.ts{H H':Hp}(h:av H H'):lD H H':=fun a o e _ _=>h a o e
theorem lD.tup{K:PySem.W.Frag}{H H':Hp}(h:lD H H'){a:Addr}{xs:List V}(q:cW K H a xs):cW K H' a xs:=by
  rcases q with (q | ⟨o,q⟩) | q
  · exact .inl (.inl (h _ _ q (fun _ e=>nomatch e) (fun _ _ e=>nomatch e)))
  · exact .inl (.inr ⟨o,h _ _ q (fun _ e=>nomatch e) (fun _ _ e=>nomatch e)⟩)
  · exact .inr q
section
variable{X:Cx}
end
end L2
namespace L2
open PySem PySem.Spec PyProof.Rows
structure bx (K:PySem.W.Frag) (mg:Str→Option Value) (x:Str) (st:Stmt) (f:Addr) (fd:FuncData) (ps:List Str):Prop where
  F:DC K x x st f fd
  m:mg x=some (.ref f)
  b:nJ K fd ps []
theorem B4{K:PySem.W.Frag}{mg:Str→Option Value}{h:Heap}{x:Str}{st:Stmt}{f:Addr}{ps:List Str}{oc:Value}{od an:Option Addr}{osl:Array (Option Value)}{kV doc pm cdv ct:Value}(X:K.In h)(G:h.Ns mainGlobals mg)(a:PySem.W.nsIn K mainGlobals x=some (some (.ref f)))
    (l:K.lookup f=some ⟨oc,od,.func (PySem.W.fnOf x x (dM st) (cS st) (aj st) .none kV doc pm an cdv ct),osl⟩)(c:PySem.W.codeIn K cdv x=true)(k:PySem.W.keepIn K (.ref f)=true)
    (hb:∀(kV doc pm:Value) (an:Option Addr) (cdv ct:Value) (us:List Value),us.length=ps.length→bindArgs (PySem.W.fnOf x x (dM st) (cS st) (aj st) .none kV doc pm an cdv ct) ⟨us,[]⟩=pure (ps.zip us)):
    bx K mg x st f (PySem.W.fnOf x x (dM st) (cS st) (aj st) .none kV doc pm an cdv ct) ps:=⟨wx l c k,PySem.W.mg_of X G a,(wx l c k).binds hb⟩
theorem GA{X:Cx}{x:Str}{st:Stmt}{f:Addr}{fd:FuncData}{ps:List Str}{k:Nat}{sp:Sp}{e:Expr}{es:List Expr}{t:TA}{p pos:Pos}(h:bx X.K X.mg x st f fd ps)(G:aL X.prog X.w X.K X.mg X.base cf k f fd ps sp)(hr:cX k X.A)(ha:PA X (e::es) t)
    (hg:Gl X x:=by rfl)(hdb:(x==("__debug__":Str))=false:=by decide)(he:starEach (e::es) X.env=(false,eval e X.env)::starEach es X.env:=by rfl)(hpl:(backTo pos (starEach es X.env)).any (·.1)=false:=by rfl):
    PE X (.Call (.Name x p) (e::es) [] pos) (yo sp [] E0 t):=zL G hr hg h.m h.F.kp h.b .nil EE ha hdb he hpl
theorem av.new{H:Hp}{p:Addr}{o:HO}(h:H p=none):av H (aV H p o):=fun b u e=>by
  rw [aB (dX e h)];exact e
theorem av.tup{K:PySem.W.Frag}{H H':Hp}{a:Addr}{xs:List V}(e:av H H')(h:cW K H a xs):cW K H' a xs:=e.ts.tup h
end L2
namespace L2
open PySem PySem.Spec PyProof.Rows
def eO(t b:Int):Int × Int:=if b < 0 then(t.fdiv (-(Int.gcd t b:Int)),b.fdiv (-(Int.gcd t b:Int))) else(t.fdiv (Int.gcd t b:Int),b.fdiv (Int.gcd t b:Int))
theorem wK(x y:Int):Int.gcd y (x.fmod y)=Int.gcd x y:=by
  rw [Int.fmod_def,Int.gcd_sub_mul_left_right,Int.gcd_comm]
theorem lG(x:Int){y:Int}(h:y≠0):(x.fmod y).natAbs < y.natAbs:=by
  rcases Int.lt_or_gt_of_ne h with h | h
  · have h1:x.fmod y= -((-x).fmod (-y)):=by
      have:=Int.neg_fmod_neg x y
      lia
    have h2:=Int.fmod_nonneg_of_pos (-x) (b:= -y) (by lia)
    have h3:=Int.fmod_lt_of_pos (-x) (b:= -y) (by lia)
    lia
  · have h2:=Int.fmod_nonneg_of_pos x h
    have h3:=Int.fmod_lt_of_pos x h
    lia
theorem tW{t b:Int}(h:b≠0):(0:Int) < Int.gcd t b:=by
  have:=Int.gcd_pos_of_ne_zero_right t h
  lia
theorem ox{t b:Int}(h:b≠0):∃d:Int,d.natAbs=Int.gcd t b∧d≠0∧(eO t b).1*d=t∧(eO t b).2*d=b∧0 < (eO t b).2:=by
  have hg:=tW (t:=t) h
  have d1:(Int.gcd t b:Int) ∣ t:=Int.gcd_dvd_left ..
  have d2:(Int.gcd t b:Int) ∣ b:=Int.gcd_dvd_right ..
  unfold eO
  split
  · rename_i hb
    have e1:t.fdiv (-(Int.gcd t b:Int))*(-(Int.gcd t b:Int))=t:=Int.fdiv_mul_cancel (Int.neg_dvd.mpr d1)
    have e2:b.fdiv (-(Int.gcd t b:Int))*(-(Int.gcd t b:Int))=b:=Int.fdiv_mul_cancel (Int.neg_dvd.mpr d2)
    refine⟨-(Int.gcd t b:Int),by lia,by lia,e1,e2,?_⟩
    show 0 < b.fdiv (-(Int.gcd t b:Int))
    have h3:b.fdiv (-(Int.gcd t b:Int))*(Int.gcd t b:Int)= -b:=by rw [Int.mul_neg] at e2;lia
    exact Int.pos_of_mul_pos_left (by lia) (by lia) (b:=(Int.gcd t b:Int))
  · rename_i hb
    have e1:t.fdiv (Int.gcd t b:Int)*(Int.gcd t b:Int)=t:=Int.fdiv_mul_cancel d1
    have e2:b.fdiv (Int.gcd t b:Int)*(Int.gcd t b:Int)=b:=Int.fdiv_mul_cancel d2
    refine⟨(Int.gcd t b:Int),by lia,by lia,e1,e2,?_⟩
    show 0 < b.fdiv (Int.gcd t b:Int)
    exact Int.pos_of_mul_pos_left (by lia) (by lia) (b:=(Int.gcd t b:Int))
theorem xb{t b:Int}(h:b≠0):Int.gcd (eO t b).1 (eO t b).2=1:=by
  obtain⟨d,h1,h2,h3,h4,h5⟩:=ox (t:=t) h
  have e:Int.gcd ((eO t b).1*d) ((eO t b).2*d)=Int.gcd (eO t b).1 (eO t b).2*d.natAbs:=Int.gcd_mul_right ..
  rw [h3,h4,←h1] at e
  have hd:0 < d.natAbs:=by lia
  exact(Nat.eq_of_mul_eq_mul_right hd (by rw [Nat.one_mul];exact e)).symm
theorem B3{t b:Int}(h:b≠0){n:Nat}(hb:Bt n b):Bt n (Int.gcd t b:Int):=by
  refine hb.of_le ?_
  have h1:=Nat.le_of_dvd (show 0 < b.natAbs by lia) (Int.ofNat_dvd.mp (by rw [Int.dvd_natAbs];exact Int.gcd_dvd_right t b))
  lia
mutual
def cnt:PyData→Nat
  | .tuple ds=>1+jy ds
  | .str _=>0
  | _=>1
def jy:List PyData→Nat
  | []=>0
  | d::ds=>cnt d+jy ds
end
mutual
def mL:PyData→Bool
  | .tuple ds=>hV ds
  | .str _=>false
  | .list _=>false
  | .dict _=>false
  | _=>true
def hV:List PyData→Bool
  | []=>true
  | d::ds=>mL d&&hV ds
end
theorem nv{a:Int}(h:a.natAbs.log2 < 1920):(Str.ofString (toString a)).length≤1921:=by
  have e:=int_text_length_le (k:=1920) (by decide) h
  rw [PySem.ofString_length];lia
theorem sr(x:Str)(r:List Str):piled (x::r)=x.length+2+piled r:=by
  simp [piled]
theorem vD(ts:List Str):(tupleText ts).length≤piled ts+3:=by
  unfold tupleText
  rw [strLen_append,strLen_append]
  have h1:(("(":Str)).length=1:=by decide
  have h2:(Str.ofString (if (ts.length==1)=true then ",)" else ")")).length≤2:=by split<;>decide
  have h3:(Str.join ", " ts).length≤piled ts:=by
    cases ts with
    | nil=>show(Str.join ", " []).length≤0;decide
    | cons x r=>have:=join_length_add (x::r) (by simp);lia
  lia
mutual
theorem oG:∀{d:PyData},mL d=true→d.showable=true→d.shown.length+2≤2000*cnt d
  | .none,_,_=>by show(Str.ofString "None").length+2≤2000*1;decide
  | .bool b,_,_=>by
    cases b
    · show(Str.ofString "False").length+2≤2000*1;decide
    · show(Str.ofString "True").length+2≤2000*1;decide
  | .int i,_,hs=>by
    simp only [PyData.showable,decide_eq_true_eq] at hs
    have:=nv hs
    show(Str.ofString (toString i)).length+2≤2000*1
    lia
  | .tuple ds,hn,hs=>by
    simp only [PyData.showable] at hs
    simp only [mL] at hn
    have h1:=ky hn hs
    have h2:=vD (PyData.shownAll ds)
    simp only [PyData.shown,cnt]
    lia
  | .str _,hn,_=>by simp [mL] at hn
  | .list _,hn,_=>by simp [mL] at hn
  | .dict _,hn,_=>by simp [mL] at hn
theorem ky:∀{ds:List PyData},hV ds=true→PyData.showableAll ds=true→piled (PyData.shownAll ds)≤2000*jy ds
  | [],_,_=>by simp [PyData.shownAll,piled]
  | d::ds,hn,hs=>by
    simp only [hV,Bool.and_eq_true] at hn
    simp only [PyData.showableAll,Bool.and_eq_true] at hs
    have h1:=oG hn.1 hs.1
    have h2:=ky hn.2 hs.2
    simp only [PyData.shownAll,jy,sr]
    lia
end
end L2
namespace L2
open PySem PySem.Spec PyProof.Rows
def fM(env:Env):List (Str × NameKind)→List (Str × Addr)→List (Str × Addr)
  | [],cs=>cs
  | (n,k)::r,cs=>fM env r (if k==.free then(n,(env.cells.lookup n).getD 0)::cs else cs)
theorem jU{env:Env}:∀(names:List (Str × NameKind)) (cs:List (Str × Addr)),(∀y∈names,y.2=.free→∃c,env.cells.lookup y.1=some c)→
    (forIn names cs (fun(x:Str × NameKind) (r:List (Str × Addr))=>(if (x.2==NameKind.free)=true then do let a ←cellOf env x.1;pure (ForInStep.yield ((x.1,a)::r)) else pure (ForInStep.yield r):Sem (ForInStep (List (Str × Addr))))):Sem (List (Str × Addr)))=pure (fM env names cs)
  | [],cs,_=>rfl
  | (n,k)::r,cs,h=>by
    rw [List.forIn_cons]
    have ih:=fun cs'=>jU (env:=env) r cs' (fun y hy=>h y (List.mem_cons_of_mem _ hy))
    by_cases hk:(k==NameKind.free)=true
    · have hk':k=.free:=by simpa using hk
      obtain⟨c,hc⟩:=h (n,k) List.mem_cons_self hk'
      have e:cellOf env n=pure c:=by unfold cellOf;rw [hc]
      simp only [hk,if_true,e,pure_bind,fM,hc,Option.getD_some]
      exact ih _
    · have hk':(k==NameKind.free)=false:=by simpa using hk
      simp only [hk',Bool.false_eq_true,if_false,pure_bind,fM]
      exact ih _
theorem jx{scope:Scope}{env:Env}(h:∀y∈scope.names,y.2=.free→∃c,env.cells.lookup y.1=some c):closureFor scope env=pure (fM env scope.names []):=by
  have e:=jU (env:=env) scope.names [] h
  unfold closureFor
  simp only [pure_bind,bind_pure] at e ⊢
  exact e
theorem ic{env:Env}:∀(names:List (Str × NameKind)) (cs:List (Str × Addr)) (x:Str) (c:Addr),(∀y∈names,y.2=.free→∃c,env.cells.lookup y.1=some c)→(∀x c,cs.lookup x=some c→env.cells.lookup x=some c)→(fM env names cs).lookup x=some c→env.cells.lookup x=some c
  | [],cs,x,c,_,hs,h=>hs x c h
  | (n,k)::r,cs,x,c,hn,hs,h=>by
    refine ic r _ x c (fun y hy=>hn y (List.mem_cons_of_mem _ hy)) (fun x' c' e=>?_) h
    by_cases hk:(k==NameKind.free)=true
    · rw [if_pos hk] at e
      obtain⟨c0,hc⟩:=hn (n,k) List.mem_cons_self (by simpa using hk)
      rw [List.lookup_cons] at e
      cases hx:x'==n with
      | true=>
        rw [hx] at e
        have e1:x'=n:=by simpa using hx
        subst e1
        simp only [hc,Option.getD_some,Option.some.injEq] at e
        rw [←e];exact hc
      | false=>rw [hx] at e;exact hs x' c' e
    · rw [if_neg hk] at e
      exact hs x' c' e
theorem jT{env:Env}:∀(names:List (Str × NameKind)) (cs:List (Str × Addr)) (x:Str),((∃y∈names,y.1=x∧y.2=.free)∨∃c,cs.lookup x=some c)→∃c,(fM env names cs).lookup x=some c
  | [],cs,x,h=>by
    rcases h with ⟨y,hy,_⟩ | h
    · cases hy
    · exact h
  | (n,k)::r,cs,x,h=>by
    refine jT r _ x ?_
    by_cases hk:(k==NameKind.free)=true
    · rw [if_pos hk,List.lookup_cons]
      cases hx:x==n with
      | true=>exact .inr ⟨_,rfl⟩
      | false=>
        rcases h with ⟨y,hy,e1,e2⟩ | h
        · rcases List.mem_cons.mp hy with z | z
          · subst z;subst e1;simp at hx
          · exact .inl ⟨y,z,e1,e2⟩
        · exact .inr h
    · rw [if_neg hk]
      rcases h with ⟨y,hy,e1,e2⟩ | h
      · rcases List.mem_cons.mp hy with z | z
        · subst z;exact absurd (by simpa using e2) hk
        · exact .inl ⟨y,z,e1,e2⟩
      · exact .inr h
theorem b_{env:Env}:∀{names:List (Str × NameKind)} {x:Str},(∀y∈names,y.2≠.cell)→(names.map fun(n,k)=>if (k==NameKind.free&&env.scope.kind==.function&&env.kindOf n==some .cell) then(n,NameKind.cell) else(n,k)).lookup x=some .cell∨
    (names.map fun(n,k)=>if (k==NameKind.free&&env.scope.kind==.function&&env.kindOf n==some .cell) then(n,NameKind.cell) else(n,k)).lookup x=some .free→∃y∈names,y.1=x∧y.2=.free
  | [],x,_,h=>by simp at h
  | (n,k)::r,x,hc,h=>by
    have ih:=@b_ env r x (fun y hy=>hc y (List.mem_cons_of_mem _ hy))
    have nc:k≠.cell:=hc (n,k) List.mem_cons_self
    rw [List.map_cons] at h
    cases hx:x==n with
    | true=>
      have e1:x=n:=by simpa using hx
      subst e1
      refine⟨(x,k),List.mem_cons_self,rfl,?_⟩
      by_cases q:(k==NameKind.free&&env.scope.kind==.function&&env.kindOf x==some .cell)=true
      · simp only [Bool.and_eq_true,beq_iff_eq] at q;exact q.1.1
      · simp only [q,Bool.false_eq_true,if_false,List.lookup_cons,beq_self_eq_true,Option.some.injEq] at h
        rcases h with h | h
        · exact absurd h nc
        · exact h
    | false=>
      have e2:∀(l:List (Str × NameKind)),((if (k==NameKind.free&&env.scope.kind==.function&&env.kindOf n==some .cell)=true then(n,NameKind.cell) else(n,k))::l).lookup x=l.lookup x:=fun l=>by
        split<;>simp [List.lookup_cons,hx]
      simp only [e2] at h
      obtain⟨y,hy,z⟩:=ih h
      exact⟨y,List.mem_cons_of_mem _ hy,z⟩
theorem dq{env:Env}:∀{names:List (Str × NameKind)} {x:Str},names.lookup x=some .free→
    (names.map fun(n,k)=>if (k==NameKind.free&&env.scope.kind==.function&&env.kindOf n==some .cell) then(n,NameKind.cell) else(n,k)).lookup x≠some .local
  | [],x,h=>by simp at h
  | (n,k)::r,x,h=>by
    rw [List.map_cons]
    cases hx:x==n with
    | true=>
      simp only [hx,List.lookup_cons] at h
      cases h
      show List.lookup x ((if (NameKind.free==NameKind.free&&env.scope.kind==.function&&env.kindOf n==some .cell)=true then(n,NameKind.cell) else(n,NameKind.free))::_)≠_
      split<;>simp [List.lookup_cons,hx]
    | false=>
      simp only [hx,List.lookup_cons] at h
      have ih:=@dq env r x h
      have e2:∀(l:List (Str × NameKind)),((if (k==NameKind.free&&env.scope.kind==.function&&env.kindOf n==some .cell)=true then(n,NameKind.cell) else(n,k))::l).lookup x=l.lookup x:=fun l=>by
        split<;>simp [List.lookup_cons,hx]
      simp only [e2]
      exact ih
def ao(X:Cx)(scope:Scope)(cp:List (Nat × Str))(tgN:List Str)(C:Addr)(s0:Shared)(H0:Hp)(fp:List Addr):Cx where
  prog:=X.prog
  w:=X.w
  K:=X.K
  mg:=X.mg
  base:=X.base
  A:=X.A
  N:=cp.map (·.2)++tgN
  s₀:=s0
  H₀:=H0
  env:=compEnvC scope (fM X.env scope.names []) C X.env
  outer:=X.stack
  stack:=X.stack
  ex:=fp
  fn:=fun x=>scope.names.lookup x==some .local
  calm:=X.calm
  pn:=[]
  xe:=fun _ _=>False
def rM(X:Cx)(ifs:List Expr)(t:TT):Prop:=
  ∀(pins:List (Addr × Obj)) (s:Shared) (σ:L2.St) (H:Hp) (Q:Bool→Hp→Prop),ay X pins σ H s→t σ H Q→
    wpAny (model X.prog X.w) X.A (forIn ifs true fun c r=>if r=true then do let ok ←isTrue c X.env (eval c X.env);pure (ForInStep.yield ok) else pure (ForInStep.yield r)) (TP X pins σ Q) X.xe s
theorem z_{X:Cx}:rM X [] (fun _ H Q=>Q true H):=fun _ _ _ H _ I h=>wpAny_tests_nil ⟨H,I,h⟩
theorem Ab{X:Cx}{c:Expr}{t:TT}(h:PT X c t):rM X [c] t:=fun pins s σ H Q I q=>wpAny_tests_one (h pins s σ H Q I q)
abbrev ue:Value→Shared→Prop:=fun _ _=>False
def wg(prog:Program)(w:World)(A:Around)(elt tg:Expr)(ifs:List Expr)(env:Env)(it acc:Value)(onward:Shared→Prop)(v:Value)(u:Shared):Prop:=
  wpAny (model prog w) A (letOwnedTupleGo tg it v) (fun _ u1=>wpAny (model prog w) A (assign tg env v) (fun _ u2=>wpAny (model prog w) A
    (forIn ifs true fun c r=>if r=true then do let ok ←isTrue c env (eval c env);pure (ForInStep.yield ok) else pure (ForInStep.yield r)) (fun ok u3=>if ok=true then wpAny (model prog w) A (eval elt env) (fun x u4=>wpAny (model prog w) A (call (.builtin "list.append") [acc,x]) (fun _ u5=>onward u5) ue u4) ue u3 else onward u3) ue u2) ue u1) ue u
theorem jV{prog:Program}{w:World}{A:Around}{R:Result→Shared→Prop}{elt tg iter:Expr}{ifs:List Expr}{scope:Scope}{pos:Pos}{it acc:Value}{env:Env}(J:Nat→Shared→Prop)
    (turn:∀n u,J n u→wpAny (model prog w) A (pyNext it) (fun r u1=>(r=none→R (.ok .next) u1)∧∀v,r=some v→wg prog w A elt tg ifs env it acc (fun u2=>∃m,m < n∧J m u2) v u1) ue u){n0:Nat}{u0:Shared}(eV:J n0 u0):
    codeAny (model prog w) A (.compLoop (.ListComp elt [⟨tg,iter,ifs,0⟩] scope pos) 0 it acc env) R u0:=by
  refine codeAny_loop rfl J (fun n u ju=>?_) n0 eV
  show wpAny _ A ((compTurn (.ListComp elt [⟨tg,iter,ifs,0⟩] scope pos) 0 it acc env).onRaise _) _ _ u;refine wpAny_noted ?_;rw [compTurn_list]
  refine wpAny_bind (wpAny_standAt (wpAny_bind (wpAny_mono (turn n u ju) (fun r u1 k1=>?_) fun _ _ z=>z.elim)))
  cases r with
  | none=>exact wpAny_pure (k1.1 rfl)
  | some v=>
    refine wpAny_bind (wpAny_mono (k1.2 v rfl) (fun _ u2 k2=>wpAny_bind (wpAny_mono k2 (fun _ u3 k3=>wpAny_bind (wpAny_mono k3 (fun ok u4 k4=>?_) fun _ _ z=>z.elim)) fun _ _ z=>z.elim)) fun _ _ z=>z.elim)
    cases ok with
    | false=>rw [if_neg Bool.false_ne_true] at k4;exact wpAny_pure ⟨rfl,k4⟩
    | true=>
      rw [if_pos rfl] at k4
      refine wpAny_bind (wpAny_bind (wpAny_mono k4 (fun x u5 k5=>wpAny_bind (wpAny_mono k5 (fun _ u6 k6=>?_) fun _ _ z=>z.elim)) fun _ _ z=>z.elim));exact wpAny_pure (wpAny_pure ⟨rfl,k6⟩)
def dC(cp:List (Nat × Str))(nT:Nat)(σ:L2.St):L2.St:=cp.map (fun p=>(σ[p.1]?).join)++List.replicate nT none
structure ur (cp:List (Nat × Str)) (nT:Nat) (wi:TI) (g:TG) (tc:TT) (te:TE) (σ:L2.St) (H:Hp) (Q:VK):Prop where
  go:wi σ H fun J H1=>∀l,H1 l=none→
  ∃W:Nat→Nat→L2.St→Hp→Prop,(∃m,W 0 m (dC cp nT σ) (aV H1 l (.lst [])))∧∀i m σ' H',W i m σ' H'→
    (J.stop i H'∧Q (.ref l) H')∨(J.go i H'∧∃N:L2.St→Hp→Prop,(∀σ2 H2,N σ2 H2→∃m',m' < m∧W (i+1) m' σ2 H2)∧
      ∀x H2,J.yld i H' x H2→g x σ' H2 fun σ2 H3=>tc σ2 H3 fun b H4=>if b=true then te σ2 H4 fun v H5=>∃ys,H5 l=some (.lst ys)∧ys.length < sizeLine∧N σ2 (aV H5 l (.lst (ys++[v]))) else N σ2 H4)
theorem zN{X:Cx}{elt iter tg:Expr}{ifs:List Expr}{scope:Scope}{pos:Pos}{wi:TI}{g:TG}{tc:TT}{te:TE}(sc0:Scope)(N0:List Str)(cp:List (Nat × Str))(tgN:List Str)
    (hc:X.calm=true)(hsc:X.env.scope=sc0)(hN0:X.N=N0)(hi:PI X tg iter wi)
    (hg:∀C s0 H0 fp,PG (ao X scope cp tgN C s0 H0 fp) tg g)
    (ht:∀C s0 H0 fp,rM (ao X scope cp tgN C s0 H0 fp) ifs tc)
    (he:∀C s0 H0 fp,PE (ao X scope cp tgN C s0 H0 fp) elt te)
    (hk:scope.kind=.function)(hcell:∀y∈scope.names,y.2≠.cell)(hnames:∀y∈scope.names,y.2=.local→scope.names.lookup y.1=some .local)
    (hfr:∀y∈scope.names,y.2=.free→scope.names.lookup y.1=some .free∧sc0.names.lookup y.1=some .cell)
    (hcp:∀p∈cp,N0[p.1]?=some p.2)(hcq:∀p∈cp,sc0.names.lookup p.2=some .cell∧scope.names.lookup p.2=some .free)
    (hs:∀x,foldedSetIterable iter X.env x=pure x:=by intro _;rfl):
    PE X (.ListComp elt [⟨tg,iter,ifs,0⟩] scope pos) (ur cp tgN.length wi g tc te):=by
  intro pins s σ H Q I h
  have hkind:∀x,X.env.kindOf x=sc0.names.lookup x:=fun x=>by unfold Env.kindOf;rw [hsc]
  have hfree:∀y∈scope.names,y.2=.free→∃c,X.env.cells.lookup y.1=some c:=fun y hy e=>I.ok.has y.1 (.inl (by rw [hkind];exact(hfr y hy e).2))
  rw [eval_ListComp]
  refine wpAny_comprehension_free (use:=none) rfl hs (jx hfree) hk hnames (wpAny_mono (hi pins s σ H _ I h.go) (fun xv s₁ h₁=>wpAny_mono h₁ (fun itv s₂ h₂=>?_) fun _ _ e=>e) fun _ _ e=>e)
  obtain⟨it,fp,tn,J,H2,rfl,I2,T,st2,f2,hq⟩:=h₂
  refine wpAny_newObj_type ?_
  have hlF:H2 s₂.heap.objs.size=none:=I2.hok.fresh (Nat.le_refl _)
  have I3:ay X pins σ (aV H2 s₂.heap.objs.size (.lst [])) {s₂ with heap:=s₂.heap.push {cls:=.type "list",data:=.seq ([]:List Value).toArray}}:=I2.lnew (t':=s₂.toks) .nil (Nat.zero_le _)
  obtain⟨W,⟨m0,w0⟩,turn⟩:=hq _ hlF
  have f3:∀b∈fp,iL X pins (aV H2 s₂.heap.objs.size (.lst [])) b:=fun b hb=>by
    obtain⟨f0,fr⟩:=f2 b hb
    obtain⟨o,ho,_⟩:=T.obj _ _ st2 b hb
    exact⟨by rw [aB (Nat.ne_of_lt (Heap.lt_size ho))];exact f0,fr⟩
  have st3:tn 0 (s₂.heap.push {cls:=.type "list",data:=.seq ([]:List Value).toArray}):=T.keep _ _ _ st2 fun b _ o e=>Heap.get?_push_of_some _ e
  generalize hD:s₂.heap.objs.size=D at*
  generalize hs3:({s₂ with heap:=s₂.heap.push {cls:=.type "list",data:=.seq ([]:List Value).toArray}}:Shared)=s₃ at*
  have hst3:tn 0 s₃.heap:=by rw [←hs3];exact st3
  refine wpAny_newFunctionEnv hcell (by intro y hy;simp at hy) (fun h₁ hns₁ hsb₁=>?_) hk
  generalize hC:s₃.heap.objs.size=C at*
  have old:∀b o,s₃.heap.get? b=some o→h₁.get? b=some o:=fun b o e=>hsb₁.extBut b o (by rw [←hC];exact Nat.ne_of_lt (Heap.lt_size e)) (Heap.get?_push_of_some _ e)
  have nC:∀b o,s₃.heap.get? b=some o→b≠C:=fun b o e=>by rw [←hC];exact Nat.ne_of_lt (Heap.lt_size e)
  have hHC:(aV H2 D (.lst [])) C=none:=I3.hok.fresh (by rw [hC];exact Nat.le_refl _)
  have clS:∀x c,(fM X.env scope.names []).lookup x=some c→X.env.cells.lookup x=some c:=fun x c e=>ic _ _ x c hfree (fun _ _ z=>by simp at z) e
  have clH:∀x,(∃y∈scope.names,y.1=x∧y.2=.free)→∃c,(fM X.env scope.names []).lookup x=some c:=fun x e=>jT _ _ x (.inl e)
  have ok':(ao X scope cp tgN C s₃ (aV H2 D (.lst [])) fp).Ok:=by
    refine⟨I.ok.mod,hk,I.ok.glob,I.ok.blt,by rw [←hC];exact Nat.le_refl _,fun x y c e1 e2=>I.ok.inj x y c (clS _ _ e1) (clS _ _ e2),fun x e=>clH x (b_ hcell e),fun x c e1 e2=>?_,I.ok.hd,I.ok.frames,.inl rfl,fun b hb=>?_,fun b o e=>I3.bs b o e,?_,fun b o e hb=>?_,fun b hb z=>?_,I3.stack,fun b hb=>I3.stkFree b hb⟩
    · exfalso
      have e1':scope.names.lookup x=some .local:=by simpa [ao] using e1
      have e2':=clS x c e2
      obtain⟨c',hc'⟩:∃y∈scope.names,y.1=x∧y.2=.free:=by
        by_cases q:∃y∈scope.names,y.1=x∧y.2=.free
        · exact q
        · exfalso
          have:∀(names:List (Str × NameKind)) (cs:List (Str × Addr)),(¬∃y∈names,y.1=x∧y.2=.free)→cs.lookup x=none→(fM X.env names cs).lookup x=none:=by
            intro names
            induction names with
            | nil=>intro cs _ h;exact h
            | cons y r ih=>
              intro cs hn hcs
              obtain⟨n,k⟩:=y
              refine ih _ (fun⟨y,hy,z⟩=>hn ⟨y,List.mem_cons_of_mem _ hy,z⟩) ?_
              by_cases hk:(k==NameKind.free)=true
              · rw [if_pos hk,List.lookup_cons]
                cases hx:x==n with
                | true=>exact absurd ⟨(n,k),List.mem_cons_self,(by simpa using hx:x=n).symm,by simpa using hk⟩ hn
                | false=>exact hcs
              · rw [if_neg hk];exact hcs
          have z:=this scope.names [] q rfl
          have e2'':(fM X.env scope.names []).lookup x=some c:=e2
          rw [z] at e2'';cases e2''
      have z:=(hfr c' hc'.1 hc'.2.2).1
      rw [hc'.2.1,e1'] at z;cases z
    · obtain⟨f0,f1,f4,f5,f6,f7⟩:=f3 b hb
      obtain⟨o,ho,_⟩:=T.obj _ _ hst3 b hb
      exact⟨nC b o ho,fun x c e=>f6 x c (clS x c e)⟩
    · exact Nat.le_trans I.ok.bsz I3.sz
    · obtain⟨f0,f1,f4,f5,f6,f7⟩:=f3 b hb
      rcases f5 with z | z
      · exact I.ok.noex b o e z
      · have:=(I.ok.bs b o e).1
        exact absurd (Nat.lt_of_lt_of_le (Heap.lt_size this) z) (Nat.lt_irrefl _)
    · obtain⟨f0,f1,f4,f5,f6,f7⟩:=f3 b hb
      rcases List.mem_cons.mp (I3.stkSub b z) with z | z
      · exact f1 z
      · exact f4 z
  have I4:ay (ao X scope cp tgN C s₃ (aV H2 D (.lst [])) fp) [] (dC cp tgN.length σ) (aV H2 D (.lst [])) {s₃ with heap:=h₁,toks:=s₃.toks+([]:List (Str × Value)).length}:=by
    refine⟨ok',rfl,I3.bare,Un.kept old,⟨_,hns₁,fun i x v e1 e2 e3=>?_⟩,fun x c e=>?_,hHC,fun x c e=>I3.freeC x c (clS x c e),fun p hp=>by simp [ao] at hp,I3.hok.kept old,by simp [dC,ao]⟩
    · have hlt:i < cp.length:=by
        by_cases q:i < cp.length
        · exact q
        · exfalso
          unfold dC at e2
          rw [List.getElem?_append_right (by simp;lia)] at e2
          rw [List.getElem?_replicate] at e2
          split at e2<;>cases e2
      have e1':(cp.map (·.2))[i]?=some x:=by
        have e1'':(cp.map (·.2)++tgN)[i]?=some x:=e1
        rwa [List.getElem?_append_left (by simp;exact hlt)] at e1''
      have e2':(cp.map (fun p=>(σ[p.1]?).join))[i]?=some (some v):=by
        unfold dC at e2
        rwa [List.getElem?_append_left (by simp;exact hlt)] at e2
      rw [List.getElem?_map,List.getElem?_eq_getElem hlt] at e1' e2'
      have ex:(cp[i]).2=x:=by simpa using e1'
      have ev:(σ[(cp[i]).1]?).join=some v:=by simpa using e2'
      have ev':σ[(cp[i]).1]?=some (some v):=by
        cases q:σ[(cp[i]).1]? with
        | none=>rw [q] at ev;cases ev
        | some z=>rw [q] at ev;simp only [Option.join_some] at ev;rw [ev]
      have hN:=hcp cp[i] (List.getElem_mem hlt)
      rw [←hN0] at hN
      obtain⟨hcl,hcf⟩:=hcq cp[i] (List.getElem_mem hlt)
      rw [ex] at hN hcl hcf
      obtain⟨m,hn,hl⟩:=I3.loc
      obtain⟨u,r,l⟩:=hl _ x v hN ev' (.inr (.inl (by rw [hsc];exact hcl)))
      refine⟨u,r,.inr ?_⟩
      rcases l with ⟨k1,_⟩ | ⟨k1,c,hcc,o,ho,hd⟩
      · rw [hkind,hcl] at k1;cases k1
      · have e3':(relabel scope X.env).names.lookup x=some .local∨(relabel scope X.env).names.lookup x=some .cell∨(relabel scope X.env).names.lookup x=some .free:=e3
        have nl:(relabel scope X.env).names.lookup x=some .cell∨(relabel scope X.env).names.lookup x=some .free:=by
          rcases e3' with z | z | z
          · exact absurd z (dq hcf)
          · exact .inl z
          · exact .inr z
        obtain⟨c',hc'⟩:=clH x (b_ hcell nl)
        have:=clS x c' hc'
        rw [hcc] at this;cases this
        exact⟨nl,c,hc',o,old c o ho,hd⟩
    · obtain⟨v,o,ho,hd⟩:=I3.cell x c (clS x c e)
      exact⟨v,o,old c o ho,hd⟩
  have hst4:tn 0 h₁:=T.keep _ _ _ hst3 fun b _ o e=>old b o e
  have loop:codeAny (model X.prog X.w) X.A (.compLoop (.ListComp elt [⟨tg,iter,ifs,0⟩] scope pos) 0 (.ref it) (.ref D) (compEnvC scope (fM X.env scope.names []) C X.env))
      (compPost (model X.prog X.w) X.A X.xe none (EP X pins σ Q) (.ref D) C) {s₃ with heap:=h₁,toks:=s₃.toks+([]:List (Str × Value)).length}:=by
    refine jV (fun n s'=>∃i σ' H',ay (ao X scope cp tgN C s₃ (aV H2 D (.lst [])) fp) [] σ' H' s'∧tn i s'.heap∧(∀b∈fp,H' b=none)∧W i n σ' H') ?_ (n0:=m0) ⟨0,_,_,I4,hst4,fun b hb=>(f3 b hb).1,w0⟩
    rintro n s5 ⟨i,σ5,H5,I5,st5,fr5,w5⟩
    have stat:∀{H':Hp},(∀b∈fp,H' b=none)→∀b∈fp,iL (ao X scope cp tgN C s₃ (aV H2 D (.lst [])) fp) [] H' b:=fun hn b hb=>
      ⟨hn b hb,(ok'.exf b hb).1,ok'.exfs b hb,.inl hb,(ok'.exf b hb).2,fun p hp=>by simp [ao] at hp⟩
    rcases turn i n σ5 H5 w5 with ⟨stop,qn⟩ | ⟨go,N,hN,step⟩
    · refine bG (T.done (ao X scope cp tgN C s₃ (aV H2 D (.lst [])) fp) rfl rfl rfl hc i [] s5 σ5 H5 (fun _ _=>False) I5 (stat fr5) st5 stop) fun r s6 ⟨hr,I6⟩=>?_
      subst hr
      refine⟨fun _=>?_,fun v z=>by cases z⟩
      obtain⟨m,hn,_⟩:=I6.loc
      refine⟨m,hn,fun h' sb=>⟨.ref D,H5,?_,rfl,qn⟩⟩
      have ub:=I6.base
      have kp:∀b u,b≠C→s6.heap.get? b=some u→h'.get? b=some u:=fun b u ne e=>sb.extBut b u ne e
      have nit:∀b u,H5 b=some u→b≠C:=fun b u e z=>by
        have:=I6.free
        rw [z] at e
        rw [show H5 C=none from this] at e;cases e
      refine I3.call' (s':={s6 with heap:=h'}) (ch:=fp) I6.os ⟨fun b o e n hb hx=>kp b o (nC b o e) (ub.keep b o e n hb hx),fun b o e n hb hx=>?_,ub.free,fun b o e hx=>?_,ub.tups,ub.frzs,ub.tbls⟩ (fun b u e=>?_) I6.bare (fun b hb=>?_)
      · obtain⟨sl,q⟩:=ub.slot b o e n hb hx
        exact⟨sl,kp b _ (nC b o e) q⟩
      · obtain⟨o',q⟩:=ub.there b o e hx
        exact⟨o',kp b _ (nC b o e) q⟩
      · refine(I6.hok b u e).stay (fun c v hc q=>kp c v ?_ q) (fun _ q=>q) fun _ _ q=>q
        rcases hc with z | z
        · rw [z];exact nit b u e
        · exact nit c _ z
      · obtain⟨f0,f1,f4,f5,f6,f7⟩:=f3 b hb
        exact⟨f5,f1,f6,f7⟩
    · refine bG (T.item (ao X scope cp tgN C s₃ (aV H2 D (.lst [])) fp) rfl rfl rfl hc i [] s5 σ5 H5 (fun _ _=>False) I5 (stat fr5) st5 go) fun r s6 ⟨u,hr,h6⟩=>?_
      subst hr
      refine⟨fun z=>(by cases z),fun v z=>?_⟩
      cases z
      refine bG h6 fun _ s7 ⟨x,H7,I7,r7,y7,st7,fr7⟩=>?_
      have I7':=I7.pinned (stat fr7) (T.obj _ _ st7)
      have again:∀{σ8:L2.St} {H8:Hp} {s8:Shared},ay (ao X scope cp tgN C s₃ (aV H2 D (.lst [])) fp) ([]++i6 fp s7.heap) σ8 H8 s8→N σ8 H8→∃m,m < n∧∃i σ' H',ay (ao X scope cp tgN C s₃ (aV H2 D (.lst [])) fp) [] σ' H' s8∧tn i s8.heap∧(∀b∈fp,H' b=none)∧W i m σ' H':=fun{σ8 H8 s8} I8 n8=>by
        obtain⟨m',hm,w8⟩:=hN σ8 H8 n8
        refine⟨m',hm,i+1,σ8,H8,I8.unpinned,T.keep _ _ _ st7 fun b hb o e=>(I8.pin (b,o) (List.mem_append_right _ (List.mem_append_right _ (bP hb e)))).1,fun b hb=>?_,w8⟩
        obtain⟨o,e,d⟩:=T.obj _ _ st7 b hb
        exact(I8.pin (b,o) (List.mem_append_right _ (List.mem_append_right _ (bP hb e)))).2.1
      refine bG (hg C s₃ (aV H2 D (.lst [])) fp _ s7 σ5 H7 x u _ I7' r7 (step x H7 y7)) fun _ s8 ⟨σ8,H8,I8,q8⟩=>?_
      refine bG (ht C s₃ (aV H2 D (.lst [])) fp _ s8 σ8 H8 _ I8 q8) fun ok s9 ⟨H9,I9,q9⟩=>?_
      cases ok with
      | false=>
        rw [if_neg Bool.false_ne_true] at q9 ⊢
        exact again I9 q9
      | true=>
        rw [if_pos rfl] at q9 ⊢
        refine bG (he C s₃ (aV H2 D (.lst [])) fp _ s9 σ8 H9 _ I9 q9) fun v s10 ⟨xv,H10,I10,r10,ys,hl,hz,n10⟩=>?_
        refine bG (jk _ s10 σ8 H10 (.ref D) [xv] (.ref D) [v] (fun _ H=>N σ8 H) I10 rfl (.cons r10 .nil) ⟨D,ys,xv,rfl,rfl,hl,hz,n10⟩) fun _ s11 ⟨_,H11,I11,_,q11⟩=>?_
        exact again I11 q11
  exact codeAny_compStart_list loop (T.self X.A 0 _ _ _ hst4 loop)
end L2
namespace L2
open PySem PySem.Spec PyProof.Rows
section
variable{X:Cx}
def x_(K:PySem.W.Frag):R2:=fun x y H Q=>∃a b xs ys,x=.ref a∧y=.ref b∧cW K H a xs∧cW K H b ys∧xs.length+ys.length≤sizeLine∧∀p H',av H H'→cW K H' p (xs++ys)→Q (.ref p) H'
theorem zD:gK X (binaryOp .Add) (x_ X.K):=by
  intro pins s σ H x y v u Q I rx ry h
  obtain⟨a,b,xs,ys,rfl,rfl,ha,hb,hz,q⟩:=h
  cases rx;cases ry
  by_cases hx:xs=[]
  · obtain⟨i1,r1,p1,_⟩:=I.tuple ha
    obtain⟨i2,r2,p2,_⟩:=I.tuple hb
    obtain⟨m,F⟩:=I.fr
    have e1:i1=[]:=by subst hx;cases r1;rfl
    refine add_tuples F (xl (g:=X.base)) p1 p2 (fun _=>?_) (fun z1 _=>absurd e1 z1) (fun z1 _ _ _ _=>absurd e1 z1) (by rw [←r1.length,←r2.length];exact hz)
    exact⟨.ref b,H,I,rfl,q b H (av.refl H) (by rw [hx];exact hb)⟩
  · exact zE pins s σ H (.ref a) (.ref b) _ _ Q I rfl rfl ⟨a,b,xs,ys,rfl,rfl,ha,hb,hx,hz,fun z=>q a H (av.refl H) (by rw [z,List.append_nil];exact ha),fun _ p hp=>q p _ (av.new hp) (cW.of ax)⟩
theorem k9{x:V}{us:List Value}(r:aH [x] us):∃u,us=[u]∧a_ x u:=by
  cases r with
  | cons p p'=>cases p';exact⟨_,rfl,p⟩
end
end L2
namespace L2
open PySem PySem.Spec PyProof.Rows
section
variable{X:Cx}
end
theorem vw{e:Expr}{es:List Expr}{env:Env}(h:PySem.W.isStarred e=false):starEach (e::es) env=(false,eval e env)::starEach es env:=by
  cases e<;>first | rfl | cases h
theorem ED{X:Cx}{e:Expr}{es:List Expr}{te:TE}{t:TA}(ha:PE X e te)(hr:PA X es t)(h:PySem.W.isStarred e=false:=by rfl):PA X (e::es) (rp te t):=jl ha hr (vw h)
def uu:List (Int × Int)→TA
  | []=>Do
  | p::r=>rp (Fv (rp (tC (.int p.1)) (rp (tC (.int p.2)) Do))) (uu r)
@[irreducible] def GK(ps:List (Int × Int)):TA:=uu ps
structure gL where
  one:Int
  other:Int
  top:Int
  bot:Int
  worth:Int
structure bj where
  things:Int
  ties:List gL
  pat:List Int
  asks:Int
structure gL.Ok (n:Int) (t:gL):Prop where
  o0:0≤t.one
  o1:t.one < t.other
  o2:t.other < n
  c0:0≤t.top
  c1:t.top≤t.bot
  b0:1≤t.bot
  b1:t.bot≤100
  w0:0≤t.worth
  w1:t.worth≤1000
  cop:Int.gcd t.top t.bot=1
structure bj.Ok (w:bj):Prop where
  t0:0≤w.things
  t1:w.things≤12
  ties:∀t∈w.ties,t.Ok w.things
  len:w.ties.length≤16
  pl:(w.pat.length:Int)=w.things
  pat:∀p∈w.pat,0≤p∧p≤20
  a0:0≤w.asks
  a1:w.asks≤40
def DS(K:PySem.W.Frag)(H:Hp)(v:V)(t:gL):Prop:=∃p q,v=.ref p∧cW K H p [.int t.one,.int t.other,.ref q,.int t.worth]∧cW K H q [.int t.top,.int t.bot]
inductive oT (K:PySem.W.Frag) (H:Hp):List V→List gL→Prop
  | nil:oT K H [] []
  | cons {v vs t ts}:DS K H v t→oT K H vs ts→oT K H (v::vs) (t::ts)
structure GW (K:PySem.W.Frag) (H:Hp) (v:V) (w:bj):Prop where
  ex:∃a b c ts,v=.ref a∧cW K H a [.int w.things,.ref b,.ref c,.int w.asks]∧cW K H b ts∧oT K H ts w.ties∧cW K H c (w.pat.map V.int)
section
variable{K:PySem.W.Frag}{H H':Hp}
end
theorem r_{t b:Int}(hb:0 < b)(h0:0≤t)(h1:t≤b)(h2:b≤100):0≤(eO t b).1∧(eO t b).1≤(eO t b).2∧1≤(eO t b).2∧(eO t b).2≤100:=by
  obtain⟨d,e1,e2,e3,e4,e5⟩:=ox (t:=t) (b:=b) (by lia)
  generalize (eO t b).1=x at*
  generalize (eO t b).2=y at*
  have dp:0 < d:=by
    rcases Int.lt_or_gt_of_ne e2 with z | z
    · exfalso
      have:y*d < 0:=Int.mul_neg_of_pos_of_neg e5 z
      lia
    · exact z
  have x0:0≤x:=by
    rcases Int.lt_or_le x 0 with z | z
    · have:x*d < 0:=Int.mul_neg_of_neg_of_pos z dp
      lia
    · exact z
  have xy:x≤y:=by
    rcases Int.lt_or_le y x with z | z
    · have:y*d < x*d:=Int.mul_lt_mul_of_pos_right z dp
      lia
    · exact z
  have yb:y≤y*d:=by
    have:=Int.mul_le_mul_of_nonneg_left (show(1:Int)≤d by lia) (show 0≤y by lia)
    lia
  exact⟨x0,xy,by lia,by lia⟩
end L2
namespace L2
open PySem PySem.Spec PyProof.Rows
inductive lV {α β:Type} (R:α→β→Prop):List α→List β→Prop
  | nil:lV R [] []
  | cons {a b as bs}:R a b→lV R as bs→lV R (a::as) (b::bs)
namespace lV
variable{α β:Type}{R S:α→β→Prop}
theorem mono(h:∀a b,R a b→S a b):∀{as:List α} {bs:List β},lV R as bs→lV S as bs
  | _,_,.nil=>.nil
  | _,_,.cons x r=>.cons (h _ _ x) (mono h r)
theorem len:∀{as:List α} {bs:List β},lV R as bs→as.length=bs.length
  | _,_,.nil=>rfl
  | _,_,.cons _ r=>by simp [len r]
theorem snoc{a:α}{b:β}(h:R a b):∀{as:List α} {bs:List β},lV R as bs→lV R (as++[a]) (bs++[b])
  | _,_,.nil=>.cons h .nil
  | _,_,.cons x r=>.cons x (snoc h r)
theorem get:∀{as:List α} {bs:List β} {i:Nat} {b:β},lV R as bs→bs[i]?=some b→∃a,as[i]?=some a∧R a b
  | _,_,_,_,.nil,e=>by simp at e
  | _,_,0,_,.cons x _,e=>by simp at e;subst e;exact⟨_,rfl,x⟩
  | _,_,i+1,b,.cons _ r,e=>by
    obtain⟨v,h1,h2⟩:=get (i:=i) (b:=b) r (by simpa using e)
    exact⟨v,by simpa using h1,h2⟩
end lV
section
variable{K:PySem.W.Frag}{a l:Addr}{xs:List V}{g:TG}{tc:TT}{te:TE}{Q:VK}{σ:L2.St}{H:Hp}{α β:Type}{us:List α}{cp:List (Nat × Str)}{nT:Nat}
def FL(aY:Hp→V→β→Prop)(SI:L2.St→Prop)(us:List α)(f:α→Option β)(H:Hp)(l:Addr)(i:Nat)(σ:L2.St)(H':Hp):Prop:=SI σ∧av H H'∧∃vs,H' l=some (.lst vs)∧vs.length≤i∧lV (aY H') vs ((us.take i).filterMap f)
end
def rl(ns:List Int):List Int:=ns.mergeSort
theorem mX(ns:List Int):(rl ns).Perm ns:=List.mergeSort_perm ns _
theorem DN{ns:List Int}{x:Int}:x∈rl ns↔ x∈ns:=(mX ns).mem_iff
theorem DM(ns:List Int):(rl ns).length=ns.length:=(mX ns).length_eq
section
variable{X:Cx}{K:PySem.W.Frag}{pos:Pos}
theorem zR{es:List Expr}{k:Nat}{t:yK}{n:Nat}(hK:X.K=K)(hc:X.calm=true)(h:vM X es t)(hn:(assignEach es X.env).length=n:=by rfl)(hst:(assignEach es X.env).findIdx? (·.1)=none:=by rfl):PG X (.Tuple es k pos) (zg K n t):=hK ▸ CS hc h hn hst
theorem zU{tg l:Expr}{tl:TE}(h:X.K=K)(hl:PE X l tl):PI X tg l (Eh K tl):=h ▸ CT hl
theorem xJ{tg l:Expr}{tl:TE}(h:X.K=K)(hl:PE X l tl):PI X tg l (Bg K tl):=h ▸ zT hl
end
instance:Inhabited gL:=⟨⟨0,1,1,1,0⟩⟩
def bj.tie(W:bj)(k:Int):gL:=W.ties.getD k.toNat default
def bj.has(W:bj)(k thing:Int):Bool:=(W.tie k).one==thing || (W.tie k).other==thing
def bj.many(W:bj)(asked:List Int)(thing:Int):Int:=((asked.filter fun k=>W.has k thing).length:Nat)
def bj.bears(W:bj)(asked taken:List Int)(thing:Int):Bool:= !taken.contains thing&&decide (W.many asked thing < W.pat.getD thing.toNat 0)
def bj.may(W:bj)(asked taken:List Int)(k:Int):Bool:= !(asked.contains k || decide (W.asks≤(asked.length:Int)))&&(W.bears asked taken (W.tie k).one&&W.bears asked taken (W.tie k).other)
def bj.askd(asked:List Int)(k:Int):List Int:=rl (asked++[k])
def bj.took(W:bj)(taken:List Int)(k:Int)(truth:Bool):List Int:=if truth then rl (taken++[(W.tie k).one,(W.tie k).other]) else taken
def bj.rng(W:bj):List Int:=(List.range W.ties.length).map Int.ofNat
def uG(W:bj)(k:Int):Prop:=0≤k∧k < (W.ties.length:Int)
theorem uG.get{W:bj}{k:Int}(h:uG W k):W.ties[k.toNat]?=some (W.tie k):=by
  have hk:k.toNat < W.ties.length:=by have:=h.1;have:=h.2;lia
  unfold bj.tie
  rw [List.getD_eq_getElem?_getD,List.getElem?_eq_getElem hk];rfl
theorem uG.ok{W:bj}{k:Int}(h:uG W k)(o:W.Ok):(W.tie k).Ok W.things:=o.ties _ (List.mem_of_getElem? h.get)
theorem FX{W:bj}{k:Int}:k∈W.rng↔ uG W k:=by
  unfold bj.rng uG
  rw [List.mem_map]
  constructor
  · rintro⟨n,hn,rfl⟩
    have:=List.mem_range.mp hn
    exact⟨Int.natCast_nonneg n,by simp;lia⟩
  · rintro⟨h0,h1⟩
    exact⟨k.toNat,List.mem_range.mpr (by lia),by simp;lia⟩
def BJ(K:PySem.W.Frag)(H:Hp)(v:V)(asked taken:List Int):Prop:=∃a b c,v=.ref a∧cW K H a [.ref b,.ref c]∧cW K H b (asked.map V.int)∧cW K H c (taken.map V.int)
theorem BJ.ts{K:PySem.W.Frag}{H H':Hp}(s:lD H H'){v:V}{asked taken:List Int}(h:BJ K H v asked taken):BJ K H' v asked taken:=by
  obtain⟨a,b,c,e,h1,h2,h3⟩:=h
  exact⟨a,b,c,e,s.tup h1,s.tup h2,s.tup h3⟩
section
variable{K:PySem.W.Frag}{σ:L2.St}{H:Hp}{Q:VK}{i j:Nat}{vW:V}{W:bj}{k:Int}
end
def small(k:Int):Prop:= -1000000≤k∧k≤1000000
def Dk(n dep:Nat)(d:PyData):Prop:=d.showable=true∧mL d=true∧L2.cnt d≤n∧d.depth≤dep
theorem Dk.mono{n m dep e:Nat}{d:PyData}(h:Dk n dep d)(h1:n≤m)(h2:dep≤e):Dk m e d:=⟨h.1,h.2.1,Nat.le_trans h.2.2.1 h1,Nat.le_trans h.2.2.2 h2⟩
theorem Dk.int{k:Int}(h:small k):Dk 1 2 (.int k):=by
  refine⟨?_,rfl,Nat.le_refl _,by simp [PyData.depth]⟩
  show decide (k.natAbs.log2 < 1920)=true
  rw [decide_eq_true_eq]
  exact Nat.lt_trans ((show Bt 64 k by have:=h.1;have:=h.2;unfold Bt;lia).log (by decide)) (by decide)
theorem Dk.bool(b:Bool):Dk 1 2 (.bool b):=⟨rfl,rfl,Nat.le_refl _,by simp [PyData.depth]⟩
theorem Dk.none:Dk 1 2 .none:=⟨rfl,rfl,Nat.le_refl _,by simp [PyData.depth]⟩
theorem Dk.all{n dep:Nat}:∀{ds:List PyData},(∀d∈ds,Dk n dep d)→PyData.showableAll ds=true∧hV ds=true∧jy ds≤ds.length*n∧PyData.depthAll ds≤dep
  | [],_=>⟨rfl,rfl,by simp [jy],by simp [PyData.depthAll]⟩
  | d::r,h=>by
    obtain⟨a1,a2,a3,a4⟩:=h d (by simp)
    obtain⟨b1,b2,b3,b4⟩:=Dk.all (ds:=r) fun x hx=>h x (by simp [hx])
    refine⟨?_,?_,?_,?_⟩
    · simp only [PyData.showableAll,a1,b1,Bool.and_self]
    · simp only [hV,a2,b2,Bool.and_self]
    · simp only [jy,List.length_cons,Nat.succ_mul]
      lia
    · simp only [PyData.depthAll];lia
theorem Dk.tup{n dep m:Nat}{ds:List PyData}(h:∀d∈ds,Dk n dep d)(hl:ds.length≤m):Dk (1+m*n) (dep+2) (.tuple ds):=by
  obtain⟨b1,b2,b3,b4⟩:=Dk.all h
  refine⟨b1,b2,?_,?_⟩
  · simp only [L2.cnt]
    have:=Nat.mul_le_mul_right n hl
    lia
  · simp only [PyData.depth];lia
theorem Dk.ok{n dep:Nat}{d:PyData}(h:Dk n dep d)(h1:n≤8000)(h2:dep≤60):d.showable=true∧d.depth≤60∧d.shown.length≤sizeLine:=by
  have:=oG h.2.1 h.1
  have sl:sizeLine=16777216:=sizeLine_eq
  have:=h.2.2.1
  exact⟨h.1,Nat.le_trans h.2.2.2 h2,by lia⟩
theorem Dk.ints{ns:List Int}{m:Nat}(hl:ns.length≤m)(h:∀r∈ns,small r):Dk (1+m) 4 (.tuple (ns.map .int)):=by
  have:=Dk.tup (n:=1) (dep:=2) (m:=m) (ds:=ns.map PyData.int) (fun d hd=>by
    obtain⟨x,hx,rfl⟩:=List.mem_map.mp hd
    exact Dk.int (h x hx)) (by rw [List.length_map];exact hl)
  simpa using this
section
variable{K:PySem.W.Frag}{H:Hp}
theorem Dk.bools{ns:List Bool}{m:Nat}(hl:ns.length≤m):Dk (1+m) 4 (.tuple (ns.map .bool)):=by
  have:=Dk.tup (n:=1) (dep:=2) (m:=m) (ds:=ns.map PyData.bool) (fun d hd=>by
    obtain⟨x,hx,rfl⟩:=List.mem_map.mp hd
    exact Dk.bool x) (by rw [List.length_map];exact hl)
  simpa using this
def au(t:gL):PyData:=.tuple [.int t.one,.int t.other,.tuple [.int t.top,.int t.bot],.int t.worth]
def aQ(W:bj):PyData:=.tuple [.int W.things,.tuple (W.ties.map au),.tuple (W.pat.map .int),.int W.asks]
def HF(asked taken:List Int):PyData:=.tuple [.tuple (asked.map .int),.tuple (taken.map .int)]
end
end L2
namespace L2
open PySem PySem.Spec PyProof.Rows
theorem rT:∀{bs:List Bool} {us:List Value} {i:Nat} {v:Value},aH (bs.map V.bl) us→us[i]?=some v→∃b,bs[i]?=some b∧v=.bool b
  | [],us,i,v,r,e=>by cases r;simp at e
  | b::bs,us,i,v,r,e=>by
    cases r with
    | cons p q=>
      cases i with
      | zero=>simp at e;subst e;cases p;exact⟨b,rfl,rfl⟩
      | succ i=>
        obtain⟨c,h1,h2⟩:=rT (bs:=bs) (i:=i) (v:=v) q (by simpa using e)
        exact⟨c,by simpa using h1,h2⟩
theorem Aq(bs:List Bool):((List.range bs.length).all fun i=>(bs[i]?).getD true)=bs.all id:=by
  rw [Bool.eq_iff_iff,List.all_eq_true,List.all_eq_true]
  constructor
  · intro h b hb
    obtain⟨i,hi,rfl⟩:=List.getElem_of_mem hb
    have:=h i (List.mem_range.mpr hi)
    rw [List.getElem?_eq_getElem hi] at this
    exact this
  · intro h i hi
    have hi':=List.mem_range.mp hi
    rw [List.getElem?_eq_getElem hi']
    exact h _ (List.getElem_mem hi')
theorem Ar(bs:List Bool):((List.range bs.length).any fun i=>(bs[i]?).getD false)=bs.any id:=by
  rw [Bool.eq_iff_iff,List.any_eq_true,List.any_eq_true]
  constructor
  · rintro⟨i,hi,e⟩
    have hi':=List.mem_range.mp hi
    rw [List.getElem?_eq_getElem hi'] at e
    exact⟨_,List.getElem_mem hi',e⟩
  · rintro⟨b,hb,e⟩
    obtain⟨i,hi,rfl⟩:=List.getElem_of_mem hb
    refine⟨i,List.mem_range.mpr hi,?_⟩
    rw [List.getElem?_eq_getElem hi]
    exact e
section
variable{X:Cx}
theorem wc{k:Nat}{K:PySem.W.Frag}(hr:cX k X.A)(hK:X.K=K):dU X (.builtin "all") (fun xs H Q=>∃(l:Addr) (bs:List Bool),xs=[.ref l]∧gA K H l (bs.map V.bl)∧Q (.bl (bs.all id)) H):=by
  intro pins s σ H xs us Q I r h
  subst hK
  obtain⟨l,bs,rfl,hs,q⟩:=h
  obtain⟨u,rfl,ru⟩:=k9 r
  cases ru
  obtain⟨its,rv,p,hz⟩:=I.list hs
  have hl:=p.isList
  have lt:l < s.heap.objs.size:=by obtain⟨_,e,_⟩:=hl;exact Heap.lt_size e
  refine PySem.call_all_walk (wpAny_pyIter_list hl ?_)
  refine⟨s.heap.objs.size,[s.heap.objs.size,l],[s.heap.objs.size],its.toArray.size,_,_,fun i=>(bs[i]?).getD true,rfl,Walks.list (A:=X.A.in1) hr.hd _ l (Nat.ne_of_lt lt) its.toArray,⟨⟨_,Heap.get?_push_size _ rfl,rfl,rfl⟩,hl.push _⟩,fun i v s' Q' E' hP hQ=>?_,fun h' tk hk=>?_⟩
  · obtain⟨b,e,rfl⟩:=rT rv (by simpa using hP)
    simp only [e,Option.getD_some] at hQ
    exact wpAny_truthy_bool hQ
  · have e:its.toArray.size=bs.length:=by have:=rv.length;rw [List.length_map] at this;simpa using this.symm
    rw [e,Aq]
    refine⟨.bl (bs.all id),H,I.kept fun b x e=>hk b x (fun hm=>?_) (Heap.get?_push_of_some _ e),rfl,q⟩
    rw [List.mem_singleton.mp hm] at e
    exact Nat.lt_irrefl _ (Heap.lt_size e)
theorem wd{k:Nat}{K:PySem.W.Frag}(hr:cX k X.A)(hK:X.K=K):dU X (.builtin "any") (fun xs H Q=>∃(l:Addr) (bs:List Bool),xs=[.ref l]∧gA K H l (bs.map V.bl)∧Q (.bl (bs.any id)) H):=by
  intro pins s σ H xs us Q I r h
  subst hK
  obtain⟨l,bs,rfl,hs,q⟩:=h
  obtain⟨u,rfl,ru⟩:=k9 r
  cases ru
  obtain⟨its,rv,p,hz⟩:=I.list hs
  have hl:=p.isList
  have lt:l < s.heap.objs.size:=by obtain⟨_,e,_⟩:=hl;exact Heap.lt_size e
  refine PySem.call_any_walk (wpAny_pyIter_list hl ?_)
  refine⟨s.heap.objs.size,[s.heap.objs.size,l],[s.heap.objs.size],its.toArray.size,_,_,fun i=>(bs[i]?).getD false,rfl,Walks.list (A:=X.A.in1) hr.hd _ l (Nat.ne_of_lt lt) its.toArray,⟨⟨_,Heap.get?_push_size _ rfl,rfl,rfl⟩,hl.push _⟩,fun i v s' Q' E' hP hQ=>?_,fun h' tk hk=>?_⟩
  · obtain⟨b,e,rfl⟩:=rT rv (by simpa using hP)
    simp only [e,Option.getD_some] at hQ
    exact wpAny_truthy_bool hQ
  · have e:its.toArray.size=bs.length:=by have:=rv.length;rw [List.length_map] at this;simpa using this.symm
    rw [e,Ar]
    refine⟨.bl (bs.any id),H,I.kept fun b x e=>hk b x (fun hm=>?_) (Heap.get?_push_of_some _ e),rfl,q⟩
    rw [List.mem_singleton.mp hm] at e
    exact Nat.lt_irrefl _ (Heap.lt_size e)
end
end L2
namespace L2
theorem vZ:PySem.bootBuiltins "all"=some (.builtin "all"):=by decide+kernel
theorem v0:PySem.bootBuiltins "any"=some (.builtin "any"):=by decide+kernel
end L2
namespace L2
open PySem PySem.Spec PyProof.Rows
section
variable{prog:Program}{w:World}{A:Around}{E:Value→Shared→Prop}{s:Shared}
theorem yA{it t:Addr}{i:Nat}{ys}{x:Value}{Q:Value→Shared→Prop}(hi:s.heap.IsTupleIter it t i)(ht:s.heap.IsTuple t ys)(hx:ys[i]?=some x)
    (q:∀g,g.IsTupleIter it t (i+1)→Heap.SameBut it s.heap g→Q x {s with heap:=g}):wpAny (model prog w) A (Builtin.SmallTypes.nextOf (.ref it)) Q E s:=by
  obtain⟨o,ho,hc,hd⟩:=id hi;obtain⟨p,hp,_,n,hpd⟩:=ht;unfold Builtin.SmallTypes.nextOf
  refine wpAny_bind (wpAny_callSpecial?_slot (name:=Str.ofString "__next__") hi.typeIs F.slot_tuple_iterator_next (wpAny_call_entry F.slot_tuple_iterator_next hi.typeIs F.entry_tuple_iterator_next ?_ (F.args_tuple_iterator_next_1 _)))
  show wpAny _ _ (field (.ref it) 0 >>= _) _ _ s;refine wpAny_bind (wpAny_field ho hd (x:=.ref t) rfl ?_)
  show wpAny _ _ (if (Value.ref t==Value.none)=true then _ else _) _ _ s;rw [if_neg (show ¬((Value.ref t==Value.none)=true) from Bool.false_ne_true)]
  show wpAny _ _ (field (.ref it) 1 >>= _) _ _ s;refine wpAny_bind (wpAny_field ho hd (x:=.int i 0) rfl ?_)
  show wpAny _ _ (seqItems? (.ref t) >>= _) _ _ s;refine wpAny_bind (wpAny_seqItems hp hpd ?_)
  simp only [Int.toNat_natCast,hx];refine wpAny_bind (wpAny_setField ho hd (by simp) (wpAny_pure ⟨x,rfl,wpAny_pure (q _ ?_ (Heap.SameBut.update ..))⟩))
  refine⟨_,Heap.get?_update_self _ ho (Obj.isFreed_of_fields (Obj.data_mapFields hd _)),(Obj.cls_mapFields ..).trans hc,?_⟩;rw [Obj.data_mapFields hd];simp [rawInt]
theorem yz{it t:Addr}{i:Nat}{ys}{Q:Value→Shared→Prop}(hh:A.handled=none)(hi:s.heap.IsTupleIter it t i)(ht:s.heap.IsTuple t ys)(hx:ys[i]?=none)
    (q:∀g e,Heap.ExtBut it s.heap g→(∃o,g.get? e=some o∧o.cls=.type "StopIteration")→E (.ref e) {s with heap:=g}):wpAny (model prog w) A (Builtin.SmallTypes.nextOf (.ref it)) Q E s:=by
  obtain⟨o,ho,hc,hd⟩:=id hi;obtain⟨p,hp,_,n,hpd⟩:=ht;unfold Builtin.SmallTypes.nextOf
  refine wpAny_bind (wpAny_callSpecial?_slot (name:=Str.ofString "__next__") hi.typeIs F.slot_tuple_iterator_next (wpAny_call_entry F.slot_tuple_iterator_next hi.typeIs F.entry_tuple_iterator_next ?_ (F.args_tuple_iterator_next_1 _)))
  show wpAny _ _ (field (.ref it) 0 >>= _) _ _ s;refine wpAny_bind (wpAny_field ho hd (x:=.ref t) rfl ?_)
  show wpAny _ _ (if (Value.ref t==Value.none)=true then _ else _) _ _ s;rw [if_neg (show ¬((Value.ref t==Value.none)=true) from Bool.false_ne_true)]
  show wpAny _ _ (field (.ref it) 1 >>= _) _ _ s;refine wpAny_bind (wpAny_field ho hd (x:=.int i 0) rfl ?_)
  show wpAny _ _ (seqItems? (.ref t) >>= _) _ _ s;refine wpAny_bind (wpAny_seqItems hp hpd ?_)
  simp only [Int.toNat_natCast,hx];refine wpAny_bind (wpAny_rule (wpAny_bind (wpAny_setField ho hd (by simp) ?_)))
  show wpAny _ _ (newExc (.type "StopIteration") [] >>= _) _ _ _;refine wpAny_bind ?_;simp only [newExc,newTuple]
  refine wpAny_bind (wpAny_newObj_type ?_ (by size_fits));refine wpAny_bind (m:=firstArgMember _ _) (wpAny_of_eq (a:=Value.none) (by first | rfl | (simp only [firstArgMember];rfl)) ?_)
  refine wpAny_newObj_type ?_ (by size_fits);simp only [raiseNew];refine wpAny_bind (wpAny_handled ?_);first | rw [show A.in1.handled=none from hh] | rw [hh]
  refine wpAny_bind (wpAny_pure (wpAny_throw ?_));exact q _ _ (((Heap.SameBut.update ..).extBut.push _).push _) ⟨_,Heap.get?_push_size _ rfl,rfl⟩
end
structure Sc (prog:Program) (w:World) (it l:Addr) (St:Nat→Heap→Prop) (Sq:Heap→Array Value→Prop):Prop where
  stay:∀{k h h'},St k h→(∀o,h.get? it=some o→h'.get? it=some o)→St k h'
  live:∀{k h},St k h→∃o,h.get? it=some o∧∀v,o.data≠.cell v
  row:∀{h h' xs},Sq h xs→(∀o,h.get? l=some o→h'.get? l=some o)→Sq h' xs
  next:∀{A:Around} {s:Shared} {E:Value→Shared→Prop} {Q:Value→Shared→Prop} {k:Nat} {xs:Array Value} {x:Value},St k s.heap→Sq s.heap xs→xs[k]?=some x→(∀g,St (k+1) g→Heap.SameBut it s.heap g→Q x {s with heap:=g})→wpAny (model prog w) A (Builtin.SmallTypes.nextOf (.ref it)) Q E s
  last:∀{A:Around} {s:Shared} {E:Value→Shared→Prop} {Q:Value→Shared→Prop} {k:Nat} {xs:Array Value},A.handled=none→St k s.heap→Sq s.heap xs→xs[k]?=none→(∀g e,Heap.ExtBut it s.heap g→(∃o,g.get? e=some o∧o.cls=.type "StopIteration")→E (.ref e) {s with heap:=g})→wpAny (model prog w) A (Builtin.SmallTypes.nextOf (.ref it)) Q E s
theorem pU{prog:Program}{w:World}(it l:Addr):Sc prog w it l (fun k h=>h.IsTupleIter it l k) (fun h xs=>h.IsTuple l xs) where
  stay:=fun st k=>st.at fun o e=>k o e
  live:=fun st=>by
    obtain⟨o,e,c,d⟩:=st
    exact⟨o,e,fun v z=>by rw [d] at z;cases z⟩
  row:=fun q k=>by
    obtain⟨o,e,r⟩:=q
    exact⟨o,k o e,r⟩
  next:=fun st sq hx q=>yA st sq hx q
  last:=fun hh st sq hx q=>yz hh st sq hx q
structure nI (z TI TO i1 i2 l1 l2:Addr):Prop where
  a1:TO≠z
  a2:i1≠z
  a3:i2≠z
  a4:TO≠i1
  a5:TO≠i2
  a6:i1≠i2
  b1:l1≠z
  b2:l1≠TO
  b3:l1≠i1
  b4:l1≠i2
  c1:l2≠z
  c2:l2≠TO
  c3:l2≠i1
  c4:l2≠i2
section
variable{prog:Program}{w:World}{A:Around}{E:Value→Shared→Prop}{s:Shared}{z TI TO i1 i2 l1 l2:Addr}{k:Nat}{xs ys:Array Value}{a b:Value}{S1 S2:Nat→Heap→Prop}{R1 R2:Heap→Array Value→Prop}
theorem DB{x y:Value}{Q:Value→Shared→Prop}(P1:Sc prog w i1 l1 S1 R1)(P2:Sc prog w i2 l2 S2 R2)(D:nI z TI TO i1 i2 l1 l2)(hz:IsZip s.heap z TI TO .none)(hI:IsPair s.heap TI (.ref i1) (.ref i2))(hO:IsPair s.heap TO a b)(u1:S1 k s.heap)(u2:S2 k s.heap)(r1:R1 s.heap xs)(r2:R2 s.heap ys)(hx:xs[k]?=some x)(hy:ys[k]?=some y)
    (q:∀g,IsZip g z TI TO (rawInt s.heap.objs.size)→IsPair g TO x y→S1 (k+1) g→S2 (k+1) g→IsPair g s.heap.objs.size x y→g.objs.size=s.heap.objs.size+1→(∀c o,c≠z→c≠TO→c≠i1→c≠i2→s.heap.get? c=some o→g.get? c=some o)→Q (.ref s.heap.objs.size) {s with heap:=g}):
    wpAny (model prog w) A (Builtin.«zip.__next__» ⟨[.ref z],[]⟩) (fun f s'=>∃v,f=.done (.ret v)∧Q v s') E s:=by
  show wpAny _ _ (field (.ref z) 2 >>= _) _ _ _;refine wpAny_bind (wpAny_field hz rfl (x:=.bool false) rfl ?_)
  show wpAny _ _ (field (.ref z) 3 >>= _) _ _ _;refine wpAny_bind (wpAny_field hz rfl (x:=.ref TI) rfl ?_);refine wpAny_bind (wpAny_seqItems hI rfl ?_)
  show wpAny _ _ (Builtin.SmallTypes.ownedTupleIsFree (.ref z) >>= _) _ _ _;refine wpAny_bind ?_;unfold Builtin.SmallTypes.ownedTupleIsFree
  refine wpAny_bind (wpAny_field hz rfl (x:=.none) rfl (wpAny_pure ?_));simp only [if_true];refine wpAny_bind (wpAny_rule ?_)
  refine wpAny_bind (wpAny_field hz rfl (x:=.ref TO) rfl ?_);refine wpAny_bind (wpAny_setField_rec hz (by simp) fun g1 z1 e1=>?_)
  replace z1:IsZip g1 z TI TO .ellipsis:=z1;refine wpAny_bind ?_;simp only [List.zipIdx_cons,List.zipIdx_nil,List.forIn_cons,List.forIn_nil]
  refine wpAny_bind (wpAny_bind (wpAny_onRaise ?_));show wpAny _ _ (Builtin.SmallTypes.nextOf (.ref i1) >>= _) _ _ _
  refine wpAny_bind (P1.next (P1.stay u1 fun o e=>e1.extBut _ _ D.a2 e) (P1.row r1 fun o e=>e1.extBut _ _ D.b1 e) hx fun g2 v1 e2=>wpAny_pure ?_)
  have O2:IsPair g2 TO a b:=e2.extBut _ _ D.a4 (e1.extBut _ _ D.a1 hO)
  refine wpAny_bind (wpAny_seqItems O2 rfl ?_);refine wpAny_bind (wpAny_updateSeq_pair O2 fun g3 O3 e3=>?_);replace O3:IsPair g3 TO x b:=O3;refine wpAny_bind (wpAny_letGo (wpAny_pure ?_))
  refine wpAny_bind (wpAny_bind (wpAny_onRaise ?_));show wpAny _ _ (Builtin.SmallTypes.nextOf (.ref i2) >>= _) _ _ _
  have up3:∀c o,c≠z→c≠i1→c≠TO→s.heap.get? c=some o→g3.get? c=some o:=fun c o n1 n2 n3 e=>e3.extBut _ _ n3 (e2.extBut _ _ n2 (e1.extBut _ _ n1 e))
  refine wpAny_bind (P2.next (P2.stay u2 fun o e=>up3 _ _ D.a3 D.a6.symm D.a5.symm e) (P2.row r2 fun o e=>up3 _ _ D.c1 D.c3 D.c2 e) hy fun g4 v2 e4=>wpAny_pure ?_)
  have O4:IsPair g4 TO x b:=e4.extBut _ _ D.a5 O3
  refine wpAny_bind (wpAny_seqItems O4 rfl ?_);refine wpAny_bind (wpAny_updateSeq_pair O4 fun g5 O5 e5=>?_);replace O5:IsPair g5 TO x y:=O5;refine wpAny_bind (wpAny_letGo (wpAny_pure (wpAny_pure ?_)))
  refine wpAny_bind (wpAny_seqItems O5 rfl ?_);refine wpAny_bind (wpAny_newTuple ?_)
  have sz:g5.objs.size=s.heap.objs.size:=by rw [e5.1,e4.1,e3.1,e2.1,e1.1]
  have z5:IsZip g5 z TI TO .ellipsis:=e5.extBut _ _ D.a1.symm (e4.extBut _ _ D.a3.symm (e3.extBut _ _ D.a1.symm (e2.extBut _ _ D.a2.symm z1)))
  have k5:∀c o,c≠z→c≠TO→c≠i1→c≠i2→s.heap.get? c=some o→g5.get? c=some o:=fun c o n1 n2 n3 n4 e=>e5.extBut _ _ n2 (e4.extBut _ _ n4 (up3 c o n1 n3 n2 e))
  have w1:S1 (k+1) g5:=P1.stay v1 fun o e=>e5.extBut _ _ D.a4.symm (e4.extBut _ _ D.a6 (e3.extBut _ _ D.a4.symm e))
  have w2:S2 (k+1) g5:=P2.stay v2 fun o e=>e5.extBut _ _ D.a5.symm e
  have lz:z < g5.objs.size:=Heap.lt_size z5
  show wpAny _ _ (Builtin.SmallTypes.ownedTupleHandOut (.ref z) (.ref g5.objs.size) >>= _) _ _ _;refine wpAny_bind ?_;unfold Builtin.SmallTypes.ownedTupleHandOut
  have z6:IsZip (g5.push {cls:=.type "tuple",data:=.seq #[x,y]}) z TI TO .ellipsis:=Heap.get?_push_of_some _ z5
  refine wpAny_bind (wpAny_setField_rec z6 (by simp) fun g7 z7 e7=>?_);replace z7:IsZip g7 z TI TO (rawInt g5.objs.size):=z7
  refine wpAny_setField_rec z7 (by simp) fun g8 z8 e8=>?_;replace z8:IsZip g8 z TI TO (rawInt g5.objs.size):=z8
  have up:∀c o,c≠z→g5.get? c=some o→g8.get? c=some o:=fun c o n e=>e8.extBut _ _ n (e7.extBut _ _ n (Heap.get?_push_of_some _ e))
  have T8:IsPair g8 g5.objs.size x y:=e8.extBut _ _ (Nat.ne_of_gt lz) (e7.extBut _ _ (Nat.ne_of_gt lz) (Heap.get?_push_size _ rfl))
  have n8:g8.objs.size=g5.objs.size+1:=by rw [e8.1,e7.1,Heap.size_push]
  rw [sz] at z8 T8 n8;refine wpAny_pure ⟨_,rfl,?_⟩;show Q (.ref g5.objs.size) _;rw [sz]
  exact q g8 z8 (up _ _ D.a1 O5) (P1.stay w1 fun o e=>up _ o D.a2 e) (P2.stay w2 fun o e=>up _ o D.a3 e) T8 n8 fun c o n1 n2 n3 n4 e=>up c o n1 (k5 c o n1 n2 n3 n4 e)
theorem AK{Q:Fin→Shared→Prop}(hh:A.handled=none)(P1:Sc prog w i1 l1 S1 R1)(P2:Sc prog w i2 l2 S2 R2)(D:nI z TI TO i1 i2 l1 l2)(hz:IsZip s.heap z TI TO .none)(hI:IsPair s.heap TI (.ref i1) (.ref i2))(hO:IsPair s.heap TO a b)(u1:S1 k s.heap)(u2:S2 k s.heap)(r1:R1 s.heap xs)(r2:R2 s.heap ys)(hn:xs[k]?=none∨ys[k]?=none)
    (q:∀g e,(∀c o,c≠z→c≠TO→c≠i1→c≠i2→s.heap.get? c=some o→g.get? c=some o)→(∃o,g.get? e=some o∧o.cls=.type "StopIteration")→E (.ref e) {s with heap:=g}):
    wpAny (model prog w) A (Builtin.«zip.__next__» ⟨[.ref z],[]⟩) Q E s:=by
  show wpAny _ _ (field (.ref z) 2 >>= _) _ _ _;refine wpAny_bind (wpAny_field hz rfl (x:=.bool false) rfl ?_)
  show wpAny _ _ (field (.ref z) 3 >>= _) _ _ _;refine wpAny_bind (wpAny_field hz rfl (x:=.ref TI) rfl ?_);refine wpAny_bind (wpAny_seqItems hI rfl ?_)
  show wpAny _ _ (Builtin.SmallTypes.ownedTupleIsFree (.ref z) >>= _) _ _ _;refine wpAny_bind ?_;unfold Builtin.SmallTypes.ownedTupleIsFree
  refine wpAny_bind (wpAny_field hz rfl (x:=.none) rfl (wpAny_pure ?_));simp only [if_true];refine wpAny_bind (wpAny_rule ?_)
  refine wpAny_bind (wpAny_field hz rfl (x:=.ref TO) rfl ?_);refine wpAny_bind (wpAny_setField_rec hz (by simp) fun g1 z1 e1=>?_)
  replace z1:IsZip g1 z TI TO .ellipsis:=z1;refine wpAny_bind ?_;simp only [List.zipIdx_cons,List.zipIdx_nil,List.forIn_cons,List.forIn_nil]
  refine wpAny_bind (wpAny_bind (wpAny_onRaise ?_));show wpAny _ _ (Builtin.SmallTypes.nextOf (.ref i1) >>= _) _ _ _
  cases hx:xs[k]? with
  | none=>
    refine wpAny_bind (P1.last hh (P1.stay u1 fun o e=>e1.extBut _ _ D.a2 e) (P1.row r1 fun o e=>e1.extBut _ _ D.b1 e) hx fun g2 e e2 he=>?_)
    obtain⟨oe,h1,h2⟩:=he;have z2:IsZip g2 z TI TO .ellipsis:=e2 _ _ D.a2.symm z1
    have nz:e≠z:=fun x=>by subst x;rw [z2] at h1;cases h1;simp at h2
    refine wpAny_setField_rec z2 (by simp) fun g3 _ e3=>q g3 e (fun c o n1 _ n3 _ x=>e3.extBut _ _ n1 (e2 _ _ n3 (e1.extBut _ _ n1 x))) ⟨oe,e3.extBut _ _ nz h1,h2⟩
  | some x=>
    have hy:ys[k]?=none:=by
      rcases hn with h | h
      · rw [hx] at h;cases h
      · exact h
    refine wpAny_bind (P1.next (P1.stay u1 fun o e=>e1.extBut _ _ D.a2 e) (P1.row r1 fun o e=>e1.extBut _ _ D.b1 e) hx fun g2 v1 e2=>wpAny_pure ?_)
    have O2:IsPair g2 TO a b:=e2.extBut _ _ D.a4 (e1.extBut _ _ D.a1 hO)
    refine wpAny_bind (wpAny_seqItems O2 rfl ?_);refine wpAny_bind (wpAny_updateSeq_pair O2 fun g3 O3 e3=>?_);refine wpAny_bind (wpAny_letGo (wpAny_pure ?_))
    refine wpAny_bind (wpAny_bind (wpAny_onRaise ?_));show wpAny _ _ (Builtin.SmallTypes.nextOf (.ref i2) >>= _) _ _ _
    have up3:∀c o,c≠z→c≠i1→c≠TO→s.heap.get? c=some o→g3.get? c=some o:=fun c o n1 n2 n3 e=>e3.extBut _ _ n3 (e2.extBut _ _ n2 (e1.extBut _ _ n1 e))
    refine wpAny_bind (P2.last hh (P2.stay u2 fun o e=>up3 _ _ D.a3 D.a6.symm D.a5.symm e) (P2.row r2 fun o e=>up3 _ _ D.c1 D.c3 D.c2 e) hy fun g4 e e4 he=>?_)
    obtain⟨oe,h1,h2⟩:=he;have z4:IsZip g4 z TI TO .ellipsis:=e4 _ _ D.a3.symm (e3.extBut _ _ D.a1.symm (e2.extBut _ _ D.a2.symm z1))
    have nz:e≠z:=fun x=>by subst x;rw [z4] at h1;cases h1;simp at h2
    refine wpAny_setField_rec z4 (by simp) fun g5 _ e5=>q g5 e (fun c o n1 n2 n3 n4 x=>e5.extBut _ _ n1 (e4 _ _ n4 (up3 c o n1 n3 n2 x))) ⟨oe,e5.extBut _ _ nz h1,h2⟩
theorem yH{x y:Value}{Q:Option Value→Shared→Prop}(P1:Sc prog w i1 l1 S1 R1)(P2:Sc prog w i2 l2 S2 R2)(D:nI z TI TO i1 i2 l1 l2)(hz:IsZip s.heap z TI TO .none)(hI:IsPair s.heap TI (.ref i1) (.ref i2))(hO:IsPair s.heap TO a b)(u1:S1 k s.heap)(u2:S2 k s.heap)(r1:R1 s.heap xs)(r2:R2 s.heap ys)(hx:xs[k]?=some x)(hy:ys[k]?=some y)
    (q:∀g,IsZip g z TI TO (rawInt s.heap.objs.size)→IsPair g TO x y→S1 (k+1) g→S2 (k+1) g→IsPair g s.heap.objs.size x y→g.objs.size=s.heap.objs.size+1→(∀c o,c≠z→c≠TO→c≠i1→c≠i2→s.heap.get? c=some o→g.get? c=some o)→Q (some (.ref s.heap.objs.size)) {s with heap:=g}):
    wpAny (model prog w) A (pyNext (.ref z)) Q E s:=by
  have hT:s.TypeIs (.ref z) "zip":=⟨_,hz,rfl⟩;unfold pyNext
  refine wpAny_bind (wpAny_attempt (wpAny_callSpecial?_slot (name:=Str.ofString "__next__") hT F.slot_zip_next (wpAny_call_entry F.slot_zip_next hT F.entry_zip_next ?_ (F.args_zip_next_1 _))))
  exact DB P1 P2 D hz hI hO u1 u2 r1 r2 hx hy fun g b1 b2 b3 b4 b5 b6 b7=>wpAny_pure (q g b1 b2 b3 b4 b5 b6 b7)
theorem yI{Q:Option Value→Shared→Prop}(hh:A.handled=none)(P1:Sc prog w i1 l1 S1 R1)(P2:Sc prog w i2 l2 S2 R2)(D:nI z TI TO i1 i2 l1 l2)(hz:IsZip s.heap z TI TO .none)(hI:IsPair s.heap TI (.ref i1) (.ref i2))(hO:IsPair s.heap TO a b)(u1:S1 k s.heap)(u2:S2 k s.heap)(r1:R1 s.heap xs)(r2:R2 s.heap ys)(hn:xs[k]?=none∨ys[k]?=none)
    (q:∀g,(∀c o,c≠z→c≠TO→c≠i1→c≠i2→s.heap.get? c=some o→g.get? c=some o)→Q none {s with heap:=g}):wpAny (model prog w) A (pyNext (.ref z)) Q E s:=by
  have hT:s.TypeIs (.ref z) "zip":=⟨_,hz,rfl⟩;unfold pyNext
  refine wpAny_bind (wpAny_attempt (wpAny_callSpecial?_slot (name:=Str.ofString "__next__") hT F.slot_zip_next (wpAny_call_entry F.slot_zip_next hT F.entry_zip_next (AK hh P1 P2 D hz hI hO u1 u2 r1 r2 hn fun g e hk he=>?_) (F.args_zip_next_1 _))))
  obtain⟨o,ho,hc⟩:=he;refine wpAny_bind (wpAny_isInstance (T:="StopIteration") (b:=true) ⟨o,ho,hc⟩ isSubtype_stop ?_);exact wpAny_pure (q _ hk)
end
end L2
namespace L2
open PySem PySem.Spec PyProof.Rows
section
variable{X:Cx}{pins:List (Addr × Obj)}{σ:L2.St}{H:Hp}{s:Shared}{h':Heap}
theorem ay.turnedL{t':Nat}{fp:List Addr}(I:ay X pins σ H s)(hf:∀b∈fp,iL X pins H b)(k:∀b o,b∉fp→s.heap.get? b=some o→h'.get? b=some o):ay X pins σ H {s with heap:=h',toks:=t'}:=by
  have hL:X.env.locals∉fp:=fun z=>(hf _ z).2.1 rfl
  have nit:∀b u,H b=some u→b∉fp:=fun b u e z=>by have:=(hf b z).1;rw [this] at e;cases e
  refine I.step (g':=s.gens) (d':=s.drawn) (ch:=fp) (fun b hb=>?_) (fun b o _ _ hc e _=>k b o hc e) (fun b o _ _ hc e _=>⟨o.slots,k b o hc e⟩) (fun _ _ _ _ n=>n) (fun b o hc e=>⟨o,k b o hc e⟩) (fun _ _ e=>e) (fun _ _ _ e=>e) (fun b ps e=>⟨#[],by rw [e];simp⟩) (fun m hm=>?_) (fun b u e=>?_) I.bare
  · obtain⟨f0,f1,f2,f3,f4,f5⟩:=hf b hb
    exact⟨f3,f1,f4,f5⟩
  · obtain⟨o,es,ep,ho,r⟩:=hm
    exact⟨o,es,ep,k _ o hL ho,r⟩
  · refine(I.hok b u e).stay (fun c v hc q=>k c v ?_ q) (fun _ q=>q) fun _ _ q=>q
    rcases hc with z | z
    · rw [z];exact nit b u e
    · exact nit c _ z
theorem bz(I:ay X pins σ H s){b l:Addr}{xs:List V}(f:iL X pins H b)(q:cW X.K H l xs):l≠b:=by
  intro z
  subst z
  rcases q with (q | ⟨o,q⟩) | ⟨o,its,n,hk,_⟩
  · rw [f.1] at q;cases q
  · rw [f.1] at q;cases q
  · have hb:X.base.get? l=some o:=I.ok.mod.kin l o hk
    rcases f.2.2.2.1 with z | z
    · exact I.ok.noex l o hb z
    · exact absurd (Nat.lt_of_lt_of_le (Heap.lt_size (I.ok.bs l o hb).1) z) (Nat.lt_irrefl _)
end
def GR(K:PySem.W.Frag)(l1 l2:Addr):It:=
  ⟨fun i H=>∃xs ys x y,cW K H l1 xs∧cW K H l2 ys∧xs[i]?=some x∧ys[i]?=some y,
   fun i H v H'=>∃p x y,v=.ref p∧H p=none∧H'=aV H p (.tup [x,y])∧∀xs ys,cW K H l1 xs→cW K H l2 ys→xs[i]?=some x∧ys[i]?=some y,
   fun i H=>∃xs ys,cW K H l1 xs∧cW K H l2 ys∧(xs.length≤i∨ys.length≤i)⟩
def BC(z TI TO i1 i2 l1 l2:Addr)(i:Nat)(h:Heap):Prop:=IsZip h z TI TO .none∧IsPair h TI (.ref i1) (.ref i2)∧(∃a b,IsPair h TO a b)∧h.IsTupleIter i1 l1 i∧h.IsTupleIter i2 l2 i
theorem yB{P:Program}{w:World}{K:PySem.W.Frag}{es:List Expr}{k0:Nat}{pos:Pos}{z TI TO i1 i2:Addr}(l1 l2:Addr)(n1:TO≠z)(n2:i1≠z)(n3:i2≠z)(n4:TO≠i1)(n5:TO≠i2)(n6:i1≠i2)(n7:TI≠z)(n8:TI≠TO)(n9:TI≠i1)(n10:TI≠i2):
    vS P w K (.Tuple es k0 pos) (GR K l1 l2) [z,TI,TO,i1,i2] z (BC z TI TO i1 i2 l1 l2) where
  mem:=by simp
  obj:=fun i h st b hb=>by
    obtain⟨hz,hI,⟨a,c,hO⟩,u1,u2⟩:=st
    simp only [List.mem_cons,List.not_mem_nil,or_false] at hb
    rcases hb with rfl | rfl | rfl | rfl | rfl
    · exact⟨_,hz,fun v z=>by cases z⟩
    · exact⟨_,hI,fun v z=>by cases z⟩
    · exact⟨_,hO,fun v z=>by cases z⟩
    · obtain⟨o,e,c,d⟩:=u1
      exact⟨o,e,fun v z=>by rw [d] at z;cases z⟩
    · obtain⟨o,e,c,d⟩:=u2
      exact⟨o,e,fun v z=>by rw [d] at z;cases z⟩
  keep:=fun i h h' st k=>by
    obtain⟨hz,hI,⟨a,c,hO⟩,u1,u2⟩:=st
    exact⟨k _ (by simp) _ hz,k _ (by simp) _ hI,⟨a,c,k _ (by simp) _ hO⟩,u1.at fun o e=>k _ (by simp) o e,u2.at fun o e=>k _ (by simp) o e⟩
  item:=by
    intro X hP hw hK hc i pins s σ H E I hf st hg
    subst hP hw hK
    obtain⟨xs,ys,x,y,q1,q2,hx,hy⟩:=hg
    obtain⟨hz,hI,⟨a,b,hO⟩,u1,u2⟩:=id st
    obtain⟨its1,rv1,p1,z1⟩:=I.tuple q1
    obtain⟨its2,rv2,p2,z2⟩:=I.tuple q2
    obtain⟨ux,hux,rux⟩:=rv1.get hx
    obtain⟨uy,huy,ruy⟩:=rv2.get hy
    have fz:=hf z (by simp);have fO:=hf TO (by simp);have f1:=hf i1 (by simp);have f2:=hf i2 (by simp)
    have D:nI z TI TO i1 i2 l1 l2:=⟨n1,n2,n3,n4,n5,n6,bz I fz q1,bz I fO q1,bz I f1 q1,bz I f2 q1,bz I fz q2,bz I fO q2,bz I f1 q2,bz I f2 q2⟩
    refine yH (xs:=its1.toArray) (ys:=its2.toArray) (pU i1 l1) (pU i2 l2) D hz hI hO u1 u2 p1 p2 (by simpa using hux) (by simpa using huy) fun g gz gO g1 g2 gT gs gk=>?_
    refine⟨_,rfl,wpAny_letOwnedTupleGo_zip gz fun g' gz' ge=>?_⟩
    have lt:∀b∈[z,TI,TO,i1,i2],b < s.heap.objs.size:=fun b hb=>by
      simp only [List.mem_cons,List.not_mem_nil,or_false] at hb
      rcases hb with rfl | rfl | rfl | rfl | rfl
      · exact Heap.lt_size hz
      · exact Heap.lt_size hI
      · exact Heap.lt_size hO
      · obtain⟨o,e,_⟩:=u1;exact Heap.lt_size e
      · obtain⟨o,e,_⟩:=u2;exact Heap.lt_size e
    have hT:H s.heap.objs.size=none:=I.hok.fresh (Nat.le_refl _)
    have vv:aH [x,y] [ux,uy]:=.cons rux (.cons ruy .nil)
    have I1:ay X pins σ (aV H s.heap.objs.size (.tup [x,y])) {s with heap:=s.heap.push {cls:=.type "tuple",data:=.seq #[ux,uy]},toks:=s.toks}:=
      I.laid (t':=s.toks) (fun b u e=>Heap.get?_push_of_some _ e) (Nat.le_refl _) ⟨(by show 2≤sizeLine;decide),[ux,uy],vv,mh.new _ _⟩
    have hf1:∀b∈[z,TI,TO,i1,i2],iL X pins (aV H s.heap.objs.size (.tup [x,y])) b:=fun b hb=>by
      obtain⟨f0,fr⟩:=hf b hb
      exact⟨by rw [aB (Nat.ne_of_lt (lt b hb))];exact f0,fr⟩
    have nzT:s.heap.objs.size≠z:=Nat.ne_of_gt (lt z (by simp))
    have I2:ay X pins σ (aV H s.heap.objs.size (.tup [x,y])) {s with heap:=g',toks:=s.toks}:=by
      refine I1.turnedL (t':=s.toks) hf1 fun b o nb e=>?_
      have nb':b≠z∧b≠TI∧b≠TO∧b≠i1∧b≠i2:=by simpa using nb
      refine ge.extBut _ _ nb'.1 ?_
      rcases Heap.get?_push_cases e with ⟨rfl,rfl⟩ | e
      · exact gT
      · exact gk b o nb'.1 nb'.2.2.1 nb'.2.2.2.1 nb'.2.2.2.2 e
    refine⟨.ref s.heap.objs.size,_,I2,rfl,⟨_,x,y,rfl,hT,rfl,fun xs' ys' w1 w2=>?_⟩,⟨gz',ge.extBut _ _ n7 (gk _ _ n7 n8 n9 n10 hI),⟨ux,uy,ge.extBut _ _ n1 gO⟩,g1.at fun o e=>ge.extBut _ _ n2 e,g2.at fun o e=>ge.extBut _ _ n3 e⟩,fun b hb=>(hf1 b hb).1⟩
    rw [I.tuple_inj w1 q1,I.tuple_inj w2 q2]
    exact⟨hx,hy⟩
  done:=by
    intro X hP hw hK hc i pins s σ H E I hf st hg
    subst hP hw hK
    obtain⟨xs,ys,q1,q2,hn⟩:=hg
    obtain⟨hz,hI,⟨a,b,hO⟩,u1,u2⟩:=id st
    obtain⟨its1,rv1,p1,z1⟩:=I.tuple q1
    obtain⟨its2,rv2,p2,z2⟩:=I.tuple q2
    have fz:=hf z (by simp);have fO:=hf TO (by simp);have f1:=hf i1 (by simp);have f2:=hf i2 (by simp)
    have D:nI z TI TO i1 i2 l1 l2:=⟨n1,n2,n3,n4,n5,n6,bz I fz q1,bz I fO q1,bz I f1 q1,bz I f2 q1,bz I fz q2,bz I fO q2,bz I f1 q2,bz I f2 q2⟩
    have e1:=rv1.length
    have e2:=rv2.length
    refine yI (xs:=its1.toArray) (ys:=its2.toArray) (I.ok.hd hc) (pU i1 l1) (pU i2 l2) D hz hI hO u1 u2 p1 p2 ?_ fun g gk=>⟨rfl,I.turnedL (t':=s.toks) hf fun b o nb e=>?_⟩
    · rcases hn with hn | hn
      · exact .inl (by simp;lia)
      · exact .inr (by simp;lia)
    · have nb':b≠z∧b≠TI∧b≠TO∧b≠i1∧b≠i2:=by simpa using nb
      exact gk b o nb'.1 nb'.2.2.1 nb'.2.2.2.1 nb'.2.2.2.2 e
  self:=fun A i s Q E st h=>wpAny_pyIter_zip st.1 h
theorem AM(l1 l2:Addr)(xs ys:Array Value):
    Meets (Builtin.«zip.__new__» ⟨[.type "zip",.ref l1,.ref l2],[]⟩) (fun _ R s=>s.heap.IsTuple l1 xs∧s.heap.IsTuple l2 ys∧
      R (.ok (.ret (.ref (s.heap.objs.size+4)))) {s with heap:=((((s.heap.push {cls:=.type "tuple_iterator",data:=.fields #[.ref l1,.int 0 0]}).push {cls:=.type "tuple_iterator",data:=.fields #[.ref l2,.int 0 0]}).push {cls:=.type "tuple",data:=.seq #[.ref s.heap.objs.size,.ref (s.heap.objs.size+1)]}).push {cls:=.type "tuple",data:=.seq #[.none,.none]}).push {cls:=.type "zip",data:=.fields #[.none,.bool false,.bool false,.ref (s.heap.objs.size+2),.ref (s.heap.objs.size+3)]}}):=
  .of_wp fun prog w A R s h=>by
    obtain⟨hp,g,d,tk,os⟩:=s;obtain⟨t1,t2,h⟩:=h;have sz:=PySem.sub_zip
    have T1:Heap.IsTuple (Shared.heap ⟨hp,g,d,tk,os⟩) l1 xs:=t1
    have T2:Heap.IsTuple (Shared.heap ⟨hp.push {cls:=.type "tuple_iterator",data:=.fields #[.ref l1,.int 0 0]},g,d,tk,os⟩) l2 ys:=Heap.IsTuple.push t2 _
    wp_walk using wpAny_pyIter_tuple T1,wpAny_pyIter_tuple T2
    refine⟨_,rfl,?_⟩
    simp only [Heap.size_push]
    exact h
section
variable{prog:Program}{w:World}{A:Around}{E:Value→Shared→Prop}{s:Shared}
theorem yG{l1 l2:Addr}{xs ys:Array Value}{Q:Value→Shared→Prop}(t1:s.heap.IsTuple l1 xs)(t2:s.heap.IsTuple l2 ys)
    (h:∀g,BC (s.heap.objs.size+4) (s.heap.objs.size+2) (s.heap.objs.size+3) s.heap.objs.size (s.heap.objs.size+1) l1 l2 0 g→(∀c o,s.heap.get? c=some o→g.get? c=some o)→Q (.ref (s.heap.objs.size+4)) {s with heap:=g}):
    wpAny (model prog w) A (call (.type "zip") [.ref l1,.ref l2]) Q E s:=by
  refine callType_new F.called_zip (by decide) (F.typeCall_zip_2 _ _) (F.newCall_zip_2 _ _) (fun obj=>F.args_object_init_3 obj _ _) F.entry_zip_new (AM l1 l2 xs ys) ⟨t1,t2,?_⟩
  have at5:∀(g:Heap) (o:Obj) (a:Addr),o.isFreed=false→a=g.objs.size→(g.push o).get? a=some o:=fun g o a hf e=>by rw [e];exact Heap.get?_push_size _ hf
  have g5:=at5 ((((s.heap.push {cls:=.type "tuple_iterator",data:=.fields #[.ref l1,.int 0 0]}).push {cls:=.type "tuple_iterator",data:=.fields #[.ref l2,.int 0 0]}).push {cls:=.type "tuple",data:=.seq #[.ref s.heap.objs.size,.ref (s.heap.objs.size+1)]}).push {cls:=.type "tuple",data:=.seq #[.none,.none]}) {cls:=.type "zip",data:=.fields #[.none,.bool false,.bool false,.ref (s.heap.objs.size+2),.ref (s.heap.objs.size+3)]} (s.heap.objs.size+4) rfl (by simp only [Heap.size_push])
  have g4:=at5 (((s.heap.push {cls:=.type "tuple_iterator",data:=.fields #[.ref l1,.int 0 0]}).push {cls:=.type "tuple_iterator",data:=.fields #[.ref l2,.int 0 0]}).push {cls:=.type "tuple",data:=.seq #[.ref s.heap.objs.size,.ref (s.heap.objs.size+1)]}) {cls:=.type "tuple",data:=.seq #[.none,.none]} (s.heap.objs.size+3) rfl (by simp only [Heap.size_push])
  have g3:=at5 ((s.heap.push {cls:=.type "tuple_iterator",data:=.fields #[.ref l1,.int 0 0]}).push {cls:=.type "tuple_iterator",data:=.fields #[.ref l2,.int 0 0]}) {cls:=.type "tuple",data:=.seq #[.ref s.heap.objs.size,.ref (s.heap.objs.size+1)]} (s.heap.objs.size+2) rfl (by simp only [Heap.size_push])
  have g2:=at5 (s.heap.push {cls:=.type "tuple_iterator",data:=.fields #[.ref l1,.int 0 0]}) {cls:=.type "tuple_iterator",data:=.fields #[.ref l2,.int 0 0]} (s.heap.objs.size+1) rfl (by simp only [Heap.size_push])
  have g1:=at5 s.heap {cls:=.type "tuple_iterator",data:=.fields #[.ref l1,.int 0 0]} s.heap.objs.size rfl rfl
  have up:∀{g:Heap} {a:Addr} {u:Obj} (o:Obj),g.get? a=some u→(g.push o).get? a=some u:=fun o e=>Heap.get?_push_of_some o e
  refine⟨⟨_,g5,rfl⟩,h _ ⟨g5,up _ (up _ g3),⟨_,_,up _ g4⟩,⟨_,up _ (up _ (up _ (up _ g1))),rfl,rfl⟩,⟨_,up _ (up _ (up _ g2)),rfl,rfl⟩⟩ fun c o x=>up _ (up _ (up _ (up _ (up _ x))))⟩
end
theorem v_:PySem.bootBuiltins "zip"=some (.type "zip"):=by decide+kernel
def Gr(K:PySem.W.Frag)(ta:TA):TI:=fun σ H R=>ta σ H fun vs H1=>∃a b,vs=[.ref a,.ref b]∧(∃xs,cW K H1 a xs)∧(∃ys,cW K H1 b ys)∧R (GR K a b) H1
theorem CU{X:Cx}{K:PySem.W.Frag}{es:List Expr}{k0:Nat}{tp:Pos}{a b:Expr}{ta:TA}{p pos:Pos}(hK:X.K=K)(hg:Gl X "zip")(hm:X.mg "zip"=none)(ha:PA X [a,b] ta)(hs:starEach [a,b] X.env=[(false,eval a X.env),(false,eval b X.env)]:=by rfl)(hs2:starEach [b] X.env=[(false,eval b X.env)]:=by rfl):
    PI X (.Tuple es k0 tp) (.Call (.Name "zip" p) [a,b] [] pos) (Gr K ta):=by
  intro pins s σ H R I h
  subst hK
  refine Call_ (jE I hg hm v_ (PyProof.Rows.callWith_type1 (bG (ha pos pins s σ H _ I h) fun us s1 ⟨vs,H1,I1,r1,q1⟩=>?_) (by rw [hs,hs2]) (by rw [hs2];rfl)))
  obtain⟨a,b,e,⟨xs,qx⟩,⟨ys,qy⟩,q⟩:=q1
  subst e
  cases r1 with
  | cons r rr=>
    cases rr with
    | cons r' rr=>
      cases rr
      cases r
      cases r'
      obtain⟨i1,v1,p1,_⟩:=I1.tuple qx
      obtain⟨i2,v2,p2,_⟩:=I1.tuple qy
      refine yG p1 p2 fun g st hk=>wpAny_pyIter_zip st.1 ?_
      have I2:ay X pins σ H1 {s1 with heap:=g,toks:=s1.toks}:=I1.kept (t':=s1.toks) fun b o e=>hk b o e
      refine⟨s1.heap.objs.size+4,[s1.heap.objs.size+4,s1.heap.objs.size+2,s1.heap.objs.size+3,s1.heap.objs.size,s1.heap.objs.size+1],_,_,H1,rfl,I2,yB a b (show((s1.heap.objs.size+3:Nat)≠s1.heap.objs.size+4) by lia) (show((s1.heap.objs.size:Nat)≠s1.heap.objs.size+4) by lia) (show((s1.heap.objs.size+1:Nat)≠s1.heap.objs.size+4) by lia) (show((s1.heap.objs.size+3:Nat)≠s1.heap.objs.size) by lia) (show((s1.heap.objs.size+3:Nat)≠s1.heap.objs.size+1) by lia) (show((s1.heap.objs.size:Nat)≠s1.heap.objs.size+1) by lia) (show((s1.heap.objs.size+2:Nat)≠s1.heap.objs.size+4) by lia) (show((s1.heap.objs.size+2:Nat)≠s1.heap.objs.size+3) by lia) (show((s1.heap.objs.size+2:Nat)≠s1.heap.objs.size) by lia) (show((s1.heap.objs.size+2:Nat)≠s1.heap.objs.size+1) by lia),st,fun c hc=>?_,q⟩
      have le:s1.heap.objs.size≤c:=by
        simp only [List.mem_cons,List.not_mem_nil,or_false] at hc
        rcases hc with rfl | rfl | rfl | rfl | rfl
        · exact Nat.le_add_right _ 4
        · exact Nat.le_add_right _ 2
        · exact Nat.le_add_right _ 3
        · exact Nat.le_refl _
        · exact Nat.le_add_right _ 1
      have f:=I1.fpOk (H':=H1) le (I1.hok.fresh le)
      exact f
end L2
namespace L2
open PySem PySem.Spec PyProof.Rows
def BF(h:Heap)(z TI TO:Addr)(a:Addr)(f:Bool):Prop:=h.get? z=some {cls:=.type "zip",data:=.fields #[rawInt a,.bool f,.bool false,.ref TI,.ref TO]}
section
variable{prog:Program}{w:World}{A:Around}{E:Value→Shared→Prop}{s:Shared}{z TI TO i1 i2 l1 l2:Addr}{k:Nat}{xs ys:Array Value}{a:Addr}{f:Bool}{S1 S2:Nat→Heap→Prop}{R1 R2:Heap→Array Value→Prop}
end
end L2
namespace L2
open PySem PySem.Spec PyProof.Rows
structure ZL (S z TI TO i1 i2 l1 l2:Addr) (xs ys:Array Value) (i:Nat) (h:Heap):Prop where
  pr:IsPair h TI (.ref i1) (.ref i2)
  t1:h.IsTupleIter i1 l1 i
  t2:h.IsTupleIter i2 l2 i
  s1:h.IsTuple l1 xs
  s2:h.IsTuple l2 ys
  ot:∃o,h.get? TO=some o
  zs:(IsZip h z TI TO .none∧∃a b,IsPair h TO a b)∨∃a f oa,BF h z TI TO a f∧h.get? a=some oa∧a≠S∧a≠z∧a≠i1∧a≠i2
structure GQ (S z TO i1 i2:Addr) (xs ys:Array Value) (h:Heap) (acc:Array Value) (i:Nat):Prop where
  sz:acc.size=i
  at_:∀(j:Nat) (v:Value),acc[j]?=some v→∃(p:Addr) (x y:Value),v=.ref p∧xs[j]?=some x∧ys[j]?=some y∧IsPair h p x y∧p≠S∧p≠z∧p≠TO∧p≠i1∧p≠i2
  lo:∀(j:Nat) (p:Addr),acc[j]?=some (.ref p)→S < p
  Hl:∀(i j:Nat) (p q:Addr),i < j→acc[i]?=some (.ref p)→acc[j]?=some (.ref q)→p < q
section
variable{prog:Program}{w:World}{A:Around}{R:Result→Shared→Prop}{S z TI TO i1 i2 l1 l2:Addr}{xs ys:Array Value}{n:Nat}
end
end L2
namespace L2
open PySem PySem.Spec PyProof.Rows
section
variable{X:Cx}{pins:List (Addr × Obj)}{σ:L2.St}{H H':Hp}{s:Shared}{h':Heap}
end
end L2
namespace L2
open PySem PySem.Spec PyProof.Rows
section
variable{prog:Program}{w:World}{A:Around}{E:Value→Shared→Prop}{s:Shared}{e it l:Addr}{k:Nat}{xs:Array Value}{S:Nat→Heap→Prop}{R:Heap→Array Value→Prop}
end
section
variable{X:Cx}{pins:List (Addr × Obj)}{σ:L2.St}{H:Hp}{s:Shared}
end
end L2
namespace L2
open PySem PySem.Spec PyProof.Rows
theorem uC:∀(us:List Value) (f:Nat→Int),(∀(j:Nat) (v:Value),us[j]?=some v→∃t,v=Value.int (f j) t)→aH ((List.range us.length).map fun j=>V.int (f j)) us
  | [],_,_=>.nil
  | u::us,f,h=>by
    rw [List.length_cons,List.range_succ_eq_map,List.map_cons,List.map_map]
    refine .cons (h 0 u rfl) (uC us (fun j=>f (j+1)) fun j v e=>h (j+1) v (by simpa using e))
def h8(n:Nat):List Int:=(List.range n).map Int.ofNat
theorem km(n:Nat):(h8 n).length=n:=by simp [h8]
section
variable{X:Cx}{a:Expr}{ta:TA}{p p2 pos pos2:Pos}
theorem wo(hg:Gl X "range")(hm:X.mg "range"=none)(ha:PA X [a] ta)(hs:starEach [a] X.env=[(false,eval a X.env)]){pins:List (Addr × Obj)}{s:Shared}{σ:L2.St}{H:Hp}{R:Int→Hp→Prop}(I:ay X pins σ H s)(h:ta σ H fun vs H1=>∃j:Int,vs=[.int j]∧R j H1):
    wpAny (model X.prog X.w) X.A (eval (.Call (.Name "range" p) [a] [] pos) X.env) (fun v s1=>∃(r:Addr) (j:Int) (H1:Hp) (t u w:Tok),v=.ref r∧IsRange s1.heap r 0 j 1 t u w∧r < s1.heap.objs.size∧ay X pins σ H1 s1∧R j H1) X.xe s:=by
  refine Call_ (jE I hg hm boot_range (PyProof.Rows.callWith_type1 (bG (ha pos pins s σ H _ I h) fun us s1 ⟨vs,H1,I1,r1,q1⟩=>?_) hs rfl))
  obtain⟨j,e,q⟩:=q1
  subst e
  cases r1 with
  | cons r rr=>
    cases rr
    obtain⟨t,rfl⟩:=r
    exact call_range_1 ⟨_,j,H1,_,_,_,rfl,IsRange.new ..,by simp [Heap.size_push],I1.kept fun b o e=>Heap.get?_push_of_some _ e,q⟩
def Hs(ta:TA):TE:=fun σ H Q=>ta σ H fun vs H1=>∃j:Int,vs=[.int j]∧(0≤j∧j≤100000∧∀l,H1 l=none→Q (.ref l) (aV H1 l (.lst ((h8 j.toNat).map V.int))))
theorem pL(hc:X.calm=true)(hgl:Gl X "list")(hml:X.mg "list"=none)(hg:Gl X "range")(hm:X.mg "range"=none)(ha:PA X [a] ta)(hs:starEach [a] X.env=[(false,eval a X.env)]:=by rfl)
    (he:starEach [.Call (.Name "range" p) [a] [] pos] X.env=(false,eval (.Call (.Name "range" p) [a] [] pos) X.env)::starEach [] X.env:=by rfl):PE X (.Call (.Name "list" p2) [.Call (.Name "range" p) [a] [] pos] [] pos2) (Hs ta):=by
  intro pins s σ H Q I h
  refine wpAny_Call_Name_kw (jE I hgl hml PyProof.Rows.boot_list ?_ (by decide) (by decide))
  refine PyProof.Rows.callWith_type1 ?_ he rfl
  rw [he]
  refine Calls.spliced_cons (bG (wo hg hm ha hs I h) fun u s1 ⟨r,j,H1,t,u1,w,e,hr,lt,I1,j0,j1,q⟩=>?_)
  subst e
  refine wpAny_pure ?_
  have hsm:Builtin.Range.small 0 j 1=true:=small_one (by decide) (by decide) (by lia) (by lia)
  refine call_list_range (n:=j.toNat) (I1.ok.hd hc) hr hsm (by rw [rangeSize_one];split<;>lia) (Nat.le_trans (show j.toNat≤100000 by lia) (by decide)) fun h' tk acc c hk hD hI=>?_
  have hf:H1 s1.heap.objs.size=none:=I1.hok.fresh (Nat.le_refl _)
  have vv:aH ((h8 j.toNat).map V.int) acc.toList:=by
    have z:=uC acc.toList (fun k=>(k:Int)) fun k v e=>by
      obtain⟨t,ht⟩:=hI.2 k v (by simpa using e)
      exact⟨t,by rw [ht];simp⟩
    rw [Array.length_toList,hI.1] at z
    rw [h8,List.map_map]
    exact z
  refine⟨.ref s1.heap.objs.size,_,I1.laid (o:=.lst ((h8 j.toNat).map V.int)) hk (Nat.le_refl _) ⟨?_,acc.toList,c,vv,by simpa using hD⟩,rfl,q _ hf⟩
  rw [List.length_map,km,sizeLine_eq];lia
end
end L2
namespace L2
open PySem PySem.Spec PyProof.Rows
theorem u7:fillsNumberSlot (.type "tuple") "mul"=pure false:=
  PySem.fillsNumberSlot_seq (id:="tuple.__mul__") (r:=some (.builtin "tuple.__rmul__")) F.slot_tuple_mul.lookup (by decide+kernel) F.slot_tuple_rmul.lookup (by decide+kernel)
theorem Dh:seqRepeat? (.type "tuple")=pure (some (.builtin "tuple.__mul__")):=by
  unfold seqRepeat?;rw [PySem.seqSlot_of (T:="tuple") (name:="__mul__") (id:="tuple.__mul__") F.slot_tuple_mul.lookup (by decide+kernel),PySem.seqSlot_of (T:="tuple") (name:="__rmul__") (id:="tuple.__rmul__") F.slot_tuple_rmul.lookup (by decide+kernel)];rfl
theorem Ap(a:Int)(t:Tok)(l:Addr)(items:Array Value)(n:Nat)(dd:Option Addr)(sl:Array (Option Value)):
    Meets (Builtin.«int.__rmul__» ⟨[.int a t,.ref l],[]⟩) (fun _ R s=>s.heap.get? l=some {cls:=.type "tuple",dict:=dd,data:=.seq items n,slots:=sl}∧R (.ok (.ret Value.notImplemented)) s):=
  .of_wp fun prog w A R s h=>by obtain⟨hp,g,d,tk,os⟩:=s;obtain⟨hl,h⟩:=h;wp_walk;exact⟨_,rfl,h⟩
theorem Co(l:Addr)(x:Value)(n:Nat)(k:Int)(u:Tok)(dd:Option Addr)(sl:Array (Option Value))(h0:2≤k)(h1:k≤100000):
    Meets (Builtin.«tuple.__mul__» ⟨[.ref l,.int k u],[]⟩) (fun _ R s=>s.heap.get? l=some {cls:=.type "tuple",dict:=dd,data:=.seq #[x] n,slots:=sl}∧
      R (.ok (.ret (.ref s.heap.objs.size))) {s with heap:=s.heap.push {cls:=.type "tuple",data:=.seq (List.replicate k.toNat x).toArray}}):=
  .of_wp fun prog w A R s h=>by
    obtain⟨hp,g,d,tk,os⟩:=s;obtain⟨hl,h⟩:=h
    have f1:=AutoSeq1.idx_int
    have c1:¬(decide (k < -(2 ^ 63)) || decide (k≥2 ^ 63))=true:=by simp;lia
    have c2:¬((#[x]:Array Value).isEmpty || k==1)=true:=by simp;lia
    have c3:¬(decide (k≤0) || (#[x]:Array Value).isEmpty)=true:=by simp;lia
    have c4:¬(((#[x]:Array Value).size:Int)*k > (2 ^ 63 - 1) / 8):=by simp;lia
    have c5:¬Builtin.Tuple.tupleTooMany (((#[x]:Array Value).size:Int)*k)=true:=by
      unfold Builtin.Tuple.tupleTooMany;rw [sizeLine_eq];simp;lia
    wp_walk using wpAny_loadPart' hl
    rw [if_neg c1]
    wp_walk using wpAny_loadPart' hl
    rw [if_neg c2]
    wp_walk using wpAny_loadPart' hl
    rw [if_neg c3]
    wp_walk using wpAny_loadPart' hl
    rw [if_neg c4]
    show wpAny _ _ (if Builtin.Tuple.tupleTooMany (((#[x]:Array Value).size:Int)*k)=true then _ else _) _ _ _
    rw [if_neg c5]
    have f0:∀(m:Nat) (acc:Array Value),List.foldl (fun x1 x2=>x1++x2) acc (List.replicate m #[x])=acc++(List.replicate m x).toArray:=by
      intro m
      induction m with
      | zero=>intro acc;simp
      | succ m ih=>intro acc;rw [List.replicate_succ,List.foldl_cons,ih,List.replicate_succ];apply Array.toList_inj.mp;simp
    have e:List.foldl (fun x1 x2=>x1++x2) #[] (List.replicate k.toNat #[x])=(List.replicate k.toNat x).toArray:=by rw [f0];simp
    show wpAny _ _ (Builtin.Tuple.tupleExact (List.foldl (fun x1 x2=>x1++x2) #[] (List.replicate k.toNat #[x])) >>= fun v=>ret v) _ _ _
    rw [e]
    unfold Builtin.Tuple.tupleExact
    refine wpAny_bind (wpAny_newObj_type ?_ (by show(List.replicate k.toNat x).toArray.size≤sizeLine;rw [List.size_toArray,List.length_replicate,sizeLine_eq];lia))
    exact wpAny_pure ⟨_,rfl,h⟩
theorem zv(l:Addr)(x:Value)(n:Nat)(u:Tok)(dd:Option Addr)(sl:Array (Option Value)):
    Meets (Builtin.«tuple.__mul__» ⟨[.ref l,.int 0 u],[]⟩) (fun _ R s=>s.heap.get? l=some {cls:=.type "tuple",dict:=dd,data:=.seq #[x] n,slots:=sl}∧R (.ok (.ret (.ref s.heap.objs.size))) {s with heap:=s.heap.push {cls:=.type "tuple",data:=.seq #[]}}):=
  .of_wp fun prog w A R s h=>by
    obtain⟨hp,g,d,tk,os⟩:=s;obtain⟨hl,h⟩:=h;have f1:=AutoSeq1.idx_int
    have c2:¬((#[x]:Array Value).isEmpty || (0:Int)==1)=true:=by simp
    wp_walk using wpAny_loadPart' hl
    first | rw [if_neg c2] | skip
    wp_walk using wpAny_loadPart' hl
    exact⟨_,rfl,h⟩
theorem zw(l:Addr)(x:Value)(n:Nat)(u:Tok)(dd:Option Addr)(sl:Array (Option Value)):
    Meets (Builtin.«tuple.__mul__» ⟨[.ref l,.int 1 u],[]⟩) (fun _ R s=>s.heap.get? l=some {cls:=.type "tuple",dict:=dd,data:=.seq #[x] n,slots:=sl}∧R (.ok (.ret (.ref l))) s):=
  .of_wp fun prog w A R s h=>by
    obtain⟨hp,g,d,tk,os⟩:=s;obtain⟨hl,h⟩:=h;have f1:=AutoSeq1.idx_int
    wp_walk using wpAny_loadPart' hl
    exact⟨_,rfl,h⟩
section
variable{X:Cx}
def yc(K:PySem.W.Frag):R2:=fun x y H Q=>∃a k v,x=.ref a∧y=.int k∧cW K H a [v]∧0≤k∧k≤100000∧∀p H',av H H'→cW K H' p (List.replicate k.toNat v)→Q (.ref p) H'
theorem zK:gK X (binaryOp .Mult) (yc X.K):=by
  intro pins s σ H x y v u Q I rx ry h
  obtain⟨a,k,z,rfl,rfl,ha,k0,k1,q⟩:=h
  cases rx
  obtain⟨t,rfl⟩:=ry
  obtain⟨its,r,p,hz⟩:=I.tuple ha
  obtain⟨uz,rfl,rz⟩:=k9 r
  obtain⟨⟨cls,dd,data,sl⟩,ho,hc,n,hd⟩:=id p
  simp only at hc hd
  subst hc hd
  refine wpAny_binaryOp_repeat_ref (T:="tuple") (U:="int") (by decide) ⟨_,ho,rfl⟩ (fun s'=>PySem.typeIs_int s' k t) u7 F.fills_int_mul F.slot_int_rmul Dh F.slot_int_index.lookup (call_meets F.slot_int_rmul (PySem.typeIs_int s k t) F.entry_int_rmul (F.args_int_rmul_2 _ _) (Ap k t a #[uz] n dd sl) ⟨ho,rfl,⟨_,ho,rfl⟩,?_⟩)
  have new:∀m:Nat,m=k.toNat→EP X pins σ Q (.ref s.heap.objs.size) {s with heap:=s.heap.push {cls:=.type "tuple",data:=.seq (List.replicate m uz).toArray},toks:=s.toks}:=fun m hm=>by
    have hf:H s.heap.objs.size=none:=I.hok.fresh (Nat.le_refl _)
    have vv:∀j:Nat,aH (List.replicate j z) (List.replicate j uz):=fun j=>by
      induction j with
      | zero=>exact .nil
      | succ j ih=>exact .cons rz ih
    refine⟨.ref s.heap.objs.size,_,I.laid (t':=s.toks) (o:=.tup (List.replicate m z)) (fun b ob q=>Heap.get?_push_of_some _ q) (Nat.le_refl _) ⟨by rw [List.length_replicate,sizeLine_eq];lia,_,vv m,mh.new _ _⟩,rfl,q _ _ (av.new hf) (cW.of (by rw [ax,hm]))⟩
  rcases(by lia:k=0∨k=1∨2≤k) with e | e | e
  · subst e
    exact call_meets F.slot_tuple_mul ⟨_,ho,rfl⟩ F.entry_tuple_mul (F.args_tuple_mul_2 _ _) (zv a uz n t dd sl) ⟨ho,new 0 rfl⟩
  · subst e
    exact call_meets F.slot_tuple_mul ⟨_,ho,rfl⟩ F.entry_tuple_mul (F.args_tuple_mul_2 _ _) (zw a uz n t dd sl) ⟨ho,⟨.ref a,H,I,rfl,q a H (av.refl H) ha⟩⟩
  · exact call_meets F.slot_tuple_mul ⟨_,ho,rfl⟩ F.entry_tuple_mul (F.args_tuple_mul_2 _ _) (Co a uz n k t dd sl e k1) ⟨ho,new _ rfl⟩
end
end L2
namespace L2
open PySem PySem.Spec PyProof.Rows
section
variable{prog:Program}{w:World}{A:Around}{E:Value→Shared→Prop}{s:Shared}
end
section
variable{X:Cx}{a:Expr}{ta:TA}{p p2 p3 pos pos2 pos3:Pos}
end
end L2
namespace L2
open PySem PySem.Spec PyProof.Rows
section
variable{prog:Program}{w:World}{A:Around}{E:Value→Shared→Prop}{s:Shared}
end
section
variable{X:Cx}{K:PySem.W.Frag}{es:List Expr}{k0:Nat}{tp:Pos}{a:Expr}{ta:TA}{p pos:Pos}
end
end L2
namespace L2
open PySem PySem.Spec PyProof.Rows
theorem vd{X:Cx}:gK X (compareOp .IsNot) (fun x y H Q=>∃b c,x=.bl b∧y=.bl c∧Q (.bl (!(b==c))) H):=by
  intro pins s σ H x y v u Q I rx ry h
  obtain⟨b,c,rfl,rfl,q⟩:=h
  cases rx;cases ry
  refine wpAny_isNot_plain (by cases b<;>cases c<;>rfl) ⟨.bl (!(b==c)),H,I,?_,q⟩
  show Value.bool _=Value.bool _
  cases b<;>cases c<;>rfl
section
variable{prog:Program}{w:World}{A:Around}{E:Value→Shared→Prop}{s:Shared}
end
section
variable{prog:Program}{w:World}{A:Around}{E:Value→Shared→Prop}{s:Shared}
end
section
variable{prog:Program}{w:World}{A:Around}{E:Value→Shared→Prop}{s:Shared}
end
end L2
namespace L2
open PySem PySem.Spec PyProof.Rows
theorem sx{X:Cx}{ix:Nat}{nm:Str}{posn poss:Pos}{elt iter tg:Expr}{ifs:List Expr}{scope:Scope}{pos:Pos}{wi:TI}{g:TG}{tc:TT}{te:TE}(sc0:Scope)(N0:List Str)(cp:List (Nat × Str))(tgN:List Str)
    (hc:X.calm=true)(hsc:X.env.scope=sc0)(hN0:X.N=N0)(hi:PI X tg iter wi)
    (hg:∀C s0 H0 fp,PG (ao X scope cp tgN C s0 H0 fp) tg g)
    (ht:∀C s0 H0 fp,rM (ao X scope cp tgN C s0 H0 fp) ifs tc)
    (he:∀C s0 H0 fp,PE (ao X scope cp tgN C s0 H0 fp) elt te)
    (hk:scope.kind=.function)(hcell:∀y∈scope.names,y.2≠.cell)(hnames:∀y∈scope.names,y.2=.local→scope.names.lookup y.1=some .local)
    (hfr:∀y∈scope.names,y.2=.free→scope.names.lookup y.1=some .free∧sc0.names.lookup y.1=some .cell)
    (hcp:∀p∈cp,N0[p.1]?=some p.2)(hcq:∀p∈cp,sc0.names.lookup p.2=some .cell∧scope.names.lookup p.2=some .free)
    (hNd:X.N.Nodup)(hix:X.N[ix]?=some nm)(hlc:X.env.scope.names.lookup nm=some .local)(hsw:swapsWith (.ListComp elt [⟨tg,iter,ifs,0⟩] scope pos) (some (.Name nm posn)) poss.line X.env=pure true)
    (hs:∀x,foldedSetIterable iter X.env x=pure x:=by intro _;rfl):
    PS X (.Assign [.Name nm posn] (.ListComp elt [⟨tg,iter,ifs,0⟩] scope pos) poss) (Dm (ur cp tgN.length wi g tc te) (wH ix)):=by
  intro pins s σ H D0 I h
  let Q:VK:=fun x H1=>D0.nx (σ.set ix (some x)) H1
  have h:ur cp tgN.length wi g tc te σ H Q:=h
  have hkind:∀x,X.env.kindOf x=sc0.names.lookup x:=fun x=>by unfold Env.kindOf;rw [hsc]
  have hfree:∀y∈scope.names,y.2=.free→∃c,X.env.cells.lookup y.1=some c:=fun y hy e=>I.ok.has y.1 (.inl (by rw [hkind];exact(hfr y hy e).2))
  rw [exec_Assign_Name_used _ _ _ _ hsw]
  refine wpAny_bind (wpAny_standAt (wpAny_bind ?_))
  unfold evalThenUse
  refine wpAny_bind ?_
  refine wpAny_comprehension_free (use:=some (assign (.Name nm posn) X.env)) rfl hs (jx hfree) hk hnames (wpAny_mono (hi pins s σ H _ I h.go) (fun xv s₁ h₁=>wpAny_mono h₁ (fun itv s₂ h₂=>?_) fun _ _ e=>e) fun _ _ e=>e)
  obtain⟨it,fp,tn,J,H2,rfl,I2,T,st2,f2,hq⟩:=h₂
  refine wpAny_newObj_type ?_
  have hlF:H2 s₂.heap.objs.size=none:=I2.hok.fresh (Nat.le_refl _)
  have I3:ay X pins σ (aV H2 s₂.heap.objs.size (.lst [])) {s₂ with heap:=s₂.heap.push {cls:=.type "list",data:=.seq ([]:List Value).toArray}}:=I2.lnew (t':=s₂.toks) .nil (Nat.zero_le _)
  obtain⟨W,⟨m0,w0⟩,turn⟩:=hq _ hlF
  have f3:∀b∈fp,iL X pins (aV H2 s₂.heap.objs.size (.lst [])) b:=fun b hb=>by
    obtain⟨f0,fr⟩:=f2 b hb
    obtain⟨o,ho,_⟩:=T.obj _ _ st2 b hb
    exact⟨by rw [aB (Nat.ne_of_lt (Heap.lt_size ho))];exact f0,fr⟩
  have st3:tn 0 (s₂.heap.push {cls:=.type "list",data:=.seq ([]:List Value).toArray}):=T.keep _ _ _ st2 fun b _ o e=>Heap.get?_push_of_some _ e
  generalize hD:s₂.heap.objs.size=D at*
  generalize hs3:({s₂ with heap:=s₂.heap.push {cls:=.type "list",data:=.seq ([]:List Value).toArray}}:Shared)=s₃ at*
  have hst3:tn 0 s₃.heap:=by rw [←hs3];exact st3
  refine wpAny_newFunctionEnv hcell (by intro y hy;simp at hy) (fun h₁ hns₁ hsb₁=>?_) hk
  generalize hC:s₃.heap.objs.size=C at*
  have old:∀b o,s₃.heap.get? b=some o→h₁.get? b=some o:=fun b o e=>hsb₁.extBut b o (by rw [←hC];exact Nat.ne_of_lt (Heap.lt_size e)) (Heap.get?_push_of_some _ e)
  have nC:∀b o,s₃.heap.get? b=some o→b≠C:=fun b o e=>by rw [←hC];exact Nat.ne_of_lt (Heap.lt_size e)
  have hHC:(aV H2 D (.lst [])) C=none:=I3.hok.fresh (by rw [hC];exact Nat.le_refl _)
  have clS:∀x c,(fM X.env scope.names []).lookup x=some c→X.env.cells.lookup x=some c:=fun x c e=>ic _ _ x c hfree (fun _ _ z=>by simp at z) e
  have clH:∀x,(∃y∈scope.names,y.1=x∧y.2=.free)→∃c,(fM X.env scope.names []).lookup x=some c:=fun x e=>jT _ _ x (.inl e)
  have ok':(ao X scope cp tgN C s₃ (aV H2 D (.lst [])) fp).Ok:=by
    refine⟨I.ok.mod,hk,I.ok.glob,I.ok.blt,by rw [←hC];exact Nat.le_refl _,fun x y c e1 e2=>I.ok.inj x y c (clS _ _ e1) (clS _ _ e2),fun x e=>clH x (b_ hcell e),fun x c e1 e2=>?_,I.ok.hd,I.ok.frames,.inl rfl,fun b hb=>?_,fun b o e=>I3.bs b o e,?_,fun b o e hb=>?_,fun b hb z=>?_,I3.stack,fun b hb=>I3.stkFree b hb⟩
    · exfalso
      have e1':scope.names.lookup x=some .local:=by simpa [ao] using e1
      have e2':=clS x c e2
      obtain⟨c',hc'⟩:∃y∈scope.names,y.1=x∧y.2=.free:=by
        by_cases q:∃y∈scope.names,y.1=x∧y.2=.free
        · exact q
        · exfalso
          have:∀(names:List (Str × NameKind)) (cs:List (Str × Addr)),(¬∃y∈names,y.1=x∧y.2=.free)→cs.lookup x=none→(fM X.env names cs).lookup x=none:=by
            intro names
            induction names with
            | nil=>intro cs _ h;exact h
            | cons y r ih=>
              intro cs hn hcs
              obtain⟨n,k⟩:=y
              refine ih _ (fun⟨y,hy,z⟩=>hn ⟨y,List.mem_cons_of_mem _ hy,z⟩) ?_
              by_cases hk:(k==NameKind.free)=true
              · rw [if_pos hk,List.lookup_cons]
                cases hx:x==n with
                | true=>exact absurd ⟨(n,k),List.mem_cons_self,(by simpa using hx:x=n).symm,by simpa using hk⟩ hn
                | false=>exact hcs
              · rw [if_neg hk];exact hcs
          have z:=this scope.names [] q rfl
          have e2'':(fM X.env scope.names []).lookup x=some c:=e2
          rw [z] at e2'';cases e2''
      have z:=(hfr c' hc'.1 hc'.2.2).1
      rw [hc'.2.1,e1'] at z;cases z
    · obtain⟨f0,f1,f4,f5,f6,f7⟩:=f3 b hb
      obtain⟨o,ho,_⟩:=T.obj _ _ hst3 b hb
      exact⟨nC b o ho,fun x c e=>f6 x c (clS x c e)⟩
    · exact Nat.le_trans I.ok.bsz I3.sz
    · obtain⟨f0,f1,f4,f5,f6,f7⟩:=f3 b hb
      rcases f5 with z | z
      · exact I.ok.noex b o e z
      · have:=(I.ok.bs b o e).1
        exact absurd (Nat.lt_of_lt_of_le (Heap.lt_size this) z) (Nat.lt_irrefl _)
    · obtain⟨f0,f1,f4,f5,f6,f7⟩:=f3 b hb
      rcases List.mem_cons.mp (I3.stkSub b z) with z | z
      · exact f1 z
      · exact f4 z
  have I4:ay (ao X scope cp tgN C s₃ (aV H2 D (.lst [])) fp) [] (dC cp tgN.length σ) (aV H2 D (.lst [])) {s₃ with heap:=h₁,toks:=s₃.toks+([]:List (Str × Value)).length}:=by
    refine⟨ok',rfl,I3.bare,Un.kept old,⟨_,hns₁,fun i x v e1 e2 e3=>?_⟩,fun x c e=>?_,hHC,fun x c e=>I3.freeC x c (clS x c e),fun p hp=>by simp [ao] at hp,I3.hok.kept old,by simp [dC,ao]⟩
    · have hlt:i < cp.length:=by
        by_cases q:i < cp.length
        · exact q
        · exfalso
          unfold dC at e2
          rw [List.getElem?_append_right (by simp;lia)] at e2
          rw [List.getElem?_replicate] at e2
          split at e2<;>cases e2
      have e1':(cp.map (·.2))[i]?=some x:=by
        have e1'':(cp.map (·.2)++tgN)[i]?=some x:=e1
        rwa [List.getElem?_append_left (by simp;exact hlt)] at e1''
      have e2':(cp.map (fun p=>(σ[p.1]?).join))[i]?=some (some v):=by
        unfold dC at e2
        rwa [List.getElem?_append_left (by simp;exact hlt)] at e2
      rw [List.getElem?_map,List.getElem?_eq_getElem hlt] at e1' e2'
      have ex:(cp[i]).2=x:=by simpa using e1'
      have ev:(σ[(cp[i]).1]?).join=some v:=by simpa using e2'
      have ev':σ[(cp[i]).1]?=some (some v):=by
        cases q:σ[(cp[i]).1]? with
        | none=>rw [q] at ev;cases ev
        | some z=>rw [q] at ev;simp only [Option.join_some] at ev;rw [ev]
      have hN:=hcp cp[i] (List.getElem_mem hlt)
      rw [←hN0] at hN
      obtain⟨hcl,hcf⟩:=hcq cp[i] (List.getElem_mem hlt)
      rw [ex] at hN hcl hcf
      obtain⟨m,hn,hl⟩:=I3.loc
      obtain⟨u,r,l⟩:=hl _ x v hN ev' (.inr (.inl (by rw [hsc];exact hcl)))
      refine⟨u,r,.inr ?_⟩
      rcases l with ⟨k1,_⟩ | ⟨k1,c,hcc,o,ho,hd⟩
      · rw [hkind,hcl] at k1;cases k1
      · have e3':(relabel scope X.env).names.lookup x=some .local∨(relabel scope X.env).names.lookup x=some .cell∨(relabel scope X.env).names.lookup x=some .free:=e3
        have nl:(relabel scope X.env).names.lookup x=some .cell∨(relabel scope X.env).names.lookup x=some .free:=by
          rcases e3' with z | z | z
          · exact absurd z (dq hcf)
          · exact .inl z
          · exact .inr z
        obtain⟨c',hc'⟩:=clH x (b_ hcell nl)
        have:=clS x c' hc'
        rw [hcc] at this;cases this
        exact⟨nl,c,hc',o,old c o ho,hd⟩
    · obtain⟨v,o,ho,hd⟩:=I3.cell x c (clS x c e)
      exact⟨v,o,old c o ho,hd⟩
  have hst4:tn 0 h₁:=T.keep _ _ _ hst3 fun b _ o e=>old b o e
  have loop:codeAny (model X.prog X.w) X.A (.compLoop (.ListComp elt [⟨tg,iter,ifs,0⟩] scope pos) 0 (.ref it) (.ref D) (compEnvC scope (fM X.env scope.names []) C X.env))
      (compPost (model X.prog X.w) X.A X.xe (some (assign (.Name nm posn) X.env)) (fun _ s'=>wpAny (model X.prog X.w) X.A (pure ()) (fun _ s''=>wpAny (model X.prog X.w) X.A (pure Flow.next) (SP X pins D0) X.xe s'') X.xe s') (.ref D) C) {s₃ with heap:=h₁,toks:=s₃.toks+([]:List (Str × Value)).length}:=by
    refine jV (fun n s'=>∃i σ' H',ay (ao X scope cp tgN C s₃ (aV H2 D (.lst [])) fp) [] σ' H' s'∧tn i s'.heap∧(∀b∈fp,H' b=none)∧W i n σ' H') ?_ (n0:=m0) ⟨0,_,_,I4,hst4,fun b hb=>(f3 b hb).1,w0⟩
    rintro n s5 ⟨i,σ5,H5,I5,st5,fr5,w5⟩
    have stat:∀{H':Hp},(∀b∈fp,H' b=none)→∀b∈fp,iL (ao X scope cp tgN C s₃ (aV H2 D (.lst [])) fp) [] H' b:=fun hn b hb=>
      ⟨hn b hb,(ok'.exf b hb).1,ok'.exfs b hb,.inl hb,(ok'.exf b hb).2,fun p hp=>by simp [ao] at hp⟩
    rcases turn i n σ5 H5 w5 with ⟨stop,qn⟩ | ⟨go,N,hN,step⟩
    · refine bG (T.done (ao X scope cp tgN C s₃ (aV H2 D (.lst [])) fp) rfl rfl rfl hc i [] s5 σ5 H5 (fun _ _=>False) I5 (stat fr5) st5 stop) fun r s6 ⟨hr,I6⟩=>?_
      subst hr
      refine⟨fun _=>?_,fun v z=>by cases z⟩
      obtain⟨m,hn,_⟩:=I6.loc
      have I7:ay X pins σ H5 s6:=by
        have key:∀h':Heap,Heap.SameBut C s6.heap h'→ay X pins σ H5 {s6 with heap:=h'}:=fun h' sb=>by
          have ub:=I6.base
          have kp:∀b u,b≠C→s6.heap.get? b=some u→h'.get? b=some u:=fun b u ne e=>sb.extBut b u ne e
          have nit:∀b u,H5 b=some u→b≠C:=fun b u e z=>by
            have:=I6.free
            rw [z] at e
            rw [show H5 C=none from this] at e;cases e
          refine I3.call' (s':={s6 with heap:=h'}) (ch:=fp) I6.os ⟨fun b o e n hb hx=>kp b o (nC b o e) (ub.keep b o e n hb hx),fun b o e n hb hx=>?_,ub.free,fun b o e hx=>?_,ub.tups,ub.frzs,ub.tbls⟩ (fun b u e=>?_) I6.bare (fun b hb=>?_)
          · obtain⟨sl,q⟩:=ub.slot b o e n hb hx
            exact⟨sl,kp b _ (nC b o e) q⟩
          · obtain⟨o',q⟩:=ub.there b o e hx
            exact⟨o',kp b _ (nC b o e) q⟩
          · refine(I6.hok b u e).stay (fun c v hc q=>kp c v ?_ q) (fun _ q=>q) fun _ _ q=>q
            rcases hc with z | z
            · rw [z];exact nit b u e
            · exact nit c _ z
          · obtain⟨f0,f1,f4,f5,f6,f7⟩:=f3 b hb
            exact⟨f5,f1,f6,f7⟩
        exact key s6.heap ⟨rfl,fun _ _=>rfl⟩
      have fC:iL X pins H5 C:=I3.fpOk (by rw [hC];exact Nat.le_refl _) I6.free
      show wpAny (model X.prog X.w) X.A (assign (.Name nm posn) X.env (.ref D)) _ X.xe s6
      refine wpAny_assign_Name (oJ (v:=.ref D) I7 hNd hix (Or.inl hlc) rfl (fun s' I' hsb=>?_) (Or.inr hlc))
      obtain⟨a,sb,ha⟩:=hsb
      have nCa:C≠a:=by
        rcases ha with z | z
        · rw [z];exact fC.2.1
        · exact fun e=>fC.2.2.2.2.1 _ _ z e.symm
      obtain⟨oN,esN,epN,hoN,rN⟩:=hn
      refine⟨m,⟨oN,esN,epN,(sb.2 C nCa).trans hoN,rN⟩,fun h' sb'=>wpAny_pure (wpAny_pure ?_)⟩
      have I8:ay X pins (σ.set ix (some (.ref D))) H5 {s' with heap:=h',toks:=s'.toks}:=I'.turnedL (t':=s'.toks) (fp:=[C]) (fun b hb=>by rw [List.mem_singleton.mp hb];exact fC) fun b o nb e=>sb'.extBut b o (by simpa using nb) e
      exact⟨_,H5,I8,qn⟩
    · refine bG (T.item (ao X scope cp tgN C s₃ (aV H2 D (.lst [])) fp) rfl rfl rfl hc i [] s5 σ5 H5 (fun _ _=>False) I5 (stat fr5) st5 go) fun r s6 ⟨u,hr,h6⟩=>?_
      subst hr
      refine⟨fun z=>(by cases z),fun v z=>?_⟩
      cases z
      refine bG h6 fun _ s7 ⟨x,H7,I7,r7,y7,st7,fr7⟩=>?_
      have I7':=I7.pinned (stat fr7) (T.obj _ _ st7)
      have again:∀{σ8:L2.St} {H8:Hp} {s8:Shared},ay (ao X scope cp tgN C s₃ (aV H2 D (.lst [])) fp) ([]++i6 fp s7.heap) σ8 H8 s8→N σ8 H8→∃m,m < n∧∃i σ' H',ay (ao X scope cp tgN C s₃ (aV H2 D (.lst [])) fp) [] σ' H' s8∧tn i s8.heap∧(∀b∈fp,H' b=none)∧W i m σ' H':=fun{σ8 H8 s8} I8 n8=>by
        obtain⟨m',hm,w8⟩:=hN σ8 H8 n8
        refine⟨m',hm,i+1,σ8,H8,I8.unpinned,T.keep _ _ _ st7 fun b hb o e=>(I8.pin (b,o) (List.mem_append_right _ (List.mem_append_right _ (bP hb e)))).1,fun b hb=>?_,w8⟩
        obtain⟨o,e,d⟩:=T.obj _ _ st7 b hb
        exact(I8.pin (b,o) (List.mem_append_right _ (List.mem_append_right _ (bP hb e)))).2.1
      refine bG (hg C s₃ (aV H2 D (.lst [])) fp _ s7 σ5 H7 x u _ I7' r7 (step x H7 y7)) fun _ s8 ⟨σ8,H8,I8,q8⟩=>?_
      refine bG (ht C s₃ (aV H2 D (.lst [])) fp _ s8 σ8 H8 _ I8 q8) fun ok s9 ⟨H9,I9,q9⟩=>?_
      cases ok with
      | false=>
        rw [if_neg Bool.false_ne_true] at q9 ⊢
        exact again I9 q9
      | true=>
        rw [if_pos rfl] at q9 ⊢
        refine bG (he C s₃ (aV H2 D (.lst [])) fp _ s9 σ8 H9 _ I9 q9) fun v s10 ⟨xv,H10,I10,r10,ys,hl,hz,n10⟩=>?_
        refine bG (jk _ s10 σ8 H10 (.ref D) [xv] (.ref D) [v] (fun _ H=>N σ8 H) I10 rfl (.cons r10 .nil) ⟨D,ys,xv,rfl,rfl,hl,hz,n10⟩) fun _ s11 ⟨_,H11,I11,_,q11⟩=>?_
        exact again I11 q11
  exact codeAny_compStart_list loop (T.self X.A 0 _ _ _ hst4 loop)
end L2
namespace L2
open PySem PySem.Spec PyProof.Rows
inductive lZ where
  | vi (k:Int)
  | vb (x:Bool)
  | vn
def lZ.toV:lZ→V
  | .vi k=>.int k
  | .vb x=>.bl x
  | .vn=>.non
def lZ.toD:lZ→PyData
  | .vi k=>.int k
  | .vb x=>.bool x
  | .vn=>.none
mutual
def DA(K:PySem.W.Frag)(F:Hp):PyData→V→Prop
  | .none,v=>v=.non
  | .bool b,v=>v=.bl b
  | .int i,v=>v=.int i
  | .str x,v=>v=.str x
  | .tuple ds,v=>∃a xs,v=.ref a∧cW K F a xs∧aJ K F ds xs
  | .list ds,v=>∃a xs,v=.ref a∧gA K F a xs∧aJ K F ds xs
  | .dict kvs,v=>∃(a:Addr) (m:List (Int × lZ)),v=.ref a∧F a=some (.dK (m.map fun p=>(Sum.inl p.1,p.2.toV)))∧kvs=m.map fun p=>(PyData.int p.1,p.2.toD)
def aJ(K:PySem.W.Frag)(F:Hp):List PyData→List V→Prop
  | [],xs=>xs=[]
  | d::ds,xs=>∃x r,xs=x::r∧DA K F d x∧aJ K F ds r
end
mutual
theorem DA.mono{K:PySem.W.Frag}{F F':Hp}(h:av F F'):∀{d:PyData} {v:V},DA K F d v→DA K F' d v
  | .none,_,q=>by simp only [DA] at q ⊢;exact q
  | .bool b,_,q=>by simp only [DA] at q ⊢;exact q
  | .int i,_,q=>by simp only [DA] at q ⊢;exact q
  | .str x,_,q=>by simp only [DA] at q ⊢;exact q
  | .tuple ds,_,q=>by
    simp only [DA] at q ⊢
    obtain⟨a,xs,e,s,r⟩:=q
    exact⟨a,xs,e,h.tup s,aJ.mono h r⟩
  | .list ds,_,q=>by
    simp only [DA] at q ⊢
    obtain⟨a,xs,e,s,r⟩:=q
    exact⟨a,xs,e,h.seq s,aJ.mono h r⟩
  | .dict _,_,q=>by
    simp only [DA] at q ⊢
    obtain⟨a,m,e,s,k⟩:=q
    exact⟨a,m,e,h _ _ s,k⟩
theorem aJ.mono{K:PySem.W.Frag}{F F':Hp}(h:av F F'):∀{ds:List PyData} {xs:List V},aJ K F ds xs→aJ K F' ds xs
  | [],_,q=>by simp only [aJ] at q ⊢;exact q
  | d::ds,_,q=>by
    simp only [aJ] at q ⊢
    obtain⟨x,r,e,a,b⟩:=q
    exact⟨x,r,e,DA.mono h a,aJ.mono h b⟩
end
section
variable{K:PySem.W.Frag}{F:Hp}
theorem aJ.len:∀{ds:List PyData} {xs:List V},aJ K F ds xs→ds.length=xs.length
  | [],_,q=>by simp only [aJ] at q;subst q;rfl
  | d::ds,_,q=>by
    simp only [aJ] at q
    obtain⟨x,r,e,a,b⟩:=q
    subst e
    simp [aJ.len b]
theorem aJ.get:∀{ds:List PyData} {xs:List V} {i:Nat} {d:PyData},aJ K F ds xs→ds[i]?=some d→∃v,xs[i]?=some v∧DA K F d v
  | [],_,_,_,_,h=>by simp at h
  | d::ds,_,i,d',q,h=>by
    simp only [aJ] at q
    obtain⟨x,r,e,a,b⟩:=q
    subst e
    cases i with
    | zero=>simp at h;subst h;exact⟨x,rfl,a⟩
    | succ i=>
      obtain⟨v,h1,h2⟩:=aJ.get (i:=i) b (by simpa using h)
      exact⟨v,by simpa using h1,h2⟩
theorem aJ.append:∀{ds es:List PyData} {xs ys:List V},aJ K F ds xs→aJ K F es ys→aJ K F (ds++es) (xs++ys)
  | [],_,_,_,q,s=>by simp only [aJ] at q;subst q;simpa using s
  | d::ds,es,_,ys,q,s=>by
    simp only [aJ] at q
    obtain⟨x,r,e,a,b⟩:=q
    subst e
    simp only [List.cons_append,aJ]
    exact⟨x,_,rfl,a,aJ.append b s⟩
theorem aJ.one{d:PyData}{v:V}(h:DA K F d v):aJ K F [d] [v]:=by simp only [aJ];exact⟨_,_,rfl,h,rfl⟩
theorem aJ.nil:aJ K F [] []:=by simp only [aJ]
theorem aJ.cons{d:PyData}{v:V}{ds:List PyData}{vs:List V}(h:DA K F d v)(r:aJ K F ds vs):aJ K F (d::ds) (v::vs):=by simp only [aJ];exact⟨_,_,rfl,h,r⟩
theorem aJ.drop:∀{ds:List PyData} {xs:List V} (n:Nat),aJ K F ds xs→aJ K F (ds.drop n) (xs.drop n)
  | _,_,0,q=>q
  | [],_,n+1,q=>by simp only [aJ] at q;subst q;exact aJ.nil
  | d::ds,_,n+1,q=>by
    simp only [aJ] at q
    obtain⟨x,r,e,a,b⟩:=q
    subst e
    simpa using aJ.drop n b
theorem aJ.take:∀{ds:List PyData} {xs:List V} (n:Nat),aJ K F ds xs→aJ K F (ds.take n) (xs.take n)
  | _,_,0,q=>by simpa using aJ.nil
  | [],_,n+1,q=>by simp only [aJ] at q;subst q;exact aJ.nil
  | d::ds,_,n+1,q=>by
    simp only [aJ] at q
    obtain⟨x,r,e,a,b⟩:=q
    subst e
    simpa using aJ.cons a (aJ.take n b)
theorem aJ.erase:∀{ds:List PyData} {xs:List V} (n:Nat),aJ K F ds xs→aJ K F (ds.eraseIdx n) (xs.eraseIdx n)
  | [],_,_,q=>by simp only [aJ] at q;subst q;exact aJ.nil
  | e::ds,_,n,q=>by
    simp only [aJ] at q
    obtain⟨x,r,e,a,b⟩:=q
    subst e
    cases n with
    | zero=>exact b
    | succ n=>exact aJ.cons a (aJ.erase n b)
theorem aJ.ints:∀{ns:List Int} {xs:List V},aJ K F (ns.map .int) xs↔ xs=ns.map V.int
  | [],xs=>by simp [aJ]
  | n::ns,xs=>by
    simp only [List.map_cons,aJ,DA]
    constructor
    · rintro⟨x,r,e,rfl,q⟩;rw [e,aJ.ints.mp q]
    · rintro rfl;exact⟨_,_,rfl,rfl,aJ.ints.mpr rfl⟩
theorem aJ.bools:∀{ns:List Bool} {xs:List V},aJ K F (ns.map .bool) xs↔ xs=ns.map V.bl
  | [],xs=>by simp [aJ]
  | n::ns,xs=>by
    simp only [List.map_cons,aJ,DA]
    constructor
    · rintro⟨x,r,e,rfl,q⟩;rw [e,aJ.bools.mp q]
    · rintro rfl;exact⟨_,_,rfl,rfl,aJ.bools.mpr rfl⟩
theorem bY{i:Int}{v:V}:DA K F (.int i) v↔ v=.int i:=by simp only [DA]
theorem cA{b:Bool}{v:V}:DA K F (.bool b) v↔ v=.bl b:=by simp only [DA]
theorem gE{v:V}:DA K F .none v↔ v=.non:=by simp only [DA]
theorem rW{x:Str}{v:V}:DA K F (.str x) v↔ v=.str x:=by simp only [DA]
theorem cI{ds:List PyData}{v:V}:DA K F (.tuple ds) v↔ ∃a xs,v=.ref a∧cW K F a xs∧aJ K F ds xs:=by simp only [DA]
theorem eN{ds:List PyData}{v:V}:DA K F (.list ds) v↔ ∃a xs,v=.ref a∧gA K F a xs∧aJ K F ds xs:=by simp only [DA]
end
inductive Sv where
  | d (x:PyData)
  | l (xs:List PyData)
  /-- a list of lists that nobody else holds -/
  | n (xss:List (List PyData))
abbrev En:=List (Option Sv)
inductive Rv where
  | d (x:PyData)
  | l (xs:List PyData)
  | s (i:Nat)
def Fp(σ:L2.St)(e:En)(H:Hp)(i:Nat)(a:Addr):Prop:=(∃xs:List PyData,e[i]?=some (some (Sv.l xs))∧σ[i]?=some (some (.ref a)))∨
  ∃(xss:List (List PyData)) (l:Addr) (bs:List Addr),e[i]?=some (some (Sv.n xss))∧σ[i]?=some (some (.ref l))∧H l=some (.lst (bs.map V.ref))∧(a=l∨a∈bs)
def bR(σ:L2.St)(e:En)(H:Hp)(a:Addr):Prop:=∃i,Fp σ e H i a
structure aY (K:PySem.W.Frag) (F H:Hp) (σ:L2.St) (e:En):Prop where
  sm:av F H
  len:σ.length=e.length
  dat:∀(i:Nat) (x:PyData),e[i]?=some (some (.d x))→∃v,σ[i]?=some (some v)∧DA K F x v
  own:∀(i:Nat) (xs:List PyData),e[i]?=some (some (.l xs))→∃l vs,σ[i]?=some (some (.ref l))∧F l=none∧H l=some (.lst vs)∧aJ K F xs vs
  nst:∀(i:Nat) (xss:List (List PyData)),e[i]?=some (some (.n xss))→∃(l:Addr) (bs:List Addr),σ[i]?=some (some (.ref l))∧F l=none∧H l=some (.lst (bs.map V.ref))∧bs.length=xss.length∧bs.Nodup∧l∉bs∧
    ∀(k:Nat) (b:Addr) (ys:List PyData),bs[k]?=some b→xss[k]?=some ys→F b=none∧∃us,H b=some (.lst us)∧aJ K F ys us
  fp:∀(i j:Nat) (a:Addr),Fp σ e H i a→Fp σ e H j a→i=j
theorem aY.inj{K:PySem.W.Frag}{F H:Hp}{σ:L2.St}{e:En}(R:aY K F H σ e)(i j:Nat)(xs ys:List PyData)(l:Addr)(h1:e[i]?=some (some (.l xs)))(h2:e[j]?=some (some (.l ys)))(h3:σ[i]?=some (some (.ref l)))(h4:σ[j]?=some (some (.ref l))):i=j:=R.fp i j l (.inl ⟨xs,h1,h3⟩) (.inl ⟨ys,h2,h4⟩)
theorem aY.fpAt{K:PySem.W.Frag}{F H:Hp}{σ:L2.St}{e:En}(R:aY K F H σ e){i:Nat}{a:Addr}(h:Fp σ e H i a):F a=none∧∃vs,H a=some (.lst vs):=by
  rcases h with ⟨xs,h1,h2⟩ | ⟨xss,l,bs,h1,h2,h3,h4⟩
  · obtain⟨l,vs,g1,g2,g3,_⟩:=R.own i xs h1
    rw [h2] at g1;cases g1
    exact⟨g2,vs,g3⟩
  · obtain⟨l',bs',g1,g2,g3,g4,g5,g6,g7⟩:=R.nst i xss h1
    rw [h2] at g1;cases g1
    rw [h3] at g3
    have e1:bs=bs':=by
      have:=HO.lst.inj (Option.some.inj g3)
      exact List.map_inj_right (fun _ _ z=>V.ref.inj z) |>.mp this
    subst e1
    rcases h4 with rfl | h4
    · exact⟨g2,_,h3⟩
    · obtain⟨k,hk⟩:=List.getElem?_of_mem h4
      have hk2:k < xss.length:=by rw [←g4];exact(List.getElem?_eq_some_iff.mp hk).1
      obtain⟨c1,us,c2,_⟩:=g7 k a xss[k] hk (List.getElem?_eq_getElem hk2)
      exact⟨c1,us,c2⟩
structure ej (σ:L2.St) (F H:Hp) (e:En) (F' H':Hp) (e':En):Prop where
  sf:av F F'
  dom:∀a,H' a=none→H a=none
  fr:∀a vs,F a=none→H a=some (.lst vs)→¬bR σ e H a→F' a=none
  lst:∀a vs,H a=some (.lst vs)→∃vs',H' a=some (.lst vs')
  tmp:∀a o,H a=some o→¬bR σ e H a→H' a=some o
  shp:∀i:Nat,(∃xs,e'[i]?=some (some (.l xs)))↔ (∃xs,e[i]?=some (some (.l xs)))
  ow:∀a,bR σ e' H' a→bR σ e H a∨H a=none
  fd:∀a m,F a=none→H a=some (.dK m)→¬bR σ e H a→F' a=none
theorem ej.refl(σ:L2.St)(F H:Hp)(e:En):ej σ F H e F H e:=⟨av.refl _,fun _ h=>h,fun _ _ h _ _=>h,fun _ vs h=>⟨vs,h⟩,fun _ _ h _=>h,fun _=>Iff.rfl,fun _ h=>.inl h,fun _ _ h _ _=>h⟩
theorem ej.trans{σ:L2.St}{F H F1 H1 F2 H2:Hp}{e e1 e2:En}(x:ej σ F H e F1 H1 e1)(y:ej σ F1 H1 e1 F2 H2 e2):ej σ F H e F2 H2 e2:=
  ⟨x.sf.trans y.sf,fun a h=>x.dom a (y.dom a h),fun a vs h n no=>let ⟨vs',q⟩:=x.lst a vs n;y.fr a vs' (x.fr a vs h n no) q (fun z=>(x.ow a z).elim no fun z=>by rw [n] at z;cases z),fun a vs h=>let ⟨vs',q⟩:=x.lst a vs h;y.lst a vs' q,
    fun a o h n=>y.tmp a o (x.tmp a o h n) (fun z=>(x.ow a z).elim n fun z=>by rw [h] at z;cases z),fun i=>(y.shp i).trans (x.shp i),fun a h=>(y.ow a h).elim (x.ow a) fun z=>.inr (x.dom a z),fun a m h n no=>y.fd a m (x.fd a m h n no) (x.tmp a _ n no) (fun z=>(x.ow a z).elim no fun z=>by rw [n] at z;cases z)⟩
def cz(K:PySem.W.Frag)(σ:L2.St)(H0 F H:Hp)(e:En):Rv→V→Prop
  | .d x,v=>DA K F x v
  | .l xs,v=>∃l vs,v=.ref l∧H0 l=none∧F l=none∧H l=some (.lst vs)∧aJ K F xs vs∧¬bR σ e H l
  | .s i,v=>σ[i]?=some (some v)∧∃xs,e[i]?=some (some (.l xs))
section
variable{K:PySem.W.Frag}{σ:L2.St}{H0 F H F' H':Hp}{e e':En}{r:Rv}{v:V}
theorem cz.ext(h:cz K σ H0 F H e r v)(x:ej σ F H e F' H' e'):cz K σ H0 F' H' e' r v:=by
  cases r with
  | d y=>exact DA.mono x.sf h
  | l xs=>
    obtain⟨l,vs,e1,h1,h2,h3,h4,h5⟩:=h
    exact⟨l,vs,e1,h1,x.fr l _ h2 h3 h5,x.tmp l _ h3 h5,aJ.mono x.sf h4,fun z=>(x.ow l z).elim h5 fun z=>by rw [h3] at z;cases z⟩
  | s i=>exact⟨h.1,(x.shp i).mpr h.2⟩
theorem cz.weak{H1:Hp}(h:cz K σ H1 F H e r v)(d:∀a,H1 a=none→H0 a=none):cz K σ H0 F H e r v:=by
  cases r with
  | d y=>exact h
  | l xs=>
    obtain⟨l,vs,e1,h1,r⟩:=h
    exact⟨l,vs,e1,d l h1,r⟩
  | s i=>exact h
theorem aY.ownH(R:aY K F H σ e)(a:Addr)(h:bR σ e H a):H a≠none:=by
  obtain⟨i,h⟩:=h
  obtain⟨_,vs,h2⟩:=R.fpAt h
  rw [h2];simp
theorem aY.freeF(R:aY K F H σ e){p:Addr}(hp:H p=none):F p=none:=R.sm.free hp
theorem y9(R:aY K F H σ e)(h:∀l bs,H l=some (.lst bs)→bR σ e H l→H' l=some (.lst bs)){i:Nat}{a:Addr}:Fp σ e H' i a↔ Fp σ e H i a:=by
  have key:∀xss l,e[i]?=some (some (.n xss))→σ[i]?=some (some (.ref l))→H' l=H l:=fun xss l h1 h2=>by
    obtain⟨l',bs,g1,g2,g3,_⟩:=R.nst i xss h1
    rw [h2] at g1;cases g1
    rw [g3]
    exact h l _ g3 ⟨i,.inr ⟨xss,l,bs,h1,h2,g3,.inl rfl⟩⟩
  constructor
  · rintro(h1 | ⟨xss,l,bs,h1,h2,h3,h4⟩)
    · exact .inl h1
    · exact .inr ⟨xss,l,bs,h1,h2,by rw [←key xss l h1 h2];exact h3,h4⟩
  · rintro(h1 | ⟨xss,l,bs,h1,h2,h3,h4⟩)
    · exact .inl h1
    · exact .inr ⟨xss,l,bs,h1,h2,by rw [key xss l h1 h2];exact h3,h4⟩
theorem aY.keep(R:aY K F H σ e)(sF:av F F')(sm:av F' H')(hf:∀a,bR σ e H a→F' a=none)(hh:∀a o,bR σ e H a→H a=some o→H' a=some o):aY K F' H' σ e∧∀a,bR σ e H' a↔ bR σ e H a:=by
  have fs:∀{i a},Fp σ e H' i a↔ Fp σ e H i a:=fun{i a}=>y9 R fun l bs h1 h2=>hh l _ h2 h1
  refine⟨⟨sm,R.len,fun i x h=>let ⟨v,h1,h2⟩:=R.dat i x h;⟨v,h1,DA.mono sF h2⟩,fun i xs h=>?_,fun i xss h=>?_,fun i j a h1 h2=>R.fp i j a (fs.mp h1) (fs.mp h2)⟩,fun a=>⟨fun⟨i,h⟩=>⟨i,fs.mp h⟩,fun⟨i,h⟩=>⟨i,fs.mpr h⟩⟩⟩
  · obtain⟨l,vs,h1,h2,h3,h4⟩:=R.own i xs h
    have o:bR σ e H l:=⟨i,.inl ⟨xs,h,h1⟩⟩
    exact⟨l,vs,h1,hf l o,hh l _ o h3,h4.mono sF⟩
  · obtain⟨l,bs,h1,h2,h3,h4,h5,h6,h7⟩:=R.nst i xss h
    have o:bR σ e H l:=⟨i,.inr ⟨xss,l,bs,h,h1,h3,.inl rfl⟩⟩
    refine⟨l,bs,h1,hf l o,hh l _ o h3,h4,h5,h6,fun k b ys g1 g2=>?_⟩
    obtain⟨c1,us,c2,c3⟩:=h7 k b ys g1 g2
    have ob:bR σ e H b:=⟨i,.inr ⟨xss,l,bs,h,h1,h3,.inr (List.mem_of_getElem? g1)⟩⟩
    exact⟨hf b ob,us,hh b _ ob c2,c3.mono sF⟩
theorem aY.same(R:aY K F H σ e)(s:av H H'):aY K F H' σ e∧ej σ F H e F H' e:=by
  obtain⟨R',o'⟩:=R.keep (av.refl F) (R.sm.trans s) (fun a ⟨i,h⟩=>(R.fpAt h).1) fun a o _ h=>s a o h
  exact⟨R',⟨av.refl _,fun a h=>s.free h,fun _ _ h _ _=>h,fun a vs h=>⟨vs,s _ _ h⟩,fun a o h _=>s a o h,fun _=>Iff.rfl,fun a h=>.inl ((o' a).mp h),fun _ _ h _ _=>h⟩⟩
theorem aY.freeze(R:aY K F H σ e){p:Addr}{o:HO}(hF:F p=none)(hp:H p=some o)(hn:¬bR σ e H p):aY K (aV F p o) H σ e∧av F (aV F p o):=by
  have sF:av F (aV F p o):=av.new hF
  refine⟨(R.keep sF (fun b u q=>?_) (fun a ha=>?_) fun _ _ _ h=>h).1,sF⟩
  · by_cases z:b=p
    · subst z;rw [ax] at q;cases q;exact hp
    · rw [aB z] at q;exact R.sm _ _ q
  · obtain⟨i,hi⟩:=ha
    have z:a≠p:=fun z=>hn ⟨i,by rw [←z];exact hi⟩
    rw [aB z];exact(R.fpAt hi).1
theorem aY.notOwn(R:aY K F H σ e){p:Addr}{o:HO}(hp:H p=some o)(hl:∀vs,o≠.lst vs):¬bR σ e H p:=fun⟨i,h⟩=>by
  obtain⟨_,vs,g⟩:=R.fpAt h
  rw [hp] at g;cases g
  exact hl _ rfl
theorem aY.newT(R:aY K F H σ e){p:Addr}{vs:List V}(hp:H p=none):aY K (aV F p (.tup vs)) (aV H p (.tup vs)) σ e∧ej σ F H e (aV F p (.tup vs)) (aV H p (.tup vs)) e:=by
  have hF:=R.freeF hp
  obtain⟨R1,X1⟩:=R.same (av.new hp (o:=.tup vs))
  obtain⟨R2,s2⟩:=R1.freeze (p:=p) hF ax (R1.notOwn ax (fun _ z=>nomatch z))
  refine⟨R2,⟨s2,X1.dom,fun a ws h n _=>?_,X1.lst,X1.tmp,X1.shp,X1.ow,fun a ws h n _=>?_⟩⟩
  all_goals
    have z:a≠p:=fun z=>by rw [z,hp] at n;cases n
    rw [aB z];exact h
theorem aY.sameOwn(R:aY K F H σ e)(s:av H H')(a:Addr):bR σ e H' a↔ bR σ e H a:=(R.keep (av.refl F) (R.sm.trans s) (fun a ⟨i,h⟩=>(R.fpAt h).1) fun a o _ h=>s a o h).2 a
theorem aY.newL(R:aY K F H σ e){p:Addr}{vs:List V}(hp:H p=none):aY K F (aV H p (.lst vs)) σ e∧ej σ F H e F (aV H p (.lst vs)) e∧F p=none∧¬bR σ e (aV H p (.lst vs)) p:=
  ⟨(R.same (av.new hp)).1,(R.same (av.new hp)).2,R.freeF hp,fun z=>R.ownH p ((R.sameOwn (av.new hp) p).mp z) hp⟩
theorem aY.growT(R:aY K F H σ e){p:Addr}{xs:List V}(s:av H H')(hp:cW K H' p xs):∃F',aY K F' H' σ e∧ej σ F H e F' H' e∧cW K F' p xs:=by
  obtain⟨R1,X1⟩:=R.same s
  rcases hp with hp | hp
  · have key:∀o,H' p=some o→(∀vs,o≠.lst vs)→(∀m,o≠.dK m)→(∀G:Hp,G p=some o→Rd G p (.tup xs))→∃F',aY K F' H' σ e∧ej σ F H e F' H' e∧cW K F' p xs:=by
      intro o ho hl hm hr
      cases q:F p with
      | some u=>
        have:=R1.sm _ _ q
        rw [ho] at this;cases this
        exact⟨F,R1,X1,.inl (hr F q)⟩
      | none=>
        obtain⟨R2,s2⟩:=R1.freeze q ho (R1.notOwn ho hl)
        refine⟨_,R2,⟨s2,X1.dom,fun a ws h n _=>?_,X1.lst,X1.tmp,X1.shp,X1.ow,fun a ws h n _=>?_⟩,.inl (hr _ ax)⟩
        · have z:a≠p:=fun z=>by rw [z] at n;rw [s _ _ n] at ho;cases ho;exact hl _ rfl
          rw [aB z];exact h
        · have z:a≠p:=fun z=>by rw [z] at n;rw [s _ _ n] at ho;cases ho;exact hm _ rfl
          rw [aB z];exact h
    rcases hp with hp | ⟨ob,hp⟩
    · exact key _ hp (fun _ z=>nomatch z) (fun _ z=>nomatch z) fun G g=>.inl g
    · exact key _ hp (fun _ z=>nomatch z) (fun _ z=>nomatch z) fun G g=>.inr ⟨ob,g⟩
  · exact⟨F,R1,X1,.inr hp⟩
theorem cz.frozen(R:aY K F H σ e){xs:List PyData}(h:cz K σ H0 F H e (.l xs) v):∃F',aY K F' H σ e∧av F F'∧DA K F' (.list xs) v∧(∀a,F a=none→H0 a≠none→F' a=none):=by
  obtain⟨l,vs,rfl,h1,h2,h3,h4,h5⟩:=h
  obtain⟨R2,s2⟩:=R.freeze h2 h3 h5
  refine⟨_,R2,s2,?_,fun a ha hn=>?_⟩
  · rw [eN]
    exact⟨l,vs,rfl,.inl (.inl ax),aJ.mono s2 h4⟩
  · have z:a≠l:=fun z=>hn (by rw [z];exact h1)
    rw [aB z];exact ha
def cZ(e:En):Rv→Option (Bool × List PyData)
  | .d (.tuple xs)=>some (false,xs)
  | .d (.list xs)=>some (true,xs)
  | .l xs=>some (true,xs)
  | .s i=>match e[i]? with
    | some (some (.l xs))=>some (true,xs)
    | _=>none
  | _=>none
theorem ce(R:aY K F H σ e)(h:cz K σ H0 F H e r v){b:Bool}{xs:List PyData}(q:cZ e r=some (b,xs)):
    ∃p vs,v=.ref p∧aJ K F xs vs∧(if b=true then gA K H p vs else cW K H p vs):=by
  cases r with
  | d x=>
    cases x with
    | tuple ds=>
      cases q
      obtain⟨a,ys,e1,e2,e3⟩:=cI.mp h
      exact⟨a,ys,e1,e3,R.sm.tup e2⟩
    | list ds=>
      cases q
      obtain⟨a,ys,e1,e2,e3⟩:=eN.mp h
      exact⟨a,ys,e1,e3,R.sm.seq e2⟩
    | _=>cases q
  | l ys=>
    cases q
    obtain⟨l,vs,e1,h1,h2,h3,h4,_⟩:=h
    exact⟨l,vs,e1,h4,.inl (.inl h3)⟩
  | s i=>
    obtain⟨h1,ys,h2⟩:=h
    simp only [cZ,h2] at q
    cases q
    obtain⟨l,vs,e1,e2,e3,e4⟩:=R.own i _ h2
    rw [h1] at e1;cases e1
    exact⟨l,vs,rfl,e4,.inl (.inl e3)⟩
end
end L2
namespace L2
open PySem PySem.Spec PyProof.Rows
abbrev FE:=En→Option (Rv × En)
abbrev FT:=En→Option (Bool × En)
abbrev FA:=En→Option (List Rv × En)
def dD(K:PySem.W.Frag)(σ:L2.St)(H0 F H:Hp)(e:En):List Rv→List V→Prop
  | [],vs=>vs=[]
  | r::rs,vs=>∃v ws,vs=v::ws∧cz K σ H0 F H e r v∧dD K σ H0 F H e rs ws
def fE(K:PySem.W.Frag)(f:FE):TE:=fun σ H Q=>∃F e r e',aY K F H σ e∧f e=some (r,e')∧∀F' H' v,ej σ F H e F' H' e'→aY K F' H' σ e'→cz K σ H F' H' e' r v→Q v H'
def fT(K:PySem.W.Frag)(f:FT):TT:=fun σ H Q=>∃F e b e',aY K F H σ e∧f e=some (b,e')∧∀F' H',ej σ F H e F' H' e'→aY K F' H' σ e'→Q b H'
def fA(K:PySem.W.Frag)(f:FA):TA:=fun σ H Q=>∃F e rs e',aY K F H σ e∧f e=some (rs,e')∧∀F' H' vs,ej σ F H e F' H' e'→aY K F' H' σ e'→dD K σ H F' H' e' rs vs→Q vs H'
theorem PE.mono{X:Cx}{e:Expr}{t t':TE}(h:PE X e t)(m:∀σ H Q,t' σ H Q→t σ H Q):PE X e t':=fun pins s σ H Q I q=>h pins s σ H Q I (m σ H Q q)
theorem PT.mono{X:Cx}{e:Expr}{t t':TT}(h:PT X e t)(m:∀σ H Q,t' σ H Q→t σ H Q):PT X e t':=fun pins s σ H Q I q=>h pins s σ H Q I (m σ H Q q)
theorem PW.mono{X:Cx}{e:Expr}{t t':TT}(h:PW X e t)(m:∀σ H Q,t' σ H Q→t σ H Q):PW X e t':=fun wh pins s σ H Q I q=>h wh pins s σ H Q I (m σ H Q q)
theorem PA.mono{X:Cx}{es:List Expr}{t t':TA}(h:PA X es t)(m:∀σ H Q,t' σ H Q→t σ H Q):PA X es t':=fun pos pins s σ H Q I q=>h pos pins s σ H Q I (m σ H Q q)
section
variable{K:PySem.W.Frag}{σ:L2.St}{H0 F H F' H':Hp}{e e':En}
theorem dD.weak{H1:Hp}(d:∀a,H1 a=none→H0 a=none):∀{rs:List Rv} {vs:List V},dD K σ H1 F H e rs vs→dD K σ H0 F H e rs vs
  | [],_,h=>h
  | r::rs,_,h=>by
    obtain⟨v,ws,rfl,h1,h2⟩:=h
    exact⟨v,ws,rfl,h1.weak d,dD.weak d h2⟩
theorem ej.frz{F'':Hp}(x:ej σ F H e F' H' e')(s:av F' F'')(h:∀a,F' a=none→H a≠none→F'' a=none):ej σ F H e F'' H' e':=
  ⟨x.sf.trans s,x.dom,fun a vs h1 h2 h3=>h a (x.fr a vs h1 h2 h3) (by rw [h2];simp),x.lst,x.tmp,x.shp,x.ow,fun a m h1 h2 h3=>h a (x.fd a m h1 h2 h3) (by rw [h2];simp)⟩
def jX:List Rv→Option (List PyData)
  | []=>some []
  | .d x::rs=>(jX rs).map (x::·)
  | .l xs::rs=>(jX rs).map (.list xs::·)
  | .s _::_=>none
theorem dD.frozen:∀{rs:List Rv} {vs:List V} {ds:List PyData} {F:Hp},aY K F H σ e→dD K σ H0 F H e rs vs→jX rs=some ds→
    ∃F',aY K F' H σ e∧av F F'∧aJ K F' ds vs∧(∀a,F a=none→H0 a≠none→F' a=none)
  | [],_,_,F,R,h,q=>by
    cases q
    have h':_=[]:=h
    subst h'
    exact⟨F,R,av.refl _,aJ.nil,fun _ h _=>h⟩
  | .d x::rs,_,ds,F,R,h,q=>by
    obtain⟨v,ws,rfl,h1,h2⟩:=h
    obtain⟨ds',q1,rfl⟩:=Option.map_eq_some_iff.mp q
    obtain⟨F',R',s',d',f'⟩:=dD.frozen R h2 q1
    exact⟨F',R',s',.cons (DA.mono s' h1) d',f'⟩
  | .l xs::rs,_,ds,F,R,h,q=>by
    obtain⟨v,ws,rfl,h1,h2⟩:=h
    obtain⟨ds',q1,rfl⟩:=Option.map_eq_some_iff.mp q
    obtain⟨F',R',s',d',f'⟩:=dD.frozen R h2 q1
    obtain⟨l,us,rfl,g1,g2,g3,g4,g5⟩:=h1
    cases hl:F' l with
    | none=>
      have h1':cz K σ H0 F' H e (.l xs) (.ref l):=⟨l,us,rfl,g1,hl,g3,aJ.mono s' g4,g5⟩
      obtain⟨F2,R2,s2,d2,f2⟩:=h1'.frozen R'
      exact⟨F2,R2,s'.trans s2,.cons d2 (aJ.mono s2 d'),fun a ha hn=>f2 a (f' a ha hn) hn⟩
    | some o=>
      have:=R'.sm _ _ hl
      rw [g3] at this;cases this
      exact⟨F',R',s',.cons (eN.mpr ⟨l,us,rfl,.inl (.inl hl),aJ.mono s' g4⟩) d',f'⟩
end
section
variable{X:Cx}{K:PySem.W.Frag}{a b c:Expr}{fa fb:FE}{ft fu:FT}{pos:Pos}{es:List Expr}{fs:FA}
def ae(i:Nat):FE:=fun e=>match e[i]? with
  | some (some (.d x))=>some (.d x,e)
  | some (some (.l _))=>some (.s i,e)
  | _=>none
def vC(x:PyData):FE:=fun e=>some (.d x,e)
theorem AI{i:Nat}{σ:L2.St}{H:Hp}{Q:VK}(h:fE K (ae i) σ H Q):pY i σ H Q:=by
  obtain⟨F,e,r,e',R,hf,q⟩:=h
  unfold ae at hf
  match h1:e[i]?,hf with
  | some (some (.d x)),hf=>
    cases hf
    obtain⟨v,h2,h3⟩:=R.dat i x h1
    exact⟨v,h2,q F H v (ej.refl _ _ _ _) R h3⟩
  | some (some (.n _)),hf=>cases hf
  | some (some (.l xs)),hf=>
    cases hf
    obtain⟨l,vs,h2,h3⟩:=R.own i xs h1
    exact⟨_,h2,q F H _ (ej.refl _ _ _ _) R ⟨h2,xs,h1⟩⟩
  | some none,hf=>cases hf
  | none,hf=>cases hf
theorem qv(i:Nat){x:Str}{pos:Pos}(hN:X.N[i]?=some x)(hv:DG X.env.scope x)(hd:(x==("__debug__":Str))=false)(hcd:(x==("__classdict__":Str))=false):PE X (.Name x pos) (fE K (ae i)):=(i5 hN hv hd hcd).mono fun _ _ _ h=>AI h
theorem rD{x:PyData}{v:V}{σ:L2.St}{H:Hp}{Q:VK}(hx:∀F,DA K F x v)(h:fE K (vC x) σ H Q):tC v σ H Q:=by
  obtain⟨F,e,r,e',R,hf,q⟩:=h
  cases hf
  exact q F H v (ej.refl _ _ _ _) R (hx F)
theorem af{i j pos}:PE X (.Constant (.int i) j pos) (fE K (vC (.int i))):=CK.mono fun _ _ _ h=>rD (fun _=>bY.mpr rfl) h
theorem iG{b j pos}:PE X (.Constant (.bool b) j pos) (fE K (vC (.bool b))):=EF.mono fun _ _ _ h=>rD (fun _=>cA.mpr rfl) h
theorem x4{j pos}:PE X (.Constant .none j pos) (fE K (vC .none)):=CM.mono fun _ _ _ h=>rD (fun _=>gE.mpr rfl) h
theorem pQ{x j pos}:PE X (.Constant (.str x) j pos) (fE K (vC (.str x))):=CP.mono fun _ _ _ h=>rD (fun _=>rW.mpr rfl) h
theorem Ag{x:Str}{v:V}{u:Value}{pos:Pos}{y:PyData}(hg:Gl X x)(hm:X.mg x=some u)(r:a_ v u)(hy:∀F,DA K F y v)(hd:(x==("__debug__":Str))=false):PE X (.Name x pos) (fE K (vC y)):=(zP hg hm r hd).mono fun _ _ _ h=>rD hy h
def gB(K:PySem.W.Frag)(r:R2)(g:En→Rv→Rv→Option Rv):Prop:=
  ∀(σ:L2.St) (H0 F H:Hp) (e:En) (x y z:Rv) (v u:V) (Q:VK),aY K F H σ e→cz K σ H0 F H e x v→cz K σ H0 F H e y u→g e x y=some z→
    (∀F' H' w,ej σ F H e F' H' e→aY K F' H' σ e→cz K σ H F' H' e z w→Q w H')→r v u H Q
def az(g:En→Rv→Rv→Option Rv)(fa fb:FE):FE:=fun e=>(fa e).bind fun p=>(fb p.2).bind fun q=>(g q.2 p.1 q.1).map fun z=>(z,q.2)
theorem m5{r:R2}{g:En→Rv→Rv→Option Rv}(ho:gB K r g){σ:L2.St}{H:Hp}{Q:VK}(h:fE K (az g fa fb) σ H Q):Fs r (fE K fa) (fE K fb) σ H Q:=by
  obtain⟨F,e,z,e2,R,hf,q⟩:=h
  unfold az at hf
  obtain⟨⟨x,e1⟩,h1,hf⟩:=Option.bind_eq_some_iff.mp hf
  obtain⟨⟨y,e2'⟩,h2,hf⟩:=Option.bind_eq_some_iff.mp hf
  obtain⟨z',h3,hf⟩:=Option.map_eq_some_iff.mp hf
  cases hf
  refine⟨F,e,x,e1,R,h1,fun F1 H1 v X1 R1 A1=>⟨F1,e1,y,_,R1,h2,fun F2 H2 u X2 R2 A2=>?_⟩⟩
  have X12:=X1.trans X2
  refine ho σ H F2 H2 _ x y _ v u Q R2 (A1.ext X2) (A2.weak X1.dom) h3 fun F3 H3 w X3 R3 A3=>?_
  exact q F3 H3 w (X12.trans X3) R3 (A3.weak X12.dom)
theorem oD{op:Operator}{r:R2}{g:En→Rv→Rv→Option Rv}(hr:gK X (binaryOp op) r)(ho:gB K r g)(ha:PE X a (fE K fa))(hb:PE X b (fE K fb)):PE X (.BinOp a op b pos) (fE K (az g fa fb)):=(EH hr ha hb).mono fun _ _ _ h=>m5 ho h
theorem C6{op:CmpOp}{r:R2}{g:En→Rv→Rv→Option Rv}(hr:gK X (compareOp op) r)(ho:gB K r g)(ha:PE X a (fE K fa))(hb:PE X b (fE K fb))(hm:behindInMarks op b=false):PE X (.Compare a [op] [b] pos) (fE K (az g fa fb)):=(zM hr ha hb hm).mono fun _ _ _ h=>m5 ho h
theorem ES{r:R2}{g:En→Rv→Rv→Option Rv}(hr:yR X r)(ho:gB K r g)(ha:PE X a (fE K fa))(hb:PE X b (fE K fb))(hs:oS b):PE X (.Subscript a b pos) (fE K (az g fa fb)):=(EG hr ha hb hs).mono fun _ _ _ h=>m5 ho h
def uB(g:En→Rv→Option Rv)(fa:FE):FE:=fun e=>(fa e).bind fun p=>(g p.2 p.1).map fun z=>(z,p.2)
def DF(K:PySem.W.Frag)(r:V→Hp→VK→Prop)(g:En→Rv→Option Rv):Prop:=
  ∀(σ:L2.St) (H0 F H:Hp) (e:En) (x z:Rv) (v:V) (Q:VK),aY K F H σ e→cz K σ H0 F H e x v→g e x=some z→
    (∀F' H' w,ej σ F H e F' H' e→aY K F' H' σ e→cz K σ H F' H' e z w→Q w H')→r v H Q
theorem sU{r:V→Hp→VK→Prop}{g:En→Rv→Option Rv}(ho:DF K r g){σ:L2.St}{H:Hp}{Q:VK}(h:fE K (uB g fa) σ H Q):G7 r (fE K fa) σ H Q:=by
  obtain⟨F,e,z,e2,R,hf,q⟩:=h
  unfold uB at hf
  obtain⟨⟨x,e1⟩,h1,hf⟩:=Option.bind_eq_some_iff.mp hf
  obtain⟨z',h3,hf⟩:=Option.map_eq_some_iff.mp hf
  cases hf
  refine⟨F,e,x,_,R,h1,fun F1 H1 v X1 R1 A1=>?_⟩
  refine ho σ H F1 H1 _ x _ v Q R1 A1 h3 fun F3 H3 w X3 R3 A3=>?_
  exact q F3 H3 w (X1.trans X3) R3 (A3.weak X1.dom)
theorem EU{op:UnaryOp}{r:V→Hp→VK→Prop}{g:En→Rv→Option Rv}(hr:FP X (unaryOp op) r)(ho:DF K r g)(ha:PE X a (fE K fa)):PE X (.UnaryOp op a pos) (fE K (uB g fa)):=(EK hr ha).mono fun _ _ _ h=>sU ho h
def fL:Rv→Option Bool
  | .d (.bool b)=>some b
  | _=>none
theorem fy{σ:L2.St}{H0 F H:Hp}{e:En}{r:Rv}{v:V}{b:Bool}(h:cz K σ H0 F H e r v)(q:fL r=some b):v=.bl b:=by
  unfold fL at q
  split at q
  · cases q;exact cA.mp (show DA K F (.bool _) v from h)
  · cases q
theorem ez{σ:L2.St}{H0 F H:Hp}{e:En}{b:Bool}:cz K σ H0 F H e (.d (.bool b)) (.bl b):=(cA (K:=K) (F:=F)).mpr rfl
def a7(f:FE):FT:=fun e=>(f e).bind fun p=>(fL p.1).map fun b=>(b,p.2)
theorem rK{σ:L2.St}{H:Hp}{Q:Bool→Hp→Prop}(h:fT K (a7 fa) σ H Q):fE K fa σ H fun x H'=>∃k,x=.bl k∧Q k H':=by
  obtain⟨F,e,b,e1,R,hf,q⟩:=h
  unfold a7 at hf
  obtain⟨⟨x,e1'⟩,h1,hf⟩:=Option.bind_eq_some_iff.mp hf
  obtain⟨b',h3,hf⟩:=Option.map_eq_some_iff.mp hf
  cases hf
  exact⟨F,e,x,_,R,h1,fun F1 H1 v X1 R1 A1=>⟨_,fy A1 h3,q F1 H1 X1 R1⟩⟩
theorem C'{op:CmpOp}{r:R2}{g:En→Rv→Rv→Option Rv}(hr:gK X (compareOp op) r)(ho:gB K r g)(ha:PE X a (fE K fa))(hb:PE X b (fE K fb))(hm:behindInMarks op b=false):PT X (.Compare a [op] [b] pos) (fT K (a7 (az g fa fb))):=
  (z9 hr ha hb hm).mono fun σ H Q h=>by
    obtain⟨F,e,z,e2,R,hf,q⟩:=rK h
    exact m5 ho ⟨F,e,z,e2,R,hf,q⟩
theorem mT{e:Expr}(h:PE X e (fE K fa))(he:∀whole,isTrue e X.env whole=(do let v ←whole;standAt e.pos;holding [v] (truthy v))):PT X e (fT K (a7 fa)):=(C0 h he).mono fun _ _ _ h=>rK h
def vG(f g:FT):FT:=fun e=>(f e).bind fun p=>if p.1=true then g p.2 else some (false,p.2)
def yO(f g:FT):FT:=fun e=>(f e).bind fun p=>if p.1=true then some (true,p.2) else g p.2
def nH(f:FT):FT:=fun e=>(f e).map fun p=>(!p.1,p.2)
theorem AG{σ:L2.St}{H:Hp}{Q:Bool→Hp→Prop}(h:fT K (vG ft fu) σ H Q):Fi (fT K ft) (fT K fu) σ H Q:=by
  obtain⟨F,e,b,e1,R,hf,q⟩:=h
  unfold vG at hf
  obtain⟨⟨x,e1'⟩,h1,hf⟩:=Option.bind_eq_some_iff.mp hf
  refine⟨F,e,x,e1',R,h1,fun F1 H1 X1 R1=>?_⟩
  cases x with
  | true=>exact⟨F1,e1',b,e1,R1,hf,fun F2 H2 X2 R2=>q F2 H2 (X1.trans X2) R2⟩
  | false=>cases hf;exact q F1 H1 X1 R1
theorem Dx{σ:L2.St}{H:Hp}{Q:Bool→Hp→Prop}(h:fT K (yO ft fu) σ H Q):G5 (fT K ft) (fT K fu) σ H Q:=by
  obtain⟨F,e,b,e1,R,hf,q⟩:=h
  unfold yO at hf
  obtain⟨⟨x,e1'⟩,h1,hf⟩:=Option.bind_eq_some_iff.mp hf
  refine⟨F,e,x,e1',R,h1,fun F1 H1 X1 R1=>?_⟩
  cases x with
  | false=>exact⟨F1,e1',b,e1,R1,hf,fun F2 H2 X2 R2=>q F2 H2 (X1.trans X2) R2⟩
  | true=>cases hf;exact q F1 H1 X1 R1
theorem AH{σ:L2.St}{H:Hp}{Q:Bool→Hp→Prop}(h:fT K (nH ft) σ H Q):Fo (fT K ft) σ H Q:=by
  obtain⟨F,e,b,e1,R,hf,q⟩:=h
  unfold nH at hf
  obtain⟨⟨x,e1'⟩,h1,hf⟩:=Option.map_eq_some_iff.mp hf
  cases hf
  exact⟨F,e,x,_,R,h1,fun F1 H1 X1 R1=>q F1 H1 X1 R1⟩
variable{d_:List Expr}
theorem Al(ha:PT X a (fT K ft)):PW X (.BoolOp .And [a] pos) (fT K ft):=Ad ha
theorem pS(ha:PT X a (fT K ft)):PW X (.BoolOp .Or [a] pos) (fT K ft):=C2 ha
theorem Da(ha:PT X a (fT K ft))(hb:PW X (.BoolOp .And (b::d_) pos) (fT K fu)):PW X (.BoolOp .And (a::b::d_) pos) (fT K (vG ft fu)):=(C1 ha hb).mono fun _ _ _ h=>AG h
theorem qX(ha:PT X a (fT K ft))(hb:PW X (.BoolOp .Or (b::d_) pos) (fT K fu)):PW X (.BoolOp .Or (a::b::d_) pos) (fT K (yO ft fu)):=(EN ha hb).mono fun _ _ _ h=>Dx h
theorem mS(ha:PT X a (fT K ft)):PT X (.UnaryOp .Not a pos) (fT K (nH ft)):=(CZ ha).mono fun _ _ _ h=>AH h
theorem x9{e:Expr}(h:PW X e (fT K ft)):PT X e (fT K ft):=h.pt
def lU(f g:FE):FE:=fun e=>(f e).bind fun p=>(fL p.1).bind fun b=>if b=true then g p.2 else some (.d (.bool false),p.2)
def FB(f g:FE):FE:=fun e=>(f e).bind fun p=>(fL p.1).bind fun b=>if b=true then some (.d (.bool true),p.2) else g p.2
def rH(f:FE):FE:=fun e=>(f e).bind fun p=>(fL p.1).map fun b=>(.d (.bool (!b)),p.2)
theorem pO(ha:PE X a (fE K fa))(hb:PE X (.BoolOp .And (b::d_) pos) (fE K fb)):PE X (.BoolOp .And (a::b::d_) pos) (fE K (lU fa fb)):=(CH ha hb).mono fun σ H Q h=>by
  obtain⟨F,e,z,e2,R,hf,q⟩:=h
  unfold lU at hf
  obtain⟨⟨x,e1⟩,h1,hf⟩:=Option.bind_eq_some_iff.mp hf
  obtain⟨b,h2,hf⟩:=Option.bind_eq_some_iff.mp hf
  refine⟨F,e,x,e1,R,h1,fun F1 H1 v X1 R1 A1=>⟨b,fy A1 h2,?_⟩⟩
  cases b with
  | true=>exact⟨F1,e1,z,e2,R1,hf,fun F2 H2 w X2 R2 A2=>q F2 H2 w (X1.trans X2) R2 (A2.weak X1.dom)⟩
  | false=>cases hf;exact q F1 H1 _ X1 R1 ez
theorem pP{op}(h:PE X a (fE K fa)):PE X (.BoolOp op [a] pos) (fE K fa):=CO h
theorem C8(ha:PE X a (fE K fa)):PE X (.UnaryOp .Not a pos) (fE K (rH fa)):=(CN ha).mono fun σ H Q h=>by
  obtain⟨F,e,z,e2,R,hf,q⟩:=h
  unfold rH at hf
  obtain⟨⟨x,e1⟩,h1,hf⟩:=Option.bind_eq_some_iff.mp hf
  obtain⟨b,h2,hf⟩:=Option.map_eq_some_iff.mp hf
  cases hf
  exact⟨F,e,x,_,R,h1,fun F1 H1 v X1 R1 A1=>⟨b,fy A1 h2,q F1 H1 _ X1 R1 ez⟩⟩
def G8(t:FT)(f g:FE):FE:=fun e=>(t e).bind fun p=>if p.1=true then f p.2 else g p.2
def i_(g g':En→Rv→Rv→Option Rv)(fa fb fc:FE):FE:=fun e=>(fa e).bind fun p=>(fb p.2).bind fun q=>(g q.2 p.1 q.1).bind fun z=>(fL z).bind fun k=>if k=true then(fc q.2).bind fun w=>(g' w.2 q.1 w.1).map fun z'=>(z',w.2) else some (.d (.bool false),q.2)
theorem vH{r r':R2}{g g':En→Rv→Rv→Option Rv}{fc:FE}(ho:gB K r g)(ho':gB K r' g'){σ:L2.St}{H:Hp}{Q:VK}(h:fE K (i_ g g' fa fb fc) σ H Q):yp r r' (fE K fa) (fE K fb) (fE K fc) σ H Q:=by
  obtain⟨F,e,z,e4,R,hf,q⟩:=h
  unfold i_ at hf
  obtain⟨⟨x,e1⟩,h1,hf⟩:=Option.bind_eq_some_iff.mp hf
  obtain⟨⟨y,e2⟩,h2,hf⟩:=Option.bind_eq_some_iff.mp hf
  obtain⟨z',h3,hf⟩:=Option.bind_eq_some_iff.mp hf
  obtain⟨k,h4,hf⟩:=Option.bind_eq_some_iff.mp hf
  refine⟨F,e,x,e1,R,h1,fun F1 H1 v X1 R1 A1=>⟨F1,e1,y,e2,R1,h2,fun F2 H2 u X2 R2 A2=>?_⟩⟩
  have X12:=X1.trans X2
  refine ho σ H F2 H2 e2 x y z' v u _ R2 (A1.ext X2) (A2.weak X1.dom) h3 fun F3 H3 w X3 R3 A3=>⟨k,fy A3 h4,?_⟩
  have X13:=X12.trans X3
  cases k with
  | false=>
    cases hf
    exact q F3 H3 _ X13 R3 ez
  | true=>
    obtain⟨⟨w',e3⟩,h5,hf⟩:=Option.bind_eq_some_iff.mp hf
    obtain⟨z2,h6,hf⟩:=Option.map_eq_some_iff.mp hf
    cases hf
    refine⟨F3,_,w',_,R3,h5,fun F4 H4 u4 X4 R4 A4=>?_⟩
    have X14:=X13.trans X4
    refine ho' σ H F4 H4 _ y w' _ u u4 Q R4 (((A2.weak X1.dom).ext X3).ext X4) (A4.weak X13.dom) h6 fun F5 H5 w5 X5 R5 A5=>?_
    exact q F5 H5 w5 (X14.trans X5) R5 (A5.weak X14.dom)
theorem xZ{op op':CmpOp}{r r':R2}{g g':En→Rv→Rv→Option Rv}{fc:FE}(hr:gK X (compareOp op) r)(ho:gB K r g)(hr':gK X (compareOp op') r')(ho':gB K r' g')(ha:PE X a (fE K fa))(hb:PE X b (fE K fb))(hc:PE X c (fE K fc))
    (hm:lastMarks [op,op'] [b,c]=false):PE X (.Compare a [op,op'] [b,c] pos) (fE K (i_ g g' fa fb fc)):=(xB hr hr' ha hb hc hm).mono fun _ _ _ h=>vH ho ho' h
def ai:FA:=fun e=>some ([],e)
def ab(fa:FE)(fs:FA):FA:=fun e=>(fa e).bind fun p=>(fs p.2).map fun q=>(p.1::q.1,q.2)
theorem ac:PA X [] (fA K ai):=k_.mono fun σ H Q h=>by
  obtain⟨F,e,r,e',R,hf,q⟩:=h
  cases hf
  exact q F H [] (ej.refl _ _ _ _) R rfl
theorem GC(ha:PE X a (fE K fa))(hr:PA X es (fA K fs))(h:PySem.W.isStarred a=false):PA X (a::es) (fA K (ab fa fs)):=(ED ha hr h).mono fun σ H Q h=>by
  obtain⟨F,e,z,e2,R,hf,q⟩:=h
  unfold ab at hf
  obtain⟨⟨x,e1⟩,h1,hf⟩:=Option.bind_eq_some_iff.mp hf
  obtain⟨⟨xs,e2'⟩,h2,hf⟩:=Option.map_eq_some_iff.mp hf
  cases hf
  refine⟨F,e,x,e1,R,h1,fun F1 H1 v X1 R1 A1=>⟨F1,e1,xs,_,R1,h2,fun F2 H2 vs X2 R2 A2=>?_⟩⟩
  exact q F2 H2 (v::vs) (X1.trans X2) R2 ⟨v,vs,rfl,A1.ext X2,A2.weak X1.dom⟩
def dc(fs:FA):FE:=fun e=>(fs e).bind fun p=>(jX p.1).bind fun ds=>if ds.length≤1000 then some (.d (.tuple ds),p.2) else none
def eQ(fs:FA):FE:=fun e=>(fs e).bind fun p=>(jX p.1).bind fun ds=>if ds.length≤1000 then some (.l ds,p.2) else none
theorem bf{x1}(h:PA X es (fA K fs)):PE X (.Tuple es x1 pos) (fE K (dc fs)):=(CQ h).mono fun σ H Q h=>by
  obtain⟨F,e,z,e2,R,hf,q⟩:=h
  unfold dc at hf
  obtain⟨⟨rs,e1⟩,h1,hf⟩:=Option.bind_eq_some_iff.mp hf
  obtain⟨ds,h2,hf⟩:=Option.bind_eq_some_iff.mp hf
  split at hf
  case isFalse=>cases hf
  case isTrue hl=>
  cases hf
  refine⟨F,e,rs,_,R,h1,fun F1 H1 vs X1 R1 A1=>?_⟩
  obtain⟨F2,R2,s2,d2,f2⟩:=dD.frozen R1 A1 h2
  have hlen:=d2.len
  refine⟨Nat.le_of_lt (oI (by lia)),fun p hp=>?_⟩
  obtain⟨R3,X3⟩:=R2.newT (vs:=vs) hp
  exact q _ _ _ ((X1.frz s2 f2).trans X3) R3 (cI.mpr ⟨p,vs,rfl,.inl (.inl ax),aJ.mono X3.sf d2⟩)
theorem bV(h:PA X es (fA K fs)):PE X (.List es pos) (fE K (eQ fs)):=(CL h).mono fun σ H Q h=>by
  obtain⟨F,e,z,e2,R,hf,q⟩:=h
  unfold eQ at hf
  obtain⟨⟨rs,e1⟩,h1,hf⟩:=Option.bind_eq_some_iff.mp hf
  obtain⟨ds,h2,hf⟩:=Option.bind_eq_some_iff.mp hf
  split at hf
  case isFalse=>cases hf
  case isTrue hl=>
  cases hf
  refine⟨F,e,rs,_,R,h1,fun F1 H1 vs X1 R1 A1=>?_⟩
  obtain⟨F2,R2,s2,d2,f2⟩:=dD.frozen R1 A1 h2
  have hlen:=d2.len
  refine⟨Nat.le_of_lt (oI (by lia)),fun p hp=>?_⟩
  obtain⟨R3,X3,hF,no⟩:=R2.newL (vs:=vs) hp
  exact q _ _ _ ((X1.frz s2 f2).trans X3) R3 ⟨p,vs,rfl,X1.dom p hp,hF,ax,d2,no⟩
def eC(K:PySem.W.Frag)(r:List V→Hp→VK→Prop)(g:En→List Rv→Option Rv):Prop:=
  ∀(σ:L2.St) (H0 F H:Hp) (e:En) (xs:List Rv) (z:Rv) (vs:List V) (Q:VK),aY K F H σ e→dD K σ H0 F H e xs vs→g e xs=some z→
    (∀F' H' w,ej σ F H e F' H' e→aY K F' H' σ e→cz K σ H F' H' e z w→Q w H')→r vs H Q
def aP(g:En→List Rv→Option Rv)(fs:FA):FE:=fun e=>(fs e).bind fun p=>(g p.2 p.1).map fun z=>(z,p.2)
theorem rE{r:List V→Hp→VK→Prop}{g:En→List Rv→Option Rv}(ho:eC K r g){σ:L2.St}{H:Hp}{Q:VK}(h:fE K (aP g fs) σ H Q):GG r (fA K fs) σ H Q:=by
  obtain⟨F,e,z,e2,R,hf,q⟩:=h
  unfold aP at hf
  obtain⟨⟨x,e1⟩,h1,hf⟩:=Option.bind_eq_some_iff.mp hf
  obtain⟨z',h3,hf⟩:=Option.map_eq_some_iff.mp hf
  cases hf
  refine⟨F,e,x,_,R,h1,fun F1 H1 vs X1 R1 A1=>?_⟩
  refine ho σ H F1 H1 _ x _ vs Q R1 A1 h3 fun F3 H3 w X3 R3 A3=>?_
  exact q F3 H3 w (X1.trans X3) R3 (A3.weak X1.dom)
theorem xY{x:Str}{p pos:Pos}{id:String}{r:List V→Hp→VK→Prop}{g:En→List Rv→Option Rv}(hc:dU X (.builtin id) r)(ho:eC K r g)(hg:Gl X x)(hm:X.mg x=none)(hv:bootBuiltins x=some (.builtin id))(ha:PA X (a::es) (fA K fs))(hn:x≠"__name__")(hdb:(x==("__debug__":Str))=false)
    (he:starEach (a::es) X.env=(false,eval a X.env)::starEach es X.env)(hpl:(backTo pos (starEach es X.env)).any (·.1)=false):PE X (.Call (.Name x p) (a::es) [] pos) (fE K (aP g fs)):=(mO hc hg hm hv ha hn hdb he hpl).mono fun _ _ _ h=>rE ho h
theorem vj{x:Str}{p pos:Pos}{T:String}{r:List V→Hp→VK→Prop}{g:En→List Rv→Option Rv}(hc:dU X (.type T) r)(ho:eC K r g)(hg:Gl X x)(hm:X.mg x=none)(hv:bootBuiltins x=some (.type T))(ha:PA X (a::es) (fA K fs))(hn:x≠"__name__")(hdb:(x==("__debug__":Str))=false)
    (he:starEach (a::es) X.env=(false,eval a X.env)::starEach es X.env)(hpl:(backTo pos (starEach es X.env)).any (·.1)=false):PE X (.Call (.Name x p) (a::es) [] pos) (fE K (aP g fs)):=(oz hc hg hm hv ha hn hdb he hpl).mono fun _ _ _ h=>rE ho h
end
end L2
namespace L2
open PySem PySem.Spec PyProof.Rows
mutual
theorem DA.reads{X:Cx}{pins:List (Addr × Obj)}{σ:L2.St}{H:Hp}{s:Shared}(I:ay X pins σ H s):∀{d:PyData} {v:V} {u:Value},d.canLay0=true→DA X.K H d v→a_ v u→∃as,Reads s.heap u d as
  | .none,_,_,_,q,r=>by
    simp only [DA] at q;subst q;cases r;exact⟨_,.none⟩
  | .bool b,_,_,_,q,r=>by
    simp only [DA] at q;subst q;cases r;exact⟨_,.bool b⟩
  | .int i,_,_,_,q,r=>by
    simp only [DA] at q;subst q;obtain⟨t,rfl⟩:=r;exact⟨_,.int i t⟩
  | .str x,_,_,_,q,r=>by
    simp only [DA] at q;subst q;obtain⟨t,rfl⟩:=r;exact⟨_,.str x t⟩
  | .tuple ds,_,_,c,q,r=>by
    simp only [DA] at q
    obtain⟨a,xs,e,hs,rr⟩:=q
    subst e;cases r
    obtain⟨its,rv,⟨o,ho,hc,n,hd⟩,hz⟩:=I.tuple hs
    obtain⟨as,q⟩:=aJ.reads I (by simpa [PyData.canLay0] using c) rr rv
    exact⟨_,.tuple ho hc hd q⟩
  | .list ds,_,_,c,q,r=>by
    simp only [DA] at q
    obtain⟨a,xs,e,hs,rr⟩:=q
    subst e;cases r
    obtain⟨its,rv,ht,hz⟩:=I.list hs
    obtain⟨o,ho,hc,n,hd⟩:=ht.isList
    obtain⟨as,q⟩:=aJ.reads I (by simpa [PyData.canLay0] using c) rr rv
    exact⟨_,.list ho hc hd q⟩
  | .dict _,_,_,c,_,_=>by simp [PyData.canLay0] at c
theorem aJ.reads{X:Cx}{pins:List (Addr × Obj)}{σ:L2.St}{H:Hp}{s:Shared}(I:ay X pins σ H s):∀{ds:List PyData} {xs:List V} {us:List Value},PyData.canLayAll0 ds=true→aJ X.K H ds xs→aH xs us→∃as,ReadsAll s.heap us ds as
  | [],_,_,_,q,r=>by
    simp only [aJ] at q;subst q;cases r;exact⟨_,.nil⟩
  | d::ds,_,_,c,q,r=>by
    simp only [aJ] at q
    simp only [PyData.canLayAll0,Bool.and_eq_true] at c
    obtain⟨x,rr,e,a,b⟩:=q
    subst e
    cases r with
    | cons p p'=>
      obtain⟨as,q1⟩:=DA.reads I c.1 a p
      obtain⟨bs,q2⟩:=aJ.reads I c.2 b p'
      exact⟨_,.cons q1 q2⟩
end
def iF(e:En):Rv→Option PyData
  | .d x=>some x
  | .l xs=>some (.list xs)
  | .s i=>match e[i]? with
    | some (some (.l xs))=>some (.list xs)
    | _=>none
theorem jW{K:PySem.W.Frag}{σ:L2.St}{H0 F H:Hp}{e:En}{r:Rv}{v:V}{d:PyData}(R:aY K F H σ e)(h:cz K σ H0 F H e r v)(q:iF e r=some d):DA K H d v:=by
  cases r with
  | d x=>cases q;exact DA.mono R.sm h
  | l xs=>
    cases q
    obtain⟨l,vs,rfl,h1,h2,h3,h4,_⟩:=h
    exact eN.mpr ⟨l,vs,rfl,.inl (.inl h3),aJ.mono R.sm h4⟩
  | s i=>
    obtain⟨h1,ys,h2⟩:=h
    simp only [iF,h2] at q
    cases q
    obtain⟨l,vs,e1,e2,e3,e4⟩:=R.own i _ h2
    rw [h1] at e1;cases e1
    exact eN.mpr ⟨l,vs,rfl,.inl (.inl e3),aJ.mono R.sm e4⟩
section
variable{X:Cx}{K:PySem.W.Frag}
def ck:Rv→Option Int
  | .d (.int i)=>some i
  | _=>none
theorem cm{σ:L2.St}{H0 F H:Hp}{e:En}{r:Rv}{v:V}{i:Int}(h:cz K σ H0 F H e r v)(q:ck r=some i):v=.int i:=by
  unfold ck at q
  split at q
  · cases q;exact bY.mp (show DA K F (.int _) v from h)
  · cases q
theorem jI{σ:L2.St}{H0 F H:Hp}{e:En}{i:Int}:cz K σ H0 F H e (.d (.int i)) (.int i):=(bY (K:=K) (F:=F)).mpr rfl
def gI(C:Int→Int→Bool)(f:Int→Int→PyData):En→Rv→Rv→Option Rv:=fun _ x y=>(ck x).bind fun i=>(ck y).bind fun j=>if C i j=true then some (.d (f i j)) else none
theorem qV{C:Int→Int→Prop}{c:Int→Int→Bool}{g:Int→Int→V}{f:Int→Int→PyData}(hc:∀i j,c i j=true→C i j)(hf:∀F i j,DA K F (f i j) (g i j)):gB K (rI C g) (gI c f):=by
  intro σ H0 F H e x y z v u Q R A B hg q
  unfold gI at hg
  obtain⟨i,h1,hg⟩:=Option.bind_eq_some_iff.mp hg
  obtain⟨j,h2,hg⟩:=Option.bind_eq_some_iff.mp hg
  split at hg
  case isFalse=>cases hg
  case isTrue hh=>
  cases hg
  exact⟨i,j,cm A h1,cm B h2,hc i j hh,q F H _ (ej.refl _ _ _ _) R (hf F i j)⟩
theorem i4{g:Int→Int→V}{f:Int→Int→PyData}(hf:∀F i j,DA K F (f i j) (g i j)):gB K (sD g) (gI (fun _ _=>true) f):=by
  intro σ H0 F H e x y z v u Q R A B hg q
  obtain⟨i,j,h1,h2,h3,h4⟩:=qV (K:=K) (C:=fun _ _=>True) (c:=fun _ _=>true) (g:=g) (f:=f) (fun _ _ _=>trivial) hf σ H0 F H e x y z v u Q R A B hg q
  exact⟨i,j,h1,h2,h4⟩
def vO(g g':En→Rv→Rv→Option Rv):En→Rv→Rv→Option Rv:=fun e x y=>(g e x y).or (g' e x y)
theorem gB.or{r r':R2}{g g':En→Rv→Rv→Option Rv}(h:gB K r g)(h':gB K r' g'):gB K (fun x y H Q=>r x y H Q∨r' x y H Q) (vO g g'):=by
  intro σ H0 F H e x y z v u Q R A B hg q
  unfold vO at hg
  cases e1:g e x y with
  | some w=>
    rw [e1] at hg
    cases hg
    exact .inl (h σ H0 F H e x y _ v u Q R A B e1 q)
  | none=>
    rw [e1] at hg
    exact .inr (h' σ H0 F H e x y _ v u Q R A B hg q)
def tM:=gI (fun _ _=>true) fun i j=>.int (i+j)
def fQ:=gI (fun _ _=>true) fun i j=>.int (i - j)
def iE(i:Int):Bool:=decide (-(2 ^ 64) < i)&&decide (i < 2 ^ 64)
def D5(n:Nat)(i:Int):Bool:=decide (i.natAbs < 2 ^ n)
theorem jO{n:Nat}{i:Int}:D5 n i=true↔ Bt n i:=by unfold D5 Bt;exact decide_eq_true_iff
def k7(i j:Int):Bool:=iE i || iE j || (D5 4000 i&&D5 4000 j)
def qu:=gI k7 fun i j=>.int (i*j)
def eI:=gI (fun _ j=>j != 0&&D5 8000 j) fun i j=>.int (i.fdiv j)
def aI:=gI (fun _ j=>j != 0) fun i j=>.int (i.fmod j)
def xO(i j:Int):Bool:=decide (0≤j)&&decide (j≤1000000)&&iE i
def rZ:=gI xO fun i j=>.int (i ^ j.toNat)
theorem jJ{i:Int}(h:iE i=true): -(2 ^ 64) < i∧i < 2 ^ 64:=by
  unfold iE at h
  rw [Bool.and_eq_true,decide_eq_true_iff,decide_eq_true_iff] at h
  exact h
theorem zY{i j:Int}(h:xO i j=true):BD i j:=by
  unfold xO at h
  rw [Bool.and_eq_true,Bool.and_eq_true,decide_eq_true_iff,decide_eq_true_iff] at h
  have:=jJ h.2
  exact⟨h.1.1,h.1.2,by lia⟩
def sX(i j:Int):Prop:=yP i j∨AO i j
theorem zH:gK X (binaryOp .Mult) (rI sX fun i j=>.int (i*j)):=by
  intro pins s σ H x y v u Q I rx ry h
  obtain⟨i,j,e1,e2,h1,q⟩:=h
  rcases h1 with h1 | h1
  · exact CA pins s σ H x y v u Q I rx ry ⟨i,j,e1,e2,h1,q⟩
  · exact zI pins s σ H x y v u Q I rx ry ⟨i,j,e1,e2,h1,q⟩
theorem zy{i j:Int}(h:k7 i j=true):sX i j:=by
  unfold k7 at h
  rw [Bool.or_eq_true,Bool.or_eq_true,Bool.and_eq_true] at h
  rcases h with (h | h) | h
  · exact .inl (.inl (jJ h))
  · exact .inl (.inr (jJ h))
  · exact .inr ⟨jO.mp h.1,jO.mp h.2⟩
theorem Cn:gB K (rI sX fun i j=>.int (i*j)) qu:=qV (fun _ _ h=>zy h) fun _ _ _=>bY.mpr rfl
theorem Fh:gB K (sD fun i j=>.int (i - j)) fQ:=i4 fun _ _ _=>bY.mpr rfl
theorem BU:gB K (rI AN fun i j=>.int (i.fdiv j)) eI:=qV (fun i j h=>by
  rw [Bool.and_eq_true] at h
  exact⟨by simpa using h.1,jO.mp h.2⟩) fun _ _ _=>bY.mpr rfl
theorem Es:gB K (rI (fun _ j=>j≠0) fun i j=>.int (i.fmod j)) aI:=qV (fun i j h=>by simpa using h) fun _ _ _=>bY.mpr rfl
theorem EM:gB K (rI BD fun i j=>.int (i ^ j.toNat)) rZ:=qV (fun _ _ h=>zY h) fun _ _ _=>bY.mpr rfl
def nZ:En→Rv→Rv→Option Rv:=fun e x y=>match cZ e x,cZ e y with
  | some (false,xs),some (false,ys)=>if xs.length+ys.length≤1000000 then some (.d (.tuple (xs++ys))) else none
  | _,_=>none
theorem BO:gB K (x_ K) nZ:=by
  intro σ H0 F H e x y z v u Q R A B hg q
  unfold nZ at hg
  match h1:cZ e x,h2:cZ e y,hg with
  | some (false,xs),some (false,ys),hg=>
    obtain⟨p,vs,rfl,d1,s1⟩:=ce R A h1
    obtain⟨p',us,rfl,d2,s2⟩:=ce R B h2
    dsimp only at hg
    split at hg
    case isFalse=>cases hg
    case isTrue hl=>
    cases hg
    have l1:=d1.len
    have l2:=d2.len
    have sl:sizeLine=16777216:=sizeLine_eq
    refine⟨p,p',vs,us,rfl,rfl,s1,s2,by lia,fun t H' sm hT=>?_⟩
    obtain⟨F',R',X',hF⟩:=R.growT sm hT
    exact q F' H' _ X' R' (cI.mpr ⟨t,_,rfl,hF,(d1.append d2).mono X'.sf⟩)
def sd(e:En):Rv→Option (List PyData)
  | .l xs=>some xs
  | .s i=>match e[i]? with
    | some (some (.l xs))=>some xs
    | _=>none
  | _=>none
theorem pF{σ:L2.St}{H0 F H:Hp}{e:En}{r:Rv}{v:V}(R:aY K F H σ e)(h:cz K σ H0 F H e r v){xs:List PyData}(q:sd e r=some xs):∃p vs,v=.ref p∧F p=none∧H p=some (.lst vs)∧aJ K F xs vs:=by
  cases r with
  | d x=>cases q
  | l ys=>
    cases q
    obtain⟨l,vs,e1,h1,h2,h3,h4,_⟩:=h
    exact⟨l,vs,e1,h2,h3,h4⟩
  | s i=>
    obtain⟨h1,ys,h2⟩:=h
    simp only [sd,h2] at q
    cases q
    obtain⟨l,vs,e1,e2,e3,e4⟩:=R.own i _ h2
    rw [h1] at e1;cases e1
    exact⟨l,vs,rfl,e2,e3,e4⟩
def qp:En→Rv→Rv→Option Rv:=fun e x y=>(sd e x).bind fun xs=>(sd e y).bind fun ys=>if xs.length+ys.length≤1000000 then some (.l (xs++ys)) else none
theorem BN:gB K Dc qp:=by
  intro σ H0 F H e x y z v u Q R A B hg q
  unfold qp at hg
  obtain⟨xs,h1,hg⟩:=Option.bind_eq_some_iff.mp hg
  obtain⟨ys,h2,hg⟩:=Option.bind_eq_some_iff.mp hg
  split at hg
  case isFalse=>cases hg
  case isTrue hl=>
  cases hg
  obtain⟨p,vs,rfl,f1,s1,d1⟩:=pF R A h1
  obtain⟨p',us,rfl,f2,s2,d2⟩:=pF R B h2
  have l1:=d1.len
  have l2:=d2.len
  have sl:sizeLine=16777216:=sizeLine_eq
  refine⟨p,p',vs,us,rfl,rfl,s1,s2,by lia,fun t ht=>?_⟩
  obtain⟨R3,X3,hF,no⟩:=R.newL (vs:=vs++us) ht
  exact q _ _ _ X3 R3 ⟨t,_,rfl,ht,hF,ax,d1.append d2,no⟩
def bi:En→Rv→Rv→Option Rv:=vO tM (vO nZ qp)
def Bq(K:PySem.W.Frag):R2:=fun x y H Q=>sD (fun i j=>.int (i+j)) x y H Q∨(x_ K x y H Q∨Dc x y H Q)
theorem zC:gK X (binaryOp .Add) (Bq X.K):=Cv.or (zD.or Cw)
theorem DU:gB K (Bq K) bi:=gB.or (i4 fun _ _ _=>bY.mpr rfl) (gB.or BO BN)
def qA:En→Rv→Rv→Option Rv:=fun e x y=>match cZ e x,ck y with
  | some (false,[d]),some k=>if 0≤k∧k≤100000 then some (.d (.tuple (List.replicate k.toNat d))) else none
  | _,_=>none
theorem aJ.rep{F:Hp}{d:PyData}{v:V}(h:DA K F d v):∀n,aJ K F (List.replicate n d) (List.replicate n v)
  | 0=>aJ.nil
  | n+1=>aJ.cons h (aJ.rep h n)
theorem Dg:gB K (yc K) qA:=by
  intro σ H0 F H e x y z v u Q R A B hg q
  unfold qA at hg
  match h1:cZ e x,h2:ck y,hg with
  | some (false,[d]),some k,hg=>
    obtain⟨p,vs,rfl,d1,s1⟩:=ce R A h1
    dsimp only at hg
    split at hg
    case isFalse=>cases hg
    case isTrue hl=>
    cases hg
    have hd:=d1
    simp only [aJ] at hd
    obtain⟨w,r,e1,hw,e2⟩:=hd
    subst e2 e1
    refine⟨p,k,w,rfl,cm B h2,s1,hl.1,hl.2,fun t H' sm hT=>?_⟩
    obtain⟨F',R',X',hF⟩:=R.growT sm hT
    exact q F' H' _ X' R' (cI.mpr ⟨t,_,rfl,hF,(aJ.rep hw _).mono X'.sf⟩)
def wJ:En→Rv→Rv→Option Rv:=fun e x y=>(sd e x).bind fun xs=>(ck y).bind fun k=>if -100000≤k∧k≤100000∧xs.length*k.toNat≤1000000 then some (.l (List.replicate k.toNat xs).flatten) else none
theorem aJ.reps{F:Hp}{ds:List PyData}{vs:List V}(h:aJ K F ds vs):∀n,aJ K F (List.replicate n ds).flatten (List.replicate n vs).flatten
  | 0=>aJ.nil
  | n+1=>by simpa [List.replicate_succ] using aJ.append h (aJ.reps h n)
theorem Df:gB K De wJ:=by
  intro σ H0 F H e x y z v u Q R A B hg q
  unfold wJ at hg
  obtain⟨xs,h1,hg⟩:=Option.bind_eq_some_iff.mp hg
  obtain⟨k,h2,hg⟩:=Option.bind_eq_some_iff.mp hg
  split at hg
  case isFalse=>cases hg
  case isTrue hl=>
  cases hg
  obtain⟨p,vs,rfl,f1,s1,d1⟩:=pF R A h1
  have l1:=d1.len
  have sl:sizeLine=16777216:=sizeLine_eq
  refine⟨p,k,vs,rfl,cm B h2,s1,by lia,by lia,by rw [←l1];lia,fun t ht=>?_⟩
  obtain⟨R3,X3,hF,no⟩:=R.newL (vs:=(List.replicate k.toNat vs).flatten) ht
  exact q _ _ _ X3 R3 ⟨t,_,rfl,ht,hF,ax,aJ.reps d1 _,no⟩
def jA:En→Rv→Rv→Option Rv:=vO qu (vO qA wJ)
def Br(K:PySem.W.Frag):R2:=fun x y H Q=>rI sX (fun i j=>.int (i*j)) x y H Q∨(yc K x y H Q∨De x y H Q)
theorem zG:gK X (binaryOp .Mult) (Br X.K):=zH.or (zK.or CF)
theorem Et:gB K (Br K) jA:=gB.or Cn (gB.or Dg Df)
def BZ:=gI (fun _ _=>true) fun i j=>.bool (decide (i < j))
def Ee:=gI (fun _ _=>true) fun i j=>.bool (decide (i≤j))
def Ec:=gI (fun _ _=>true) fun i j=>.bool (decide (j < i))
def Eb:=gI (fun _ _=>true) fun i j=>.bool (decide (j≤i))
theorem Gz:gB K (sD fun i j=>.bl (decide (i < j))) BZ:=i4 fun _ _ _=>cA.mpr rfl
theorem Gy:gB K (sD fun i j=>.bl (decide (i≤j))) Ee:=i4 fun _ _ _=>cA.mpr rfl
theorem Gq:gB K (sD fun i j=>.bl (decide (j < i))) Ec:=i4 fun _ _ _=>cA.mpr rfl
theorem Gp:gB K (sD fun i j=>.bl (decide (j≤i))) Eb:=i4 fun _ _ _=>cA.mpr rfl
def Dd(K:PySem.W.Frag)(neg:Bool):R2:=fun x y H Q=>∃a b,DA K H a x∧DA K H b y∧SeqAt.shaped a=true∧SeqAt.shaped b=true∧Q (.bl (if neg then !PyData.eqv a b else PyData.eqv a b)) H
theorem Cy{k:Nat}(hr:cX k X.A):gK X (compareOp .Eq) (Dd X.K false):=by
  intro pins s σ H x y v u Q I rx ry h
  obtain⟨a,b,ha,hb,s1,s2,q⟩:=h
  obtain⟨as,ra⟩:=DA.reads I (SeqAt.canLay_of_shaped s1) ha rx
  obtain⟨bs,rb⟩:=DA.reads I (SeqAt.canLay_of_shaped s2) hb ry
  exact SeqAt.compareEq_shaped ra rb s1 s2 hr.units ⟨.bl _,H,I,rfl,q⟩
theorem CB{k:Nat}(hr:cX k X.A):gK X (compareOp .NotEq) (Dd X.K true):=by
  intro pins s σ H x y v u Q I rx ry h
  obtain⟨a,b,ha,hb,s1,s2,q⟩:=h
  obtain⟨as,ra⟩:=DA.reads I (SeqAt.canLay_of_shaped s1) ha rx
  obtain⟨bs,rb⟩:=DA.reads I (SeqAt.canLay_of_shaped s2) hb ry
  exact SeqAt.compareNe_shaped ra rb s1 s2 hr.units ⟨.bl _,H,I,rfl,q⟩
def cE(neg:Bool):En→Rv→Rv→Option Rv:=fun e x y=>(iF e x).bind fun a=>(iF e y).bind fun b=>if (SeqAt.shaped a&&SeqAt.shaped b)=true then some (.d (.bool (if neg then !PyData.eqv a b else PyData.eqv a b))) else none
theorem AZ{neg:Bool}:gB K (Dd K neg) (cE neg):=by
  intro σ H0 F H e x y z v u Q R A B hg q
  unfold cE at hg
  obtain⟨a,h1,hg⟩:=Option.bind_eq_some_iff.mp hg
  obtain⟨b,h2,hg⟩:=Option.bind_eq_some_iff.mp hg
  split at hg
  case isFalse=>cases hg
  case isTrue hl=>
  cases hg
  rw [Bool.and_eq_true] at hl
  exact⟨a,b,jW R A h1,jW R B h2,hl.1,hl.2,q F H _ (ej.refl _ _ _ _) R ez⟩
def EW(K:PySem.W.Frag)(neg:Bool):R2:=fun x y H Q=>∃a xs,DA K H a x∧(DA K H (.list xs) y∨DA K H (.tuple xs) y)∧a.canLay0=true∧a.depth≤60∧PyData.canLayAll0 xs=true∧Q (.bl (if neg then !(xs.any fun y=>PyData.eqv y a) else xs.any fun y=>PyData.eqv y a)) H
theorem Cz{k:Nat}(hr:cX k X.A):gK X (compareOp .In) (EW X.K false):=by
  intro pins s σ H x y v u Q I rx ry h
  obtain⟨a,xs,ha,hb,s1,s2,s3,q⟩:=h
  obtain⟨as,ra⟩:=DA.reads I s1 ha rx
  have hu:=hr.units
  rcases hb with hb | hb
  · obtain⟨bs,rb⟩:=DA.reads I (by simpa [PyData.canLay0] using s3) hb ry
    exact PySem.SeqAt.in_list_reads rb ra s3 s1 (by lia) ⟨.bl _,H,I,rfl,q⟩
  · obtain⟨bs,rb⟩:=DA.reads I (by simpa [PyData.canLay0] using s3) hb ry
    exact PySem.SeqAt.in_tuple_reads rb ra s3 s1 (by lia) ⟨.bl _,H,I,rfl,q⟩
def tR(neg:Bool):En→Rv→Rv→Option Rv:=fun e x y=>(iF e x).bind fun a=>(cZ e y).bind fun p=>if (a.canLay0&&decide (a.depth≤60)&&PyData.canLayAll0 p.2)=true then some (.d (.bool (if neg then !(p.2.any fun y=>PyData.eqv y a) else p.2.any fun y=>PyData.eqv y a))) else none
theorem Gu{neg:Bool}:gB K (EW K neg) (tR neg):=by
  intro σ H0 F H e x y z v u Q R A B hg q
  unfold tR at hg
  obtain⟨a,h1,hg⟩:=Option.bind_eq_some_iff.mp hg
  obtain⟨⟨b,xs⟩,h2,hg⟩:=Option.bind_eq_some_iff.mp hg
  split at hg
  case isFalse=>cases hg
  case isTrue hl=>
  cases hg
  rw [Bool.and_eq_true,Bool.and_eq_true,decide_eq_true_iff] at hl
  obtain⟨p,vs,rfl,d1,s1⟩:=ce R B h2
  refine⟨a,xs,jW R A h1,?_,hl.1.1,hl.1.2,hl.2,q F H _ (ej.refl _ _ _ _) R ez⟩
  cases b with
  | true=>exact .inl (eN.mpr ⟨p,vs,rfl,s1,d1.mono R.sm⟩)
  | false=>exact .inr (cI.mpr ⟨p,vs,rfl,s1,d1.mono R.sm⟩)
def pD:PyData→Bool
  | .none=>true
  | _=>false
theorem uP{F:Hp}{d:PyData}{v:V}(h:DA K F d v):decide (v=.non)=pD d:=by
  cases d with
  | none=>rw [gE.mp h];rfl
  | bool b=>rw [cA.mp h];rfl
  | int b=>rw [bY.mp h];rfl
  | str b=>rw [rW.mp h];rfl
  | tuple b=>obtain⟨a,_,e,_⟩:=cI.mp h;rw [e];rfl
  | list b=>obtain⟨a,_,e,_⟩:=eN.mp h;rw [e];rfl
  | dict b=>simp only [DA] at h;obtain⟨a,m,rfl,_⟩:=h;rfl
def BY(neg:Bool):En→Rv→Rv→Option Rv:=fun e x y=>(iF e x).bind fun a=>match y with
  | .d .none=>some (.d (.bool (if neg then !pD a else pD a)))
  | _=>none
def BX(neg:Bool):En→Rv→Rv→Option Rv:=fun e x y=>(fL x).bind fun a=>(fL y).bind fun b=>some (.d (.bool (if neg then !(a==b) else a==b)))
theorem Cq:gB K (fun x y H Q=>y=.non∧Q (.bl (!decide (x=.non))) H) (BY true):=by
  intro σ H0 F H e x y z v u Q R A B hg q
  unfold BY at hg
  obtain⟨a,h1,hg⟩:=Option.bind_eq_some_iff.mp hg
  split at hg
  · cases hg
    refine⟨gE.mp (show DA K F .none u from B),?_⟩
    rw [uP (jW R A h1)]
    exact q F H _ (ej.refl _ _ _ _) R ez
  · cases hg
theorem wR:gB K (fun x y H Q=>∃b c,x=.bl b∧y=.bl c∧Q (.bl (!(b==c))) H) (BX true):=by
  intro σ H0 F H e x y z v u Q R A B hg q
  unfold BX at hg
  obtain⟨a,h1,hg⟩:=Option.bind_eq_some_iff.mp hg
  obtain⟨b,h2,hg⟩:=Option.bind_eq_some_iff.mp hg
  cases hg
  exact⟨a,b,fy A h1,fy B h2,q F H _ (ej.refl _ _ _ _) R ez⟩
def fP:En→Rv→Rv→Option Rv:=vO (BY true) (BX true)
def uj:R2:=fun x y H Q=>(y=.non∧Q (.bl (!decide (x=.non))) H)∨∃b c,x=.bl b∧y=.bl c∧Q (.bl (!(b==c))) H
theorem vc:gK X (compareOp .IsNot) uj:=zJ.or vd
theorem zh:gB K uj fP:=gB.or Cq wR
def io:En→Rv→Rv→Option Rv:=fun e x y=>(cZ e x).bind fun p=>(ck y).bind fun i=>(atI p.2 i).map .d
def EX(K:PySem.W.Frag):R2:=fun x y H Q=>EY K x y H Q∨EZ K x y H Q
theorem Gv:yR X (EX X.K):=zq.or B_
theorem aJ.atI{F:Hp}{ds:List PyData}{vs:List V}(h:aJ K F ds vs){i:Int}{d:PyData}(q:atI ds i=some d):∃v,L2.atI vs i=some v∧DA K F d v:=by
  unfold L2.atI at q ⊢
  obtain⟨j,h1,h2⟩:=Option.bind_eq_some_iff.mp q
  obtain⟨v,h3,h4⟩:=h.get h2
  exact⟨v,by rw [←h.len,h1];exact h3,h4⟩
theorem Gw:gB K (EX K) io:=by
  intro σ H0 F H e x y z v u Q R A B hg q
  unfold io at hg
  obtain⟨⟨b,xs⟩,h1,hg⟩:=Option.bind_eq_some_iff.mp hg
  obtain⟨i,h2,hg⟩:=Option.bind_eq_some_iff.mp hg
  obtain⟨d,h3,hg⟩:=Option.map_eq_some_iff.mp hg
  cases hg
  obtain⟨p,vs,rfl,d1,s1⟩:=ce R A h1
  obtain⟨w,h4,h5⟩:=d1.atI h3
  have fin:=q F H w (ej.refl _ _ _ _) R h5
  cases b with
  | true=>exact .inl ⟨p,vs,i,w,rfl,cm B h2,s1,h4,fin⟩
  | false=>exact .inr ⟨p,vs,i,w,rfl,cm B h2,s1,h4,fin⟩
end
end L2
namespace HT
open PySem PySem.Spec PyProof.Rows
section
variable{prog:Program}{w:World}{A:Around}{E:Value→Shared→Prop}{s:Shared}
theorem getItem_tuple_all{t sl:Addr}{items:Array Value}{vl vu:Value}{lo hi:Option Int}{Q:Value→Shared→Prop}(ht:IsTup s.heap t items)(hs:s.heap.IsSliceOf sl vl vu .none)(pl:IsPart vl lo)(pu:IsPart vu hi)
    (hw:sIx items.size 0 lo=0∧sIx items.size items.size hi=items.size)
    (h:Q (.ref t) s):wpAny (model prog w) A (getItem (.ref t) (.ref sl)) Q E s:=by
  obtain⟨os,hos,hcs,hds⟩:=id hs
  have hTs:s.TypeIs (.ref sl) "slice":=⟨os,hos,hcs⟩
  unfold getItem
  try with_reducible refine wpAny_holding ?_
  first | refine wpAny_bind (wpAny_pure ?_) | skip
  refine wpAny_bind (wpAny_sequenceKey ht.typeIs (by decide) ?_)
  refine wpAny_bind (wpAny_callSpecial?_slot (name:=Str.ofString "__getitem__") ht.typeIs PyProof.Rows.slot_tuple_getitem
    (wpAny_call_entry PyProof.Rows.slot_tuple_getitem ht.typeIs entry_tuple_getitem ?_ (args_tuple_getitem _ _)))
  show wpAny _ _ (Builtin.Tuple.tupleItemsOf (.ref t) >>= _) _ _ s
  refine wpAny_bind (tupleItemsOf_ ht ?_)
  refine wpAny_bind (wpAny_typeOf hTs ?_)
  rw [if_pos (by decide)]
  refine wpAny_bind (h_ hs pl pu ?_)
  have hno:(((sIx items.size 0 lo:Nat):Int)==0&&(1:Int)==1&&(sIx items.size items.size hi - sIx items.size 0 lo)==items.size)=true:=by
    rw [hw.1,hw.2];simp
  show wpAny _ _ (if (((sIx items.size 0 lo:Nat):Int)==0&&(1:Int)==1&&(sIx items.size items.size hi - sIx items.size 0 lo)==items.size)=true then _ else _) _ _ s
  rw [if_pos hno]
  unfold Builtin.Tuple.tupleIsExact
  refine wpAny_bind (wpAny_bind (wpAny_typeOf ht.typeIs (wpAny_pure ?_)))
  rw [if_pos (by decide)]
  exact wpAny_bind (wpAny_rule (wpAny_pure ⟨_,rfl,wpAny_pure h⟩))
end
end HT
namespace L2
open PySem PySem.Spec PyProof.Rows
section
variable{X:Cx}{K:PySem.W.Frag}{a:Expr}{fa:FE}{lo hi:Option Expr}{pos p2:Pos}
def cutD(xs:List PyData)(lo hi:Option Int):List PyData:=(xs.drop (HT.sIx xs.length 0 lo)).take (HT.sIx xs.length xs.length hi - HT.sIx xs.length 0 lo)
def E8(K:PySem.W.Frag):V→Option Int→Option Int→Hp→VK→Prop:=fun x lo hi H Q=>∃a xs,x=.ref a∧cW K H a xs∧
  (HT.sIx xs.length 0 lo=0∧HT.sIx xs.length xs.length hi=xs.length)∧Q (.ref a) H
theorem Av:yS X (E8 X.K):=by
  intro pins s σ H x v vl vu lo hi sl Q I rx hs pl pu h
  obtain⟨a,xs,rfl,hx,hw,q⟩:=h
  cases rx
  obtain⟨its,r,ht,hz⟩:=I.tuple hx
  have hlen:its.toArray.size=xs.length:=by rw [List.size_toArray];exact r.length.symm
  refine⟨"tuple",_,PyProof.Rows.slot_tuple_getitem.lookup,ht.typeIs,?_⟩
  exact HT.getItem_tuple_all ht hs pl pu (by rw [hlen];exact hw) ⟨.ref a,H,I,rfl,q⟩
def GD(K:PySem.W.Frag):V→Option Int→Option Int→Hp→VK→Prop:=fun x lo hi H Q=>E7 K x lo hi H Q∨(E8 K x lo hi H Q∨E6 K x lo hi H Q)
theorem GE:yS X (GD X.K):=Dl.or (Av.or Au)
abbrev FO:=En→Option (Option Int × En)
def fO(K:PySem.W.Frag)(f:FO):TO:=fun σ H Q=>∃F e o e',aY K F H σ e∧f e=some (o,e')∧∀F' H',ej σ F H e F' H' e'→aY K F' H' σ e'→Q o H'
theorem PO.mono{e:Option Expr}{t t':TO}(h:PO X e t)(m:∀σ H Q,t' σ H Q→t σ H Q):PO X e t':=fun pins s σ H Q I q=>h pins s σ H Q I (m σ H Q q)
def fZ:FO:=fun e=>some (none,e)
def eS(f:FE):FO:=fun e=>(f e).bind fun p=>(ck p.1).map fun i=>(some i,p.2)
theorem dj:PO X none (fO K fZ):=zV.mono fun σ H Q h=>by
  obtain⟨F,e,o,e',R,hf,q⟩:=h
  cases hf
  exact q F H (ej.refl _ _ _ _) R
theorem dk(h:PE X a (fE K fa)):PO X (some a) (fO K (eS fa)):=(zW h).mono fun σ H Q h=>by
  obtain⟨F,e,o,e',R,hf,q⟩:=h
  unfold eS at hf
  obtain⟨⟨x,e1⟩,h1,hf⟩:=Option.bind_eq_some_iff.mp hf
  obtain⟨i,h2,hf⟩:=Option.map_eq_some_iff.mp hf
  cases hf
  exact⟨F,e,x,_,R,h1,fun F1 H1 v X1 R1 A1=>⟨i,cm A1 h2,q F1 H1 X1 R1⟩⟩
def DH(e:En)(x:Rv)(lo hi:Option Int):Option Rv:=(cZ e x).map fun p=>if p.1=true then .l (cutD p.2 lo hi) else .d (.tuple (cutD p.2 lo hi))
def rJ(fa:FE)(fl fh:FO):FE:=fun e=>(fa e).bind fun p=>(fl p.2).bind fun l=>(fh l.2).bind fun h=>(DH h.2 p.1 l.1 h.1).map fun z=>(z,h.2)
theorem wj{F:Hp}{ds:List PyData}{vs:List V}(h:aJ K F ds vs)(lo hi:Option Int):aJ K F (cutD ds lo hi) (nu vs lo hi):=by
  unfold cutD nu
  rw [h.len]
  exact(h.drop _).take _
theorem yX{α:Type}{xs:List α}{lo hi:Option Int}(h:HT.sIx xs.length 0 lo=0∧HT.sIx xs.length xs.length hi=xs.length):(xs.drop (HT.sIx xs.length 0 lo)).take (HT.sIx xs.length xs.length hi - HT.sIx xs.length 0 lo)=xs:=by
  rw [h.1,h.2];simp
theorem x5{fl fh:FO}(he:PE X a (fE X.K fa))(hl:PO X lo (fO X.K fl))(hh:PO X hi (fO X.K fh)):PE X (.Subscript a (.Slice lo hi none p2) pos) (fE X.K (rJ fa fl fh)):=(xF GE he hl hh).mono fun σ H Q h=>by
  obtain⟨F,e,z,e',R,hf,q⟩:=h
  unfold rJ at hf
  obtain⟨⟨x,e1⟩,h1,hf⟩:=Option.bind_eq_some_iff.mp hf
  obtain⟨⟨l,e2⟩,h2,hf⟩:=Option.bind_eq_some_iff.mp hf
  obtain⟨⟨u,e3⟩,h3,hf⟩:=Option.bind_eq_some_iff.mp hf
  obtain⟨z',h4,hf⟩:=Option.map_eq_some_iff.mp hf
  cases hf
  refine⟨F,e,x,e1,R,h1,fun F1 H1 v X1 R1 A1=>⟨F1,e1,l,e2,R1,h2,fun F2 H2 X2 R2=>⟨F2,e2,u,_,R2,h3,fun F3 H3 X3 R3=>?_⟩⟩⟩
  have X12:=X1.trans X2
  have X13:=X12.trans X3
  have A3:=(A1.ext X2).ext X3
  unfold DH at h4
  obtain⟨⟨b,xs⟩,h5,h4⟩:=Option.map_eq_some_iff.mp h4
  obtain⟨p,vs,rfl,d1,s1⟩:=ce R3 A3 h5
  cases b with
  | true=>
    rw [if_pos rfl] at h4;cases h4
    refine .inr (.inr ⟨p,vs,rfl,s1,fun t ht=>?_⟩)
    obtain⟨R4,X4,hF,no⟩:=R3.newL (vs:=nu vs l u) ht
    exact q _ _ _ (X13.trans X4) R4 ⟨t,_,rfl,X13.dom _ ht,hF,ax,wj d1 l u,no⟩
  | false=>
    rw [if_neg (by simp)] at h4;cases h4
    by_cases hw:HT.sIx vs.length 0 l=0∧HT.sIx vs.length vs.length u=vs.length
    · refine .inr (.inl ⟨p,vs,rfl,s1,hw,?_⟩)
      have e5:cutD xs l u=xs:=by unfold cutD;exact yX (by rw [d1.len];exact hw)
      rw [e5] at q
      obtain⟨F4,R4,X4,hF⟩:=R3.growT (av.refl _) s1
      exact q _ _ _ (X13.trans X4) R4 (cI.mpr ⟨p,vs,rfl,hF,d1.mono X4.sf⟩)
    · refine .inl ⟨p,vs,rfl,s1,hw,fun t ht=>?_⟩
      obtain⟨R4,X4⟩:=R3.newT (vs:=nu vs l u) ht
      exact q _ _ _ (X13.trans X4) R4 (cI.mpr ⟨t,_,rfl,.inl (.inl ax),(wj d1 l u).mono X4.sf⟩)
end
section
variable{X:Cx}{K:PySem.W.Frag}
theorem l_{σ:L2.St}{H0 F H:Hp}{e:En}{x:Rv}{vs:List V}(h:dD K σ H0 F H e [x] vs):∃v,vs=[v]∧cz K σ H0 F H e x v:=by
  obtain⟨v,ws,rfl,h1,h2⟩:=h
  have h2':ws=[]:=h2
  subst h2'
  exact⟨v,rfl,h1⟩
theorem pT{σ:L2.St}{H0 F H:Hp}{e:En}{x y:Rv}{vs:List V}(h:dD K σ H0 F H e [x,y] vs):∃v u,vs=[v,u]∧cz K σ H0 F H e x v∧cz K σ H0 F H e y u:=by
  obtain⟨v,ws,rfl,h1,h2⟩:=h
  obtain⟨u,rfl,h3⟩:=l_ h2
  exact⟨v,u,rfl,h1,h3⟩
def g1(g:En→Rv→Option Rv):En→List Rv→Option Rv:=fun e xs=>match xs with
  | [x]=>g e x
  | _=>none
def g2(g:En→Rv→Rv→Option Rv):En→List Rv→Option Rv:=fun e xs=>match xs with
  | [x,y]=>g e x y
  | _=>none
theorem je{r:List V→Hp→VK→Prop}{g:En→Rv→Option Rv}(h:DF K (fun v H Q=>r [v] H Q) g):eC K r (g1 g):=by
  intro σ H0 F H e xs z vs Q R A hg q
  unfold g1 at hg
  match xs,hg with
  | [x],hg=>
    obtain⟨v,rfl,h1⟩:=l_ A
    exact h σ H0 F H e x z v Q R h1 hg q
theorem tD{r:List V→Hp→VK→Prop}{g:En→Rv→Rv→Option Rv}(h:gB K (fun v u H Q=>r [v,u] H Q) g):eC K r (g2 g):=by
  intro σ H0 F H e xs z vs Q R A hg q
  unfold g2 at hg
  match xs,hg with
  | [x,y],hg=>
    obtain⟨v,u,rfl,h1,h2⟩:=pT A
    exact h σ H0 F H e x y z v u Q R h1 h2 hg q
def iI:En→Rv→Option Rv:=fun e x=>(cZ e x).map fun p=>.d (.int p.2.length)
theorem Em:eC K (fun xs H Q=>∃p ys,xs=[.ref p]∧(gA K H p ys∨cW K H p ys)∧Q (.int ys.length) H) (g1 iI):=je fun σ H0 F H e x z v Q R A hg q=>by
  obtain⟨⟨b,xs⟩,h5,h4⟩:=Option.map_eq_some_iff.mp hg
  obtain⟨p,vs,rfl,d1,s1⟩:=ce R A h5
  cases h4
  refine⟨p,vs,rfl,?_,?_⟩
  · cases b with
    | true=>exact .inl s1
    | false=>exact .inr s1
  · rw [←d1.len]
    exact q F H _ (ej.refl _ _ _ _) R jI
def uQ:En→Rv→Option Rv:=fun _ x=>(ck x).map fun i=>.d (.int (if i < 0 then -i else i))
theorem DT:eC K (fun xs H Q=>∃i,xs=[.int i]∧Q (.int (if i < 0 then -i else i)) H) (g1 uQ):=je fun σ H0 F H e x z v Q R A hg q=>by
  obtain⟨i,h5,h4⟩:=Option.map_eq_some_iff.mp hg
  cases h4
  exact⟨i,by rw [cm A h5],q F H _ (ej.refl _ _ _ _) R jI⟩
def uR:En→Rv→Option Rv:=fun _ x=>match x with
  | .d (.int i)=>some (.d (.int i))
  | .d (.bool k)=>some (.d (.int (if k then 1 else 0)))
  | _=>none
theorem Ei:eC K (fun xs H Q=>(∃i,xs=[.int i]∧Q (.int i) H)∨∃k,xs=[.bl k]∧Q (.int (if k then 1 else 0)) H) (g1 uR):=je fun σ H0 F H e x z v Q R A hg q=>by
  unfold uR at hg
  split at hg
  · cases hg
    exact .inl ⟨_,by rw [bY.mp (show DA K F (.int _) v from A)],q F H _ (ej.refl _ _ _ _) R jI⟩
  · cases hg
    exact .inr ⟨_,by rw [cA.mp (show DA K F (.bool _) v from A)],q F H _ (ej.refl _ _ _ _) R jI⟩
  · cases hg
def pz:=gI (fun _ _=>true) fun i j=>.int (if j < i then j else i)
def lX:=gI (fun _ _=>true) fun i j=>.int (if j > i then j else i)
theorem Er:eC K (fun xs H Q=>∃i j,xs=[.int i,.int j]∧Q (.int (if j < i then j else i)) H) (g2 pz):=tD fun σ H0 F H e x y z v u Q R A B hg q=>by
  obtain⟨i,j,h1,h2,h3⟩:=i4 (K:=K) (g:=fun i j=>.int (if j < i then j else i)) (fun _ _ _=>bY.mpr rfl) σ H0 F H e x y z v u Q R A B hg q
  exact⟨i,j,by rw [h1,h2],h3⟩
theorem Ep:eC K (fun xs H Q=>∃i j,xs=[.int i,.int j]∧Q (.int (if j > i then j else i)) H) (g2 lX):=tD fun σ H0 F H e x y z v u Q R A B hg q=>by
  obtain⟨i,j,h1,h2,h3⟩:=i4 (K:=K) (g:=fun i j=>.int (if j > i then j else i)) (fun _ _ _=>bY.mpr rfl) σ H0 F H e x y z v u Q R A B hg q
  exact⟨i,j,by rw [h1,h2],h3⟩
def dr:En→Rv→Option Rv:=fun e x=>(cZ e x).map fun p=>.d (.tuple p.2)
theorem AE:eC K (fun xs H Q=>∃p ys,xs=[.ref p]∧((gA K H p ys∧∀l,H l=none→Q (.ref l) (aV H l (.tup ys)))∨(cW K H p ys∧Q (.ref p) H))) (g1 dr):=je fun σ H0 F H e x z v Q R A hg q=>by
  obtain⟨⟨b,xs⟩,h5,h4⟩:=Option.map_eq_some_iff.mp hg
  obtain⟨p,vs,rfl,d1,s1⟩:=ce R A h5
  cases h4
  refine⟨p,vs,rfl,?_⟩
  cases b with
  | true=>
    refine .inl ⟨s1,fun t ht=>?_⟩
    obtain⟨R4,X4⟩:=R.newT (vs:=vs) ht
    exact q _ _ _ X4 R4 (cI.mpr ⟨t,_,rfl,.inl (.inl ax),d1.mono X4.sf⟩)
  | false=>
    obtain⟨F4,R4,X4,hF⟩:=R.growT (av.refl _) s1
    exact .inr ⟨s1,q _ _ _ X4 R4 (cI.mpr ⟨p,vs,rfl,hF,d1.mono X4.sf⟩)⟩
def Be:En→Rv→Option Rv:=fun e x=>(cZ e x).map fun p=>.l p.2
theorem Cg:eC K (fun xs H Q=>∃p ys,xs=[.ref p]∧(gA K H p ys∨cW K H p ys)∧∀l,H l=none→Q (.ref l) (aV H l (.lst ys))) (g1 Be):=je fun σ H0 F H e x z v Q R A hg q=>by
  obtain⟨⟨b,xs⟩,h5,h4⟩:=Option.map_eq_some_iff.mp hg
  obtain⟨p,vs,rfl,d1,s1⟩:=ce R A h5
  cases h4
  refine⟨p,vs,rfl,?_,fun t ht=>?_⟩
  · cases b with
    | true=>exact .inl s1
    | false=>exact .inr s1
  · obtain⟨R4,X4,hF,no⟩:=R.newL (vs:=vs) ht
    exact q _ _ _ X4 R4 ⟨t,_,rfl,ht,hF,ax,d1,no⟩
def mI:List PyData→Option (List Int)
  | []=>some []
  | .int i::r=>(mI r).map (i::·)
  | _=>none
theorem mJ:∀{ds:List PyData} {ns:List Int},mI ds=some ns→ds=ns.map .int
  | [],_,h=>by cases h;rfl
  | .int i::r,_,h=>by
    obtain⟨ns,h1,rfl⟩:=Option.map_eq_some_iff.mp h
    rw [mJ h1];rfl
theorem g_:∀(ns:List Int),mI (ns.map .int)=some ns
  | []=>rfl
  | i::r=>by simp [mI,g_ r]
def kP:List PyData→Option (List Bool)
  | []=>some []
  | .bool i::r=>(kP r).map (i::·)
  | _=>none
theorem kQ:∀{ds:List PyData} {ns:List Bool},kP ds=some ns→ds=ns.map .bool
  | [],_,h=>by cases h;rfl
  | .bool i::r,_,h=>by
    obtain⟨ns,h1,rfl⟩:=Option.map_eq_some_iff.mp h
    rw [kQ h1];rfl
def fR(g:List PyData→Option PyData):En→Rv→Option Rv:=fun e x=>match cZ e x with
  | some (true,xs)=>(g xs).map .d
  | _=>none
theorem yl{r:List V→Hp→VK→Prop}{g:List PyData→Option PyData}(h:∀(F H:Hp) (p:Addr) (xs:List PyData) (vs:List V) (d:PyData) (Q:VK),aJ K F xs vs→gA K H p vs→g xs=some d→(∀v,(∀F,DA K F d v)→Q v H)→r [.ref p] H Q):eC K r (g1 (fR g)):=je fun σ H0 F H e x z v Q R A hg q=>by
  unfold fR at hg
  split at hg
  case h_2=>cases hg
  case h_1 xs h5=>
  obtain⟨p,vs,rfl,d1,s1⟩:=ce R A h5
  obtain⟨d,h6,hg⟩:=Option.map_eq_some_iff.mp hg
  cases hg
  exact h F H p xs vs d Q d1 s1 h6 fun v hv=>q F H v (ej.refl _ _ _ _) R (hv F)
def lH:List PyData→Option PyData:=fun xs=>(kP xs).map fun ns=>.bool (ns.all id)
def qo:List PyData→Option PyData:=fun xs=>(kP xs).map fun ns=>.bool (ns.any id)
theorem DV:eC K (fun xs H Q=>∃(l:Addr) (bs:List Bool),xs=[.ref l]∧gA K H l (bs.map V.bl)∧Q (.bl (bs.all id)) H) (g1 (fR lH)):=yl fun F H p xs vs d Q d1 s1 hg q=>by
  obtain⟨ns,h1,h2⟩:=Option.map_eq_some_iff.mp hg
  cases h2
  rw [kQ h1] at d1
  rw [aJ.bools.mp d1] at s1
  exact⟨p,ns,rfl,s1,q _ fun _=>cA.mpr rfl⟩
theorem DX:eC K (fun xs H Q=>∃(l:Addr) (bs:List Bool),xs=[.ref l]∧gA K H l (bs.map V.bl)∧Q (.bl (bs.any id)) H) (g1 (fR qo)):=yl fun F H p xs vs d Q d1 s1 hg q=>by
  obtain⟨ns,h1,h2⟩:=Option.map_eq_some_iff.mp hg
  cases h2
  rw [kQ h1] at d1
  rw [aJ.bools.mp d1] at s1
  exact⟨p,ns,rfl,s1,q _ fun _=>cA.mpr rfl⟩
mutual
def Bc:PyData→Bool
  | .tuple ds=>tL ds
  | .list _=>false
  | .dict _=>false
  | _=>true
def tL:List PyData→Bool
  | []=>true
  | d::r=>Bc d&&tL r
end
mutual
def xm:PyData→Bool
  | .list _=>false
  | .tuple ds=>qK ds
  | _=>true
def qK:List PyData→Bool
  | []=>true
  | d::r=>xm d&&qK r
end
end
end L2
namespace L2
open PySem PySem.Spec PyProof.Rows
section
variable{K:PySem.W.Frag}{σ:L2.St}{H0 F H F' H':Hp}{e e':En}
theorem aY.upd1(R:aY K F H σ e){σ':L2.St}(i:Nat)(hl:σ'.length=e'.length)(hσ:∀j,j≠i→σ'[j]?=σ[j]?)(he:∀j,j≠i→e'[j]?=e[j]?)(sF:av F F')(sm:av F' H')(hf:∀j a,j≠i→Fp σ e H j a→F' a=none)
    (hh:∀j a o,j≠i→Fp σ e H j a→H a=some o→H' a=some o)(hd:∀x,e'[i]?=some (some (.d x))→∃v,σ'[i]?=some (some v)∧DA K F' x v)
    (ho:∀xs,e'[i]?=some (some (.l xs))→∃l vs,σ'[i]?=some (some (.ref l))∧F' l=none∧H' l=some (.lst vs)∧aJ K F' xs vs)
    (hn:∀xss,e'[i]?=some (some (.n xss))→∃(l:Addr) (bs:List Addr),σ'[i]?=some (some (.ref l))∧F' l=none∧H' l=some (.lst (bs.map V.ref))∧bs.length=xss.length∧bs.Nodup∧l∉bs∧
      ∀(k:Nat) (b:Addr) (ys:List PyData),bs[k]?=some b→xss[k]?=some ys→F' b=none∧∃us,H' b=some (.lst us)∧aJ K F' ys us)
    (hi:∀a j,j≠i→Fp σ' e' H' i a→¬Fp σ e H j a):aY K F' H' σ' e'∧∀j a,j≠i→(Fp σ' e' H' j a↔ Fp σ e H j a):=by
  have fs:∀j a,j≠i→(Fp σ' e' H' j a↔ Fp σ e H j a):=by
    intro j a hj
    have key:∀xss l,e[j]?=some (some (.n xss))→σ[j]?=some (some (.ref l))→H' l=H l:=fun xss l h1 h2=>by
      obtain⟨l',bs,g1,g2,g3,_⟩:=R.nst j xss h1
      rw [h2] at g1;cases g1
      rw [g3]
      exact hh j l _ hj (.inr ⟨xss,l,bs,h1,h2,g3,.inl rfl⟩) g3
    unfold Fp
    rw [he j hj,hσ j hj]
    constructor
    · rintro(h1 | ⟨xss,l,bs,h1,h2,h3,h4⟩)
      · exact .inl h1
      · exact .inr ⟨xss,l,bs,h1,h2,by rw [←key xss l h1 h2];exact h3,h4⟩
    · rintro(h1 | ⟨xss,l,bs,h1,h2,h3,h4⟩)
      · exact .inl h1
      · exact .inr ⟨xss,l,bs,h1,h2,by rw [key xss l h1 h2];exact h3,h4⟩
  refine⟨⟨sm,hl,fun j x q=>?_,fun j xs q=>?_,fun j xss q=>?_,fun j k a q1 q2=>?_⟩,fs⟩
  · by_cases z:j=i
    · subst z;exact hd x q
    · rw [he j z] at q
      obtain⟨v,h1,h2⟩:=R.dat j x q
      exact⟨v,by rw [hσ j z];exact h1,DA.mono sF h2⟩
  · by_cases z:j=i
    · subst z;exact ho xs q
    · rw [he j z] at q
      obtain⟨l,vs,h1,h2,h3,h4⟩:=R.own j xs q
      have o:Fp σ e H j l:=.inl ⟨xs,q,h1⟩
      exact⟨l,vs,by rw [hσ j z];exact h1,hf j l z o,hh j l _ z o h3,h4.mono sF⟩
  · by_cases z:j=i
    · subst z;exact hn xss q
    · rw [he j z] at q
      obtain⟨l,bs,h1,h2,h3,h4,h5,h6,h7⟩:=R.nst j xss q
      have o:Fp σ e H j l:=.inr ⟨xss,l,bs,q,h1,h3,.inl rfl⟩
      refine⟨l,bs,by rw [hσ j z];exact h1,hf j l z o,hh j l _ z o h3,h4,h5,h6,fun k b ys g1 g2=>?_⟩
      obtain⟨c1,us,c2,c3⟩:=h7 k b ys g1 g2
      have ob:Fp σ e H j b:=.inr ⟨xss,l,bs,q,h1,h3,.inr (List.mem_of_getElem? g1)⟩
      exact⟨hf j b z ob,us,hh j b _ z ob c2,c3.mono sF⟩
  · by_cases zj:j=i
    · subst zj
      by_cases zk:k=j
      · exact zk.symm
      · exact absurd ((fs k a zk).mp q2) (hi a k zk q1)
    · by_cases zk:k=i
      · subst zk
        exact absurd ((fs j a zj).mp q1) (hi a j zj q2)
      · exact R.fp j k a ((fs j a zj).mp q1) ((fs k a zk).mp q2)
theorem aY.putL(R:aY K F H σ e){i:Nat}{xs ys:List PyData}{l:Addr}{vs:List V}(hi:e[i]?=some (some (.l xs)))(hl:σ[i]?=some (some (.ref l)))(hd:aJ K F ys vs):
    aY K F (aV H l (.lst vs)) σ (e.set i (some (.l ys)))∧ej σ F H e F (aV H l (.lst vs)) (e.set i (some (.l ys))):=by
  obtain⟨l',vs',h1,h2,h3,h4⟩:=R.own i xs hi
  rw [hl] at h1;cases h1
  have hlt:i < e.length:=(List.getElem?_eq_some_iff.mp hi).1
  have fi:Fp σ e H i l:=.inl ⟨xs,hi,hl⟩
  have gi:(e.set i (some (Sv.l ys)))[i]?=some (some (.l ys)):=List.getElem?_set_self hlt
  obtain⟨R',fs⟩:=R.upd1 (F':=F) (H':=aV H l (.lst vs)) (e':=e.set i (some (.l ys))) i (by rw [List.length_set];exact R.len) (fun _ _=>rfl) (fun j hj=>List.getElem?_set_ne (Ne.symm hj)) (av.refl F)
    (fun b o q=>by
      have z:b≠l:=fun z=>by rw [z,h2] at q;cases q
      rw [aB z];exact R.sm b o q)
    (fun j a _ q=>(R.fpAt q).1)
    (fun j a o hj q ha=>by
      have z:a≠l:=fun z=>hj (R.fp j i a q (by rw [z];exact fi))
      rw [aB z];exact ha)
    (fun x q=>by rw [gi] at q;cases q) (fun zs q=>by rw [gi] at q;cases q;exact⟨l,vs,hl,h2,ax,hd⟩) (fun xss q=>by rw [gi] at q;cases q)
    (fun a j hj q q2=>by
      rcases q with ⟨zs,_,q⟩ | ⟨xss,_,_,q,_⟩
      · rw [hl] at q;cases q
        exact hj (R.fp j i _ q2 fi)
      · rw [gi] at q;cases q)
  refine⟨R',⟨av.refl _,fun a q=>?_,fun _ _ q _ _=>q,fun a ws q=>?_,fun a o q n=>?_,fun j=>?_,fun a ⟨j,q⟩=>?_,fun _ _ q _ _=>q⟩⟩
  · by_cases z:a=l
    · rw [z,ax] at q;cases q
    · rw [aB z] at q;exact q
  · by_cases z:a=l
    · rw [z];exact⟨vs,ax⟩
    · rw [aB z];exact⟨ws,q⟩
  · have z:a≠l:=fun z=>n ⟨i,by rw [z];exact fi⟩
    rw [aB z];exact q
  · by_cases z:j=i
    · subst z;rw [gi];exact⟨fun _=>⟨xs,hi⟩,fun _=>⟨ys,rfl⟩⟩
    · rw [List.getElem?_set_ne (Ne.symm z)]
  · by_cases z:j=i
    · subst z
      rcases q with ⟨zs,_,q⟩ | ⟨xss,_,_,q,_⟩
      · rw [hl] at q;cases q;exact .inl ⟨j,fi⟩
      · rw [gi] at q;cases q
    · exact .inl ⟨j,(fs j a z).mp q⟩
theorem aY.setD(R:aY K F H σ e)(i:Nat){x:PyData}{v:V}(h:DA K F x v):aY K F H (σ.set i (some v)) (e.set i (some (.d x)))∧∀a,bR (σ.set i (some v)) (e.set i (some (.d x))) H a→bR σ e H a:=by
  have gi:∀s,(e.set i (some (Sv.d x)))[i]?=some (some s)→s=.d x∧i < e.length:=fun s q=>by
    have hlt:i < e.length:=by have:=(List.getElem?_eq_some_iff.mp q).1;simpa using this
    rw [List.getElem?_set_self hlt] at q
    exact⟨(Option.some.inj (Option.some.inj q)).symm,hlt⟩
  have nofp:∀a,¬Fp (σ.set i (some v)) (e.set i (some (.d x))) H i a:=fun a q=>by
    rcases q with ⟨zs,q,_⟩ | ⟨xss,_,_,q,_⟩
    · cases (gi _ q).1
    · cases (gi _ q).1
  obtain⟨R',fs⟩:=R.upd1 (F':=F) (H':=H) (σ':=σ.set i (some v)) (e':=e.set i (some (.d x))) i (by rw [List.length_set,List.length_set];exact R.len) (fun j hj=>List.getElem?_set_ne (Ne.symm hj)) (fun j hj=>List.getElem?_set_ne (Ne.symm hj)) (av.refl F) R.sm
    (fun j a _ q=>(R.fpAt q).1) (fun j a o _ _ ha=>ha)
    (fun y q=>by
      obtain⟨z,hlt⟩:=gi _ q
      cases z
      exact⟨v,List.getElem?_set_self (by rw [R.len];exact hlt),h⟩)
    (fun zs q=>by cases (gi _ q).1) (fun xss q=>by cases (gi _ q).1) (fun a j hj q=>absurd q (nofp a))
  refine⟨R',fun a ⟨j,q⟩=>?_⟩
  by_cases z:j=i
  · subst z;exact absurd q (nofp a)
  · exact⟨j,(fs j a z).mp q⟩
theorem aY.setL(R:aY K F H σ e)(i:Nat){xs:List PyData}{l:Addr}{vs:List V}(h1:F l=none)(h2:H l=some (.lst vs))(h3:aJ K F xs vs)(h4:¬bR σ e H l):aY K F H (σ.set i (some (.ref l))) (e.set i (some (.l xs)))∧∀a,bR (σ.set i (some (.ref l))) (e.set i (some (.l xs))) H a→bR σ e H a∨a=l:=by
  have gi:∀s,(e.set i (some (Sv.l xs)))[i]?=some (some s)→s=.l xs∧i < e.length:=fun s q=>by
    have hlt:i < e.length:=by have:=(List.getElem?_eq_some_iff.mp q).1;simpa using this
    rw [List.getElem?_set_self hlt] at q
    exact⟨(Option.some.inj (Option.some.inj q)).symm,hlt⟩
  have onefp:∀a,Fp (σ.set i (some (.ref l))) (e.set i (some (.l xs))) H i a→a=l:=fun a q=>by
    rcases q with ⟨zs,q,q2⟩ | ⟨xss,_,_,q,_⟩
    · obtain⟨_,hlt⟩:=gi _ q
      rw [List.getElem?_set_self (by rw [R.len];exact hlt)] at q2
      cases q2;rfl
    · cases (gi _ q).1
  obtain⟨R',fs⟩:=R.upd1 (F':=F) (H':=H) (σ':=σ.set i (some (.ref l))) (e':=e.set i (some (.l xs))) i (by rw [List.length_set,List.length_set];exact R.len) (fun j hj=>List.getElem?_set_ne (Ne.symm hj)) (fun j hj=>List.getElem?_set_ne (Ne.symm hj)) (av.refl F) R.sm
    (fun j a _ q=>(R.fpAt q).1) (fun j a o _ _ ha=>ha) (fun y q=>by cases (gi _ q).1)
    (fun zs q=>by
      obtain⟨z,hlt⟩:=gi _ q
      cases z
      exact⟨l,vs,List.getElem?_set_self (by rw [R.len];exact hlt),h1,h2,h3⟩)
    (fun xss q=>by cases (gi _ q).1) (fun a j hj q q2=>h4 ⟨j,by rw [onefp a q] at q2;exact q2⟩)
  refine⟨R',fun a ⟨j,q⟩=>?_⟩
  by_cases z:j=i
  · subst z;exact .inr (onefp a q)
  · exact .inl ⟨j,(fs j a z).mp q⟩
end
section
variable{X:Cx}{K:PySem.W.Frag}{o a:Expr}{es:List Expr}{fo:FE}{fs:FA}{name:Str}{apos cpos:Pos}{id:String}
def nK(K:PySem.W.Frag)(r:V→List V→Hp→VK→Prop)(g:List PyData→List PyData→Option (PyData × List PyData)):Prop:=
  ∀(F H:Hp) (l:Addr) (xs ys ds:List PyData) (z:PyData) (vs us:List V) (Q:VK),F l=none→av F H→H l=some (.lst vs)→aJ K F xs vs→aJ K F ds us→g xs ds=some (z,ys)→
    (∀w ws,DA K F z w→aJ K F ys ws→Q w (aV H l (.lst ws)))→r (.ref l) us H Q
def cw(g:List PyData→List PyData→Option (PyData × List PyData))(fo:FE)(fs:FA):FE:=fun e=>(fo e).bind fun p=>match p.1 with
  | .s i=>(fs p.2).bind fun q=>(jX q.1).bind fun ds=>match q.2[i]? with
    | some (some (.l xs))=>(g xs ds).map fun z=>(.d z.1,q.2.set i (some (.l z.2)))
    | _=>none
  | _=>none
theorem rG{r:V→List V→Hp→VK→Prop}{g:List PyData→List PyData→Option (PyData × List PyData)}(hm:nK K r g){σ:L2.St}{H:Hp}{Q:VK}(h:fE K (cw g fo fs) σ H Q):G4 K "list" r (fE K fo) (fA K fs) σ H Q:=by
  obtain⟨F,e,z,e',R,hf,q⟩:=h
  unfold cw at hf
  obtain⟨⟨x,e1⟩,h1,hf⟩:=Option.bind_eq_some_iff.mp hf
  match x,h1,hf with
  | .s i,h1,hf=>
  dsimp only at hf
  obtain⟨⟨rs,e2⟩,h2,hf⟩:=Option.bind_eq_some_iff.mp hf
  obtain⟨ds,h3,hf⟩:=Option.bind_eq_some_iff.mp hf
  refine⟨F,e,_,e1,R,h1,fun F1 H1 v X1 R1 A1=>?_⟩
  obtain⟨g1,zs,g2⟩:=A1
  obtain⟨l,vs,c1,c2,c3,c4⟩:=R1.own i zs g2
  rw [g1] at c1;cases c1
  refine⟨.inl ⟨rfl,vs,.inl (.inl c3)⟩,F1,e1,rs,e2,R1,h2,fun F2 H2 us X2 R2 A2=>?_⟩
  match h4:e2[i]?,hf with
  | some (some (.l xs)),hf=>
  dsimp only at hf
  obtain⟨⟨zd,ys⟩,h5,hf⟩:=Option.map_eq_some_iff.mp hf
  cases hf
  obtain⟨F3,R3,s3,d3,f3⟩:=dD.frozen R2 A2 h3
  obtain⟨l',vs',k1,k2,k3,k4⟩:=R3.own i xs h4
  rw [g1] at k1;cases k1
  refine hm F3 H2 l xs ys ds zd vs' us Q k2 R3.sm k3 k4 d3 h5 fun w ws hw hws=>?_
  obtain⟨R4,X4⟩:=R3.putL h4 g1 hws
  exact q _ _ _ ((X1.trans (X2.frz s3 f3)).trans X4) R4 hw
theorem Bp{r:V→List V→Hp→VK→Prop}{g:List PyData→List PyData→Option (PyData × List PyData)}(slot:Slot "list" name id)(hty:typeOf (.builtin id)=pure (.type "method_descriptor"))(hm:DE X id r)(hf:nK X.K r g)(ho:PE X o (fE X.K fo))(ha:PA X (a::es) (fA X.K fs))
    (hbase:attributeBase o name X.env (eval o X.env)=eval o X.env)
    (hfew:((backTo cpos (starEach (a::es) X.env)).all (fun x=> !x.1)&&(backToKw cpos (keywordEach [] X.env)).all (fun x=>x.1.isSome)
      &&decide ((a::es).length+([]:List Keyword).length+(if ([]:List Keyword).isEmpty then 0 else 1) < 30))=true)
    (hline:(apos.endLine==cpos.line)=true)(hs:starEach (a::es) X.env=(false,eval a X.env)::starEach es X.env)(hplain:(backTo cpos (starEach es X.env)).any (·.1)=false):
    PE X (.Call (.Attribute o name apos) (a::es) [] cpos) (fE X.K (cw g fo fs)):=(Bm PySem.F.plainAttrs_list slot hty hm ho ha hbase hfew hline hs hplain).mono fun _ _ _ h=>rG hf h
theorem C4{r:V→List V→Hp→VK→Prop}{g:List PyData→List PyData→Option (PyData × List PyData)}(slot:Slot "list" name id)(hty:typeOf (.builtin id)=pure (.type "method_descriptor"))(hm:DE X id r)(hf:nK X.K r g)(ho:PE X o (fE X.K fo))
    (hbase:attributeBase o name X.env (eval o X.env)=eval o X.env)(hline:(apos.endLine==cpos.line)=true):PE X (.Call (.Attribute o name apos) [] [] cpos) (fE X.K (cw g fo ai)):=(CJ PySem.F.plainAttrs_list slot hty hm ho hbase hline).mono fun σ H Q h=>by
  obtain⟨F,e,r',e',R,hf',q⟩:=rG hf h
  refine⟨F,e,r',e',R,hf',fun F1 H1 v X1 R1 A1=>?_⟩
  obtain⟨ty,G,e2,rs,e3,R2,h2,q2⟩:=q F1 H1 v X1 R1 A1
  cases h2
  exact⟨ty,q2 G H1 [] (ej.refl _ _ _ _) R2 rfl⟩
def bS:List PyData→List PyData→Option (PyData × List PyData):=fun xs ds=>match ds with
  | [d]=>if xs.length < 1000000 then some (.none,xs++[d]) else none
  | _=>none
theorem vU:nK K ui bS:=by
  intro F H l xs ys ds z vs us Q hF sm hl d1 d2 hg q
  unfold bS at hg
  match ds,hg,d2 with
  | [d],hg,d2=>
    simp only [aJ] at d2
    obtain⟨w,r,rfl,hw,rfl⟩:=d2
    dsimp only at hg
    split at hg
    case isFalse=>cases hg
    case isTrue hlt=>
    cases hg
    have:=d1.len
    have sl:sizeLine=16777216:=sizeLine_eq
    exact⟨l,vs,w,rfl,rfl,hl,by lia,q _ _ (gE.mpr rfl) (d1.append (aJ.one hw))⟩
def se:List PyData→List PyData→Option (PyData × List PyData):=fun xs ds=>match ds with
  | []=>(xs[xs.length - 1]?).map fun d=>(d,xs.dropLast)
  | _=>none
theorem aJ.dropLast{F:Hp}{ds:List PyData}{vs:List V}(h:aJ K F ds vs):aJ K F ds.dropLast vs.dropLast:=by
  rw [List.dropLast_eq_take,List.dropLast_eq_take,h.len];exact h.take _
theorem EL:nK K E3 se:=by
  intro F H l xs ys ds z vs us Q hF sm hl d1 d2 hg q
  unfold se at hg
  match ds,hg,d2 with
  | [],hg,d2=>
    simp only [aJ] at d2
    subst d2
    obtain⟨d,h1,h2⟩:=Option.map_eq_some_iff.mp hg
    cases h2
    obtain⟨v,g1,g2⟩:=d1.get h1
    rw [d1.len] at g1
    exact⟨l,vs,v,rfl,rfl,hl,g1,q _ _ g2 d1.dropLast⟩
def iy:List PyData→List PyData→Option (PyData × List PyData):=fun xs ds=>match ds with
  | [.int i]=>if 0≤i∧i < 1000000000 then(xs[i.toNat]?).map fun d=>(d,xs.eraseIdx i.toNat) else none
  | _=>none
theorem zX:nK K ya iy:=by
  intro F H l xs ys ds z vs us Q hF sm hl d1 d2 hg q
  unfold iy at hg
  match ds,hg,d2 with
  | [.int i],hg,d2=>
    simp only [aJ,DA] at d2
    obtain⟨w,r,rfl,rfl,rfl⟩:=d2
    dsimp only at hg
    split at hg
    case isFalse=>cases hg
    case isTrue hlt=>
    obtain⟨d,h1,h2⟩:=Option.map_eq_some_iff.mp hg
    cases h2
    obtain⟨v,g1,g2⟩:=d1.get h1
    have hlt2:i.toNat < vs.length:=(List.getElem?_eq_some_iff.mp g1).1
    exact⟨l,vs,i,i.toNat,v,rfl,rfl,hl,by lia,by lia,seqIndex_of hlt.1 (by lia),g1,q _ _ g2 (d1.erase _)⟩
end
end L2
namespace L2
open PySem PySem.Spec PyProof.Rows
inductive Fl where
  | nx (e:En)
  | bk (e:En)
  | ct (e:En)
  | rt (r:Rv) (e:En)
abbrev FS:=En→Option Fl
structure cF (W:List Nat) (σ:L2.St) (F H:Hp) (e:En) (σ':L2.St) (F' H':Hp) (e':En):Prop where
  sf:av F F'
  dom:∀a,H' a=none→H a=none
  fr:∀a vs,F a=none→H a=some (.lst vs)→¬bR σ e H a→F' a=none
  lst:∀a vs,H a=some (.lst vs)→∃vs',H' a=some (.lst vs')
  tmp:∀a o,H a=some o→¬bR σ e H a→H' a=some o
  own:∀a,bR σ' e' H' a→bR σ e H a∨H a=none
  wr:∀j,j∉W→σ'[j]?=σ[j]?
  fd:∀a m,F a=none→H a=some (.dK m)→¬bR σ e H a→F' a=none
section
variable{K:PySem.W.Frag}{W W1 W2:List Nat}{σ σ1 σ2 σ':L2.St}{H0 F H F1 H1 F2 H2 F' H':Hp}{e e1 e2 e':En}
theorem cF.refl:cF W σ F H e σ F H e:=⟨av.refl _,fun _ h=>h,fun _ _ h _ _=>h,fun _ vs h=>⟨vs,h⟩,fun _ _ h _=>h,fun _ h=>.inl h,fun _ _=>rfl,fun _ _ h _ _=>h⟩
theorem ej.s(x:ej σ F H e F' H' e'):cF W σ F H e σ F' H' e':=⟨x.sf,x.dom,x.fr,x.lst,x.tmp,x.ow,fun _ _=>rfl,x.fd⟩
theorem cF.trans(x:cF W σ F H e σ1 F1 H1 e1)(y:cF W σ1 F1 H1 e1 σ2 F2 H2 e2):cF W σ F H e σ2 F2 H2 e2:=
  ⟨x.sf.trans y.sf,fun a h=>x.dom a (y.dom a h),fun a vs h n no=>let ⟨vs',q⟩:=x.lst a vs n;y.fr a vs' (x.fr a vs h n no) q (fun z=>(x.own a z).elim no fun z=>by rw [n] at z;cases z),fun a vs h=>let ⟨vs',q⟩:=x.lst a vs h;y.lst a vs' q,
    fun a o h n=>y.tmp a o (x.tmp a o h n) (fun z=>(x.own a z).elim n fun z=>by rw [h] at z;cases z),
    fun a h=>(y.own a h).elim (x.own a) (fun z=>.inr (x.dom a z)),
    fun j h=>(y.wr j h).trans (x.wr j h),
    fun a m h n no=>y.fd a m (x.fd a m h n no) (x.tmp a _ n no) (fun z=>(x.own a z).elim no fun z=>by rw [n] at z;cases z)⟩
theorem cF.mono(x:cF W1 σ F H e σ' F' H' e')(h:∀j,j∈W1→j∈W):cF W σ F H e σ' F' H' e':=⟨x.sf,x.dom,x.fr,x.lst,x.tmp,x.own,fun j n=>x.wr j fun z=>n (h j z),x.fd⟩
end
def mB(K:PySem.W.Frag)(W:List Nat)(σ:L2.St)(F H:Hp)(e:En)(D:oR):Fl→Prop
  | .nx e'=>∀F' H' σ',cF W σ F H e σ' F' H' e'→aY K F' H' σ' e'→D.nx σ' H'
  | .bk e'=>∀F' H' σ',cF W σ F H e σ' F' H' e'→aY K F' H' σ' e'→D.bk σ' H'
  | .ct e'=>∀F' H' σ',cF W σ F H e σ' F' H' e'→aY K F' H' σ' e'→D.ct σ' H'
  | .rt r e'=>∀F' H' σ' v,cF W σ F H e σ' F' H' e'→aY K F' H' σ' e'→cz K σ' H F' H' e' r v→D.rt v H'
def fS(K:PySem.W.Frag)(f:FS)(W:List Nat):TS:=fun D σ H=>∃F e fl,aY K F H σ e∧f e=some fl∧mB K W σ F H e D fl
theorem PS.mono{X:Cx}{st:Stmt}{t t':TS}(h:PS X st t)(m:∀D σ H,t' D σ H→t D σ H):PS X st t':=fun pins s σ H D I q=>h pins s σ H D I (m D σ H q)
theorem iM.mono{X:Cx}{st:List Stmt}{t t':TS}(h:iM X st t)(m:∀D σ H,t' D σ H→t D σ H):iM X st t':=fun pins s σ H D I q=>h pins s σ H D I (m D σ H q)
theorem mB.later{K:PySem.W.Frag}{W W1 W2:List Nat}{σ σ1:L2.St}{F H F1 H1:Hp}{e e1:En}{D:oR}{fl:Fl}(h:mB K W σ F H e D fl)(x:cF W1 σ F H e σ1 F1 H1 e1)(h1:∀j,j∈W1→j∈W)(h2:∀j,j∈W2→j∈W):mB K W2 σ1 F1 H1 e1 D fl:=by
  cases fl with
  | nx e'=>exact fun F' H' σ' y R=>h F' H' σ' ((x.mono h1).trans (y.mono h2)) R
  | bk e'=>exact fun F' H' σ' y R=>h F' H' σ' ((x.mono h1).trans (y.mono h2)) R
  | ct e'=>exact fun F' H' σ' y R=>h F' H' σ' ((x.mono h1).trans (y.mono h2)) R
  | rt r e'=>exact fun F' H' σ' v y R A=>h F' H' σ' v ((x.mono h1).trans (y.mono h2)) R (A.weak x.dom)
section
variable{X:Cx}{K:PySem.W.Frag}{W W1 W2:List Nat}{st:Stmt}{d_:List Stmt}{f g:FS}{a b:Expr}{fa:FE}{ft:FT}{pos:Pos}
def fw:FS:=fun e=>some (.nx e)
def aA(f g:FS):FS:=fun e=>(f e).bind fun fl=>match fl with
  | .nx e1=>g e1
  | fl=>some fl
theorem bJ:iM X [] (fS K fw []):=uf.mono fun D σ H h=>by
  obtain⟨F,e,fl,R,hf,q⟩:=h
  cases hf
  exact q F H σ cF.refl R
theorem ah(h1:PS X st (fS K f W1))(h2:iM X d_ (fS K g W2)):iM X (st::d_) (fS K (aA f g) (W1++W2)):=(mP h1 h2).mono fun D σ H h=>by
  obtain⟨F,e,fl,R,hf,q⟩:=h
  unfold aA at hf
  obtain⟨fl1,h1,hf⟩:=Option.bind_eq_some_iff.mp hf
  have s1:∀j,j∈W1→j∈W1++W2:=fun j h=>List.mem_append.mpr (.inl h)
  have s2:∀j,j∈W2→j∈W1++W2:=fun j h=>List.mem_append.mpr (.inr h)
  refine⟨F,e,fl1,R,h1,?_⟩
  cases fl1 with
  | nx e1=>exact fun F' H' σ' x R'=>⟨F',e1,fl,R',hf,q.later x s1 s2⟩
  | bk e1=>cases hf;exact fun F' H' σ' x R'=>q F' H' σ' (x.mono s1) R'
  | ct e1=>cases hf;exact fun F' H' σ' x R'=>q F' H' σ' (x.mono s1) R'
  | rt r e1=>cases hf;exact fun F' H' σ' v x R' A=>q F' H' σ' v (x.mono s1) R' A
theorem am(h1:PS X st (fS K f W)):iM X [st] (fS K f W):=ug h1
def eT(fa:FE):FS:=fun e=>(fa e).map fun p=>.nx p.2
theorem dn(he:PE X a (fE K fa))(hs:swapsWith a none pos.line X.env=pure false):PS X (.Expr a pos) (fS K (eT fa) []):=(z0 he hs).mono fun D σ H h=>by
  obtain⟨F,e,fl,R,hf,q⟩:=h
  obtain⟨⟨x,e1⟩,h1,hf⟩:=Option.map_eq_some_iff.mp hf
  cases hf
  exact⟨F,e,x,e1,R,h1,fun F1 H1 v X1 R1 A1=>q F1 H1 σ X1.s R1⟩
def bQ(fa:FE):FS:=fun e=>(fa e).map fun p=>.rt p.1 p.2
theorem aG(he:PE X a (fE K fa)):PS X (.Return (some a) pos) (fS K (bQ fa) []):=(xQ he).mono fun D σ H h=>by
  obtain⟨F,e,fl,R,hf,q⟩:=h
  obtain⟨⟨x,e1⟩,h1,hf⟩:=Option.map_eq_some_iff.mp hf
  cases hf
  exact⟨F,e,x,e1,R,h1,fun F1 H1 v X1 R1 A1=>q F1 H1 σ v X1.s R1 A1⟩
def jt(ft:FT)(f g:FS):FS:=fun e=>(ft e).bind fun p=>if p.1=true then f p.2 else g p.2
theorem dQ{c:Expr}{bs cs:List Stmt}(hc:PT X c (fT K ft))(ha:iM X bs (fS K f W1))(hb:iM X cs (fS K g W2)):PS X (.If c bs cs pos) (fS K (jt ft f g) (W1++W2)):=(Bn hc ha hb).mono fun D σ H h=>by
  obtain⟨F,e,fl,R,hf,q⟩:=h
  unfold jt at hf
  obtain⟨⟨x,e1⟩,h1,hf⟩:=Option.bind_eq_some_iff.mp hf
  refine⟨F,e,x,e1,R,h1,fun F1 H1 X1 R1=>?_⟩
  cases x with
  | true=>exact⟨F1,e1,fl,R1,hf,q.later (W1:=[]) X1.s (fun j h=>by cases h) fun j h=>List.mem_append.mpr (.inl h)⟩
  | false=>exact⟨F1,e1,fl,R1,hf,q.later (W1:=[]) X1.s (fun j h=>by cases h) fun j h=>List.mem_append.mpr (.inr h)⟩
def Ac(i:Nat)(r:Rv)(e:En):Option En:=match r with
  | .d x=>some (e.set i (some (.d x)))
  | .l xs=>some (e.set i (some (.l xs)))
  | .s _=>none
theorem xU{σ:L2.St}{H F H1 F1:Hp}{e e1 e2:En}{i:Nat}{r:Rv}{v:V}(R:aY K F H σ e)(X1:ej σ F H e F1 H1 e1)(R1:aY K F1 H1 σ e1)(A1:cz K σ H F1 H1 e1 r v)(h:Ac i r e1=some e2):
    cF [i] σ F H e (σ.set i (some v)) F1 H1 e2∧aY K F1 H1 (σ.set i (some v)) e2:=by
  have wr:∀j,j∉[i]→(σ.set i (some v))[j]?=σ[j]?:=fun j n=>List.getElem?_set_ne (fun z=>n (by simp [z]))
  cases r with
  | d x=>
    cases h
    obtain⟨R2,o2⟩:=R1.setD i A1
    exact⟨⟨X1.sf,X1.dom,X1.fr,X1.lst,X1.tmp,fun a h=>X1.ow a (o2 a h),wr,X1.fd⟩,R2⟩
  | l xs=>
    cases h
    obtain⟨l,vs,rfl,h1,h2,h3,h4,h5⟩:=A1
    obtain⟨R2,o2⟩:=R1.setL i h2 h3 h4 h5
    refine⟨⟨X1.sf,X1.dom,X1.fr,X1.lst,X1.tmp,fun a h=>?_,wr,X1.fd⟩,R2⟩
    rcases o2 a h with z | z
    · exact X1.ow a z
    · exact .inr (by rw [z];exact h1)
  | s j=>cases h
def aR(i:Nat)(fa:FE):FS:=fun e=>(fa e).bind fun p=>(Ac i p.1 p.2).map .nx
theorem ar{i:Nat}{x:Str}{pos':Pos}(hN:X.N.Nodup)(hi:X.N[i]?=some x)(hx:BG X.env.scope x)(he:PE X a (fE K fa))(hs:swapsWith a (some (.Name x pos')) pos.line X.env=pure false)(hf:X.fn x=true∨X.env.scope.names.lookup x=some .local):
    PS X (.Assign [.Name x pos'] a pos) (fS K (aR i fa) [i]):=(xR hN hi hx he hs hf).mono fun D σ H h=>by
  obtain⟨F,e,fl,R,hf,q⟩:=h
  unfold aR at hf
  obtain⟨⟨r,e1⟩,h1,hf⟩:=Option.bind_eq_some_iff.mp hf
  obtain⟨e2,h2,hf⟩:=Option.map_eq_some_iff.mp hf
  cases hf
  refine⟨F,e,r,e1,R,h1,fun F1 H1 v X1 R1 A1=>?_⟩
  obtain⟨x,R2⟩:=xU R X1 R1 A1 h2
  exact q F1 H1 _ x R2
abbrev FG:=PyData→En→Option En
def fG(K:PySem.W.Frag)(g:FG)(W:List Nat):TG:=fun v σ H Q=>∃F e x e',aY K F H σ e∧DA K F x v∧g x e=some e'∧∀σ',cF W σ F H e σ' F H e'→aY K F H σ' e'→Q σ' H
abbrev AQ:=List PyData→En→Option En
def FU(K:PySem.W.Frag)(g:AQ)(W:List Nat):yK:=fun vs σ H Q=>∃F e xs e',aY K F H σ e∧aJ K F xs vs∧g xs e=some e'∧∀σ',cF W σ F H e σ' F H e'→aY K F H σ' e'→Q σ' H
theorem PG.mono{tg:Expr}{t t':TG}(h:PG X tg t)(m:∀v σ H Q,t' v σ H Q→t v σ H Q):PG X tg t':=fun pins s σ H v u Q I r q=>h pins s σ H v u Q I r (m v σ H Q q)
theorem vM.mono{tg:List Expr}{t t':yK}(h:vM X tg t)(m:∀v σ H Q,t' v σ H Q→t v σ H Q):vM X tg t':=fun pins s σ H v u Q I r q=>h pins s σ H v u Q I r (m v σ H Q q)
def ag(i:Nat):FG:=fun x e=>some (e.set i (some (.d x)))
def cK:AQ:=fun xs e=>match xs with
  | []=>some e
  | _=>none
def ap(g:FG)(gs:AQ):AQ:=fun xs e=>match xs with
  | x::r=>(g x e).bind fun e1=>gs r e1
  | _=>none
def c9(gs:AQ):FG:=fun x e=>match x with
  | .tuple xs=>gs xs e
  | _=>none
theorem aq{i:Nat}{x:Str}(hN:X.N.Nodup)(hi:X.N[i]?=some x)(hx:BG X.env.scope x)(hf:X.fn x=true∨X.env.scope.names.lookup x=some .local):PG X (.Name x pos) (fG K (ag i) [i]):=(zQ hN hi hx hf).mono fun v σ H Q h=>by
  obtain⟨F,e,x,e',R,hx,hg,q⟩:=h
  cases hg
  obtain⟨R2,o2⟩:=R.setD i hx
  exact q _ ⟨av.refl _,fun _ h=>h,fun _ _ h _ _=>h,fun _ vs h=>⟨vs,h⟩,fun _ _ h _=>h,fun a h=>.inl (o2 a h),fun j n=>List.getElem?_set_ne (fun z=>n (by simp [z])),fun _ _ h _ _=>h⟩ R2
theorem iz:vM X [] (FU K cK []):=zS.mono fun v σ H Q h=>by
  obtain⟨F,e,x,e',R,hx,hg,q⟩:=h
  unfold cK at hg
  split at hg
  · cases hg
    simp only [aJ] at hx
    exact⟨hx,q σ cF.refl R⟩
  · cases hg
theorem aZ{es:List Expr}{g1:FG}{gs:AQ}(h1:PG X a (fG K g1 W1))(h2:vM X es (FU K gs W2))
    (hs:(assignEach (a::es) X.env).map (·.2)=assign a X.env::(assignEach es X.env).map (·.2)):vM X (a::es) (FU K (ap g1 gs) (W1++W2)):=(xI h1 h2 hs).mono fun v σ H Q h=>by
  obtain⟨F,e,xs,e',R,hx,hg,q⟩:=h
  unfold ap at hg
  match xs,hg,hx with
  | x::r,hg,hx=>
    simp only [aJ] at hx
    obtain⟨w,ws,e1,hw,hr⟩:=hx
    dsimp only at hg
    obtain⟨e1',h3,h4⟩:=Option.bind_eq_some_iff.mp hg
    refine⟨w,ws,e1,F,e,x,e1',R,hw,h3,fun σ1 x1 R1=>⟨F,e1',r,e',R1,hr,h4,fun σ2 x2 R2=>?_⟩⟩
    exact q σ2 ((x1.mono fun j h=>List.mem_append.mpr (.inl h)).trans (x2.mono fun j h=>List.mem_append.mpr (.inr h))) R2
theorem jH{es:List Expr}{k n:Nat}{gs:AQ}(hK:X.K=K)(hc:X.calm=true)(h:vM X es (FU K gs W))(hl:∀xs e e',gs xs e=some e'→xs.length=n)(hn:(assignEach es X.env).length=n)(hst:(assignEach es X.env).findIdx? (·.1)=none):PG X (.Tuple es k pos) (fG K (c9 gs) W):=(zR hK hc h hn hst).mono fun v σ H Q h=>by
  obtain⟨F,e,x,e',R,hx,hg,q⟩:=h
  unfold c9 at hg
  match x,hg,hx with
  | .tuple xs,hg,hx=>
    obtain⟨p,vs,e1,e2,e3⟩:=cI.mp hx
    exact⟨p,vs,e1,R.sm.tup e2,by rw [←e3.len];exact hl xs e e' hg,F,e,xs,e',R,e3,hg,q⟩
theorem jB(xs:List PyData)(e e':En)(h:cK xs e=some e'):xs.length=0:=by
  unfold cK at h
  split at h
  · rfl
  · cases h
theorem bu{g:FG}{gs:AQ}{n:Nat}(hl:∀xs e e',gs xs e=some e'→xs.length=n)(xs:List PyData)(e e':En)(h:ap g gs xs e=some e'):xs.length=n+1:=by
  unfold ap at h
  match xs,h with
  | x::r,h=>
    obtain⟨e1,h3,h4⟩:=Option.bind_eq_some_iff.mp h
    simp [hl r e1 e' h4]
def qY(fa:FE)(g:FG):FS:=fun e=>(fa e).bind fun p=>match p.1 with
  | .d x=>(g x p.2).map .nx
  | _=>none
theorem sA{tg:Expr}{g:FG}(he:PE X a (fE K fa))(hg:PG X tg (fG K g W))(hs:swapsWithSole [tg] a pos.line X.env=pure false)(hw:swappedStores [tg] a X.env=pure none)
    (h1:(assignEach [tg] X.env).map (·.2)=[assign tg X.env]):PS X (.Assign [tg] a pos) (fS K (qY fa g) W):=(CV he hg hs hw h1).mono fun D σ H h=>by
  obtain⟨F,e,fl,R,hf,q⟩:=h
  unfold qY at hf
  obtain⟨⟨r,e1⟩,h1,hf⟩:=Option.bind_eq_some_iff.mp hf
  match r,h1,hf with
  | .d x,h1,hf=>
    obtain⟨e2,h2,hf⟩:=Option.map_eq_some_iff.mp hf
    cases hf
    exact⟨F,e,_,e1,R,h1,fun F1 H1 v X1 R1 A1=>⟨F1,e1,x,e2,R1,A1,h2,fun σ' x2 R2=>q F1 H1 σ' (X1.s.trans x2) R2⟩⟩
def yg(i j:Nat)(fs:FA):FS:=fun e=>(fs e).bind fun p=>match p.1 with
  | [.d x,.d y]=>some (.nx ((p.2.set i (some (.d x))).set j (some (.d y))))
  | _=>none
theorem C_{i j:Nat}{x y:Str}{fs:FA}{px py pt:Pos}{kt k2 pt2}(hc:X.calm=true)(hN:X.N.Nodup)(hi:X.N[i]?=some x)(hj:X.N[j]?=some y)(hij:i≠j)
    (hx:X.env.scope.names.lookup x=some .local)(hy:X.env.scope.names.lookup y=some .local)(ha:PA X [a,b] (fA K fs))
    (hw:swappedStores [.Tuple [.Name x px,.Name y py] kt pt] (.Tuple [a,b] k2 pt2) X.env=pure (some [x,y]))
    (hs:swapsWithSole [.Tuple [.Name x px,.Name y py] kt pt] (.Tuple [a,b] k2 pt2) pos.line X.env=pure false):
    PS X (.Assign [.Tuple [.Name x px,.Name y py] kt pt] (.Tuple [a,b] k2 pt2) pos) (fS K (yg i j fs) [i,j]):=(CW hc hN hi hj hij hx hy ha hw hs).mono fun D σ H h=>by
  obtain⟨F,e,fl,R,hf,q⟩:=h
  unfold yg at hf
  obtain⟨⟨rs,e1⟩,h1,hf⟩:=Option.bind_eq_some_iff.mp hf
  refine⟨F,e,rs,e1,R,h1,fun F1 H1 vs X1 R1 A1=>?_⟩
  match rs,hf,A1 with
  | [.d x,.d y],hf,A1=>
    cases hf
    obtain⟨v,u,rfl,a1,a2⟩:=pT A1
    obtain⟨R2,o2⟩:=R1.setD i a1
    obtain⟨R3,o3⟩:=R2.setD j a2
    refine⟨v,u,rfl,q F1 H1 _ ⟨X1.sf,X1.dom,X1.fr,X1.lst,X1.tmp,fun a h=>X1.ow a (o2 a (o3 a h)),fun m n=>?_,X1.fd⟩ R3⟩
    rw [List.getElem?_set_ne (fun z=>n (by simp [z])),List.getElem?_set_ne (fun z=>n (by simp [z]))]
def pe:Rv→Option PyData
  | .d x=>some x
  | .l xs=>some (.list xs)
  | .s _=>none
theorem nW{r:Rv}{d:PyData}(h:pe r=some d):jX [r]=some [d]:=by
  cases r with
  | d x=>cases h;rfl
  | l xs=>cases h;rfl
  | s i=>cases h
def pW(e:En):Rv→Option (Nat × List PyData)
  | .s n=>match e[n]? with
    | some (some (.l xs))=>some (n,xs)
    | _=>none
  | _=>none
theorem vt{e:En}{r:Rv}{n:Nat}{xs:List PyData}(h:pW e r=some (n,xs)):r=.s n∧e[n]?=some (some (.l xs)):=by
  unfold pW at h
  split at h
  · split at h
    · rename_i heq
      cases h;exact⟨rfl,heq⟩
    · cases h
  · cases h
def eR(ft:FT)(f:FS):Nat→FS
  | 0,_=>none
  | n+1,e=>(ft e).bind fun p=>if p.1=true then(f p.2).bind fun fl=>match fl with
      | .nx e1=>eR ft f n e1
      | .ct e1=>eR ft f n e1
      | .bk e1=>some (.nx e1)
      | .rt r e1=>some (.rt r e1)
    else some (.nx p.2)
def eP(n:Nat)(ft:FT)(f:FS):FS:=eR ft f n
theorem ki{n:Nat}{c:Expr}{body:List Stmt}(hp:PassesOwn (model X.prog X.w) X.A X.env X.xe)(hc:PT X c (fT K ft))(hb:iM X body (fS K f W)):PS X (.While c body [] pos) (fS K (eP n ft f) W):=(qW hp hc hb).mono fun D σ H h=>by
  refine⟨fun m σ H=>∃F e fl,aY K F H σ e∧eR ft f m e=some fl∧mB K W σ F H e D fl,⟨n,h⟩,?_⟩
  rintro m σ H ⟨F,e,fl,R,hf,q⟩
  cases m with
  | zero=>cases hf
  | succ m=>
    unfold eR at hf
    obtain⟨⟨x,e1⟩,h1,hf⟩:=Option.bind_eq_some_iff.mp hf
    refine⟨F,e,x,e1,R,h1,fun F1 H1 X1 R1=>?_⟩
    have sub:∀j,j∈([]:List Nat)→j∈W:=fun j h=>by cases h
    cases x with
    | false=>
      rw [if_neg (by simp)] at hf
      cases hf
      exact wX (q F1 H1 σ X1.s R1)
    | true=>
      rw [if_pos rfl] at hf
      refine wY ?_
      obtain⟨fl1,h2,hf⟩:=Option.bind_eq_some_iff.mp hf
      have q1:mB K W σ F1 H1 e1 D fl:=q.later (W1:=[]) X1.s sub fun j h=>h
      refine⟨fun σ' H'=>∃F' e',aY K F' H' σ' e'∧eR ft f m e'=some fl∧mB K W σ' F' H' e' D fl,fun σ' H' ⟨F',e',r1,r2,r3⟩=>⟨m,Nat.lt_succ_self m,F',e',fl,r1,r2,r3⟩,F1,e1,fl1,R1,h2,?_⟩
      cases fl1 with
      | nx e2=>exact fun F2 H2 σ2 x R2=>⟨F2,e2,R2,hf,q1.later x (fun j h=>h) fun j h=>h⟩
      | ct e2=>exact fun F2 H2 σ2 x R2=>⟨F2,e2,R2,hf,q1.later x (fun j h=>h) fun j h=>h⟩
      | bk e2=>cases hf;exact fun F2 H2 σ2 x R2=>q1 F2 H2 σ2 x R2
      | rt r e2=>cases hf;exact fun F2 H2 σ2 v x R2 A=>q1 F2 H2 σ2 v x R2 A
end
end L2
namespace L2
open PySem PySem.Spec PyProof.Rows
theorem PI.mono{X:Cx}{tg iter:Expr}{t t':TI}(h:PI X tg iter t)(m:∀σ H R,t' σ H R→t σ H R):PI X tg iter t':=fun pins s σ H R I q=>h pins s σ H R I (m σ H R q)
theorem PI.or{X:Cx}{tg iter:Expr}{t t':TI}(h:PI X tg iter t)(h':PI X tg iter t'):PI X tg iter (fun σ H R=>t σ H R∨t' σ H R):=fun pins s σ H R I q=>by
  rcases q with q | q
  · exact h pins s σ H R I q
  · exact h' pins s σ H R I q
abbrev gQ:=List (Nat × List PyData)
def uF(K:PySem.W.Frag)(σ:L2.St)(F H:Hp)(own:gQ):Prop:=∀p∈own,∃l vs,σ[p.1]?=some (some (.ref l))∧H l=some (.lst vs)∧aJ K F p.2 vs
def vQ(K:PySem.W.Frag)(σ:L2.St)(J:It)(items:List PyData)(own:gQ)(F0:Hp):Prop:=∀F H,av F0 F→av F H→uF K σ F H own→
  (∀i,i < items.length→J.go i H)∧(∀i,items.length≤i→J.stop i H)∧∀i d x H',items[i]?=some d→J.yld i H x H'→∃F',av H H'∧av F F'∧av F' H'∧(∀a,F a=none→H a≠none→F' a=none)∧DA K F' d x
abbrev FI:=En→Option (List PyData × gQ × En)
def keeps(own:gQ)(e:En):Prop:=∀p∈own,e[p.1]?=some (some (.l p.2))
def fI(K:PySem.W.Frag)(f:FI):TI:=fun σ H R=>∃F e items own e',aY K F H σ e∧f e=some (items,own,e')∧∀J F' H',ej σ F H e F' H' e'→aY K F' H' σ e'→keeps own e'→vQ K σ J items own F'→R J H'
section
variable{K:PySem.W.Frag}{σ:L2.St}{H0 F H F' H':Hp}{e e':En}
theorem aY.held(R:aY K F H σ e){own:gQ}(h:keeps own e):uF K σ F H own:=fun p hp=>by
  obtain⟨l,vs,h1,h2,h3,h4⟩:=R.own p.1 p.2 (h p hp)
  exact⟨l,vs,h1,h3,h4⟩
theorem aY.step(R:aY K F H σ e)(s:av H H')(sF:av F F')(sm:av F' H')(fz:∀a,F a=none→H a≠none→F' a=none):aY K F' H' σ e∧ej σ F H e F' H' e:=by
  obtain⟨R',o'⟩:=R.keep sF sm (fun a ⟨i,h⟩=>by
    obtain⟨h1,vs,h2⟩:=R.fpAt h
    exact fz a h1 (by rw [h2];simp)) fun a o _ h=>s a o h
  exact⟨R',⟨sF,fun a h=>s.free h,fun a vs h1 h2 _=>fz a h1 (by rw [h2];simp),fun a vs h=>⟨vs,s _ _ h⟩,fun a o h _=>s a o h,fun _=>Iff.rfl,fun a h=>.inl ((o' a).mp h),fun a m h1 h2 _=>fz a h1 (by rw [h2];simp)⟩⟩
inductive yJ (K:PySem.W.Frag) (σ:L2.St) (F:Hp) (p:Addr):Bool→List PyData→gQ→Prop
  | tup {xs vs}:cW K F p vs→aJ K F xs vs→yJ K σ F p false xs []
  | lst {xs vs}:gA K F p vs→aJ K F xs vs→yJ K σ F p true xs []
  | own {i xs}:σ[i]?=some (some (.ref p))→yJ K σ F p true xs [(i,xs)]
theorem yJ.at{p:Addr}{b:Bool}{xs:List PyData}{own:gQ}{F0:Hp}(h:yJ K σ F0 p b xs own)(s0:av F0 F)(s1:av F H){own':gQ}(hh:uF K σ F H own')(hs:∀q∈own,q∈own'):∃vs,aJ K F xs vs∧(if b=true then gA K H p vs else cW K H p vs):=by
  cases h with
  | tup h1 h2=>exact⟨_,h2.mono s0,(s0.trans s1).tup h1⟩
  | lst h1 h2=>exact⟨_,h2.mono s0,(s0.trans s1).seq h1⟩
  | @own i xs h1=>
    obtain⟨l,vs,g1,g2,g3⟩:=hh (i,xs) (hs (i,xs) (by simp))
    dsimp only at g1 g3
    rw [h1] at g1;cases g1
    exact⟨vs,g3,.inl (.inl g2)⟩
def yn(e:En):Rv→Option (Bool × List PyData × gQ)
  | .d (.tuple xs)=>some (false,xs,[])
  | .d (.list xs)=>some (true,xs,[])
  | .l xs=>some (true,xs,[])
  | .s i=>match e[i]? with
    | some (some (.l xs))=>some (true,xs,[(i,xs)])
    | _=>none
  | _=>none
theorem uq{r:Rv}{v:V}{b:Bool}{xs:List PyData}{own:gQ}(R:aY K F H σ e)(A:cz K σ H0 F H e r v)(h:yn e r=some (b,xs,own)):
    ∃F' p,aY K F' H σ e∧av F F'∧(∀a,F a=none→H0 a≠none→F' a=none)∧v=.ref p∧yJ K σ F' p b xs own∧keeps own e:=by
  cases r with
  | d x=>
    cases x with
    | tuple ds=>
      cases h
      obtain⟨a,ys,e1,e2,e3⟩:=cI.mp A
      exact⟨F,a,R,av.refl _,fun _ h _=>h,e1,.tup e2 e3,fun p hp=>by cases hp⟩
    | list ds=>
      cases h
      obtain⟨a,ys,e1,e2,e3⟩:=eN.mp A
      exact⟨F,a,R,av.refl _,fun _ h _=>h,e1,.lst e2 e3,fun p hp=>by cases hp⟩
    | _=>cases h
  | l ys=>
    cases h
    obtain⟨F',R',s',d',f'⟩:=A.frozen R
    obtain⟨a,ys,e1,e2,e3⟩:=eN.mp d'
    exact⟨F',a,R',s',f',e1,.lst e2 e3,fun p hp=>by cases hp⟩
  | s i=>
    obtain⟨h1,ys,h2⟩:=A
    simp only [yn,h2] at h
    cases h
    obtain⟨l,vs,e1,e2,e3,e4⟩:=R.own i _ h2
    rw [h1] at e1;cases e1
    exact⟨F,l,R,av.refl _,fun _ h _=>h,rfl,.own h1,fun p hp=>by simp only [List.mem_singleton] at hp;subst hp;exact h2⟩
theorem uV{p:Addr}{xs:List PyData}{own:gQ}{F0:Hp}(h:yJ K σ F0 p true xs own):vQ K σ (F_ K p) xs own F0:=by
  intro F H s0 s1 hh
  obtain⟨vs,d,q⟩:=h.at s0 s1 hh fun _ h=>h
  have q:gA K H p vs:=q
  refine⟨fun i hi=>⟨vs,vs[i]'(by rw [←d.len];exact hi),q,List.getElem?_eq_getElem _⟩,fun i hi=>⟨vs,q,by rw [←d.len];exact hi⟩,fun i x v H' hx hy=>?_⟩
  obtain⟨rfl,hy⟩:=hy
  obtain⟨w,g1,g2⟩:=d.get hx
  have e:=hy vs q
  rw [g1] at e;cases e
  exact⟨F,av.refl _,av.refl _,s1,fun _ h _=>h,g2⟩
theorem wV{p:Addr}{xs:List PyData}{own:gQ}{F0:Hp}(h:yJ K σ F0 p false xs own):vQ K σ (Ga K p) xs own F0:=by
  intro F H s0 s1 hh
  obtain⟨vs,d,q⟩:=h.at s0 s1 hh fun _ h=>h
  have q:cW K H p vs:=q
  refine⟨fun i hi=>⟨vs,vs[i]'(by rw [←d.len];exact hi),q,List.getElem?_eq_getElem _⟩,fun i hi=>⟨vs,q,by rw [←d.len];exact hi⟩,fun i x v H' hx hy=>?_⟩
  obtain⟨rfl,hy⟩:=hy
  obtain⟨w,g1,g2⟩:=d.get hx
  have e:=hy vs q
  rw [g1] at e;cases e
  exact⟨F,av.refl _,av.refl _,s1,fun _ h _=>h,g2⟩
theorem xj{p:Addr}{x y:V}{a b:PyData}(s1:av F H)(hp:H p=none)(hx:DA K F a x)(hy:DA K F b y):∃F',av H (aV H p (.tup [x,y]))∧av F F'∧av F' (aV H p (.tup [x,y]))∧(∀c,F c=none→H c≠none→F' c=none)∧DA K F' (.tuple [a,b]) (.ref p):=by
  have hF:F p=none:=s1.free hp
  have sF:av F (aV F p (.tup [x,y])):=av.new hF
  refine⟨aV F p (.tup [x,y]),av.new hp,sF,fun b o q=>?_,fun c h n=>?_,cI.mpr ⟨p,_,rfl,.inl (.inl ax),.cons (DA.mono sF hx) (.one (DA.mono sF hy))⟩⟩
  · by_cases z:b=p
    · subst z;rw [ax] at q ⊢;exact q
    · rw [aB z] at q ⊢;exact s1 _ _ q
  · have z:c≠p:=fun z=>n (by rw [z];exact hp)
    rw [aB z];exact h
def iK:List PyData→List PyData→List PyData
  | x::r,y::s=>.tuple [x,y]::iK r s
  | _,_=>[]
theorem m6:∀{xs ys:List PyData} {i:Nat} {d:PyData},(iK xs ys)[i]?=some d→∃x y,xs[i]?=some x∧ys[i]?=some y∧d=.tuple [x,y]
  | [],ys,i,d,h=>by simp [iK] at h
  | x::r,[],i,d,h=>by simp [iK] at h
  | x::r,y::s,0,d,h=>by
    simp only [iK,List.getElem?_cons_zero] at h
    cases h;exact⟨x,y,rfl,rfl,rfl⟩
  | x::r,y::s,i+1,d,h=>by
    simp only [iK,List.getElem?_cons_succ] at h
    obtain⟨a,b,h1,h2,h3⟩:=m6 h
    exact⟨a,b,by simpa using h1,by simpa using h2,h3⟩
theorem zipD_len:∀(xs ys:List PyData),(iK xs ys).length=min xs.length ys.length
  | [],ys=>by simp [iK]
  | x::r,[]=>by simp [iK]
  | x::r,y::s=>by simp [iK,zipD_len r s]
theorem wW{P Q:Hp→Addr→List V→Prop}{J:It}{l1 l2:Addr}{b1 b2:Bool}{xs ys:List PyData}{own1 own2:gQ}{F0:Hp}(h1:yJ K σ F0 l1 b1 xs own1)(h2:yJ K σ F0 l2 b2 ys own2)
    (hP:∀H vs,(if b1=true then gA K H l1 vs else cW K H l1 vs)→P H l1 vs)(hQ:∀H vs,(if b2=true then gA K H l2 vs else cW K H l2 vs)→Q H l2 vs)
    (go:∀i H vs us x y,P H l1 vs→Q H l2 us→vs[i]?=some x→us[i]?=some y→J.go i H)(stop:∀i H vs us,P H l1 vs→Q H l2 us→(vs.length≤i∨us.length≤i)→J.stop i H)
    (yld:∀i H v H',J.yld i H v H'→∃p x y,v=.ref p∧H p=none∧H'=aV H p (.tup [x,y])∧∀xs ys,P H l1 xs→Q H l2 ys→xs[i]?=some x∧ys[i]?=some y):
    vQ K σ J (iK xs ys) (own1++own2) F0:=by
  intro F H s0 s1 hh
  obtain⟨vs,d1,q1⟩:=h1.at s0 s1 hh fun _ h=>List.mem_append.mpr (.inl h)
  obtain⟨us,d2,q2⟩:=h2.at s0 s1 hh fun _ h=>List.mem_append.mpr (.inr h)
  have q1:=hP H vs q1
  have q2:=hQ H us q2
  have l1':=d1.len
  have l2':=d2.len
  rw [zipD_len]
  refine⟨fun i hi=>go i H vs us (vs[i]'(by lia)) (us[i]'(by lia)) q1 q2 (List.getElem?_eq_getElem _) (List.getElem?_eq_getElem _),fun i hi=>stop i H vs us q1 q2 (by lia),fun i x v H' hx hy=>?_⟩
  obtain⟨t,a,b,rfl,ht,rfl,hy3⟩:=yld i H v H' hy
  obtain⟨x',y',hx2,hy',rfl⟩:=m6 hx
  obtain⟨w,g1,g2⟩:=d1.get hx2
  obtain⟨w',g3,g4⟩:=d2.get hy'
  obtain⟨e1,e2⟩:=hy3 vs us q1 q2
  rw [g1] at e1;cases e1
  rw [g3] at e2;cases e2
  exact xj s1 ht g2 g4
def aC(lo:Int)(n:Nat):List PyData:=(List.range n).map fun(i:Nat)=>.int (lo+(i:Int))
theorem r6{lo:Int}{n:Nat}{F0:Hp}:vQ K σ (FJ lo n) (aC lo n) [] F0:=by
  intro F H s0 s1 hh
  unfold aC
  rw [List.length_map,List.length_range]
  refine⟨fun i hi=>hi,fun i hi=>hi,fun i x v H' hx hy=>?_⟩
  obtain⟨rfl,rfl⟩:=hy
  rw [List.getElem?_map] at hx
  obtain⟨k,h1,rfl⟩:=Option.map_eq_some_iff.mp hx
  have h2:=(List.getElem?_eq_some_iff.mp h1).2
  simp at h2
  subst h2
  exact⟨F,av.refl _,av.refl _,s1,fun _ h _=>h,bY.mpr rfl⟩
end
inductive F8 (K:PySem.W.Frag) (own:gQ) (σ0:L2.St) (F1:Hp) (P:En→Prop) (G:L2.St→Hp→Hp→En→Prop) (σ:L2.St) (H:Hp):Prop
  | mk {F:Hp} {e:En} (R:aY K F H σ e) (kp:keeps own e) (hσ:∀p∈own,σ[p.1]?=σ0[p.1]?) (sF:av F1 F) (hf:P e) (q:G σ F H e):F8 K own σ0 F1 P G σ H
section
variable{X:Cx}{K:PySem.W.Frag}{tg a b:Expr}{es:List Expr}{fa:FE}{fs:FA}{pos p tp:Pos}{k0:Nat}
def fq(fa:FE):FI:=fun e=>(fa e).bind fun p=>(yn p.2 p.1).map fun s=>(s.2.1,s.2.2,p.2)
theorem du(hK:X.K=K)(h:PE X a (fE K fa)):PI X tg a (fI K (fq fa)):=((xJ (tg:=tg) hK h).or (zU (tg:=tg) hK h)).mono fun σ H R hh=>by
  obtain⟨F,e,items,own,e',R0,hf,q⟩:=hh
  unfold fq at hf
  obtain⟨⟨r,e1⟩,h1,hf⟩:=Option.bind_eq_some_iff.mp hf
  obtain⟨⟨b,xs,ow⟩,h2,hf⟩:=Option.map_eq_some_iff.mp hf
  cases hf
  cases b with
  | true=>
    refine .inl ⟨F,e,r,e1,R0,h1,fun F1 H1 v X1 R1 A1=>?_⟩
    obtain⟨F2,p,R2,s2,f2,rfl,sc,kp⟩:=uq R1 A1 h2
    obtain⟨vs,_,c⟩:=sc.at (av.refl _) R2.sm (R2.held kp) fun _ h=>h
    exact⟨p,rfl,⟨vs,c⟩,q _ F2 H1 (X1.frz s2 f2) R2 kp (uV sc)⟩
  | false=>
    refine .inr ⟨F,e,r,e1,R0,h1,fun F1 H1 v X1 R1 A1=>?_⟩
    obtain⟨F2,p,R2,s2,f2,rfl,sc,kp⟩:=uq R1 A1 h2
    obtain⟨vs,_,c⟩:=sc.at (av.refl _) R2.sm (R2.held kp) fun _ h=>h
    exact⟨p,rfl,⟨vs,c⟩,q _ F2 H1 (X1.frz s2 f2) R2 kp (wV sc)⟩
def ye(j:Int):Bool:=decide (-1000000≤j)&&decide (j≤1000000)
theorem yf{j:Int}(h:ye j=true): -1000000≤j∧j≤1000000:=by
  unfold ye at h
  rw [Bool.and_eq_true,decide_eq_true_iff,decide_eq_true_iff] at h
  exact h
def bA(fs:FA):FI:=fun e=>(fs e).bind fun p=>match p.1 with
  | [r]=>(ck r).bind fun j=>if ye j=true then some (aC 0 j.toNat,[],p.2) else none
  | _=>none
theorem bg(hg:Gl X "range")(hm:X.mg "range"=none)(ha:PA X [a] (fA K fs))(hs:starEach [a] X.env=[(false,eval a X.env)]):PI X tg (.Call (.Name "range" p) [a] [] pos) (fI K (bA fs)):=(vf hg hm ha hs).mono fun σ H R hh=>by
  obtain⟨F,e,items,own,e',R0,hf,q⟩:=hh
  unfold bA at hf
  obtain⟨⟨rs,e1⟩,h1,hf⟩:=Option.bind_eq_some_iff.mp hf
  match rs,h1,hf with
  | [r],h1,hf=>
  obtain⟨j,h2,hf⟩:=Option.bind_eq_some_iff.mp hf
  split at hf
  case isFalse=>cases hf
  case isTrue hj=>
  cases hf
  refine⟨F,e,_,e1,R0,h1,fun F1 H1 vs X1 R1 A1=>?_⟩
  obtain⟨v,rfl,A2⟩:=l_ A1
  have:=yf hj
  exact⟨j,by rw [cm A2 h2],by lia,by lia,q _ F1 H1 X1 R1 (fun _ h=>by cases h) r6⟩
open Classical in
noncomputable def ii(own:gQ)(g:FG)(f:FS):List PyData→FS
  | [],e=>some (.nx e)
  | x::r,e=>(g x e).bind fun e1=>(f e1).bind fun fl=>match fl with
    | .nx e2=>if keeps own e2 then ii own g f r e2 else none
    | .ct e2=>if keeps own e2 then ii own g f r e2 else none
    | .bk e2=>some (.nx e2)
    | .rt v e2=>some (.rt v e2)
noncomputable def cN(W:List Nat)(fi:FI)(g:FG)(f:FS):FS:=fun e=>(fi e).bind fun p=>if (p.2.1.all fun q=> !W.contains q.1)=true then ii p.2.1 g f p.1 p.2.2 else none
theorem cY{W1 W2:List Nat}{iter:Expr}{body:List Stmt}{fi:FI}{g:FG}{f:FS}(hp:PassesOwn (model X.prog X.w) X.A X.env X.xe)(hc:X.calm=true)(hi:PI X tg iter (fI K fi))(hg:PG X tg (fG K g W1))(hb:iM X body (fS K f W2))(hs:∀x,foldedSetIterable iter X.env x=pure x):
    PS X (.For tg iter body [] pos) (fS K (cN (W1++W2) fi g f) (W1++W2)):=(xP hp hc hi hg hb hs).mono fun D σ0 H0 hh=>by
  obtain⟨F0,e0,fl,R0,hf,q0⟩:=hh
  unfold cN at hf
  obtain⟨⟨items,own,e1⟩,h1,hf⟩:=Option.bind_eq_some_iff.mp hf
  dsimp only at hf
  split at hf
  case isFalse=>cases hf
  case isTrue hW=>
  have hW':∀p∈own,p.1∉W1++W2:=fun p hp=>by
    have:=List.all_eq_true.mp hW p hp
    simpa using this
  refine⟨F0,e0,items,own,e1,R0,h1,fun J F1 H1 X1 R1 kp ok=>?_⟩
  have s1:∀j,j∈W1→j∈W1++W2:=fun j h=>List.mem_append.mpr (.inl h)
  have s2:∀j,j∈W2→j∈W1++W2:=fun j h=>List.mem_append.mpr (.inr h)
  have q1:mB K (W1++W2) σ0 F1 H1 e1 D fl:=q0.later (W1:=[]) X1.s (fun j h=>by cases h) fun j h=>h
  refine⟨fun i m σ H=>m=items.length - i∧i≤items.length∧F8 K own σ0 F1 (fun e=>ii own g f (items.drop i) e=some fl) (fun σ F H e=>mB K (W1++W2) σ F H e D fl) σ H,
    ⟨items.length,by simp,Nat.zero_le _,.mk R1 kp (fun _ _=>rfl) (av.refl _) hf q1⟩,?_⟩
  rintro i m σ H ⟨rfl,hi,⟨R,kp,hσ,sF,hf,q⟩⟩
  rename_i F e
  have held:uF K σ0 F H own:=fun p hp=>by
    obtain⟨l,vs,g1,g2⟩:=R.held kp p hp
    exact⟨l,vs,by rw [←hσ p hp];exact g1,g2⟩
  obtain⟨go,stop,yld⟩:=ok F H sF R.sm held
  by_cases hlt:i < items.length
  · have hd:items.drop i=items[i]::items.drop (i+1):=List.drop_eq_getElem_cons hlt
    rw [hd] at hf
    unfold ii at hf
    obtain⟨e2,h2,hf⟩:=Option.bind_eq_some_iff.mp hf
    obtain⟨fl2,h3,hf⟩:=Option.bind_eq_some_iff.mp hf
    refine .inr ⟨go i hlt,F8 K own σ0 F1 (fun e=>ii own g f (items.drop (i+1)) e=some fl) (fun σ F H e=>mB K (W1++W2) σ F H e D fl),
      fun σ' H' r=>⟨items.length - (i+1),by lia,rfl,hlt,r⟩,fun x H' hy=>?_⟩
    obtain⟨F',sH,sF',sm',fz,hx⟩:=yld i items[i] x H' (List.getElem?_eq_getElem hlt) hy
    obtain⟨R',X'⟩:=R.step sH sF' sm' fz
    refine⟨F',e,items[i],e2,R',hx,h2,fun σ2 x2 R2=>⟨F',e2,fl2,R2,h3,?_⟩⟩
    have q2:mB K (W1++W2) σ2 F' H' e2 D fl:=(q.later (W1:=[]) (W2:=W1++W2) X'.s (fun j h=>by cases h) fun j h=>h).later x2 s1 fun j h=>h
    have w2:∀p∈own,σ2[p.1]?=σ0[p.1]?:=fun p hp=>(x2.wr p.1 fun z=>hW' p hp (s1 _ z)).trans (hσ p hp)
    cases fl2 with
    | nx e3=>
      intro F3 H3 σ3 x3 R3
      dsimp only at hf
      split at hf
      case isFalse=>cases hf
      case isTrue kp3=>
      exact .mk R3 kp3 (fun p hp=>(x3.wr p.1 fun z=>hW' p hp (s2 _ z)).trans (w2 p hp)) (sF.trans (sF'.trans x3.sf)) hf (q2.later x3 s2 fun j h=>h)
    | ct e3=>
      intro F3 H3 σ3 x3 R3
      dsimp only at hf
      split at hf
      case isFalse=>cases hf
      case isTrue kp3=>
      exact .mk R3 kp3 (fun p hp=>(x3.wr p.1 fun z=>hW' p hp (s2 _ z)).trans (w2 p hp)) (sF.trans (sF'.trans x3.sf)) hf (q2.later x3 s2 fun j h=>h)
    | bk e3=>
      cases hf
      exact fun F3 H3 σ3 x3 R3=>q2 F3 H3 σ3 (x3.mono s2) R3
    | rt r e3=>
      cases hf
      exact fun F3 H3 σ3 v x3 R3 A3=>q2 F3 H3 σ3 v (x3.mono s2) R3 A3
  · have hd:items.drop i=[]:=List.drop_eq_nil_of_le (by lia)
    rw [hd] at hf
    cases hf
    exact .inl ⟨stop i (by lia),q F H σ cF.refl R⟩
end
end L2
namespace L2
open PySem PySem.Spec PyProof.Rows
def wQ:Option (Option Sv)→Bool
  | some (some (.l _))=>true
  | _=>false
theorem tZ{s:Option (Option Sv)}:wQ s=true↔ ∃xs,s=some (some (.l xs)):=by
  unfold wQ
  split
  · simp
  · rename_i h
    constructor
    · intro z;cases z
    · rintro⟨xs,rfl⟩;exact absurd rfl (h xs)
def lw(pos:Nat→Option Nat)(ei e:En):En:=e.mapIdx fun i s=>match s with
  | some (.l xs)=>match pos i with
    | some k=>(ei[k]?).join
    | none=>some (.l xs)
  | s=>s
theorem cv{pos:Nat→Option Nat}{ei e:En}{i:Nat}:(lw pos ei e)[i]?=(e[i]?).map fun s=>match s with
  | some (.l xs)=>match pos i with
    | some k=>(ei[k]?).join
    | none=>some (.l xs)
  | s=>s:=by unfold lw;rw [List.getElem?_mapIdx]
structure p7 (σ:L2.St) (e:En) (σi:L2.St) (ei:En) (pos:Nat→Option Nat):Prop where
  a:∀(i k:Nat) (xs:List PyData),e[i]?=some (some (.l xs))→pos i=some k→σi[k]?=σ[i]?
  b:∀(k:Nat) (ys:List PyData),ei[k]?=some (some (.l ys))→∃(i:Nat) (xs:List PyData),e[i]?=some (some (.l xs))∧pos i=some k∧σi[k]?=σ[i]?
section
variable{K:PySem.W.Frag}{σ σi σi':L2.St}{F H F' H':Hp}{e ei ei':En}{pos:Nat→Option Nat}
def DL(e:En):Prop:=∀(i:Nat) (xss:List (List PyData)),e[i]?≠some (some (.n xss))
theorem p7.own(s:p7 σ e σi ei pos)(hn:DL ei){a:Addr}{H H':Hp}(h:bR σi ei H a):∃(i k:Nat) (xs:List PyData),e[i]?=some (some (.l xs))∧pos i=some k∧σ[i]?=some (some (.ref a)):=by
  obtain⟨k,⟨ys,h1,h2⟩ | ⟨xss,_,_,h1,_⟩⟩:=h
  · obtain⟨i,xs,g1,g2,g3⟩:=s.b k ys h1
    exact⟨i,k,xs,g1,g2,by rw [←g3];exact h2⟩
  · exact absurd h1 (hn k xss)
theorem mY(R:aY K F H σ e)(s:p7 σ e σi ei pos)(hnn:DL ei)(sf:av F F')(dom:∀a,H' a=none→H a=none)(fr:∀a vs,F a=none→H a=some (.lst vs)→¬bR σi ei H a→F' a=none)(lst:∀a vs,H a=some (.lst vs)→∃vs',H' a=some (.lst vs'))
    (tmp:∀a o,H a=some o→¬bR σi ei H a→H' a=some o)(fd:∀a m,F a=none→H a=some (.dK m)→¬bR σi ei H a→F' a=none)(R':aY K F' H' σi' ei')(hσ:∀(i k:Nat) (xs:List PyData),e[i]?=some (some (.l xs))→pos i=some k→σi'[k]?=σi[k]?)(hsh:∀(i k:Nat) (xs:List PyData),e[i]?=some (some (.l xs))→pos i=some k→∃ys,ei'[k]?=some (some (.l ys))):
    aY K F' H' σ (lw pos ei' e)∧ej σ F H e F' H' (lw pos ei' e)∧∀a,bR σ (lw pos ei' e) H' a→bR σ e H a:=by
  have shp:∀i:Nat,(∃xs,(lw pos ei' e)[i]?=some (some (.l xs)))↔ (∃xs,e[i]?=some (some (.l xs))):=by
    intro i
    rw [cv]
    match h:e[i]? with
    | none=>simp
    | some none=>simp
    | some (some (.d x))=>simp
    | some (some (.n x))=>simp
    | some (some (.l xs))=>
      simp only [Option.map_some]
      constructor
      · intro _;exact⟨xs,rfl⟩
      · intro _
        match hp:pos i with
        | none=>exact⟨xs,rfl⟩
        | some k=>
          obtain⟨ys,g⟩:=hsh i k xs h hp
          exact⟨ys,by show some ((ei'[k]?).join)=_;rw [g];rfl⟩
  have oth:∀(i:Nat) (s:Sv),(∀xs,s≠.l xs)→((lw pos ei' e)[i]?=some (some s)↔ e[i]?=some (some s)):=by
    intro i s hs
    constructor
    · intro h
      rw [cv] at h
      match h1:e[i]?,h with
      | some (some (.d y)),h=>exact h
      | some (some (.n y)),h=>exact h
      | some (some (.l ys)),h=>
        simp only [Option.map_some,Option.some.injEq] at h
        match hp:pos i,h with
        | none,h=>cases h;exact absurd rfl (hs _)
        | some k,h=>
          obtain⟨zs,g⟩:=hsh i k ys h1 hp
          change (ei'[k]?).join=_ at h
          rw [g] at h;cases h;exact absurd rfl (hs _)
      | some none,h=>simp at h
      | none,h=>simp at h
    · intro h
      rw [cv,h]
      cases s with
      | d y=>rfl
      | n y=>rfl
      | l y=>exact absurd rfl (hs y)
  have out:∀i a,Fp σ e H i a→(∀k xs,e[i]?=some (some (.l xs))→pos i≠some k)→¬bR σi ei H a:=by
    intro i a hi hp z
    obtain⟨j,k,ws,d1,d2,d3⟩:=s.own hnn (H':=H') z
    have:i=j:=R.fp i j a hi (.inl ⟨ws,d1,d3⟩)
    subst this
    exact hp k ws d1 d2
  have keep:∀i a o,Fp σ e H i a→(∀k xs,e[i]?=some (some (.l xs))→pos i≠some k)→H a=some o→H' a=some o:=fun i a o hi hp ha=>tmp a o ha (out i a hi hp)
  have sown:∀a,bR σi ei H a→bR σ e H a:=fun a z=>by
    obtain⟨j,k,ws,d1,d2,d3⟩:=s.own hnn (H':=H') z
    exact⟨j,.inl ⟨ws,d1,d3⟩⟩
  have fs:∀i a,Fp σ (lw pos ei' e) H' i a↔ Fp σ e H i a:=by
    intro i a
    have key:∀xss l,e[i]?=some (some (.n xss))→σ[i]?=some (some (.ref l))→H' l=H l:=fun xss l h1 h2=>by
      obtain⟨l',bs,g1,g2,g3,_⟩:=R.nst i xss h1
      rw [h2] at g1;cases g1
      rw [g3]
      exact keep i l _ (.inr ⟨xss,l,bs,h1,h2,g3,.inl rfl⟩) (fun k xs z=>by rw [h1] at z;cases z) g3
    constructor
    · rintro(⟨xs,h1,h2⟩ | ⟨xss,l,bs,h1,h2,h3,h4⟩)
      · obtain⟨ys,h⟩:=(shp i).mp ⟨xs,h1⟩
        exact .inl ⟨ys,h,h2⟩
      · have h1':=(oth i (.n xss) (fun _ z=>nomatch z)).mp h1
        exact .inr ⟨xss,l,bs,h1',h2,by rw [←key xss l h1' h2];exact h3,h4⟩
    · rintro(⟨xs,h1,h2⟩ | ⟨xss,l,bs,h1,h2,h3,h4⟩)
      · obtain⟨ys,h⟩:=(shp i).mpr ⟨xs,h1⟩
        exact .inl ⟨ys,h,h2⟩
      · exact .inr ⟨xss,l,bs,(oth i (.n xss) (fun _ z=>nomatch z)).mpr h1,h2,by rw [key xss l h1 h2];exact h3,h4⟩
  refine⟨⟨R'.sm,?_,fun i x h=>?_,fun i xs h=>?_,fun i xss h=>?_,fun i j a h1 h2=>R.fp i j a ((fs i a).mp h1) ((fs j a).mp h2)⟩,⟨sf,dom,fun a vs h1 h2 n=>fr a vs h1 h2 fun z=>n (sown a z),lst,fun a o h n=>tmp a o h fun z=>n (sown a z),shp,fun a ⟨i,h⟩=>.inl ⟨i,(fs i a).mp h⟩,fun a m h1 h2 n=>fd a m h1 h2 fun z=>n (sown a z)⟩,fun a ⟨i,h⟩=>⟨i,(fs i a).mp h⟩⟩
  · unfold lw;rw [List.length_mapIdx];exact R.len
  · obtain⟨v,g1,g2⟩:=R.dat i x ((oth i (.d x) (fun _ z=>nomatch z)).mp h)
    exact⟨v,g1,DA.mono sf g2⟩
  · obtain⟨ys,h1⟩:=(shp i).mp ⟨xs,h⟩
    obtain⟨l,vs,g1,g2,g3,g4⟩:=R.own i ys h1
    rw [cv,h1] at h
    simp only [Option.map_some,Option.some.injEq] at h
    match hp:pos i,h with
    | none,h=>
      cases h
      have np:∀k xs,e[i]?=some (some (Sv.l xs))→pos i≠some k:=fun k xs _ z=>by rw [hp] at z;cases z
      have fi:Fp σ e H i l:=.inl ⟨_,h1,g1⟩
      exact⟨l,vs,g1,fr l vs g2 g3 (out i l fi np),keep i l _ fi np g3,g4.mono sf⟩
    | some k,h=>
      obtain⟨zs,c1⟩:=hsh i k ys h1 hp
      change (ei'[k]?).join=_ at h
      rw [c1] at h;cases h
      obtain⟨l',vs',d1,d2,d3,d4⟩:=R'.own k _ c1
      rw [hσ i k ys h1 hp,s.a i k ys h1 hp] at d1
      exact⟨l',vs',d1,d2,d3,d4⟩
  · have h1:=(oth i (.n xss) (fun _ z=>nomatch z)).mp h
    obtain⟨l,bs,g1,g2,g3,g4,g5,g6,g7⟩:=R.nst i xss h1
    have np:∀k xs,e[i]?=some (some (Sv.l xs))→pos i≠some k:=fun k xs z=>by rw [h1] at z;cases z
    have fi:Fp σ e H i l:=.inr ⟨xss,l,bs,h1,g1,g3,.inl rfl⟩
    refine⟨l,bs,g1,fr l _ g2 g3 (out i l fi np),keep i l _ fi np g3,g4,g5,g6,fun k b ys q1 q2=>?_⟩
    obtain⟨c1,us,c2,c3⟩:=g7 k b ys q1 q2
    have fb:Fp σ e H i b:=.inr ⟨xss,l,bs,h1,g1,g3,.inr (List.mem_of_getElem? q1)⟩
    exact⟨fr b _ c1 c2 (out i b fb np),us,keep i b _ fb np c2,c3.mono sf⟩
end
def dG(e:En):List Rv→Option (List Sv)
  | []=>some []
  | .d x::r=>(dG e r).map (.d x::·)
  | .l xs::r=>(dG e r).map (.d (.list xs)::·)
  | .s i::r=>match e[i]? with
    | some (some (.l xs))=>(dG e r).map (.l xs::·)
    | _=>none
def aO:List Rv→List Nat
  | []=>[]
  | .s i::r=>i::aO r
  | .d _::r=>aO r
  | .l _::r=>aO r
def jG(rs:List Rv)(i:Nat):Option Nat:=rs.findIdx? fun r=>match r with
  | .s j=>j==i
  | _=>false
def noS:Rv→Prop
  | .s _=>False
  | _=>True
abbrev FM:=List Sv→Option (Rv × List Sv)
def cy(K:PySem.W.Frag)(n:Nat)(m:FM):Sp:=fun vs H Q _=>vs.length=n∧∃F as r as',aY K F H (vs.map some) (as.map some)∧DL (as.map some)∧m as=some (r,as')∧noS r∧
  ∀F' H' v,ej (vs.map some) F H (as.map some) F' H' (as'.map some)→aY K F' H' (vs.map some) (as'.map some)→cz K (vs.map some) H F' H' (as'.map some) r v→Q v H'
def bC:List Rv→List Sv→Bool
  | [],[]=>true
  | .s _::r,.l _::s=>bC r s
  | .d _::r,_::s=>bC r s
  | .l _::r,_::s=>bC r s
  | _,_=>false
def Cp:Rv→Bool
  | .s _=>false
  | _=>true
def gD:List Rv→List Sv→En→En
  | .s i::r,.l ys::s,e=>gD r s (e.set i (some (.l ys)))
  | .d _::r,_::s,e=>gD r s e
  | .l _::r,_::s,e=>gD r s e
  | _,_,e=>e
def cP(n:Nat)(m:FM)(fs:FA):FE:=fun e=>(fs e).bind fun p=>(dG p.2 p.1).bind fun as=>(m as).bind fun z=>if p.1.length=n∧(aO p.1).Nodup∧bC p.1 z.2=true∧Cp z.1=true then some (z.1,gD p.1 z.2 p.2) else none
theorem iw:∀{rs:List Rv} {as:List Sv},bC rs as=true→∀(k i:Nat),rs[k]?=some (.s i)→∃ys,as[k]?=some (.l ys)
  | [],[],_,k,i,h=>by simp at h
  | .s j::r,.l ys::s,h,k,i,hk=>by
    cases k with
    | zero=>exact⟨ys,rfl⟩
    | succ k=>simpa using iw (rs:=r) (as:=s) (by simpa [bC] using h) k i (by simpa using hk)
  | .d x::r,y::s,h,k,i,hk=>by
    cases k with
    | zero=>simp at hk
    | succ k=>simpa using iw (rs:=r) (as:=s) (by simpa [bC] using h) k i (by simpa using hk)
  | .l x::r,y::s,h,k,i,hk=>by
    cases k with
    | zero=>simp at hk
    | succ k=>simpa using iw (rs:=r) (as:=s) (by simpa [bC] using h) k i (by simpa using hk)
  | .s _::_,.d _::_,h,_,_,_=>by simp [bC] at h
  | .s _::_,[],h,_,_,_=>by simp [bC] at h
  | .d _::_,[],h,_,_,_=>by simp [bC] at h
  | .l _::_,[],h,_,_,_=>by simp [bC] at h
theorem lg{r0:Rv}{rs:List Rv}{i:Nat}:jG (r0::rs) i=if (match r0 with | .s j=>j==i | _=>false)=true then some 0 else(jG rs i).map (· +1):=by
  unfold jG;rw [List.findIdx?_cons]
theorem lh{rs:List Rv}{i k:Nat}(h:jG rs i=some k):rs[k]?=some (.s i):=by
  unfold jG at h
  rw [List.findIdx?_eq_some_iff_getElem] at h
  obtain⟨hk,h1,_⟩:=h
  rw [List.getElem?_eq_getElem hk]
  split at h1
  · rename_i heq
    rw [heq]
    have:=eq_of_beq h1
    rw [this]
  · cases h1
theorem fF:∀{rs:List Rv} {i:Nat},i∈aO rs↔ Rv.s i∈rs
  | [],i=>by simp [aO]
  | .s j::r,i=>by simp [aO,fF (rs:=r)]
  | .d x::r,i=>by simp [aO,fF (rs:=r)]
  | .l x::r,i=>by simp [aO,fF (rs:=r)]
theorem gn:∀{rs:List Rv} {i k j:Nat},(aO rs).Nodup→rs[k]?=some (.s i)→rs[j]?=some (.s i)→k=j
  | [],i,k,j,_,h,_=>by simp at h
  | .s m::r,i,k,j,hn,h1,h2=>by
    simp only [aO,List.nodup_cons] at hn
    cases k with
    | zero=>
      simp at h1;subst h1
      cases j with
      | zero=>rfl
      | succ j=>exact absurd (fF.mpr (List.mem_of_getElem? (by simpa using h2))) hn.1
    | succ k=>
      cases j with
      | zero=>
        simp at h2;subst h2
        exact absurd (fF.mpr (List.mem_of_getElem? (by simpa using h1))) hn.1
      | succ j=>
        have:=gn (rs:=r) (i:=i) (k:=k) (j:=j) hn.2 (by simpa using h1) (by simpa using h2)
        lia
  | .d x::r,i,k,j,hn,h1,h2=>by
    cases k with
    | zero=>simp at h1
    | succ k=>
      cases j with
      | zero=>simp at h2
      | succ j=>
        have:=gn (rs:=r) (i:=i) (k:=k) (j:=j) (by simpa [aO] using hn) (by simpa using h1) (by simpa using h2)
        lia
  | .l x::r,i,k,j,hn,h1,h2=>by
    cases k with
    | zero=>simp at h1
    | succ k=>
      cases j with
      | zero=>simp at h2
      | succ j=>
        have:=gn (rs:=r) (i:=i) (k:=k) (j:=j) (by simpa [aO] using hn) (by simpa using h1) (by simpa using h2)
        lia
theorem xN{rs:List Rv}{i:Nat}(h:i∉aO rs):jG rs i=none:=by
  unfold jG
  rw [List.findIdx?_eq_none_iff]
  intro r hr
  cases r with
  | d x=>rfl
  | l x=>rfl
  | s j=>
    have:j≠i:=fun z=>h (by rw [←z];exact fF.mpr hr)
    simpa using this
theorem l7:∀{rs:List Rv} {as:List Sv} {e:En},(aO rs).Nodup→bC rs as=true→(∀j∈aO rs,∃xs,e[j]?=some (some (.l xs)))→gD rs as e=lw (jG rs) (as.map some) e
  | [],[],e,_,_,_=>by
    refine List.ext_getElem? fun i=>?_
    rw [cv]
    have:jG [] i=none:=rfl
    rw [this]
    simp only [gD]
    match e[i]? with
    | none=>rfl
    | some none=>rfl
    | some (some (.d x))=>rfl
    | some (some (.l x))=>rfl
    | some (some (.n x))=>rfl
  | .d x::r,y::s,e,hn,hl,hs=>by
    rw [show gD (.d x::r) (y::s) e=gD r s e from rfl,l7 (by simpa [aO] using hn) (by simpa [bC] using hl) (fun j hj=>hs j (by simpa [aO] using hj))]
    refine List.ext_getElem? fun i=>?_
    rw [cv,cv,lg]
    cases jG r i<;>simp
  | .l x::r,y::s,e,hn,hl,hs=>by
    rw [show gD (.l x::r) (y::s) e=gD r s e from rfl,l7 (by simpa [aO] using hn) (by simpa [bC] using hl) (fun j hj=>hs j (by simpa [aO] using hj))]
    refine List.ext_getElem? fun i=>?_
    rw [cv,cv,lg]
    cases jG r i<;>simp
  | .s k::r,.l ys::s,e,hn,hl,hs=>by
    simp only [aO,List.nodup_cons] at hn
    obtain⟨xs,hk⟩:=hs k (by simp [aO])
    have hlt:k < e.length:=(List.getElem?_eq_some_iff.mp hk).1
    rw [show gD (.s k::r) (.l ys::s) e=gD r s (e.set k (some (.l ys))) from rfl,l7 hn.2 (by simpa [bC] using hl) (fun j hj=>by
      have z:k≠j:=fun z=>hn.1 (by rw [z];exact hj)
      rw [List.getElem?_set_ne z]
      exact hs j (by simp [aO,hj]))]
    refine List.ext_getElem? fun i=>?_
    rw [cv,cv,lg]
    by_cases z:k=i
    · subst z
      rw [List.getElem?_set_self hlt,hk,xN hn.1]
      simp
    · rw [List.getElem?_set_ne z]
      have:((match (Rv.s k) with | .s j=>j==i | _=>false)=true)=False:=by simp [z]
      simp only [this,if_false]
      cases jG r i<;>simp
  | .s _::_,.d _::_,_,_,h,_=>by simp [bC] at h
  | .s _::_,.n _::_,_,_,h,_=>by simp [bC] at h
  | .s _::_,[],_,_,h,_=>by simp [bC] at h
  | .d _::_,[],_,_,h,_=>by simp [bC] at h
  | .l _::_,[],_,_,h,_=>by simp [bC] at h
  | [],_::_,_,_,h,_=>by simp [bC] at h
theorem eW{e:En}:∀{rs:List Rv} {as:List Sv},dG e rs=some as→∀j∈aO rs,∃xs,e[j]?=some (some (.l xs))
  | [],_,_,j,h=>by simp [aO] at h
  | .d x::rs,as,q,j,h=>by
    obtain⟨as',q1,rfl⟩:=Option.map_eq_some_iff.mp q
    exact eW q1 j (by simpa [aO] using h)
  | .l x::rs,as,q,j,h=>by
    obtain⟨as',q1,rfl⟩:=Option.map_eq_some_iff.mp q
    exact eW q1 j (by simpa [aO] using h)
  | .s k::rs,as,q,j,h=>by
    unfold dG at q
    match he:e[k]?,q with
    | some (some (.l xs)),q=>
      obtain⟨as',q1,rfl⟩:=Option.map_eq_some_iff.mp q
      simp only [aO,List.mem_cons] at h
      rcases h with rfl | h
      · exact⟨xs,he⟩
      · exact eW q1 j h
theorem jN{e:En}:∀{rs:List Rv} {as:List Sv} {k i:Nat},dG e rs=some as→rs[k]?=some (.s i)→∃xs,as[k]?=some (.l xs)
  | [],_,k,i,_,h=>by simp at h
  | .d x::rs,as,k,i,q,h=>by
    obtain⟨as',q1,rfl⟩:=Option.map_eq_some_iff.mp q
    cases k with
    | zero=>simp at h
    | succ k=>simpa using jN (k:=k) (i:=i) q1 (by simpa using h)
  | .l x::rs,as,k,i,q,h=>by
    obtain⟨as',q1,rfl⟩:=Option.map_eq_some_iff.mp q
    cases k with
    | zero=>simp at h
    | succ k=>simpa using jN (k:=k) (i:=i) q1 (by simpa using h)
  | .s j::rs,as,k,i,q,h=>by
    unfold dG at q
    match he:e[j]?,q with
    | some (some (.l xs)),q=>
      obtain⟨as',q1,rfl⟩:=Option.map_eq_some_iff.mp q
      cases k with
      | zero=>exact⟨xs,rfl⟩
      | succ k=>simpa using jN (k:=k) (i:=i) q1 (by simpa using h)
section
variable{X:Cx}{K:PySem.W.Frag}{σ:L2.St}{H0 H:Hp}{e:En}
theorem l0:∀{rs:List Rv} {vs:List V} {as:List Sv} {F:Hp},aY K F H σ e→dD K σ H0 F H e rs vs→dG e rs=some as→
    ∃F',aY K F' H σ e∧av F F'∧(∀a,F a=none→H0 a≠none→F' a=none)∧vs.length=as.length∧rs.length=as.length∧
      (∀(k:Nat) (x:PyData),as[k]?=some (.d x)→∃v,vs[k]?=some v∧DA K F' x v)∧∀(k:Nat) (xs:List PyData),as[k]?=some (.l xs)→∃i,rs[k]?=some (.s i)∧e[i]?=some (some (.l xs))∧∃v,vs[k]?=some v∧σ[i]?=some (some v)
  | [],vs,as,F,R,h,q=>by
    cases q
    have h':vs=[]:=h
    subst h'
    exact⟨F,R,av.refl _,fun _ h _=>h,rfl,rfl,fun k x h=>by simp at h,fun k x h=>by simp at h⟩
  | .d x::rs,_,as,F,R,h,q=>by
    obtain⟨v,ws,rfl,h1,h2⟩:=h
    obtain⟨as',q1,rfl⟩:=Option.map_eq_some_iff.mp q
    obtain⟨F',R',s',f',l1,l2,d',o'⟩:=l0 R h2 q1
    refine⟨F',R',s',f',by simp [l1],by simp [l2],fun k y hk=>?_,fun k ys hk=>?_⟩
    · cases k with
      | zero=>simp at hk;subst hk;exact⟨v,rfl,DA.mono s' h1⟩
      | succ k=>simpa using d' k y (by simpa using hk)
    · cases k with
      | zero=>simp at hk
      | succ k=>simpa using o' k ys (by simpa using hk)
  | .l xs::rs,_,as,F,R,h,q=>by
    obtain⟨v,ws,rfl,h1,h2⟩:=h
    obtain⟨as',q1,rfl⟩:=Option.map_eq_some_iff.mp q
    obtain⟨F',R',s',f',l1,l2,d',o'⟩:=l0 R h2 q1
    have key:∃F2,aY K F2 H σ e∧av F' F2∧(∀a,F' a=none→H0 a≠none→F2 a=none)∧DA K F2 (.list xs) v:=by
      obtain⟨l,us,rfl,g1,g2,g3,g4,g5⟩:=h1
      cases hl:F' l with
      | none=>
        have h1':cz K σ H0 F' H e (.l xs) (.ref l):=⟨l,us,rfl,g1,hl,g3,aJ.mono s' g4,g5⟩
        obtain⟨F2,R2,s2,d2,f2⟩:=h1'.frozen R'
        exact⟨F2,R2,s2,f2,d2⟩
      | some o=>
        have:=R'.sm _ _ hl
        rw [g3] at this;cases this
        exact⟨F',R',av.refl _,fun _ h _=>h,eN.mpr ⟨l,us,rfl,.inl (.inl hl),aJ.mono s' g4⟩⟩
    obtain⟨F2,R2,s2,f2,d2⟩:=key
    refine⟨F2,R2,s'.trans s2,fun a ha hn=>f2 a (f' a ha hn) hn,by simp [l1],by simp [l2],fun k y hk=>?_,fun k ys hk=>?_⟩
    · cases k with
      | zero=>simp at hk;subst hk;exact⟨v,rfl,d2⟩
      | succ k=>
        obtain⟨u,c1,c2⟩:=d' k y (by simpa using hk)
        exact⟨u,by simpa using c1,DA.mono s2 c2⟩
    · cases k with
      | zero=>simp at hk
      | succ k=>simpa using o' k ys (by simpa using hk)
  | .s i::rs,_,as,F,R,h,q=>by
    obtain⟨v,ws,rfl,h1,h2⟩:=h
    unfold dG at q
    match he:e[i]?,q with
    | some (some (.l xs)),q=>
      obtain⟨as',q1,rfl⟩:=Option.map_eq_some_iff.mp q
      obtain⟨F',R',s',f',l1,l2,d',o'⟩:=l0 R h2 q1
      refine⟨F',R',s',f',by simp [l1],by simp [l2],fun k y hk=>?_,fun k ys hk=>?_⟩
      · cases k with
        | zero=>simp at hk
        | succ k=>simpa using d' k y (by simpa using hk)
      · cases k with
        | zero=>simp at hk;subst hk;exact⟨i,rfl,he,v,rfl,h1.1⟩
        | succ k=>simpa using o' k ys (by simpa using hk)
theorem fm{α:Type}{l:List α}{k:Nat}{x:α}:(l.map some)[k]?=some (some x)↔ l[k]?=some x:=by
  rw [List.getElem?_map]
  cases l[k]?<;>simp
theorem cz.noS{σ':L2.St}{e':En}{F H:Hp}{r:Rv}{v:V}(h:cz K σ' H0 F H e' r v)(n:L2.noS r)(ho:∀a,bR σ e H a→H0 a≠none):cz K σ H0 F H e r v:=by
  cases r with
  | d x=>exact h
  | l xs=>
    obtain⟨l,vs,e1,h1,h2,h3,h4,_⟩:=h
    exact⟨l,vs,e1,h1,h2,h3,h4,fun z=>ho l z h1⟩
  | s i=>exact absurd n (by simp [L2.noS])
theorem ia:∀{rs:List Rv} {as:List Sv},dG e rs=some as→DL (as.map some)
  | [],_,q=>by cases q;intro i xss h;simp at h
  | .d x::rs,as,q=>by
    obtain⟨as',q1,rfl⟩:=Option.map_eq_some_iff.mp q
    have ih:=ia q1
    intro i xss h
    cases i with
    | zero=>simp at h
    | succ i=>exact ih i xss (by simpa using h)
  | .l x::rs,as,q=>by
    obtain⟨as',q1,rfl⟩:=Option.map_eq_some_iff.mp q
    have ih:=ia q1
    intro i xss h
    cases i with
    | zero=>simp at h
    | succ i=>exact ih i xss (by simpa using h)
  | .s j::rs,as,q=>by
    unfold dG at q
    match he:e[j]?,q with
    | some (some (.l xs)),q=>
      obtain⟨as',q1,rfl⟩:=Option.map_eq_some_iff.mp q
      have ih:=ia q1
      intro i xss h
      cases i with
      | zero=>simp at h
      | succ i=>exact ih i xss (by simpa using h)
theorem Dw{n:Nat}{m:FM}{fs:FA}{Q:VK}{E:XK}(h:fE K (cP n m fs) σ H Q):yo (cy K n m) [] E (fA K fs) σ H Q:=by
  obtain⟨F,e,z,e',R,hf,q⟩:=h
  unfold cP at hf
  obtain⟨⟨rs,e1⟩,h1,hf⟩:=Option.bind_eq_some_iff.mp hf
  obtain⟨as,h2,hf⟩:=Option.bind_eq_some_iff.mp hf
  obtain⟨⟨r,as'⟩,h3,hf⟩:=Option.bind_eq_some_iff.mp hf
  split at hf
  case isFalse=>cases hf
  case isTrue hc=>
  obtain⟨c1,c2,c3,c4⟩:=hc
  cases hf
  refine⟨F,e,rs,e1,R,h1,fun F1 H1 vs X1 R1 A1=>?_⟩
  obtain⟨F2,R2,s2,f2,l1,l2,d2,o2⟩:=l0 R1 A1 h2
  have X2:=X1.frz s2 f2
  rw [List.append_nil]
  have hn:L2.noS r:=by
    cases r with
    | d x=>trivial
    | l x=>trivial
    | s i=>cases c4
  have nN:=ia h2
  have RA:aY K F2 H1 (vs.map some) (as.map some):=by
    refine⟨R2.sm,by simp [l1],fun k x hk=>?_,fun k xs hk=>?_,fun k xss hk=>absurd hk (nN k xss),fun k j l f1 f2=>?_⟩
    · obtain⟨v,g1,g2⟩:=d2 k x (fm.mp hk)
      exact⟨v,fm.mpr g1,g2⟩
    · obtain⟨i,g1,g2,v,g3,g4⟩:=o2 k xs (fm.mp hk)
      obtain⟨l,us,k1,k2,k3,k4⟩:=R2.own i xs g2
      rw [g4] at k1;cases k1
      exact⟨l,us,fm.mpr g3,k2,k3,k4⟩
    · obtain⟨xs,g1,g3⟩:=f1.resolve_right fun⟨xss,_,_,z,_⟩=>nN k xss z
      obtain⟨ys,g2,g4⟩:=f2.resolve_right fun⟨xss,_,_,z,_⟩=>nN j xss z
      obtain⟨i1,a1,a2,v1,a3,a4⟩:=o2 k xs (fm.mp g1)
      obtain⟨i2,b1,b2,v2,b3,b4⟩:=o2 j ys (fm.mp g2)
      have e1:=fm.mp g3
      have e2:=fm.mp g4
      rw [a3] at e1;cases e1
      rw [b3] at e2;cases e2
      have:i1=i2:=R2.inj i1 i2 xs ys l a2 b2 a4 b4
      subst this
      exact gn c2 a1 b1
  have sub:p7 σ e1 (vs.map some) (as.map some) (jG rs):=by
    refine⟨fun i k xs g1 g2=>?_,fun k ys g1=>?_⟩
    · have g3:=lh g2
      obtain⟨zs,hs⟩:=jN h2 g3
      obtain⟨i',a1,a2,v,a3,a4⟩:=o2 k zs hs
      rw [g3] at a1;cases a1
      rw [fm.mpr a3,a4]
    · obtain⟨i,a1,a2,v,a3,a4⟩:=o2 k ys (fm.mp g1)
      refine⟨i,ys,a2,?_,by rw [fm.mpr a3,a4]⟩
      cases hp:jG rs i with
      | none=>
        unfold jG at hp
        rw [List.findIdx?_eq_none_iff] at hp
        have:=hp _ (List.mem_of_getElem? a1)
        simp at this
      | some j=>rw [gn c2 (lh hp) a1]
  refine⟨by rw [l1,←l2];exact c1,F2,as,r,as',RA,nN,h3,hn,fun F' H' v X3 R3 A3=>?_⟩
  obtain⟨R4,X4,o4⟩:=mY R2 sub nN X3.sf X3.dom X3.fr X3.lst X3.tmp X3.fd R3 (fun _ _ _ _ _=>rfl) fun i k xs g1 g2=>by
    obtain⟨ys,g3⟩:=iw c3 k i (lh g2)
    exact⟨ys,fm.mpr g3⟩
  have hb:=l7 (e:=e1) c2 c3 (eW h2)
  rw [←hb] at R4 X4 o4
  exact q F' H' v (X2.trans X4) R4 ((A3.noS hn fun a z=>R2.ownH a (o4 a z)).weak X2.dom)
theorem aS{x:Str}{st:Stmt}{f:Addr}{fd:FuncData}{ps:List Str}{k n:Nat}{m:FM}{a:Expr}{es:List Expr}{fs:FA}{p pos:Pos}(h:bx X.K X.mg x st f fd ps)(G:aL X.prog X.w X.K X.mg X.base cf k f fd ps (cy K n m))(hr:cX k X.A)(ha:PA X (a::es) (fA K fs))
    (hg:Gl X x)(hdb:(x==("__debug__":Str))=false)(he:starEach (a::es) X.env=(false,eval a X.env)::starEach es X.env)(hpl:(backTo pos (starEach es X.env)).any (·.1)=false):
    PE X (.Call (.Name x p) (a::es) [] pos) (fE K (cP n m fs)):=(GA h G hr ha hg hdb he hpl).mono fun _ _ _ h=>Dw h
def vF:List Sv→En→Option (List Sv)
  | [],_=>some []
  | .d x::r,e=>(vF r e.tail).map (.d x::·)
  | .l _::r,e=>match e.head? with
    | some (some (.l ys))=>(vF r e.tail).map (.l ys::·)
    | _=>none
  | .n _::_,_=>none
def y8(n:Nat)(e:En):Rv→Option Rv
  | .s i=>if n≤i then match e[i]? with
      | some (some (.l xs))=>some (.l xs)
      | _=>none
    else none
  | r=>some r
def qJ(W:List Nat)(as:List Sv):Bool:=W.all fun j=>match as[j]? with
  | some (.l _)=>false
  | _=>true
def js(n k:Nat)(W:List Nat)(f:FS):FM:=fun as=>if as.length=n∧qJ W as=true then(f (as.map some++List.replicate k none)).bind fun fl=>match fl with
    | .rt r e=>(y8 n e r).bind fun r'=>(vF as e).map fun as'=>(r',as')
    | .nx e=>(vF as e).map fun as'=>(.d .none,as')
    | _=>none
  else none
theorem mf:∀{as as':List Sv} {e:En},vF as e=some as'→as'.length=as.length∧(∀(j:Nat) (x:PyData),as'[j]?=some (.d x)↔ as[j]?=some (.d x))∧(∀(j:Nat) (ys:List PyData),as'[j]?=some (.l ys)→(∃xs,as[j]?=some (.l xs))∧e[j]?=some (some (.l ys)))∧∀(j:Nat) (xs:List PyData),as[j]?=some (.l xs)→∃ys,as'[j]?=some (.l ys)
  | [],_,e,h=>by cases h;simp
  | .d x::r,_,e,h=>by
    obtain⟨s,h1,rfl⟩:=Option.map_eq_some_iff.mp h
    obtain⟨g1,g2,g3,g4⟩:=mf h1
    refine⟨by simp [g1],fun j y=>?_,fun j ys hj=>?_,fun j xs hj=>?_⟩
    · cases j with
      | zero=>simp
      | succ j=>simpa using g2 j y
    · cases j with
      | zero=>simp at hj
      | succ j=>
        obtain⟨c1,c2⟩:=g3 j ys (by simpa using hj)
        refine⟨by simpa using c1,?_⟩
        rw [List.getElem?_tail] at c2
        exact c2
    · cases j with
      | zero=>simp at hj
      | succ j=>simpa using g4 j xs (by simpa using hj)
  | .l xs::r,_,e,h=>by
    unfold vF at h
    match he:e.head?,h with
    | some (some (.l ys)),h=>
      obtain⟨s,h1,rfl⟩:=Option.map_eq_some_iff.mp h
      obtain⟨g1,g2,g3,g4⟩:=mf h1
      refine⟨by simp [g1],fun j y=>?_,fun j zs hj=>?_,fun j zs hj=>?_⟩
      · cases j with
        | zero=>simp
        | succ j=>simpa using g2 j y
      · cases j with
        | zero=>
          simp at hj;subst hj
          exact⟨⟨xs,rfl⟩,by rw [List.head?_eq_getElem?] at he;exact he⟩
        | succ j=>
          obtain⟨c1,c2⟩:=g3 j zs (by simpa using hj)
          refine⟨by simpa using c1,?_⟩
          rw [List.getElem?_tail] at c2
          exact c2
      · cases j with
        | zero=>exact⟨ys,rfl⟩
        | succ j=>simpa using g4 j zs (by simpa using hj)
  | .n x::r,_,e,h=>by simp [vF] at h
end
end L2
namespace L2
open PySem PySem.Spec PyProof.Rows
theorem et{α:Type}{l:List (Option α)}{k i:Nat}{x:α}(h:(l++List.replicate k none)[i]?=some (some x)):l[i]?=some (some x):=by
  rw [List.getElem?_append] at h
  split at h
  · exact h
  · rw [List.getElem?_replicate] at h
    split at h<;>simp at h
theorem eJ{α:Type}{l:List (Option α)}{k i:Nat}{x:α}(h:l[i]?=some (some x)):(l++List.replicate k none)[i]?=some (some x):=by
  have hi:i < l.length:=(List.getElem?_eq_some_iff.mp h).1
  rw [List.getElem?_append_left hi];exact h
section
variable{K:PySem.W.Frag}{F H:Hp}{σ:L2.St}{e:En}{k:Nat}
theorem ph{i:Nat}{a:Addr}:Fp (σ++List.replicate k none) (e++List.replicate k none) H i a↔ Fp σ e H i a:=by
  constructor
  · rintro(⟨xs,h1,h2⟩ | ⟨xss,l,bs,h1,h2,h3⟩)
    · exact .inl ⟨xs,et h1,et h2⟩
    · exact .inr ⟨xss,l,bs,et h1,et h2,h3⟩
  · rintro(⟨xs,h1,h2⟩ | ⟨xss,l,bs,h1,h2,h3⟩)
    · exact .inl ⟨xs,eJ h1,eJ h2⟩
    · exact .inr ⟨xss,l,bs,eJ h1,eJ h2,h3⟩
theorem l9{a:Addr}:bR (σ++List.replicate k none) (e++List.replicate k none) H a↔ bR σ e H a:=⟨fun⟨i,h⟩=>⟨i,ph.mp h⟩,fun⟨i,h⟩=>⟨i,ph.mpr h⟩⟩
theorem aY.pad(R:aY K F H σ e):aY K F H (σ++List.replicate k none) (e++List.replicate k none):=by
  refine⟨R.sm,by simp [R.len],fun i x h=>?_,fun i xs h=>?_,fun i xss h=>?_,fun i j a h1 h2=>R.fp i j a (ph.mp h1) (ph.mp h2)⟩
  · obtain⟨v,g1,g2⟩:=R.dat i x (et h)
    exact⟨v,eJ g1,g2⟩
  · obtain⟨l,vs,g1,g2⟩:=R.own i xs (et h)
    exact⟨l,vs,eJ g1,g2⟩
  · obtain⟨l,bs,g1,g2⟩:=R.nst i xss (et h)
    exact⟨l,bs,eJ g1,g2⟩
end
theorem p6:∀{as as':List Sv} {e:En},vF as e=some as'→DL (as'.map some)
  | [],_,e,h=>by cases h;intro i xss z;simp at z
  | .d x::r,_,e,h=>by
    obtain⟨s,h1,rfl⟩:=Option.map_eq_some_iff.mp h
    have ih:=p6 h1
    intro i xss z
    cases i with
    | zero=>simp at z
    | succ i=>exact ih i xss (by simpa using z)
  | .l xs::r,_,e,h=>by
    unfold vF at h
    match he:e.head?,h with
    | some (some (.l ys)),h=>
      obtain⟨s,h1,rfl⟩:=Option.map_eq_some_iff.mp h
      have ih:=p6 h1
      intro i xss z
      cases i with
      | zero=>simp at z
      | succ i=>exact ih i xss (by simpa using z)
  | .n x::r,_,e,h=>by simp [vF] at h
theorem qL{W:List Nat}{as:List Sv}(h:qJ W as=true){j:Nat}{xs:List PyData}(hj:as[j]?=some (.l xs)):j∉W:=fun z=>by
  unfold qJ at h
  have:=List.all_eq_true.mp h j z
  rw [hj] at this
  cases this
section
variable{P:Program}{w:World}{K:PySem.W.Frag}{mg:Str→Option Value}{base:Heap}
theorem bx.fn{x:Str}{st:Stmt}{f:Addr}{fd:FuncData}{N ps:List Str}{k n k0:Nat}{W:List Nat}{fb:FS}(h:bx K mg x st f fd ps)(S:aF N ps (aj st))(hn:ps.length=n)(hN:N.length=n+k0)
    (hb:∀(cdv:Value) (A:Around) (outer:List Env) (s:Shared) (H:Hp) (E:XK),cX k (A.deeper (envOfC x (aj st) s.heap.objs.size f cdv))→iM (rV cf P w K mg base N x (aj st) f cdv A outer s H E).nox (cS st) (fS K fb W)):
    aL P w K mg base cf (k+1) f fd ps (cy K n (js n k0 W fb)):=by
  refine h.F.ok S (fun vs H Q E q=>?_) fun cdv A outer s H vs Q E hr hsp=>⟨_,hb cdv A outer s H E hr,?_⟩
  · rw [hn];exact q.1
  · obtain⟨hl,F,as,r,as',R,nN,hm,nr,q⟩:=hsp
    unfold js at hm
    split at hm
    case isFalse=>cases hm
    case isTrue hc=>
    obtain⟨la,nl⟩:=hc
    obtain⟨fl,h1,hm⟩:=Option.bind_eq_some_iff.mp hm
    have hst:eV N vs=vs.map some++List.replicate k0 none:=by unfold eV;rw [hN,hl];congr 2;lia
    rw [hst]
    have key:∀{as':List Sv} {e':En},vF as e'=some as'→∀F' H' σ',cF W (vs.map some++List.replicate k0 none) F H (as.map some++List.replicate k0 none) σ' F' H' e'→aY K F' H' σ' e'→
        ej (vs.map some) F H (as.map some) F' H' (as'.map some)∧aY K F' H' (vs.map some) (as'.map some)∧∀a,bR (vs.map some) (as'.map some) H' a→bR (vs.map some) (as.map some) H a:=by
      intro as' e' hu F' H' σ' X' R'
      obtain⟨u1,u2,u3,u4⟩:=mf hu
      have uN:=p6 hu
      have ow:∀a,bR (vs.map some) (as'.map some) H' a→bR (vs.map some) (as.map some) H a:=by
        rintro a ⟨j,⟨ys,c1,c2⟩ | ⟨xss,_,_,z,_⟩⟩
        · obtain⟨⟨xs,c3⟩,_⟩:=u3 j ys (fm.mp c1)
          exact⟨j,.inl ⟨xs,fm.mpr c3,c2⟩⟩
        · exact absurd z (uN j xss)
      have sg:∀(j:Nat) (xs:List PyData),as[j]?=some (.l xs)→σ'[j]?=(vs.map some)[j]?:=fun j xs hj=>by
        rw [X'.wr j (qL nl hj)]
        have hj2:j < (vs.map some).length:=by rw [List.length_map,hl,←la];exact(List.getElem?_eq_some_iff.mp hj).1
        rw [List.getElem?_append_left hj2]
      refine⟨⟨X'.sf,X'.dom,fun a vs h1 h2 hn=>X'.fr a vs h1 h2 fun z=>hn (l9.mp z),X'.lst,fun a o ha hn=>X'.tmp a o ha fun z=>hn (l9.mp z),fun j=>?_,fun a z=>.inl (ow a z),fun a m h1 h2 hn=>X'.fd a m h1 h2 fun z=>hn (l9.mp z)⟩,⟨R'.sm,?_,fun j y hj=>?_,fun j ys hj=>?_,fun j xss hj=>absurd hj (uN j xss),fun j i l f1 f2=>?_⟩,ow⟩
      · constructor
        · rintro⟨ys,hj⟩
          obtain⟨⟨xs,c⟩,_⟩:=u3 j ys (fm.mp hj)
          exact⟨xs,fm.mpr c⟩
        · rintro⟨xs,hj⟩
          obtain⟨ys,c⟩:=u4 j xs (fm.mp hj)
          exact⟨ys,fm.mpr c⟩
      · simp [u1,hl,la]
      · obtain⟨v,c1,c2⟩:=R.dat j y (fm.mpr ((u2 j y).mp (fm.mp hj)))
        exact⟨v,c1,DA.mono X'.sf c2⟩
      · obtain⟨⟨xs,c1⟩,c2⟩:=u3 j ys (fm.mp hj)
        obtain⟨l,us,d1,d2⟩:=R'.own j ys c2
        exact⟨l,us,by rw [←sg j xs c1];exact d1,d2⟩
      · obtain⟨xs,g1,g3⟩:=f1.resolve_right fun⟨xss,_,_,z,_⟩=>uN j xss z
        obtain⟨ys,g2,g4⟩:=f2.resolve_right fun⟨xss,_,_,z,_⟩=>uN i xss z
        obtain⟨⟨zs,c1⟩,c2⟩:=u3 j xs (fm.mp g1)
        obtain⟨⟨ws,c3⟩,c4⟩:=u3 i ys (fm.mp g2)
        exact R'.inj j i xs ys l c2 c4 (by rw [sg j zs c1];exact g3) (by rw [sg i ws c3];exact g4)
    refine⟨F,as.map some++List.replicate k0 none,fl,R.pad,h1,?_⟩
    cases fl with
    | bk e'=>cases hm
    | ct e'=>cases hm
    | nx e'=>
      obtain⟨as2,h2,hm⟩:=Option.map_eq_some_iff.mp hm
      cases hm
      intro F' H' σ' X' R'
      obtain⟨X2,R2,_⟩:=key h2 F' H' σ' X' R'
      exact q F' H' .non X2 R2 ((gE (K:=K) (F:=F')).mpr rfl)
    | rt r0 e'=>
      obtain⟨r1,h2,hm⟩:=Option.bind_eq_some_iff.mp hm
      obtain⟨as2,h3,hm⟩:=Option.map_eq_some_iff.mp hm
      cases hm
      intro F' H' σ' v X' R' A'
      obtain⟨X2,R2,ow2⟩:=key h3 F' H' σ' X' R'
      have noo:∀l,H l=none→¬bR (vs.map some) (as'.map some) H' l:=fun l hl z=>R.ownH l (ow2 l z) hl
      refine q F' H' v X2 R2 ?_
      cases r0 with
      | d y=>cases h2;exact A'
      | l ys=>
        cases h2
        obtain⟨l,us,d0,d1,d2,d3,d4,_⟩:=A'
        exact⟨l,us,d0,d1,d2,d3,d4,noo l d1⟩
      | s i=>
        simp only [y8] at h2
        split at h2
        case isFalse=>cases h2
        case isTrue hi=>
        obtain⟨a1,xs,a2⟩:=A'
        rw [a2] at h2
        cases h2
        obtain⟨l,us,d1,d2,d3,d4⟩:=R'.own i _ a2
        rw [a1] at d1;cases d1
        suffices hl0:H l=none from⟨l,us,rfl,hl0,d2,d3,d4,noo l hl0⟩
        rcases X'.own l ⟨i,.inl ⟨_,a2,a1⟩⟩ with z | z
        · obtain⟨j,zf⟩:=l9.mp z
          obtain⟨ys,z1,z2⟩:=zf.resolve_right fun⟨xss,_,_,z,_⟩=>nN j xss z
          have z1':=fm.mp z1
          obtain⟨u1,u2,u3,u4⟩:=mf h3
          obtain⟨ws,w1⟩:=u4 j ys z1'
          obtain⟨_,w2⟩:=u3 j ws w1
          have hj2:j < vs.length:=by rw [hl,←la];exact(List.getElem?_eq_some_iff.mp z1').1
          have e3:σ'[j]?=some (some (.ref l)):=by
            rw [X'.wr j (qL nl z1'),List.getElem?_append_left (by simpa using hj2)]
            exact z2
          have:=R'.inj i j _ ws l a2 w2 a1 e3
          lia
        · exact z
end
def Eo:Option Sv→Option Sv
  | some (.n _)=>none
  | s=>s
def lJ(cp:List (Nat × Str))(nT:Nat)(e:En):En:=cp.map (fun p=>Eo (e[p.1]?).join)++List.replicate nT none
def lc(cp:List (Nat × Str))(i:Nat):Option Nat:=cp.findIdx? fun p=>p.1==i
def cH(g:FG)(ft:FT)(fe:FE):List PyData→En→List PyData→Option (List PyData × En)
  | [],e,acc=>some (acc,e)
  | x::r,e,acc=>(g x e).bind fun e1=>(ft e1).bind fun b=>if b.1=true then(fe b.2).bind fun v=>(pe v.1).bind fun d=>if acc.length < 1000000 then cH g ft fe r v.2 (acc++[d]) else none else cH g ft fe r b.2 acc
def kO(cp:List (Nat × Str))(ei e:En):Bool:=cp.all fun p=> !wQ e[p.1]? || wQ ei[(lc cp p.1).getD 0]?
def cD(cp:List (Nat × Str))(nT:Nat)(fi:FI)(g:FG)(ft:FT)(fe:FE):FE:=fun e=>(fi e).bind fun p=>if (p.2.1.all fun q=> !(cp.any fun c=>c.1==q.1))=true then(cH g ft fe p.1 (lJ cp nT p.2.2) []).bind fun z=>if kO cp z.2 p.2.2=true then some (.l z.1,lw (lc cp) z.2 p.2.2) else none else none
section
variable{K:PySem.W.Frag}{F H:Hp}{σ:L2.St}{e:En}{cp:List (Nat × Str)}{nT:Nat}
theorem dY{i k:Nat}(h:lc cp i=some k):∃s,cp[k]?=some (i,s):=by
  unfold lc at h
  rw [List.findIdx?_eq_some_iff_getElem] at h
  obtain⟨hk,h1,_⟩:=h
  refine⟨cp[k].2,?_⟩
  rw [List.getElem?_eq_getElem hk]
  have:=eq_of_beq h1
  rw [←this]
theorem ir{k:Nat}{x:Sv}(h:(lJ cp nT e)[k]?=some (some x)):∃i s,cp[k]?=some (i,s)∧e[i]?=some (some x):=by
  unfold lJ at h
  have h:=et h
  rw [List.getElem?_map] at h
  obtain⟨p,h1,h2⟩:=Option.map_eq_some_iff.mp h
  refine⟨p.1,p.2,h1,?_⟩
  cases q:e[p.1]? with
  | none=>rw [q] at h2;cases h2
  | some y=>
    rw [q] at h2
    match y,h2 with
    | some (.d z),h2=>exact congrArg some h2
    | some (.l z),h2=>exact congrArg some h2
    | some (.n z),h2=>cases h2
    | none,h2=>cases h2
theorem iu:DL (lJ cp nT e):=by
  intro k xss h
  unfold lJ at h
  have h:=et h
  rw [List.getElem?_map] at h
  obtain⟨p,h1,h2⟩:=Option.map_eq_some_iff.mp h
  match (e[p.1]?).join,h2 with
  | some (.d z),h2=>cases h2
  | some (.l z),h2=>cases h2
  | some (.n z),h2=>cases h2
  | none,h2=>cases h2
theorem me{k i:Nat}{s:Str}{v:V}(h:cp[k]?=some (i,s))(hv:σ[i]?=some (some v)):(dC cp nT σ)[k]?=some (some v):=by
  unfold dC
  refine eJ ?_
  rw [List.getElem?_map,h]
  simp [hv]
theorem kz{k i:Nat}{s:Str}{v:V}(h:cp[k]?=some (i,s))(hv:(dC cp nT σ)[k]?=some (some v)):σ[i]?=some (some v):=by
  unfold dC at hv
  have hv:=et hv
  rw [List.getElem?_map,h] at hv
  simp only [Option.map_some,Option.some.injEq] at hv
  cases q:σ[i]? with
  | none=>rw [q] at hv;cases hv
  | some y=>rw [q] at hv;exact congrArg some hv
theorem o_:∀{cp:List (Nat × Str)} {k j i:Nat} {s t:Str},(cp.map (·.1)).Nodup→cp[k]?=some (i,s)→cp[j]?=some (i,t)→k=j
  | [],k,j,i,s,t,_,h,_=>by simp at h
  | p::r,k,j,i,s,t,hn,h1,h2=>by
    simp only [List.map_cons,List.nodup_cons] at hn
    cases k with
    | zero=>
      simp at h1;subst h1
      cases j with
      | zero=>rfl
      | succ j=>
        have hm:(i,t)∈r:=List.mem_of_getElem? (i:=j) (by simpa using h2)
        exact absurd (List.mem_map.mpr ⟨(i,t),hm,rfl⟩) hn.1
    | succ k=>
      cases j with
      | zero=>
        simp at h2;subst h2
        have hm:(i,s)∈r:=List.mem_of_getElem? (i:=k) (by simpa using h1)
        exact absurd (List.mem_map.mpr ⟨(i,s),hm,rfl⟩) hn.1
      | succ j=>
        have:=o_ (cp:=r) (k:=k) (j:=j) hn.2 (by simpa using h1) (by simpa using h2)
        lia
theorem aY.inn(R:aY K F H σ e)(hn:(cp.map (·.1)).Nodup):aY K F H (dC cp nT σ) (lJ cp nT e)∧p7 σ e (dC cp nT σ) (lJ cp nT e) (lc cp):=by
  refine⟨⟨R.sm,by simp [dC,lJ],fun k x h=>?_,fun k xs h=>?_,fun k xss h=>absurd h (iu k xss),fun k j l f1 f2=>?_⟩,⟨fun i k xs h1 h2=>?_,fun k ys h=>?_⟩⟩
  · obtain⟨i,s,h1,h2⟩:=ir h
    obtain⟨v,g1,g2⟩:=R.dat i x h2
    exact⟨v,me h1 g1,g2⟩
  · obtain⟨i,s,h1,h2⟩:=ir h
    obtain⟨l,vs,g1,g2⟩:=R.own i xs h2
    exact⟨l,vs,me h1 g1,g2⟩
  · obtain⟨xs,h1,h3⟩:=f1.resolve_right fun⟨xss,_,_,z,_⟩=>iu k xss z
    obtain⟨ys,h2,h4⟩:=f2.resolve_right fun⟨xss,_,_,z,_⟩=>iu j xss z
    obtain⟨i,s,a1,a2⟩:=ir h1
    obtain⟨i',s',b1,b2⟩:=ir h2
    have:i=i':=R.inj i i' xs ys l a2 b2 (kz a1 h3) (kz b1 h4)
    subst this
    exact o_ hn a1 b1
  · obtain⟨s,g⟩:=dY h2
    obtain⟨l,vs,g1,_⟩:=R.own i xs h1
    rw [g1];exact me g g1
  · obtain⟨i,s,h1,h2⟩:=ir h
    obtain⟨l,vs,g1,_⟩:=R.own i ys h2
    refine⟨i,ys,h2,?_,by rw [g1];exact me h1 g1⟩
    cases hp:lc cp i with
    | none=>
      unfold lc at hp
      rw [List.findIdx?_eq_none_iff] at hp
      have:=hp _ (List.mem_of_getElem? h1)
      simp at this
    | some j=>
      obtain⟨t,g⟩:=dY hp
      rw [o_ hn g h1]
theorem aY.putT(R:aY K F H σ e){l:Addr}{ws:List V}(h1:F l=none)(h2:¬bR σ e H l):aY K F (aV H l (.lst ws)) σ e∧∀a,bR σ e (aV H l (.lst ws)) a↔ bR σ e H a:=
  R.keep (av.refl F) (fun b o q=>by
    have z:b≠l:=fun z=>by rw [z,h1] at q;cases q
    rw [aB z];exact R.sm b o q) (fun a ⟨i,h⟩=>(R.fpAt h).1) fun a o ha q=>by
      have z:a≠l:=fun z=>h2 (by rw [←z];exact ha)
      rw [aB z];exact q
theorem cF.putT{W:List Nat}{σ':L2.St}{F' H':Hp}{e':En}(x:cF W σ F H e σ' F' H' e'){l:Addr}{o:HO}(h:H l=none)(ho:∀a,bR σ' e' (aV H' l o) a↔ bR σ' e' H' a):cF W σ F H e σ' F' (aV H' l o) e':=by
  refine⟨x.sf,fun a q=>?_,x.fr,fun a vs q=>?_,fun a u q n=>?_,fun a q=>x.own a ((ho a).mp q),x.wr,x.fd⟩
  · by_cases z:a=l
    · rw [z];exact h
    · rw [aB z] at q;exact x.dom a q
  · have z:a≠l:=fun z=>by rw [z,h] at q;cases q
    rw [aB z];exact x.lst a vs q
  · have z:a≠l:=fun z=>by rw [z,h] at q;cases q
    rw [aB z];exact x.tmp a u q n
inductive CI (K:PySem.W.Frag) (W:List Nat) (σ0:L2.St) (F1 H1:Hp) (e0:En) (l:Addr) (P:Hp→En→List PyData→Prop) (σ':L2.St) (H':Hp):Prop
  | mk {F':Hp} {ei:En} {acc:List PyData} {vs:List V} (R:aY K F' H' σ' ei) (X:cF W σ0 F1 H1 e0 σ' F' H' ei) (fl:F' l=none) (no:¬bR σ' ei H' l) (hl:H' l=some (.lst vs)) (da:aJ K F' acc vs) (hc:P F' ei acc):CI K W σ0 F1 H1 e0 l P σ' H'
theorem rF{Q:VK}{fi:FI}{g:FG}{W:List Nat}{ft:FT}{fe:FE}(hn:(cp.map (·.1)).Nodup)(hW:∀j∈W,cp.length≤j)(h:fE K (cD cp nT fi g ft fe) σ H Q):ur cp nT (fI K fi) (fG K g W) (fT K ft) (fE K fe) σ H Q:=by
  obtain⟨F0,e0,z,e',R0,hf,q⟩:=h
  unfold cD at hf
  obtain⟨⟨items,own,e1⟩,h1,hf⟩:=Option.bind_eq_some_iff.mp hf
  dsimp only at hf
  split at hf
  case isFalse=>cases hf
  case isTrue hO=>
  obtain⟨⟨out,eo⟩,h2,hf⟩:=Option.bind_eq_some_iff.mp hf
  dsimp only at hf
  split at hf
  case isFalse=>cases hf
  case isTrue hB=>
  cases hf
  refine⟨⟨F0,e0,items,own,e1,R0,h1,fun J F1 H1 X1 R1 kp ok=>?_⟩⟩
  intro l hl
  obtain⟨Ri,sub⟩:=R1.inn (nT:=nT) hn
  have hFl:F1 l=none:=R1.freeF hl
  let Iv:Nat→L2.St→Hp→Prop:=fun i=>CI K W (dC cp nT σ) F1 H1 (lJ cp nT e1) l fun _ ei acc=>cH g ft fe (items.drop i) ei acc=some (out,eo)
  have notown:∀p∈own,∀a,σ[p.1]?=some (some (.ref a))→¬bR (dC cp nT σ) (lJ cp nT e1) H1 a:=by
    rintro p hp a ha ⟨k,zf⟩
    obtain⟨xs,c1,c2⟩:=zf.resolve_right fun⟨xss,_,_,z,_⟩=>iu k xss z
    obtain⟨i,s,d1,d2⟩:=ir c1
    have e2:=kz d1 c2
    have:p.1=i:=R1.inj p.1 i p.2 xs a (kp p hp) d2 ha e2
    have hh:=List.all_eq_true.mp hO p hp
    simp only [Bool.not_eq_true',List.any_eq_false,beq_iff_eq] at hh
    exact hh (i,s) (List.mem_of_getElem? d1) this.symm
  refine⟨fun i m σ' H'=>m=items.length - i∧i≤items.length∧Iv i σ' H',⟨items.length,by simp,Nat.zero_le _,.mk (Ri.putT hFl (fun z=>(Ri.ownH l z) hl)).1 (cF.refl.putT hl (Ri.putT hFl (fun z=>(Ri.ownH l z) hl)).2) hFl (fun z=>(Ri.ownH l (((Ri.putT hFl (fun z=>(Ri.ownH l z) hl)).2 l).mp z)) hl) ax aJ.nil h2⟩,?_⟩
  rintro i m σ' H' ⟨rfl,hi,⟨R',X',fl,no,hl',da,hc⟩⟩
  rename_i F' ei acc vs
  have held:uF K σ F' H' own:=fun p hp=>by
    obtain⟨a,us,c1,c2,c3,c4⟩:=R1.own p.1 p.2 (kp p hp)
    exact⟨a,us,c1,X'.tmp a _ c3 (notown p hp a c1),c4.mono X'.sf⟩
  obtain⟨go,stop,yld⟩:=ok F' H' X'.sf R'.sm held
  by_cases hlt:i < items.length
  · have hd:items.drop i=items[i]::items.drop (i+1):=List.drop_eq_getElem_cons hlt
    rw [hd] at hc
    unfold cH at hc
    obtain⟨e2,c2,hc⟩:=Option.bind_eq_some_iff.mp hc
    obtain⟨⟨b,e3⟩,c3,hc⟩:=Option.bind_eq_some_iff.mp hc
    refine .inr ⟨go i hlt,Iv (i+1),fun σ2 H2 r=>⟨items.length - (i+1),by lia,rfl,hlt,r⟩,fun x H2 hy=>?_⟩
    obtain⟨F2,sH,sF2,sm2,fz,hx⟩:=yld i items[i] x H2 (List.getElem?_eq_getElem hlt) hy
    obtain⟨R2,X2⟩:=R'.step sH sF2 sm2 fz
    refine⟨F2,ei,items[i],e2,R2,hx,c2,fun σ3 X3 R3=>⟨F2,e2,b,e3,R3,c3,fun F4 H4 X4 R4=>?_⟩⟩
    have hlH2:H2 l=some (.lst vs):=sH _ _ hl'
    have no2:¬bR σ' ei H2 l:=fun z=>by
      rcases X2.ow l z with z | z
      · exact no z
      · rw [hl'] at z;cases z
    have no3:¬bR σ3 e2 H2 l:=fun z=>by
      rcases X3.own l z with z | z
      · exact no2 z
      · rw [hlH2] at z;cases z
    have fl2:F2 l=none:=fz l fl (by rw [hl'];simp)
    have hlH4:H4 l=some (.lst vs):=X4.tmp l _ hlH2 no3
    have fl4:F4 l=none:=X4.fr l vs fl2 hlH2 no3
    have no4:¬bR σ3 e3 H4 l:=fun z=>by
      rcases X4.ow l z with z | z
      · exact no3 z
      · rw [hlH2] at z;cases z
    have E4:cF W (dC cp nT σ) F1 H1 (lJ cp nT e1) σ3 F4 H4 e3:=((X'.trans X2.s).trans X3).trans X4.s
    cases b with
    | false=>
      rw [if_neg (by simp)] at hc
      exact wX (.mk R4 E4 fl4 no4 hlH4 (da.mono (sF2.trans X4.sf)) hc)
    | true=>
      rw [if_pos rfl] at hc
      obtain⟨⟨r,e5⟩,c5,hc⟩:=Option.bind_eq_some_iff.mp hc
      obtain⟨d,c6,hc⟩:=Option.bind_eq_some_iff.mp hc
      split at hc
      case isFalse=>cases hc
      case isTrue hlen=>
      refine wY ⟨F4,e3,r,e5,R4,c5,fun F5 H5 v X5 R5 A5=>?_⟩
      have hlH5:H5 l=some (.lst vs):=X5.tmp l _ hlH4 no4
      have fl5:F5 l=none:=X5.fr l vs fl4 hlH4 no4
      have no5:¬bR σ3 e5 H5 l:=fun z=>by
        rcases X5.ow l z with z | z
        · exact no4 z
        · rw [hlH4] at z;cases z
      obtain⟨F6,R6,s6,d6,f6⟩:=dD.frozen R5 (rs:=[r]) (vs:=[v]) ⟨v,[],rfl,A5,rfl⟩ (nW c6)
      have fl6:F6 l=none:=f6 l fl5 (by rw [hlH4];simp)
      have X6:=X5.frz s6 f6
      have ll:=da.len
      have sl:sizeLine=16777216:=sizeLine_eq
      have dv:DA K F6 d v:=by
        simp only [aJ] at d6
        obtain⟨v',r',e',hv,_⟩:=d6
        cases e';exact hv
      obtain⟨R7,o7⟩:=R6.putT (ws:=vs++[v]) fl6 no5
      exact⟨vs,hlH5,by lia,.mk R7 ((E4.trans X6.s).putT hl o7) fl6 (fun z=>no5 ((o7 l).mp z)) ax ((da.mono (sF2.trans (X4.sf.trans (X5.sf.trans s6)))).append (aJ.one dv)) hc⟩
  · have hd:items.drop i=[]:=List.drop_eq_nil_of_le (by lia)
    rw [hd] at hc
    cases hc
    refine .inl ⟨stop i (by lia),?_⟩
    obtain⟨R9,X9,o9⟩:=mY R1 sub iu X'.sf X'.dom X'.fr X'.lst X'.tmp X'.fd R' (fun i k xs g1 g2=>X'.wr k fun z=>by
      obtain⟨s,g⟩:=dY g2
      have:=(List.getElem?_eq_some_iff.mp g).1
      have:=hW k z
      lia) fun i k xs g1 g2=>by
        obtain⟨s,g⟩:=dY g2
        unfold kO at hB
        have hb:=List.all_eq_true.mp hB _ (List.mem_of_getElem? g)
        simp only [g1,g2,Option.getD_some,wQ,Bool.not_true,Bool.false_or] at hb
        exact tZ.mp hb
    exact q F' H' (.ref l) (X1.trans X9) R9 ⟨l,vs,rfl,X1.dom l hl,fl,hl',da,fun z=>R1.ownH l (o9 l z) hl⟩
end
end L2
namespace L2
open PySem PySem.Spec PyProof.Rows
section
variable{X:Cx}{K:PySem.W.Frag}{a b:Expr}{es:List Expr}{fa fb:FE}{fs:FA}{pos p p2 p3:Pos}{lo hi:Option Expr}
def ze:En→Rv→Option Rv:=fun _ x=>(ck x).map fun i=>.d (.int (-i))
theorem Ew:DF K (rU fun i=>.int (-i)) ze:=by
  intro σ H0 F H e x z v Q R A hg q
  obtain⟨i,h5,h4⟩:=Option.map_eq_some_iff.mp hg
  cases h4
  exact⟨i,cm A h5,q F H _ (ej.refl _ _ _ _) R jI⟩
theorem EQ(ha:PE X a (fE K fa)):PE X (.UnaryOp .USub a pos) (fE K (uB ze fa)):=EU Dv Ew ha
theorem ba(hK:X.K=K)(ha:PE X a (fE K fa))(hb:PE X b (fE K fb)):PE X (.BinOp a .Add b pos) (fE K (az bi fa fb)):=oD (hK ▸ zC) DU ha hb
theorem lM(ha:PE X a (fE K fa))(hb:PE X b (fE K fb)):PE X (.BinOp a .Sub b pos) (fE K (az fQ fa fb)):=oD CG Fh ha hb
theorem mQ(hK:X.K=K)(ha:PE X a (fE K fa))(hb:PE X b (fE K fb)):PE X (.BinOp a .Mult b pos) (fE K (az jA fa fb)):=oD (hK ▸ zG) Et ha hb
theorem gP(ha:PE X a (fE K fa))(hb:PE X b (fE K fb)):PE X (.BinOp a .FloorDiv b pos) (fE K (az eI fa fb)):=oD xA BU ha hb
theorem aN(ha:PE X a (fE K fa))(hb:PE X b (fE K fb)):PE X (.BinOp a .Mod b pos) (fE K (az aI fa fb)):=oD zF Es ha hb
theorem Bo(ha:PE X a (fE K fa))(hb:PE X b (fE K fb)):PE X (.BinOp a .Pow b pos) (fE K (az rZ fa fb)):=oD CC EM ha hb
theorem dZ(hK:X.K=K)(ha:PE X a (fE K fa))(hb:PE X b (fE K fb))(hs:oS b):PE X (.Subscript a b pos) (fE K (az io fa fb)):=ES (hK ▸ Gv) Gw ha hb hs
theorem di{fl fh:FO}(hK:X.K=K)(he:PE X a (fE K fa))(hl:PO X lo (fO K fl))(hh:PO X hi (fO K fh)):PE X (.Subscript a (.Slice lo hi none p2) pos) (fE K (rJ fa fl fh)):=by subst hK;exact x5 he hl hh
structure lW (X:Cx) (K:PySem.W.Frag) (op:CmpOp) (g:En→Rv→Rv→Option Rv):Prop where
  ex:∃r,gK X (compareOp op) r∧gB K r g
theorem BM:lW X K .Lt BZ:=⟨_,EC,Gz⟩
theorem D8:lW X K .LtE Ee:=⟨_,EB,Gy⟩
theorem D7:lW X K .Gt Ec:=⟨_,EA,Gq⟩
theorem D6:lW X K .GtE Eb:=⟨_,Ez,Gp⟩
theorem kS{k:Nat}(hK:X.K=K)(hr:cX k X.A):lW X K .Eq (cE false):=⟨_,hK ▸ Cy hr,AZ⟩
theorem wa{k:Nat}(hK:X.K=K)(hr:cX k X.A):lW X K .NotEq (cE true):=⟨_,hK ▸ CB hr,AZ⟩
theorem yU{k:Nat}(hK:X.K=K)(hr:cX k X.A):lW X K .In (tR false):=⟨_,hK ▸ Cz hr,Gu⟩
theorem jR:lW X K .IsNot fP:=⟨_,vc,zh⟩
theorem oC{op:CmpOp}{g:En→Rv→Rv→Option Rv}(h:lW X K op g)(ha:PE X a (fE K fa))(hb:PE X b (fE K fb))(hm:behindInMarks op b=false):PE X (.Compare a [op] [b] pos) (fE K (az g fa fb)):=by
  obtain⟨r,h1,h2⟩:=h.ex;exact C6 h1 h2 ha hb hm
theorem bc{op:CmpOp}{g:En→Rv→Rv→Option Rv}(h:lW X K op g)(ha:PE X a (fE K fa))(hb:PE X b (fE K fb))(hm:behindInMarks op b=false):PT X (.Compare a [op] [b] pos) (fT K (a7 (az g fa fb))):=by
  obtain⟨r,h1,h2⟩:=h.ex;exact C' h1 h2 ha hb hm
theorem Ae{op op':CmpOp}{g g':En→Rv→Rv→Option Rv}{c:Expr}{fc:FE}(h:lW X K op g)(h':lW X K op' g')(ha:PE X a (fE K fa))(hb:PE X b (fE K fb))(hc:PE X c (fE K fc))(hm:lastMarks [op,op'] [b,c]=false):PE X (.Compare a [op,op'] [b,c] pos) (fE K (i_ g g' fa fb fc)):=by
  obtain⟨r,h1,h2⟩:=h.ex;obtain⟨r',h3,h4⟩:=h'.ex;exact xZ h1 h2 h3 h4 ha hb hc hm
structure m_ (X:Cx) (K:PySem.W.Frag) (x:Str) (g:En→List Rv→Option Rv):Prop where
  ex:(∃id r,dU X (.builtin id) r∧eC K r g∧bootBuiltins x=some (.builtin id))∨∃T r,dU X (.type T) r∧eC K r g∧bootBuiltins x=some (.type T)
theorem aU{x:Str}{g:En→List Rv→Option Rv}(h:m_ X K x g)(hg:Gl X x)(hm:X.mg x=none)(ha:PA X (a::es) (fA K fs))(hn:x≠"__name__")(hdb:(x==("__debug__":Str))=false)
    (he:starEach (a::es) X.env=(false,eval a X.env)::starEach es X.env)(hpl:(backTo pos (starEach es X.env)).any (·.1)=false):PE X (.Call (.Name x p) (a::es) [] pos) (fE K (aP g fs)):=by
  rcases h.ex with ⟨id,r,h1,h2,h3⟩ | ⟨T,r,h1,h2,h3⟩
  · exact xY h1 h2 hg hm h3 ha hn hdb he hpl
  · exact vj h1 h2 hg hm h3 ha hn hdb he hpl
theorem b_len(hK:X.K=K):m_ X K "len" (g1 iI):=⟨.inl ⟨_,_,hK ▸ oX,Em,PySem.boot_len⟩⟩
theorem b_abs:m_ X K "abs" (g1 uQ):=⟨.inl ⟨_,_,wb,DT,PyProof.Rows.boot_abs⟩⟩
theorem b_min(hc:X.calm=true):m_ X K "min" (g2 pz):=⟨.inl ⟨_,_,uK hc,Er,PyProof.Rows.boot_min⟩⟩
theorem b_max(hc:X.calm=true):m_ X K "max" (g2 lX):=⟨.inl ⟨_,_,uJ hc,Ep,PyProof.Rows.boot_max⟩⟩
theorem b_int:m_ X K "int" (g1 uR):=⟨.inr ⟨_,_,uH,Ei,PyProof.Rows.boot_int⟩⟩
theorem b_tuple(hK:X.K=K):m_ X K "tuple" (g1 dr):=⟨.inr ⟨_,_,hK ▸ nq,AE,PyProof.Rows.boot_tuple⟩⟩
theorem b_list(hK:X.K=K):m_ X K "list" (g1 Be):=⟨.inr ⟨_,_,hK ▸ oY,Cg,PyProof.Rows.boot_list⟩⟩
theorem b_all{k:Nat}(hK:X.K=K)(hr:cX k X.A):m_ X K "all" (g1 (fR lH)):=⟨.inl ⟨_,_,wc hr hK,DV,vZ⟩⟩
theorem b_any{k:Nat}(hK:X.K=K)(hr:cX k X.A):m_ X K "any" (g1 (fR qo)):=⟨.inl ⟨_,_,wd hr hK,DX,v0⟩⟩
def gJ(fs:FA):FE:=fun e=>(fs e).bind fun p=>match p.1 with
  | [r]=>(ck r).bind fun j=>if 0≤j∧j≤100000 then some (.l ((h8 j.toNat).map .int),p.2) else none
  | _=>none
theorem lL(hc:X.calm=true)(hgl:Gl X "list")(hml:X.mg "list"=none)(hg:Gl X "range")(hm:X.mg "range"=none)(ha:PA X [a] (fA K fs))(hs:starEach [a] X.env=[(false,eval a X.env)])
    (he:starEach [.Call (.Name "range" p2) [a] [] p3] X.env=[(false,eval (.Call (.Name "range" p2) [a] [] p3) X.env)]):PE X (.Call (.Name "list" p) [.Call (.Name "range" p2) [a] [] p3] [] pos) (fE K (gJ fs)):=(pL hc hgl hml hg hm ha hs he).mono fun σ H Q h=>by
  obtain⟨F,e,z,e',R,hf,q⟩:=h
  unfold gJ at hf
  obtain⟨⟨rs,e1⟩,h1,hf⟩:=Option.bind_eq_some_iff.mp hf
  match rs,h1,hf with
  | [r],h1,hf=>
  obtain⟨j,h2,hf⟩:=Option.bind_eq_some_iff.mp hf
  split at hf
  case isFalse=>cases hf
  case isTrue hj=>
  cases hf
  refine⟨F,e,_,e1,R,h1,fun F1 H1 vs X1 R1 A1=>?_⟩
  obtain⟨v,rfl,A2⟩:=l_ A1
  refine⟨j,by rw [cm A2 h2],hj.1,hj.2,fun t ht=>?_⟩
  obtain⟨R3,X3,hF,no⟩:=R1.newL (vs:=(h8 j.toNat).map V.int) ht
  exact q _ _ _ (X1.trans X3) R3 ⟨t,_,rfl,X1.dom _ ht,hF,ax,aJ.ints.mpr rfl,no⟩
abbrev br:FT:=fun e=>some (true,e)
theorem rM.mono{ifs:List Expr}{t t':TT}(h:rM X ifs t)(m:∀σ H Q,t' σ H Q→t σ H Q):rM X ifs t':=fun pins s σ H Q I q=>h pins s σ H Q I (m σ H Q q)
theorem dR:rM X [] (fT K br):=z_.mono fun σ H Q h=>by
  obtain⟨F,e,b,e',R,hf,q⟩:=h
  cases hf
  exact q F H (ej.refl _ _ _ _) R
theorem pR{c:Expr}{ft:FT}(h:PT X c (fT K ft)):rM X [c] (fT K ft):=Ab h
theorem f9{elt iter tg:Expr}{ifs:List Expr}{scope:Scope}{fi:FI}{g:FG}{ft:FT}{fe:FE}{W:List Nat}(sc0:Scope)(N0:List Str)(cp:List (Nat × Str))(tgN:List Str)
    (hc:X.calm=true)(hsc:X.env.scope=sc0)(hN0:X.N=N0)(hi:PI X tg iter (fI K fi))
    (hg:∀C s0 H0 fp,PG (ao X scope cp tgN C s0 H0 fp) tg (fG K g W))
    (ht:∀C s0 H0 fp,rM (ao X scope cp tgN C s0 H0 fp) ifs (fT K ft))
    (he:∀C s0 H0 fp,PE (ao X scope cp tgN C s0 H0 fp) elt (fE K fe))
    (hk:scope.kind=.function)(hcell:∀y∈scope.names,y.2≠.cell)(hnames:∀y∈scope.names,y.2=.local→scope.names.lookup y.1=some .local)
    (hfr:∀y∈scope.names,y.2=.free→scope.names.lookup y.1=some .free∧sc0.names.lookup y.1=some .cell)
    (hcp:∀p∈cp,N0[p.1]?=some p.2)(hcq:∀p∈cp,sc0.names.lookup p.2=some .cell∧scope.names.lookup p.2=some .free)(hnd:(cp.map (·.1)).Nodup)(hW:∀j∈W,cp.length≤j)
    (hs:∀x,foldedSetIterable iter X.env x=pure x):
    PE X (.ListComp elt [⟨tg,iter,ifs,0⟩] scope pos) (fE K (cD cp tgN.length fi g ft fe)):=(zN sc0 N0 cp tgN hc hsc hN0 hi hg ht he hk hcell hnames hfr hcp hcq hs).mono fun _ _ _ h=>rF hnd hW h
theorem vh{ix:Nat}{nm:Str}{posn poss:Pos}{elt iter tg:Expr}{ifs:List Expr}{scope:Scope}{fi:FI}{g:FG}{ft:FT}{fe:FE}{W:List Nat}(sc0:Scope)(N0:List Str)(cp:List (Nat × Str))(tgN:List Str)
    (hc:X.calm=true)(hsc:X.env.scope=sc0)(hN0:X.N=N0)(hi:PI X tg iter (fI K fi))
    (hg:∀C s0 H0 fp,PG (ao X scope cp tgN C s0 H0 fp) tg (fG K g W))
    (ht:∀C s0 H0 fp,rM (ao X scope cp tgN C s0 H0 fp) ifs (fT K ft))
    (he:∀C s0 H0 fp,PE (ao X scope cp tgN C s0 H0 fp) elt (fE K fe))
    (hk:scope.kind=.function)(hcell:∀y∈scope.names,y.2≠.cell)(hnames:∀y∈scope.names,y.2=.local→scope.names.lookup y.1=some .local)
    (hfr:∀y∈scope.names,y.2=.free→scope.names.lookup y.1=some .free∧sc0.names.lookup y.1=some .cell)
    (hcp:∀p∈cp,N0[p.1]?=some p.2)(hcq:∀p∈cp,sc0.names.lookup p.2=some .cell∧scope.names.lookup p.2=some .free)(hnd:(cp.map (·.1)).Nodup)(hW:∀j∈W,cp.length≤j)
    (hNd:X.N.Nodup)(hix:X.N[ix]?=some nm)(hlc:X.env.scope.names.lookup nm=some .local)(hsw:swapsWith (.ListComp elt [⟨tg,iter,ifs,0⟩] scope pos) (some (.Name nm posn)) poss.line X.env=pure true)
    (hs:∀x,foldedSetIterable iter X.env x=pure x):
    PS X (.Assign [.Name nm posn] (.ListComp elt [⟨tg,iter,ifs,0⟩] scope pos) poss) (fS K (aR ix (cD cp tgN.length fi g ft fe)) [ix]):=(sx sc0 N0 cp tgN hc hsc hN0 hi hg ht he hk hcell hnames hfr hcp hcq hNd hix hlc hsw hs).mono fun D σ H h=>by
  obtain⟨F,e,fl,R,hf,q⟩:=h
  unfold aR at hf
  obtain⟨⟨r,e1⟩,h1,hf⟩:=Option.bind_eq_some_iff.mp hf
  obtain⟨e2,h2,hf⟩:=Option.map_eq_some_iff.mp hf
  cases hf
  refine rF hnd hW ⟨F,e,r,e1,R,h1,fun F1 H1 v X1 R1 A1=>?_⟩
  obtain⟨x,R2⟩:=xU R X1 R1 A1 h2
  exact q F1 H1 _ x R2
variable{o:Expr}{fo:FE}{apos cpos:Pos}
theorem cM(hK:X.K=K)(ho:PE X o (fE K fo))(ha:PA X (a::es) (fA K fs))(hbase:attributeBase o "append" X.env (eval o X.env)=eval o X.env)
    (hfew:((backTo cpos (starEach (a::es) X.env)).all (fun x=> !x.1)&&(backToKw cpos (keywordEach [] X.env)).all (fun x=>x.1.isSome)
      &&decide ((a::es).length+([]:List Keyword).length+(if ([]:List Keyword).isEmpty then 0 else 1) < 30))=true)
    (hline:(apos.endLine==cpos.line)=true)(hs:starEach (a::es) X.env=(false,eval a X.env)::starEach es X.env)(hplain:(backTo cpos (starEach es X.env)).any (·.1)=false):
    PE X (.Call (.Attribute o "append" apos) (a::es) [] cpos) (fE K (cw bS fo fs)):=by
  subst hK;exact Bp PySem.F.slot_list_append PySem.F.type_list_append jk vU ho ha hbase hfew hline hs hplain
theorem pN(hK:X.K=K)(ho:PE X o (fE K fo))(ha:PA X (a::es) (fA K fs))(hbase:attributeBase o "pop" X.env (eval o X.env)=eval o X.env)
    (hfew:((backTo cpos (starEach (a::es) X.env)).all (fun x=> !x.1)&&(backToKw cpos (keywordEach [] X.env)).all (fun x=>x.1.isSome)
      &&decide ((a::es).length+([]:List Keyword).length+(if ([]:List Keyword).isEmpty then 0 else 1) < 30))=true)
    (hline:(apos.endLine==cpos.line)=true)(hs:starEach (a::es) X.env=(false,eval a X.env)::starEach es X.env)(hplain:(backTo cpos (starEach es X.env)).any (·.1)=false):
    PE X (.Call (.Attribute o "pop" apos) (a::es) [] cpos) (fE K (cw iy fo fs)):=by
  subst hK;exact Bp PySem.F.slot_list_pop PySem.F.type_list_pop xc zX ho ha hbase hfew hline hs hplain
theorem ER(hK:X.K=K)(ho:PE X o (fE K fo))(hbase:attributeBase o "pop" X.env (eval o X.env)=eval o X.env)(hline:(apos.endLine==cpos.line)=true):
    PE X (.Call (.Attribute o "pop" apos) [] [] cpos) (fE K (cw se fo ai)):=by
  subst hK;exact C4 PySem.F.slot_list_pop PySem.F.type_list_pop Cj EL ho hbase hline
end
end L2
namespace L2
open PySem PySem.Spec PyProof.Rows
theorem sJ{K:PySem.W.Frag}{H:Hp}{a:Addr}{ns:List Int}{m:FM}{as':List Sv}{Q:VK}{E:XK}(hS:gA K H a (ns.map V.int))(hm:m [.d (.list (ns.map .int))]=some (.d (.bool true),as'))(q:∀H',Q (.bl true) H'):cy K 1 m [.ref a] H Q E:=by
  refine⟨rfl,H,[.d (.list (ns.map .int))],_,as',?_,?_,hm,trivial,fun F' H' v X' R' A'=>?_⟩
  · refine⟨av.refl _,rfl,fun i x h=>?_,fun i xs h=>?_,fun i xss h=>?_,fun i j l f1 _=>?_⟩
    · match i,h with
      | 0,h=>
        simp at h;subst h
        exact⟨.ref a,rfl,eN.mpr ⟨a,_,rfl,hS,aJ.ints.mpr rfl⟩⟩
      | i+1,h=>simp at h
    · match i,h with
      | 0,h=>simp at h
      | i+1,h=>simp at h
    · match i,h with
      | 0,h=>simp at h
      | i+1,h=>simp at h
    · rcases f1 with ⟨_,h,_⟩ | ⟨_,_,_,h,_⟩
      · match i,h with
        | 0,h=>simp at h
        | i+1,h=>simp at h
      · match i,h with
        | 0,h=>simp at h
        | i+1,h=>simp at h
  · intro i xss h
    match i,h with
    | 0,h=>simp at h
    | i+1,h=>simp at h
  · rw [cA.mp (show DA K F' (.bool true) v from A')];exact q H'
end L2
namespace L2
open PySem PySem.Spec PyProof.Rows
section
variable{K:PySem.W.Frag}{σ:L2.St}{H0 F H F' H':Hp}{e e':En}
end
section
variable{X:Cx}{K:PySem.W.Frag}{a b:Expr}{es:List Expr}{fa fb:FE}{fs:FA}{pos p p2 p3 pos':Pos}{x:Str}{i:Nat}
def xg(i:Nat):En→Option Int:=fun e=>match e[i]? with
  | some (some (.d (.int k)))=>some k
  | _=>none
def nC(k:Int):En→Option Int:=fun _=>some k
def yD(fo fa:FE):FE:=fun e=>(fo e).bind fun o=>(fa o.2).bind fun p=>match p.1 with
  | .l ys=>(pW p.2 o.1).bind fun s=>if s.2.length+ys.length≤1000000 then some (.d .none,p.2.set s.1 (some (.l (s.2++ys)))) else none
  | _=>none
theorem xV{o:Expr}{fo:FE}{apos cpos:Pos}(hK:X.K=K)(ho:PE X o (fE K fo))(ha:PE X a (fE K fa))(hst:PySem.W.isStarred a=false)
    (hbase:attributeBase o "extend" X.env (eval o X.env)=eval o X.env)
    (hfew:((backTo cpos (starEach [a] X.env)).all (fun x=> !x.1)&&(backToKw cpos (keywordEach [] X.env)).all (fun x=>x.1.isSome)
      &&decide ([a].length+([]:List Keyword).length+(if ([]:List Keyword).isEmpty then 0 else 1) < 30))=true)
    (hline:(apos.endLine==cpos.line)=true)(hs:starEach [a] X.env=(false,eval a X.env)::starEach [] X.env)(hplain:(backTo cpos (starEach [] X.env)).any (·.1)=false):
    PE X (.Call (.Attribute o "extend" apos) [a] [] cpos) (fE K (yD fo fa)):=by
  subst hK
  refine(Bm PySem.F.plainAttrs_list PySem.F.slot_list_extend PySem.F.type_list_extend uZ ho (ED ha k_ hst) hbase hfew hline hs hplain).mono fun σ H Q h=>?_
  obtain⟨F,e,z,e',R,hf,q⟩:=h
  unfold yD at hf
  obtain⟨⟨ro,e1⟩,h1,hf⟩:=Option.bind_eq_some_iff.mp hf
  obtain⟨⟨r,e2⟩,h2,hf⟩:=Option.bind_eq_some_iff.mp hf
  match r,h2,hf with
  | .l ys,h2,hf=>
  obtain⟨⟨n,xs⟩,h3,hf⟩:=Option.bind_eq_some_iff.mp hf
  split at hf
  case isFalse=>cases hf
  case isTrue hlen=>
  cases hf
  obtain⟨z3,h3'⟩:=vt h3
  dsimp only at z3 h3'
  subst z3
  refine⟨F,e,_,e1,R,h1,fun F1 H1 v X1 R1 A1=>?_⟩
  obtain⟨s1,zs,s2⟩:=A1
  obtain⟨l,vs,c1,c2,c3,c4⟩:=R1.own n zs s2
  rw [s1] at c1;cases c1
  refine⟨.inl ⟨rfl,vs,.inl (.inl c3)⟩,F1,e1,_,e2,R1,h2,fun F2 H2 w X2 R2 A2=>?_⟩
  obtain⟨t,us,rfl,t1,t2,t3,t4,t5⟩:=A2
  obtain⟨l',vs',d1,d2,d3,d4⟩:=R2.own n xs h3'
  rw [s1] at d1;cases d1
  have l1:=d4.len
  have l2:=t4.len
  have sl:sizeLine=16777216:=sizeLine_eq
  dsimp only at hlen
  refine⟨l,t,vs',us,rfl,rfl,d3,t3,by lia,?_⟩
  obtain⟨R3,X3⟩:=R2.putL h3' s1 (d4.append t4)
  exact q _ _ _ ((X1.trans X2).trans X3) R3 ((gE (K:=X.K) (F:=F2)).mpr rfl)
end
end L2
namespace L2
open PySem PySem.Spec PyProof.Rows
theorem kT{C:Int→Int→Bool}{f:Int→Int→PyData}{e:En}{i j:Int}(h:C i j=true):gI C f e (.d (.int i)) (.d (.int j))=some (.d (f i j)):=by simp [gI,ck,h]
theorem eG{e:En}{i j:Int}:bi e (.d (.int i)) (.d (.int j))=some (.d (.int (i+j))):=rfl
theorem mE{e:En}{i j:Int}:fQ e (.d (.int i)) (.d (.int j))=some (.d (.int (i - j))):=rfl
theorem mF{e:En}{i j:Int}(h:k7 i j=true):jA e (.d (.int i)) (.d (.int j))=some (.d (.int (i*j))):=by
  unfold jA vO qu;rw [kT h];rfl
theorem xf{i j:Int}(h1: -(2 ^ 64) < i)(h2:i < 2 ^ 64):k7 i j=true:=by
  have:iE i=true:=by unfold iE;rw [decide_eq_true h1,decide_eq_true h2];rfl
  unfold k7;rw [this];simp
theorem pG{i j:Int}(h1: -(2 ^ 64) < j)(h2:j < 2 ^ 64):k7 i j=true:=by
  have:iE j=true:=by unfold iE;rw [decide_eq_true h1,decide_eq_true h2];rfl
  unfold k7;rw [this];simp
theorem aw{e:En}{i j:Int}(h:0 < j):aI e (.d (.int i)) (.d (.int j))=some (.d (.int (i % j))):=by
  unfold aI;rw [kT (by simp;lia)]
  rw [Int.fmod_eq_emod_of_nonneg i (by lia)]
theorem dy{e:En}{i j:Int}(h:0 < j)(h2:Bt 8000 j):eI e (.d (.int i)) (.d (.int j))=some (.d (.int (i / j))):=by
  unfold eI;rw [kT (by simp [jO.mpr h2];lia)]
  rw [Int.fdiv_eq_ediv_of_nonneg i (by lia)]
theorem pq{e:En}{i j:Int}{neg:Bool}:cE neg e (.d (.int i)) (.d (.int j))=some (.d (.bool (if neg then !(i==j) else i==j))):=by
  unfold cE;simp [iF,SeqAt.shaped,PyData.canLay0,PyData.depth,PyData.eqv]
theorem tV{e:En}{i j:Int}:BZ e (.d (.int i)) (.d (.int j))=some (.d (.bool (decide (i < j)))):=rfl
theorem tT{e:En}{i j:Int}:Ee e (.d (.int i)) (.d (.int j))=some (.d (.bool (decide (i≤j)))):=rfl
theorem tQ{e:En}{i j:Int}:Ec e (.d (.int i)) (.d (.int j))=some (.d (.bool (decide (j < i)))):=rfl
theorem tP{e:En}{i j:Int}:Eb e (.d (.int i)) (.d (.int j))=some (.d (.bool (decide (j≤i)))):=rfl
theorem qt{e:En}{i j:Int}:g2 pz e [.d (.int i),.d (.int j)]=some (.d (.int (min i j))):=by
  show some (Rv.d (.int (if j < i then j else i)))=_
  congr 3
  split<;>lia
theorem qr{e:En}{i j:Int}:g2 lX e [.d (.int i),.d (.int j)]=some (.d (.int (max i j))):=by
  show some (Rv.d (.int (if j > i then j else i)))=_
  congr 3
  split<;>lia
theorem qz{e:En}{i:Int}:ze e (.d (.int i))=some (.d (.int (-i))):=rfl
theorem n_{e:En}{b:Bool}:g1 uR e [.d (.bool b)]=some (.d (.int (if b then 1 else 0))):=rfl
theorem qm{e:En}{i:Int}:g1 uQ e [.d (.int i)]=some (.d (.int i.natAbs)):=by
  show some (Rv.d (.int (if i < 0 then -i else i)))=_
  congr 3
  split<;>lia
theorem iQ{j:Int}(h1:0 < j)(h2:j < 2 ^ 64):Bt 8000 j:=Bt.mono (m:=64) (by unfold Bt;lia) (by decide)
theorem iN{α:Type}{xs:List α}{i:Int}(h0:0≤i)(h:i < xs.length):atI xs i=xs[i.toNat]?:=by
  unfold atI El
  rw [if_pos h0,if_pos h];rfl
theorem qq{e:En}{i:Nat}{xs:List PyData}{neg:Bool}(h:e[i]?=some (some (.l xs)))(hs:SeqAt.shaped (.list xs)=true):cE neg e (.s i) (.l [])=some (.d (.bool (if neg then !xs.isEmpty else xs.isEmpty))):=by
  unfold cE
  simp only [iF,h,Option.bind_some,hs]
  have h0:SeqAt.shaped (.list [])=true:=by simp [SeqAt.shaped,PyData.canLay0,PyData.canLayAll0,PyData.depth,PyData.depthAll]
  rw [h0]
  cases xs<;>simp [PyData.eqv,PyData.eqvAll]
theorem lT(ns:List Int):SeqAt.shaped (.list (ns.map .int))=true∧SeqAt.shaped (.tuple (ns.map .int))=true:=by
  have h1:PyData.canLayAll0 (ns.map PyData.int)=true:=by
    induction ns with
    | nil=>rfl
    | cons n r ih=>simp [PyData.canLayAll0,PyData.canLay0,ih]
  have h2:PyData.depthAll (ns.map PyData.int)=0:=by
    clear h1
    induction ns with
    | nil=>rfl
    | cons n r ih=>simp [PyData.depthAll,PyData.depth,ih]
  constructor<;>simp [SeqAt.shaped,PyData.canLay0,PyData.depth,h1,h2]
theorem bo{own:gQ}{g:FG}{f:FS}(P:Nat→En→Prop):∀(items:List PyData) (k:Nat) (e:En),(∀i x e,items[i]?=some x→P (k+i) e→∃e1 e2,g x e=some e1∧f e1=some (.nx e2)∧keeps own e2∧P (k+i+1) e2)→P k e→∃e',ii own g f items e=some (.nx e')∧P (k+items.length) e'
  | [],k,e,_,h=>⟨e,rfl,h⟩
  | x::r,k,e,hs,h=>by
    obtain⟨e1,e2,h1,h2,h3,h4⟩:=hs 0 x e rfl h
    obtain⟨e',h5,h6⟩:=bo P r (k+1) e2 (fun i y e hy hp=>by
      have:=hs (i+1) y e (by simpa using hy) (by rw [show k+(i+1)=k+1+i by lia];exact hp)
      rw [show k+(i+1)+1=k+1+i+1 by lia] at this
      exact this) h4
    refine⟨e',?_,by rw [List.length_cons,show k+(r.length+1)=k+1+r.length by lia];exact h6⟩
    unfold ii
    simp only [h1,h2,Option.bind_some,if_pos h3]
    exact h5
theorem aT{e:En}:keeps [] e:=fun _ h=>by cases h
theorem bO{W:List Nat}{fi:FI}{g:FG}{f:FS}{e e1:En}{items:List PyData}(h:fi e=some (items,[],e1)):cN W fi g f e=ii [] g f items e1:=by
  unfold cN;rw [h];rfl
theorem a9{lo:Int}{n i:Nat}{x:PyData}(h:(aC lo n)[i]?=some x):x=.int (lo+i)∧i < n:=by
  unfold aC at h
  rw [List.getElem?_map] at h
  obtain⟨k,h1,rfl⟩:=Option.map_eq_some_iff.mp h
  obtain⟨h2,h3⟩:=List.getElem?_eq_some_iff.mp h1
  simp at h2 h3
  subst h3
  exact⟨rfl,h2⟩
theorem aX{lo:Int}{n:Nat}:(aC lo n).length=n:=by simp [aC]
theorem aW{fs:FA}{e e1:En}{n:Int}(h:fs e=some ([.d (.int n)],e1))(h1: -1000000≤n)(h2:n≤1000000):bA fs e=some (aC 0 n.toNat,[],e1):=by
  unfold bA;rw [h]
  have:ye n=true:=by unfold ye;rw [decide_eq_true h1,decide_eq_true h2];rfl
  simp [ck,this]
theorem gv{ft:FT}{f:FS}(P:En→Prop)(μ:En→Nat)(hs:∀e,P e→(∃e1,ft e=some (false,e1)∧True)∨∃e1 e2,ft e=some (true,e1)∧f e1=some (.nx e2)∧P e2∧μ e2 < μ e):
    ∀(n:Nat) (e:En),P e→μ e < n→∃e0 e',eR ft f n e=some (.nx e')∧P e0∧ft e0=some (false,e'):=by
  intro n
  induction n with
  | zero=>intro e _ h;lia
  | succ n ih=>
    intro e hp hm
    rcases hs e hp with ⟨e1,h1,_⟩ | ⟨e1,e2,h1,h2,h3,h4⟩
    · exact⟨e,e1,by unfold eR;rw [h1];rfl,hp,h1⟩
    · obtain⟨e0,e',g1,g2⟩:=ih e2 h3 (by lia)
      exact⟨e0,e',by unfold eR;rw [h1];simp only [Option.bind_some,if_true,h2];exact g1,g2⟩
theorem cQ{cs:En}{ft:FT}{fe:FE}{b:PyData→Bool}{y:PyData→PyData}:∀(items:List PyData) (t:Option Sv) (acc:List PyData),(∀x∈items,ft (cs++[some (.d x)])=some (b x,cs++[some (.d x)]))→(∀x∈items,b x=true→fe (cs++[some (.d x)])=some (.d (y x),cs++[some (.d x)]))→
    acc.length+items.length≤1000000→∃t',cH (ag cs.length) ft fe items (cs++[t]) acc=some (acc++(items.filter b).map y,cs++[t'])
  | [],t,acc,_,_,_=>⟨t,by simp [cH]⟩
  | x::r,t,acc,h1,h2,hl=>by
    have hg:ag cs.length x (cs++[t])=some (cs++[some (.d x)]):=by simp [ag]
    have h1x:=h1 x (by simp)
    unfold cH
    rw [hg]
    simp only [Option.bind_some,h1x]
    cases hb:b x with
    | true=>
      simp only [if_true,h2 x (by simp) hb,Option.bind_some,pe]
      rw [if_pos (by simp at hl;lia)]
      obtain⟨t',ih⟩:=cQ (b:=b) (y:=y) r (some (.d x)) (acc++[y x]) (fun z hz=>h1 z (by simp [hz])) (fun z hz=>h2 z (by simp [hz])) (by simp at hl ⊢;lia)
      exact⟨t',by rw [ih];simp [hb]⟩
    | false=>
      simp only [Bool.false_eq_true,if_false]
      obtain⟨t',ih⟩:=cQ (b:=b) (y:=y) r (some (.d x)) acc (fun z hz=>h1 z (by simp [hz])) (fun z hz=>h2 z (by simp [hz])) (by simp at hl;lia)
      exact⟨t',by rw [ih];simp [hb]⟩
theorem kY{fa:FE}{e e1:En}{xs:List PyData}(h:fa e=some (.d (.tuple xs),e1)):fq fa e=some (xs,[],e1):=by
  unfold fq;rw [h];rfl
theorem wN{fa:FE}{e e1:En}{xs:List PyData}(h:fa e=some (.l xs,e1)):fq fa e=some (xs,[],e1):=by
  unfold fq;rw [h];rfl
theorem cO{cp:List (Nat × Str)}{nT:Nat}{fi:FI}{g:FG}{ft:FT}{fe:FE}{e e1 cs:En}{t t':En}{items out:List PyData}(h1:fi e=some (items,[],e1))(hc:lJ cp nT e1=cs++t)(hl:cs.length=cp.length)(h3:cH g ft fe items (lJ cp nT e1) []=some (out,cs++t')):cD cp nT fi g ft fe e=some (.l out,e1):=by
  have key:∀i x,e1[i]?=some (some (.l x))→∀k,lc cp i=some k→(cs++t')[k]?=some (some (.l x)):=by
    intro i x hi k hk
    obtain⟨s,hs⟩:=dY hk
    have hk2:k < cp.length:=(List.getElem?_eq_some_iff.mp hs).1
    have:(lJ cp nT e1)[k]?=some (some (.l x)):=by
      unfold lJ
      rw [List.getElem?_append_left (by simpa using hk2),List.getElem?_map,hs]
      simp [hi,Eo]
    rw [hc,List.getElem?_append_left (by lia)] at this
    rw [List.getElem?_append_left (by lia)]
    exact this
  unfold cD
  rw [h1]
  simp only [Option.bind_some,List.all_nil,if_true,h3]
  have hb:kO cp (cs++t') e1=true:=by
    unfold kO
    rw [List.all_eq_true]
    intro p hp
    match hi:e1[p.1]? with
    | none=>simp [wQ]
    | some none=>simp [wQ]
    | some (some (.d x))=>simp [wQ]
    | some (some (.n x))=>simp [wQ]
    | some (some (.l x))=>
      cases hq:lc cp p.1 with
      | none=>
        unfold lc at hq
        rw [List.findIdx?_eq_none_iff] at hq
        have:=hq p hp
        simp at this
      | some k=>simp [key p.1 x hi k hq,wQ]
  rw [if_pos hb]
  congr 2
  refine List.ext_getElem? fun i=>?_
  rw [cv]
  match hi:e1[i]? with
  | none=>rfl
  | some none=>rfl
  | some (some (.d x))=>rfl
  | some (some (.n x))=>rfl
  | some (some (.l x))=>
    cases hp:lc cp i with
    | none=>simp [hp]
    | some k=>simp [hp,key i x hi k hp]
theorem mn{α:Type}{xs:List α}{i:Int}(h0:0≤i)(h1:i < xs.length):∃x∈xs,atI xs i=some x:=by
  rw [iN h0 h1]
  exact⟨xs[i.toNat]'(by lia),List.getElem_mem _,List.getElem?_eq_getElem _⟩
theorem wC{e:En}{xs:List PyData}{i:Int}:io e (.l xs) (.d (.int i))=(atI xs i).map .d:=rfl
theorem tS{e:En}{xs:List PyData}{i:Int}:io e (.d (.tuple xs)) (.d (.int i))=(atI xs i).map .d:=rfl
theorem wB{e:En}{xs:List PyData}{i:Int}:io e (.d (.list xs)) (.d (.int i))=(atI xs i).map .d:=rfl
theorem Bd{e:En}{j:Nat}{xs:List PyData}{i:Int}(h:e[j]?=some (some (.l xs))):io e (.s j) (.d (.int i))=(atI xs i).map .d:=by
  simp [io,cZ,h,ck]
theorem wG{e:En}{xs:List PyData}:g1 iI e [.d (.tuple xs)]=some (.d (.int xs.length)):=rfl
theorem tU{e:En}{xs:List PyData}:g1 iI e [.d (.list xs)]=some (.d (.int xs.length)):=rfl
theorem wD{e:En}{xs:List PyData}:g1 iI e [.l xs]=some (.d (.int xs.length)):=rfl
theorem wF{e:En}{j:Nat}{xs:List PyData}(h:e[j]?=some (some (.l xs))):g1 iI e [.s j]=some (.d (.int xs.length)):=by
  simp [g1,iI,cZ,h]
theorem qC{e:En}{j:Nat}{xs:List PyData}(h:e[j]?=some (some (.l xs))):g1 dr e [.s j]=some (.d (.tuple xs)):=by
  simp [g1,dr,cZ,h]
theorem qB{e:En}{xs:List PyData}:g1 dr e [.l xs]=some (.d (.tuple xs)):=rfl
theorem og{e:En}{xs:List PyData}:g1 dr e [.d (.list xs)]=some (.d (.tuple xs)):=rfl
theorem qD{e:En}{xs:List PyData}:g1 dr e [.d (.tuple xs)]=some (.d (.tuple xs)):=rfl
theorem Bf{e:En}{xs:List PyData}{lo hi:Option Int}:DH e (.d (.tuple xs)) lo hi=some (.d (.tuple (cutD xs lo hi))):=rfl
theorem ij{e:En}{xs ys:List PyData}(h:xs.length+ys.length≤1000000):bi e (.d (.tuple xs)) (.d (.tuple ys))=some (.d (.tuple (xs++ys))):=by
  simp [bi,vO,tM,gI,ck,nZ,cZ,h]
theorem B0{e:En}{i j:Int}(h:j≠0):aI e (.d (.int i)) (.d (.int j))=some (.d (.int (i.fmod j))):=by
  unfold aI;rw [kT (by simpa using h)]
theorem zc{e:En}{i j:Int}(h:j≠0)(h2:Bt 8000 j):eI e (.d (.int i)) (.d (.int j))=some (.d (.int (i.fdiv j))):=by
  unfold eI;rw [kT (by simp [jO.mpr h2,h])]
theorem j2{e:En}{i j:Int}(h:xO i j=true):rZ e (.d (.int i)) (.d (.int j))=some (.d (.int (i ^ j.toNat))):=by
  unfold rZ;rw [kT h]
theorem kf:xO 10 18=true:=by decide
theorem jo{f g:FS}{e e1:En}(h:f e=some (.nx e1)):aA f g e=g e1:=by unfold aA;rw [h];rfl
theorem Fe{ft:FT}{f g:FS}{e e1:En}(h:ft e=some (true,e1)):jt ft f g e=f e1:=by unfold jt;rw [h];rfl
theorem Fd{ft:FT}{f g:FS}{e e1:En}(h:ft e=some (false,e1)):jt ft f g e=g e1:=by unfold jt;rw [h];rfl
def Bi(i:Nat)(e:En):Nat:=match e[i]? with
  | some (some (.l xs))=>xs.length
  | _=>0
def xh(i:Nat)(e:En):Nat:=match e[i]? with
  | some (some (.d (.int k)))=>k.natAbs
  | _=>0
theorem j'{n m:Nat}(h:n < 2 ^ m)(hm:m≤4200):n < 2 ^ 4200:=Nat.lt_of_lt_of_le h (Nat.pow_le_pow_right (by decide) hm)
theorem oV{α:Type}{a:α}{r:List α}:atI (a::r) 0=some a:=by
  rw [iN (by decide) (by simp)];rfl
theorem rR{α:Type}{a b:α}{r:List α}:atI (a::b::r) 1=some b:=by
  rw [iN (by decide) (by simp;lia)];rfl
theorem vV{α:Type}{a b c:α}{r:List α}:atI (a::b::c::r) 2=some c:=by
  rw [iN (by decide) (by simp;lia)];rfl
theorem vX{α:Type}{a b c d:α}{r:List α}:atI (a::b::c::d::r) 3=some d:=by
  rw [iN (by decide) (by simp;lia)];rfl
theorem mr{ns:List Int}{k:Int}(h0:0≤k)(h1:k < (ns.length:Int)):atI (ns.map PyData.int) k=some (.int (ns.getD k.toNat 0)):=by
  rw [iN h0 (by rw [List.length_map];exact h1),List.getElem?_map]
  have:k.toNat < ns.length:=by lia
  simp [this]
theorem AX{a b c d:PyData}:cutD [a,b,c,d] none (some 2)=[a,b]:=rfl
theorem nV{a b c d:PyData}:cutD [a,b,c,d] (some 2) none=[c,d]:=rfl
theorem nU{a b c:PyData}:cutD [a,b,c] (some 1) none=[b,c]:=rfl
theorem qa(ns:List Int):PyData.canLayAll0 (ns.map PyData.int)=true:=by
  induction ns with
  | nil=>rfl
  | cons n r ih=>simp [PyData.canLayAll0,PyData.canLay0,ih]
theorem p8{x:Int}:∀(ns:List Int),((ns.map PyData.int).any fun y=>PyData.eqv y (.int x))=ns.contains x
  | []=>rfl
  | n::r=>by
    rw [List.map_cons,List.any_cons,p8 r,List.contains_cons]
    show(n==x || _)=_
    rw [show(n==x)=(x==n) by rw [Bool.eq_iff_iff];simp;exact eq_comm]
theorem jZ{e:En}{x:Int}{ns:List Int}{neg:Bool}:tR neg e (.d (.int x)) (.d (.tuple (ns.map .int)))=some (.d (.bool (if neg then !ns.contains x else ns.contains x))):=by
  unfold tR
  simp only [iF,cZ,Option.bind_some,qa,p8]
  simp [PyData.canLay0,PyData.depth]
theorem l8{e:En}{x a b:Int}{neg:Bool}:tR neg e (.d (.int x)) (.d (.tuple [.int a,.int b]))=some (.d (.bool (if neg then !(a==x || b==x) else(a==x || b==x)))):=by
  have h:=jZ (e:=e) (x:=x) (ns:=[a,b]) (neg:=neg)
  simp only [List.map_cons,List.map_nil] at h
  rw [h]
  have:[a,b].contains x=(a==x || b==x):=by
    simp only [List.contains_cons,List.contains_nil,Bool.or_false]
    rw [show(x==a)=(a==x) by rw [Bool.eq_iff_iff];simp;exact eq_comm,show(x==b)=(b==x) by rw [Bool.eq_iff_iff];simp;exact eq_comm]
  rw [this]
theorem iS(W:bj):aQ W=.tuple [.int W.things,.tuple (W.ties.map au),.tuple (W.pat.map .int),.int W.asks]:=rfl
end L2
namespace L2
open PySem PySem.Spec PyProof.Rows
theorem kd:∀(n:Nat) (l:List Int),l.Nodup→(∀k∈l,0≤k∧k < (n:Int))→l.length≤n
  | 0,l,_,h=>by
    cases l with
    | nil=>simp
    | cons a r=>have:=h a (by simp);lia
  | n+1,l,hd,h=>by
    have ih:=kd n (l.erase (n:Int)) (hd.erase _) fun k hk=>by
      obtain⟨h1,h2⟩:=hd.mem_erase_iff.mp hk
      have:=h k h2
      lia
    by_cases c:(n:Int)∈l
    · rw [List.length_erase_of_mem c] at ih;lia
    · rw [List.erase_of_not_mem c] at ih;lia
abbrev Std:=List Int × List Int
structure DR (W:bj) (s:Std):Prop where
  inw:∀k∈s.1,uG W k
  nd:s.1.Nodup
  tk:s.2.length≤2*s.1.length
  th:∀t∈s.2,0≤t∧t < W.things
def nxt(W:bj)(s:Std)(k:Int)(b:Bool):Std:=(bj.askd s.1 k,W.took s.2 k b)
structure Nd where
  tie:Int
  yes:Int
  no:Int
def DP(W:bj)(n:Nat)(S:Nat→Std)(i:Nat)(k:Int)(b:Bool)(l:Int):Prop:=l= -1∨(0≤l∧l < (n:Int)∧S l.toNat=nxt W (S i) k b)
structure Gd (W:bj) (n:Nat) (S:Nat→Std) (i:Nat) (x:Nd):Prop where
  tie:uG W x.tie
  st:DR W (S i)
  may:W.may (S i).1 (S i).2 x.tie=true
  yes:DP W n S i x.tie true x.yes
  no:DP W n S i x.tie false x.no
def Gf(W:bj)(T:List Nd)(S:Nat→Std):Prop:=∀(i:Nat) (x:Nd),T[i]?=some x→Gd W T.length S i x
structure Wt where
  st:Std
  par:Int
  side:Int
structure G' (W:bj) (T:List Nd) (S:Nat→Std) (ws:List Wt):Prop where
  tr:Gf W T S
  wt:∀w∈ws,DR W w.st∧(w.par= -1∨∃(p:Nat) (x:Nd),w.par=(p:Int)∧T[p]?=some x∧((w.side=0∧w.st=L2.nxt W (S p) x.tie true)∨(w.side=1∧w.st=L2.nxt W (S p) x.tie false)))
  side:∀w∈ws,w.side=0∨w.side=1
end L2
namespace L2
open PySem PySem.Spec PyProof.Rows
theorem oO{cp:List (Nat × Str)}{nT:Nat}{fi:FI}{g:FG}{ft:FT}{fe:FE}{e e1 cs:En}{t t':En}{items out:List PyData}{own:gQ}(h1:fi e=some (items,own,e1))(ho:(own.all fun q=> !(cp.any fun c=>c.1==q.1))=true)(hc:lJ cp nT e1=cs++t)(hl:cs.length=cp.length)(h3:cH g ft fe items (lJ cp nT e1) []=some (out,cs++t')):cD cp nT fi g ft fe e=some (.l out,e1):=by
  have key:=cO (cp:=cp) (nT:=nT) (fi:=fun _=>some (items,[],e1)) (g:=g) (ft:=ft) (fe:=fe) (e:=e) rfl hc hl h3
  unfold cD at key ⊢
  rw [h1]
  simp only [Option.bind_some,List.all_nil,if_true] at key
  simp only [Option.bind_some,ho,if_true]
  exact key
def nm(nums:List Int)(l:Int):Int:=(atI nums l).getD (-1)
structure GS (order:List Int) (n:Nat) (nums:List Int):Prop where
  len:nums.length=n+1
  top:nums[n]?=some (-1)
  at':∀(j:Nat) (v:Int),j < n→nums[j]?=some v→v= -1∨∃p:Nat,v=(p:Int)∧order[p]?=some (j:Int)
def xi(T:List Nd)(w:Int):Nd:=T.getD w.toNat ⟨0,0,0⟩
theorem g9{α β:Type}{f:α→β}:∀{xs:List α} {i:Nat},(xs.map f).eraseIdx i=(xs.eraseIdx i).map f
  | [],_=>by simp
  | x::r,0=>by simp
  | x::r,i+1=>by simp [g9 (xs:=r) (i:=i)]
end L2
namespace L2
open PySem PySem.Spec PyProof.Rows
structure Hi (S:Nat→Std) (n:Nat) (ss:List Std):Prop where
  len:ss.length=n
  at':∀(j:Nat) (s:Std),ss[j]?=some s→s.1.length≤(S j).1.length∧s.2.length≤2*s.1.length∧(∀k∈s.1,0≤k∧k < 16)∧∀t∈s.2,0≤t∧t < 12
end L2
namespace L2
open PySem PySem.Spec PyProof.Rows
structure Sz (n dep:Nat) (d:PyData):Prop where
  fl:Bc d=true
  sh:d.showable=true
  dp:d.depth≤dep
  ln:d.shown.length≤n
  so:PyData.strOk d.shown=true
theorem zb{e:En}{s:Str}(h:PyData.strOk s=true):cE false e (.d (.str s)) (.d (.str s))=some (.d (.bool true)):=by
  simp [cE,iF,SeqAt.shaped,PyData.canLay0,PyData.depth,PyData.eqv,h]
end L2
namespace L2
open PySem PySem.Spec PyProof.Rows
theorem za{e:En}{i:Nat}{xs ys:List PyData}(h:e[i]?=some (some (.l xs)))(hl:xs.length+ys.length≤1000000):bi e (.s i) (.l ys)=some (.l (xs++ys)):=by
  simp [bi,vO,tM,gI,ck,nZ,cZ,qp,sd,h,hl]
theorem tO{e:En}{xs ys:List PyData}(hl:xs.length+ys.length≤1000000):bi e (.l xs) (.l ys)=some (.l (xs++ys)):=by
  simp [bi,vO,tM,gI,ck,nZ,cZ,qp,sd,hl]
theorem B2{e:En}{d:PyData}{n:Int}(h0:0≤n)(h1:n≤100000):jA e (.d (.tuple [d])) (.d (.int n))=some (.d (.tuple (List.replicate n.toNat d))):=by
  have a:qA e (.d (.tuple [d])) (.d (.int n))=some (.d (.tuple (List.replicate n.toNat d))):=by
    simp [qA,cZ,ck,h0,h1]
  have b:qu e (.d (.tuple [d])) (.d (.int n))=none:=by simp [qu,gI,ck]
  unfold jA vO
  rw [b,a]
  rfl
theorem yY{xs:List PyData}:cutD xs none (some 1)=xs.take 1:=by
  unfold cutD
  rw [HT.sIx_none,show(some (1:Int))=some ((1:Nat):Int) from rfl,HT.sIx_nat,List.drop_zero,Nat.sub_zero]
  cases xs with
  | nil=>rfl
  | cons x r=>simp
def rn(T:List Nd)(ans:List Bool):Nat→Int→List (Int × Bool)
  | 0,_=>[]
  | f+1,at'=>if at' < 0 then [] else((xi T at').tie,ans.getD (xi T at').tie.toNat false)::rn T ans f (if ans.getD (xi T at').tie.toNat false=true then(xi T at').yes else(xi T at').no)
def rt(T:List Nd):Int:=if T.length=0 then -1 else 0
structure GV (W:bj) (T:List Nd) (S:Nat→Std) (ans:List Bool) (r:List (Int × Bool)) (a:Int):Prop where
  at':a= -1∨(0≤a∧a < (T.length:Int)∧r.length≤(S a.toNat).1.length)
  eq:r++rn T ans (17 - r.length) a=rn T ans 17 (rt T)
  len:r.length≤16
  inw:∀p∈r,uG W p.1
end L2
namespace L2
open PySem PySem.Spec PyProof.Rows
abbrev Fr:=Int × Int
def dF(f:Fr):PyData:=.tuple [.int f.1,.int f.2]
def tm(a b:Fr):Fr:=eO (a.1*b.1) (a.2*b.2)
def pl(a b:Fr):Fr:=eO (a.1*b.2+b.1*a.2) (a.2*b.2)
structure Hf (M:Int) (f:Fr):Prop where
  pos:0 < f.2
  lo:0≤f.1
  hi:f.1≤f.2
  dv:f.2 ∣ M
structure FN (M i:Int) (f:Fr):Prop where
  pos:0 < f.2
  lo:0≤f.1
  hi:f.1≤i*f.2
  dv:f.2 ∣ M
def bp(W:bj):List Int→Int
  | []=>1
  | k::r=>(W.tie k).bot*bp W r
def D4(W:bj):Int:=bp W W.rng
def ch(W:bj)(k:Int)(b:Bool):Fr:=if b then((W.tie k).top,(W.tie k).bot) else((W.tie k).bot - (W.tie k).top,(W.tie k).bot)
structure Hh (W:bj) (S:Nat→Std) (n:Nat) (rs:List Fr):Prop where
  len:rs.length=n
  at':∀(j:Nat) (f:Fr),rs[j]?=some f→Hf (bp W (S j).1) f
structure Hb (W:bj) (i:Nat) (ss:List Fr):Prop where
  len:ss.length=W.ties.length
  at':∀(j:Nat) (f:Fr),ss[j]?=some f→FN (D4 W) (i:Int) f
def FD(l:Int)(f:Fr):PyData:=.tuple [.int l,dF f]
def Hw(W:bj)(x:Nd):List PyData:=(if x.yes= -1 then [] else [FD x.yes (ch W x.tie true)])++(if x.no= -1 then [] else [FD x.no (ch W x.tie false)])
end L2
namespace L2
open PySem PySem.Spec PyProof.Rows
def Dz(sc:Scope)(x:Str):Bool:=match sc.names.lookup x with
  | some .local=>true
  | some .cell=>true
  | some .free=>true
  | _=>false
theorem AJ{sc:Scope}{x:Str}(h:Dz sc x=true):DG sc x:=by
  unfold Dz at h
  unfold DG
  split at h
  · rename_i e;exact .inl e
  · rename_i e;exact .inr (.inl e)
  · rename_i e;exact .inr (.inr e)
  · cases h
section
variable{X:Cx}{K:PySem.W.Frag}
theorem qw(i:Nat){x:Str}{pos:Pos}(hN:X.N[i]?=some x)(hv:Dz X.env.scope x=true)(hd:((x==("__debug__":Str)) || (x==("__classdict__":Str)))=false):PE X (.Name x pos) (fE K (ae i)):=qv i hN (AJ hv) (Bool.or_eq_false_iff.mp hd).1 (Bool.or_eq_false_iff.mp hd).2
end
end L2
namespace L2
open PySem PySem.Spec PyProof.Rows
section
variable{X:Cx}{tg a b c:Expr}{ta:TA}{p pos p2 pos2:Pos}
end
section
variable{K:PySem.W.Frag}{σ:L2.St}
end
section
variable{X:Cx}{K:PySem.W.Frag}{tg a b c:Expr}{fs:FA}{pos p p2 pos2:Pos}
end
end L2
namespace L2
open PySem PySem.Spec PyProof.Rows
end L2
namespace L2
open PySem PySem.Spec PyProof.Rows
section
variable(P:Program)(w:World)
end
section
variable{P:Program}{w:World}{H H':Hp}{h h':Heap}{a:Addr}{o:HO}
end
section
variable{P:Program}{w:World}{H:Hp}{h h':Heap}{x e:Addr}{o':HO}
end
section
variable{fs fs' ex ex':List Addr}{H H1 H2:Hp}{h h1 h2 h':Heap}{a x e:Addr}{o:HO}
end
end L2
namespace L2
open PySem PySem.Spec PyProof.Rows
section
variable{X:Cx}{pins:List (Addr × Obj)}{σ:List (Option V)}{H H':Hp}{s:Shared}{h':Heap}
end
end L2
namespace L2
open PySem PySem.Spec PyProof.Rows
section
variable{X:Cx}
variable{a b:Expr}{ta tb:TE}{pos:Pos}
variable{tA tB':TT}{d_:List Expr}
end
end L2
namespace L2
open PySem PySem.Spec PyProof.Rows
section
variable{X:Cx}{pins:List (Addr × Obj)}{σ:St}{H:Hp}{s:Shared}{a:Addr}{xs ys:List V}
end
section
variable{X:Cx}{pins:List (Addr × Obj)}{σ:St}{H:Hp}{s:Shared}{E:Value→Shared→Prop}
end
section
variable{X:Cx}{st:Stmt}{d_:List Stmt}{t u:TS}{e:Expr}{te:TE}{pos:Pos}
end
section
variable{X:Cx}{pos:Pos}
end
section
variable{X:Cx}{pos:Pos}
end
end L2
namespace L2
open PySem PySem.Spec PyProof.Rows
section
variable{X:Cx}{tg:Expr}
end
end L2
namespace L2
open PySem PySem.Spec PyProof.Rows
section
variable{X:Cx}{a b c:Expr}{ta tb tc:TE}{pos:Pos}
end
section
variable{X:Cx}{a b c:Expr}{ta tb tc:TE}{pos:Pos}
end
end L2
namespace L2
open PySem PySem.Spec PyProof.Rows
section
variable{prog:Program}{w:World}{A:Around}{E:Value→Shared→Prop}{s:Shared}{K:PySem.W.Frag}{x dx C f:Addr}{mA:Str→Option Value}{name:Str}{v:Value}
end
section
variable{P:Program}{w:World}{H H':Hp}{h h':Heap}{a C dx:Addr}{fs fs':List (Str × V)}
end
section
variable{X:Cx}{pins:List (Addr × Obj)}{σ:St}{H:Hp}{s:Shared}{a C dx:Addr}{fs:List (Str × V)}{f:Str}{v:V}{A:Around}{E:Value→Shared→Prop}
end
section
variable{X:Cx}{o e value:Expr}{f:Str}{pos pos' tpos:Pos}{ta tv:TE}
end
section
variable{X:Cx}{pins:List (Addr × Obj)}{σ:St}{H:Hp}{s:Shared}{A:Around}{E:Value→Shared→Prop}{Q:Value→Shared→Prop}{c:Value}{b:Bool}
end
end L2
namespace L2
open PySem PySem.Spec PyProof.Rows
section
variable{X:Cx}{e:Expr}{es:List Expr}{te:TE}{t:TA}{pos:Pos}
end
section
variable{X:Cx}{pins:List (Addr × Obj)}{σ:St}{H:Hp}{s s':Shared}
end
section
variable{X:Cx}{CX:uE}{k:Nat}{f C:Addr}{fd:FuncData}{ps:List Str}{sp:Sp}{dvs:List V}{ds:List Value}{E:XK}{x m:Str}{p pos apos:Pos}{e o:Expr}{es:List Expr}{ta:TE}{t:TA}
end
section
variable{X:Cx}{CX:uE}{k:Nat}{f C:Addr}{fd:FuncData}{ps ks:List Str}{sp:Sp}{E:XK}{x m:Str}{p pos apos kpos:Pos}{e o:Expr}{es:List Expr}{kws:List Keyword}{te ta:TE}{t tk:TA}{nm:Option Str}
variable{g:List Value→List Value→List Value}{gV:List V→List V→List V}
end
end L2
namespace L2
open PySem PySem.Spec PyProof.Rows
section
variable{X:Cx}{x:Str}{p pos:Pos}{e:Expr}{es:List Expr}{t:TA}{id T:String}{r:List V→Hp→VK→Prop}
end
end L2
namespace L2
open PySem PySem.Spec PyProof.Rows
section
variable{κ:Type}[DecidableEq κ]
def ly(kvs:List (κ × V))(k:κ):Option V:=(kvs.find? fun kv=>decide (kv.1=k)).map (·.2)
def kh(kvs:List (κ × V))(k:κ)(v:V):List (κ × V):=
  if (kvs.any fun kv=>decide (kv.1=k))=true then kvs.map (fun kv=>if kv.1=k then(kv.1,v) else kv) else kvs++[(k,v)]
theorem jb{p:κ × V}{r:List (κ × V)}{k:κ}(e:p.1=k):ly (p::r) k=some p.2:=by simp [ly,List.find?_cons,e]
theorem ja{p:κ × V}{r:List (κ × V)}{k:κ}(e:¬p.1=k):ly (p::r) k=ly r k:=by simp [ly,List.find?_cons,e]
theorem rL(k:κ):∀kvs:List (κ × V),(kvs.any fun kv=>decide (kv.1=k))=(ly kvs k).isSome
  | []=>rfl
  | p::r=>by
    rw [List.any_cons]
    by_cases e:p.1=k
    · simp only [jb e,decide_eq_true e,Bool.true_or,Option.isSome_some]
    · rw [ja e,decide_eq_false e,Bool.false_or];exact rL k r
theorem lK(kvs:List (κ × V))(k:κ)(v:V):(kh kvs k v).length≤kvs.length+1:=by
  unfold kh
  split
  · rw [List.length_map];lia
  · rw [List.length_append,List.length_cons,List.length_nil];lia
theorem nh.isSome_eq{o:Option V}{u:Option Value}(r:nh o u):o.isSome=u.isSome:=by
  cases o with
  | none=>cases u with
    | none=>rfl
    | some _=>exact(show False from r).elim
  | some _=>cases u with
    | none=>exact(show False from r).elim
    | some _=>rfl
theorem KV.val{kvs:List (κ × V)}{vs:List (κ × Value)}(r:KV kvs vs)(k:κ):nh (ly kvs k) (valueAt vs k):=by
  unfold KV at r
  induction r with
  | nil=>exact True.intro
  | @cons p q ps qs h t ih=>
    obtain⟨h1,h2⟩:=h
    by_cases e:p.1=k
    · have e':q.1=k:=h1.symm.trans e
      have b:valueAt (q::qs) k=some q.2:=by simp [valueAt,List.find?_cons,e']
      rw [jb e,b];exact h2
    · have e':¬q.1=k:=fun z=>e (h1.trans z)
      have b:valueAt (q::qs) k=valueAt qs k:=by simp [valueAt,List.find?_cons,e']
      rw [ja e,b];exact ih
theorem KV.any{kvs:List (κ × V)}{vs:List (κ × Value)}(r:KV kvs vs)(k:κ):(kvs.any fun kv=>decide (kv.1=k))=vs.any fun kv=>decide (kv.1=k):=by
  unfold KV at r
  induction r with
  | nil=>rfl
  | cons h t ih=>rw [List.any_cons,List.any_cons,ih,h.1]
theorem KV.repl{kvs:List (κ × V)}{vs:List (κ × Value)}(r:KV kvs vs)(k:κ){y:V}{u:Value}(ry:a_ y u):
    KV (kvs.map fun kv=>if kv.1=k then(kv.1,y) else kv) (vs.map fun kv=>if kv.1=k then(kv.1,u) else kv):=by
  unfold KV at r ⊢
  induction r with
  | nil=>exact .nil
  | @cons p q ps qs h t ih=>
    rw [List.map_cons,List.map_cons]
    refine .cons ?_ ih
    obtain⟨h1,h2⟩:=h
    by_cases e:p.1=k
    · rw [if_pos e,if_pos (h1.symm.trans e)];exact⟨h1,ry⟩
    · rw [if_neg e,if_neg (fun z=>e (h1.trans z))];exact⟨h1,h2⟩
theorem KV.put{kvs:List (κ × V)}{vs:List (κ × Value)}(r:KV kvs vs)(k:κ){y:V}{u:Value}(ry:a_ y u):KV (kh kvs k y) (stored vs k u):=by
  unfold kh stored
  rw [r.any k]
  by_cases e:(vs.any fun kv=>decide (kv.1=k))=true
  · rw [if_pos e,if_pos e];exact r.repl k ry
  · rw [if_neg e,if_neg e];exact Paired.snoc r ⟨rfl,ry⟩
theorem KV.length{kvs:List (κ × V)}{vs:List (κ × Value)}(r:KV kvs vs):kvs.length=vs.length:=Paired.length r
end
theorem t_{P:Program}{w:World}{k:en}{u:Value}(r:a_ (kV k) u):(cT P w).is k u=true:=by
  cases k with
  | inl i=>obtain⟨t,e⟩:=(show ∃t,u=Value.int i t from r);subst e;exact qH P w i t
  | inr x=>obtain⟨t,e⟩:=(show ∃t,u=Value.str x t from r);subst e;exact qI P w x t
theorem om{P:Program}{w:World}:∀{ks:List en} {us:List Value},aH (ks.map kV) us→ItemsAre (cT P w) ks us
  | [],_,r=>by rw [List.map_nil] at r;cases r;exact .nil
  | k::ks,_,r=>by
    rw [List.map_cons] at r
    cases r with
    | cons h t=>exact .cons (t_ h) (om t)
abbrev KT(H:Hp):List (List en × V)→List (List en × Addr × Value)→Prop:=Paired fun p q=>p.1=q.1∧H q.2.1=some (.tup (p.1.map kV))∧a_ p.2 q.2.2
theorem KT.val{H:Hp}{kvs:List (List en × V)}{xs:List (List en × Addr × Value)}(r:KT H kvs xs)(k:List en):nh (ly kvs k) ((atKey xs k).map (·.2)):=by
  induction r with
  | nil=>exact True.intro
  | @cons p q ps qs h t ih=>
    obtain⟨h1,_,h2⟩:=h
    by_cases e:p.1=k
    · have e':q.1=k:=h1.symm.trans e
      have b:atKey (q::qs) k=some q.2:=by simp [atKey,List.find?_cons,e']
      rw [jb e,b];exact h2
    · have e':¬q.1=k:=fun z=>e (h1.trans z)
      have b:atKey (q::qs) k=atKey qs k:=by simp [atKey,List.find?_cons,e']
      rw [ja e,b];exact ih
theorem KT.repl{H:Hp}{kvs:List (List en × V)}{xs:List (List en × Addr × Value)}(r:KT H kvs xs)(k:List en){y:V}{u:Value}(ry:a_ y u):
    KT H (kvs.map fun kv=>if kv.1=k then(kv.1,y) else kv) (xs.map (putAt k u)):=by
  induction r with
  | nil=>exact .nil
  | @cons p q ps qs h t ih=>
    rw [List.map_cons,List.map_cons]
    refine .cons ?_ ih
    obtain⟨h1,h2,h3⟩:=h
    unfold putAt
    by_cases e:p.1=k
    · rw [if_pos e,if_pos (h1.symm.trans e)];exact⟨h1,h2,ry⟩
    · rw [if_neg e,if_neg (fun z=>e (h1.trans z))];exact⟨h1,h2,h3⟩
theorem KT.put{H:Hp}{kvs:List (List en × V)}{xs:List (List en × Addr × Value)}(r:KT H kvs xs)(k:List en){b:Addr}{y:V}{u:Value}(hb:H b=some (.tup (k.map kV)))(ry:a_ y u):
    KT H (kh kvs k y) (storedH xs k b u):=by
  have e:(kvs.any fun kv=>decide (kv.1=k))=(atKey xs k).isSome:=by
    rw [rL,(r.val k).isSome_eq,Option.isSome_map]
  unfold kh storedH
  rw [e]
  by_cases q:(atKey xs k).isSome=true
  · rw [if_pos q,if_pos q];exact r.repl k ry
  · rw [if_neg q,if_neg q];exact Paired.snoc r ⟨rfl,hb,ry⟩
theorem KT.keeps{H H':Hp}{kvs:List (List en × V)}{xs:List (List en × Addr × Value)}(r:KT H kvs xs)(ht:∀b ys,H b=some (.tup ys)→H' b=some (.tup ys)):KT H' kvs xs:=
  Paired.mapP r fun _ _ z=>⟨z.1,ht _ _ z.2.1,z.2.2⟩
section
variable{P:Program}{w:World}{H:Hp}{h:Heap}{a:Addr}
theorem Bs{u:HO}(ok:jL P w H h)(e:Rd H a u):cG P w H h a u:=e.ok ok
theorem tH{kvs:List (en × V)}(ok:jL P w H h)(e:Rd H a (.dK kvs)):kvs.length≤sizeLine∧(a==sysModules)=false∧∃vs,KV kvs vs∧h.DictOf (cT P w) a vs:=
  show cG P w H h a (.dK kvs) from Bs ok e
theorem D9{kvs:List (en × V)}(ok:jL P w H h)(e:H a=some (.dK kvs)):kvs.length≤sizeLine∧(a==sysModules)=false∧∃vs,KV kvs vs∧h.DictOf (cT P w) a vs:=tH ok (.inl e)
theorem pE{ks:List en}(ok:jL P w H h)(e:H a=some (.tup (ks.map kV))):(tupleKind (cT P w)).is h ks a:=by
  obtain⟨_,its,r,o,h1,h2,n,h3,_⟩:=(show cG P w H h a (.tup (ks.map kV)) from ok a _ e)
  exact⟨o,its.toArray,n,h1,h2,h3,by simpa using om r⟩
theorem tJ{kvs:List (List en × V)}(ok:jL P w H h)(e:Rd H a (.dT kvs)):kvs.length≤sizeLine∧(a==sysModules)=false∧
    ∃xs,KT H kvs xs∧h.DictOfH (tupleKind (cT P w)) a xs:=by
  obtain⟨z,y,xs,r,o,es,ep,h1,h2,h3,h4,h5⟩:=(show cG P w H h a (.dT kvs) from Bs ok e)
  refine⟨z,y,xs,r,o,es,ep,h1,h2,h3,h4,fun x hx=>?_,h5⟩
  have all:∀{l:List (List en × V)} {m:List (List en × Addr × Value)},KT H l m→∀x∈m,(tupleKind (cT P w)).is h x.1 x.2.1:=by
    intro l m q
    induction q with
    | nil=>intro x hx;exact nomatch hx
    | @cons p q ps qs hq t ih=>
      intro x hx
      rcases List.mem_cons.mp hx with e | hx
      · subst e
        exact pE ok (by rw [←hq.1];exact hq.2.1)
      · exact ih x hx
  exact all r x hx
theorem D_{kvs:List (List en × V)}(ok:jL P w H h)(e:H a=some (.dT kvs)):kvs.length≤sizeLine∧(a==sysModules)=false∧
    ∃xs,KT H kvs xs∧h.DictOfH (tupleKind (cT P w)) a xs:=tJ ok (.inl e)
end
def ng(H:Hp)(a:Addr)(y:V)(r:Option V):Prop:=
  (∃kvs k,Rd H a (.dK kvs)∧y=kV k∧r=ly kvs k)∨∃kvs k b,Rd H a (.dT kvs)∧y=.ref b∧H b=some (.tup (k.map kV))∧r=ly kvs k
def vP(H:Hp)(a:Addr)(y v:V)(H':Hp):Prop:=
  (∃kvs k,H a=some (.dK kvs)∧y=kV k∧kvs.length < sizeLine∧H'=aV H a (.dK (kh kvs k v)))∨
  ∃kvs k b,H a=some (.dT kvs)∧y=.ref b∧H b=some (.tup (k.map kV))∧kvs.length < sizeLine∧H'=aV H a (.dT (kh kvs k v))
theorem ng.k{H:Hp}{a:Addr}{kvs:List (en × V)}{k:en}(e:H a=some (.dK kvs)):ng H a (kV k) (ly kvs k):=.inl ⟨kvs,k,.inl e,rfl,rfl⟩
theorem vP.k{H:Hp}{a:Addr}{kvs:List (en × V)}{k:en}{v:V}(e:H a=some (.dK kvs))(hl:kvs.length < sizeLine):vP H a (kV k) v (aV H a (.dK (kh kvs k v))):=.inl ⟨kvs,k,e,rfl,hl,rfl⟩
section
variable{X:Cx}{pins:List (Addr × Obj)}{σ:St}{H:Hp}{s:Shared}{a:Addr}{y v:V}{u r:Value}{o:Option V}{A:Around}{E:Value→Shared→Prop}
theorem ay.big(I:ay X pins σ H s):sysModules < s.heap.objs.size:=by
  have h:mainGlobals < s.heap.objs.size:=(I.mod.glob.keeps I.bk).lt
  exact Nat.lt_trans (by decide) h
theorem uM{Q:Value→Shared→Prop}(hu:A.units+1 < cLine)(I:ay X pins σ H s)(g:ng H a y (some v))(ry:a_ y u)(h:∀w' s',ay X pins σ H s'→a_ v w'→Q w' s'):
    wpAny (model X.prog X.w) A (getItem (.ref a) u) Q E s:=by
  rcases g with ⟨kvs,k,e,ey,l⟩ | ⟨kvs,k,b,e,ey,eb,l⟩
  · subst ey
    obtain⟨z,hd,vs,rel,dd⟩:=tH I.hok e
    obtain⟨w',hw,rw'⟩:=nh.some_of (v:=v) (o:=valueAt vs k) (by rw [l];exact rel.val k)
    exact wpAny_getItem_of (t_ ry) dd.mapOf hw (h w' _ (I.tok _) rw')
  · subst ey
    cases (show u=Value.ref b from ry)
    obtain⟨z,hd,xs,rel,dd⟩:=tJ I.hok e
    obtain⟨w',hw,rw'⟩:=nh.some_of (v:=v) (o:=(atKey xs k).map (·.2)) (by rw [l];exact rel.val k)
    obtain⟨p,hp,hp2⟩:=Option.map_eq_some_iff.mp hw
    refine wpAny_getItem_heap (tupleKind_room_in1 hu) (pE I.hok eb) dd hp ?_
    rw [hp2]
    exact h w' _ (I.tok _) rw'
theorem yZ{Q:Value→Shared→Prop}(hu:A.units+1 < cLine)(I:ay X pins σ H s)(g:ng H a y o)(ry:a_ y u)(h:∀s',ay X pins σ H s'→Q (.bool (!o.isSome)) s'):
    wpAny (model X.prog X.w) A (compareOp .NotIn u (.ref a)) Q E s:=by
  rcases g with ⟨kvs,k,e,ey,l⟩ | ⟨kvs,k,b,e,ey,eb,l⟩
  · subst ey
    obtain⟨z,hd,vs,rel,dd⟩:=tH I.hok e
    refine wpAny_notIn_of (t_ ry) hd dd.mapOf ?_
    rw [←(rel.val k).isSome_eq,←l]
    exact h _ (I.tok _)
  · subst ey
    cases (show u=Value.ref b from ry)
    obtain⟨z,hd,xs,rel,dd⟩:=tJ I.hok e
    refine wpAny_notIn_heap (tupleKind_room_in1 hu) (pE I.hok eb) hd dd ?_
    have q:=(rel.val k).isSome_eq
    rw [Option.isSome_map] at q
    rw [←q,←l]
    exact h _ (I.tok _)
theorem tG{h':Heap}{t':Nat}{ob:HO}(I:ay X pins σ H s)(mu:DQ (H a))(hs:Heap.SameBut a s.heap h')(he:∃q,h'.get? a=some q)(new:cG X.prog X.w (aV H a ob) h' a ob):
    ay X pins σ (aV H a ob) {s with heap:=h',toks:=t'}:=
  I.write (x:=a) (e:=a) mu (.inl rfl) (fun b q hb z=>(hs.2 b hb).trans z) he new
theorem BS{P:Program}{w:World}{H':Hp}{h':Heap}{kvs:List (en × V)}{vs:List (en × Value)}(z:kvs.length≤sizeLine)(hd:(a==sysModules)=false)(rel:KV kvs vs)(dd:h'.DictOf (cT P w) a vs):
    cG P w H' h' a (.dK kvs):=⟨z,hd,vs,rel,dd⟩
theorem uO{H':Hp}{Q:Unit→Shared→Prop}(hu:A.units+1 < cLine)(I:ay X pins σ H s)(g:vP H a y v H')(ry:a_ y u)(rv:a_ v r)(h:∀s',ay X pins σ H' s'→Q () s'):
    wpAny (model X.prog X.w) A (setItem (.ref a) u r) Q E s:=by
  rcases g with ⟨kvs,k,e,ey,l,eH⟩ | ⟨kvs,k,b,e,ey,eb,l,eH⟩
  · subst ey eH
    obtain⟨z,hd,vs,rel,dd⟩:=D9 I.hok e
    have hz:vs.length≤sizeLine:=by rw [←rel.length];exact z
    have hl:(kh kvs k v).length≤sizeLine:=by have:=lK kvs k v;lia
    refine wpAny_setItem_pairs (hsz:=hz) (t_ ry) dd fun h' dd' hs=>h _ ?_
    have he:∃q,h'.get? a=some q:=let ⟨q,_,_,hq,_⟩:=dd';⟨q,hq⟩
    exact tG I (by rw [e];exact True.intro) hs he (BS hl hd (rel.put k rv) dd')
  · subst ey eH
    cases (show u=Value.ref b from ry)
    obtain⟨z,hd,xs,rel,dd⟩:=D_ I.hok e
    have hz:xs.length≤sizeLine:=by rw [←Paired.length rel];exact z
    have hl:(kh kvs k v).length≤sizeLine:=by have:=lK kvs k v;lia
    refine wpAny_setItem_heap (hsz:=hz) (tupleKind_room_in1 hu) (pE I.hok eb) dd fun h' dd' hs=>h _ ?_
    obtain⟨q,es,ep,hq,h2,h3,h4,_,h5⟩:=dd'
    refine tG I (by rw [e];exact True.intro) hs ⟨q,hq⟩ ⟨hl,hd,_,(rel.put k eb rv).keeps fun c ys ec=>?_,q,es,ep,hq,h2,h3,h4,h5⟩
    rw [aB (Eu ec e (fun z=>nomatch z))]
    exact ec
end
section
variable{X:Cx}{pins:List (Addr × Obj)}{σ:St}{H:Hp}{s:Shared}{a:Addr}{kvs:List (en × V)}{k:en}{u:Value}{A:Around}{E:Value→Shared→Prop}
end
def BH(i:Expr):Prop:=∀ov iv,subscripted i false ov iv=operate [ov,iv] (getItem ov iv)
theorem Aw{prog:Program}{w:World}{A:Around}{E:Value→Shared→Prop}{s:Shared}{env:Env}{value slice:Expr}{pos:Pos}{T id:String}{Q:Value→Shared→Prop}
    (hl:typeLookup (.type T) "__getitem__"=pure (some (.builtin id)))(hs:BH slice)
    (h:wpAny (model prog w) A (eval value env) (fun o s₁=>wpAny (model prog w) A (eval slice env) (fun i s₂=>s₂.TypeIs o T∧wpAny (model prog w) A (getItem o i) Q E s₂) E s₁) E s):
    wpAny (model prog w) A (eval (.Subscript value slice pos) env) Q E s:=by
  refine Subscript_ (wpAny_mono h (fun o s₁ h₁=>wpAny_mono h₁ (fun i s₂ h₂=>?_) fun _ _ x=>x) fun _ _ x=>x)
  obtain⟨hT,h₂⟩:=h₂
  unfold subscriptTail
  refine wpAny_bind ?_
  rw [getitemInPython_of_ne hT.not_modules]
  refine wpAny_bind (wpAny_specialOf hT hl ?_)
  have fin:wpAny (model prog w) A (subscripted slice false o i) (fun r s₃=>wpAny (model prog w) A (letTemporaryGo value o r >>= fun _=>pure r) Q E s₃) E s₂:=by
    rw [hs o i]
    exact wpAny_operating (wpAny_mono h₂ (fun r s₃ h₃=>wpAny_bind (wpAny_letTemporaryGo (wpAny_pure h₃))) fun _ _ x=>x)
  first
    | exact wpAny_pure (wpAny_bind fin)
    | exact wpAny_bind (wpAny_pure (wpAny_bind fin))
    | exact wpAny_bind fin
theorem qf{X:Cx}{pins:List (Addr × Obj)}{σ:St}{H:Hp}{s:Shared}{a:Addr}{y:V}{o:Option V}(I:ay X pins σ H s)(g:ng H a y o):s.TypeIs (.ref a) "dict":=by
  rcases g with ⟨kvs,k,e,_,_⟩ | ⟨kvs,k,b,e,_,_,_⟩
  · obtain⟨_,_,vs,_,dd⟩:=tH I.hok e
    exact dd.typeIs
  · obtain⟨_,_,xs,_,dd⟩:=tJ I.hok e
    exact dd.typeIs
def Fk(td ty:TE):TE:=fun σ H Q=>td σ H fun x H1=>ty σ H1 fun y H2=>∃a v,x=.ref a∧ng H2 a y (some v)∧Q v H2
def Ax(ty td:TE):TE:=fun σ H Q=>ty σ H fun y H1=>td σ H1 fun x H2=>∃a o,x=.ref a∧ng H2 a y o∧Q (.bl (!o.isSome)) H2
def Fc(td ty tv:TE):TS:=fun D σ H=>tv σ H fun v H1=>td σ H1 fun x H2=>ty σ H2 fun y H3=>∃a H4,x=.ref a∧vP H3 a y v H4∧D.nx σ H4
section
variable{X:Cx}{o i e value:Expr}{pos pos' tpos:Pos}{td ty tv:TE}
theorem zO(hu:X.A.units+1 < cLine)(ho:PE X o td)(hi:PE X i ty)(hs:BH i):PE X (.Subscript o i pos) (Fk td ty):=by
  intro pins s σ H Q I h
  refine Aw PySem.F.slot_dict_getitem.lookup hs (bG (ho pins s σ H _ I h) fun u s1 ⟨x,H1,I1,rx,q1⟩=>bG (hi pins s1 σ H1 _ I1 q1) fun iv s2 ⟨y,H2,I2,ry,a,v,ex,g,q2⟩=>?_)
  subst ex
  obtain rfl:u=Value.ref a:=rx
  exact⟨qf I2 g,uM hu I2 g ry fun w' s3 I3 rw'=>⟨v,H2,I3,rw',q2⟩⟩
theorem ve(hu:X.A.units+1 < cLine)(hi:PE X i ty)(ho:PE X o td):PC X .NotIn i o (Ax ty td):=by
  intro pins s σ H Q I h
  refine bG (hi pins s σ H _ I h) fun iv s1 ⟨y,H1,I1,ry,q1⟩=>bG (ho pins s1 σ H1 _ I1 q1) fun u s2 ⟨x,H2,I2,rx,a,ov,ex,g,q2⟩=>?_
  subst ex
  obtain rfl:u=Value.ref a:=rx
  exact yZ hu I2 g ry fun s3 I3=>⟨.bl (!ov.isSome),H2,I3,rfl,q2⟩
theorem zZ(hu:X.A.units+1 < cLine)(ho:PE X o td)(hi:PE X i ty)(hv:PE X value tv)(hs:swapsWith value (some (.Subscript o i pos')) pos.line X.env=pure false):
    PS X (.Assign [.Subscript o i pos'] value pos) (Fc td ty tv):=by
  intro pins s σ H D I h
  refine wpAny_Assign_Subscript (bG (hv pins s σ H _ I h) fun r s1 ⟨v,H1,I1,rv,q1⟩=>bG (ho pins s1 σ H1 _ I1 q1) fun u s2 ⟨x,H2,I2,rx,q2⟩=>bG (hi pins s2 σ H2 _ I2 q2) fun iv s3 ⟨y,H3,I3,ry,a,H4,ex,g,q3⟩=>?_) hs
  subst ex
  obtain rfl:u=Value.ref a:=rx
  exact uO hu I3 g ry rv fun s4 I4=>⟨σ,H4,I4,q3⟩
end
theorem wn{P:Program}{w:World}{H:Hp}(h:Heap)(hb:sysModules < h.objs.size):cG P w H (h.push {cls:=.type "dict",data:=.dict #[]}) h.objs.size (.dK []):=
  ⟨Nat.zero_le _,beq_eq_false_iff_ne.mpr (Ne.symm (Nat.ne_of_lt hb)),[],.nil,Heap.DictOf.new h⟩
def Dn:TE:=fun _ H Q=>∀p,H p=none→Q (.ref p) (aV H p (.dK []))
section
variable{X:Cx}{pos:Pos}
theorem xD:PE X (.Dict [] [] pos) Dn:=fun pins s σ H Q I h=>
  wpAny_Dict_empty ⟨.ref s.heap.objs.size,_,I.laid (a:=s.heap.objs.size) (o:=.dK []) (t':=s.toks) (fun _ _ q=>Heap.get?_push_of_some _ q) (Nat.le_refl _) (wn s.heap I.big),rfl,h _ (I.hok.fresh (Nat.le_refl _))⟩
end
abbrev VV:List (V × V)→List (Value × Value)→Prop:=Paired fun p q=>a_ p.1 q.1∧a_ p.2 q.2
section
variable{X:Cx}{pins:List (Addr × Obj)}{σ:St}{H:Hp}{s:Shared}{a:Addr}{y d:V}{u r:Value}{o:Option V}{A:Around}{E:Value→Shared→Prop}
end
section
variable{X:Cx}{o e f:Expr}{apos cpos:Pos}{td ty tx:TE}
end
section
variable{X:Cx}{pins:List (Addr × Obj)}{σ:St}{H:Hp}{s:Shared}{a:Addr}{kvs:List (en × V)}{A:Around}{E:Value→Shared→Prop}
end
section
variable{X:Cx}{pins:List (Addr × Obj)}{σ:St}{H:Hp}{s:Shared}{a:Addr}{y:V}{u:Value}{A:Around}{E:Value→Shared→Prop}
end
end L2
namespace Att
open PySem PySem.W PySem.Calls PyProof.Rows
section
variable{prog:Program}{w:World}{A:Around}{E:Value→Shared→Prop}{s:Shared}{K:Frag}
end
end Att
namespace L2
open PySem PySem.Spec PyProof.Rows
end L2
namespace L2
open PySem PySem.Spec PyProof.Rows
end L2
namespace L2
open PySem PySem.Spec PyProof.Rows
section
variable{P:Program}{w:World}{K:PySem.W.Frag}{mg:Str→Option Value}{base:Heap}
end
section
variable{X:Cx}
end
section
variable{κ:Type}[DecidableEq κ]
end
end L2
namespace L2
open PySem PySem.Spec PyProof.Rows
def Bz:PyData→String
  | .none=>"NoneType"
  | .bool _=>"bool"
  | .int _=>"int"
  | .str _=>"str"
  | .tuple _=>"tuple"
  | .list _=>"list"
  | .dict _=>"dict"
def vx(t T:String):Bool:=t==T || (t=="bool"&&T=="int")
def wU(T:String)(d:PyData):Bool:=vx (Bz d) T
def kU(T:String):En→Rv→Option Rv:=fun _ r=>match r with
  | .d x=>some (.d (.bool (wU T x)))
  | _=>some (.d (.bool (wU T (.list []))))
section
variable{X:Cx}{K:PySem.W.Frag}{a:Expr}{fa:FE}{pos p p2:Pos}
def Gg(K:PySem.W.Frag)(H:Hp):V→String→Prop
  | .non,t=>t="NoneType"
  | .bl _,t=>t="bool"
  | .int _,t=>t="int"
  | .str _,t=>t="str"
  | .ref a,t=>(t="tuple"∧∃xs,cW K H a xs)∨(t="list"∧∃xs,gA K H a xs)∨(t="dict"∧∃m,H a=some (.dK m))
  | _,_=>False
theorem we{T:String}:dU X (.builtin "isinstance") (fun xs H Q=>∃x t b,xs=[x,.ty T]∧Gg X.K H x t∧PySem.W.kitOne X.K (.type t) (.type T)=some b∧Q (.bl b) H):=by
  intro pins s σ H xs us Q I r h
  obtain⟨x,t,b,rfl,ht,hk,q⟩:=h
  obtain⟨u1,u2,rfl,r1,r2⟩:∃u1 u2,us=[u1,u2]∧a_ x u1∧a_ (.ty T) u2:=by
    cases r with
    | cons p q=>cases q with
      | cons p' q'=>cases q';exact⟨_,_,rfl,p,p'⟩
  cases r2
  have q':∀tk,EP X pins σ Q (.bool b) {s with toks:=tk}:=fun tk=>⟨.bl b,H,I.tok _,rfl,q⟩
  cases x with
  | non=>cases (show u1=Value.none from r1);cases (show t=_ from ht);exact PySem.W.kia_one PySem.W.kitx_none I.kIn True.intro hk (fun z=>nomatch z) q'
  | bl y=>cases (show u1=Value.bool y from r1);cases (show t=_ from ht);exact PySem.W.kia_one PySem.W.kitx_bool I.kIn True.intro hk (fun z=>nomatch z) q'
  | int i=>obtain⟨tt,rfl⟩:=r1;cases (show t=_ from ht);exact PySem.W.kia_one PySem.W.kitx_int I.kIn True.intro hk (fun z=>nomatch z) q'
  | str y=>obtain⟨tt,rfl⟩:=r1;cases (show t=_ from ht);exact PySem.W.kia_one PySem.W.kitx_str I.kIn True.intro hk (fun z=>nomatch z) q'
  | ref a=>
    cases (show u1=Value.ref a from r1)
    rcases ht with ⟨rfl,xs,hs⟩ | ⟨rfl,xs,hs⟩ | ⟨rfl,m,hs⟩
    · obtain⟨its,rv,pl,hz⟩:=I.tuple hs
      obtain⟨o,h1,h2⟩:=pl.typeIs
      exact PySem.W.kia_one PySem.W.kitx_tuple I.kIn ⟨o,h1,h2⟩ hk (fun z=>nomatch z) q'
    · obtain⟨its,rv,pl,hz⟩:=I.list hs
      obtain⟨o,h1,h2⟩:=pl.isList.typeIs
      exact PySem.W.kia_one PySem.W.kitx_list I.kIn ⟨o,h1,h2⟩ hk (fun z=>nomatch z) q'
    · obtain⟨_,_,vs,_,pp⟩:=(show cG X.prog X.w H s.heap a (.dK m) from I.hok a _ hs)
      obtain⟨o,es,ep,h1,h2,_⟩:=pp
      exact PySem.W.kia_one PySem.W.kitx_dict I.kIn ⟨o,h1,h2.1⟩ hk (fun z=>nomatch z) q'
  | _=>exact False.elim ht
theorem xG{x:Str}{T:String}(hg:Gl X x)(hm:X.mg x=none)(hv:bootBuiltins x=some (.type T))(hn:x≠"__name__")(hd:(x==("__debug__":Str))=false):PE X (.Name x pos) (tC (.ty T)):=fun pins s σ H Q I h=>
  jE I hg hm hv ⟨.ty T,H,I,rfl,h⟩ hn hd
theorem Ce{t T:String}(ht:t∈["NoneType","bool","int","str","tuple","list","dict"])(hT:T∈["int","bool","tuple","str"]):PySem.W.kitOne K (.type t) (.type T)=some (vx t T):=by
  simp only [List.mem_cons,List.not_mem_nil,or_false] at ht hT
  rcases ht with rfl | rfl | rfl | rfl | rfl | rfl | rfl<;>rcases hT with rfl | rfl | rfl | rfl<;>rfl
theorem AF(d:PyData):Bz d∈["NoneType","bool","int","str","tuple","list","dict"]:=by cases d<;>simp [Bz]
theorem Du{F H:Hp}{d:PyData}{v:V}(h:DA K F d v)(s:av F H):Gg K H v (Bz d):=by
  have h:=DA.mono s h
  cases d with
  | none=>rw [gE.mp h];rfl
  | bool b=>rw [cA.mp h];rfl
  | int b=>rw [bY.mp h];rfl
  | str b=>rw [rW.mp h];rfl
  | tuple ds=>obtain⟨a,xs,rfl,h1,_⟩:=cI.mp h;exact .inl ⟨rfl,xs,h1⟩
  | list ds=>obtain⟨a,xs,rfl,h1,_⟩:=eN.mp h;exact .inr (.inl ⟨rfl,xs,h1⟩)
  | dict m=>simp only [DA] at h;obtain⟨a,m,rfl,h1,_⟩:=h;exact .inr (.inr ⟨rfl,_,h1⟩)
theorem tK{f:FE}{σ:L2.St}{H:Hp}{Q Q':VK}(h:fE K f σ H Q)(m:∀v H1,Q v H1→Q' v H1):fE K f σ H Q':=by
  obtain⟨F,e,r,e',R,hf,q⟩:=h
  exact⟨F,e,r,e',R,hf,fun F' H' v x R' A=>m _ _ (q F' H' v x R' A)⟩
theorem Ek{T:String}:DF K (fun v H Q=>∃t,t∈["NoneType","bool","int","str","tuple","list","dict"]∧Gg K H v t∧Q (.bl (vx t T)) H) (kU T):=by
  intro σ H0 F H e x z v Q R A hg q
  unfold kU at hg
  cases x with
  | d d=>
    cases hg
    exact⟨Bz d,AF d,Du A R.sm,q F H _ (ej.refl _ _ _ _) R ez⟩
  | l xs=>
    cases hg
    obtain⟨l,vs,rfl,h1,h2,h3,h4⟩:=A
    exact⟨"list",by simp,.inr (.inl ⟨rfl,vs,gA.of h3⟩),q F H _ (ej.refl _ _ _ _) R ez⟩
  | s i=>
    cases hg
    obtain⟨h1,xs,h2⟩:=A
    obtain⟨l,vs,h3,h4,h5,h6⟩:=R.own i xs h2
    rw [h1] at h3;cases h3
    exact⟨"list",by simp,.inr (.inl ⟨rfl,vs,gA.of h5⟩),q F H _ (ej.refl _ _ _ _) R ez⟩
theorem uh{x:Str}{T:String}(hK:X.K=K)(hT:T∈["int","bool","tuple","str"])(hg:Gl X "isinstance")(hm:X.mg "isinstance"=none)(hgT:Gl X x)(hmT:X.mg x=none)(GX:bootBuiltins x=some (.type T))(hn:x≠"__name__")(hd:(x==("__debug__":Str))=false)
    (ha:PE X a (fE K fa))(he:starEach [a,.Name x p2] X.env=(false,eval a X.env)::starEach [.Name x p2] X.env)(hpl:(backTo pos (starEach [.Name x p2] X.env)).any (·.1)=false):
    PE X (.Call (.Name "isinstance" p) [a,.Name x p2] [] pos) (fE K (uB (kU T) fa)):=
  (mO (we (T:=T)) hg hm boot_isinstance (jl ha (jl (xG hgT hmT GX hn hd) k_) he) (by decide) (by decide) he hpl).mono fun σ H Q h=>by
    subst hK
    have h1:=sU (Ek (T:=T)) h
    refine tK h1 fun v H1 ⟨t,ht,k,q⟩=>?_
    exact⟨v,t,_,rfl,k,Ce ht hT,q⟩
end
end L2
namespace L2
open PySem PySem.Spec PyProof.Rows
section
variable{X:Cx}{K:PySem.W.Frag}
end
end L2
namespace L2
open PySem PySem.Spec PyProof.Rows
section
variable{X:Cx}{K:PySem.W.Frag}{σ:L2.St}{F H:Hp}{e:En}{pos p1 p2:Pos}
end
end L2
namespace L2
open PySem PySem.Spec PyProof.Rows
section
variable{X:Cx}{K:PySem.W.Frag}{a b c d:Expr}{ta tb tc td:TE}{fa fb fc fd:FE}{pos:Pos}
end
end L2
namespace L2
open PySem PySem.Spec PyProof.Rows
section
variable{X:Cx}{K:PySem.W.Frag}{a b:Expr}{es:List Expr}{fa fb:FE}{fs:FA}{pos p apos:Pos}
end
end L2
namespace L2
open PySem PySem.Spec PyProof.Rows
section
variable{X:Cx}{K:PySem.W.Frag}{a b:Expr}{fa fb:FE}{fs:FA}{pos p p2 p3:Pos}
end
end L2
namespace L2
open PySem PySem.Spec PyProof.Rows
def bq(W:bj)(as:List Int):Int:=bp W (W.rng.filter fun k=> !as.contains k)
def wI(l:Nat):Int:=1000*(2 ^ (16 - l) - 1)
structure G9 (W:bj) (k:Int) (as:List Int) (y n:Fr):Prop where
  y:FN (bq W (bj.askd as k)) (wI (as.length+1)) y
  n:FN (bq W (bj.askd as k)) (wI (as.length+1)) n
  len:as.length≤15
  inw:uG W k
  new:k∉as
def lk(ws:List Fr)(l:Int):Fr:=if l= -1 then(0,1) else ws.getD l.toNat (0,1)
structure Hj (W:bj) (S:Nat→Std) (n:Nat) (ws:List Fr):Prop where
  len:ws.length=n
  at':∀(j:Nat) (f:Fr),ws[j]?=some f→FN (bq W (S j).1) (wI (S j).1.length) f
end L2
namespace L2
open PySem PySem.Spec PyProof.Rows
theorem fN{cs:En}{g:FG}{ft:FT}{fe:FE}{b:PyData→Bool}{y:PyData→PyData}{u:PyData→En}(n:Nat):∀(items:List PyData) (t:En) (acc:List PyData),t.length=n→(∀x∈items,∀t:En,t.length=n→g x (cs++t)=some (cs++u x))→(∀x∈items,(u x).length=n)→
    (∀x∈items,ft (cs++u x)=some (b x,cs++u x))→(∀x∈items,b x=true→fe (cs++u x)=some (.d (y x),cs++u x))→acc.length+items.length≤1000000→
    ∃t',t'.length=n∧cH g ft fe items (cs++t) acc=some (acc++(items.filter b).map y,cs++t')
  | [],t,acc,h,_,_,_,_,_=>⟨t,h,by simp [cH]⟩
  | x::r,t,acc,h,hg,hu,h1,h2,hl=>by
    have h1x:=h1 x (by simp)
    unfold cH
    rw [hg x (by simp) t h]
    simp only [Option.bind_some,h1x]
    cases hb:b x with
    | true=>
      simp only [if_true,h2 x (by simp) hb,Option.bind_some,pe]
      rw [if_pos (by simp at hl;lia)]
      obtain⟨t',e1,ih⟩:=fN (b:=b) (y:=y) (u:=u) n r (u x) (acc++[y x]) (hu x (by simp)) (fun z hz=>hg z (by simp [hz])) (fun z hz=>hu z (by simp [hz])) (fun z hz=>h1 z (by simp [hz])) (fun z hz=>h2 z (by simp [hz])) (by simp at hl ⊢;lia)
      exact⟨t',e1,by rw [ih];simp [hb]⟩
    | false=>
      simp only [Bool.false_eq_true,if_false]
      obtain⟨t',e1,ih⟩:=fN (b:=b) (y:=y) (u:=u) n r (u x) acc (hu x (by simp)) (fun z hz=>hg z (by simp [hz])) (fun z hz=>hu z (by simp [hz])) (fun z hz=>h1 z (by simp [hz])) (fun z hz=>h2 z (by simp [hz])) (by simp at hl;lia)
      exact⟨t',e1,by rw [ih];simp [hb]⟩
end L2
namespace L2
open PySem PySem.Spec PyProof.Rows
section
variable{X:Cx}{K:PySem.W.Frag}{a:Expr}{fa:FE}{pos p pos2 p2:Pos}
def vN(ns:List Int):List Int:=ns.foldl step_dedup []
theorem iT(ns:List Int):firstMet (fun i=>ns.getD i 0) ns.length=vN ns:=by
  unfold firstMet vN
  congr 1
  refine List.ext_getElem (by simp) fun i h1 h2=>?_
  simp at h1
  simp [h1]
theorem rm:isSubtype (.type "tuple") (.type "set")=pure false:=by rw [isSubtype_type];kernel_rfl
theorem mZ:isSubtype (.type "tuple") (.type "frozenset")=pure false:=by rw [isSubtype_type];kernel_rfl
theorem oZ{prog:Program}{w:World}{A:Around}{E:Value→Shared→Prop}{s:Shared}{l:Addr}{items:Array Value}{ns:List Int}{Q:Value→Shared→Prop}(hh:A.handled=none)(hl:s.heap.IsTuple l items)(hi:IntsAre items.toList ns)(hb:items.size+1 < scanBound)
    (h:∀(h':Heap) (tk:Nat),h'.SetOf (intKind prog w) s.heap.objs.size (fun k'=>(firstMet (fun i=>ns.getD i 0) items.size).any (· ==k')) (firstMet (fun i=>ns.getD i 0) items.size).length→(∀b o,b < s.heap.objs.size→s.heap.get? b=some o→h'.get? b=some o)→Q (.ref s.heap.objs.size) {s with heap:=h',toks:=tk}):
    wpAny (model prog w) A (call (.type "set") [.ref l]) Q E s:=by
  obtain⟨c,tl,hmro⟩:=F.called_set.mro;have hmade:=F.called_set.made;have hsub:=F.called_set.sub
  refine wpAny_call (codeAny_of_tree ?_);show wpAny _ _ (callAny (.type "set") _) _ _ _
  refine wpAny_pure ⟨Code.quiet_builtin _ (by decide+kernel),codeAny_builtin F.entry_type_call ?_⟩;rw [Around.under_plain (weight_type_call_type "set" [.ref l] []) rfl]
  have h1:=F.called_set.notType;have h2:=F.called_set.canCreate;have hct:=F.typeCall_set_1 (.ref l);repeat (any_goals (first | assumption | wp_step))
  let nw:Bool→Obj:=fun led=>{cls:=.type "set",dict:=none,data:=.set #[] 0 (.fresh 0 0 led)}
  refine codeAny_mono (code_set_new_1 (.ref l) (E:=E) (Q₁:=fun obj s₁=>∃led:Bool,obj=.ref s.heap.objs.size∧s₁={s with heap:=s.heap.push (nw led)}) fun led=>⟨led,rfl,rfl⟩) fun r s₁ hr=>?_
  cases r with
  | error e=>exact hr
  | ok fl=>
    cases fl with
    | ret obj=>
      obtain⟨led,rfl,rfl⟩:=hr;have hS:(s.heap.push (nw led)).get? s.heap.objs.size=some (nw led):=Heap.get?_push_size _ rfl
      have hT:Shared.TypeIs {s with heap:=s.heap.push (nw led)} (.ref s.heap.objs.size) "set":=⟨_,hS,rfl⟩
      have hli:=F.called_set.init.lookup;have hbi:=F.called_set.init.bind (.ref s.heap.objs.size);repeat (any_goals (first | assumption | wp_step))
      refine codeAny_mono (codeAny_call_builtin (R:=wants (fun r s₂=>r=.none∧∃h' tk,s₂={s with heap:=h',toks:=tk}∧h'.SetOf (intKind prog w) s.heap.objs.size (fun k'=>(firstMet (fun i=>ns.getD i 0) items.size).any (· ==k')) (firstMet (fun i=>ns.getD i 0) items.size).length∧(∀b o,b < s.heap.objs.size→s.heap.get? b=some o→h'.get? b=some o)) E) F.called_set.init.plain F.entry_set_init (check_set_init_1 hT ?_)) fun r₂ s₂ hr₂=>?_
      · obtain⟨ol,hol,hcl,nl,hdl⟩:=hl;obtain⟨ocls,odict,odata,oslots⟩:=ol;simp only at hcl hdl;subst hcl;subst hdl
        have hol':(s.heap.push (nw led)).get? l=some {cls:=.type "tuple",dict:=odict,data:=.seq items nl,slots:=oslots}:=Heap.get?_push_of_some _ hol
        have hsls:=rm;have hslf:=mZ;have hne:(Value.type "tuple"==Value.type "dict")=false:=by decide
        have hl1:(s.heap.push (nw led)).IsTuple l items:=⟨_,hol',rfl,nl,rfl⟩
        unfold Builtin.«set.__init__» noKeywords Builtin.Frozenset.updateFrom;generalize hPI:pyIter=PI
        wp_walk
        subst hPI
        refine wpAny_pyIter_tuple hl1 ?_;refine wpAny_bind (wpAny_runValue ?_);have hlS:l < s.heap.objs.size:=Heap.lt_size hol
        have hh3:A.in1.in1.in1.handled=none:=by simp [hh]
        have hneI:l≠(s.heap.push (nw led)).objs.size:=by rw [Heap.size_push];exact Nat.ne_of_lt (Nat.lt_succ_of_lt hlS)
        have hSf:s.heap.objs.size∉[(s.heap.push (nw led)).objs.size,l]:=by
          rw [Heap.size_push];simp only [List.mem_cons,List.mem_singleton,List.not_mem_nil,or_false,not_or];exact⟨Nat.ne_of_lt (Nat.lt_succ_self _),Nat.ne_of_gt hlS⟩
        have hval:∀(i:Nat) (v:Value),items[i]?=some v→∃t,v=.int ((fun i=>ns.getD i 0) i) t:=fun i v hv=>IntsAre.int_at hi i v (by rw [Array.getElem?_toList];exact hv)
        refine codeAny_set_update_loopS ((Walks.tuple hh3 _ l hneI items).toS) s.heap.objs.size hSf (fun i=>ns.getD i 0) hval hb (items.size - 0) 0 _ (by lia) (Nat.zero_le _) ⟨⟨_,Heap.get?_push_size _ rfl,rfl,rfl⟩,(hl1.at fun o e=>Heap.get?_push_of_some _ e)⟩ ?hS0 ?hR
        case hS0=>exact SetOf_congr ((setObjOf_fresh (knd:=intKind prog w) led).setOf (Heap.get?_push_of_some _ hS) (by unfold scanBound;lia)) (fun _=>rfl) rfl
        case hR=>
          intro s' hm hS';obtain⟨h',g',d',tk',os'⟩:=s';have eg:g'=s.gens:=hm.gens;have ed:d'=s.drawn:=hm.drawn;have eo:os'=s.os:=hm.os
          subst eg;subst ed;subst eo;show wpAny _ _ _ _ _ _
          refine wpAny_pure ?_;show wpAny _ _ (ret Value.none) _ _ _;refine wpAny_pure ⟨rfl,h',tk',rfl,hS',fun b o hb e=>?_⟩
          have hb1:b≠s.heap.objs.size:=Nat.ne_of_lt hb;have hb2:b≠(s.heap.push (nw led)).objs.size:=by rw [Heap.size_push];exact Nat.ne_of_lt (Nat.lt_succ_of_lt hb)
          exact hm.heap b o (by simp only [List.mem_cons,List.mem_singleton,List.not_mem_nil,or_false,not_or];exact⟨hb1,hb2⟩) (Heap.get?_push_of_some _ (Heap.get?_push_of_some _ e))
      · cases r₂ with
        | error e=>exact hr₂
        | ok fl₂=>
          cases fl₂ with
          | ret r=>obtain⟨rfl,h',tk,rfl,hS',hk'⟩:=hr₂;(repeat (any_goals (first | assumption | wp_step)));exact h _ _ hS' hk'
          | next=>exact hr₂.elim
          | brk=>exact hr₂.elim
          | cont=>exact hr₂.elim
    | next=>exact hr.elim
    | brk=>exact hr.elim
    | cont=>exact hr.elim
def E5(K:PySem.W.Frag):List V→Hp→VK→Prop:=fun xs H Q=>∃(l:Addr) (ns:List Int),xs=[.ref l]∧(gA K H l (ns.map V.int)∨cW K H l (ns.map V.int))∧ns.length≤1000∧∀q S,H q=none→Q (.ref q) (aV H q (.set S (vN ns).length))
theorem uL(hc:X.calm=true):dU X (.type "set") (E5 X.K):=by
  intro pins s σ H xs us Q I r h
  obtain⟨l,ns,rfl,hs,hn,q⟩:=h
  obtain⟨u,rfl,ru⟩:=k9 r
  cases ru
  have hf:H s.heap.objs.size=none:=I.hok.fresh (Nat.le_refl _)
  rcases hs with hs | hs
  · obtain⟨its,rv,pl,hz⟩:=I.list hs
    have hl:=rv.length
    rw [List.length_map] at hl
    have e1:its.toArray.size=ns.length:=by simp [hl]
    refine call_set_list (ns:=ns) (I.ok.hd hc) pl.isList (jD rv) (by rw [e1];unfold scanBound;lia) fun h' tk hS hk=>?_
    rw [e1,iT] at hS
    exact⟨.ref s.heap.objs.size,_,I.laid (o:=.set _ _) (fun b o e=>hk b o (Heap.lt_size e) e) (Nat.le_refl _) hS,rfl,q _ _ hf⟩
  · obtain⟨its,rv,pl,hz⟩:=I.tuple hs
    have hl:=rv.length
    rw [List.length_map] at hl
    have e1:its.toArray.size=ns.length:=by simp [hl]
    refine oZ (ns:=ns) (I.ok.hd hc) pl (jD rv) (by rw [e1];unfold scanBound;lia) fun h' tk hS hk=>?_
    rw [e1,iT] at hS
    exact⟨.ref s.heap.objs.size,_,I.laid (o:=.set _ _) (fun b o e=>hk b o (Heap.lt_size e) e) (Nat.le_refl _) hS,rfl,q _ _ hf⟩
theorem uI:dU X (.builtin "len") (fun xs H Q=>∃q S n,xs=[.ref q]∧H q=some (.set S n)∧n≤1000∧Q (.int n) H):=by
  intro pins s σ H xs us Q I r h
  obtain⟨p,S,n,rfl,hs,hn,q⟩:=h
  obtain⟨u,rfl,ru⟩:=k9 r
  cases ru
  obtain⟨o,es,ep,t,ho,hex,hd,_,_,_,hfit,rfl⟩:=(show cG X.prog X.w H s.heap p (.set S n) from I.hok p _ hs)
  exact call_len_set ho hex hd hfit (by lia) ⟨.int es.size,H,I.tok _,⟨_,rfl⟩,q⟩
def jg:En→Rv→Option Rv:=fun e x=>(cZ e x).bind fun z=>(mI z.2).bind fun ns=>if ns.length≤1000 then some (.d (.int (vN ns).length)) else none
theorem rX(ns:List Int):(vN ns).length≤ns.length:=by
  have:=firstMet_length_le (fun i=>ns.getD i 0) ns.length
  rw [iT] at this
  exact this
theorem xa:DF K (fun v H Q=>E5 K [v] H fun w H1=>∃q S n,w=.ref q∧H1 q=some (.set S n)∧n≤1000∧Q (.int n) H1) jg:=by
  intro σ H0 F H e x z v Q R A hg q
  unfold jg at hg
  obtain⟨⟨b,ds⟩,h1,hg⟩:=Option.bind_eq_some_iff.mp hg
  obtain⟨ns,h2,hg⟩:=Option.bind_eq_some_iff.mp hg
  split at hg
  case isFalse=>cases hg
  case isTrue hl=>
  cases hg
  obtain⟨l,ws,rfl,d1,s1⟩:=ce R A h1
  have e1:ds=ns.map .int:=mJ h2
  subst e1
  have e2:=aJ.ints.mp d1
  subst e2
  refine⟨l,ns,rfl,?_,hl,fun p S hp=>?_⟩
  · cases b with
    | true=>exact .inl s1
    | false=>exact .inr s1
  · obtain⟨R1,X1⟩:=R.same (av.new hp (o:=.set S (vN ns).length))
    exact⟨p,S,_,rfl,ax,Nat.le_trans (rX ns) hl,q F _ _ X1 R1 jI⟩
theorem xX(hc:X.calm=true)(hK:X.K=K)(hg:Gl X "len")(hm:X.mg "len"=none)(hgs:Gl X "set")(hms:X.mg "set"=none)(ha:PE X a (fE K fa))(hs:starEach [a] X.env=(false,eval a X.env)::starEach [] X.env)(hpl:(backTo pos2 (starEach [] X.env)).any (·.1)=false)
    (hs2:starEach [.Call (.Name "set" p2) [a] [] pos2] X.env=(false,eval (.Call (.Name "set" p2) [a] [] pos2) X.env)::starEach [] X.env)(hpl2:(backTo pos (starEach [] X.env)).any (·.1)=false):
    PE X (.Call (.Name "len" p) [.Call (.Name "set" p2) [a] [] pos2] [] pos) (fE K (uB jg fa)):=
  (mO uI hg hm PySem.boot_len (jl (oz (uL hc) hgs hms PyProof.Rows.boot_set (jl ha k_ hs) (by decide) (by decide) hs hpl) k_ hs2) (by decide) (by decide) hs2 hpl2).mono fun σ H Q h=>by
    subst hK
    refine tK (sU xa h) fun v H1 ⟨l,ns,e,h1,h2,h3⟩=>?_
    refine⟨l,ns,e,h1,h2,fun q S hq=>?_⟩
    obtain⟨q',S',n,e1,e2,e3,e4⟩:=h3 q S hq
    exact⟨q',S',n,by rw [e1],e2,e3,e4⟩
end
end L2
namespace L2
open PySem PySem.Spec PyProof.Rows
section
variable{X:Cx}{K:PySem.W.Frag}{a:Expr}{fa:FE}
end
end L2
namespace L2
open PySem PySem.Spec PyProof.Rows
abbrev Rn:=List (Int × Bool)
def y_(R:Rn):List Int:=R.map (·.1)
def AY(W:bj)(R:Rn):List Int:=(R.filter (·.2)).flatMap fun r=>[(W.tie r.1).one,(W.tie r.1).other]
structure Hg (W:bj) (R:Rn) (asked taken:List Int):Prop where
  pa:asked.Perm (y_ R)
  pt:taken.Perm (AY W R)
  inw:∀k∈y_ R,uG W k
  nd:(y_ R).Nodup
  nk:(AY W R).Nodup
  bd:∀t:Int,0≤t→t < W.things→W.many (y_ R) t≤W.pat.getD t.toNat 0
  ak:(R.length:Int)≤W.asks
  sa:asked.Pairwise (· ≤·)
  st:taken.Pairwise (· ≤·)
theorem nX:∀(ns acc:List Int),ns.Nodup→(∀x∈ns,x∉acc)→(ns.foldl step_dedup acc).length=acc.length+ns.length
  | [],acc,_,_=>by simp
  | x::r,acc,h1,h2=>by
    have c:acc.any (· ==x)=false:=by
      rw [List.any_eq_false]
      intro y hy z
      have:y=x:=by simpa using z
      exact h2 x (by simp) (this ▸ hy)
    simp only [List.foldl_cons]
    rw [show step_dedup acc x=acc++[x] by unfold step_dedup;rw [c];rfl,nX r (acc++[x]) (List.nodup_cons.mp h1).2 fun y hy z=>?_]
    · simp;lia
    · rcases List.mem_append.mp z with z | z
      · exact h2 y (by simp [hy]) z
      · simp at z;exact(List.nodup_cons.mp h1).1 (z ▸ hy)
theorem y3{ns:List Int}(h:ns.Nodup):(vN ns).length=ns.length:=by
  have:=nX ns [] h (fun x _ z=>by cases z)
  simpa [vN] using this
end L2
namespace L2
open PySem PySem.Spec PyProof.Rows
section
variable{prog:Program}{w:World}{A:Around}{R:Result→Shared→Prop}
def j_(elt tg iter tg2 iter2:Expr)(ifs ifs2:List Expr)(scope:Scope)(pos:Pos)(acc:Value)(env:Env)(k:Sem PySem.Fin):Sem PySem.Fin:=do
  let x ←eval iter2 env
  standAt iter2.pos
  let x ←foldedSetIterable iter2 env x
  let _ ←runOwn (.compStart (.ListComp elt [⟨tg,iter,ifs,0⟩,⟨tg2,iter2,ifs2,0⟩] scope pos) 1 (←holding [x] (pyIter x)) acc env) env
  k
theorem o8(elt tg iter tg2 iter2:Expr)(ifs ifs2:List Expr)(scope:Scope)(pos:Pos)(it acc:Value)(env:Env):
    compTurn (.ListComp elt [⟨tg,iter,ifs,0⟩,⟨tg2,iter2,ifs2,0⟩] scope pos) 0 it acc env=(do
      standAt iter.pos
      match ←pyNext it with
      | none=>pure (.done .next)
      | some v=>
        letOwnedTupleGo tg it v
        assign tg env v
        let mut ok:=true
        for c in ifs do
          if ok then ok ←isTrue c env (eval c env)
        if ok then j_ elt tg iter tg2 iter2 ifs ifs2 scope pos acc env (again (.compLoop (.ListComp elt [⟨tg,iter,ifs,0⟩,⟨tg2,iter2,ifs2,0⟩] scope pos) 0 it acc env))
        else again (.compLoop (.ListComp elt [⟨tg,iter,ifs,0⟩,⟨tg2,iter2,ifs2,0⟩] scope pos) 0 it acc env)):=by rfl
theorem qd(elt tg iter tg2 iter2:Expr)(ifs ifs2:List Expr)(scope:Scope)(pos:Pos)(it acc:Value)(env:Env):
    compTurn (.ListComp elt [⟨tg,iter,ifs,0⟩,⟨tg2,iter2,ifs2,0⟩] scope pos) 1 it acc env=(do
      standAt iter2.pos
      match ←pyNext it with
      | none=>pure (.done .next)
      | some v=>
        letOwnedTupleGo tg2 it v
        assign tg2 env v
        let mut ok:=true
        for c in ifs2 do
          if ok then ok ←isTrue c env (eval c env)
        if ok then
          (do let _ ←call (.builtin "list.append") [acc,←eval elt env])
        again (.compLoop (.ListComp elt [⟨tg,iter,ifs,0⟩,⟨tg2,iter2,ifs2,0⟩] scope pos) 1 it acc env)):=by rfl
def yV(prog:Program)(w:World)(A:Around)(B:Sem PySem.Fin→Sem PySem.Fin)(tg:Expr)(ifs:List Expr)(env:Env)(it:Value)(onward:Shared→Prop)(v:Value)(u:Shared):Prop:=
  wpAny (model prog w) A (letOwnedTupleGo tg it v) (fun _ u1=>wpAny (model prog w) A (assign tg env v) (fun _ u2=>wpAny (model prog w) A
    (forIn ifs true fun c r=>if r=true then do let ok ←isTrue c env (eval c env);pure (ForInStep.yield ok) else pure (ForInStep.yield r)) (fun ok u3=>if ok=true then(∀(k:Sem PySem.Fin) (Q:PySem.Fin→Shared→Prop) (E:Value→Shared→Prop),(∀u5,onward u5→wpAny (model prog w) A k Q E u5)→wpAny (model prog w) A (B k) Q E u3) else onward u3) ue u2) ue u1) ue u
theorem o5{elt tg iter tg2 iter2:Expr}{ifs ifs2:List Expr}{scope:Scope}{pos:Pos}{it acc:Value}{env:Env}(J:Nat→Shared→Prop)
    (turn:∀n u,J n u→wpAny (model prog w) A (pyNext it) (fun r u1=>(r=none→R (.ok .next) u1)∧∀v,r=some v→yV prog w A (j_ elt tg iter tg2 iter2 ifs ifs2 scope pos acc env) tg ifs env it (fun u2=>∃m,m < n∧J m u2) v u1) ue u){n0:Nat}{u0:Shared}(eV:J n0 u0):
    codeAny (model prog w) A (.compLoop (.ListComp elt [⟨tg,iter,ifs,0⟩,⟨tg2,iter2,ifs2,0⟩] scope pos) 0 it acc env) R u0:=by
  refine codeAny_loop rfl J (fun n u ju=>?_) n0 eV
  show wpAny _ A ((compTurn (.ListComp elt [⟨tg,iter,ifs,0⟩,⟨tg2,iter2,ifs2,0⟩] scope pos) 0 it acc env).onRaise _) _ _ u;refine wpAny_noted ?_;rw [o8]
  refine wpAny_bind (wpAny_standAt (wpAny_bind (wpAny_mono (turn n u ju) (fun r u1 k1=>?_) fun _ _ z=>z.elim)))
  cases r with
  | none=>exact wpAny_pure (k1.1 rfl)
  | some v=>
    refine wpAny_bind (wpAny_mono (k1.2 v rfl) (fun _ u2 k2=>wpAny_bind (wpAny_mono k2 (fun _ u3 k3=>wpAny_bind (wpAny_mono k3 (fun ok u4 k4=>?_) fun _ _ z=>z.elim)) fun _ _ z=>z.elim)) fun _ _ z=>z.elim)
    cases ok with
    | false=>rw [if_neg Bool.false_ne_true] at k4;exact wpAny_pure ⟨rfl,k4⟩
    | true=>
      rw [if_pos rfl] at k4
      exact k4 _ _ _ fun u6 k6=>wpAny_pure ⟨rfl,k6⟩
theorem qc{elt tg iter tg2 iter2:Expr}{ifs ifs2:List Expr}{scope:Scope}{pos:Pos}{it acc:Value}{env:Env}(J:Nat→Shared→Prop)
    (turn:∀n u,J n u→wpAny (model prog w) A (pyNext it) (fun r u1=>(r=none→R (.ok .next) u1)∧∀v,r=some v→wg prog w A elt tg2 ifs2 env it acc (fun u2=>∃m,m < n∧J m u2) v u1) ue u){n0:Nat}{u0:Shared}(eV:J n0 u0):
    codeAny (model prog w) A (.compLoop (.ListComp elt [⟨tg,iter,ifs,0⟩,⟨tg2,iter2,ifs2,0⟩] scope pos) 1 it acc env) R u0:=by
  refine codeAny_loop rfl J (fun n u ju=>?_) n0 eV
  show wpAny _ A ((compTurn (.ListComp elt [⟨tg,iter,ifs,0⟩,⟨tg2,iter2,ifs2,0⟩] scope pos) 1 it acc env).onRaise _) _ _ u;refine wpAny_noted ?_;rw [qd]
  refine wpAny_bind (wpAny_standAt (wpAny_bind (wpAny_mono (turn n u ju) (fun r u1 k1=>?_) fun _ _ z=>z.elim)))
  cases r with
  | none=>exact wpAny_pure (k1.1 rfl)
  | some v=>
    refine wpAny_bind (wpAny_mono (k1.2 v rfl) (fun _ u2 k2=>wpAny_bind (wpAny_mono k2 (fun _ u3 k3=>wpAny_bind (wpAny_mono k3 (fun ok u4 k4=>?_) fun _ _ z=>z.elim)) fun _ _ z=>z.elim)) fun _ _ z=>z.elim)
    cases ok with
    | false=>rw [if_neg Bool.false_ne_true] at k4;exact wpAny_pure ⟨rfl,k4⟩
    | true=>
      rw [if_pos rfl] at k4
      refine wpAny_bind (wpAny_bind (wpAny_mono k4 (fun x u5 k5=>wpAny_bind (wpAny_mono k5 (fun _ u6 k6=>?_) fun _ _ z=>z.elim)) fun _ _ z=>z.elim));exact wpAny_pure (wpAny_pure ⟨rfl,k6⟩)
theorem o6{elt tg iter tg2 iter2:Expr}{ifs ifs2:List Expr}{scope:Scope}{pos:Pos}{it acc:Value}{env:Env}{s:Shared}
    (h0:codeAny (model prog w) A (.compLoop (.ListComp elt [⟨tg,iter,ifs,0⟩,⟨tg2,iter2,ifs2,0⟩] scope pos) 1 it acc env) R s)
    (h:wpAny (model prog w) A (pyIter it) (fun it' s'=>codeAny (model prog w) A (.compLoop (.ListComp elt [⟨tg,iter,ifs,0⟩,⟨tg2,iter2,ifs2,0⟩] scope pos) 1 it' acc env) R s') (notedBy (model prog w) A env fun x s'=>R (.error x) s') s):
    codeAny (model prog w) A (.compStart (.ListComp elt [⟨tg,iter,ifs,0⟩,⟨tg2,iter2,ifs2,0⟩] scope pos) 1 it acc env) R s:=by
  refine codeAny_of_tree ?_;show wpAny _ _ ((compStart (.ListComp elt [⟨tg,iter,ifs,0⟩,⟨tg2,iter2,ifs2,0⟩] scope pos) 1 it acc env).onRaise (fun x=>do noteFrame x env;standAt theWindowsPlace)) _ _ s
  refine wpAny_notedAt ?_;unfold compStart
  show wpAny _ _ (ask >>= _) _ _ s
  refine wpAny_bind (wpAny_askSetting (wpAny_ite ?_));split
  · first | exact wpAny_bind (wpAny_pure (wpAny_pure (And.intro rfl h0))) | exact wpAny_pure (And.intro rfl h0)
  · first | exact wpAny_bind (wpAny_rule (wpAny_bind (wpAny_standAt (wpAny_bind (wpAny_mono h (fun it' s' h'=>wpAny_pure (And.intro rfl h')) fun _ _ x=>x))))) | (refine wpAny_bind (wpAny_rule ?_);show wpAny _ _ (standAt iter2.pos >>= _) _ _ s;exact wpAny_bind (wpAny_standAt (wpAny_bind (wpAny_mono h (fun it' s' h'=>wpAny_pure (And.intro rfl h')) fun _ _ x=>x))))
end
def yr(l:Addr)(wi:TI)(g:TG)(tc:TT)(te:TE)(σ:L2.St)(H:Hp)(N:L2.St→Hp→Prop):Prop:=
  wi σ H fun J H1=>∃W:Nat→Nat→L2.St→Hp→Prop,(∃m,W 0 m σ H1)∧∀i m σ' H',W i m σ' H'→
    (J.stop i H'∧N σ' H')∨(J.go i H'∧∃N2:L2.St→Hp→Prop,(∀σ2 H2,N2 σ2 H2→∃m',m' < m∧W (i+1) m' σ2 H2)∧
      ∀x H2,J.yld i H' x H2→g x σ' H2 fun σ2 H3=>tc σ2 H3 fun b H4=>if b=true then te σ2 H4 fun v H5=>∃ys,H5 l=some (.lst ys)∧ys.length < sizeLine∧N2 σ2 (aV H5 l (.lst (ys++[v]))) else N2 σ2 H4)
theorem wO{Y:Cx}{elt tg iter tg2 iter2:Expr}{ifs ifs2:List Expr}{scope:Scope}{pos:Pos}{wi:TI}{g:TG}{tc:TT}{te:TE}(hc:Y.calm=true)(hxe:Y.xe=ue)(hi:PI Y tg2 iter2 wi)(hg:PG Y tg2 g)(ht:rM Y ifs2 tc)(he:PE Y elt te)
    (hs:∀x,foldedSetIterable iter2 Y.env x=pure x){pins:List (Addr × Obj)}{s:Shared}{σ:L2.St}{H:Hp}{D:Addr}{N:L2.St→Hp→Prop}(I:ay Y pins σ H s)(h:yr D wi g tc te σ H N)(k:Sem PySem.Fin)(Q:PySem.Fin→Shared→Prop)(E:Value→Shared→Prop)(hk:∀s',(∃σ' H',ay Y pins σ' H' s'∧N σ' H')→wpAny (model Y.prog Y.w) Y.A k Q E s'):
    wpAny (model Y.prog Y.w) Y.A (j_ elt tg iter tg2 iter2 ifs ifs2 scope pos (.ref D) Y.env k) Q E s:=by
  unfold j_
  have hi':=hi pins s σ H _ I h
  rw [hxe] at hi'
  refine wpAny_bind (wpAny_mono hi' (fun v s1 h1=>wpAny_bind (wpAny_standAt (wpAny_bind (wpAny_of_eq (hs v) (wpAny_bind (wpAny_holding (wpAny_mono h1 (fun itv s2 h2=>?_) fun _ _ z=>z.elim))))))) fun _ _ z=>z.elim)
  obtain⟨it,fp,tn,J,H2,rfl,I2,T,st2,f2,W,⟨m0,w0⟩,turn⟩:=h2
  have stat:∀{H':Hp},(∀b∈fp,H' b=none)→∀b∈fp,iL Y pins H' b:=fun hn b hb=>⟨hn b hb,(f2 b hb).2⟩
  have loop:codeAny (model Y.prog Y.w) Y.A (.compLoop (.ListComp elt [⟨tg,iter,ifs,0⟩,⟨tg2,iter2,ifs2,0⟩] scope pos) 1 (.ref it) (.ref D) Y.env) (fun r s'=>match r with | .ok f=>wpAny (model Y.prog Y.w) Y.A k Q E s' | .error e=>cameBackBy (model Y.prog Y.w) Y.A Y.env E e s') s2:=by
    refine qc (fun n s'=>∃i σ' H',ay Y pins σ' H' s'∧tn i s'.heap∧(∀b∈fp,H' b=none)∧W i n σ' H') ?_ (n0:=m0) ⟨0,σ,H2,I2,st2,fun b hb=>(f2 b hb).1,w0⟩
    rintro n s3 ⟨i,σ3,H3,I3,st3,fr3,w3⟩
    rcases turn i n σ3 H3 w3 with ⟨stop,qn⟩ | ⟨go,N2,hN,step⟩
    · refine bG (T.done Y rfl rfl rfl hc i pins s3 σ3 H3 ue I3 (stat fr3) st3 stop) fun r s4 ⟨hr,I4⟩=>?_
      subst hr
      exact⟨fun _=>hk _ ⟨σ3,H3,I4,qn⟩,fun v z=>by cases z⟩
    · refine bG (T.item Y rfl rfl rfl hc i pins s3 σ3 H3 ue I3 (stat fr3) st3 go) fun r s4 ⟨u,hr,h4⟩=>?_
      subst hr
      refine⟨fun z=>(by cases z),fun v z=>?_⟩
      cases z
      refine bG h4 fun _ s5 ⟨x,H5,I5,r5,y5,st5,fr5⟩=>?_
      have I5':=I5.pinned (stat fr5) (T.obj _ _ st5)
      have again:∀{σ8:L2.St} {H8:Hp} {s8:Shared},ay Y (pins++i6 fp s5.heap) σ8 H8 s8→N2 σ8 H8→∃m,m < n∧∃i σ' H',ay Y pins σ' H' s8∧tn i s8.heap∧(∀b∈fp,H' b=none)∧W i m σ' H':=fun{σ8 H8 s8} I8 n8=>by
        obtain⟨m',hm,w8⟩:=hN σ8 H8 n8
        refine⟨m',hm,i+1,σ8,H8,I8.unpinned,T.keep _ _ _ st5 fun b hb o e=>(I8.pin (b,o) (List.mem_append_right _ (List.mem_append_right _ (bP hb e)))).1,fun b hb=>?_,w8⟩
        obtain⟨o,e,d⟩:=T.obj _ _ st5 b hb
        exact(I8.pin (b,o) (List.mem_append_right _ (List.mem_append_right _ (bP hb e)))).2.1
      have hg':=hg _ s5 σ3 H5 x u _ I5' r5 (step x H5 y5)
      rw [hxe] at hg'
      refine bG hg' fun _ s8 ⟨σ8,H8,I8,q8⟩=>?_
      have ht':=ht _ s8 σ8 H8 _ I8 q8
      rw [hxe] at ht'
      refine bG ht' fun ok s9 ⟨H9,I9,q9⟩=>?_
      cases ok with
      | false=>
        rw [if_neg Bool.false_ne_true] at q9 ⊢
        exact again I9 q9
      | true=>
        rw [if_pos rfl] at q9 ⊢
        have he':=he _ s9 σ8 H9 _ I9 q9
        rw [hxe] at he'
        refine bG he' fun v s10 ⟨xv,H10,I10,r10,ys,hl,hz,n10⟩=>?_
        have ha:=jk _ s10 σ8 H10 (.ref D) [xv] (.ref D) [v] (fun _ H=>N2 σ8 H) I10 rfl (.cons r10 .nil) ⟨D,ys,xv,rfl,rfl,hl,hz,n10⟩
        rw [hxe] at ha
        refine bG ha fun _ s11 ⟨_,H11,I11,_,q11⟩=>?_
        exact again I11 q11
  exact wpAny_bind (wpAny_runOwn (o6 loop (T.self Y.A 0 _ _ _ st2 loop)))
structure yq (cp:List (Nat × Str)) (nT:Nat) (wi:TI) (g:TG) (tc:TT) (wi2:TI) (g2:TG) (tc2:TT) (te:TE) (σ:L2.St) (H:Hp) (Q:VK):Prop where
  go:wi σ H fun J H1=>∀l,H1 l=none→
  ∃W:Nat→Nat→L2.St→Hp→Prop,(∃m,W 0 m (dC cp nT σ) (aV H1 l (.lst [])))∧∀i m σ' H',W i m σ' H'→
    (J.stop i H'∧Q (.ref l) H')∨(J.go i H'∧∃N:L2.St→Hp→Prop,(∀σ2 H2,N σ2 H2→∃m',m' < m∧W (i+1) m' σ2 H2)∧
      ∀x H2,J.yld i H' x H2→g x σ' H2 fun σ2 H3=>tc σ2 H3 fun b H4=>if b=true then yr l wi2 g2 tc2 te σ2 H4 N else N σ2 H4)
theorem xC{X:Cx}{elt iter tg iter2 tg2:Expr}{ifs ifs2:List Expr}{scope:Scope}{pos:Pos}{wi wi2:TI}{g g2:TG}{tc tc2:TT}{te:TE}(sc0:Scope)(N0:List Str)(cp:List (Nat × Str))(tgN:List Str)
    (hc:X.calm=true)(hsc:X.env.scope=sc0)(hN0:X.N=N0)(hi:PI X tg iter wi)
    (hg:∀C s0 H0 fp,PG (ao X scope cp tgN C s0 H0 fp) tg g)
    (ht:∀C s0 H0 fp,rM (ao X scope cp tgN C s0 H0 fp) ifs tc)
    (hi2:∀C s0 H0 fp,PI (ao X scope cp tgN C s0 H0 fp) tg2 iter2 wi2)
    (hg2:∀C s0 H0 fp,PG (ao X scope cp tgN C s0 H0 fp) tg2 g2)
    (ht2:∀C s0 H0 fp,rM (ao X scope cp tgN C s0 H0 fp) ifs2 tc2)
    (he:∀C s0 H0 fp,PE (ao X scope cp tgN C s0 H0 fp) elt te)
    (hk:scope.kind=.function)(hcell:∀y∈scope.names,y.2≠.cell)(hnames:∀y∈scope.names,y.2=.local→scope.names.lookup y.1=some .local)
    (hfr:∀y∈scope.names,y.2=.free→scope.names.lookup y.1=some .free∧sc0.names.lookup y.1=some .cell)
    (hcp:∀p∈cp,N0[p.1]?=some p.2)(hcq:∀p∈cp,sc0.names.lookup p.2=some .cell∧scope.names.lookup p.2=some .free)
    (hs2:∀C s0 H0 fp x,foldedSetIterable iter2 (ao X scope cp tgN C s0 H0 fp).env x=pure x)(hs:∀x,foldedSetIterable iter X.env x=pure x:=by intro _;rfl):
    PE X (.ListComp elt [⟨tg,iter,ifs,0⟩,⟨tg2,iter2,ifs2,0⟩] scope pos) (yq cp tgN.length wi g tc wi2 g2 tc2 te):=by
  intro pins s σ H Q I h
  have hkind:∀x,X.env.kindOf x=sc0.names.lookup x:=fun x=>by unfold Env.kindOf;rw [hsc]
  have hfree:∀y∈scope.names,y.2=.free→∃c,X.env.cells.lookup y.1=some c:=fun y hy e=>I.ok.has y.1 (.inl (by rw [hkind];exact(hfr y hy e).2))
  rw [eval_ListComp]
  refine wpAny_comprehension_free (use:=none) rfl hs (jx hfree) hk hnames (wpAny_mono (hi pins s σ H _ I h.go) (fun xv s₁ h₁=>wpAny_mono h₁ (fun itv s₂ h₂=>?_) fun _ _ e=>e) fun _ _ e=>e)
  obtain⟨it,fp,tn,J,H2,rfl,I2,T,st2,f2,hq⟩:=h₂
  refine wpAny_newObj_type ?_
  have hlF:H2 s₂.heap.objs.size=none:=I2.hok.fresh (Nat.le_refl _)
  have I3:ay X pins σ (aV H2 s₂.heap.objs.size (.lst [])) {s₂ with heap:=s₂.heap.push {cls:=.type "list",data:=.seq ([]:List Value).toArray}}:=I2.lnew (t':=s₂.toks) .nil (Nat.zero_le _)
  obtain⟨W,⟨m0,w0⟩,turn⟩:=hq _ hlF
  have f3:∀b∈fp,iL X pins (aV H2 s₂.heap.objs.size (.lst [])) b:=fun b hb=>by
    obtain⟨f0,fr⟩:=f2 b hb
    obtain⟨o,ho,_⟩:=T.obj _ _ st2 b hb
    exact⟨by rw [aB (Nat.ne_of_lt (Heap.lt_size ho))];exact f0,fr⟩
  have st3:tn 0 (s₂.heap.push {cls:=.type "list",data:=.seq ([]:List Value).toArray}):=T.keep _ _ _ st2 fun b _ o e=>Heap.get?_push_of_some _ e
  generalize hD:s₂.heap.objs.size=D at*
  generalize hs3:({s₂ with heap:=s₂.heap.push {cls:=.type "list",data:=.seq ([]:List Value).toArray}}:Shared)=s₃ at*
  have hst3:tn 0 s₃.heap:=by rw [←hs3];exact st3
  refine wpAny_newFunctionEnv hcell (by intro y hy;simp at hy) (fun h₁ hns₁ hsb₁=>?_) hk
  generalize hC:s₃.heap.objs.size=C at*
  have old:∀b o,s₃.heap.get? b=some o→h₁.get? b=some o:=fun b o e=>hsb₁.extBut b o (by rw [←hC];exact Nat.ne_of_lt (Heap.lt_size e)) (Heap.get?_push_of_some _ e)
  have nC:∀b o,s₃.heap.get? b=some o→b≠C:=fun b o e=>by rw [←hC];exact Nat.ne_of_lt (Heap.lt_size e)
  have hHC:(aV H2 D (.lst [])) C=none:=I3.hok.fresh (by rw [hC];exact Nat.le_refl _)
  have clS:∀x c,(fM X.env scope.names []).lookup x=some c→X.env.cells.lookup x=some c:=fun x c e=>ic _ _ x c hfree (fun _ _ z=>by simp at z) e
  have clH:∀x,(∃y∈scope.names,y.1=x∧y.2=.free)→∃c,(fM X.env scope.names []).lookup x=some c:=fun x e=>jT _ _ x (.inl e)
  have ok':(ao X scope cp tgN C s₃ (aV H2 D (.lst [])) fp).Ok:=by
    refine⟨I.ok.mod,hk,I.ok.glob,I.ok.blt,by rw [←hC];exact Nat.le_refl _,fun x y c e1 e2=>I.ok.inj x y c (clS _ _ e1) (clS _ _ e2),fun x e=>clH x (b_ hcell e),fun x c e1 e2=>?_,I.ok.hd,I.ok.frames,.inl rfl,fun b hb=>?_,fun b o e=>I3.bs b o e,?_,fun b o e hb=>?_,fun b hb z=>?_,I3.stack,fun b hb=>I3.stkFree b hb⟩
    · exfalso
      have e1':scope.names.lookup x=some .local:=by simpa [ao] using e1
      have e2':=clS x c e2
      obtain⟨c',hc'⟩:∃y∈scope.names,y.1=x∧y.2=.free:=by
        by_cases q:∃y∈scope.names,y.1=x∧y.2=.free
        · exact q
        · exfalso
          have:∀(names:List (Str × NameKind)) (cs:List (Str × Addr)),(¬∃y∈names,y.1=x∧y.2=.free)→cs.lookup x=none→(fM X.env names cs).lookup x=none:=by
            intro names
            induction names with
            | nil=>intro cs _ h;exact h
            | cons y r ih=>
              intro cs hn hcs
              obtain⟨n,k⟩:=y
              refine ih _ (fun⟨y,hy,z⟩=>hn ⟨y,List.mem_cons_of_mem _ hy,z⟩) ?_
              by_cases hk:(k==NameKind.free)=true
              · rw [if_pos hk,List.lookup_cons]
                cases hx:x==n with
                | true=>exact absurd ⟨(n,k),List.mem_cons_self,(by simpa using hx:x=n).symm,by simpa using hk⟩ hn
                | false=>exact hcs
              · rw [if_neg hk];exact hcs
          have z:=this scope.names [] q rfl
          have e2'':(fM X.env scope.names []).lookup x=some c:=e2
          rw [z] at e2'';cases e2''
      have z:=(hfr c' hc'.1 hc'.2.2).1
      rw [hc'.2.1,e1'] at z;cases z
    · obtain⟨f0,f1,f4,f5,f6,f7⟩:=f3 b hb
      obtain⟨o,ho,_⟩:=T.obj _ _ hst3 b hb
      exact⟨nC b o ho,fun x c e=>f6 x c (clS x c e)⟩
    · exact Nat.le_trans I.ok.bsz I3.sz
    · obtain⟨f0,f1,f4,f5,f6,f7⟩:=f3 b hb
      rcases f5 with z | z
      · exact I.ok.noex b o e z
      · have:=(I.ok.bs b o e).1
        exact absurd (Nat.lt_of_lt_of_le (Heap.lt_size this) z) (Nat.lt_irrefl _)
    · obtain⟨f0,f1,f4,f5,f6,f7⟩:=f3 b hb
      rcases List.mem_cons.mp (I3.stkSub b z) with z | z
      · exact f1 z
      · exact f4 z
  have I4:ay (ao X scope cp tgN C s₃ (aV H2 D (.lst [])) fp) [] (dC cp tgN.length σ) (aV H2 D (.lst [])) {s₃ with heap:=h₁,toks:=s₃.toks+([]:List (Str × Value)).length}:=by
    refine⟨ok',rfl,I3.bare,Un.kept old,⟨_,hns₁,fun i x v e1 e2 e3=>?_⟩,fun x c e=>?_,hHC,fun x c e=>I3.freeC x c (clS x c e),fun p hp=>by simp [ao] at hp,I3.hok.kept old,by simp [dC,ao]⟩
    · have hlt:i < cp.length:=by
        by_cases q:i < cp.length
        · exact q
        · exfalso
          unfold dC at e2
          rw [List.getElem?_append_right (by simp;lia)] at e2
          rw [List.getElem?_replicate] at e2
          split at e2<;>cases e2
      have e1':(cp.map (·.2))[i]?=some x:=by
        have e1'':(cp.map (·.2)++tgN)[i]?=some x:=e1
        rwa [List.getElem?_append_left (by simp;exact hlt)] at e1''
      have e2':(cp.map (fun p=>(σ[p.1]?).join))[i]?=some (some v):=by
        unfold dC at e2
        rwa [List.getElem?_append_left (by simp;exact hlt)] at e2
      rw [List.getElem?_map,List.getElem?_eq_getElem hlt] at e1' e2'
      have ex:(cp[i]).2=x:=by simpa using e1'
      have ev:(σ[(cp[i]).1]?).join=some v:=by simpa using e2'
      have ev':σ[(cp[i]).1]?=some (some v):=by
        cases q:σ[(cp[i]).1]? with
        | none=>rw [q] at ev;cases ev
        | some z=>rw [q] at ev;simp only [Option.join_some] at ev;rw [ev]
      have hN:=hcp cp[i] (List.getElem_mem hlt)
      rw [←hN0] at hN
      obtain⟨hcl,hcf⟩:=hcq cp[i] (List.getElem_mem hlt)
      rw [ex] at hN hcl hcf
      obtain⟨m,hn,hl⟩:=I3.loc
      obtain⟨u,r,l⟩:=hl _ x v hN ev' (.inr (.inl (by rw [hsc];exact hcl)))
      refine⟨u,r,.inr ?_⟩
      rcases l with ⟨k1,_⟩ | ⟨k1,c,hcc,o,ho,hd⟩
      · rw [hkind,hcl] at k1;cases k1
      · have e3':(relabel scope X.env).names.lookup x=some .local∨(relabel scope X.env).names.lookup x=some .cell∨(relabel scope X.env).names.lookup x=some .free:=e3
        have nl:(relabel scope X.env).names.lookup x=some .cell∨(relabel scope X.env).names.lookup x=some .free:=by
          rcases e3' with z | z | z
          · exact absurd z (dq hcf)
          · exact .inl z
          · exact .inr z
        obtain⟨c',hc'⟩:=clH x (b_ hcell nl)
        have:=clS x c' hc'
        rw [hcc] at this;cases this
        exact⟨nl,c,hc',o,old c o ho,hd⟩
    · obtain⟨v,o,ho,hd⟩:=I3.cell x c (clS x c e)
      exact⟨v,o,old c o ho,hd⟩
  have hst4:tn 0 h₁:=T.keep _ _ _ hst3 fun b _ o e=>old b o e
  have loop:codeAny (model X.prog X.w) X.A (.compLoop (.ListComp elt [⟨tg,iter,ifs,0⟩,⟨tg2,iter2,ifs2,0⟩] scope pos) 0 (.ref it) (.ref D) (compEnvC scope (fM X.env scope.names []) C X.env))
      (compPost (model X.prog X.w) X.A X.xe none (EP X pins σ Q) (.ref D) C) {s₃ with heap:=h₁,toks:=s₃.toks+([]:List (Str × Value)).length}:=by
    refine o5 (fun n s'=>∃i σ' H',ay (ao X scope cp tgN C s₃ (aV H2 D (.lst [])) fp) [] σ' H' s'∧tn i s'.heap∧(∀b∈fp,H' b=none)∧W i n σ' H') ?_ (n0:=m0) ⟨0,_,_,I4,hst4,fun b hb=>(f3 b hb).1,w0⟩
    rintro n s5 ⟨i,σ5,H5,I5,st5,fr5,w5⟩
    have stat:∀{H':Hp},(∀b∈fp,H' b=none)→∀b∈fp,iL (ao X scope cp tgN C s₃ (aV H2 D (.lst [])) fp) [] H' b:=fun hn b hb=>
      ⟨hn b hb,(ok'.exf b hb).1,ok'.exfs b hb,.inl hb,(ok'.exf b hb).2,fun p hp=>by simp [ao] at hp⟩
    rcases turn i n σ5 H5 w5 with ⟨stop,qn⟩ | ⟨go,N,hN,step⟩
    · refine bG (T.done (ao X scope cp tgN C s₃ (aV H2 D (.lst [])) fp) rfl rfl rfl hc i [] s5 σ5 H5 (fun _ _=>False) I5 (stat fr5) st5 stop) fun r s6 ⟨hr,I6⟩=>?_
      subst hr
      refine⟨fun _=>?_,fun v z=>by cases z⟩
      obtain⟨m,hn,_⟩:=I6.loc
      refine⟨m,hn,fun h' sb=>⟨.ref D,H5,?_,rfl,qn⟩⟩
      have ub:=I6.base
      have kp:∀b u,b≠C→s6.heap.get? b=some u→h'.get? b=some u:=fun b u ne e=>sb.extBut b u ne e
      have nit:∀b u,H5 b=some u→b≠C:=fun b u e z=>by
        have:=I6.free
        rw [z] at e
        rw [show H5 C=none from this] at e;cases e
      refine I3.call' (s':={s6 with heap:=h'}) (ch:=fp) I6.os ⟨fun b o e n hb hx=>kp b o (nC b o e) (ub.keep b o e n hb hx),fun b o e n hb hx=>?_,ub.free,fun b o e hx=>?_,ub.tups,ub.frzs,ub.tbls⟩ (fun b u e=>?_) I6.bare (fun b hb=>?_)
      · obtain⟨sl,q⟩:=ub.slot b o e n hb hx
        exact⟨sl,kp b _ (nC b o e) q⟩
      · obtain⟨o',q⟩:=ub.there b o e hx
        exact⟨o',kp b _ (nC b o e) q⟩
      · refine(I6.hok b u e).stay (fun c v hc q=>kp c v ?_ q) (fun _ q=>q) fun _ _ q=>q
        rcases hc with z | z
        · rw [z];exact nit b u e
        · exact nit c _ z
      · obtain⟨f0,f1,f4,f5,f6,f7⟩:=f3 b hb
        exact⟨f5,f1,f6,f7⟩
    · refine bG (T.item (ao X scope cp tgN C s₃ (aV H2 D (.lst [])) fp) rfl rfl rfl hc i [] s5 σ5 H5 (fun _ _=>False) I5 (stat fr5) st5 go) fun r s6 ⟨u,hr,h6⟩=>?_
      subst hr
      refine⟨fun z=>(by cases z),fun v z=>?_⟩
      cases z
      refine bG h6 fun _ s7 ⟨x,H7,I7,r7,y7,st7,fr7⟩=>?_
      have I7':=I7.pinned (stat fr7) (T.obj _ _ st7)
      have again:∀{σ8:L2.St} {H8:Hp} {s8:Shared},ay (ao X scope cp tgN C s₃ (aV H2 D (.lst [])) fp) ([]++i6 fp s7.heap) σ8 H8 s8→N σ8 H8→∃m,m < n∧∃i σ' H',ay (ao X scope cp tgN C s₃ (aV H2 D (.lst [])) fp) [] σ' H' s8∧tn i s8.heap∧(∀b∈fp,H' b=none)∧W i m σ' H':=fun{σ8 H8 s8} I8 n8=>by
        obtain⟨m',hm,w8⟩:=hN σ8 H8 n8
        refine⟨m',hm,i+1,σ8,H8,I8.unpinned,T.keep _ _ _ st7 fun b hb o e=>(I8.pin (b,o) (List.mem_append_right _ (List.mem_append_right _ (bP hb e)))).1,fun b hb=>?_,w8⟩
        obtain⟨o,e,d⟩:=T.obj _ _ st7 b hb
        exact(I8.pin (b,o) (List.mem_append_right _ (List.mem_append_right _ (bP hb e)))).2.1
      refine bG (hg C s₃ (aV H2 D (.lst [])) fp _ s7 σ5 H7 x u _ I7' r7 (step x H7 y7)) fun _ s8 ⟨σ8,H8,I8,q8⟩=>?_
      refine bG (ht C s₃ (aV H2 D (.lst [])) fp _ s8 σ8 H8 _ I8 q8) fun ok s9 ⟨H9,I9,q9⟩=>?_
      cases ok with
      | false=>
        rw [if_neg Bool.false_ne_true] at q9 ⊢
        exact again I9 q9
      | true=>
        rw [if_pos rfl] at q9 ⊢
        exact fun k Q' E' hk=>wO (Y:=ao X scope cp tgN C s₃ (aV H2 D (.lst [])) fp) hc rfl (hi2 C s₃ _ fp) (hg2 C s₃ _ fp) (ht2 C s₃ _ fp) (he C s₃ _ fp) (hs2 C s₃ _ fp) I9 q9 k Q' E' fun s' ⟨σ11,H11,I11,q11⟩=>hk s' (again I11 q11)
  exact codeAny_compStart_list loop (T.self X.A 0 _ _ _ hst4 loop)
def gN(g:FG)(ft:FT)(fi2:FI)(g2:FG)(ft2:FT)(fe:FE):List PyData→En→List PyData→Option (List PyData × En)
  | [],e,acc=>some (acc,e)
  | x::r,e,acc=>(g x e).bind fun e1=>(ft e1).bind fun b=>if b.1=true then(fi2 b.2).bind fun p=>if p.2.1=[] then(cH g2 ft2 fe p.1 p.2.2 acc).bind fun z=>gN g ft fi2 g2 ft2 fe r z.2 z.1 else none else gN g ft fi2 g2 ft2 fe r b.2 acc
def lx(cp:List (Nat × Str))(nT:Nat)(fi:FI)(g:FG)(ft:FT)(fi2:FI)(g2:FG)(ft2:FT)(fe:FE):FE:=fun e=>(fi e).bind fun p=>if (p.2.1.all fun q=> !(cp.any fun c=>c.1==q.1))=true then(gN g ft fi2 g2 ft2 fe p.1 (lJ cp nT p.2.2) []).bind fun z=>if kO cp z.2 p.2.2=true then some (.l z.1,lw (lc cp) z.2 p.2.2) else none else none
section
variable{K:PySem.W.Frag}{F H:Hp}{σ:L2.St}{e:En}{cp:List (Nat × Str)}{nT:Nat}
theorem vJ{Q:VK}{fi fi2:FI}{g g2:FG}{W:List Nat}{ft ft2:FT}{fe:FE}(hn:(cp.map (·.1)).Nodup)(hW:∀j∈W,cp.length≤j)(h:fE K (lx cp nT fi g ft fi2 g2 ft2 fe) σ H Q):yq cp nT (fI K fi) (fG K g W) (fT K ft) (fI K fi2) (fG K g2 W) (fT K ft2) (fE K fe) σ H Q:=by
  obtain⟨F0,e0,z,e',R0,hf,q⟩:=h
  unfold lx at hf
  obtain⟨⟨items,own,e1⟩,h1,hf⟩:=Option.bind_eq_some_iff.mp hf
  dsimp only at hf
  split at hf
  case isFalse=>cases hf
  case isTrue hO=>
  obtain⟨⟨out,eo⟩,h2,hf⟩:=Option.bind_eq_some_iff.mp hf
  dsimp only at hf
  split at hf
  case isFalse=>cases hf
  case isTrue hB=>
  cases hf
  refine⟨⟨F0,e0,items,own,e1,R0,h1,fun J F1 H1 X1 R1 kp ok=>?_⟩⟩
  intro l hl
  obtain⟨Ri,sub⟩:=R1.inn (nT:=nT) hn
  have hFl:F1 l=none:=R1.freeF hl
  let Iv:Nat→L2.St→Hp→Prop:=fun i=>CI K W (dC cp nT σ) F1 H1 (lJ cp nT e1) l fun _ ei acc=>gN g ft fi2 g2 ft2 fe (items.drop i) ei acc=some (out,eo)
  have notown:∀p∈own,∀a,σ[p.1]?=some (some (.ref a))→¬bR (dC cp nT σ) (lJ cp nT e1) H1 a:=by
    rintro p hp a ha ⟨k,zf⟩
    obtain⟨xs,c1,c2⟩:=zf.resolve_right fun⟨xss,_,_,z,_⟩=>iu k xss z
    obtain⟨i,s,d1,d2⟩:=ir c1
    have e2:=kz d1 c2
    have:p.1=i:=R1.inj p.1 i p.2 xs a (kp p hp) d2 ha e2
    have hh:=List.all_eq_true.mp hO p hp
    simp only [Bool.not_eq_true',List.any_eq_false,beq_iff_eq] at hh
    exact hh (i,s) (List.mem_of_getElem? d1) this.symm
  refine⟨fun i m σ' H'=>m=items.length - i∧i≤items.length∧Iv i σ' H',⟨items.length,by simp,Nat.zero_le _,.mk (Ri.putT hFl (fun z=>(Ri.ownH l z) hl)).1 (cF.refl.putT hl (Ri.putT hFl (fun z=>(Ri.ownH l z) hl)).2) hFl (fun z=>(Ri.ownH l (((Ri.putT hFl (fun z=>(Ri.ownH l z) hl)).2 l).mp z)) hl) ax aJ.nil h2⟩,?_⟩
  rintro i m σ' H' ⟨rfl,hi,⟨R',X',fl,no,hl',da,hc⟩⟩
  rename_i F' ei acc vs
  have held:uF K σ F' H' own:=fun p hp=>by
    obtain⟨a,us,c1,c2,c3,c4⟩:=R1.own p.1 p.2 (kp p hp)
    exact⟨a,us,c1,X'.tmp a _ c3 (notown p hp a c1),c4.mono X'.sf⟩
  obtain⟨go,stop,yld⟩:=ok F' H' X'.sf R'.sm held
  by_cases hlt:i < items.length
  · have hd:items.drop i=items[i]::items.drop (i+1):=List.drop_eq_getElem_cons hlt
    rw [hd] at hc
    unfold gN at hc
    obtain⟨e2,c2,hc⟩:=Option.bind_eq_some_iff.mp hc
    obtain⟨⟨b,e3⟩,c3,hc⟩:=Option.bind_eq_some_iff.mp hc
    refine .inr ⟨go i hlt,Iv (i+1),fun σ2 H2 r=>⟨items.length - (i+1),by lia,rfl,hlt,r⟩,fun x H2 hy=>?_⟩
    obtain⟨F2,sH,sF2,sm2,fz,hx⟩:=yld i items[i] x H2 (List.getElem?_eq_getElem hlt) hy
    obtain⟨R2,X2⟩:=R'.step sH sF2 sm2 fz
    refine⟨F2,ei,items[i],e2,R2,hx,c2,fun σ3 X3 R3=>⟨F2,e2,b,e3,R3,c3,fun F4 H4 X4 R4=>?_⟩⟩
    have hlH2:H2 l=some (.lst vs):=sH _ _ hl'
    have no2:¬bR σ' ei H2 l:=fun z=>by
      rcases X2.ow l z with z | z
      · exact no z
      · rw [hl'] at z;cases z
    have no3:¬bR σ3 e2 H2 l:=fun z=>by
      rcases X3.own l z with z | z
      · exact no2 z
      · rw [hlH2] at z;cases z
    have fl2:F2 l=none:=fz l fl (by rw [hl'];simp)
    have hlH4:H4 l=some (.lst vs):=X4.tmp l _ hlH2 no3
    have fl4:F4 l=none:=X4.fr l vs fl2 hlH2 no3
    have no4:¬bR σ3 e3 H4 l:=fun z=>by
      rcases X4.ow l z with z | z
      · exact no3 z
      · rw [hlH2] at z;cases z
    have E4:cF W (dC cp nT σ) F1 H1 (lJ cp nT e1) σ3 F4 H4 e3:=((X'.trans X2.s).trans X3).trans X4.s
    have da4:=da.mono (sF2.trans X4.sf)
    cases b with
    | false=>
      rw [if_neg (by simp)] at hc
      exact wX (.mk R4 E4 fl4 no4 hlH4 da4 hc)
    | true=>
      rw [if_pos rfl] at hc
      obtain⟨⟨its2,own2,e5⟩,c5,hc⟩:=Option.bind_eq_some_iff.mp hc
      dsimp only at hc
      split at hc
      case isFalse=>cases hc
      case isTrue ho2=>
      subst ho2
      obtain⟨⟨acc2,e6⟩,c6,hc⟩:=Option.bind_eq_some_iff.mp hc
      refine wY ⟨F4,e3,its2,[],e5,R4,c5,fun J2 F5 H5 X5 R5 _ ok2=>?_⟩
      have hlH5:H5 l=some (.lst vs):=X5.tmp l _ hlH4 no4
      have fl5:F5 l=none:=X5.fr l vs fl4 hlH4 no4
      have no5:¬bR σ3 e5 H5 l:=fun z=>by
        rcases X5.ow l z with z | z
        · exact no4 z
        · rw [hlH4] at z;cases z
      let Iv2:Nat→L2.St→Hp→Prop:=fun j=>CI K W (dC cp nT σ) F1 H1 (lJ cp nT e1) l fun F' ei acc=>av F5 F'∧cH g2 ft2 fe (its2.drop j) ei acc=some (acc2,e6)
      refine⟨fun j m σ' H'=>m=its2.length - j∧j≤its2.length∧Iv2 j σ' H',⟨its2.length,by simp,Nat.zero_le _,.mk R5 (E4.trans X5.s) fl5 no5 hlH5 (da4.mono X5.sf) ⟨av.refl _,c6⟩⟩,?_⟩
      rintro j m σ6 H6 ⟨rfl,hj,⟨R6,X6,fl6,no6,hl6,da6,s6,hc6⟩⟩
      rename_i F6 ei6 acc6 vs6
      obtain⟨go2,stop2,yld2⟩:=ok2 F6 H6 s6 R6.sm (fun p hp=>by cases hp)
      by_cases hjt:j < its2.length
      · have hd2:its2.drop j=its2[j]::its2.drop (j+1):=List.drop_eq_getElem_cons hjt
        rw [hd2] at hc6
        unfold cH at hc6
        obtain⟨e7,c7,hc6⟩:=Option.bind_eq_some_iff.mp hc6
        obtain⟨⟨b8,e8⟩,c8,hc6⟩:=Option.bind_eq_some_iff.mp hc6
        refine .inr ⟨go2 j hjt,Iv2 (j+1),fun σ2 H2 r=>⟨its2.length - (j+1),by lia,rfl,hjt,r⟩,fun x7 H7 hy7=>?_⟩
        obtain⟨F7,sH7,sF7,sm7,fz7,hx7⟩:=yld2 j its2[j] x7 H7 (List.getElem?_eq_getElem hjt) hy7
        obtain⟨R7,X7⟩:=R6.step sH7 sF7 sm7 fz7
        refine⟨F7,ei6,its2[j],e7,R7,hx7,c7,fun σ8 X8 R8=>⟨F7,e7,b8,e8,R8,c8,fun F9 H9 X9 R9=>?_⟩⟩
        have hlH7:H7 l=some (.lst vs6):=sH7 _ _ hl6
        have no7:¬bR σ6 ei6 H7 l:=fun z=>by
          rcases X7.ow l z with z | z
          · exact no6 z
          · rw [hl6] at z;cases z
        have no8:¬bR σ8 e7 H7 l:=fun z=>by
          rcases X8.own l z with z | z
          · exact no7 z
          · rw [hlH7] at z;cases z
        have fl7:F7 l=none:=fz7 l fl6 (by rw [hl6];simp)
        have hlH9:H9 l=some (.lst vs6):=X9.tmp l _ hlH7 no8
        have fl9:F9 l=none:=X9.fr l vs6 fl7 hlH7 no8
        have no9:¬bR σ8 e8 H9 l:=fun z=>by
          rcases X9.ow l z with z | z
          · exact no8 z
          · rw [hlH7] at z;cases z
        have E9:cF W (dC cp nT σ) F1 H1 (lJ cp nT e1) σ8 F9 H9 e8:=((X6.trans X7.s).trans X8).trans X9.s
        have s9:av F5 F9:=(s6.trans sF7).trans X9.sf
        cases b8 with
        | false=>
          rw [if_neg (by simp)] at hc6
          exact wX (.mk R9 E9 fl9 no9 hlH9 (da6.mono (sF7.trans X9.sf)) ⟨s9,hc6⟩)
        | true=>
          rw [if_pos rfl] at hc6
          obtain⟨⟨r,e10⟩,c10,hc6⟩:=Option.bind_eq_some_iff.mp hc6
          obtain⟨d,c11,hc6⟩:=Option.bind_eq_some_iff.mp hc6
          split at hc6
          case isFalse=>cases hc6
          case isTrue hlen=>
          refine wY ⟨F9,e8,r,e10,R9,c10,fun Fa Ha v Xa Ra Aa=>?_⟩
          have hlHa:Ha l=some (.lst vs6):=Xa.tmp l _ hlH9 no9
          have fla:Fa l=none:=Xa.fr l vs6 fl9 hlH9 no9
          have noa:¬bR σ8 e10 Ha l:=fun z=>by
            rcases Xa.ow l z with z | z
            · exact no9 z
            · rw [hlH9] at z;cases z
          obtain⟨Fb,Rb,sb,db,fb⟩:=dD.frozen Ra (rs:=[r]) (vs:=[v]) ⟨v,[],rfl,Aa,rfl⟩ (nW c11)
          have flb:Fb l=none:=fb l fla (by rw [hlH9];simp)
          have Xb:=Xa.frz sb fb
          have ll:=da6.len
          have sl:sizeLine=16777216:=sizeLine_eq
          have dv:DA K Fb d v:=by
            simp only [aJ] at db
            obtain⟨v',r',e',hv,_⟩:=db
            cases e';exact hv
          obtain⟨Rc,oc⟩:=Rb.putT (ws:=vs6++[v]) flb noa
          exact⟨vs6,hlHa,by lia,.mk Rc ((E9.trans Xb.s).putT hl oc) flb (fun z=>noa ((oc l).mp z)) ax ((da6.mono (sF7.trans (X9.sf.trans (Xa.sf.trans sb)))).append (aJ.one dv)) ⟨s9.trans (Xa.sf.trans sb),hc6⟩⟩
      · have hd2:its2.drop j=[]:=List.drop_eq_nil_of_le (by lia)
        rw [hd2] at hc6
        cases hc6
        exact .inl ⟨stop2 j (by lia),.mk R6 X6 fl6 no6 hl6 da6 hc⟩
  · have hd:items.drop i=[]:=List.drop_eq_nil_of_le (by lia)
    rw [hd] at hc
    cases hc
    refine .inl ⟨stop i (by lia),?_⟩
    obtain⟨R9,X9,o9⟩:=mY R1 sub iu X'.sf X'.dom X'.fr X'.lst X'.tmp X'.fd R' (fun i k xs g1 g2=>X'.wr k fun z=>by
      obtain⟨s,g⟩:=dY g2
      have:=(List.getElem?_eq_some_iff.mp g).1
      have:=hW k z
      lia) fun i k xs g1 g2=>by
        obtain⟨s,g⟩:=dY g2
        unfold kO at hB
        have hb:=List.all_eq_true.mp hB _ (List.mem_of_getElem? g)
        simp only [g1,g2,Option.getD_some,wQ,Bool.not_true,Bool.false_or] at hb
        exact tZ.mp hb
    exact q F' H' (.ref l) (X1.trans X9) R9 ⟨l,vs,rfl,X1.dom l hl,fl,hl',da,fun z=>R1.ownH l (o9 l z) hl⟩
end
theorem PG.wide{X:Cx}{K:PySem.W.Frag}{tg:Expr}{g:FG}{W W':List Nat}(h:PG X tg (fG K g W))(hw:∀j,j∈W→j∈W'):PG X tg (fG K g W'):=h.mono fun v σ H Q ⟨F,e,x,e',R,d,hg,q⟩=>⟨F,e,x,e',R,d,hg,fun σ' x=>q σ' (x.mono hw)⟩
section
variable{X:Cx}{K:PySem.W.Frag}{pos:Pos}
theorem Af{elt iter tg iter2 tg2:Expr}{ifs ifs2:List Expr}{scope:Scope}{fi fi2:FI}{g g2:FG}{ft ft2:FT}{fe:FE}{W W2:List Nat}(sc0:Scope)(N0:List Str)(cp:List (Nat × Str))(tgN:List Str)
    (hc:X.calm=true)(hsc:X.env.scope=sc0)(hN0:X.N=N0)(hi:PI X tg iter (fI K fi))
    (hg:∀C s0 H0 fp,PG (ao X scope cp tgN C s0 H0 fp) tg (fG K g W))
    (ht:∀C s0 H0 fp,rM (ao X scope cp tgN C s0 H0 fp) ifs (fT K ft))
    (hi2:∀C s0 H0 fp,PI (ao X scope cp tgN C s0 H0 fp) tg2 iter2 (fI K fi2))
    (hg2:∀C s0 H0 fp,PG (ao X scope cp tgN C s0 H0 fp) tg2 (fG K g2 W2))
    (ht2:∀C s0 H0 fp,rM (ao X scope cp tgN C s0 H0 fp) ifs2 (fT K ft2))
    (he:∀C s0 H0 fp,PE (ao X scope cp tgN C s0 H0 fp) elt (fE K fe))
    (hk:scope.kind=.function)(hcell:∀y∈scope.names,y.2≠.cell)(hnames:∀y∈scope.names,y.2=.local→scope.names.lookup y.1=some .local)
    (hfr:∀y∈scope.names,y.2=.free→scope.names.lookup y.1=some .free∧sc0.names.lookup y.1=some .cell)
    (hcp:∀p∈cp,N0[p.1]?=some p.2)(hcq:∀p∈cp,sc0.names.lookup p.2=some .cell∧scope.names.lookup p.2=some .free)(hnd:(cp.map (·.1)).Nodup)(hW:∀j∈W++W2,cp.length≤j)
    (hs2:∀C s0 H0 fp x,foldedSetIterable iter2 (ao X scope cp tgN C s0 H0 fp).env x=pure x)(hs:∀x,foldedSetIterable iter X.env x=pure x):
    PE X (.ListComp elt [⟨tg,iter,ifs,0⟩,⟨tg2,iter2,ifs2,0⟩] scope pos) (fE K (lx cp tgN.length fi g ft fi2 g2 ft2 fe)):=
  (xC sc0 N0 cp tgN hc hsc hN0 hi (fun C s0 H0 fp=>(hg C s0 H0 fp).wide fun j hj=>List.mem_append_left W2 hj) ht hi2 (fun C s0 H0 fp=>(hg2 C s0 H0 fp).wide fun j hj=>List.mem_append_right W hj) ht2 he hk hcell hnames hfr hcp hcq hs2 hs).mono fun _ _ _ h=>vJ hnd hW h
end
section
variable{X:Cx}{K:PySem.W.Frag}{pos:Pos}
variable{o:Expr}{fo:FE}{apos cpos:Pos}
end
end L2
namespace L2
open PySem PySem.Spec PyProof.Rows
section
variable{X:Cx}{K:PySem.W.Frag}
def Hn:List Int→Int
  | []=>0
  | x::r=>r.foldl max x
end
end L2
namespace L2
open PySem PySem.Spec PyProof.Rows
structure Hc (f:Fr):Prop where
  pos:0 < f.2
  cop:Int.gcd f.1 f.2=1
def Hk(t:gL)(b:Bool):Fr:=if b then(t.top,t.bot) else(t.bot - t.top,t.bot)
abbrev Pg:=List Int × Int
def Ho(t:gL)(p:Pg):Bool:= !p.1.contains t.one&& !p.1.contains t.other
def Gj(t:gL)(p:Pg):Pg:=(p.1++[t.one,t.other],p.2+t.worth)
def Hr(ps:List Pg)(t:gL):List Pg:=ps++(ps.filter (Ho t)).map (Gj t)
def Hq(ts:List gL):List Pg:=ts.foldl Hr [([],0)]
structure GU (k:Nat) (ps:List Pg):Prop where
  ne:ps≠[]
  len:ps.length≤2 ^ k
  pt:∀p∈ps,p.1.length≤2*k∧0≤p.2∧p.2≤1000*(k:Int)
def GX(ts:List gL):Int:=Hn ((Hq ts).map (·.2))
end L2
namespace L2
open PySem PySem.Spec PyProof.Rows
end L2
namespace L2
open PySem PySem.Spec PyProof.Rows
section
variable{prog:Program}{w:World}{A:Around}{E:Value→Shared→Prop}{s:Shared}
end
section
variable{X:Cx}{a:Expr}{ta:TA}{p p2 pos pos2:Pos}
variable{K:PySem.W.Frag}{fs:FA}{p3:Pos}
end
end L2
namespace L2
open PySem PySem.Spec PyProof.Rows
def Ej:PyData→Bool
  | .int _=>true
  | _=>false
def cn(lo hi:Int):PyData→Bool
  | .int i=>decide (lo≤i)&&decide (i≤hi)
  | _=>false
theorem dW{lo hi:Int}:∀{ds:List PyData},ds.all (cn lo hi)=true→∃ns:List Int,ds=ns.map .int∧∀x∈ns,lo≤x∧x≤hi
  | [],_=>⟨[],rfl,fun _ h=>by cases h⟩
  | d::r,h=>by
    rw [List.all_cons,Bool.and_eq_true] at h
    obtain⟨ns,rfl,hn⟩:=dW h.2
    cases d with
    | int i=>
      have h1:=h.1
      simp only [cn,Bool.and_eq_true,decide_eq_true_eq] at h1
      refine⟨i::ns,rfl,fun x hx=>?_⟩
      rcases List.mem_cons.mp hx with rfl | hx
      · exact h1
      · exact hn x hx
    | _=>simp [cn] at h
theorem kM{lo hi:Int}:∀(ns:List Int),(ns.map PyData.int).all (cn lo hi)=ns.all fun i=>decide (lo≤i)&&decide (i≤hi)
  | []=>rfl
  | x::r=>by simp only [List.map_cons,List.all_cons,kM r,cn]
theorem wm:∀(ns acc:List Int),(ns.foldl step_dedup acc).length≤acc.length+ns.length
  | [],acc=>by simp
  | x::r,acc=>by
    have:=wm r (step_dedup acc x)
    have h2:(step_dedup acc x).length≤acc.length+1:=by unfold step_dedup;split<;>simp
    simp only [List.foldl_cons,List.length_cons]
    lia
theorem qe:∀(ns acc:List Int),(ns.foldl step_dedup acc).length=acc.length+ns.length→ns.Nodup∧∀x∈ns,x∉acc
  | [],acc,_=>⟨List.nodup_nil,fun x h=>by cases h⟩
  | x::r,acc,h=>by
    simp only [List.foldl_cons,List.length_cons] at h
    have hl:=wm r (step_dedup acc x)
    by_cases c:(acc.any fun y=>y==x)=true
    · have:step_dedup acc x=acc:=by unfold step_dedup;rw [if_pos c]
      rw [this] at h hl
      lia
    · have e:step_dedup acc x=acc++[x]:=by unfold step_dedup;rw [if_neg c]
      rw [e] at h
      obtain⟨h1,h2⟩:=qe r (acc++[x]) (by rw [h];simp;lia)
      have hx:x∉r:=fun z=>h2 x z (by simp)
      refine⟨List.nodup_cons.mpr ⟨hx,h1⟩,fun y hy=>?_⟩
      rcases List.mem_cons.mp hy with rfl | hy
      · simpa using c
      · exact fun z=>h2 y hy (by simp [z])
theorem y0{ns:List Int}:(vN ns).length=ns.length↔ ns.Nodup:=⟨fun h=>(qe ns [] (by simpa [vN] using h)).1,y3⟩
def iJ(many:Int):List Int→List PyData→Bool
  | _,[]=>true
  | pre,.int i::r=>cn 0 (many - 1) (.int i)&&(!pre.contains i&&iJ many (pre++[i]) r)
  | _,_::_=>false
theorem p5{many:Int}:∀(ns pre:List Int),iJ many pre (ns.map .int)=((ns.all fun i=>decide (0≤i)&&decide (i≤many - 1))&&decide (ns.Nodup∧∀x∈ns,x∉pre))
  | [],pre=>by simp [iJ]
  | x::r,pre=>by
    simp only [List.map_cons,iJ,p5 r,List.all_cons,cn]
    rw [Bool.eq_iff_iff]
    simp only [Bool.and_eq_true,decide_eq_true_eq,List.nodup_cons,List.mem_append,List.mem_singleton,not_or,Bool.not_eq_true',List.contains_eq_mem,decide_eq_false_iff_not,List.mem_cons,forall_eq_or_imp]
    constructor
    · rintro⟨a,b,c,d,e⟩
      exact⟨⟨a,c⟩,⟨fun h=>(e x h).2.1 rfl,d⟩,b,fun y hy=>(e y hy).1⟩
    · rintro⟨⟨a,c⟩,⟨d1,d2⟩,b,e⟩
      exact⟨a,b,c,d2,fun y hy=>⟨e y hy,fun z=>d1 (z ▸ hy),by simp⟩⟩
theorem kL{many:Int}:∀{ds:List PyData} {pre:List Int},iJ many pre ds=true→ds.all (cn 0 (many - 1))=true
  | [],_,_=>rfl
  | .int i::r,pre,h=>by
    simp only [iJ,Bool.and_eq_true] at h
    rw [List.all_cons,h.1,kL h.2.2];rfl
  | .none::_,_,h=>by simp [iJ] at h
  | .bool _::_,_,h=>by simp [iJ] at h
  | .str _::_,_,h=>by simp [iJ] at h
  | .list _::_,_,h=>by simp [iJ] at h
  | .tuple _::_,_,h=>by simp [iJ] at h
  | .dict _::_,_,h=>by simp [iJ] at h
def yC(many:Int):PyData→Bool
  | .tuple ds=>iJ many [] ds
  | _=>false
theorem kR{α:Type}(p:α→Bool):∀(ds:List α),kP (ds.map fun d=>PyData.bool (p d))=some (ds.map p)
  | []=>rfl
  | d::r=>by simp [kP,kR p r]
theorem jY{α:Type}{e:En}(p:α→Bool)(ds:List α):g1 (fR lH) e [.l (ds.map fun d=>.bool (p d))]=some (.d (.bool (ds.all p))):=by
  simp [g1,fR,cZ,lH,kR p,List.all_map]
theorem wz{α:Type}{e:En}(p:α→Bool)(ds:List α):g1 (fR qo) e [.l (ds.map fun d=>.bool (p d))]=some (.d (.bool (ds.any p))):=by
  simp [g1,fR,cZ,qo,kR p,List.any_map]
theorem pw{e:En}{ns:List Int}(h:ns.length≤1000):jg e (.d (.tuple (ns.map .int)))=some (.d (.int (vN ns).length)):=by
  simp [jg,cZ,g_,h]
theorem cut_pre{xs ys:List PyData}:cutD (xs++ys) none (some (xs.length:Int))=xs:=by
  unfold cutD
  rw [HT.sIx_none,HT.sIx_nat]
  simp
theorem mz{α:Type}:∀(l:List α) (i:Nat) (h:i < l.length),(l[i]::l.eraseIdx i).Perm l
  | x::r,0,_=>.refl _
  | x::r,i+1,h=>(List.Perm.swap x _ _).trans ((mz r i (by simpa using h)).cons x)
  | [],_,h=>by simp at h
theorem cut_len{xs:List PyData}{lo hi:Option Int}:(cutD xs lo hi).length≤xs.length:=by
  unfold cutD
  rw [List.length_take,List.length_drop]
  lia
end L2
namespace L2
open PySem PySem.Spec PyProof.Rows
mutual
def wt:PyData→Nat
  | .list xs=>yF xs+1
  | .tuple xs=>yF xs+1
  | .dict _=>1
  | .none=>1
  | .bool _=>1
  | .int _=>1
  | .str _=>1
def yF:List PyData→Nat
  | []=>0
  | x::r=>wt x+yF r
end
structure Hx (d:PyData) (k:Nat):Prop where
  lay:d.canLay0=true
  sh:d.showable=true
  dp:d.depth≤k
  ln:d.shown.length+2≤104*wt d
  so:PyData.strOk d.shown=true
def sI(n:Int):PyData→Bool
  | .tuple ds=>(ds.length:Int)==n
  | _=>false
theorem wA{e:En}{s:Str}(h:PyData.strOk s=true):cE true e (.d (.str s)) (.d (.str s))=some (.d (.bool false)):=by
  unfold cE
  simp only [iF,Option.bind_some]
  have h0:SeqAt.shaped (.str s)=true:=by simp [SeqAt.shaped,PyData.canLay0,PyData.depth,h]
  rw [h0]
  simp [PyData.eqv]
end L2
namespace L2
open PySem PySem.Spec PyProof.Rows
section
variable{X:Cx}{K:PySem.W.Frag}
variable{a b:Expr}{fa fb:FE}{pos:Pos}
end
end L2
namespace L2
open PySem PySem.Spec PyProof.Rows
def tx(s:Str):List Nat:=s.cps.toList
end L2
namespace L2
open PySem PySem.Spec PyProof.Rows
end L2
namespace L2
open PySem PySem.Spec PyProof.Rows
end L2
namespace L2
open PySem PySem.Spec PyProof.Rows
section
variable{X:Cx}{K:PySem.W.Frag}{es:List Expr}{k0:Nat}{tp:Pos}{a b:Expr}{fs:FA}{p pos:Pos}
def tY(fs:FA):FI:=fun e=>(fs e).bind fun p=>match p.1 with
  | [.d (.tuple xs),.d (.tuple ys)]=>some (iK xs ys,[],p.2)
  | _=>none
theorem Ah(hK:X.K=K)(hg:Gl X "zip")(hm:X.mg "zip"=none)(ha:PA X [a,b] (fA K fs))(hs:starEach [a,b] X.env=[(false,eval a X.env),(false,eval b X.env)])(hs2:starEach [b] X.env=[(false,eval b X.env)]):PI X (.Tuple es k0 tp) (.Call (.Name "zip" p) [a,b] [] pos) (fI K (tY fs)):=
    (CU (es:=es) (k0:=k0) (tp:=tp) hK hg hm ha hs hs2).mono fun σ H R hh=>by
  obtain⟨F,e,items,own,e',R0,hf,q⟩:=hh
  unfold tY at hf
  obtain⟨⟨rs,e1⟩,h1,hf⟩:=Option.bind_eq_some_iff.mp hf
  match rs,h1,hf with
  | [.d (.tuple xs),.d (.tuple ys)],h1,hf=>
  cases hf
  refine⟨F,e,_,e1,R0,h1,fun F1 H1 vs X1 R1 A1=>?_⟩
  obtain⟨v,u,rfl,a1,a2⟩:=pT A1
  obtain⟨p1,vs,rfl,s1,d1⟩:=cI.mp (show DA K F1 (.tuple xs) v from a1)
  obtain⟨p2,us,rfl,s2,d2⟩:=cI.mp (show DA K F1 (.tuple ys) u from a2)
  exact⟨p1,p2,rfl,⟨vs,R1.sm.tup s1⟩,⟨us,R1.sm.tup s2⟩,q _ F1 H1 X1 R1 (fun z hz=>by cases hz) (wW (own1:=[]) (own2:=[]) (P:=cW K) (Q:=cW K) (.tup s1 d1) (.tup s2 d2) (fun _ _ h=>h) (fun _ _ h=>h) (fun i H vs us x y h1 h2 h3 h4=>⟨vs,us,x,y,h1,h2,h3,h4⟩) (fun i H vs us h1 h2 h3=>⟨vs,us,h1,h2,h3⟩) fun i H v H' h=>h)⟩
end
end L2
namespace L2
open PySem PySem.Spec PyProof.Rows
def Hm(x:Nd)(b:Bool):Int:=if b=true then x.yes else x.no
def Bj(T:List Nd)(i:Nat)(b:Bool):Int:=match T[i]? with
  | some x=>Hm x b
  | none=> -1
def Gh(T:List Nd):Prop:=∀(i j:Nat) (a b:Bool),Bj T i a=Bj T j b→Bj T i a≠ -1→i=j∧a=b
def GP(w:Wt):Int × Int:=(w.par,w.side)
structure HA (T:List Nd) (ws:List Wt):Prop where
  unq:Gh T
  rng:∀i a,Bj T i a= -1∨(0 < Bj T i a∧Bj T i a < (T.length:Int))
  free:∀w∈ws,w.par= -1∨(0≤w.par∧w.par < (T.length:Int)∧Bj T w.par.toNat (w.side==0)= -1)
  dst:(ws.map GP).Nodup
  side:∀w∈ws,w.side=0∨w.side=1
structure HD (T:List Nd) (w0 ws order:List Int):Prop where
  nd:(order++ws).Nodup
  par:∀v∈order++ws,v=0∨∃u∈order,∃b,Bj T u.toNat b=v∧v≠ -1
  fst:(order=[]∧ws=w0)∨order[0]?=some 0
theorem vI{cp:List (Nat × Str)}{nT:Nat}{fi fi2:FI}{g g2:FG}{ft ft2:FT}{fe:FE}{e e1 cs:En}{t t':En}{items out:List PyData}(h1:fi e=some (items,[],e1))(hc:lJ cp nT e1=cs++t)(hl:cs.length=cp.length)(h3:gN g ft fi2 g2 ft2 fe items (lJ cp nT e1) []=some (out,cs++t')):lx cp nT fi g ft fi2 g2 ft2 fe e=some (.l out,e1):=by
  have key:=cO (cp:=cp) (nT:=nT) (fi:=fun _=>some ([.none],[],e1)) (g:=fun _ _=>some (cs++t')) (ft:=fun e=>some (false,e)) (fe:=fe) (e:=e) (cs:=cs) (t:=t) (t':=t') (out:=[]) rfl hc hl rfl
  have c0:cH (fun _ _=>some (cs++t')) (fun e=>some (false,e)) fe [.none] (lJ cp nT e1) []=some ([],cs++t'):=rfl
  unfold cD at key
  unfold lx
  rw [h1]
  simp only [Option.bind_some,List.all_nil,if_true,h3,c0] at key ⊢
  split at key
  · rename_i q
    rw [if_pos q]
    have:=Option.some.inj key
    have e2:lw (lc cp) (cs++t') e1=e1:=(Prod.ext_iff.mp this).2
    rw [e2]
  · cases key
end L2
namespace L2
open PySem PySem.Spec PyProof.Rows
section
variable{prog:Program}{w:World}{A:Around}{E:Value→Shared→Prop}{s:Shared}
end
section
variable{X:Cx}{tg a:Expr}{ta:TA}{p pos:Pos}
end
section
variable{X:Cx}{K:PySem.W.Frag}{σ:L2.St}{tg a:Expr}{fs:FA}{p pos:Pos}
end
end L2
namespace L2
open PySem PySem.Spec PyProof.Rows
section
variable{X:Cx}{a k:Expr}{p2 pos:Pos}{fa fk:FE}{K:PySem.W.Frag}
theorem sv(n:Nat):Builtin.Slice.slicePlaces ((n:Int) - 1) (-1) (-1)=n:=by
  unfold Builtin.Slice.slicePlaces
  rw [if_neg (by decide),show(- -1:Int)=1 from rfl]
  split<;>lia
theorem qj{α β:Type}{f g:α→Option β}:∀{l:List α},(∀x∈l,f x=g x)→l.filterMap f=l.filterMap g
  | [],_=>rfl
  | x::r,h=>by rw [List.filterMap_cons,List.filterMap_cons,h x (by simp),qj fun y hy=>h y (by simp [hy])]
theorem xM(xs:Array Value):((List.range xs.size).filterMap fun(m:Nat)=>xs[((xs.size:Int) - 1+(m:Int)*(-1)).toNat]?).toArray=xs.toList.reverse.toArray:=by
  have e:(List.range xs.size).filterMap (fun(m:Nat)=>xs[((xs.size:Int) - 1+(m:Int)*(-1)).toNat]?)=((List.range xs.size).map fun k=>xs.size - 1 - k).filterMap (xs[·]?):=by
    rw [List.filterMap_map]
    refine qj fun m hm=>?_
    have:=List.mem_range.mp hm
    show xs[_]?=xs[xs.size - 1 - m]?
    congr 1
    lia
  rw [e,PySem.W.krv_range,List.filterMap_reverse,PySem.W.krv_all]
section
variable{prog:Program}{w:World}{A:Around}{E:Value→Shared→Prop}{s:Shared}
theorem lm{sl:Addr}{t:Tok}{n:Nat}{Q:Int × Int × Nat→Shared→Prop}(hs:s.heap.IsSliceOf sl .none .none (.int (-1) t))(h:Q ((n:Int) - 1, -1,n) s):wpAny (model prog w) A (Builtin.Slice.sliceApplied (.ref sl) (pure (n:Int))) Q E s:=by
  obtain⟨os,hos,hcs,hds⟩:=id hs
  unfold Builtin.Slice.sliceApplied Builtin.Slice.sliceFields
  refine wpAny_bind (wpAny_bind (wpAny_field hos hds (x:=.none) rfl (wpAny_bind (wpAny_field hos hds (x:=.none) rfl (wpAny_bind (wpAny_field hos hds (x:=.int (-1) t) rfl (wpAny_pure ?_)))))))
  refine wpAny_bind (HT.slicePart_ (.int (-1) t) ?_)
  show wpAny _ _ (if ((-1:Int)==0)=true then _ else _) _ _ s
  rw [if_neg (by decide)]
  refine wpAny_bind (HT.slicePart_ .none (wpAny_bind (HT.slicePart_ .none (wpAny_bind (wpAny_pure ?_)))))
  show wpAny _ _ (pure ((n:Int) - 1,(-1:Int),Builtin.Slice.slicePlaces ((n:Int) - 1) (-1) (-1))) _ _ s
  rw [sv]
  exact wpAny_pure h
theorem j3{t sl:Addr}{items:Array Value}{tk:Tok}{Q:Value→Shared→Prop}(ht:IsTup s.heap t items)(hs:s.heap.IsSliceOf sl .none .none (.int (-1) tk))
    (h:Q (.ref s.heap.objs.size) {s with heap:=s.heap.push {cls:=.type "tuple",data:=.seq items.toList.reverse.toArray}})(hsz:items.size≤sizeLine):wpAny (model prog w) A (getItem (.ref t) (.ref sl)) Q E s:=by
  have htake:sizeOk (.seq items.toList.reverse.toArray):=by
    show items.toList.reverse.toArray.size≤sizeLine
    rw [List.size_toArray,List.length_reverse,Array.length_toList]
    exact hsz
  obtain⟨os,hos,hcs,hds⟩:=id hs
  have hTs:s.TypeIs (.ref sl) "slice":=⟨os,hos,hcs⟩
  unfold getItem
  try with_reducible refine wpAny_holding ?_
  first | refine wpAny_bind (wpAny_pure ?_) | skip
  refine wpAny_bind (wpAny_sequenceKey ht.typeIs (by decide) ?_)
  refine wpAny_bind (wpAny_callSpecial?_slot (name:=Str.ofString "__getitem__") ht.typeIs PyProof.Rows.slot_tuple_getitem
    (wpAny_call_entry PyProof.Rows.slot_tuple_getitem ht.typeIs entry_tuple_getitem ?_ (args_tuple_getitem _ _)))
  show wpAny _ _ (Builtin.Tuple.tupleItemsOf (.ref t) >>= _) _ _ s
  refine wpAny_bind (tupleItemsOf_ ht ?_)
  refine wpAny_bind (wpAny_typeOf hTs ?_)
  rw [if_pos (by decide)]
  refine wpAny_bind (lm hs ?_)
  have hno:¬((((items.size:Int) - 1)==0&&(-1:Int)==1&&items.size==items.size)=true):=by
    intro q
    rw [Bool.and_eq_true,Bool.and_eq_true] at q
    have q1:((-1:Int)==1)=true:=q.1.2
    exact absurd q1 (by decide)
  show wpAny _ _ (if (((items.size:Int) - 1)==0&&(-1:Int)==1&&items.size==items.size)=true then _ else _) _ _ s
  rw [if_neg hno,xM]
  first
    | exact wpAny_bind (m:=Builtin.Tuple.tupleExact _) (wpAny_newObj_type (wpAny_pure ⟨_,rfl,wpAny_pure h⟩) htake)
    | exact wpAny_bind (m:=Builtin.Tuple.tupleExact _) (wpAny_newObj_type (wpAny_bind (wpAny_pure (wpAny_pure ⟨_,rfl,wpAny_pure h⟩))) htake)
    | exact wpAny_bind (wpAny_bind (m:=Builtin.Tuple.tupleExact _) (wpAny_newObj_type (wpAny_pure (wpAny_pure ⟨_,rfl,wpAny_pure h⟩)) htake))
    | exact wpAny_bind (wpAny_bind (m:=Builtin.Tuple.tupleExact _) (wpAny_newObj_type (wpAny_pure ⟨_,rfl,wpAny_pure h⟩) htake))
end
def Ht(K:PySem.W.Frag)(te tk:TE):TE:=fun σ H Q=>te σ H fun x H1=>tk σ H1 fun y H2=>y=.int (-1)∧((∃a xs,x=.ref a∧gA K H2 a xs∧∀p,H2 p=none→Q (.ref p) (aV H2 p (.lst xs.reverse)))∨∃a xs,x=.ref a∧cW K H2 a xs∧∀p,H2 p=none→Q (.ref p) (aV H2 p (.tup xs.reverse)))
theorem EI{te tk:TE}(he:PE X a te)(hk:PE X k tk):PE X (.Subscript a (.Slice none none (some k) p2) pos) (Ht X.K te tk):=by
  intro pins s σ H Q I h
  refine Subscript_ (bG (he pins s σ H _ I h) fun v s1 ⟨x,H1,I1,r1,q1⟩=>?_)
  refine wpAny_Slice ?_
  rw [evalPart_none]
  refine wpAny_pure (wpAny_pure ?_)
  refine bG (hk pins s1 σ H1 _ I1 q1) fun vk s3 ⟨y,H3,I3,rk,e,q⟩=>?_
  subst e
  obtain⟨t,rfl⟩:∃t,vk=.int (-1) t:=rk
  have I4:ay X pins σ H3 {s3 with heap:=s3.heap.push {cls:=.type "slice",data:=.fields #[.none,.none,.int (-1) t]}}:=I3.kept (t':=s3.toks) fun b ob q=>Heap.get?_push_of_some _ q
  rcases q with ⟨b,xs,ex,hx,q⟩ | ⟨b,xs,ex,hx,q⟩
  · subst ex
    cases r1
    obtain⟨its,r,ht,hz⟩:=I4.list hx
    have hlen:=r.length
    show wpAny (model X.prog X.w) X.A (subscriptTail a (.Slice none none (some k) p2) (.ref b) (.ref s3.heap.objs.size)) (EP X pins σ Q) X.xe {s3 with heap:=s3.heap.push {cls:=.type "slice",data:=.fields #[.none,.none,.int (-1) t]}}
    refine tail_any (T:="list") ht.isList.typeIs slot_list_getitem.lookup ?_ (by with_unfolding_all rfl)
    refine wpAny_getItem_list_slice ht.isList (Heap.IsSliceOf.new ..) .none .none (.int (-1) t) (by decide) ?_ (by rw [List.size_toArray]<;>lia)
    rw [PySem.W.krv_pick]
    refine⟨.ref _,_,I4.laid (t':=s3.toks) (o:=.lst xs.reverse) (fun b ob q=>Heap.get?_push_of_some _ q) (Nat.le_refl _) ?_,rfl,q _ (I4.hok.fresh (Nat.le_refl _))⟩
    exact⟨by rw [List.length_reverse];exact hz,_,0,r.reverse,Heap.get?_push_size _ rfl⟩
  · subst ex
    cases r1
    obtain⟨its,r,ht,hz⟩:=I4.tuple hx
    have hlen:=r.length
    show wpAny (model X.prog X.w) X.A (subscriptTail a (.Slice none none (some k) p2) (.ref b) (.ref s3.heap.objs.size)) (EP X pins σ Q) X.xe {s3 with heap:=s3.heap.push {cls:=.type "slice",data:=.fields #[.none,.none,.int (-1) t]}}
    refine tail_any (T:="tuple") ht.typeIs slot_tuple_getitem.lookup ?_ (by with_unfolding_all rfl)
    refine j3 ht (Heap.IsSliceOf.new ..) ?_ (by rw [List.size_toArray]<;>lia)
    refine⟨.ref _,_,I4.laid (t':=s3.toks) (o:=.tup xs.reverse) (fun b ob q=>Heap.get?_push_of_some _ q) (Nat.le_refl _) ?_,rfl,q _ (I4.hok.fresh (Nat.le_refl _))⟩
    exact⟨by rw [List.length_reverse];exact hz,_,r.reverse,mh.new _ _⟩
def Gn(e:En)(x y:Rv):Option Rv:=match y with
  | .d (.int i)=>if i= -1 then(cZ e x).bind fun p=>some (if p.1=true then .l p.2.reverse else .d (.tuple p.2.reverse)) else none
  | _=>none
def FC(fa fk:FE):FE:=fun e=>(fa e).bind fun p=>(fk p.2).bind fun k=>(Gn k.2 p.1 k.1).map fun z=>(z,k.2)
theorem pd:∀{F:Hp} {ds:List PyData} {vs:List V},aJ K F ds vs→aJ K F ds.reverse vs.reverse
  | F,[],vs,h=>by simp only [aJ] at h;subst h;exact aJ.nil
  | F,d::ds,vs,h=>by
    simp only [aJ] at h
    obtain⟨v,ws,rfl,h1,h2⟩:=h
    rw [List.reverse_cons,List.reverse_cons]
    exact(pd h2).append (aJ.one h1)
theorem ET(he:PE X a (fE X.K fa))(hk:PE X k (fE X.K fk)):PE X (.Subscript a (.Slice none none (some k) p2) pos) (fE X.K (FC fa fk)):=(EI he hk).mono fun σ H Q h=>by
  obtain⟨F,e,z,e',R,hf,q⟩:=h
  unfold FC at hf
  obtain⟨⟨x,e1⟩,h1,hf⟩:=Option.bind_eq_some_iff.mp hf
  obtain⟨⟨y,e2⟩,h2,hf⟩:=Option.bind_eq_some_iff.mp hf
  obtain⟨z',h4,hf⟩:=Option.map_eq_some_iff.mp hf
  cases hf
  refine⟨F,e,x,e1,R,h1,fun F1 H1 v X1 R1 A1=>⟨F1,e1,y,_,R1,h2,fun F2 H2 u X2 R2 A2=>?_⟩⟩
  unfold Gn at h4
  split at h4
  · rename_i i hy
    have hy:y=.d (.int i):=hy
    subst hy
    by_cases hi:i= -1
    case neg=>rw [if_neg hi] at h4;cases h4
    rw [if_pos hi] at h4
    subst hi
    obtain⟨⟨b,xs⟩,h5,h4⟩:=Option.bind_eq_some_iff.mp h4
    cases b with
    | false=>
      cases h4
      obtain⟨p,vs,rfl,d1,s1⟩:=ce R2 (A1.ext X2) h5
      refine⟨by first | exact A2 | cases A2;rfl,.inr ⟨p,vs,rfl,s1,fun t ht=>?_⟩⟩
      obtain⟨R4,X4⟩:=R2.newT (vs:=vs.reverse) ht
      exact q _ _ _ ((X1.trans X2).trans X4) R4 (cI.mpr ⟨t,_,rfl,.inl (.inl ax),(pd d1).mono X4.sf⟩)
    | true=>
      cases h4
      obtain⟨p,vs,rfl,d1,s1⟩:=ce R2 (A1.ext X2) h5
      refine⟨by first | exact A2 | cases A2;rfl,.inl ⟨p,vs,rfl,s1,fun t ht=>?_⟩⟩
      obtain⟨R4,X4,hF,no⟩:=R2.newL (vs:=vs.reverse) ht
      exact q _ _ _ ((X1.trans X2).trans X4) R4 ⟨t,_,rfl,(X1.trans X2).dom _ ht,hF,ax,pd d1,no⟩
  · cases h4
theorem GB(hK:X.K=K)(he:PE X a (fE K fa))(hk:PE X k (fE K fk)):PE X (.Subscript a (.Slice none none (some k) p2) pos) (fE K (FC fa fk)):=by subst hK;exact ET he hk
end
end L2
namespace L2
open PySem PySem.Spec PyProof.Rows
section
variable{X:Cx}{a b:Expr}{ta:TA}{p p2 pos pos2:Pos}{K:PySem.W.Frag}{fs:FA}
end
section
variable{X:Cx}{o i e:Expr}{fo fi:FE}{tpos pos:Pos}{K:PySem.W.Frag}
end
end L2
namespace L2
open PySem PySem.Spec PyProof.Rows
section
variable{X:Cx}{K:PySem.W.Frag}
end
end L2
namespace L2
open PySem PySem.Spec PyProof.Rows
section
open PySem.MeetsSeq2 PySem.AutoSeq1 PySem.SeqAt
end
section
variable{X:Cx}{K:PySem.W.Frag}{o a:Expr}{to te:TE}{name:Str}{apos cpos:Pos}{T id:String}{r:V→List V→Hp→VK→Prop}{fo fa:FE}
def G1(K:PySem.W.Frag)(H:Hp)(b:Bool)(x:V):Prop:=∃p xs,x=.ref p∧(if b=true then gA K H p xs else cW K H p xs)
theorem B8{pins:List (Addr × Obj)}{σ:L2.St}{H:Hp}{s:Shared}{x:V}{v:Value}{b:Bool}(hT:T=if b=true then "list" else "tuple")(I:ay X pins σ H s)(r:a_ x v)(ty:G1 X.K H b x):
    s.TypeIs v T∧∀a,v=.ref a→∃ob,s.heap.get? a=some ob∧ob.dict=none:=by
  obtain⟨p,xs,rfl,hq⟩:=ty
  cases b with
  | true=>subst hT;exact sS I r (.inl ⟨rfl,xs,hq⟩)
  | false=>
    subst hT
    cases r
    obtain⟨its,_,pl,_⟩:=I.tuple hq
    exact⟨pl.typeIs,fun a e=>by cases e;exact I.tupD hq⟩
def G6(K:PySem.W.Frag)(b:Bool)(r:V→List V→Hp→VK→Prop)(to te:TE):TE:=fun σ H Q=>to σ H fun x H1=>G1 K H1 b x∧te σ H1 fun y H2=>r x [y] H2 Q
theorem EJ{b:Bool}(hT:T=if b=true then "list" else "tuple")(pa:PlainAttrs T)(slot:Slot T name id)(hty:typeOf (.builtin id)=pure (.type "method_descriptor"))(hm:DE X id r)(ho:PE X o to)(ha:PE X a te)
    (hbase:attributeBase o name X.env (eval o X.env)=eval o X.env)
    (hfew:((backTo cpos (starEach [a] X.env)).all (fun x=> !x.1)&&(backToKw cpos (keywordEach [] X.env)).all (fun x=>x.1.isSome)
      &&decide (([a]:List Expr).length+([]:List Keyword).length+(if ([]:List Keyword).isEmpty then 0 else 1) < 30))=true)
    (hline:(apos.endLine==cpos.line)=true)(hs:starEach [a] X.env=(false,eval a X.env)::starEach [] X.env)(hplain:(backTo cpos (starEach [] X.env)).any (·.1)=false):
    PE X (.Call (.Attribute o name apos) [a] [] cpos) (G6 X.K b r to te):=by
  intro pins s σ H Q I h
  refine wpAny_Call_method_late hbase hfew hline rfl (bG (ho pins s σ H _ I h) fun v s1 ⟨x,H1,I1,r1,ty,q1⟩=>?_)
  obtain⟨h1,h2⟩:=B8 hT I1 r1 ty
  refine⟨T,id,pa,slot,hty,h1,h2,?_⟩
  have hA:=(jl ha k_ hs) cpos pins s1 σ H1 (fun xs H2=>r x xs H2 Q) I1 q1
  rw [hs] at hA ⊢
  refine Calls.callWith_builtin (by show(false || (backTo cpos (starEach [] X.env)).any (·.1))=false;rw [hplain]<;>rfl) (Calls.evalArgs_plain ?_)
  exact bG hA fun us s2 ⟨vs,H2,I2,r2,q2⟩=>hm pins s2 σ H2 x vs v us Q I2 r1 r2 q2
def G2(K:PySem.W.Frag)(b:Bool)(g:List Int→Int→Option Nat):V→List V→Hp→VK→Prop:=fun x vs H Q=>∃p ns k i,x=.ref p∧vs=[.int k]∧(if b=true then gA K H p (ns.map V.int) else cW K H p (ns.map V.int))∧g ns k=some i∧Q (.int (i:Nat)) H
def gX(ns:List Int)(k:Int):Option Nat:=if k∈ns then some (ns.idxOf k) else none
def Fg(b:Bool)(e:En)(x:Rv):Option (List PyData):=(cZ e x).bind fun z=>if z.1=b then some z.2 else none
theorem ym{b:Bool}{e:En}{x:Rv}{ds:List PyData}(h:Fg b e x=some ds):cZ e x=some (b,ds):=by
  unfold Fg at h
  obtain⟨⟨c,zs⟩,h1,h2⟩:=Option.bind_eq_some_iff.mp h
  by_cases hb:c=b
  · subst hb;rw [if_pos rfl] at h2;cases h2;exact h1
  · rw [if_neg hb] at h2;cases h2
def DO(b:Bool)(g:List Int→Int→Option Nat)(fo fa:FE):FE:=fun e=>(fo e).bind fun p=>(Fg b p.2 p.1).bind fun _=>(fa p.2).bind fun q=>(Fg b q.2 p.1).bind fun ds=>
  (mI ds).bind fun ns=>(ck q.1).bind fun k=>(g ns k).map fun i=>(.d (.int (i:Nat)),q.2)
theorem Dy{b:Bool}{g:List Int→Int→Option Nat}{σ:L2.St}{H:Hp}{Q:VK}(h:fE K (DO b g fo fa) σ H Q):G6 K b (G2 K b g) (fE K fo) (fE K fa) σ H Q:=by
  obtain⟨F,e,z,e2,R,hf,q⟩:=h
  unfold DO at hf
  obtain⟨⟨x,e1⟩,h1,hf⟩:=Option.bind_eq_some_iff.mp hf
  obtain⟨ds,h3,hf⟩:=Option.bind_eq_some_iff.mp hf
  obtain⟨⟨y,e2'⟩,h2,hf⟩:=Option.bind_eq_some_iff.mp hf
  obtain⟨ds',h4,hf⟩:=Option.bind_eq_some_iff.mp hf
  obtain⟨ns,h5,hf⟩:=Option.bind_eq_some_iff.mp hf
  obtain⟨k,h6,hf⟩:=Option.bind_eq_some_iff.mp hf
  obtain⟨i,h7,hf⟩:=Option.map_eq_some_iff.mp hf
  cases hf
  refine⟨F,e,x,e1,R,h1,fun F1 H1 v X1 R1 A1=>?_⟩
  obtain⟨p,vs,rfl,d1,s1⟩:=ce R1 A1 (ym h3)
  refine⟨⟨p,vs,rfl,s1⟩,F1,e1,y,_,R1,h2,fun F2 H2 u X2 R2 A2=>?_⟩
  obtain⟨p',vs',e3,d2,s2⟩:=ce R2 (A1.ext X2) (ym h4)
  cases e3
  have e4:ds'=ns.map .int:=mJ h5
  subst e4
  have e5:=aJ.ints.mp d2
  subst e5
  exact⟨p,ns,k,i,rfl,by rw [cm A2 h6],s2,h7,q F2 H2 _ (X1.trans X2) R2 jI⟩
theorem zu:DE X "list.index" (G2 X.K true gX):=by
  intro pins s σ H x vs v us Q I rx rv h
  obtain⟨p,ns,k,i,rfl,rfl,hs,hg,q⟩:=h
  unfold gX at hg
  split at hg
  case isFalse=>cases hg
  case isTrue hk=>
  cases hg
  cases rx
  obtain⟨u,rfl,⟨t,rfl⟩⟩:=k9 rv
  obtain⟨its,r,pl,hz⟩:=I.list hs
  have hi:=jD r
  have hlen:=hi.length
  have hsl:sizeLine=16777216:=sizeLine_eq
  have hj:ns.idxOf k < ns.length:=List.idxOf_lt_length_iff.mpr hk
  rw [List.length_map] at hz
  obtain⟨⟨cls,dd,data,sl⟩,ho,hc,n,hd⟩:=id pl.isList
  simp only at hc hd
  subst hc hd
  refine call_meets PySem.F.slot_list_index ⟨_,ho,rfl⟩ PySem.F.entry_list_index (PySem.F.args_list_index_2 _ _)
    (PySem.SeqAt.list_indexAt p its.toArray n dd sl (.int k t) (isInt k) (ns.idxOf k) (by simpa [hlen] using hj) (by lia) ?_ ?_) ⟨ho,fun y hy=>(eq_isInt k t hi y (by simpa using hy)).at _ _,⟨.int _,H,I.tok _,⟨_,rfl⟩,q⟩⟩
  · show isInt k its[ns.idxOf k]=true
    rw [isInt_at k hi _ (by lia) hj]
    simpa using List.getElem_idxOf hj
  · intro j hjs hlt
    show isInt k its[j]=false
    rw [isInt_at k hi j (by simpa using hjs) (by lia)]
    exact ne_of_lt_idxOf hlt _
theorem xW(hK:X.K=K)(ho:PE X o (fE K fo))(ha:PE X a (fE K fa))(hbase:attributeBase o "index" X.env (eval o X.env)=eval o X.env)
    (hfew:((backTo cpos (starEach [a] X.env)).all (fun x=> !x.1)&&(backToKw cpos (keywordEach [] X.env)).all (fun x=>x.1.isSome)
      &&decide (([a]:List Expr).length+([]:List Keyword).length+(if ([]:List Keyword).isEmpty then 0 else 1) < 30))=true)
    (hline:(apos.endLine==cpos.line)=true)(hs:starEach [a] X.env=(false,eval a X.env)::starEach [] X.env)(hplain:(backTo cpos (starEach [] X.env)).any (·.1)=false):
    PE X (.Call (.Attribute o "index" apos) [a] [] cpos) (fE K (DO true gX fo fa)):=by
  subst hK
  exact(EJ (b:=true) rfl PySem.F.plainAttrs_list PySem.F.slot_list_index PySem.F.type_list_index zu ho ha hbase hfew hline hs hplain).mono fun σ H Q h=>Dy h
end
end L2
namespace L2
open PySem PySem.Spec PyProof.Rows
section
variable{X:Cx}{K:PySem.W.Frag}{o a:Expr}{apos cpos:Pos}{fo fa:FE}
end
end L2
namespace L2
open PySem PySem.Spec PyProof.Rows
section
variable{K:PySem.W.Frag}{F H:Hp}{σ:L2.St}{e:En}{cp:List (Nat × Str)}{nT:Nat}
end
section
variable{X:Cx}{K:PySem.W.Frag}{a b:Expr}{es:List Expr}{fa fb:FE}{fs:FA}{pos p p2 p3:Pos}{lo hi:Option Expr}
end
end L2
namespace L2
open PySem PySem.Spec PyProof.Rows
section
variable{X:Cx}{K:PySem.W.Frag}
end
end L2
namespace L2
open PySem PySem.Spec PyProof.Rows
section
variable{X:Cx}{K:PySem.W.Frag}{a b:Expr}{fa fb:FE}{pos:Pos}
end
end L2
namespace L2
open PySem PySem.Spec PyProof.Rows
section
variable{X:Cx}{K:PySem.W.Frag}
end
end L2
namespace L2
open PySem PySem.Spec PyProof.Rows
structure Sw (b:Bool) (n dep:Nat) (d:PyData):Prop where
  dl:bif b then xm d=true else d.hasDict=false
  sh:d.showable=true
  dp:d.depth≤dep
  ln:d.shown.length+2≤n
  so:PyData.strOk d.shown=true
end L2
namespace L2
open PySem PySem.Spec PyProof.Rows
structure S1 (n:Nat) (f:Fr):Prop where
  low:Hc f
  lo:0≤f.1
  hi:f.1≤f.2
  bt:Bt n f.2
def Hl(e:Int)(t:gL):Bool:=t.one==e || t.other==e
structure HE (b f g:Fr):Prop where
  pf:0 < f.2
  pg:0 < g.2
  eq:g.1*(f.2*b.1)=g.2*(f.1*b.2)
end L2
namespace L2
open PySem PySem.Spec PyProof.Rows
def vR(f:Fr):Rat:=(f.1:Rat) / (f.2:Rat)
def cR(t:gL)(b:Bool):Rat:=vR (Hk t b)
end L2
namespace L2
open PySem PySem.Spec PyProof.Rows
def hR(t:gL):Rat:=cR t true*(t.worth:Rat)
end L2
namespace L2
open PySem PySem.Spec PyProof.Rows
structure HC (O:bj) (ss ws:List Std):Prop where
  len:ss.length=ws.length
  at':∀j,(ss.getD j ([],[])).1=(ws.getD j ([],[])).1∧(ss.getD j ([],[])).2.length≤2*(ss.getD j ([],[])).1.length∧∀k∈(ss.getD j ([],[])).1,uG O k
structure Hz (O:bj) (T:List Nd):Prop where
  tie:∀(i:Nat) (x:Nd),T[i]?=some x→uG O x.tie
  lk:∀(i:Nat) (x:Nd),T[i]?=some x→(-1≤x.yes∧x.yes < (T.length:Int))∧(-1≤x.no∧x.no < (T.length:Int))
end L2
namespace L2
open PySem PySem.Spec PyProof.Rows
section
variable{K:PySem.W.Frag}
variable{X:Cx}{σ:L2.St}{H0 H:Hp}{e:En}
end
end L2
namespace L2
open PySem PySem.Spec PyProof.Rows
section
variable{X:Cx}{a b:Expr}{ta:TA}{p p2 pos pos2:Pos}
end
end L2
namespace L2
open PySem PySem.Spec PyProof.Rows
section
variable{X:Cx}{K:PySem.W.Frag}{fs:FA}{a b:Expr}{p p2 pos pos2:Pos}
end
end L2
namespace L2
open PySem PySem.Spec PyProof.Rows
end L2
namespace L2
open PySem PySem.Spec PyProof.Rows PySem.W
structure Ge (lt:Nat→Nat→Bool):Prop where
  irr:∀i,lt i i=false
  tr:∀{i j k},lt i j=false→lt j k=false→lt i k=false
  asy:∀{i j},lt i j=true→lt j i=false
structure HB (n:Nat) (p:Array Nat):Prop where
  sz:p.size=n
  pm:p.Perm (List.toArray (List.range n))
section
variable{lt:Nat→Nat→Bool}{n:Nat}(O:Ge lt)
include O
end
end L2
namespace L2
open PySem PySem.Spec PyProof.Rows PySem.W
section
variable{prog:Program}{w:World}{A:Around}{E:Value→Shared→Prop}{s:Shared}
end
end L2
namespace L2
open PySem PySem.Spec PyProof.Rows PySem.W
section
variable{X:Cx}{K:PySem.W.Frag}
end
end L2
namespace L2
open PySem PySem.Spec PyProof.Rows
section
variable{X:Cx}{K:PySem.W.Frag}
variable{o a:Expr}{es:List Expr}{fo:FE}{fs:FA}{apos cpos:Pos}
end
end L2
namespace L2
open PySem PySem.Spec PyProof.Rows
end L2
namespace L2
open PySem PySem.Spec PyProof.Rows
section
variable{X:Cx}{K:PySem.W.Frag}{σ σ2:L2.St}{H0 F H F2 H2 F3:Hp}{e e2:En}
end
end L2
namespace L2
open PySem PySem.Spec PyProof.Rows
section
variable{X:Cx}{K:PySem.W.Frag}{a b:Expr}{fa fb:FE}{pos p p1 p2 p3 pos':Pos}{x:Str}{i:Nat}
end
section
variable{X:Cx}{K:PySem.W.Frag}
end
end L2
namespace L2
open PySem PySem.Spec PyProof.Rows
section
variable{prog:Program}{w:World}{A:Around}{R:Result→Shared→Prop}
end
def Ay(l:Addr)(wi:TI)(g:TG)(tc:TT)(tk tv:TE)(σ:L2.St)(H:Hp)(N:L2.St→Hp→Prop):Prop:=
  wi σ H fun J H1=>∃W:Nat→Nat→L2.St→Hp→Prop,(∃m,W 0 m σ H1)∧∀i m σ' H',W i m σ' H'→
    (J.stop i H'∧N σ' H')∨(J.go i H'∧∃N2:L2.St→Hp→Prop,(∀σ2 H2,N2 σ2 H2→∃m',m' < m∧W (i+1) m' σ2 H2)∧
      ∀x H2,J.yld i H' x H2→g x σ' H2 fun σ2 H3=>tc σ2 H3 fun b H4=>if b=true then tk σ2 H4 fun y H5=>tv σ2 H5 fun v H6=>∃(kk:en) (kvs:List (en × V)),y=kV kk∧H6 l=some (.dK kvs)∧kvs.length < sizeLine∧N2 σ2 (aV H6 l (.dK (kh kvs kk v))) else N2 σ2 H4)
structure FY (cp:List (Nat × Str)) (nT:Nat) (wi:TI) (g:TG) (tc:TT) (wi2:TI) (g2:TG) (tc2:TT) (tk tv:TE) (σ:L2.St) (H:Hp) (Q:VK):Prop where
  go:wi σ H fun J H1=>∀l,H1 l=none→
  ∃W:Nat→Nat→L2.St→Hp→Prop,(∃m,W 0 m (dC cp nT σ) (aV H1 l (.dK [])))∧∀i m σ' H',W i m σ' H'→
    (J.stop i H'∧Q (.ref l) H')∨(J.go i H'∧∃N:L2.St→Hp→Prop,(∀σ2 H2,N σ2 H2→∃m',m' < m∧W (i+1) m' σ2 H2)∧
      ∀x H2,J.yld i H' x H2→g x σ' H2 fun σ2 H3=>tc σ2 H3 fun b H4=>if b=true then Ay l wi2 g2 tc2 tk tv σ2 H4 N else N σ2 H4)
end L2
namespace L2
open PySem PySem.Spec PyProof.Rows
def DY:PyData→Option lZ
  | .int k=>some (.vi k)
  | .bool b=>some (.vb b)
  | .none=>some .vn
  | _=>none
def yT(i:Nat):En→Option lZ:=fun e=>match e[i]? with
  | some (some (.d d))=>DY d
  | _=>none
def aK(p:Int × lZ):en × V:=(Sum.inl p.1,p.2.toV)
def aD(p:Int × lZ):PyData × PyData:=(.int p.1,p.2.toD)
section
variable{K:PySem.W.Frag}{F H F' H':Hp}{σ σ':L2.St}{e e':En}{nT:Nat}
theorem aY.putO(R:aY K F H σ e){l:Addr}{o:HO}(h1:F l=none)(h2:¬bR σ e H l):aY K F (aV H l o) σ e∧∀a,bR σ e (aV H l o) a↔ bR σ e H a:=
  R.keep (av.refl F) (fun b o q=>by
    have z:b≠l:=fun z=>by rw [z,h1] at q;cases q
    rw [aB z];exact R.sm b o q) (fun a ⟨i,h⟩=>(R.fpAt h).1) fun a o ha q=>by
    have z:a≠l:=fun z=>h2 (z ▸ ha)
    rw [aB z];exact q
theorem xT{acc:List (Int × lZ)}{k:Int}{a:lZ}(h:(acc.any fun p=>p.1==k)=false):kh (acc.map aK) (Sum.inl k) a.toV=(acc++[(k,a)]).map aK:=by
  have e:((acc.map aK).any fun kv=>decide (kv.1=(Sum.inl k:en)))=false:=by
    rw [List.any_map,List.any_eq_false]
    intro p hp
    have:=List.any_eq_false.mp h p hp
    simp only [beq_iff_eq] at this
    simp only [Function.comp,aK,decide_eq_true_eq]
    exact fun z=>this (by simpa using z)
  unfold kh
  rw [e,if_neg (by simp),List.map_append]
  rfl
inductive CD (K:PySem.W.Frag) (W:List Nat) (σ0:L2.St) (F1 H1:Hp) (e0:En) (l:Addr) (P:Hp→En→List (Int × lZ)→Prop) (σ':L2.St) (H':Hp):Prop
  | mk {F':Hp} {ei:En} {acc:List (Int × lZ)} (R:aY K F' H' σ' ei) (X:cF W σ0 F1 H1 e0 σ' F' H' ei) (fl:F' l=none) (hl:H' l=some (.dK (acc.map aK))) (hc:P F' ei acc):CD K W σ0 F1 H1 e0 l P σ' H'
end
section
variable{X:Cx}{K:PySem.W.Frag}{pos:Pos}
def mC:En→Rv→Rv→Option Rv:=fun _ x y=>match x,y with
  | .d (.dict kvs),.d (.int k)=>(kvs.find? fun p=>match p.1 with | .int i=>i==k | _=>false).map fun p=>.d p.2
  | _,_=>none
theorem qh(k:Int):∀(m:List (Int × lZ)),(m.map fun p=>(PyData.int p.1,p.2.toD)).find? (fun p=>match p.1 with | .int i=>i==k | _=>false)=(m.find? fun p=>p.1==k).map fun p=>(PyData.int p.1,p.2.toD)
  | []=>rfl
  | p::r=>by
    rw [List.map_cons,List.find?_cons,List.find?_cons]
    dsimp only
    cases c:p.1==k with
    | true=>rfl
    | false=>exact qh k r
theorem qi(k:Int):∀(m:List (Int × lZ)),ly (m.map fun p=>((Sum.inl p.1:en),p.2.toV)) (Sum.inl k)=(m.find? fun p=>p.1==k).map fun p=>p.2.toV
  | []=>rfl
  | p::r=>by
    rw [List.map_cons,List.find?_cons]
    cases c:p.1==k with
    | true=>
      rw [jb (by rw [beq_iff_eq] at c;rw [c])]
      rfl
    | false=>
      rw [ja (fun z=>by rw [beq_eq_false_iff_ne] at c;exact c (Sum.inl.inj z))]
      exact qi k r
theorem BK{F:Hp}(a:lZ):DA K F a.toD a.toV:=by cases a<;>simp [lZ.toD,lZ.toV,DA]
theorem BR:gB K (fun x y H Q=>∃a v,x=.ref a∧ng H a y (some v)∧Q v H) mC:=by
  intro σ H0 F H e x y z v u Q R A B hg q
  unfold mC at hg
  split at hg
  case h_2=>cases hg
  case h_1 kvs k=>
  obtain⟨p,hp,hg⟩:=Option.map_eq_some_iff.mp hg
  cases hg
  have A':DA K F (.dict kvs) v:=A
  simp only [DA] at A'
  obtain⟨a,m,rfl,hF,rfl⟩:=A'
  have B':u=.int k:=bY.mp (show DA K F (.int k) u from B)
  subst B'
  rw [qh] at hp
  obtain⟨pm,h1,rfl⟩:=Option.map_eq_some_iff.mp hp
  have hv:=qi k m
  rw [h1] at hv
  have g:=ng.k (k:=Sum.inl k) (R.sm _ _ hF)
  rw [hv] at g
  exact⟨a,pm.2.toV,rfl,g,q F H _ (ej.refl _ _ _ _) R (BK pm.2)⟩
theorem C3{a b:Expr}{fa fb:FE}{k:Nat}(hr:cX k X.A)(ha:PE X a (fE K fa))(hb:PE X b (fE K fb))(hs:BH b):PE X (.Subscript a b pos) (fE K (az mC fa fb)):=(zO (by have:=hr.units;lia) ha hb hs).mono fun σ H Q h=>m5 BR h
end
end L2
namespace L2
open PySem PySem.Spec PyProof.Rows
section
variable{K:PySem.W.Frag}{F H F' H' F1 H1 F2 H2:Hp}{σ σ' σ1 σ2:L2.St}{e e' e1 e2:En}{i:Nat}{W W1 W2:List Nat}
theorem Fp.drop{j:Nat}{a:Addr}(h:Fp σ (e.set i none) H j a):Fp σ e H j a:=by
  by_cases z:j=i
  · subst z
    rcases h with ⟨xs,h,_⟩ | ⟨xss,_,_,h,_⟩
    · rw [List.getElem?_set] at h
      split at h
      · split at h<;>cases h
      · rename_i n;exact absurd rfl n
    · rw [List.getElem?_set] at h
      split at h
      · split at h<;>cases h
      · rename_i n;exact absurd rfl n
  · unfold Fp at h ⊢
    rw [List.getElem?_set_ne (Ne.symm z)] at h
    exact h
theorem mG{j:Nat}{s:Sv}(h:(e.set i none)[j]?=some (some s)):e[j]?=some (some s):=by
  by_cases z:i=j
  · subst z
    rw [List.getElem?_set] at h
    rw [if_pos rfl] at h
    split at h<;>cases h
  · rwa [List.getElem?_set_ne z] at h
theorem bR.drop{a:Addr}(h:bR σ (e.set i none) H a):bR σ e H a:=let ⟨j,q⟩:=h;⟨j,q.drop⟩
theorem aY.drop(R:aY K F H σ e)(i:Nat):aY K F H σ (e.set i none):=⟨R.sm,by rw [List.length_set];exact R.len,fun j x h=>R.dat j x (mG h),fun j xs h=>R.own j xs (mG h),fun j xss h=>R.nst j xss (mG h),fun j k a h1 h2=>R.fp j k a h1.drop h2.drop⟩
structure iH (K:PySem.W.Frag) (i:Nat) (F H:Hp) (σ:L2.St) (e:En):Prop where
  rel:aY K F H σ (e.set i none)
  dct:∃(l:Addr) (m:List (Int × lZ)),e[i]?=some (some (.d (.dict (m.map aD))))∧σ[i]?=some (some (.ref l))∧F l=none∧H l=some (.dK (m.map aK))
structure gy (i:Nat) (W:List Nat) (σ:L2.St) (F H:Hp) (e:En) (σ':L2.St) (F' H':Hp) (e':En):Prop where
  sf:av F F'
  dom:∀a,H' a=none→H a=none
  fr:∀a vs,F a=none→H a=some (.lst vs)→¬bR σ (e.set i none) H a→F' a=none
  lst:∀a vs,H a=some (.lst vs)→∃vs',H' a=some (.lst vs')
  tmp:∀a o,H a=some o→¬bR σ (e.set i none) H a→σ[i]?≠some (some (.ref a))→H' a=some o
  own:∀a,bR σ' (e'.set i none) H' a→bR σ (e.set i none) H a∨H a=none
  wr:∀j,j∉W→σ'[j]?=σ[j]?
  dd:σ'[i]?=σ[i]?
  fd:∀a m,F a=none→H a=some (.dK m)→¬bR σ (e.set i none) H a→σ[i]?≠some (some (.ref a))→F' a=none
theorem gy.refl(i:Nat):gy i W σ F H e σ F H e:=⟨av.refl _,fun _ h=>h,fun _ _ h _ _=>h,fun _ vs h=>⟨vs,h⟩,fun _ _ h _ _=>h,fun _ h=>.inl h,fun _ _=>rfl,rfl,fun _ _ h _ _ _=>h⟩
theorem gy.lst_ne(x:gy i W σ F H e σ1 F1 H1 e1){a:Addr}(no:¬bR σ (e.set i none) H a){o:HO}(h:H a=some o):¬bR σ1 (e1.set i none) H1 a:=fun z=>(x.own a z).elim no fun z=>by rw [h] at z;cases z
theorem gy.trans(x:gy i W σ F H e σ1 F1 H1 e1)(y:gy i W σ1 F1 H1 e1 σ2 F2 H2 e2):gy i W σ F H e σ2 F2 H2 e2:=
  ⟨x.sf.trans y.sf,fun a h=>x.dom a (y.dom a h),fun a vs h n no=>let ⟨vs',q⟩:=x.lst a vs n;y.fr a vs' (x.fr a vs h n no) q (x.lst_ne no n),fun a vs h=>let ⟨vs',q⟩:=x.lst a vs h;y.lst a vs' q,
    fun a o h n l=>y.tmp a o (x.tmp a o h n l) (x.lst_ne n h) (by rw [x.dd];exact l),fun a h=>(y.own a h).elim (x.own a) (fun z=>.inr (x.dom a z)),fun j h=>(y.wr j h).trans (x.wr j h),y.dd.trans x.dd,
    fun a m h n no l=>y.fd a m (x.fd a m h n no l) (x.tmp a _ n no l) (x.lst_ne no n) (by rw [x.dd];exact l)⟩
theorem gy.mono(x:gy i W1 σ F H e σ' F' H' e')(h:∀j,j∈W1→j∈W):gy i W σ F H e σ' F' H' e':=⟨x.sf,x.dom,x.fr,x.lst,x.tmp,x.own,fun j n=>x.wr j fun z=>n (h j z),x.dd,x.fd⟩
theorem cF.toD(x:cF W σ F H (e.set i none) σ' F' H' e1)(hi:i∉W)(o:Option Sv):gy i W σ F H e σ' F' H' (e1.set i o):=
  ⟨x.sf,x.dom,x.fr,x.lst,fun a o h n _=>x.tmp a o h n,fun a h=>x.own a (by rw [List.set_set] at h;exact h.drop),x.wr,x.wr i hi,fun a m h n no _=>x.fd a m h n no⟩
theorem iH.next(R:iH K i F H σ e)(x:cF W σ F H (e.set i none) σ' F' H' e1)(hi:i∉W)(R1:aY K F' H' σ' e1):iH K i F' H' σ' (e1.set i (e[i]?).join):=by
  obtain⟨l,m,h1,h2,h3,h4⟩:=R.dct
  have no:¬bR σ (e.set i none) H l:=R.rel.notOwn h4 (fun _ z=>nomatch z)
  have hs:σ'[i]?=some (some (.ref l)):=(x.wr i hi).trans h2
  have hlt:i < e1.length:=by rw [←R1.len];exact(List.getElem?_eq_some_iff.mp hs).1
  refine⟨by rw [List.set_set];exact R1.drop i,l,m,?_,hs,x.fd l _ h3 h4 no,x.tmp l _ h4 no⟩
  rw [List.getElem?_set_self hlt,h1]
  rfl
end
def iU(K:PySem.W.Frag)(i:Nat)(W:List Nat)(σ:L2.St)(F H:Hp)(e:En)(D:oR):Fl→Prop
  | .nx e'=>∀F' H' σ',gy i W σ F H e σ' F' H' e'→iH K i F' H' σ' e'→D.nx σ' H'
  | .bk e'=>∀F' H' σ',gy i W σ F H e σ' F' H' e'→iH K i F' H' σ' e'→D.bk σ' H'
  | .ct e'=>∀F' H' σ',gy i W σ F H e σ' F' H' e'→iH K i F' H' σ' e'→D.ct σ' H'
  | .rt r e'=>∀F' H' σ' v,gy i W σ F H e σ' F' H' e'→aY K F' H' σ' (e'.set i none)→cz K σ' H F' H' (e'.set i none) r v→D.rt v H'
def qg(K:PySem.W.Frag)(i:Nat)(f:FS)(W:List Nat):TS:=fun D σ H=>∃F e fl,iH K i F H σ e∧f e=some fl∧iU K i W σ F H e D fl
theorem iU.later{K:PySem.W.Frag}{i:Nat}{W W1 W2:List Nat}{σ σ1:L2.St}{F H F1 H1:Hp}{e e1:En}{D:oR}{fl:Fl}(h:iU K i W σ F H e D fl)(x:gy i W1 σ F H e σ1 F1 H1 e1)(h1:∀j,j∈W1→j∈W)(h2:∀j,j∈W2→j∈W):iU K i W2 σ1 F1 H1 e1 D fl:=by
  cases fl with
  | nx e'=>exact fun F' H' σ' y R=>h F' H' σ' ((x.mono h1).trans (y.mono h2)) R
  | bk e'=>exact fun F' H' σ' y R=>h F' H' σ' ((x.mono h1).trans (y.mono h2)) R
  | ct e'=>exact fun F' H' σ' y R=>h F' H' σ' ((x.mono h1).trans (y.mono h2)) R
  | rt r e'=>exact fun F' H' σ' v y R A=>h F' H' σ' v ((x.mono h1).trans (y.mono h2)) R (A.weak x.dom)
section
variable{X:Cx}{K:PySem.W.Frag}{i:Nat}{W W1 W2:List Nat}{st:Stmt}{d_:List Stmt}{f g:FS}{ft:FT}{pos:Pos}
def i8(i:Nat)(f:FS):FS:=fun e=>(f (e.set i none)).bind fun fl=>match fl with
  | .nx e1=>some (.nx (e1.set i (e[i]?).join))
  | _=>none
theorem mR(hi:i∉W)(h:PS X st (fS K f W)):PS X st (qg K i (i8 i f) W):=h.mono fun D σ H h=>by
  obtain⟨F,e,fl,R,hf,q⟩:=h
  unfold i8 at hf
  obtain⟨fl1,h1,hf⟩:=Option.bind_eq_some_iff.mp hf
  refine⟨F,_,fl1,R.rel,h1,?_⟩
  cases fl1 with
  | nx e1=>
    cases hf
    exact fun F' H' σ' x R'=>q F' H' σ' (x.toD hi _) (R.next x hi R')
  | _=>cases hf
theorem x6:iM X [] (qg K i fw []):=uf.mono fun D σ H h=>by
  obtain⟨F,e,fl,R,hf,q⟩:=h
  cases hf
  exact q F H σ (gy.refl i) R
theorem jn(h1:PS X st (qg K i f W1))(h2:iM X d_ (qg K i g W2)):iM X (st::d_) (qg K i (aA f g) (W1++W2)):=(mP h1 h2).mono fun D σ H h=>by
  obtain⟨F,e,fl,R,hf,q⟩:=h
  unfold aA at hf
  obtain⟨fl1,h1,hf⟩:=Option.bind_eq_some_iff.mp hf
  have s1:∀j,j∈W1→j∈W1++W2:=fun j h=>List.mem_append.mpr (.inl h)
  have s2:∀j,j∈W2→j∈W1++W2:=fun j h=>List.mem_append.mpr (.inr h)
  refine⟨F,e,fl1,R,h1,?_⟩
  cases fl1 with
  | nx e1=>exact fun F' H' σ' x R'=>⟨F',e1,fl,R',hf,q.later x s1 s2⟩
  | bk e1=>cases hf;exact fun F' H' σ' x R'=>q F' H' σ' (x.mono s1) R'
  | ct e1=>cases hf;exact fun F' H' σ' x R'=>q F' H' σ' (x.mono s1) R'
  | rt r e1=>cases hf;exact fun F' H' σ' v x R' A=>q F' H' σ' v (x.mono s1) R' A
theorem kj(h1:PS X st (qg K i f W)):iM X [st] (qg K i f W):=ug h1
def FV(K:PySem.W.Frag)(i:Nat)(f:FT):TT:=fun σ H Q=>∃F e b e',iH K i F H σ e∧f e=some (b,e')∧∀F' H',gy i [] σ F H e σ F' H' e'→iH K i F' H' σ e'→Q b H'
def ut(i:Nat)(f:FT):FT:=fun e=>(f (e.set i none)).map fun p=>(p.1,p.2.set i (e[i]?).join)
theorem x8{c:Expr}(h:PT X c (fT K ft)):PT X c (FV K i (ut i ft)):=h.mono fun σ H Q h=>by
  obtain⟨F,e,b,e',R,hf,q⟩:=h
  unfold ut at hf
  obtain⟨⟨b1,e1⟩,h1,hf⟩:=Option.map_eq_some_iff.mp hf
  cases hf
  exact⟨F,_,b1,e1,R.rel,h1,fun F' H' x R'=>q F' H' (x.s.toD (by simp) _) (R.next (W:=[]) x.s (by simp) R')⟩
theorem C9{c:Expr}{bs cs:List Stmt}(hc:PT X c (FV K i ft))(ha:iM X bs (qg K i f W1))(hb:iM X cs (qg K i g W2)):PS X (.If c bs cs pos) (qg K i (jt ft f g) (W1++W2)):=(Bn hc ha hb).mono fun D σ H h=>by
  obtain⟨F,e,fl,R,hf,q⟩:=h
  unfold jt at hf
  obtain⟨⟨x,e1⟩,h1,hf⟩:=Option.bind_eq_some_iff.mp hf
  refine⟨F,e,x,e1,R,h1,fun F1 H1 X1 R1=>?_⟩
  cases x with
  | true=>exact⟨F1,e1,fl,R1,hf,q.later (W1:=[]) X1 (fun j h=>by cases h) fun j h=>List.mem_append.mpr (.inl h)⟩
  | false=>exact⟨F1,e1,fl,R1,hf,q.later (W1:=[]) X1 (fun j h=>by cases h) fun j h=>List.mem_append.mpr (.inr h)⟩
theorem vm{n:Nat}{c:Expr}{body:List Stmt}(hp:PassesOwn (model X.prog X.w) X.A X.env X.xe)(hc:PT X c (FV K i ft))(hb:iM X body (qg K i f W)):PS X (.While c body [] pos) (qg K i (eP n ft f) W):=(qW hp hc hb).mono fun D σ H h=>by
  refine⟨fun m σ H=>∃F e fl,iH K i F H σ e∧eR ft f m e=some fl∧iU K i W σ F H e D fl,⟨n,h⟩,?_⟩
  rintro m σ H ⟨F,e,fl,R,hf,q⟩
  cases m with
  | zero=>cases hf
  | succ m=>
    unfold eR at hf
    obtain⟨⟨x,e1⟩,h1,hf⟩:=Option.bind_eq_some_iff.mp hf
    refine⟨F,e,x,e1,R,h1,fun F1 H1 X1 R1=>?_⟩
    have sub:∀j,j∈([]:List Nat)→j∈W:=fun j h=>by cases h
    cases x with
    | false=>
      rw [if_neg (by simp)] at hf
      cases hf
      exact wX (q F1 H1 σ (X1.mono sub) R1)
    | true=>
      rw [if_pos rfl] at hf
      refine wY ?_
      obtain⟨fl1,h2,hf⟩:=Option.bind_eq_some_iff.mp hf
      have q1:iU K i W σ F1 H1 e1 D fl:=q.later (W1:=[]) X1 sub fun j h=>h
      refine⟨fun σ' H'=>∃F' e',iH K i F' H' σ' e'∧eR ft f m e'=some fl∧iU K i W σ' F' H' e' D fl,fun σ' H' ⟨F',e',r1,r2,r3⟩=>⟨m,Nat.lt_succ_self m,F',e',fl,r1,r2,r3⟩,F1,e1,fl1,R1,h2,?_⟩
      cases fl1 with
      | nx e2=>exact fun F2 H2 σ2 x R2=>⟨F2,e2,R2,hf,q1.later x (fun j h=>h) fun j h=>h⟩
      | ct e2=>exact fun F2 H2 σ2 x R2=>⟨F2,e2,R2,hf,q1.later x (fun j h=>h) fun j h=>h⟩
      | bk e2=>cases hf;exact fun F2 H2 σ2 x R2=>q1 F2 H2 σ2 x R2
      | rt r e2=>cases hf;exact fun F2 H2 σ2 v x R2 A=>q1 F2 H2 σ2 v x R2 A
def r8(k:Int)(p:PyData × PyData):Bool:=match p.1 with
  | .int j=>j==k
  | _=>false
theorem mj(k:Int):∀(m:List (Int × lZ)),(m.map aD).any (r8 k)=m.any fun p=>p.1==k
  | []=>rfl
  | p::r=>by rw [List.map_cons,List.any_cons,List.any_cons,mj k r];rfl
theorem p9(k:Int):∀(m:List (Int × lZ)),(ly (m.map aK) (Sum.inl k)).isSome=m.any fun p=>p.1==k
  | []=>rfl
  | p::r=>by
    rw [List.map_cons,List.any_cons]
    cases c:p.1==k with
    | true=>
      rw [jb (by rw [beq_iff_eq] at c;show Sum.inl p.1=Sum.inl k;rw [c])]
      rfl
    | false=>
      rw [ja (fun z=>by rw [beq_eq_false_iff_ne] at c;exact c (Sum.inl.inj z)),p9 k r]
      rfl
theorem iH.int{F H:Hp}{σ:L2.St}{e:En}(R:iH K i F H σ e){j:Nat}(hj:j≠i){k:Int}(h:xg j e=some k):σ[j]?=some (some (.int k)):=by
  unfold xg at h
  split at h
  · rename_i heq
    cases h
    obtain⟨v,g1,g2⟩:=R.rel.dat j _ (by rw [List.getElem?_set_ne (Ne.symm hj)];exact heq)
    rw [g1,bY.mp g2]
  · cases h
theorem iH.atm{F H:Hp}{σ:L2.St}{e:En}(R:iH K i F H σ e){j:Nat}(hj:j≠i){a:lZ}(h:yT j e=some a):σ[j]?=some (some a.toV):=by
  unfold yT at h
  split at h
  · rename_i d heq
    obtain⟨v,g1,g2⟩:=R.rel.dat j _ (by rw [List.getElem?_set_ne (Ne.symm hj)];exact heq)
    rw [g1]
    cases d with
    | int n=>cases h;rw [bY.mp g2];rfl
    | bool n=>cases h;rw [cA.mp g2];rfl
    | none=>cases h;rw [gE.mp g2];rfl
    | _=>cases h
  · cases h
def li(i ik iv:Nat):FS:=fun e=>match e[i]? with
  | some (some (.d (.dict kvs)))=>(xg ik e).bind fun k=>(yT iv e).bind fun a=>if kvs.length < 1000000∧kvs.any (r8 k)=false then some (.nx (e.set i (some (.d (.dict (kvs++[(.int k,a.toD)])))))) else none
  | _=>none
theorem Aj{ik iv k:Nat}{x xk xv:Str}{p pk pv pos':Pos}(hr:cX k X.A)(h1:ik≠i)(h2:iv≠i)(ho:PE X (.Name x p) (pY i))(hk:PE X (.Name xk pk) (pY ik))(hv:PE X (.Name xv pv) (pY iv))(hs:swapsWith (.Name xv pv) (some (.Subscript (.Name x p) (.Name xk pk) pos')) pos.line X.env=pure false):
    PS X (.Assign [.Subscript (.Name x p) (.Name xk pk) pos'] (.Name xv pv) pos) (qg K i (li i ik iv) []):=(zZ (by have:=hr.units;lia) ho hk hv hs).mono fun D σ H h=>by
  obtain⟨F,e,fl,R,hf,q⟩:=h
  obtain⟨l,m,g1,g2,g3,g4⟩:=R.dct
  unfold li at hf
  rw [g1] at hf
  dsimp only at hf
  obtain⟨kk,c1,hf⟩:=Option.bind_eq_some_iff.mp hf
  obtain⟨aa,c2,hf⟩:=Option.bind_eq_some_iff.mp hf
  split at hf
  case isFalse=>cases hf
  case isTrue hc=>
  cases hf
  have sl:sizeLine=16777216:=sizeLine_eq
  have hlen:(m.map aK).length < sizeLine:=by
    have:=hc.1
    rw [List.length_map] at this ⊢
    lia
  have dp:=vP.k (k:=Sum.inl kk) (v:=aa.toV) g4 hlen
  have hn:(m.any fun p=>p.1==kk)=false:=by rw [←mj];exact hc.2
  rw [xT hn] at dp
  refine⟨_,R.atm h2 c2,_,g2,_,R.int h1 c1,l,_,rfl,dp,?_⟩
  have no:¬bR σ (e.set i none) H l:=R.rel.notOwn g4 (fun _ z=>nomatch z)
  obtain⟨R2,o2⟩:=R.rel.putO (o:=.dK ((m++[(kk,aa)]).map aK)) g3 no
  have hlt:i < e.length:=(List.getElem?_eq_some_iff.mp g1).1
  refine q F _ σ ⟨av.refl _,fun a z=>?_,fun _ _ z _ _=>z,fun a vs z=>?_,fun a o z _ nl=>?_,fun a z=>.inl ((o2 a).mp (by rw [List.set_set] at z;exact z)),fun _ _=>rfl,rfl,fun _ _ z _ _ _=>z⟩ ⟨by rw [List.set_set];exact R2,l,m++[(kk,aa)],?_,g2,g3,ax⟩
  · by_cases ea:a=l
    · rw [ea,ax] at z;cases z
    · rw [aB ea] at z;exact z
  · have ea:a≠l:=fun ea=>by rw [ea,g4] at z;cases z
    rw [aB ea];exact⟨vs,z⟩
  · have ea:a≠l:=fun ea=>nl (by rw [ea];exact g2)
    rw [aB ea];exact z
  · rw [List.getElem?_set_self hlt,List.map_append]
    rfl
def pX(i ik:Nat):FT:=fun e=>match e[i]? with
  | some (some (.d (.dict kvs)))=>(xg ik e).map fun k=>(!(kvs.any (r8 k)),e)
  | _=>none
theorem vo{ik k:Nat}{x xk:Str}{p pk:Pos}(hr:cX k X.A)(h1:ik≠i)(ho:PE X (.Name x p) (pY i))(hk:PE X (.Name xk pk) (pY ik))(hb:behindInMarks .NotIn (.Name x p)=false):PT X (.Compare (.Name xk pk) [.NotIn] [.Name x p] pos) (FV K i (pX i ik)):=(CY (ve (by have:=hr.units;lia) hk ho) hb).mono fun σ H Q h=>by
  obtain⟨F,e,b,e',R,hf,q⟩:=h
  obtain⟨l,m,g1,g2,g3,g4⟩:=R.dct
  unfold pX at hf
  rw [g1] at hf
  dsimp only at hf
  obtain⟨kk,c1,hf⟩:=Option.map_eq_some_iff.mp hf
  cases hf
  have dg:=ng.k (k:=Sum.inl kk) g4
  refine⟨_,R.int h1 c1,_,g2,l,_,rfl,dg,_,rfl,?_⟩
  rw [p9,←mj]
  exact q F H (gy.refl i) R
def oh(i:Nat)(fi:FI):FI:=fun e=>(fi (e.set i none)).bind fun p=>if p.2.1=[] then some (p.1,[],p.2.2.set i (e[i]?).join) else none
def mD(i:Nat)(g:FG):FG:=fun x e=>(g x (e.set i none)).map fun e1=>e1.set i (e[i]?).join
inductive BE (K:PySem.W.Frag) (i:Nat) (F1:Hp) (P:En→Prop) (G:L2.St→Hp→Hp→En→Prop) (σ:L2.St) (H:Hp):Prop
  | mk {F:Hp} {e:En} (R:iH K i F H σ e) (sF:av F1 F) (hf:P e) (q:G σ F H e):BE K i F1 P G σ H
theorem iH.back{F H:Hp}{σ:L2.St}{e:En}(R:iH K i F H σ e):(e.set i none).set i (e[i]?).join=e:=by
  obtain⟨l,m,g1,_⟩:=R.dct
  rw [List.set_set]
  refine List.ext_getElem? fun j=>?_
  by_cases z:i=j
  · subst z
    rw [List.getElem?_set_self (List.getElem?_eq_some_iff.mp g1).1,g1]
    rfl
  · rw [List.getElem?_set_ne z]
theorem Ai{tg iter:Expr}{body:List Stmt}{fi:FI}{gg:FG}(hp:PassesOwn (model X.prog X.w) X.A X.env X.xe)(hc:X.calm=true)(hi:PI X tg iter (fI K fi))(hg:PG X tg (fG K gg W1))(h1:i∉W1)(hb:iM X body (qg K i f W2))(hs:∀x,foldedSetIterable iter X.env x=pure x):
    PS X (.For tg iter body [] pos) (qg K i (cN (W1++W2) (oh i fi) (mD i gg) f) (W1++W2)):=(xP hp hc hi hg hb hs).mono fun D σ0 H0 hh=>by
  obtain⟨F0,e0,fl,R0,hf,q0⟩:=hh
  unfold cN at hf
  obtain⟨⟨items,own,e1'⟩,hI,hf⟩:=Option.bind_eq_some_iff.mp hf
  unfold oh at hI
  obtain⟨⟨items',own',e1⟩,hI1,hI⟩:=Option.bind_eq_some_iff.mp hI
  dsimp only at hI
  split at hI
  case isFalse=>cases hI
  case isTrue ho=>
  subst ho
  cases hI
  dsimp only at hf
  rw [if_pos (show(([]:gQ).all fun q=> !(W1++W2).contains q.1)=true from rfl)] at hf
  refine⟨F0,_,items,[],e1,R0.rel,hI1,fun J F1 H1 X1 R1 kp ok=>?_⟩
  have s1:∀j,j∈W1→j∈W1++W2:=fun j h=>List.mem_append.mpr (.inl h)
  have s2:∀j,j∈W2→j∈W1++W2:=fun j h=>List.mem_append.mpr (.inr h)
  have s0:∀j,j∈([]:List Nat)→j∈W1++W2:=fun j h=>by cases h
  have R1D:=R0.next (W:=[]) X1.s (by simp) R1
  have q1:iU K i (W1++W2) σ0 F1 H1 (e1.set i (e0[i]?).join) D fl:=q0.later (W1:=[]) (X1.s.toD (by simp) _) s0 fun j h=>h
  refine⟨fun k m σ H=>m=items.length - k∧k≤items.length∧BE K i F1 (fun e=>ii [] (mD i gg) f (items.drop k) e=some fl) (fun σ F H e=>iU K i (W1++W2) σ F H e D fl) σ H,
    ⟨items.length,by simp,Nat.zero_le _,.mk R1D (av.refl _) hf q1⟩,?_⟩
  rintro k m σ H ⟨rfl,hk,⟨R,sF,hf,q⟩⟩
  rename_i F e
  obtain⟨go,stop,yld⟩:=ok F H sF R.rel.sm (fun p hp=>by cases hp)
  by_cases hlt:k < items.length
  · have hd:items.drop k=items[k]::items.drop (k+1):=List.drop_eq_getElem_cons hlt
    rw [hd] at hf
    unfold ii at hf
    obtain⟨e2,h2,hf⟩:=Option.bind_eq_some_iff.mp hf
    obtain⟨fl2,h3,hf⟩:=Option.bind_eq_some_iff.mp hf
    refine .inr ⟨go k hlt,BE K i F1 (fun e=>ii [] (mD i gg) f (items.drop (k+1)) e=some fl) (fun σ F H e=>iU K i (W1++W2) σ F H e D fl),
      fun σ' H' r=>⟨items.length - (k+1),by lia,rfl,hlt,r⟩,fun x H' hy=>?_⟩
    obtain⟨F',sH,sF',sm',fz,hx⟩:=yld k items[k] x H' (List.getElem?_eq_getElem hlt) hy
    obtain⟨R',X'⟩:=R.rel.step sH sF' sm' fz
    have RD:=R.next (W:=[]) X'.s (by simp) R'
    have XD:gy i [] σ F H e σ F' H' ((e.set i none).set i (e[i]?).join):=X'.s.toD (by simp) _
    rw [R.back] at RD XD
    unfold mD at h2
    obtain⟨e2',h2',rfl⟩:=Option.map_eq_some_iff.mp h2
    refine⟨F',_,items[k],e2',R',hx,h2',fun σ2 x2 R2=>⟨F',_,fl2,RD.next x2 h1 R2,h3,?_⟩⟩
    have q2:iU K i (W1++W2) σ2 F' H' (e2'.set i (e[i]?).join) D fl:=(q.later (W1:=[]) (W2:=W1++W2) XD s0 fun j h=>h).later (x2.toD h1 _) s1 fun j h=>h
    cases fl2 with
    | nx e3=>
      intro F3 H3 σ3 x3 R3
      dsimp only at hf
      split at hf
      case isFalse=>cases hf
      case isTrue kp3=>
      exact .mk R3 (sF.trans (sF'.trans x3.sf)) hf (q2.later x3 s2 fun j h=>h)
    | ct e3=>
      intro F3 H3 σ3 x3 R3
      dsimp only at hf
      split at hf
      case isFalse=>cases hf
      case isTrue kp3=>
      exact .mk R3 (sF.trans (sF'.trans x3.sf)) hf (q2.later x3 s2 fun j h=>h)
    | bk e3=>
      cases hf
      exact fun F3 H3 σ3 x3 R3=>q2 F3 H3 σ3 (x3.mono s2) R3
    | rt r e3=>
      cases hf
      exact fun F3 H3 σ3 v x3 R3 A3=>q2 F3 H3 σ3 v (x3.mono s2) R3 A3
  · have hd:items.drop k=[]:=List.drop_eq_nil_of_le (by lia)
    rw [hd] at hf
    cases hf
    exact .inl ⟨stop k (by lia),q F H σ (gy.refl i) R⟩
def uk(i:Nat):FS:=fun e=>match e[i]? with
  | some (some (.d d))=>some (.rt (.d d) e)
  | _=>none
theorem Ak{x:Str}{p:Pos}(ho:PE X (.Name x p) (pY i)):PS X (.Return (some (.Name x p)) pos) (qg K i (uk i) []):=(xQ ho).mono fun D σ H h=>by
  obtain⟨F,e,fl,R,hf,q⟩:=h
  obtain⟨l,m,g1,g2,g3,g4⟩:=R.dct
  unfold uk at hf
  rw [g1] at hf
  cases hf
  have no:¬bR σ (e.set i none) H l:=R.rel.notOwn g4 (fun _ z=>nomatch z)
  obtain⟨R2,s2⟩:=R.rel.freeze g3 g4 no
  refine⟨_,g2,q _ H σ (.ref l) ⟨s2,fun _ z=>z,fun a vs z z2 _=>?_,fun _ vs z=>⟨vs,z⟩,fun _ _ z _ _=>z,fun _ z=>.inl z,fun _ _=>rfl,rfl,fun a m' z z2 _ nl=>?_⟩ R2 ?_⟩
  · have ea:a≠l:=fun ea=>by rw [ea,g4] at z2;cases z2
    rw [aB ea];exact z
  · have ea:a≠l:=fun ea=>nl (by rw [ea];exact g2)
    rw [aB ea];exact z
  · simp only [cz,DA]
    exact⟨l,m,rfl,ax,rfl⟩
theorem pj{H:Hp}{σ:L2.St}{e:En}{v:Option V}{j:Nat}{a:Addr}:Fp (σ.set i v) (e.set i none) H j a↔ Fp σ (e.set i none) H j a:=by
  by_cases z:i=j
  · subst z
    have no:∀s:Sv,(e.set i none)[i]?≠some (some s):=fun s h=>by
      rw [List.getElem?_set,if_pos rfl] at h
      split at h<;>cases h
    constructor
    · rintro(⟨xs,h,_⟩ | ⟨xss,_,_,h,_⟩)
      · exact absurd h (no _)
      · exact absurd h (no _)
    · rintro(⟨xs,h,_⟩ | ⟨xss,_,_,h,_⟩)
      · exact absurd h (no _)
      · exact absurd h (no _)
  · have e1:(σ.set i v)[j]?=σ[j]?:=List.getElem?_set_ne z
    unfold Fp
    rw [e1]
theorem aY.poke{F H:Hp}{σ:L2.St}{e:En}(R:aY K F H σ (e.set i none))(v:Option V):aY K F H (σ.set i v) (e.set i none):=by
  have ne:∀(j:Nat) (s:Sv),(e.set i none)[j]?=some (some s)→i≠j:=fun j s h z=>by
    subst z
    rw [List.getElem?_set,if_pos rfl] at h
    split at h<;>cases h
  refine⟨R.sm,by rw [List.length_set];exact R.len,fun j x h=>?_,fun j xs h=>?_,fun j xss h=>?_,fun j k a h1 h2=>R.fp j k a (pj.mp h1) (pj.mp h2)⟩
  · rw [List.getElem?_set_ne (ne j _ h)];exact R.dat j x h
  · rw [List.getElem?_set_ne (ne j _ h)];exact R.own j xs h
  · rw [List.getElem?_set_ne (ne j _ h)];exact R.nst j xss h
def md(i:Nat)(f:FS):FS:=fun e=>if i < e.length then(f (e.set i (some (.d (.dict []))))).bind fun fl=>match fl with
  | .rt r e'=>some (.rt r (e'.set i none))
  | _=>none else none
theorem sC{x:Str}{p pos':Pos}(hN:X.N.Nodup)(hix:X.N[i]?=some x)(hx:BG X.env.scope x)(hs:swapsWith (.Dict [] [] p) (some (.Name x pos')) pos.line X.env=pure false)(hf':X.fn x=true∨X.env.scope.names.lookup x=some .local)(hr:iM X d_ (qg K i f W)):
    iM X (.Assign [.Name x pos'] (.Dict [] [] p) pos::d_) (fS K (md i f) (i::W)):=(mP (xR hN hix hx xD hs hf') hr).mono fun D σ H h=>by
  obtain⟨F,e,fl,R,hf,q⟩:=h
  unfold md at hf
  split at hf
  case isFalse=>cases hf
  case isTrue hlt=>
  obtain⟨fl1,h1,hf⟩:=Option.bind_eq_some_iff.mp hf
  intro l hl
  have hFl:F l=none:=R.freeF hl
  have Rd:=R.drop i
  have nO:¬bR σ (e.set i none) H l:=fun z=>Rd.ownH l z hl
  obtain⟨R1,o1⟩:=Rd.putO (o:=.dK []) hFl nO
  have R2:=R1.poke (some (.ref l))
  have hσ:(σ.set i (some (V.ref l)))[i]?=some (some (.ref l)):=List.getElem?_set_self (by rw [R.len];exact hlt)
  have ow:∀a,bR (σ.set i (some (.ref l))) (e.set i none) (aV H l (.dK [])) a→bR σ e H a:=fun a ⟨j,z⟩=>((o1 a).mp ⟨j,pj.mp z⟩).drop
  refine⟨F,e.set i (some (.d (.dict []))),fl1,⟨by rw [List.set_set];exact R2,l,[],List.getElem?_set_self hlt,hσ,hFl,ax⟩,h1,?_⟩
  cases fl1 with
  | rt r e'=>
    cases hf
    intro F' H' σ' v x R' A
    have es:(e.set i (some (Sv.d (.dict [])))).set i none=e.set i none:=List.set_set ..
    have ne:∀a o,H a=some o→a≠l:=fun a o z ea=>by rw [ea,hl] at z;cases z
    have up:∀a o,H a=some o→(aV H l (.dK [])) a=some o:=fun a o z=>by rw [aB (ne a o z)];exact z
    have nl:∀a o,H a=some o→(σ.set i (some (V.ref l)))[i]?≠some (some (.ref a)):=fun a o z w=>by
      rw [hσ] at w
      exact ne a o z (V.ref.inj (Option.some.inj (Option.some.inj w))).symm
    have dm:∀a,(aV H l (.dK [])) a=none→H a=none:=fun a z=>by
      by_cases ea:a=l
      · rw [ea,ax] at z;cases z
      · rw [aB ea] at z;exact z
    refine q F' H' σ' v ⟨x.sf,fun a z=>dm a (x.dom a z),fun a vs z z2 no=>x.fr a vs z (up a _ z2) (fun w=>no (ow a (by rw [es] at w;exact w))),fun a vs z=>x.lst a vs (up a _ z),
      fun a o z no=>x.tmp a o (up a o z) (fun w=>no (ow a (by rw [es] at w;exact w))) (nl a o z),fun a z=>?_,fun j n=>?_,fun a m z z2 no=>x.fd a m z (up a _ z2) (fun w=>no (ow a (by rw [es] at w;exact w))) (nl a _ z2)⟩ R' (A.weak dm)
    · rcases x.own a z with w | w
      · exact .inl (ow a (by rw [es] at w;exact w))
      · exact .inr (dm a w)
    · have n2:j∉W∧j≠i:=⟨fun z=>n (List.mem_cons_of_mem _ z),fun z=>n (by rw [z];exact List.mem_cons_self)⟩
      rw [x.wr j n2.1,List.getElem?_set_ne (Ne.symm n2.2)]
  | _=>cases hf
end
end L2
namespace V66
open PySem PySem.Spec PyProof.Rows L2
variable{P:Program}{w:World}{K:W.Frag}{mg:Str→Option Value}{base:Heap}{f:Addr}{fd:FuncData}
local macro_rules|`(tactic|trivial)=>`(tactic|first|exact .inl rfl|exact .inr rfl|assumption)
local macro_rules|`(¬$n:num)=>`(@qw _ _ $n _ _ (by rfl) (by rfl) (by decide))
local macro_rules|`($a∘$b)=>`(@GC _ _ _ _ _ _ $a $b (by rfl))
def top(i:Nat):Stmt:=PySem.Challenge.pw_askedpairs_k66_whole_sides_or_ring.main.body.getD i (.Pass ⟨0,0,0,0⟩)
theorem Ba{α:Type u}{β:Type v}{f:α→β}:List.map f []=[]:=rfl
theorem A_{α:Type u}{β:Type v}{f:α→β}{a:α}{l:List α}:List.map f (a::l)=f a::List.map f l:=rfl
theorem A6{α:Type u}{l:List α}:[]++l=l:=rfl
theorem A0{α:Type u}{a:α}{l m:List α}:(a::l)++m=a::(l++m):=rfl
theorem A8{α:Type u}{a:α}{l:List α}:(a::l)[0]?=some a:=rfl
theorem A9{α:Type u}{a:α}{l:List α}{i:Nat}:(a::l)[i+1]?=l[i]?:=rfl
theorem A7{α:Type u}{β:Type v}{a:α}{f:α→Option β}:Option.bind (some a) f=f a:=rfl
theorem Bb{α:Type u}{β:Type v}{a:α}{f:α→β}:Option.map f (some a)=some (f a):=rfl
abbrev bE:Stmt:=top 1
abbrev cx:Stmt:=top 2
abbrev gj:Stmt:=top 3
abbrev fJ:Stmt:=top 4
abbrev iD:Stmt:=top 5
abbrev eL:Stmt:=top 7
abbrev bh:Stmt:=top 8
abbrev eM:Stmt:=top 9
abbrev bL:Stmt:=top 10
abbrev cc:Stmt:=top 13
abbrev eh:Stmt:=top 14
abbrev cV:Stmt:=top 15
abbrev ko:Stmt:=top 17
abbrev kn:Stmt:=top 18
abbrev gf:Stmt:=top 19
abbrev qZ:Stmt:=top 20
abbrev q5:Stmt:=top 21
abbrev f_:Stmt:=top 22
abbrev iC:Stmt:=top 23
abbrev lj:Stmt:=top 24
abbrev q_:Stmt:=top 25
abbrev i7:Stmt:=top 30
abbrev fH:Stmt:=top 31
abbrev kr:Stmt:=top 32
abbrev gh:Stmt:=top 33
abbrev dw:Stmt:=top 34
abbrev ef:Stmt:=top 35
abbrev mU:Stmt:=top 36
structure jM (mg:Str→Option Value):Prop where
  b_abs:mg "abs"=none
  b_len:mg "len"=none
  b_min:mg "min"=none
  b_max:mg "max"=none
  b_range:mg "range"=none
  b_tuple:mg "tuple"=none
  b_int:mg "int"=none
  b_zip:mg "zip"=none
  b_isinstance:mg "isinstance"=none
  b_bool:mg "bool"=none
  b_set:mg "set"=none
  b_any:mg "any"=none
  b_all:mg "all"=none
  b_list:mg "list"=none
noncomputable def dt:FI:=(fq (az io (ae 0) (vC (.int 1))))
noncomputable def bH:FT:=(a7 (az (tR false) (ae 0) (rJ (ae 1) fZ (eS (vC (.int 2))))))
noncomputable def bZ:FI:=(fq (rJ (ae 1) fZ (eS (vC (.int 2)))))
noncomputable def be:FT:=(a7 (az (cE true) (ae 2) (ae 0)))
noncomputable def bI:FE:=(ae 2)
noncomputable def gY:FS:=(bQ (lx [(1,"thing")] 2 dt (ag 1) bH bZ (ag 2) be bI))
noncomputable def bU:FM:=js 2 0 [] gY
theorem gH:aF ["web","thing"] ["web","thing"] (aj bE):=⟨rfl,rfl,rfl,by decide+kernel,rfl,by decide+kernel,by decide+kernel⟩
theorem ke(h:bx K mg "things_tied_to" bE f fd ["web","thing"])(T:jM mg):aL P w K mg base cf 1 f fd ["web","thing"] (cy K 2 bU):=by
  have nd:=gH.nd
  exact h.fn gH rfl rfl (fun cdv A outer s H E hr=>(@am _ _ _ _ _ (@aG _ _ _ _ _ (@Af _ _ _ _ _ _ _ _ _ _ _ _ _ _ _ _ _ _ _ _ (aj bE) ["web","thing"] [(1,"thing")] ["tie","part"] rfl rfl rfl (@du _ _ _ _ _ rfl (@dZ _ _ _ _ _ _ _ rfl (¬0) af (fun _ _=>rfl)))
        (fun C s0 H0 fp=>(@aq _ _ _ 1 _ (show List.Nodup (["thing","tie","part"]:List Str) by decide+kernel) rfl (Or.inl rfl) (by trivial))) (fun C s0 H0 fp=>(@pR _ _ _ _ (@bc _ _ _ _ _ _ _ _ _ (@yU _ _ _ rfl hr) (¬0) (@di _ _ _ _ _ _ _ _ _ _ rfl (¬1) (@dj _ _) (@dk _ _ _ _ af)) (by with_unfolding_all rfl)))) (fun C s0 H0 fp=>(@du _ _ _ _ _ rfl (@di _ _ _ _ _ _ _ _ _ _ rfl (¬1) (@dj _ _) (@dk _ _ _ _ af)))) (fun C s0 H0 fp=>(@aq _ _ _ 2 _ (show List.Nodup (["thing","tie","part"]:List Str) by decide+kernel) rfl (Or.inl rfl) (by trivial))) (fun C s0 H0 fp=>(@pR _ _ _ _ (@bc _ _ _ _ _ _ _ _ _ (@wa _ _ _ rfl hr) (¬2) (¬0) (a8 _))))
        (fun C s0 H0 fp=>(¬2)) rfl (by decide+kernel) (by decide+kernel) (by decide+kernel) (by decide+kernel) (by decide+kernel) (by decide+kernel) (by decide+kernel) (by intro _ _ _ _ _;rfl) (by intro _;rfl)))))
noncomputable def bK:FI:=(fq (cP 2 bU (ab (ae 0) (ab (ae 4) ai))))
noncomputable def bv:FE:=(dc (ab (ae 1) (ab (ae 0) ai)))
noncomputable def cj:FT:=(ut 1 (a7 (az Ec (aP (g1 iI) (ab (ae 3) ai)) (vC (.int 0)))))
noncomputable def cg:FS:=(aA (i8 1 (qY (cw se (ae 3) ai) (c9 (ap (ag 4) (ap (ag 5) cK)))))
    (jt (pX 1 4)
    (aA (li 1 4 5)
    (i8 1 (eT (yD (ae 3) (cD [(4,"thing")] 1 bK (ag 1) br bv)))))
    fw))
noncomputable def dh:FI:=(bA (ab (az io (ae 0) (vC (.int 0))) ai))
noncomputable def df:FS:=(aA (i8 1 (aR 3 (eQ (ab (dc (ab (ae 2) (ab (vC .none) ai))) ai))))
    (eP (2 ^ 4200) cj cg))
noncomputable def jr:FS:=(md 1 (aA (cN ([2]++([3]++(([4]++([5]++[]))++(([]++[])++[])))) (oh 1 dh) (mD 1 (ag 2)) df)
    (uk 1)))
noncomputable def c_:FM:=js 1 5 (1::(([2]++([3]++(([4]++([5]++[]))++(([]++[])++[]))))++[])) jr
theorem i9:aF ["web","told","start","ends","thing","before"] ["web"] (aj cx):=⟨rfl,rfl,rfl,by decide+kernel,rfl,by decide+kernel,by decide+kernel⟩
theorem mN(h:bx K mg "walked_from" cx f fd ["web"])(T:jM mg){f_things_tied_to:Addr}{e_things_tied_to:FuncData}(h_things_tied_to:bx K mg "things_tied_to" bE f_things_tied_to e_things_tied_to ["web","thing"])(G_things_tied_to:aL P w K mg base cf 1 f_things_tied_to e_things_tied_to ["web","thing"] (cy K 2 bU)):aL P w K mg base cf 2 f fd ["web"] (cy K 1 c_):=by
  have nd:=i9.nd
  exact h.fn i9 rfl rfl (fun cdv A outer s H E hr=>(sC (i:=1) nd rfl (Or.inl rfl) (by rfl) (by trivial)
      (jn (Ai (i:=1) PassesOwn.never rfl (@bg _ _ _ _ _ _ _ rfl T.b_range ((@dZ _ _ _ _ _ _ _ rfl (¬0) af (fun _ _=>rfl))∘ac) (by rfl)) (@aq _ _ _ 2 _ nd rfl (Or.inl rfl) (by trivial)) (by decide)
      (jn (mR (i:=1) (by decide) (@ar _ _ _ _ _ 3 _ _ nd rfl (Or.inl rfl) (@bV _ _ _ _ _ ((@bf _ _ _ _ _ _ ((¬2)∘((@x4 _ _ _ _)∘ac)))∘ac)) (by rfl) (by trivial)))
      (kj (vm (i:=1) (n:=2 ^ 4200) PassesOwn.never (x8 (i:=1) (@bc _ _ _ _ _ _ _ _ _ (@D7 _ _) (@aU _ _ _ _ _ _ _ _ _ (@b_len _ _ rfl) (by rfl) T.b_len ((¬3)∘ac) (by decide) (by decide) (by rfl) (by rfl)) af (a8 _)))
      (jn (mR (i:=1) (by decide) (@sA _ _ _ _ _ _ _ _ (@ER _ _ _ _ _ _ rfl (¬3) (by rfl) (by rfl)) (@jH _ _ _ _ _ _ _ _ rfl rfl (@aZ _ _ _ _ _ _ _ _ (@aq _ _ _ 4 _ nd rfl (Or.inr rfl) (by trivial)) (@aZ _ _ _ _ _ _ _ _ (@aq _ _ _ 5 _ nd rfl (Or.inl rfl) (by trivial)) (@iz _ _) (by rfl)) (by rfl)) (bu (bu jB)) (by rfl) (by rfl)) (by rfl) (by rfl) (by rfl)))
      (kj (C9 (i:=1) (vo (i:=1) hr (by decide) (@i5 _ 1 _ _ (by rfl) (by first | exact Or.inl rfl | exact Or.inr (Or.inl rfl) | exact Or.inr (Or.inr rfl)) (by decide) (by decide)) (@i5 _ 4 _ _ (by rfl) (by first | exact Or.inl rfl | exact Or.inr (Or.inl rfl) | exact Or.inr (Or.inr rfl)) (by decide) (by decide)) rfl)
      (jn (Aj (i:=1) hr (by decide) (by decide) (@i5 _ 1 _ _ (by rfl) (by first | exact Or.inl rfl | exact Or.inr (Or.inl rfl) | exact Or.inr (Or.inr rfl)) (by decide) (by decide)) (@i5 _ 4 _ _ (by rfl) (by first | exact Or.inl rfl | exact Or.inr (Or.inl rfl) | exact Or.inr (Or.inr rfl)) (by decide) (by decide)) (@i5 _ 5 _ _ (by rfl) (by first | exact Or.inl rfl | exact Or.inr (Or.inl rfl) | exact Or.inr (Or.inr rfl)) (by decide) (by decide)) (by rfl))
      (kj (mR (i:=1) (by decide) (@dn _ _ _ _ _ (@xV _ _ _ _ _ _ _ _ rfl (¬3) (@f9 _ _ _ _ _ _ _ _ _ _ _ _ _ (aj cx) ["web","told","start","ends","thing","before"] [(4,"thing")] ["part"] rfl rfl rfl (@du _ _ _ _ _ rfl (@aS _ _ _ _ _ _ _ _ _ _ _ _ _ _ _ h_things_tied_to G_things_tied_to (hr.mono (by decide)) ((¬0)∘((¬4)∘ac)) (by rfl) (by decide) (by rfl) (by rfl)))
        (fun C s0 H0 fp=>(@aq _ _ _ 1 _ (show List.Nodup (["thing","part"]:List Str) by decide+kernel) rfl (Or.inl rfl) (by trivial))) (fun C s0 H0 fp=>(@dR _ _))
        (fun C s0 H0 fp=>(@bf _ _ _ _ _ _ ((¬1)∘((¬0)∘ac)))) rfl (by decide+kernel) (by decide+kernel) (by decide+kernel) (by decide+kernel) (by decide+kernel) (by decide+kernel) (by decide+kernel) (by intro _;rfl)) (by rfl) (by rfl) (by rfl) (by rfl) (by rfl) (by rfl)) (by rfl)))))
      x6)))))) (by intro _;rfl))
      (kj (Ak (i:=1) (@i5 _ 1 _ _ (by rfl) (by first | exact Or.inl rfl | exact Or.inr (Or.inl rfl) | exact Or.inr (Or.inr rfl)) (by decide) (by decide)))))))
noncomputable def bX:FT:=(a7 (az fP (ae 1) (vC .none)))
noncomputable def dI:FS:=(aA (eT (cw bS (ae 2) (ab (ae 1) ai)))
    (aR 1 (az mC (ae 0) (ae 1))))
noncomputable def my:FS:=(aA (aR 2 (eQ ai))
    (aA (eP (2 ^ 4200) bX dI)
    (bQ (ae 2))))
noncomputable def fY:FM:=js 2 1 ([2]++(([]++[1])++[])) my
theorem lS:aF ["before","thing","way"] ["before","thing"] (aj gj):=⟨rfl,rfl,rfl,by decide+kernel,rfl,by decide+kernel,by decide+kernel⟩
theorem qU(h:bx K mg "way_back" gj f fd ["before","thing"])(T:jM mg):aL P w K mg base cf 1 f fd ["before","thing"] (cy K 2 fY):=by
  have nd:=lS.nd
  exact h.fn lS rfl rfl (fun cdv A outer s H E hr=>(@ah _ _ _ _ _ _ _ _ (@ar _ _ _ _ _ 2 _ _ nd rfl (Or.inl rfl) (@bV _ _ _ _ _ ac) (by rfl) (by trivial))
      (@ah _ _ _ _ _ _ _ _ (@ki _ _ _ _ _ _ _ _ _ PassesOwn.never (@bc _ _ _ _ _ _ _ _ _ (@jR _ _) (¬1) (@x4 _ _ _ _) (a8 _))
      (@ah _ _ _ _ _ _ _ _ (@dn _ _ _ _ _ (@cM _ _ _ _ _ _ _ _ _ rfl (¬2) ((¬1)∘ac) (by rfl) (by rfl) (by rfl) (by rfl) (by rfl)) (by rfl))
      (@am _ _ _ _ _ (@ar _ _ _ _ _ 1 _ _ nd rfl (Or.inl rfl) (@C3 _ _ _ _ _ _ _ _ hr (¬0) (¬1) (fun _ _=>rfl)) (by rfl) (by trivial)))))
      (@am _ _ _ _ _ (@aG _ _ _ _ _ (¬2))))))
noncomputable def lI:FI:=(fq (ae 0))
noncomputable def eF:FT:=(a7 (az (tR false) (ae 1) (ae 0)))
noncomputable def gF:FE:=(ae 1)
noncomputable def nL:FS:=(aA (aR 2 (az io (cD [(1,"other")] 1 lI (ag 1) eF gF) (vC (.int 0))))
    (bQ (aP (g1 dr) (ab (az bi (rJ (ae 0) fZ (eS (az bi (DO true gX (ae 0) (ae 2)) (vC (.int 1))))) (FC (rJ (ae 1) fZ (eS (DO true gX (ae 1) (ae 2)))) (uB ze (vC (.int 1))))) ai))))
noncomputable def hU:FM:=js 2 1 ([2]++[]) nL
theorem mW:aF ["way","other","meeting"] ["way","other"] (aj fJ):=⟨rfl,rfl,rfl,by decide+kernel,rfl,by decide+kernel,by decide+kernel⟩
theorem sk(h:bx K mg "ring_of" fJ f fd ["way","other"])(T:jM mg):aL P w K mg base cf 1 f fd ["way","other"] (cy K 2 hU):=by
  have nd:=mW.nd
  exact h.fn mW rfl rfl (fun cdv A outer s H E hr=>(@ah _ _ _ _ _ _ _ _ (@ar _ _ _ _ _ 2 _ _ nd rfl (Or.inl rfl) (@dZ _ _ _ _ _ _ _ rfl (@f9 _ _ _ _ _ _ _ _ _ _ _ _ _ (aj fJ) ["way","other","meeting"] [(1,"other")] ["thing"] rfl rfl rfl (@du _ _ _ _ _ rfl (¬0))
        (fun C s0 H0 fp=>(@aq _ _ _ 1 _ (show List.Nodup (["other","thing"]:List Str) by decide+kernel) rfl (Or.inl rfl) (by trivial))) (fun C s0 H0 fp=>(@pR _ _ _ _ (@bc _ _ _ _ _ _ _ _ _ (@yU _ _ _ rfl hr) (¬1) (¬0) (by with_unfolding_all rfl))))
        (fun C s0 H0 fp=>(¬1)) rfl (by decide+kernel) (by decide+kernel) (by decide+kernel) (by decide+kernel) (by decide+kernel) (by decide+kernel) (by decide+kernel) (by intro _;rfl)) af (fun _ _=>rfl)) (by rfl) (by trivial))
      (@am _ _ _ _ _ (@aG _ _ _ _ _ (@aU _ _ _ _ _ _ _ _ _ (@b_tuple _ _ rfl) (by rfl) T.b_tuple ((@ba _ _ _ _ _ _ _ rfl (@di _ _ _ _ _ _ _ _ _ _ rfl (¬0) (@dj _ _) (@dk _ _ _ _ (@ba _ _ _ _ _ _ _ rfl (@xW _ _ _ _ _ _ _ _ rfl (¬0) (¬2) (by rfl) (by rfl) (by rfl) (by rfl) (by rfl)) af))) (@GB _ _ _ _ _ _ _ _ rfl (@di _ _ _ _ _ _ _ _ _ _ rfl (¬1) (@dj _ _) (@dk _ _ _ _ (@xW _ _ _ _ _ _ _ _ rfl (¬1) (¬2) (by rfl) (by rfl) (by rfl) (by rfl) (by rfl)))) (@EQ _ _ _ _ _ af)))∘ac) (by decide) (by decide) (by rfl) (by rfl))))))
noncomputable def oi:FI:=(fq (az io (ae 0) (vC (.int 1))))
noncomputable def gW:FS:=(jt (a7 (az (cE false) (az io (ae 3) (ae 4)) (az io (ae 3) (ae 5))))
    (bQ (dc (ab (vC (.str ("ring":Str))) (ab (cP 2 hU (ab (az io (ae 2) (ae 4)) (ab (az io (ae 2) (ae 5)) ai))) ai))))
    fw)
noncomputable def oj:FI:=(fq (ae 2))
noncomputable def gZ:FE:=(az aI (aP (g1 iI) (ab (ae 0) ai)) (vC (.int 2)))
noncomputable def kZ:FI:=(bA (ab (az io (ae 0) (vC (.int 0))) ai))
noncomputable def jf:FE:=(cP 2 fY (ab (ae 0) (ab (ae 1) ai)))
noncomputable def oW:FS:=(aA (aR 1 (cP 1 c_ (ab (ae 0) ai)))
    (aA (aR 2 (cD [(1,"before")] 1 kZ (ag 1) br jf))
    (aA (aR 3 (aP (g1 dr) (ab (cD [] 1 oj (ag 0) br gZ) ai)))
    (aA (cN (([4]++([5]++([6]++([7]++[]))))++([]++[])) oi (c9 (ap (ag 4) (ap (ag 5) (ap (ag 6) (ap (ag 7) cK))))) gW)
    (bQ (dc (ab (vC (.str ("sides":Str))) (ab (ae 3) ai))))))))
noncomputable def jj:FM:=js 1 7 ([1]++([2]++([3]++((([4]++([5]++([6]++([7]++[]))))++([]++[]))++[])))) oW
theorem rj:aF ["web","before","ways","row","one","other","chance","worth"] ["web"] (aj iD):=⟨rfl,rfl,rfl,by decide+kernel,rfl,by decide+kernel,by decide+kernel⟩
theorem xx(h:bx K mg "sides" iD f fd ["web"])(T:jM mg){f_walked_from:Addr}{e_walked_from:FuncData}(h_walked_from:bx K mg "walked_from" cx f_walked_from e_walked_from ["web"])(G_walked_from:aL P w K mg base cf 2 f_walked_from e_walked_from ["web"] (cy K 1 c_)){f_way_back:Addr}{e_way_back:FuncData}(h_way_back:bx K mg "way_back" gj f_way_back e_way_back ["before","thing"])(G_way_back:aL P w K mg base cf 1 f_way_back e_way_back ["before","thing"] (cy K 2 fY)){f_ring_of:Addr}{e_ring_of:FuncData}(h_ring_of:bx K mg "ring_of" fJ f_ring_of e_ring_of ["way","other"])(G_ring_of:aL P w K mg base cf 1 f_ring_of e_ring_of ["way","other"] (cy K 2 hU)):aL P w K mg base cf 3 f fd ["web"] (cy K 1 jj):=by
  have nd:=rj.nd
  exact h.fn rj rfl rfl (fun cdv A outer s H E hr=>(@ah _ _ _ _ _ _ _ _ (@ar _ _ _ _ _ 1 _ _ nd rfl (Or.inr rfl) (@aS _ _ _ _ _ _ _ _ _ _ _ _ _ _ _ h_walked_from G_walked_from (hr.mono (by decide)) ((¬0)∘ac) (by rfl) (by decide) (by rfl) (by rfl)) (by rfl) (by trivial))
      (@ah _ _ _ _ _ _ _ _ (@vh _ _ _ (2) _ _ _ _ _ _ _ _ _ _ _ _ _ (aj iD) ["web","before","ways","row","one","other","chance","worth"] [(1,"before")] ["thing"] rfl rfl rfl (@bg _ _ _ _ _ _ _ rfl T.b_range ((@dZ _ _ _ _ _ _ _ rfl (¬0) af (fun _ _=>rfl))∘ac) (by rfl))
        (fun C s0 H0 fp=>(@aq _ _ _ 1 _ (show List.Nodup (["before","thing"]:List Str) by decide+kernel) rfl (Or.inl rfl) (by trivial))) (fun C s0 H0 fp=>(@dR _ _))
        (fun C s0 H0 fp=>(@aS _ _ _ _ _ _ _ _ _ _ _ _ _ _ _ h_way_back G_way_back (hr.mono (by decide)) ((¬0)∘((¬1)∘ac)) (by rfl) (by decide) (by rfl) (by rfl))) rfl (by decide+kernel) (by decide+kernel) (by decide+kernel) (by decide+kernel) (by decide+kernel) (by decide+kernel) (by decide+kernel) nd rfl rfl (by rfl) (by intro _;rfl))
      (@ah _ _ _ _ _ _ _ _ (@ar _ _ _ _ _ 3 _ _ nd rfl (Or.inl rfl) (@aU _ _ _ _ _ _ _ _ _ (@b_tuple _ _ rfl) (by rfl) T.b_tuple ((@f9 _ _ _ _ _ _ _ _ _ _ _ _ _ (aj iD) ["web","before","ways","row","one","other","chance","worth"] [] ["way"] rfl rfl rfl (@du _ _ _ _ _ rfl (¬2))
        (fun C s0 H0 fp=>(@aq _ _ _ 0 _ (show List.Nodup (["way"]:List Str) by decide+kernel) rfl (Or.inl rfl) (by trivial))) (fun C s0 H0 fp=>(@dR _ _))
        (fun C s0 H0 fp=>(@aN _ _ _ _ _ _ _ (@aU _ _ _ _ _ _ _ _ _ (@b_len _ _ rfl) (by rfl) T.b_len ((¬0)∘ac) (by decide) (by decide) (by rfl) (by rfl)) af)) rfl (by decide+kernel) (by decide+kernel) (by decide+kernel) (by decide+kernel) (by decide+kernel) (by decide+kernel) (by decide+kernel) (by intro _;rfl))∘ac) (by decide) (by decide) (by rfl) (by rfl)) (by rfl) (by trivial))
      (@ah _ _ _ _ _ _ _ _ (@cY _ _ _ _ _ _ _ _ _ _ _ PassesOwn.never rfl (@du _ _ _ _ _ rfl (@dZ _ _ _ _ _ _ _ rfl (¬0) af (fun _ _=>rfl))) (@jH _ _ _ _ _ _ _ _ rfl rfl (@aZ _ _ _ _ _ _ _ _ (@aq _ _ _ 4 _ nd rfl (Or.inl rfl) (by trivial)) (@aZ _ _ _ _ _ _ _ _ (@aq _ _ _ 5 _ nd rfl (Or.inl rfl) (by trivial)) (@aZ _ _ _ _ _ _ _ _ (@aq _ _ _ 6 _ nd rfl (Or.inl rfl) (by trivial)) (@aZ _ _ _ _ _ _ _ _ (@aq _ _ _ 7 _ nd rfl (Or.inl rfl) (by trivial)) (@iz _ _) (by rfl)) (by rfl)) (by rfl)) (by rfl)) (bu (bu (bu (bu jB)))) (by rfl) (by rfl))
      (@am _ _ _ _ _ (@dQ _ _ _ _ _ _ _ _ _ _ _ (@bc _ _ _ _ _ _ _ _ _ (@kS _ _ _ rfl hr) (@dZ _ _ _ _ _ _ _ rfl (¬3) (¬4) (fun _ _=>rfl)) (@dZ _ _ _ _ _ _ _ rfl (¬3) (¬5) (fun _ _=>rfl)) (a8 _))
      (@am _ _ _ _ _ (@aG _ _ _ _ _ (@bf _ _ _ _ _ _ ((@pQ _ _ _ _ _)∘((@aS _ _ _ _ _ _ _ _ _ _ _ _ _ _ _ h_ring_of G_ring_of (hr.mono (by decide)) ((@dZ _ _ _ _ _ _ _ rfl (¬2) (¬4) (fun _ _=>rfl))∘((@dZ _ _ _ _ _ _ _ rfl (¬2) (¬5) (fun _ _=>rfl))∘ac)) (by rfl) (by decide) (by rfl) (by rfl))∘ac)))))
      (@bJ _ _))) (by intro _;rfl))
      (@am _ _ _ _ _ (@aG _ _ _ _ _ (@bf _ _ _ _ _ _ ((@pQ _ _ _ _ _)∘((¬3)∘ac))))))))))
noncomputable def lE:FS:=(bQ (lU (uB (kU "int") (ae 0)) (rH (uB (kU "bool") (ae 0)))))
noncomputable def eK:FM:=js 1 0 [] lE
theorem ku:aF ["thing"] ["thing"] (aj eL):=⟨rfl,rfl,rfl,by decide+kernel,rfl,by decide+kernel,by decide+kernel⟩
theorem pI(h:bx K mg "is_number" eL f fd ["thing"])(T:jM mg):aL P w K mg base cf 1 f fd ["thing"] (cy K 1 eK):=by
  have nd:=ku.nd
  exact h.fn ku rfl rfl (fun cdv A outer s H E hr=>(@am _ _ _ _ _ (@aG _ _ _ _ _ (@pO _ _ _ _ _ _ _ _ (@uh _ _ _ _ _ _ _ _ "int" rfl (by decide) rfl T.b_isinstance rfl T.b_int PyProof.Rows.boot_int (by decide) (by decide) (¬0) (by rfl) (by rfl)) (@pP _ _ _ _ _ _ (@C8 _ _ _ _ _ (@uh _ _ _ _ _ _ _ _ "bool" rfl (by decide) rfl T.b_isinstance rfl T.b_bool PyProof.Rows.boot_bool (by decide) (by decide) (¬0) (by rfl) (by rfl))))))))
noncomputable def bW:FS:=(bQ (lU (cP 1 eK (ab (ae 0) ai)) (i_ Ee Ee (ae 1) (ae 0) (ae 2))))
noncomputable def aM:FM:=js 3 0 [] bW
theorem eU:aF ["thing","low","high"] ["thing","low","high"] (aj bh):=⟨rfl,rfl,rfl,by decide+kernel,rfl,by decide+kernel,by decide+kernel⟩
theorem jq(h:bx K mg "is_number_within" bh f fd ["thing","low","high"])(T:jM mg){f_is_number:Addr}{e_is_number:FuncData}(h_is_number:bx K mg "is_number" eL f_is_number e_is_number ["thing"])(G_is_number:aL P w K mg base cf 1 f_is_number e_is_number ["thing"] (cy K 1 eK)):aL P w K mg base cf 2 f fd ["thing","low","high"] (cy K 3 aM):=by
  have nd:=eU.nd
  exact h.fn eU rfl rfl (fun cdv A outer s H E hr=>(@am _ _ _ _ _ (@aG _ _ _ _ _ (@pO _ _ _ _ _ _ _ _ (@aS _ _ _ _ _ _ _ _ _ _ _ _ _ _ _ h_is_number G_is_number (hr.mono (by decide)) ((¬0)∘ac) (by rfl) (by decide) (by rfl) (by rfl)) (@pP _ _ _ _ _ _ (@Ae _ _ _ _ _ _ _ _ _ _ _ _ _ (@D8 _ _) (@D8 _ _) (¬1) (¬0) (¬2) (by with_unfolding_all rfl)))))))
noncomputable def iP:FS:=(bQ (lU (uB (kU "tuple") (ae 0)) (az (cE false) (aP (g1 iI) (ab (ae 0) ai)) (ae 1))))
noncomputable def dB:FM:=js 2 0 [] iP
theorem kx:aF ["thing","many"] ["thing","many"] (aj eM):=⟨rfl,rfl,rfl,by decide+kernel,rfl,by decide+kernel,by decide+kernel⟩
theorem pJ(h:bx K mg "is_row_of" eM f fd ["thing","many"])(T:jM mg):aL P w K mg base cf 1 f fd ["thing","many"] (cy K 2 dB):=by
  have nd:=kx.nd
  exact h.fn kx rfl rfl (fun cdv A outer s H E hr=>(@am _ _ _ _ _ (@aG _ _ _ _ _ (@pO _ _ _ _ _ _ _ _ (@uh _ _ _ _ _ _ _ _ "tuple" rfl (by decide) rfl T.b_isinstance rfl T.b_tuple PyProof.Rows.boot_tuple (by decide) (by decide) (¬0) (by rfl) (by rfl)) (@pP _ _ _ _ _ _ (@oC _ _ _ _ _ _ _ _ _ (@kS _ _ _ rfl hr) (@aU _ _ _ _ _ _ _ _ _ (@b_len _ _ rfl) (by rfl) T.b_len ((¬0)∘ac) (by decide) (by decide) (by rfl) (by rfl)) (¬1) (a8 _)))))))
noncomputable def gG:FI:=(fq (ae 0))
noncomputable def cC:FE:=(cP 3 aM (ab (ae 1) (ab (vC (.int 0)) (ab (az fQ (ae 0) (vC (.int 1))) ai))))
noncomputable def de:FS:=(aA (jt (yO (nH (a7 (uB (kU "tuple") (ae 0)))) (nH (a7 (aP (g1 (fR lH)) (ab (cD [(1,"many")] 1 gG (ag 1) br cC) ai)))))
    (bQ (vC (.bool false)))
    fw)
    (bQ (az (cE false) (uB jg (ae 0)) (aP (g1 iI) (ab (ae 0) ai)))))
noncomputable def bw:FM:=js 2 0 (([]++[])++[]) de
theorem h9:aF ["thing","many"] ["thing","many"] (aj bL):=⟨rfl,rfl,rfl,by decide+kernel,rfl,by decide+kernel,by decide+kernel⟩
theorem k8(h:bx K mg "is_unlike_row" bL f fd ["thing","many"])(T:jM mg){f_is_number_within:Addr}{e_is_number_within:FuncData}(h_is_number_within:bx K mg "is_number_within" bh f_is_number_within e_is_number_within ["thing","low","high"])(G_is_number_within:aL P w K mg base cf 2 f_is_number_within e_is_number_within ["thing","low","high"] (cy K 3 aM)):aL P w K mg base cf 3 f fd ["thing","many"] (cy K 2 bw):=by
  have nd:=h9.nd
  exact h.fn h9 rfl rfl (fun cdv A outer s H E hr=>(@ah _ _ _ _ _ _ _ _ (@dQ _ _ _ _ _ _ _ _ _ _ _ (@x9 _ _ _ _ (@qX _ _ _ _ _ _ _ _ (@mS _ _ _ _ _ (@mT _ _ _ _ (@uh _ _ _ _ _ _ _ _ "tuple" rfl (by decide) rfl T.b_isinstance rfl T.b_tuple PyProof.Rows.boot_tuple (by decide) (by decide) (¬0) (by rfl) (by rfl)) (by intro _;rfl))) (@pS _ _ _ _ _ (@mS _ _ _ _ _ (@mT _ _ _ _ (@aU _ _ _ _ _ _ _ _ _ (@b_all _ _ _ rfl hr) (by rfl) T.b_all ((@f9 _ _ _ _ _ _ _ _ _ _ _ _ _ (aj bL) ["thing","many"] [(1,"many")] ["part"] rfl rfl rfl (@du _ _ _ _ _ rfl (¬0))
        (fun C s0 H0 fp=>(@aq _ _ _ 1 _ (show List.Nodup (["many","part"]:List Str) by decide+kernel) rfl (Or.inl rfl) (by trivial))) (fun C s0 H0 fp=>(@dR _ _))
        (fun C s0 H0 fp=>(@aS _ _ _ _ _ _ _ _ _ _ _ _ _ _ _ h_is_number_within G_is_number_within (hr.mono (by decide)) ((¬1)∘(af∘((@lM _ _ _ _ _ _ _ (¬0) af)∘ac))) (by rfl) (by decide) (by rfl) (by rfl))) rfl (by decide+kernel) (by decide+kernel) (by decide+kernel) (by decide+kernel) (by decide+kernel) (by decide+kernel) (by decide+kernel) (by intro _;rfl))∘ac) (by decide) (by decide) (by rfl) (by rfl)) (by intro _;rfl))))))
      (@am _ _ _ _ _ (@aG _ _ _ _ _ (@iG _ _ _ _ _)))
      (@bJ _ _))
      (@am _ _ _ _ _ (@aG _ _ _ _ _ (@oC _ _ _ _ _ _ _ _ _ (@kS _ _ _ rfl hr) (@xX _ _ _ _ _ _ _ _ rfl rfl rfl T.b_len rfl T.b_set (¬0) (by rfl) (by rfl) (by rfl) (by rfl)) (@aU _ _ _ _ _ _ _ _ _ (@b_len _ _ rfl) (by rfl) T.b_len ((¬0)∘ac) (by decide) (by decide) (by rfl) (by rfl)) (a8 _))))))
noncomputable def fU:FI:=(fq (az io (ae 0) (vC (.int 1))))
noncomputable def dN:FE:=(az (cE true) (az io (ae 0) (ae 1)) (az io (ae 0) (ae 2)))
noncomputable def iX:FI:=(fq (ae 1))
noncomputable def dO:FE:=(cP 3 aM (ab (ae 0) (ab (vC (.int 0)) (ab (vC (.int 1)) ai))))
noncomputable def ff:FS:=(aA (jt (yO (nH (a7 (cP 2 dB (ab (ae 1) (ab (az io (ae 0) (vC (.int 0))) ai))))) (nH (a7 (aP (g1 (fR lH)) (ab (cD [] 1 iX (ag 0) br dO) ai)))))
    (bQ (vC (.bool false)))
    fw)
    (bQ (aP (g1 (fR lH)) (ab (cD [(1,"thing")] 4 fU (c9 (ap (ag 1) (ap (ag 2) (ap (ag 3) (ap (ag 4) cK))))) br dN) ai))))
noncomputable def bN:FM:=js 2 0 (([]++[])++[]) ff
theorem jw:aF ["web","thing"] ["web","thing"] (aj cc):=⟨rfl,rfl,rfl,by decide+kernel,rfl,by decide+kernel,by decide+kernel⟩
theorem nF(h:bx K mg "sides_hold" cc f fd ["web","thing"])(T:jM mg){f_is_row_of:Addr}{e_is_row_of:FuncData}(h_is_row_of:bx K mg "is_row_of" eM f_is_row_of e_is_row_of ["thing","many"])(G_is_row_of:aL P w K mg base cf 1 f_is_row_of e_is_row_of ["thing","many"] (cy K 2 dB)){f_is_number_within:Addr}{e_is_number_within:FuncData}(h_is_number_within:bx K mg "is_number_within" bh f_is_number_within e_is_number_within ["thing","low","high"])(G_is_number_within:aL P w K mg base cf 2 f_is_number_within e_is_number_within ["thing","low","high"] (cy K 3 aM)):aL P w K mg base cf 3 f fd ["web","thing"] (cy K 2 bN):=by
  have nd:=jw.nd
  exact h.fn jw rfl rfl (fun cdv A outer s H E hr=>(@ah _ _ _ _ _ _ _ _ (@dQ _ _ _ _ _ _ _ _ _ _ _ (@x9 _ _ _ _ (@qX _ _ _ _ _ _ _ _ (@mS _ _ _ _ _ (@mT _ _ _ _ (@aS _ _ _ _ _ _ _ _ _ _ _ _ _ _ _ h_is_row_of G_is_row_of (hr.mono (by decide)) ((¬1)∘((@dZ _ _ _ _ _ _ _ rfl (¬0) af (fun _ _=>rfl))∘ac)) (by rfl) (by decide) (by rfl) (by rfl)) (by intro _;rfl))) (@pS _ _ _ _ _ (@mS _ _ _ _ _ (@mT _ _ _ _ (@aU _ _ _ _ _ _ _ _ _ (@b_all _ _ _ rfl hr) (by rfl) T.b_all ((@f9 _ _ _ _ _ _ _ _ _ _ _ _ _ (aj cc) ["web","thing"] [] ["side"] rfl rfl rfl (@du _ _ _ _ _ rfl (¬1))
        (fun C s0 H0 fp=>(@aq _ _ _ 0 _ (show List.Nodup (["side"]:List Str) by decide+kernel) rfl (Or.inl rfl) (by trivial))) (fun C s0 H0 fp=>(@dR _ _))
        (fun C s0 H0 fp=>(@aS _ _ _ _ _ _ _ _ _ _ _ _ _ _ _ h_is_number_within G_is_number_within (hr.mono (by decide)) ((¬0)∘(af∘(af∘ac))) (by rfl) (by decide) (by rfl) (by rfl))) rfl (by decide+kernel) (by decide+kernel) (by decide+kernel) (by decide+kernel) (by decide+kernel) (by decide+kernel) (by decide+kernel) (by intro _;rfl))∘ac) (by decide) (by decide) (by rfl) (by rfl)) (by intro _;rfl))))))
      (@am _ _ _ _ _ (@aG _ _ _ _ _ (@iG _ _ _ _ _)))
      (@bJ _ _))
      (@am _ _ _ _ _ (@aG _ _ _ _ _ (@aU _ _ _ _ _ _ _ _ _ (@b_all _ _ _ rfl hr) (by rfl) T.b_all ((@f9 _ _ _ _ _ _ _ _ _ _ _ _ _ (aj cc) ["web","thing"] [(1,"thing")] ["one","other","chance","worth"] rfl rfl rfl (@du _ _ _ _ _ rfl (@dZ _ _ _ _ _ _ _ rfl (¬0) af (fun _ _=>rfl)))
        (fun C s0 H0 fp=>(@jH _ _ _ _ _ _ _ _ rfl rfl (@aZ _ _ _ _ _ _ _ _ (@aq _ _ _ 1 _ (show List.Nodup (["thing","one","other","chance","worth"]:List Str) by decide+kernel) rfl (Or.inl rfl) (by trivial)) (@aZ _ _ _ _ _ _ _ _ (@aq _ _ _ 2 _ (show List.Nodup (["thing","one","other","chance","worth"]:List Str) by decide+kernel) rfl (Or.inl rfl) (by trivial)) (@aZ _ _ _ _ _ _ _ _ (@aq _ _ _ 3 _ (show List.Nodup (["thing","one","other","chance","worth"]:List Str) by decide+kernel) rfl (Or.inl rfl) (by trivial)) (@aZ _ _ _ _ _ _ _ _ (@aq _ _ _ 4 _ (show List.Nodup (["thing","one","other","chance","worth"]:List Str) by decide+kernel) rfl (Or.inl rfl) (by trivial)) (@iz _ _) (by rfl)) (by rfl)) (by rfl)) (by rfl)) (bu (bu (bu (bu jB)))) (by rfl) (by rfl))) (fun C s0 H0 fp=>(@dR _ _))
        (fun C s0 H0 fp=>(@oC _ _ _ _ _ _ _ _ _ (@wa _ _ _ rfl hr) (@dZ _ _ _ _ _ _ _ rfl (¬0) (¬1) (fun _ _=>rfl)) (@dZ _ _ _ _ _ _ _ rfl (¬0) (¬2) (fun _ _=>rfl)) (a8 _))) rfl (by decide+kernel) (by decide+kernel) (by decide+kernel) (by decide+kernel) (by decide+kernel) (by decide+kernel) (by decide+kernel) (by intro _;rfl))∘ac) (by decide) (by decide) (by rfl) (by rfl))))))
noncomputable def j9:FI:=(fq (az io (ae 0) (vC (.int 1))))
noncomputable def fj:FE:=(lU (az (tR false) (ae 0) (rJ (ae 2) fZ (eS (vC (.int 2))))) (az (tR false) (ae 1) (rJ (ae 2) fZ (eS (vC (.int 2))))))
noncomputable def mx:FS:=(bQ (aP (g1 (fR qo)) (ab (cD [(1,"one"),(2,"other")] 1 j9 (ag 2) br fj) ai)))
noncomputable def fX:FM:=js 3 0 [] mx
theorem lQ:aF ["web","one","other"] ["web","one","other"] (aj eh):=⟨rfl,rfl,rfl,by decide+kernel,rfl,by decide+kernel,by decide+kernel⟩
theorem qS(h:bx K mg "are_tied" eh f fd ["web","one","other"])(T:jM mg):aL P w K mg base cf 1 f fd ["web","one","other"] (cy K 3 fX):=by
  have nd:=lQ.nd
  exact h.fn lQ rfl rfl (fun cdv A outer s H E hr=>(@am _ _ _ _ _ (@aG _ _ _ _ _ (@aU _ _ _ _ _ _ _ _ _ (@b_any _ _ _ rfl hr) (by rfl) T.b_any ((@f9 _ _ _ _ _ _ _ _ _ _ _ _ _ (aj eh) ["web","one","other"] [(1,"one"),(2,"other")] ["tie"] rfl rfl rfl (@du _ _ _ _ _ rfl (@dZ _ _ _ _ _ _ _ rfl (¬0) af (fun _ _=>rfl)))
        (fun C s0 H0 fp=>(@aq _ _ _ 2 _ (show List.Nodup (["one","other","tie"]:List Str) by decide+kernel) rfl (Or.inl rfl) (by trivial))) (fun C s0 H0 fp=>(@dR _ _))
        (fun C s0 H0 fp=>(@pO _ _ _ _ _ _ _ _ (@oC _ _ _ _ _ _ _ _ _ (@yU _ _ _ rfl hr) (¬0) (@di _ _ _ _ _ _ _ _ _ _ rfl (¬2) (@dj _ _) (@dk _ _ _ _ af)) (by with_unfolding_all rfl)) (@pP _ _ _ _ _ _ (@oC _ _ _ _ _ _ _ _ _ (@yU _ _ _ rfl hr) (¬1) (@di _ _ _ _ _ _ _ _ _ _ rfl (¬2) (@dj _ _) (@dk _ _ _ _ af)) (by with_unfolding_all rfl))))) rfl (by decide+kernel) (by decide+kernel) (by decide+kernel) (by decide+kernel) (by decide+kernel) (by decide+kernel) (by decide+kernel) (by intro _;rfl))∘ac) (by decide) (by decide) (by rfl) (by rfl)))))
noncomputable def dP:FI:=(tY (ab (ae 1) (ab (az bi (rJ (ae 1) (eS (vC (.int 1))) fZ) (rJ (ae 1) fZ (eS (vC (.int 1))))) ai)))
noncomputable def cJ:FE:=(cP 3 fX (ab (ae 0) (ab (ae 1) (ab (ae 2) ai))))
noncomputable def dH:FS:=(aA (jt (yO (nH (a7 (cP 2 bw (ab (ae 1) (ab (az io (ae 0) (vC (.int 0))) ai))))) (yO (a7 (az BZ (aP (g1 iI) (ab (ae 1) ai)) (vC (.int (3))))) (a7 (az (cE false) (az aI (aP (g1 iI) (ab (ae 1) ai)) (vC (.int 2))) (vC (.int 0))))))
    (bQ (vC (.bool false)))
    fw)
    (bQ (aP (g1 (fR lH)) (ab (cD [(0,"web")] 2 dP (c9 (ap (ag 1) (ap (ag 2) cK))) br cJ) ai))))
noncomputable def bD:FM:=js 2 0 (([]++[])++[]) dH
theorem jv:aF ["web","thing"] ["web","thing"] (aj cV):=⟨rfl,rfl,rfl,by decide+kernel,rfl,by decide+kernel,by decide+kernel⟩
theorem nD(h:bx K mg "ring_holds" cV f fd ["web","thing"])(T:jM mg){f_is_unlike_row:Addr}{e_is_unlike_row:FuncData}(h_is_unlike_row:bx K mg "is_unlike_row" bL f_is_unlike_row e_is_unlike_row ["thing","many"])(G_is_unlike_row:aL P w K mg base cf 3 f_is_unlike_row e_is_unlike_row ["thing","many"] (cy K 2 bw)){f_are_tied:Addr}{e_are_tied:FuncData}(h_are_tied:bx K mg "are_tied" eh f_are_tied e_are_tied ["web","one","other"])(G_are_tied:aL P w K mg base cf 1 f_are_tied e_are_tied ["web","one","other"] (cy K 3 fX)){t_LEAST_OF_RING:Tok}(m_LEAST_OF_RING:mg "LEAST_OF_RING"=some (.int (3) t_LEAST_OF_RING)):aL P w K mg base cf 4 f fd ["web","thing"] (cy K 2 bD):=by
  have nd:=jv.nd
  exact h.fn jv rfl rfl (fun cdv A outer s H E hr=>(@ah _ _ _ _ _ _ _ _ (@dQ _ _ _ _ _ _ _ _ _ _ _ (@x9 _ _ _ _ (@qX _ _ _ _ _ _ _ _ (@mS _ _ _ _ _ (@mT _ _ _ _ (@aS _ _ _ _ _ _ _ _ _ _ _ _ _ _ _ h_is_unlike_row G_is_unlike_row (hr.mono (by decide)) ((¬1)∘((@dZ _ _ _ _ _ _ _ rfl (¬0) af (fun _ _=>rfl))∘ac)) (by rfl) (by decide) (by rfl) (by rfl)) (by intro _;rfl))) (@qX _ _ _ _ _ _ _ _ (@bc _ _ _ _ _ _ _ _ _ (@BM _ _) (@aU _ _ _ _ _ _ _ _ _ (@b_len _ _ rfl) (by rfl) T.b_len ((¬1)∘ac) (by decide) (by decide) (by rfl) (by rfl)) (@Ag _ _ _ (V.int (3)) _ _ (PyData.int (3)) rfl m_LEAST_OF_RING ⟨_,rfl⟩ (fun _=>bY.mpr rfl) (by decide)) (a8 _)) (@pS _ _ _ _ _ (@bc _ _ _ _ _ _ _ _ _ (@kS _ _ _ rfl hr) (@aN _ _ _ _ _ _ _ (@aU _ _ _ _ _ _ _ _ _ (@b_len _ _ rfl) (by rfl) T.b_len ((¬1)∘ac) (by decide) (by decide) (by rfl) (by rfl)) af) af (a8 _))))))
      (@am _ _ _ _ _ (@aG _ _ _ _ _ (@iG _ _ _ _ _)))
      (@bJ _ _))
      (@am _ _ _ _ _ (@aG _ _ _ _ _ (@aU _ _ _ _ _ _ _ _ _ (@b_all _ _ _ rfl hr) (by rfl) T.b_all ((@f9 _ _ _ _ _ _ _ _ _ _ _ _ _ (aj cV) ["web","thing"] [(0,"web")] ["one","other"] rfl rfl rfl (@Ah _ _ _ _ _ _ _ _ _ _ rfl rfl T.b_zip ((¬1)∘((@ba _ _ _ _ _ _ _ rfl (@di _ _ _ _ _ _ _ _ _ _ rfl (¬1) (@dk _ _ _ _ af) (@dj _ _)) (@di _ _ _ _ _ _ _ _ _ _ rfl (¬1) (@dj _ _) (@dk _ _ _ _ af)))∘ac)) (by rfl) (by rfl))
        (fun C s0 H0 fp=>(@jH _ _ _ _ _ _ _ _ rfl rfl (@aZ _ _ _ _ _ _ _ _ (@aq _ _ _ 1 _ (show List.Nodup (["web","one","other"]:List Str) by decide+kernel) rfl (Or.inl rfl) (by trivial)) (@aZ _ _ _ _ _ _ _ _ (@aq _ _ _ 2 _ (show List.Nodup (["web","one","other"]:List Str) by decide+kernel) rfl (Or.inl rfl) (by trivial)) (@iz _ _) (by rfl)) (by rfl)) (bu (bu jB)) (by rfl) (by rfl))) (fun C s0 H0 fp=>(@dR _ _))
        (fun C s0 H0 fp=>(@aS _ _ _ _ _ _ _ _ _ _ _ _ _ _ _ h_are_tied G_are_tied (hr.mono (by decide)) ((¬0)∘((¬1)∘((¬2)∘ac))) (by rfl) (by decide) (by rfl) (by rfl))) rfl (by decide+kernel) (by decide+kernel) (by decide+kernel) (by decide+kernel) (by decide+kernel) (by decide+kernel) (by decide+kernel) (by intro _;rfl))∘ac) (by decide) (by decide) (by rfl) (by rfl))))))
noncomputable def s_:FS:=(aA (aR 2 (az aI (az bi (az bi (az jA (az aI (ae 0) (vC (.int 2147483647))) (vC (.int 48271))) (az jA (az jA (vC (.int 7919)) (ae 1)) (ae 1))) (vC (.int 104729))) (vC (.int 2147483647))))
    (bQ (az aI (az jA (ae 2) (ae 2)) (vC (.int 2147483629)))))
noncomputable def ji:FM:=js 2 1 ([2]++[]) s_
theorem rd:aF ["_law_cell","_law_k","_law_number"] ["_law_cell","_law_k"] (aj ko):=⟨rfl,rfl,rfl,by decide+kernel,rfl,by decide+kernel,by decide+kernel⟩
theorem xt(h:bx K mg "_law_mixed" ko f fd ["_law_cell","_law_k"])(T:jM mg):aL P w K mg base cf 1 f fd ["_law_cell","_law_k"] (cy K 2 ji):=by
  have nd:=rd.nd
  exact h.fn rd rfl rfl (fun cdv A outer s H E hr=>(@ah _ _ _ _ _ _ _ _ (@ar _ _ _ _ _ 2 _ _ nd rfl (Or.inl rfl) (@aN _ _ _ _ _ _ _ (@ba _ _ _ _ _ _ _ rfl (@ba _ _ _ _ _ _ _ rfl (@mQ _ _ _ _ _ _ _ rfl (@aN _ _ _ _ _ _ _ (¬0) af) af) (@mQ _ _ _ _ _ _ _ rfl (@mQ _ _ _ _ _ _ _ rfl af (¬1)) (¬1))) af) af) (by rfl) (by trivial))
      (@am _ _ _ _ _ (@aG _ _ _ _ _ (@aN _ _ _ _ _ _ _ (@mQ _ _ _ _ _ _ _ rfl (¬2) (¬2)) af)))))
noncomputable def fB:FT:=(vG (a7 (az Eb (ae 3) (az rZ (vC (.int 10)) (vC (.int 18))))) (a7 (az BZ (aP (g1 iI) (ab (ae 1) ai)) (vC (.int 900)))))
noncomputable def jc:FS:=(aA (eT (cw bS (ae 1) (ab (az aI (ae 3) (vC (.int 2147483629))) ai)))
    (aR 3 (az eI (ae 3) (vC (.int 2147483629)))))
noncomputable def jh:FI:=(bA (ab (vC (.int 12)) ai))
noncomputable def gR:FS:=(eT (cw bS (ae 1) (ab (cP 2 ji (ab (cP 2 ji (ab (ae 3) (ab (az bi (az jA (vC (.int 3)) (ae 4)) (vC (.int 1))) ai))) (ab (az bi (az bi (ae 4) (ae 2)) (vC (.int 2))) ai))) ai)))
noncomputable def kW:FI:=(bA (ab (aP (g2 pz) (ab (aP (g1 iI) (ab (ae 0) ai)) (ab (vC (.int 63)) ai))) ai))
noncomputable def fx:FS:=(aA (aR 3 (aP (g1 uQ) (ab (az io (ae 0) (ae 2)) ai)))
    (aA (jt (a7 (az BZ (ae 3) (az rZ (vC (.int 10)) (vC (.int 18)))))
    (cN ([4]++[]) jh (ag 4) gR)
    fw)
    (aA (eP (2 ^ 4200) fB jc)
    (jt (a7 (az Eb (ae 3) (vC (.int 2147483629))))
    (eT (cw bS (ae 1) (ab (az aI (ae 3) (vC (.int 2147483629))) ai)))
    fw))))
noncomputable def sZ:FS:=(aA (aR 1 (eQ ai))
    (aA (cN ([2]++([3]++((([4]++[])++[])++(([]++[3])++([]++[]))))) kW (ag 2) fx)
    (bQ (ae 1))))
noncomputable def ka:FM:=js 1 4 ([1]++(([2]++([3]++((([4]++[])++[])++(([]++[3])++([]++[])))))++[])) sZ
theorem rc:aF ["_law_script","_law_drawn","_law_k","_law_cell","_law_j"] ["_law_script"] (aj kn):=⟨rfl,rfl,rfl,by decide+kernel,rfl,by decide+kernel,by decide+kernel⟩
theorem xr(h:bx K mg "_law_draws" kn f fd ["_law_script"])(T:jM mg){fLmixed:Addr}{eLmixed:FuncData}(hLmixed:bx K mg "_law_mixed" ko fLmixed eLmixed ["_law_cell","_law_k"])(GLmixed:aL P w K mg base cf 1 fLmixed eLmixed ["_law_cell","_law_k"] (cy K 2 ji)):aL P w K mg base cf 2 f fd ["_law_script"] (cy K 1 ka):=by
  have nd:=rc.nd
  exact h.fn rc rfl rfl (fun cdv A outer s H E hr=>(@ah _ _ _ _ _ _ _ _ (@ar _ _ _ _ _ 1 _ _ nd rfl (Or.inl rfl) (@bV _ _ _ _ _ ac) (by rfl) (by trivial))
      (@ah _ _ _ _ _ _ _ _ (@cY _ _ _ _ _ _ _ _ _ _ _ PassesOwn.never rfl (@bg _ _ _ _ _ _ _ rfl T.b_range ((@aU _ _ _ _ _ _ _ _ _ (@b_min _ _ rfl) (by rfl) T.b_min ((@aU _ _ _ _ _ _ _ _ _ (@b_len _ _ rfl) (by rfl) T.b_len ((¬0)∘ac) (by decide) (by decide) (by rfl) (by rfl))∘(af∘ac)) (by decide) (by decide) (by rfl) (by rfl))∘ac) (by rfl)) (@aq _ _ _ 2 _ nd rfl (Or.inl rfl) (by trivial))
      (@ah _ _ _ _ _ _ _ _ (@ar _ _ _ _ _ 3 _ _ nd rfl (Or.inl rfl) (@aU _ _ _ _ _ _ _ _ _ (@b_abs _ _) (by rfl) T.b_abs ((@dZ _ _ _ _ _ _ _ rfl (¬0) (¬2) (fun _ _=>rfl))∘ac) (by decide) (by decide) (by rfl) (by rfl)) (by rfl) (by trivial))
      (@ah _ _ _ _ _ _ _ _ (@dQ _ _ _ _ _ _ _ _ _ _ _ (@bc _ _ _ _ _ _ _ _ _ (@BM _ _) (¬3) (@Bo _ _ _ _ _ _ _ af af) (a8 _))
      (@am _ _ _ _ _ (@cY _ _ _ _ _ _ _ _ _ _ _ PassesOwn.never rfl (@bg _ _ _ _ _ _ _ rfl T.b_range (af∘ac) (by rfl)) (@aq _ _ _ 4 _ nd rfl (Or.inl rfl) (by trivial))
      (@am _ _ _ _ _ (@dn _ _ _ _ _ (@cM _ _ _ _ _ _ _ _ _ rfl (¬1) ((@aS _ _ _ _ _ _ _ _ _ _ _ _ _ _ _ hLmixed GLmixed (hr.mono (by decide)) ((@aS _ _ _ _ _ _ _ _ _ _ _ _ _ _ _ hLmixed GLmixed (hr.mono (by decide)) ((¬3)∘((@ba _ _ _ _ _ _ _ rfl (@mQ _ _ _ _ _ _ _ rfl af (¬4)) af)∘ac)) (by rfl) (by decide) (by rfl) (by rfl))∘((@ba _ _ _ _ _ _ _ rfl (@ba _ _ _ _ _ _ _ rfl (¬4) (¬2)) af)∘ac)) (by rfl) (by decide) (by rfl) (by rfl))∘ac) (by rfl) (by rfl) (by rfl) (by rfl) (by rfl)) (by rfl))) (by intro _;rfl)))
      (@bJ _ _))
      (@ah _ _ _ _ _ _ _ _ (@ki _ _ _ _ _ _ _ _ _ PassesOwn.never (@x9 _ _ _ _ (@Da _ _ _ _ _ _ _ _ (@bc _ _ _ _ _ _ _ _ _ (@D6 _ _) (¬3) (@Bo _ _ _ _ _ _ _ af af) (a8 _)) (@Al _ _ _ _ _ (@bc _ _ _ _ _ _ _ _ _ (@BM _ _) (@aU _ _ _ _ _ _ _ _ _ (@b_len _ _ rfl) (by rfl) T.b_len ((¬1)∘ac) (by decide) (by decide) (by rfl) (by rfl)) af (a8 _)))))
      (@ah _ _ _ _ _ _ _ _ (@dn _ _ _ _ _ (@cM _ _ _ _ _ _ _ _ _ rfl (¬1) ((@aN _ _ _ _ _ _ _ (¬3) af)∘ac) (by rfl) (by rfl) (by rfl) (by rfl) (by rfl)) (by rfl))
      (@am _ _ _ _ _ (@ar _ _ _ _ _ 3 _ _ nd rfl (Or.inl rfl) (@gP _ _ _ _ _ _ _ (¬3) af) (by rfl) (by trivial)))))
      (@am _ _ _ _ _ (@dQ _ _ _ _ _ _ _ _ _ _ _ (@bc _ _ _ _ _ _ _ _ _ (@D6 _ _) (¬3) af (a8 _))
      (@am _ _ _ _ _ (@dn _ _ _ _ _ (@cM _ _ _ _ _ _ _ _ _ rfl (¬1) ((@aN _ _ _ _ _ _ _ (¬3) af)∘ac) (by rfl) (by rfl) (by rfl) (by rfl) (by rfl)) (by rfl)))
      (@bJ _ _)))))) (by intro _;rfl))
      (@am _ _ _ _ _ (@aG _ _ _ _ _ (¬1))))))
noncomputable def rS:FS:=(aA (jt (a7 (az (cE false) (ae 0) (eQ ai)))
    (bQ (vC (.int 0)))
    fw)
    (bQ (cw iy (ae 0) (ab (vC (.int 0)) ai))))
noncomputable def aE:FM:=js 1 0 (([]++[])++[]) rS
theorem ul:aF ["_law_drawn"] ["_law_drawn"] (aj gf):=⟨rfl,rfl,rfl,by decide+kernel,rfl,by decide+kernel,by decide+kernel⟩
theorem zz(h:bx K mg "_law_next" gf f fd ["_law_drawn"])(T:jM mg):aL P w K mg base cf 1 f fd ["_law_drawn"] (cy K 1 aE):=by
  have nd:=ul.nd
  exact h.fn ul rfl rfl (fun cdv A outer s H E hr=>(@ah _ _ _ _ _ _ _ _ (@dQ _ _ _ _ _ _ _ _ _ _ _ (@bc _ _ _ _ _ _ _ _ _ (@kS _ _ _ rfl hr) (¬0) (@bV _ _ _ _ _ ac) (a8 _))
      (@am _ _ _ _ _ (@aG _ _ _ _ _ af))
      (@bJ _ _))
      (@am _ _ _ _ _ (@aG _ _ _ _ _ (@pN _ _ _ _ _ _ _ _ _ rfl (¬0) (af∘ac) (by rfl) (by rfl) (by rfl) (by rfl) (by rfl))))))
noncomputable def jQ:FT:=(a7 (az (cE true) (ae 1) (vC (.int 0))))
noncomputable def l4:FS:=(yg 0 1 (ab (ae 1) (ab (az aI (ae 0) (ae 1)) ai)))
noncomputable def AR:FS:=(aA (eP (2 ^ 4200) jQ l4)
    (bQ (aP (g1 uQ) (ab (ae 0) ai))))
noncomputable def qF:FM:=js 2 0 ([0,1]++[]) AR
theorem yh:aF ["_law_one","_law_other"] ["_law_one","_law_other"] (aj qZ):=⟨rfl,rfl,rfl,by decide+kernel,rfl,by decide+kernel,by decide+kernel⟩
theorem Cr(h:bx K mg "_law_gcd" qZ f fd ["_law_one","_law_other"])(T:jM mg):aL P w K mg base cf 1 f fd ["_law_one","_law_other"] (cy K 2 qF):=by
  have nd:=yh.nd
  exact h.fn yh rfl rfl (fun cdv A outer s H E hr=>(@ah _ _ _ _ _ _ _ _ (@ki _ _ _ _ _ _ _ _ _ PassesOwn.never (@bc _ _ _ _ _ _ _ _ _ (@wa _ _ _ rfl hr) (¬1) af (a8 _))
      (@am _ _ _ _ _ (@C_ _ _ _ _ _ 0 1 _ _ _ _ _ _ _ _ _ rfl nd rfl rfl (by decide) rfl rfl ((¬1)∘((@aN _ _ _ _ _ _ _ (¬0) (¬1))∘ac)) (by rfl) (by rfl))))
      (@am _ _ _ _ _ (@aG _ _ _ _ _ (@aU _ _ _ _ _ _ _ _ _ (@b_abs _ _) (by rfl) T.b_abs ((¬0)∘ac) (by decide) (by decide) (by rfl) (by rfl))))))
noncomputable def AS:FS:=(aA (aR 2 (cP 2 qF (ab (ae 0) (ab (ae 1) ai))))
    (bQ (dc (ab (az eI (ae 0) (ae 2)) (ab (az eI (ae 1) (ae 2)) ai)))))
noncomputable def oy:FM:=js 2 1 ([2]++[]) AS
theorem yi:aF ["_law_top","_law_bottom","_law_common"] ["_law_top","_law_bottom"] (aj q5):=⟨rfl,rfl,rfl,by decide+kernel,rfl,by decide+kernel,by decide+kernel⟩
theorem Cs(h:bx K mg "_law_low" q5 f fd ["_law_top","_law_bottom"])(T:jM mg){fLgcd:Addr}{eLgcd:FuncData}(hLgcd:bx K mg "_law_gcd" qZ fLgcd eLgcd ["_law_one","_law_other"])(GLgcd:aL P w K mg base cf 1 fLgcd eLgcd ["_law_one","_law_other"] (cy K 2 qF)):aL P w K mg base cf 2 f fd ["_law_top","_law_bottom"] (cy K 2 oy):=by
  have nd:=yi.nd
  exact h.fn yi rfl rfl (fun cdv A outer s H E hr=>(@ah _ _ _ _ _ _ _ _ (@ar _ _ _ _ _ 2 _ _ nd rfl (Or.inl rfl) (@aS _ _ _ _ _ _ _ _ _ _ _ _ _ _ _ hLgcd GLgcd (hr.mono (by decide)) ((¬0)∘((¬1)∘ac)) (by rfl) (by decide) (by rfl) (by rfl)) (by rfl) (by trivial))
      (@am _ _ _ _ _ (@aG _ _ _ _ _ (@bf _ _ _ _ _ _ ((@gP _ _ _ _ _ _ _ (¬0) (¬2))∘((@gP _ _ _ _ _ _ _ (¬1) (¬2))∘ac)))))))
noncomputable def iO:FS:=(aA (jt (a7 (az (cE false) (ae 1) (vC (.int 0))))
    (bQ (az io (eQ (ab (dc (ab (vC (.int 1)) (ab (vC (.int 2)) ai))) (ab (dc (ab (vC (.int 1)) (ab (vC (.int 3)) ai))) (ab (dc (ab (vC (.int 2)) (ab (vC (.int 3)) ai))) (ab (dc (ab (vC (.int 1)) (ab (vC (.int 1)) ai))) (ab (dc (ab (vC (.int 0)) (ab (vC (.int 1)) ai))) (ab (dc (ab (vC (.int 3)) (ab (vC (.int 4)) ai))) ai))))))) (az aI (ae 0) (vC (.int 6)))))
    fw)
    (aA (jt (a7 (az (cE false) (ae 1) (vC (.int 1))))
    (aA (aR 2 (az bi (vC (.int 2)) (az aI (ae 0) (vC (.int 9)))))
    (bQ (cP 2 oy (ab (az bi (vC (.int 1)) (az aI (az eI (ae 0) (vC (.int 9))) (az fQ (ae 2) (vC (.int 1))))) (ab (ae 2) ai)))))
    fw)
    (aA (jt (a7 (az (cE false) (ae 1) (vC (.int 2))))
    (aA (aR 2 (az bi (vC (.int 1)) (az aI (ae 0) (vC (.int 100)))))
    (bQ (cP 2 oy (ab (az aI (az eI (ae 0) (vC (.int 100))) (az bi (ae 2) (vC (.int 1)))) (ab (ae 2) ai)))))
    fw)
    (bQ (dc (ab (vC (.int 1)) (ab (vC (.int 1)) ai)))))))
noncomputable def cq:FM:=js 2 1 (([]++[])++((([2]++[])++[])++((([2]++[])++[])++[]))) iO
theorem oF:aF ["_law_number","_law_kind","_law_bottom"] ["_law_number","_law_kind"] (aj f_):=⟨rfl,rfl,rfl,by decide+kernel,rfl,by decide+kernel,by decide+kernel⟩
theorem va(h:bx K mg "_law_chance" f_ f fd ["_law_number","_law_kind"])(T:jM mg){fLlow:Addr}{eLlow:FuncData}(hLlow:bx K mg "_law_low" q5 fLlow eLlow ["_law_top","_law_bottom"])(GLlow:aL P w K mg base cf 2 fLlow eLlow ["_law_top","_law_bottom"] (cy K 2 oy)):aL P w K mg base cf 3 f fd ["_law_number","_law_kind"] (cy K 2 cq):=by
  have nd:=oF.nd
  exact h.fn oF rfl rfl (fun cdv A outer s H E hr=>(@ah _ _ _ _ _ _ _ _ (@dQ _ _ _ _ _ _ _ _ _ _ _ (@bc _ _ _ _ _ _ _ _ _ (@kS _ _ _ rfl hr) (¬1) af (a8 _))
      (@am _ _ _ _ _ (@aG _ _ _ _ _ (@dZ _ _ _ _ _ _ _ rfl (@bV _ _ _ _ _ ((@bf _ _ _ _ _ _ (af∘(af∘ac)))∘((@bf _ _ _ _ _ _ (af∘(af∘ac)))∘((@bf _ _ _ _ _ _ (af∘(af∘ac)))∘((@bf _ _ _ _ _ _ (af∘(af∘ac)))∘((@bf _ _ _ _ _ _ (af∘(af∘ac)))∘((@bf _ _ _ _ _ _ (af∘(af∘ac)))∘ac))))))) (@aN _ _ _ _ _ _ _ (¬0) af) (fun _ _=>rfl))))
      (@bJ _ _))
      (@ah _ _ _ _ _ _ _ _ (@dQ _ _ _ _ _ _ _ _ _ _ _ (@bc _ _ _ _ _ _ _ _ _ (@kS _ _ _ rfl hr) (¬1) af (a8 _))
      (@ah _ _ _ _ _ _ _ _ (@ar _ _ _ _ _ 2 _ _ nd rfl (Or.inl rfl) (@ba _ _ _ _ _ _ _ rfl af (@aN _ _ _ _ _ _ _ (¬0) af)) (by rfl) (by trivial))
      (@am _ _ _ _ _ (@aG _ _ _ _ _ (@aS _ _ _ _ _ _ _ _ _ _ _ _ _ _ _ hLlow GLlow (hr.mono (by decide)) ((@ba _ _ _ _ _ _ _ rfl af (@aN _ _ _ _ _ _ _ (@gP _ _ _ _ _ _ _ (¬0) af) (@lM _ _ _ _ _ _ _ (¬2) af)))∘((¬2)∘ac)) (by rfl) (by decide) (by rfl) (by rfl)))))
      (@bJ _ _))
      (@ah _ _ _ _ _ _ _ _ (@dQ _ _ _ _ _ _ _ _ _ _ _ (@bc _ _ _ _ _ _ _ _ _ (@kS _ _ _ rfl hr) (¬1) af (a8 _))
      (@ah _ _ _ _ _ _ _ _ (@ar _ _ _ _ _ 2 _ _ nd rfl (Or.inl rfl) (@ba _ _ _ _ _ _ _ rfl af (@aN _ _ _ _ _ _ _ (¬0) af)) (by rfl) (by trivial))
      (@am _ _ _ _ _ (@aG _ _ _ _ _ (@aS _ _ _ _ _ _ _ _ _ _ _ _ _ _ _ hLlow GLlow (hr.mono (by decide)) ((@aN _ _ _ _ _ _ _ (@gP _ _ _ _ _ _ _ (¬0) af) (@ba _ _ _ _ _ _ _ rfl (¬2) af))∘((¬2)∘ac)) (by rfl) (by decide) (by rfl) (by rfl)))))
      (@bJ _ _))
      (@am _ _ _ _ _ (@aG _ _ _ _ _ (@bf _ _ _ _ _ _ (af∘(af∘ac)))))))))
noncomputable def tj:FS:=(bQ (az io (eQ (ab (az aI (ae 0) (vC (.int 7))) (ab (az bi (vC (.int 5)) (az aI (ae 0) (vC (.int 2)))) (ab (az aI (ae 0) (vC (.int 1001))) (ab (az fQ (vC (.int 1000)) (az aI (ae 0) (vC (.int 3)))) ai))))) (az aI (ae 1) (vC (.int 4)))))
noncomputable def fv:FM:=js 2 0 [] tj
theorem ri:aF ["_law_number","_law_kind"] ["_law_number","_law_kind"] (aj iC):=⟨rfl,rfl,rfl,by decide+kernel,rfl,by decide+kernel,by decide+kernel⟩
theorem xw(h:bx K mg "_law_worth" iC f fd ["_law_number","_law_kind"])(T:jM mg):aL P w K mg base cf 1 f fd ["_law_number","_law_kind"] (cy K 2 fv):=by
  have nd:=ri.nd
  exact h.fn ri rfl rfl (fun cdv A outer s H E hr=>(@am _ _ _ _ _ (@aG _ _ _ _ _ (@dZ _ _ _ _ _ _ _ rfl (@bV _ _ _ _ _ ((@aN _ _ _ _ _ _ _ (¬0) af)∘((@ba _ _ _ _ _ _ _ rfl af (@aN _ _ _ _ _ _ _ (¬0) af))∘((@aN _ _ _ _ _ _ _ (¬0) af)∘((@lM _ _ _ _ _ _ _ af (@aN _ _ _ _ _ _ _ (¬0) af))∘ac))))) (@aN _ _ _ _ _ _ _ (¬1) af) (fun _ _=>rfl)))))
noncomputable def mH:FI:=(bA (ab (ae 2) ai))
noncomputable def gU:FS:=(aA (aR 8 (cP 1 aE (ab (ae 0) ai)))
    (aA (aR 9 (az io (eQ (ab (az aI (ae 8) (ae 1)) (ab (vC (.int 0)) (ab (az aI (ae 7) (ae 1)) (ab (az aI (ae 8) (ae 1)) (ab (az aI (ae 8) (vC (.int 2))) (ab (az aI (ae 8) (ae 1)) ai))))))) (ae 3)))
    (aA (aR 10 (az aI (az bi (az bi (ae 9) (vC (.int 1))) (az aI (az eI (ae 8) (vC (.int 12))) (az fQ (ae 1) (vC (.int 1))))) (ae 1)))
    (aA (jt (a7 (az (cE false) (ae 3) (vC (.int 4))))
    (qY (dc (ab (vC (.int 0)) (ab (vC (.int 1)) ai))) (c9 (ap (ag 9) (ap (ag 10) cK))))
    fw)
    (aA (aR 11 (cP 1 aE (ab (ae 0) ai)))
    (aA (aR 12 (dc (ab (aP (g2 pz) (ab (ae 9) (ab (ae 10) ai))) (ab (aP (g2 lX) (ab (ae 9) (ab (ae 10) ai))) ai))))
    (eT (cw bS (ae 6) (ab (az bi (ae 12) (dc (ab (cP 2 cq (ab (ae 11) (ab (ae 4) ai))) (ab (cP 2 fv (ab (az eI (ae 11) (vC (.int 10007))) (ab (ae 5) ai))) ai)))) ai)))))))))
noncomputable def vY:FS:=(aA (aR 3 (az aI (cP 1 aE (ab (ae 0) ai)) (vC (.int 6))))
    (aA (aR 4 (az aI (cP 1 aE (ab (ae 0) ai)) (vC (.int 4))))
    (aA (aR 5 (az aI (cP 1 aE (ab (ae 0) ai)) (vC (.int 4))))
    (aA (aR 6 (eQ ai))
    (aA (cN ([7]++([8]++([9]++([10]++((([9]++([10]++[]))++[])++([11]++([12]++[]))))))) mH (ag 7) gU)
    (bQ (aP (g1 dr) (ab (ae 6) ai))))))))
noncomputable def iZ:FM:=js 3 10 ([3]++([4]++([5]++([6]++(([7]++([8]++([9]++([10]++((([9]++([10]++[]))++[])++([11]++([12]++[])))))))++[]))))) vY
theorem um:aF ["_law_drawn","_law_things","_law_many","_law_shape","_law_odds","_law_worths","_law_found","_law_k","_law_number","_law_one","_law_other","_law_cell","_law_ends"] ["_law_drawn","_law_things","_law_many"] (aj lj):=⟨rfl,rfl,rfl,by decide+kernel,rfl,by decide+kernel,by decide+kernel⟩
theorem zA(h:bx K mg "_law_ties" lj f fd ["_law_drawn","_law_things","_law_many"])(T:jM mg){fLnext:Addr}{eLnext:FuncData}(hLnext:bx K mg "_law_next" gf fLnext eLnext ["_law_drawn"])(GLnext:aL P w K mg base cf 1 fLnext eLnext ["_law_drawn"] (cy K 1 aE)){fLchance:Addr}{eLchance:FuncData}(hLchance:bx K mg "_law_chance" f_ fLchance eLchance ["_law_number","_law_kind"])(GLchance:aL P w K mg base cf 3 fLchance eLchance ["_law_number","_law_kind"] (cy K 2 cq)){fLworth:Addr}{eLworth:FuncData}(hLworth:bx K mg "_law_worth" iC fLworth eLworth ["_law_number","_law_kind"])(GLworth:aL P w K mg base cf 1 fLworth eLworth ["_law_number","_law_kind"] (cy K 2 fv)):aL P w K mg base cf 4 f fd ["_law_drawn","_law_things","_law_many"] (cy K 3 iZ):=by
  have nd:=um.nd
  exact h.fn um rfl rfl (fun cdv A outer s H E hr=>(@ah _ _ _ _ _ _ _ _ (@ar _ _ _ _ _ 3 _ _ nd rfl (Or.inl rfl) (@aN _ _ _ _ _ _ _ (@aS _ _ _ _ _ _ _ _ _ _ _ _ _ _ _ hLnext GLnext (hr.mono (by decide)) ((¬0)∘ac) (by rfl) (by decide) (by rfl) (by rfl)) af) (by rfl) (by trivial))
      (@ah _ _ _ _ _ _ _ _ (@ar _ _ _ _ _ 4 _ _ nd rfl (Or.inl rfl) (@aN _ _ _ _ _ _ _ (@aS _ _ _ _ _ _ _ _ _ _ _ _ _ _ _ hLnext GLnext (hr.mono (by decide)) ((¬0)∘ac) (by rfl) (by decide) (by rfl) (by rfl)) af) (by rfl) (by trivial))
      (@ah _ _ _ _ _ _ _ _ (@ar _ _ _ _ _ 5 _ _ nd rfl (Or.inl rfl) (@aN _ _ _ _ _ _ _ (@aS _ _ _ _ _ _ _ _ _ _ _ _ _ _ _ hLnext GLnext (hr.mono (by decide)) ((¬0)∘ac) (by rfl) (by decide) (by rfl) (by rfl)) af) (by rfl) (by trivial))
      (@ah _ _ _ _ _ _ _ _ (@ar _ _ _ _ _ 6 _ _ nd rfl (Or.inl rfl) (@bV _ _ _ _ _ ac) (by rfl) (by trivial))
      (@ah _ _ _ _ _ _ _ _ (@cY _ _ _ _ _ _ _ _ _ _ _ PassesOwn.never rfl (@bg _ _ _ _ _ _ _ rfl T.b_range ((¬2)∘ac) (by rfl)) (@aq _ _ _ 7 _ nd rfl (Or.inl rfl) (by trivial))
      (@ah _ _ _ _ _ _ _ _ (@ar _ _ _ _ _ 8 _ _ nd rfl (Or.inl rfl) (@aS _ _ _ _ _ _ _ _ _ _ _ _ _ _ _ hLnext GLnext (hr.mono (by decide)) ((¬0)∘ac) (by rfl) (by decide) (by rfl) (by rfl)) (by rfl) (by trivial))
      (@ah _ _ _ _ _ _ _ _ (@ar _ _ _ _ _ 9 _ _ nd rfl (Or.inl rfl) (@dZ _ _ _ _ _ _ _ rfl (@bV _ _ _ _ _ ((@aN _ _ _ _ _ _ _ (¬8) (¬1))∘(af∘((@aN _ _ _ _ _ _ _ (¬7) (¬1))∘((@aN _ _ _ _ _ _ _ (¬8) (¬1))∘((@aN _ _ _ _ _ _ _ (¬8) af)∘((@aN _ _ _ _ _ _ _ (¬8) (¬1))∘ac))))))) (¬3) (fun _ _=>rfl)) (by rfl) (by trivial))
      (@ah _ _ _ _ _ _ _ _ (@ar _ _ _ _ _ 10 _ _ nd rfl (Or.inl rfl) (@aN _ _ _ _ _ _ _ (@ba _ _ _ _ _ _ _ rfl (@ba _ _ _ _ _ _ _ rfl (¬9) af) (@aN _ _ _ _ _ _ _ (@gP _ _ _ _ _ _ _ (¬8) af) (@lM _ _ _ _ _ _ _ (¬1) af))) (¬1)) (by rfl) (by trivial))
      (@ah _ _ _ _ _ _ _ _ (@dQ _ _ _ _ _ _ _ _ _ _ _ (@bc _ _ _ _ _ _ _ _ _ (@kS _ _ _ rfl hr) (¬3) af (a8 _))
      (@am _ _ _ _ _ (@sA _ _ _ _ _ _ _ _ (@bf _ _ _ _ _ _ (af∘(af∘ac))) (@jH _ _ _ _ _ _ _ _ rfl rfl (@aZ _ _ _ _ _ _ _ _ (@aq _ _ _ 9 _ nd rfl (Or.inl rfl) (by trivial)) (@aZ _ _ _ _ _ _ _ _ (@aq _ _ _ 10 _ nd rfl (Or.inl rfl) (by trivial)) (@iz _ _) (by rfl)) (by rfl)) (bu (bu jB)) (by rfl) (by rfl)) (by rfl) (by rfl) (by rfl)))
      (@bJ _ _))
      (@ah _ _ _ _ _ _ _ _ (@ar _ _ _ _ _ 11 _ _ nd rfl (Or.inl rfl) (@aS _ _ _ _ _ _ _ _ _ _ _ _ _ _ _ hLnext GLnext (hr.mono (by decide)) ((¬0)∘ac) (by rfl) (by decide) (by rfl) (by rfl)) (by rfl) (by trivial))
      (@ah _ _ _ _ _ _ _ _ (@ar _ _ _ _ _ 12 _ _ nd rfl (Or.inl rfl) (@bf _ _ _ _ _ _ ((@aU _ _ _ _ _ _ _ _ _ (@b_min _ _ rfl) (by rfl) T.b_min ((¬9)∘((¬10)∘ac)) (by decide) (by decide) (by rfl) (by rfl))∘((@aU _ _ _ _ _ _ _ _ _ (@b_max _ _ rfl) (by rfl) T.b_max ((¬9)∘((¬10)∘ac)) (by decide) (by decide) (by rfl) (by rfl))∘ac))) (by rfl) (by trivial))
      (@am _ _ _ _ _ (@dn _ _ _ _ _ (@cM _ _ _ _ _ _ _ _ _ rfl (¬6) ((@ba _ _ _ _ _ _ _ rfl (¬12) (@bf _ _ _ _ _ _ ((@aS _ _ _ _ _ _ _ _ _ _ _ _ _ _ _ hLchance GLchance (hr.mono (by decide)) ((¬11)∘((¬4)∘ac)) (by rfl) (by decide) (by rfl) (by rfl))∘((@aS _ _ _ _ _ _ _ _ _ _ _ _ _ _ _ hLworth GLworth (hr.mono (by decide)) ((@gP _ _ _ _ _ _ _ (¬11) af)∘((¬5)∘ac)) (by rfl) (by decide) (by rfl) (by rfl))∘ac))))∘ac) (by rfl) (by rfl) (by rfl) (by rfl) (by rfl)) (by rfl))))))))) (by intro _;rfl))
      (@am _ _ _ _ _ (@aG _ _ _ _ _ (@aU _ _ _ _ _ _ _ _ _ (@b_tuple _ _ rfl) (by rfl) T.b_tuple ((¬6)∘ac) (by decide) (by decide) (by rfl) (by rfl))))))))))
noncomputable def pB:FI:=(bA (ab (ae 3) ai))
noncomputable def l5:FS:=(eT (cw bS (ae 7) (ab (az io (eQ (ab (vC (.int 20)) (ab (az bi (vC (.int 1)) (az aI (cP 1 aE (ab (ae 0) ai)) (vC (.int 3)))) (ab (az aI (cP 1 aE (ab (ae 0) ai)) (vC (.int 21))) ai)))) (ae 6)) ai)))
noncomputable def AU:FS:=(aA (aR 3 (az aI (cP 1 aE (ab (ae 0) ai)) (az bi (ae 1) (vC (.int 1)))))
    (aA (aR 4 (az jA (az aI (cP 1 aE (ab (ae 0) ai)) (az bi (ae 2) (vC (.int 1)))) (aP (g1 uR) (ab (az Ec (ae 3) (vC (.int 1))) ai))))
    (aA (aR 5 (cP 3 iZ (ab (ae 0) (ab (aP (g2 lX) (ab (vC (.int 2)) (ab (ae 3) ai))) (ab (ae 4) ai)))))
    (aA (aR 6 (az aI (cP 1 aE (ab (ae 0) ai)) (vC (.int 3))))
    (aA (aR 7 (eQ ai))
    (aA (cN ([8]++[]) pB (ag 8) l5)
    (aA (aR 9 (az io (eQ (ab (vC (.int 40)) (ab (az bi (vC (.int 1)) (az aI (cP 1 aE (ab (ae 0) ai)) (aP (g2 lX) (ab (vC (.int 1)) (ab (ae 4) ai))))) (ab (az aI (cP 1 aE (ab (ae 0) ai)) (vC (.int 41))) ai)))) (az aI (cP 1 aE (ab (ae 0) ai)) (vC (.int 3)))))
    (bQ (dc (ab (ae 3) (ab (ae 5) (ab (aP (g1 dr) (ab (ae 7) ai)) (ab (ae 9) ai)))))))))))))
noncomputable def qG:FM:=js 3 7 ([3]++([4]++([5]++([6]++([7]++(([8]++[])++([9]++[]))))))) AU
theorem yj:aF ["_law_drawn","_law_most","_law_ties_here","_law_things","_law_many","_law_rows","_law_way","_law_patience","_law_k","_law_asks"] ["_law_drawn","_law_most","_law_ties_here"] (aj q_):=⟨rfl,rfl,rfl,by decide+kernel,rfl,by decide+kernel,by decide+kernel⟩
theorem Ct(h:bx K mg "_law_web" q_ f fd ["_law_drawn","_law_most","_law_ties_here"])(T:jM mg){fLties:Addr}{eLties:FuncData}(hLties:bx K mg "_law_ties" lj fLties eLties ["_law_drawn","_law_things","_law_many"])(GLties:aL P w K mg base cf 4 fLties eLties ["_law_drawn","_law_things","_law_many"] (cy K 3 iZ)){fLnext:Addr}{eLnext:FuncData}(hLnext:bx K mg "_law_next" gf fLnext eLnext ["_law_drawn"])(GLnext:aL P w K mg base cf 1 fLnext eLnext ["_law_drawn"] (cy K 1 aE)):aL P w K mg base cf 5 f fd ["_law_drawn","_law_most","_law_ties_here"] (cy K 3 qG):=by
  have nd:=yj.nd
  exact h.fn yj rfl rfl (fun cdv A outer s H E hr=>(@ah _ _ _ _ _ _ _ _ (@ar _ _ _ _ _ 3 _ _ nd rfl (Or.inl rfl) (@aN _ _ _ _ _ _ _ (@aS _ _ _ _ _ _ _ _ _ _ _ _ _ _ _ hLnext GLnext (hr.mono (by decide)) ((¬0)∘ac) (by rfl) (by decide) (by rfl) (by rfl)) (@ba _ _ _ _ _ _ _ rfl (¬1) af)) (by rfl) (by trivial))
      (@ah _ _ _ _ _ _ _ _ (@ar _ _ _ _ _ 4 _ _ nd rfl (Or.inl rfl) (@mQ _ _ _ _ _ _ _ rfl (@aN _ _ _ _ _ _ _ (@aS _ _ _ _ _ _ _ _ _ _ _ _ _ _ _ hLnext GLnext (hr.mono (by decide)) ((¬0)∘ac) (by rfl) (by decide) (by rfl) (by rfl)) (@ba _ _ _ _ _ _ _ rfl (¬2) af)) (@aU _ _ _ _ _ _ _ _ _ (@b_int _ _) (by rfl) T.b_int ((@oC _ _ _ _ _ _ _ _ _ (@D7 _ _) (¬3) af (a8 _))∘ac) (by decide) (by decide) (by rfl) (by rfl))) (by rfl) (by trivial))
      (@ah _ _ _ _ _ _ _ _ (@ar _ _ _ _ _ 5 _ _ nd rfl (Or.inl rfl) (@aS _ _ _ _ _ _ _ _ _ _ _ _ _ _ _ hLties GLties (hr.mono (by decide)) ((¬0)∘((@aU _ _ _ _ _ _ _ _ _ (@b_max _ _ rfl) (by rfl) T.b_max (af∘((¬3)∘ac)) (by decide) (by decide) (by rfl) (by rfl))∘((¬4)∘ac))) (by rfl) (by decide) (by rfl) (by rfl)) (by rfl) (by trivial))
      (@ah _ _ _ _ _ _ _ _ (@ar _ _ _ _ _ 6 _ _ nd rfl (Or.inl rfl) (@aN _ _ _ _ _ _ _ (@aS _ _ _ _ _ _ _ _ _ _ _ _ _ _ _ hLnext GLnext (hr.mono (by decide)) ((¬0)∘ac) (by rfl) (by decide) (by rfl) (by rfl)) af) (by rfl) (by trivial))
      (@ah _ _ _ _ _ _ _ _ (@ar _ _ _ _ _ 7 _ _ nd rfl (Or.inl rfl) (@bV _ _ _ _ _ ac) (by rfl) (by trivial))
      (@ah _ _ _ _ _ _ _ _ (@cY _ _ _ _ _ _ _ _ _ _ _ PassesOwn.never rfl (@bg _ _ _ _ _ _ _ rfl T.b_range ((¬3)∘ac) (by rfl)) (@aq _ _ _ 8 _ nd rfl (Or.inl rfl) (by trivial))
      (@am _ _ _ _ _ (@dn _ _ _ _ _ (@cM _ _ _ _ _ _ _ _ _ rfl (¬7) ((@dZ _ _ _ _ _ _ _ rfl (@bV _ _ _ _ _ (af∘((@ba _ _ _ _ _ _ _ rfl af (@aN _ _ _ _ _ _ _ (@aS _ _ _ _ _ _ _ _ _ _ _ _ _ _ _ hLnext GLnext (hr.mono (by decide)) ((¬0)∘ac) (by rfl) (by decide) (by rfl) (by rfl)) af))∘((@aN _ _ _ _ _ _ _ (@aS _ _ _ _ _ _ _ _ _ _ _ _ _ _ _ hLnext GLnext (hr.mono (by decide)) ((¬0)∘ac) (by rfl) (by decide) (by rfl) (by rfl)) af)∘ac)))) (¬6) (fun _ _=>rfl))∘ac) (by rfl) (by rfl) (by rfl) (by rfl) (by rfl)) (by rfl))) (by intro _;rfl))
      (@ah _ _ _ _ _ _ _ _ (@ar _ _ _ _ _ 9 _ _ nd rfl (Or.inl rfl) (@dZ _ _ _ _ _ _ _ rfl (@bV _ _ _ _ _ (af∘((@ba _ _ _ _ _ _ _ rfl af (@aN _ _ _ _ _ _ _ (@aS _ _ _ _ _ _ _ _ _ _ _ _ _ _ _ hLnext GLnext (hr.mono (by decide)) ((¬0)∘ac) (by rfl) (by decide) (by rfl) (by rfl)) (@aU _ _ _ _ _ _ _ _ _ (@b_max _ _ rfl) (by rfl) T.b_max (af∘((¬4)∘ac)) (by decide) (by decide) (by rfl) (by rfl))))∘((@aN _ _ _ _ _ _ _ (@aS _ _ _ _ _ _ _ _ _ _ _ _ _ _ _ hLnext GLnext (hr.mono (by decide)) ((¬0)∘ac) (by rfl) (by decide) (by rfl) (by rfl)) af)∘ac)))) (@aN _ _ _ _ _ _ _ (@aS _ _ _ _ _ _ _ _ _ _ _ _ _ _ _ hLnext GLnext (hr.mono (by decide)) ((¬0)∘ac) (by rfl) (by decide) (by rfl) (by rfl)) af) (fun _ _=>rfl)) (by rfl) (by trivial))
      (@am _ _ _ _ _ (@aG _ _ _ _ _ (@bf _ _ _ _ _ _ ((¬3)∘((¬5)∘((@aU _ _ _ _ _ _ _ _ _ (@b_tuple _ _ rfl) (by rfl) T.b_tuple ((¬7)∘ac) (by decide) (by decide) (by rfl) (by rfl))∘((¬9)∘ac)))))))))))))))
noncomputable def jC:FI:=(bA (ab (ae 2) ai))
noncomputable def ib:FS:=(aA (aR 8 (cP 1 aE (ab (ae 0) ai)))
    (aA (aR 9 (cP 1 aE (ab (ae 0) ai)))
    (aA (aR 10 (dc (ab (az aI (ae 8) (ae 3)) (ab (az bi (ae 3) (az aI (az eI (ae 8) (ae 3)) (az fQ (ae 1) (ae 3)))) ai))))
    (eT (cw bS (ae 6) (ab (az bi (ae 10) (dc (ab (cP 2 cq (ab (ae 9) (ab (ae 4) ai))) (ab (cP 2 fv (ab (az eI (ae 9) (vC (.int 10007))) (ab (ae 5) ai))) ai)))) ai))))))
noncomputable def p_:FS:=(aA (aR 3 (az bi (vC (.int 1)) (az aI (cP 1 aE (ab (ae 0) ai)) (az fQ (ae 1) (vC (.int 1))))))
    (aA (aR 4 (az aI (cP 1 aE (ab (ae 0) ai)) (vC (.int 4))))
    (aA (aR 5 (az aI (cP 1 aE (ab (ae 0) ai)) (vC (.int 4))))
    (aA (aR 6 (eQ ai))
    (aA (cN ([7]++([8]++([9]++([10]++[])))) jC (ag 7) ib)
    (bQ (aP (g1 dr) (ab (ae 6) ai))))))))
noncomputable def iY:FM:=js 3 8 ([3]++([4]++([5]++([6]++(([7]++([8]++([9]++([10]++[]))))++[]))))) p_
theorem oE:aF ["_law_numbers","_law_things","_law_many","_law_cut","_law_odds","_law_worths","_law_found","_law_k","_law_number","_law_cell","_law_ends"] ["_law_numbers","_law_things","_law_many"] (aj i7):=⟨rfl,rfl,rfl,by decide+kernel,rfl,by decide+kernel,by decide+kernel⟩
theorem u_(h:bx K mg "_law_across" i7 f fd ["_law_numbers","_law_things","_law_many"])(T:jM mg){fLnext:Addr}{eLnext:FuncData}(hLnext:bx K mg "_law_next" gf fLnext eLnext ["_law_drawn"])(GLnext:aL P w K mg base cf 1 fLnext eLnext ["_law_drawn"] (cy K 1 aE)){fLchance:Addr}{eLchance:FuncData}(hLchance:bx K mg "_law_chance" f_ fLchance eLchance ["_law_number","_law_kind"])(GLchance:aL P w K mg base cf 3 fLchance eLchance ["_law_number","_law_kind"] (cy K 2 cq)){fLworth:Addr}{eLworth:FuncData}(hLworth:bx K mg "_law_worth" iC fLworth eLworth ["_law_number","_law_kind"])(GLworth:aL P w K mg base cf 1 fLworth eLworth ["_law_number","_law_kind"] (cy K 2 fv)):aL P w K mg base cf 4 f fd ["_law_numbers","_law_things","_law_many"] (cy K 3 iY):=by
  have nd:=oE.nd
  exact h.fn oE rfl rfl (fun cdv A outer s H E hr=>(@ah _ _ _ _ _ _ _ _ (@ar _ _ _ _ _ 3 _ _ nd rfl (Or.inl rfl) (@ba _ _ _ _ _ _ _ rfl af (@aN _ _ _ _ _ _ _ (@aS _ _ _ _ _ _ _ _ _ _ _ _ _ _ _ hLnext GLnext (hr.mono (by decide)) ((¬0)∘ac) (by rfl) (by decide) (by rfl) (by rfl)) (@lM _ _ _ _ _ _ _ (¬1) af))) (by rfl) (by trivial))
      (@ah _ _ _ _ _ _ _ _ (@ar _ _ _ _ _ 4 _ _ nd rfl (Or.inl rfl) (@aN _ _ _ _ _ _ _ (@aS _ _ _ _ _ _ _ _ _ _ _ _ _ _ _ hLnext GLnext (hr.mono (by decide)) ((¬0)∘ac) (by rfl) (by decide) (by rfl) (by rfl)) af) (by rfl) (by trivial))
      (@ah _ _ _ _ _ _ _ _ (@ar _ _ _ _ _ 5 _ _ nd rfl (Or.inl rfl) (@aN _ _ _ _ _ _ _ (@aS _ _ _ _ _ _ _ _ _ _ _ _ _ _ _ hLnext GLnext (hr.mono (by decide)) ((¬0)∘ac) (by rfl) (by decide) (by rfl) (by rfl)) af) (by rfl) (by trivial))
      (@ah _ _ _ _ _ _ _ _ (@ar _ _ _ _ _ 6 _ _ nd rfl (Or.inl rfl) (@bV _ _ _ _ _ ac) (by rfl) (by trivial))
      (@ah _ _ _ _ _ _ _ _ (@cY _ _ _ _ _ _ _ _ _ _ _ PassesOwn.never rfl (@bg _ _ _ _ _ _ _ rfl T.b_range ((¬2)∘ac) (by rfl)) (@aq _ _ _ 7 _ nd rfl (Or.inl rfl) (by trivial))
      (@ah _ _ _ _ _ _ _ _ (@ar _ _ _ _ _ 8 _ _ nd rfl (Or.inl rfl) (@aS _ _ _ _ _ _ _ _ _ _ _ _ _ _ _ hLnext GLnext (hr.mono (by decide)) ((¬0)∘ac) (by rfl) (by decide) (by rfl) (by rfl)) (by rfl) (by trivial))
      (@ah _ _ _ _ _ _ _ _ (@ar _ _ _ _ _ 9 _ _ nd rfl (Or.inl rfl) (@aS _ _ _ _ _ _ _ _ _ _ _ _ _ _ _ hLnext GLnext (hr.mono (by decide)) ((¬0)∘ac) (by rfl) (by decide) (by rfl) (by rfl)) (by rfl) (by trivial))
      (@ah _ _ _ _ _ _ _ _ (@ar _ _ _ _ _ 10 _ _ nd rfl (Or.inl rfl) (@bf _ _ _ _ _ _ ((@aN _ _ _ _ _ _ _ (¬8) (¬3))∘((@ba _ _ _ _ _ _ _ rfl (¬3) (@aN _ _ _ _ _ _ _ (@gP _ _ _ _ _ _ _ (¬8) (¬3)) (@lM _ _ _ _ _ _ _ (¬1) (¬3))))∘ac))) (by rfl) (by trivial))
      (@am _ _ _ _ _ (@dn _ _ _ _ _ (@cM _ _ _ _ _ _ _ _ _ rfl (¬6) ((@ba _ _ _ _ _ _ _ rfl (¬10) (@bf _ _ _ _ _ _ ((@aS _ _ _ _ _ _ _ _ _ _ _ _ _ _ _ hLchance GLchance (hr.mono (by decide)) ((¬9)∘((¬4)∘ac)) (by rfl) (by decide) (by rfl) (by rfl))∘((@aS _ _ _ _ _ _ _ _ _ _ _ _ _ _ _ hLworth GLworth (hr.mono (by decide)) ((@gP _ _ _ _ _ _ _ (¬9) af)∘((¬5)∘ac)) (by rfl) (by decide) (by rfl) (by rfl))∘ac))))∘ac) (by rfl) (by rfl) (by rfl) (by rfl) (by rfl)) (by rfl)))))) (by intro _;rfl))
      (@am _ _ _ _ _ (@aG _ _ _ _ _ (@aU _ _ _ _ _ _ _ _ _ (@b_tuple _ _ rfl) (by rfl) T.b_tuple ((¬6)∘ac) (by decide) (by decide) (by rfl) (by rfl))))))))))
noncomputable def iV:FI:=(fq (ae 2))
noncomputable def eE:FS:=(eT (cw bS (ae 6) (ab (dc (ab (aP (g2 pz) (ab (az io (ae 4) (ae 7)) (ab (az io (ae 4) (ae 8)) ai))) (ab (aP (g2 lX) (ab (az io (ae 4) (ae 7)) (ab (az io (ae 4) (ae 8)) ai))) (ab (ae 9) (ab (ae 10) ai))))) ai)))
noncomputable def iW:FI:=(bA (ab (ae 1) ai))
noncomputable def gC:FS:=(eT (cw bS (ae 4) (ab (cw iy (ae 3) (ab (az aI (cP 1 aE (ab (ae 0) ai)) (aP (g1 iI) (ab (ae 3) ai))) ai)) ai)))
noncomputable def kN:FS:=(aA (aR 3 (gJ (ab (ae 1) ai)))
    (aA (aR 4 (eQ ai))
    (aA (cN ([5]++[]) iW (ag 5) gC)
    (aA (aR 6 (eQ ai))
    (aA (cN (([7]++([8]++([9]++([10]++[]))))++[]) iV (c9 (ap (ag 7) (ap (ag 8) (ap (ag 9) (ap (ag 10) cK))))) eE)
    (bQ (aP (g1 dr) (ab (ae 6) ai))))))))
noncomputable def dz:FM:=js 3 8 ([3]++([4]++(([5]++[])++([6]++((([7]++([8]++([9]++([10]++[]))))++[])++[]))))) kN
theorem mV:aF ["_law_numbers","_law_things","_law_ties_here","_law_left","_law_names","_law_k","_law_found","_law_one","_law_other","_law_chance_here","_law_worth_here"] ["_law_numbers","_law_things","_law_ties_here"] (aj fH):=⟨rfl,rfl,rfl,by decide+kernel,rfl,by decide+kernel,by decide+kernel⟩
theorem sj(h:bx K mg "_law_renamed" fH f fd ["_law_numbers","_law_things","_law_ties_here"])(T:jM mg){fLnext:Addr}{eLnext:FuncData}(hLnext:bx K mg "_law_next" gf fLnext eLnext ["_law_drawn"])(GLnext:aL P w K mg base cf 1 fLnext eLnext ["_law_drawn"] (cy K 1 aE)):aL P w K mg base cf 2 f fd ["_law_numbers","_law_things","_law_ties_here"] (cy K 3 dz):=by
  have nd:=mV.nd
  exact h.fn mV rfl rfl (fun cdv A outer s H E hr=>(@ah _ _ _ _ _ _ _ _ (@ar _ _ _ _ _ 3 _ _ nd rfl (Or.inl rfl) (@lL _ _ _ _ _ _ _ _ rfl rfl T.b_list rfl T.b_range ((¬1)∘ac) (by rfl) (by rfl)) (by rfl) (by trivial))
      (@ah _ _ _ _ _ _ _ _ (@ar _ _ _ _ _ 4 _ _ nd rfl (Or.inl rfl) (@bV _ _ _ _ _ ac) (by rfl) (by trivial))
      (@ah _ _ _ _ _ _ _ _ (@cY _ _ _ _ _ _ _ _ _ _ _ PassesOwn.never rfl (@bg _ _ _ _ _ _ _ rfl T.b_range ((¬1)∘ac) (by rfl)) (@aq _ _ _ 5 _ nd rfl (Or.inl rfl) (by trivial))
      (@am _ _ _ _ _ (@dn _ _ _ _ _ (@cM _ _ _ _ _ _ _ _ _ rfl (¬4) ((@pN _ _ _ _ _ _ _ _ _ rfl (¬3) ((@aN _ _ _ _ _ _ _ (@aS _ _ _ _ _ _ _ _ _ _ _ _ _ _ _ hLnext GLnext (hr.mono (by decide)) ((¬0)∘ac) (by rfl) (by decide) (by rfl) (by rfl)) (@aU _ _ _ _ _ _ _ _ _ (@b_len _ _ rfl) (by rfl) T.b_len ((¬3)∘ac) (by decide) (by decide) (by rfl) (by rfl)))∘ac) (by rfl) (by rfl) (by rfl) (by rfl) (by rfl))∘ac) (by rfl) (by rfl) (by rfl) (by rfl) (by rfl)) (by rfl))) (by intro _;rfl))
      (@ah _ _ _ _ _ _ _ _ (@ar _ _ _ _ _ 6 _ _ nd rfl (Or.inl rfl) (@bV _ _ _ _ _ ac) (by rfl) (by trivial))
      (@ah _ _ _ _ _ _ _ _ (@cY _ _ _ _ _ _ _ _ _ _ _ PassesOwn.never rfl (@du _ _ _ _ _ rfl (¬2)) (@jH _ _ _ _ _ _ _ _ rfl rfl (@aZ _ _ _ _ _ _ _ _ (@aq _ _ _ 7 _ nd rfl (Or.inl rfl) (by trivial)) (@aZ _ _ _ _ _ _ _ _ (@aq _ _ _ 8 _ nd rfl (Or.inl rfl) (by trivial)) (@aZ _ _ _ _ _ _ _ _ (@aq _ _ _ 9 _ nd rfl (Or.inl rfl) (by trivial)) (@aZ _ _ _ _ _ _ _ _ (@aq _ _ _ 10 _ nd rfl (Or.inl rfl) (by trivial)) (@iz _ _) (by rfl)) (by rfl)) (by rfl)) (by rfl)) (bu (bu (bu (bu jB)))) (by rfl) (by rfl))
      (@am _ _ _ _ _ (@dn _ _ _ _ _ (@cM _ _ _ _ _ _ _ _ _ rfl (¬6) ((@bf _ _ _ _ _ _ ((@aU _ _ _ _ _ _ _ _ _ (@b_min _ _ rfl) (by rfl) T.b_min ((@dZ _ _ _ _ _ _ _ rfl (¬4) (¬7) (fun _ _=>rfl))∘((@dZ _ _ _ _ _ _ _ rfl (¬4) (¬8) (fun _ _=>rfl))∘ac)) (by decide) (by decide) (by rfl) (by rfl))∘((@aU _ _ _ _ _ _ _ _ _ (@b_max _ _ rfl) (by rfl) T.b_max ((@dZ _ _ _ _ _ _ _ rfl (¬4) (¬7) (fun _ _=>rfl))∘((@dZ _ _ _ _ _ _ _ rfl (¬4) (¬8) (fun _ _=>rfl))∘ac)) (by decide) (by decide) (by rfl) (by rfl))∘((¬9)∘((¬10)∘ac)))))∘ac) (by rfl) (by rfl) (by rfl) (by rfl) (by rfl)) (by rfl))) (by intro _;rfl))
      (@am _ _ _ _ _ (@aG _ _ _ _ _ (@aU _ _ _ _ _ _ _ _ _ (@b_tuple _ _ rfl) (by rfl) T.b_tuple ((¬6)∘ac) (by decide) (by decide) (by rfl) (by rfl))))))))))
noncomputable def kX:FI:=(bA (ab (ae 2) ai))
noncomputable def jd:FS:=(aA (aR 5 (cP 1 aE (ab (ae 0) ai)))
    (aA (aR 6 (dc (ab (aP (g2 pz) (ab (ae 4) (ab (az aI (az bi (ae 4) (vC (.int 1))) (ae 2)) ai))) (ab (aP (g2 lX) (ab (ae 4) (ab (az aI (az bi (ae 4) (vC (.int 1))) (ae 2)) ai))) ai))))
    (eT (cw bS (ae 3) (ab (az bi (ae 6) (dc (ab (cP 2 cq (ab (ae 5) (ab (vC (.int 1)) ai))) (ab (cP 2 fv (ab (az eI (ae 5) (vC (.int 10007))) (ab (vC (.int 2)) ai))) ai)))) ai)))))
noncomputable def tf:FS:=(aA (aR 3 (eQ ai))
    (aA (cN ([4]++([5]++([6]++[]))) kX (ag 4) jd)
    (bQ (cP 3 dz (ab (ae 0) (ab (ae 1) (ab (ae 3) ai)))))))
noncomputable def kc:FM:=js 3 4 ([3]++(([4]++([5]++([6]++[])))++[])) tf
theorem rh:aF ["_law_numbers","_law_things","_law_size","_law_found","_law_k","_law_cell","_law_ends"] ["_law_numbers","_law_things","_law_size"] (aj kr):=⟨rfl,rfl,rfl,by decide+kernel,rfl,by decide+kernel,by decide+kernel⟩
theorem xu(h:bx K mg "_law_round" kr f fd ["_law_numbers","_law_things","_law_size"])(T:jM mg){fLrenamed:Addr}{eLrenamed:FuncData}(hLrenamed:bx K mg "_law_renamed" fH fLrenamed eLrenamed ["_law_numbers","_law_things","_law_ties_here"])(GLrenamed:aL P w K mg base cf 2 fLrenamed eLrenamed ["_law_numbers","_law_things","_law_ties_here"] (cy K 3 dz)){fLnext:Addr}{eLnext:FuncData}(hLnext:bx K mg "_law_next" gf fLnext eLnext ["_law_drawn"])(GLnext:aL P w K mg base cf 1 fLnext eLnext ["_law_drawn"] (cy K 1 aE)){fLchance:Addr}{eLchance:FuncData}(hLchance:bx K mg "_law_chance" f_ fLchance eLchance ["_law_number","_law_kind"])(GLchance:aL P w K mg base cf 3 fLchance eLchance ["_law_number","_law_kind"] (cy K 2 cq)){fLworth:Addr}{eLworth:FuncData}(hLworth:bx K mg "_law_worth" iC fLworth eLworth ["_law_number","_law_kind"])(GLworth:aL P w K mg base cf 1 fLworth eLworth ["_law_number","_law_kind"] (cy K 2 fv)):aL P w K mg base cf 4 f fd ["_law_numbers","_law_things","_law_size"] (cy K 3 kc):=by
  have nd:=rh.nd
  exact h.fn rh rfl rfl (fun cdv A outer s H E hr=>(@ah _ _ _ _ _ _ _ _ (@ar _ _ _ _ _ 3 _ _ nd rfl (Or.inl rfl) (@bV _ _ _ _ _ ac) (by rfl) (by trivial))
      (@ah _ _ _ _ _ _ _ _ (@cY _ _ _ _ _ _ _ _ _ _ _ PassesOwn.never rfl (@bg _ _ _ _ _ _ _ rfl T.b_range ((¬2)∘ac) (by rfl)) (@aq _ _ _ 4 _ nd rfl (Or.inl rfl) (by trivial))
      (@ah _ _ _ _ _ _ _ _ (@ar _ _ _ _ _ 5 _ _ nd rfl (Or.inl rfl) (@aS _ _ _ _ _ _ _ _ _ _ _ _ _ _ _ hLnext GLnext (hr.mono (by decide)) ((¬0)∘ac) (by rfl) (by decide) (by rfl) (by rfl)) (by rfl) (by trivial))
      (@ah _ _ _ _ _ _ _ _ (@ar _ _ _ _ _ 6 _ _ nd rfl (Or.inl rfl) (@bf _ _ _ _ _ _ ((@aU _ _ _ _ _ _ _ _ _ (@b_min _ _ rfl) (by rfl) T.b_min ((¬4)∘((@aN _ _ _ _ _ _ _ (@ba _ _ _ _ _ _ _ rfl (¬4) af) (¬2))∘ac)) (by decide) (by decide) (by rfl) (by rfl))∘((@aU _ _ _ _ _ _ _ _ _ (@b_max _ _ rfl) (by rfl) T.b_max ((¬4)∘((@aN _ _ _ _ _ _ _ (@ba _ _ _ _ _ _ _ rfl (¬4) af) (¬2))∘ac)) (by decide) (by decide) (by rfl) (by rfl))∘ac))) (by rfl) (by trivial))
      (@am _ _ _ _ _ (@dn _ _ _ _ _ (@cM _ _ _ _ _ _ _ _ _ rfl (¬3) ((@ba _ _ _ _ _ _ _ rfl (¬6) (@bf _ _ _ _ _ _ ((@aS _ _ _ _ _ _ _ _ _ _ _ _ _ _ _ hLchance GLchance (hr.mono (by decide)) ((¬5)∘(af∘ac)) (by rfl) (by decide) (by rfl) (by rfl))∘((@aS _ _ _ _ _ _ _ _ _ _ _ _ _ _ _ hLworth GLworth (hr.mono (by decide)) ((@gP _ _ _ _ _ _ _ (¬5) af)∘(af∘ac)) (by rfl) (by decide) (by rfl) (by rfl))∘ac))))∘ac) (by rfl) (by rfl) (by rfl) (by rfl) (by rfl)) (by rfl))))) (by intro _;rfl))
      (@am _ _ _ _ _ (@aG _ _ _ _ _ (@aS _ _ _ _ _ _ _ _ _ _ _ _ _ _ _ hLrenamed GLrenamed (hr.mono (by decide)) ((¬0)∘((¬1)∘((¬3)∘ac))) (by rfl) (by decide) (by rfl) (by rfl)))))))
noncomputable def fK:FS:=(aA (aR 3 (az bi (vC (.int 2)) (az aI (cP 1 aE (ab (ae 0) ai)) (az fQ (ae 1) (vC (.int 1))))))
    (aA (aR 4 (az aI (cP 1 aE (ab (ae 0) ai)) (vC (.int 4))))
    (aA (jt (a7 (az (cE false) (ae 4) (vC (.int 0))))
    (bQ (cP 3 qG (ab (ae 0) (ab (ae 1) (ab (ae 2) ai)))))
    fw)
    (aA (aR 5 (cP 3 dz (ab (ae 0) (ab (ae 3) (ab (cP 3 iY (ab (ae 0) (ab (ae 3) (ab (az aI (cP 1 aE (ab (ae 0) ai)) (az bi (ae 2) (vC (.int 1)))) ai)))) ai)))))
    (aA (jt (a7 (az (cE false) (ae 4) (vC (.int 1))))
    (aA (aR 6 (az bi (vC (.int 3)) (az aI (cP 1 aE (ab (ae 0) ai)) (aP (g2 lX) (ab (vC (.int 1)) (ab (az fQ (ae 3) (vC (.int 2))) ai))))))
    (aA (aR 5 (cP 3 kc (ab (ae 0) (ab (aP (g2 lX) (ab (ae 3) (ab (vC (.int 3)) ai))) (ab (aP (g2 pz) (ab (ae 6) (ab (aP (g2 lX) (ab (ae 3) (ab (vC (.int 3)) ai))) ai))) ai)))))
    (aA (aR 3 (aP (g2 lX) (ab (ae 3) (ab (vC (.int 3)) ai))))
    (aR 5 (rJ (az bi (ae 5) (cP 3 iZ (ab (ae 0) (ab (ae 3) (ab (az aI (cP 1 aE (ab (ae 0) ai)) (vC (.int 4))) ai))))) fZ (eS (ae 2)))))))
    fw)
    (aA (jt (a7 (az (cE false) (ae 4) (vC (.int 2))))
    (aR 5 (rJ (az bi (ae 5) (cP 3 iZ (ab (ae 0) (ab (ae 3) (ab (vC (.int 1)) ai))))) fZ (eS (ae 2))))
    fw)
    (bQ (dc (ab (ae 3) (ab (ae 5) (ab (az jA (dc (ab (az bi (vC (.int 1)) (az aI (cP 1 aE (ab (ae 0) ai)) (vC (.int 20)))) ai)) (ae 3)) (ab (az aI (cP 1 aE (ab (ae 0) ai)) (vC (.int 41))) ai))))))))))))
noncomputable def cL:FM:=js 3 4 ([3]++([4]++(([]++[])++([5]++((([6]++([5]++([3]++[5])))++[])++(([5]++[])++[])))))) fK
theorem lP:aF ["_law_numbers","_law_most","_law_many","_law_things","_law_sort","_law_ties_here","_law_size"] ["_law_numbers","_law_most","_law_many"] (aj gh):=⟨rfl,rfl,rfl,by decide+kernel,rfl,by decide+kernel,by decide+kernel⟩
theorem qR(h:bx K mg "_law_side_web" gh f fd ["_law_numbers","_law_most","_law_many"])(T:jM mg){fLrenamed:Addr}{eLrenamed:FuncData}(hLrenamed:bx K mg "_law_renamed" fH fLrenamed eLrenamed ["_law_numbers","_law_things","_law_ties_here"])(GLrenamed:aL P w K mg base cf 2 fLrenamed eLrenamed ["_law_numbers","_law_things","_law_ties_here"] (cy K 3 dz)){fLnext:Addr}{eLnext:FuncData}(hLnext:bx K mg "_law_next" gf fLnext eLnext ["_law_drawn"])(GLnext:aL P w K mg base cf 1 fLnext eLnext ["_law_drawn"] (cy K 1 aE)){fLweb:Addr}{eLweb:FuncData}(hLweb:bx K mg "_law_web" q_ fLweb eLweb ["_law_drawn","_law_most","_law_ties_here"])(GLweb:aL P w K mg base cf 5 fLweb eLweb ["_law_drawn","_law_most","_law_ties_here"] (cy K 3 qG)){fLacross:Addr}{eLacross:FuncData}(hLacross:bx K mg "_law_across" i7 fLacross eLacross ["_law_numbers","_law_things","_law_many"])(GLacross:aL P w K mg base cf 4 fLacross eLacross ["_law_numbers","_law_things","_law_many"] (cy K 3 iY)){fLround:Addr}{eLround:FuncData}(hLround:bx K mg "_law_round" kr fLround eLround ["_law_numbers","_law_things","_law_size"])(GLround:aL P w K mg base cf 4 fLround eLround ["_law_numbers","_law_things","_law_size"] (cy K 3 kc)){fLties:Addr}{eLties:FuncData}(hLties:bx K mg "_law_ties" lj fLties eLties ["_law_drawn","_law_things","_law_many"])(GLties:aL P w K mg base cf 4 fLties eLties ["_law_drawn","_law_things","_law_many"] (cy K 3 iZ)):aL P w K mg base cf 6 f fd ["_law_numbers","_law_most","_law_many"] (cy K 3 cL):=by
  have nd:=lP.nd
  exact h.fn lP rfl rfl (fun cdv A outer s H E hr=>(@ah _ _ _ _ _ _ _ _ (@ar _ _ _ _ _ 3 _ _ nd rfl (Or.inl rfl) (@ba _ _ _ _ _ _ _ rfl af (@aN _ _ _ _ _ _ _ (@aS _ _ _ _ _ _ _ _ _ _ _ _ _ _ _ hLnext GLnext (hr.mono (by decide)) ((¬0)∘ac) (by rfl) (by decide) (by rfl) (by rfl)) (@lM _ _ _ _ _ _ _ (¬1) af))) (by rfl) (by trivial))
      (@ah _ _ _ _ _ _ _ _ (@ar _ _ _ _ _ 4 _ _ nd rfl (Or.inl rfl) (@aN _ _ _ _ _ _ _ (@aS _ _ _ _ _ _ _ _ _ _ _ _ _ _ _ hLnext GLnext (hr.mono (by decide)) ((¬0)∘ac) (by rfl) (by decide) (by rfl) (by rfl)) af) (by rfl) (by trivial))
      (@ah _ _ _ _ _ _ _ _ (@dQ _ _ _ _ _ _ _ _ _ _ _ (@bc _ _ _ _ _ _ _ _ _ (@kS _ _ _ rfl hr) (¬4) af (a8 _))
      (@am _ _ _ _ _ (@aG _ _ _ _ _ (@aS _ _ _ _ _ _ _ _ _ _ _ _ _ _ _ hLweb GLweb (hr.mono (by decide)) ((¬0)∘((¬1)∘((¬2)∘ac))) (by rfl) (by decide) (by rfl) (by rfl))))
      (@bJ _ _))
      (@ah _ _ _ _ _ _ _ _ (@ar _ _ _ _ _ 5 _ _ nd rfl (Or.inl rfl) (@aS _ _ _ _ _ _ _ _ _ _ _ _ _ _ _ hLrenamed GLrenamed (hr.mono (by decide)) ((¬0)∘((¬3)∘((@aS _ _ _ _ _ _ _ _ _ _ _ _ _ _ _ hLacross GLacross (hr.mono (by decide)) ((¬0)∘((¬3)∘((@aN _ _ _ _ _ _ _ (@aS _ _ _ _ _ _ _ _ _ _ _ _ _ _ _ hLnext GLnext (hr.mono (by decide)) ((¬0)∘ac) (by rfl) (by decide) (by rfl) (by rfl)) (@ba _ _ _ _ _ _ _ rfl (¬2) af))∘ac))) (by rfl) (by decide) (by rfl) (by rfl))∘ac))) (by rfl) (by decide) (by rfl) (by rfl)) (by rfl) (by trivial))
      (@ah _ _ _ _ _ _ _ _ (@dQ _ _ _ _ _ _ _ _ _ _ _ (@bc _ _ _ _ _ _ _ _ _ (@kS _ _ _ rfl hr) (¬4) af (a8 _))
      (@ah _ _ _ _ _ _ _ _ (@ar _ _ _ _ _ 6 _ _ nd rfl (Or.inl rfl) (@ba _ _ _ _ _ _ _ rfl af (@aN _ _ _ _ _ _ _ (@aS _ _ _ _ _ _ _ _ _ _ _ _ _ _ _ hLnext GLnext (hr.mono (by decide)) ((¬0)∘ac) (by rfl) (by decide) (by rfl) (by rfl)) (@aU _ _ _ _ _ _ _ _ _ (@b_max _ _ rfl) (by rfl) T.b_max (af∘((@lM _ _ _ _ _ _ _ (¬3) af)∘ac)) (by decide) (by decide) (by rfl) (by rfl)))) (by rfl) (by trivial))
      (@ah _ _ _ _ _ _ _ _ (@ar _ _ _ _ _ 5 _ _ nd rfl (Or.inl rfl) (@aS _ _ _ _ _ _ _ _ _ _ _ _ _ _ _ hLround GLround (hr.mono (by decide)) ((¬0)∘((@aU _ _ _ _ _ _ _ _ _ (@b_max _ _ rfl) (by rfl) T.b_max ((¬3)∘(af∘ac)) (by decide) (by decide) (by rfl) (by rfl))∘((@aU _ _ _ _ _ _ _ _ _ (@b_min _ _ rfl) (by rfl) T.b_min ((¬6)∘((@aU _ _ _ _ _ _ _ _ _ (@b_max _ _ rfl) (by rfl) T.b_max ((¬3)∘(af∘ac)) (by decide) (by decide) (by rfl) (by rfl))∘ac)) (by decide) (by decide) (by rfl) (by rfl))∘ac))) (by rfl) (by decide) (by rfl) (by rfl)) (by rfl) (by trivial))
      (@ah _ _ _ _ _ _ _ _ (@ar _ _ _ _ _ 3 _ _ nd rfl (Or.inl rfl) (@aU _ _ _ _ _ _ _ _ _ (@b_max _ _ rfl) (by rfl) T.b_max ((¬3)∘(af∘ac)) (by decide) (by decide) (by rfl) (by rfl)) (by rfl) (by trivial))
      (@am _ _ _ _ _ (@ar _ _ _ _ _ 5 _ _ nd rfl (Or.inl rfl) (@di _ _ _ _ _ _ _ _ _ _ rfl (@ba _ _ _ _ _ _ _ rfl (¬5) (@aS _ _ _ _ _ _ _ _ _ _ _ _ _ _ _ hLties GLties (hr.mono (by decide)) ((¬0)∘((¬3)∘((@aN _ _ _ _ _ _ _ (@aS _ _ _ _ _ _ _ _ _ _ _ _ _ _ _ hLnext GLnext (hr.mono (by decide)) ((¬0)∘ac) (by rfl) (by decide) (by rfl) (by rfl)) af)∘ac))) (by rfl) (by decide) (by rfl) (by rfl))) (@dj _ _) (@dk _ _ _ _ (¬2))) (by rfl) (by trivial))))))
      (@bJ _ _))
      (@ah _ _ _ _ _ _ _ _ (@dQ _ _ _ _ _ _ _ _ _ _ _ (@bc _ _ _ _ _ _ _ _ _ (@kS _ _ _ rfl hr) (¬4) af (a8 _))
      (@am _ _ _ _ _ (@ar _ _ _ _ _ 5 _ _ nd rfl (Or.inl rfl) (@di _ _ _ _ _ _ _ _ _ _ rfl (@ba _ _ _ _ _ _ _ rfl (¬5) (@aS _ _ _ _ _ _ _ _ _ _ _ _ _ _ _ hLties GLties (hr.mono (by decide)) ((¬0)∘((¬3)∘(af∘ac))) (by rfl) (by decide) (by rfl) (by rfl))) (@dj _ _) (@dk _ _ _ _ (¬2))) (by rfl) (by trivial)))
      (@bJ _ _))
      (@am _ _ _ _ _ (@aG _ _ _ _ _ (@bf _ _ _ _ _ _ ((¬3)∘((¬5)∘((@mQ _ _ _ _ _ _ _ rfl (@bf _ _ _ _ _ _ ((@ba _ _ _ _ _ _ _ rfl af (@aN _ _ _ _ _ _ _ (@aS _ _ _ _ _ _ _ _ _ _ _ _ _ _ _ hLnext GLnext (hr.mono (by decide)) ((¬0)∘ac) (by rfl) (by decide) (by rfl) (by rfl)) af))∘ac)) (¬3))∘((@aN _ _ _ _ _ _ _ (@aS _ _ _ _ _ _ _ _ _ _ _ _ _ _ _ hLnext GLnext (hr.mono (by decide)) ((¬0)∘ac) (by rfl) (by decide) (by rfl) (by rfl)) af)∘ac))))))))))))))
noncomputable def j4:FI:=(fq (ae 1))
noncomputable def ie:FE:=(az bi (ae 0) (dc (ab (vC (.int 0)) ai)))
noncomputable def j5:FI:=(fq (ae 1))
noncomputable def ig:FE:=(az bi (ae 0) (dc (ab (vC (.int 1)) ai)))
noncomputable def j6:FI:=(bA (ab (ae 0) ai))
noncomputable def eX:FS:=(aR 1 (az bi (cD [] 1 j4 (ag 0) br ie) (cD [] 1 j5 (ag 0) br ig)))
noncomputable def mv:FS:=(aA (aR 1 (eQ (ab (dc ai) ai)))
    (aA (cN ([2]++[1]) j6 (ag 2) eX)
    (bQ (ae 1))))
noncomputable def fV:FM:=js 1 2 ([1]++(([2]++[1])++[])) mv
theorem lN:aF ["_law_many","_law_rows","_law_k"] ["_law_many"] (aj dw):=⟨rfl,rfl,rfl,by decide+kernel,rfl,by decide+kernel,by decide+kernel⟩
theorem qO(h:bx K mg "_law_all_rows" dw f fd ["_law_many"])(T:jM mg):aL P w K mg base cf 1 f fd ["_law_many"] (cy K 1 fV):=by
  have nd:=lN.nd
  exact h.fn lN rfl rfl (fun cdv A outer s H E hr=>(@ah _ _ _ _ _ _ _ _ (@ar _ _ _ _ _ 1 _ _ nd rfl (Or.inl rfl) (@bV _ _ _ _ _ ((@bf _ _ _ _ _ _ ac)∘ac)) (by rfl) (by trivial))
      (@ah _ _ _ _ _ _ _ _ (@cY _ _ _ _ _ _ _ _ _ _ _ PassesOwn.never rfl (@bg _ _ _ _ _ _ _ rfl T.b_range ((¬0)∘ac) (by rfl)) (@aq _ _ _ 2 _ nd rfl (Or.inl rfl) (by trivial))
      (@am _ _ _ _ _ (@ar _ _ _ _ _ 1 _ _ nd rfl (Or.inl rfl) (@ba _ _ _ _ _ _ _ rfl (@f9 _ _ _ _ _ _ _ _ _ _ _ _ _ (aj dw) ["_law_many","_law_rows","_law_k"] [] ["_law_row"] rfl rfl rfl (@du _ _ _ _ _ rfl (¬1))
        (fun C s0 H0 fp=>(@aq _ _ _ 0 _ (show List.Nodup (["_law_row"]:List Str) by decide+kernel) rfl (Or.inl rfl) (by trivial))) (fun C s0 H0 fp=>(@dR _ _))
        (fun C s0 H0 fp=>(@ba _ _ _ _ _ _ _ rfl (¬0) (@bf _ _ _ _ _ _ (af∘ac)))) rfl (by decide+kernel) (by decide+kernel) (by decide+kernel) (by decide+kernel) (by decide+kernel) (by decide+kernel) (by decide+kernel) (by intro _;rfl)) (@f9 _ _ _ _ _ _ _ _ _ _ _ _ _ (aj dw) ["_law_many","_law_rows","_law_k"] [] ["_law_row"] rfl rfl rfl (@du _ _ _ _ _ rfl (¬1))
        (fun C s0 H0 fp=>(@aq _ _ _ 0 _ (show List.Nodup (["_law_row"]:List Str) by decide+kernel) rfl (Or.inl rfl) (by trivial))) (fun C s0 H0 fp=>(@dR _ _))
        (fun C s0 H0 fp=>(@ba _ _ _ _ _ _ _ rfl (¬0) (@bf _ _ _ _ _ _ (af∘ac)))) rfl (by decide+kernel) (by decide+kernel) (by decide+kernel) (by decide+kernel) (by decide+kernel) (by decide+kernel) (by decide+kernel) (by intro _;rfl))) (by rfl) (by trivial))) (by intro _;rfl))
      (@am _ _ _ _ _ (@aG _ _ _ _ _ (¬1))))))
noncomputable def dJ:FT:=(a7 (az (cE true) (ae 6) (eQ ai)))
noncomputable def eY:FS:=(eT (cw bS (ae 7) (ab (cw iy (ae 6) (ab (az aI (cP 1 aE (ab (ae 0) ai)) (aP (g1 iI) (ab (ae 6) ai))) ai)) ai)))
noncomputable def j7:FI:=(bA (ab (vC (.int 12)) ai))
noncomputable def eZ:FS:=(aA (aR 6 (gJ (ab (ae 1) ai)))
    (aA (aR 7 (eQ ai))
    (aA (eP (2 ^ 4200) dJ eY)
    (aR 2 (az bi (ae 2) (eQ (ab (aP (g1 dr) (ab (rJ (ae 7) fZ (eS (vC (.int 5)))) ai)) (ab (aP (g1 dr) (ab (rJ (ae 7) fZ (eS (vC (.int 7)))) ai)) ai))))))))
noncomputable def ip:FI:=(bA (ab (ae 4) ai))
noncomputable def fg:FE:=(dc (ab (ae 0) (ab (ae 1) (ab (ae 2) ai))))
noncomputable def iq:FI:=(bA (ab (ae 3) ai))
noncomputable def e_:FS:=(aR 2 (az bi (ae 2) (cD [(3,"_law_one"),(4,"_law_other")] 1 ip (ag 2) br fg)))
noncomputable def j8:FI:=(bA (ab (ae 1) ai))
noncomputable def gM:FS:=(cN ([4]++[2]) iq (ag 4) e_)
noncomputable def mw:FS:=(aA (aR 2 (eQ ai))
    (aA (cN ([3]++([4]++[2])) j8 (ag 3) gM)
    (aA (cN ([5]++([6]++([7]++([]++[2])))) j7 (ag 5) eZ)
    (bQ (ae 2)))))
noncomputable def fW:FM:=js 2 6 ([2]++(([3]++([4]++[2]))++(([5]++([6]++([7]++([]++[2]))))++[]))) mw
theorem lO:aF ["_law_numbers","_law_things","_law_rows","_law_one","_law_other","_law_k","_law_left","_law_row"] ["_law_numbers","_law_things"] (aj ef):=⟨rfl,rfl,rfl,by decide+kernel,rfl,by decide+kernel,by decide+kernel⟩
theorem qQ(h:bx K mg "_law_odd_rows" ef f fd ["_law_numbers","_law_things"])(T:jM mg){fLnext:Addr}{eLnext:FuncData}(hLnext:bx K mg "_law_next" gf fLnext eLnext ["_law_drawn"])(GLnext:aL P w K mg base cf 1 fLnext eLnext ["_law_drawn"] (cy K 1 aE)):aL P w K mg base cf 2 f fd ["_law_numbers","_law_things"] (cy K 2 fW):=by
  have nd:=lO.nd
  exact h.fn lO rfl rfl (fun cdv A outer s H E hr=>(@ah _ _ _ _ _ _ _ _ (@ar _ _ _ _ _ 2 _ _ nd rfl (Or.inl rfl) (@bV _ _ _ _ _ ac) (by rfl) (by trivial))
      (@ah _ _ _ _ _ _ _ _ (@cY _ _ _ _ _ _ _ _ _ _ _ PassesOwn.never rfl (@bg _ _ _ _ _ _ _ rfl T.b_range ((¬1)∘ac) (by rfl)) (@aq _ _ _ 3 _ nd rfl (Or.inr rfl) (by trivial))
      (@am _ _ _ _ _ (@cY _ _ _ _ _ _ _ _ _ _ _ PassesOwn.never rfl (@bg _ _ _ _ _ _ _ rfl T.b_range ((¬3)∘ac) (by rfl)) (@aq _ _ _ 4 _ nd rfl (Or.inr rfl) (by trivial))
      (@am _ _ _ _ _ (@ar _ _ _ _ _ 2 _ _ nd rfl (Or.inl rfl) (@ba _ _ _ _ _ _ _ rfl (¬2) (@f9 _ _ _ _ _ _ _ _ _ _ _ _ _ (aj ef) ["_law_numbers","_law_things","_law_rows","_law_one","_law_other","_law_k","_law_left","_law_row"] [(3,"_law_one"),(4,"_law_other")] ["_law_third"] rfl rfl rfl (@bg _ _ _ _ _ _ _ rfl T.b_range ((¬4)∘ac) (by rfl))
        (fun C s0 H0 fp=>(@aq _ _ _ 2 _ (show List.Nodup (["_law_one","_law_other","_law_third"]:List Str) by decide+kernel) rfl (Or.inl rfl) (by trivial))) (fun C s0 H0 fp=>(@dR _ _))
        (fun C s0 H0 fp=>(@bf _ _ _ _ _ _ ((¬0)∘((¬1)∘((¬2)∘ac))))) rfl (by decide+kernel) (by decide+kernel) (by decide+kernel) (by decide+kernel) (by decide+kernel) (by decide+kernel) (by decide+kernel) (by intro _;rfl))) (by rfl) (by trivial))) (by intro _;rfl))) (by intro _;rfl))
      (@ah _ _ _ _ _ _ _ _ (@cY _ _ _ _ _ _ _ _ _ _ _ PassesOwn.never rfl (@bg _ _ _ _ _ _ _ rfl T.b_range (af∘ac) (by rfl)) (@aq _ _ _ 5 _ nd rfl (Or.inl rfl) (by trivial))
      (@ah _ _ _ _ _ _ _ _ (@ar _ _ _ _ _ 6 _ _ nd rfl (Or.inl rfl) (@lL _ _ _ _ _ _ _ _ rfl rfl T.b_list rfl T.b_range ((¬1)∘ac) (by rfl) (by rfl)) (by rfl) (by trivial))
      (@ah _ _ _ _ _ _ _ _ (@ar _ _ _ _ _ 7 _ _ nd rfl (Or.inl rfl) (@bV _ _ _ _ _ ac) (by rfl) (by trivial))
      (@ah _ _ _ _ _ _ _ _ (@ki _ _ _ _ _ _ _ _ _ PassesOwn.never (@bc _ _ _ _ _ _ _ _ _ (@wa _ _ _ rfl hr) (¬6) (@bV _ _ _ _ _ ac) (a8 _))
      (@am _ _ _ _ _ (@dn _ _ _ _ _ (@cM _ _ _ _ _ _ _ _ _ rfl (¬7) ((@pN _ _ _ _ _ _ _ _ _ rfl (¬6) ((@aN _ _ _ _ _ _ _ (@aS _ _ _ _ _ _ _ _ _ _ _ _ _ _ _ hLnext GLnext (hr.mono (by decide)) ((¬0)∘ac) (by rfl) (by decide) (by rfl) (by rfl)) (@aU _ _ _ _ _ _ _ _ _ (@b_len _ _ rfl) (by rfl) T.b_len ((¬6)∘ac) (by decide) (by decide) (by rfl) (by rfl)))∘ac) (by rfl) (by rfl) (by rfl) (by rfl) (by rfl))∘ac) (by rfl) (by rfl) (by rfl) (by rfl) (by rfl)) (by rfl))))
      (@am _ _ _ _ _ (@ar _ _ _ _ _ 2 _ _ nd rfl (Or.inl rfl) (@ba _ _ _ _ _ _ _ rfl (¬2) (@bV _ _ _ _ _ ((@aU _ _ _ _ _ _ _ _ _ (@b_tuple _ _ rfl) (by rfl) T.b_tuple ((@di _ _ _ _ _ _ _ _ _ _ rfl (¬7) (@dj _ _) (@dk _ _ _ _ af))∘ac) (by decide) (by decide) (by rfl) (by rfl))∘((@aU _ _ _ _ _ _ _ _ _ (@b_tuple _ _ rfl) (by rfl) T.b_tuple ((@di _ _ _ _ _ _ _ _ _ _ rfl (¬7) (@dj _ _) (@dk _ _ _ _ af))∘ac) (by decide) (by decide) (by rfl) (by rfl))∘ac)))) (by rfl) (by trivial)))))) (by intro _;rfl))
      (@am _ _ _ _ _ (@aG _ _ _ _ _ (¬2)))))))
noncomputable def GY:FI:=(fq (cP 2 fW (ab (ae 1) (ab (az io (ae 3) (vC (.int 0))) ai))))
noncomputable def FQ:FS:=(jt (a7 (az fP (cP 2 bD (ab (ae 3) (ab (ae 6) ai))) (vC (.bool false))))
    (bQ (vC (.bool false)))
    fw)
noncomputable def GZ:FI:=(fq (cP 1 fV (ab (az io (ae 3) (vC (.int 0))) ai)))
noncomputable def FR:FS:=(jt (a7 (az fP (cP 2 bN (ab (ae 3) (ab (ae 6) ai))) (vC (.bool false))))
    (bQ (vC (.bool false)))
    fw)
noncomputable def G0:FI:=(bA (ab (az bi (vC (.int 2)) (aP (g2 pz) (ab (vC (.int 5)) (ab (aP (g1 iI) (ab (ae 0) ai)) ai)))) ai))
noncomputable def DZ:FS:=(aA (aR 3 (cP 3 cL (ab (ae 1) (ab (vC (.int 7)) (ab (vC (.int 10)) ai)))))
    (aA (qY (cP 1 jj (ab (ae 3) ai)) (c9 (ap (ag 4) (ap (ag 5) cK))))
    (jt (a7 (az (cE false) (ae 4) (vC (.str ("sides":Str)))))
    (aA (jt (a7 (az fP (cP 2 bN (ab (ae 3) (ab (ae 5) ai))) (vC (.bool true))))
    (bQ (vC (.bool false)))
    fw)
    (cN ([6]++([]++[])) GY (ag 6) FQ))
    (aA (jt (yO (a7 (az (cE true) (ae 4) (vC (.str ("ring":Str))))) (a7 (az fP (cP 2 bD (ab (ae 3) (ab (ae 5) ai))) (vC (.bool true)))))
    (bQ (vC (.bool false)))
    fw)
    (cN ([6]++([]++[])) GZ (ag 6) FR)))))
noncomputable def AV:FS:=(aA (aR 1 (cP 1 ka (ab (ae 0) ai)))
    (aA (cN ([2]++([3]++(([4]++([5]++[]))++((([]++[])++([6]++([]++[])))++(([]++[])++([6]++([]++[]))))))) G0 (ag 2) DZ)
    (bQ (vC (.bool true)))))
noncomputable def mK:FM:=js 1 6 ([1]++(([2]++([3]++(([4]++([5]++[]))++((([]++[])++([6]++([]++[])))++(([]++[])++([6]++([]++[])))))))++[])) AV
theorem yk:aF ["_law_script","_law_numbers","_law_turn","_law_web_here","_law_kind","_law_row","_law_other"] ["_law_script"] (aj mU):=⟨rfl,rfl,rfl,by decide+kernel,rfl,by decide+kernel,by decide+kernel⟩
theorem Cu(h:bx K mg "law" mU f fd ["_law_script"])(T:jM mg){fLdraws:Addr}{eLdraws:FuncData}(hLdraws:bx K mg "_law_draws" kn fLdraws eLdraws ["_law_script"])(GLdraws:aL P w K mg base cf 2 fLdraws eLdraws ["_law_script"] (cy K 1 ka)){fLside_web:Addr}{eLside_web:FuncData}(hLside_web:bx K mg "_law_side_web" gh fLside_web eLside_web ["_law_numbers","_law_most","_law_many"])(GLside_web:aL P w K mg base cf 6 fLside_web eLside_web ["_law_numbers","_law_most","_law_many"] (cy K 3 cL)){f_sides:Addr}{e_sides:FuncData}(h_sides:bx K mg "sides" iD f_sides e_sides ["web"])(G_sides:aL P w K mg base cf 3 f_sides e_sides ["web"] (cy K 1 jj)){fLodd_rows:Addr}{eLodd_rows:FuncData}(hLodd_rows:bx K mg "_law_odd_rows" ef fLodd_rows eLodd_rows ["_law_numbers","_law_things"])(GLodd_rows:aL P w K mg base cf 2 fLodd_rows eLodd_rows ["_law_numbers","_law_things"] (cy K 2 fW)){fLall_rows:Addr}{eLall_rows:FuncData}(hLall_rows:bx K mg "_law_all_rows" dw fLall_rows eLall_rows ["_law_many"])(GLall_rows:aL P w K mg base cf 1 fLall_rows eLall_rows ["_law_many"] (cy K 1 fV)){f_sides_hold:Addr}{e_sides_hold:FuncData}(h_sides_hold:bx K mg "sides_hold" cc f_sides_hold e_sides_hold ["web","thing"])(G_sides_hold:aL P w K mg base cf 3 f_sides_hold e_sides_hold ["web","thing"] (cy K 2 bN)){f_ring_holds:Addr}{e_ring_holds:FuncData}(h_ring_holds:bx K mg "ring_holds" cV f_ring_holds e_ring_holds ["web","thing"])(G_ring_holds:aL P w K mg base cf 4 f_ring_holds e_ring_holds ["web","thing"] (cy K 2 bD)):aL P w K mg base cf 7 f fd ["_law_script"] (cy K 1 mK):=by
  have nd:=yk.nd
  exact h.fn yk rfl rfl (fun cdv A outer s H E hr=>(@ah _ _ _ _ _ _ _ _ (@ar _ _ _ _ _ 1 _ _ nd rfl (Or.inl rfl) (@aS _ _ _ _ _ _ _ _ _ _ _ _ _ _ _ hLdraws GLdraws (hr.mono (by decide)) ((¬0)∘ac) (by rfl) (by decide) (by rfl) (by rfl)) (by rfl) (by trivial))
      (@ah _ _ _ _ _ _ _ _ (@cY _ _ _ _ _ _ _ _ _ _ _ PassesOwn.never rfl (@bg _ _ _ _ _ _ _ rfl T.b_range ((@ba _ _ _ _ _ _ _ rfl af (@aU _ _ _ _ _ _ _ _ _ (@b_min _ _ rfl) (by rfl) T.b_min (af∘((@aU _ _ _ _ _ _ _ _ _ (@b_len _ _ rfl) (by rfl) T.b_len ((¬0)∘ac) (by decide) (by decide) (by rfl) (by rfl))∘ac)) (by decide) (by decide) (by rfl) (by rfl)))∘ac) (by rfl)) (@aq _ _ _ 2 _ nd rfl (Or.inl rfl) (by trivial))
      (@ah _ _ _ _ _ _ _ _ (@ar _ _ _ _ _ 3 _ _ nd rfl (Or.inl rfl) (@aS _ _ _ _ _ _ _ _ _ _ _ _ _ _ _ hLside_web GLside_web (hr.mono (by decide)) ((¬1)∘(af∘(af∘ac))) (by rfl) (by decide) (by rfl) (by rfl)) (by rfl) (by trivial))
      (@ah _ _ _ _ _ _ _ _ (@sA _ _ _ _ _ _ _ _ (@aS _ _ _ _ _ _ _ _ _ _ _ _ _ _ _ h_sides G_sides (hr.mono (by decide)) ((¬3)∘ac) (by rfl) (by decide) (by rfl) (by rfl)) (@jH _ _ _ _ _ _ _ _ rfl rfl (@aZ _ _ _ _ _ _ _ _ (@aq _ _ _ 4 _ nd rfl (Or.inl rfl) (by trivial)) (@aZ _ _ _ _ _ _ _ _ (@aq _ _ _ 5 _ nd rfl (Or.inl rfl) (by trivial)) (@iz _ _) (by rfl)) (by rfl)) (bu (bu jB)) (by rfl) (by rfl)) (by rfl) (by rfl) (by rfl))
      (@am _ _ _ _ _ (@dQ _ _ _ _ _ _ _ _ _ _ _ (@bc _ _ _ _ _ _ _ _ _ (@kS _ _ _ rfl hr) (¬4) (@pQ _ _ _ _ _) (a8 _))
      (@ah _ _ _ _ _ _ _ _ (@dQ _ _ _ _ _ _ _ _ _ _ _ (@bc _ _ _ _ _ _ _ _ _ (@jR _ _) (@aS _ _ _ _ _ _ _ _ _ _ _ _ _ _ _ h_sides_hold G_sides_hold (hr.mono (by decide)) ((¬3)∘((¬5)∘ac)) (by rfl) (by decide) (by rfl) (by rfl)) (@iG _ _ _ _ _) (a8 _))
      (@am _ _ _ _ _ (@aG _ _ _ _ _ (@iG _ _ _ _ _)))
      (@bJ _ _))
      (@am _ _ _ _ _ (@cY _ _ _ _ _ _ _ _ _ _ _ PassesOwn.never rfl (@du _ _ _ _ _ rfl (@aS _ _ _ _ _ _ _ _ _ _ _ _ _ _ _ hLodd_rows GLodd_rows (hr.mono (by decide)) ((¬1)∘((@dZ _ _ _ _ _ _ _ rfl (¬3) af (fun _ _=>rfl))∘ac)) (by rfl) (by decide) (by rfl) (by rfl))) (@aq _ _ _ 6 _ nd rfl (Or.inl rfl) (by trivial))
      (@am _ _ _ _ _ (@dQ _ _ _ _ _ _ _ _ _ _ _ (@bc _ _ _ _ _ _ _ _ _ (@jR _ _) (@aS _ _ _ _ _ _ _ _ _ _ _ _ _ _ _ h_ring_holds G_ring_holds (hr.mono (by decide)) ((¬3)∘((¬6)∘ac)) (by rfl) (by decide) (by rfl) (by rfl)) (@iG _ _ _ _ _) (a8 _))
      (@am _ _ _ _ _ (@aG _ _ _ _ _ (@iG _ _ _ _ _)))
      (@bJ _ _))) (by intro _;rfl))))
      (@ah _ _ _ _ _ _ _ _ (@dQ _ _ _ _ _ _ _ _ _ _ _ (@x9 _ _ _ _ (@qX _ _ _ _ _ _ _ _ (@bc _ _ _ _ _ _ _ _ _ (@wa _ _ _ rfl hr) (¬4) (@pQ _ _ _ _ _) (a8 _)) (@pS _ _ _ _ _ (@bc _ _ _ _ _ _ _ _ _ (@jR _ _) (@aS _ _ _ _ _ _ _ _ _ _ _ _ _ _ _ h_ring_holds G_ring_holds (hr.mono (by decide)) ((¬3)∘((¬5)∘ac)) (by rfl) (by decide) (by rfl) (by rfl)) (@iG _ _ _ _ _) (a8 _)))))
      (@am _ _ _ _ _ (@aG _ _ _ _ _ (@iG _ _ _ _ _)))
      (@bJ _ _))
      (@am _ _ _ _ _ (@cY _ _ _ _ _ _ _ _ _ _ _ PassesOwn.never rfl (@du _ _ _ _ _ rfl (@aS _ _ _ _ _ _ _ _ _ _ _ _ _ _ _ hLall_rows GLall_rows (hr.mono (by decide)) ((@dZ _ _ _ _ _ _ _ rfl (¬3) af (fun _ _=>rfl))∘ac) (by rfl) (by decide) (by rfl) (by rfl))) (@aq _ _ _ 6 _ nd rfl (Or.inl rfl) (by trivial))
      (@am _ _ _ _ _ (@dQ _ _ _ _ _ _ _ _ _ _ _ (@bc _ _ _ _ _ _ _ _ _ (@jR _ _) (@aS _ _ _ _ _ _ _ _ _ _ _ _ _ _ _ h_sides_hold G_sides_hold (hr.mono (by decide)) ((¬3)∘((¬6)∘ac)) (by rfl) (by decide) (by rfl) (by rfl)) (@iG _ _ _ _ _) (a8 _))
      (@am _ _ _ _ _ (@aG _ _ _ _ _ (@iG _ _ _ _ _)))
      (@bJ _ _))) (by intro _;rfl)))))))) (by intro _;rfl))
      (@am _ _ _ _ _ (@aG _ _ _ _ _ (@iG _ _ _ _ _))))))
local macro_rules | `(tactic| simp? [$ts,*]) => `(tactic| simp [$ts,*, js, qJ, aA, jt, bQ, fw, aR, eT, qY, yg, Ac, a7, az, uB, ae, vC, eQ, ai, ab, dc, aP, cP, vG, yO, nH, G8, lU, FB, rH, rJ, fZ, eS, cw, bS, se, iy, jX, pe, fL, ck, y8, vF, c9, ap, ag, cK, dG, aO, bC, Cp, gD, eG, mE, pq, tV, tT, tQ, tP, qt, qr, qz, n_, qm, wC, tS, wB, Bd, wG, tU, wD, wF, qC, qB, og, qD, Bf, oV, rR, vV, vX, AX, nV, nU, jZ, l8, List.replicate, -List.map_nil, -List.map_cons, -List.nil_append, -List.cons_append, -Option.bind_some, -Option.map_some, -getElem?_pos, -List.append_nil, Ba, A_, A6, A0, A8, A9, A7, Bb])
theorem m7{n k:Int}(h:0 < k):0≤n % k:=Int.emod_nonneg _ (Int.ne_of_gt h)
theorem m9{n k:Int}(h:0 < k):n % k < k:=Int.emod_lt_of_pos _ h
def nx:List Int→Int
  | []=>0
  | d::_=>d
def gw(ds:List Int):Prop:=∀d∈ds,0≤d∧d < 2147483648
theorem Bl{ds:List Int}(h:gw ds):0≤nx ds∧nx ds < 2147483648:=by
  cases ds with
  | nil=>exact⟨Int.le_refl 0,by show(0:Int) < 2147483648;decide⟩
  | cons d r=>exact h d (by simp)
theorem Fz{ds:List Int}(h:gw ds):gw ds.tail:=fun d hd=>h d (List.mem_of_mem_tail hd)
theorem Dq(ds:List Int):aE [.l (ds.map .int)]=some (.d (.int (nx ds)),[.l (ds.tail.map .int)]):=by
  have hq:∀e:En,e[0]?=some (some (.l (ds.map .int)))→cE false e (.s 0) (.l [])=some (.d (.bool (ds.map PyData.int).isEmpty)):=fun e he=>qq he (lT ds).1
  cases ds with
  | nil=>simp? [aE,rS,hq,nx]
  | cons d r=>simp? [aE,rS,hq,nx]
theorem dS{ds:List Int}(hd:gw ds):∃(n:Int) (ds':List Int),aE [.l (ds.map .int)]=some (.d (.int n),[.l (ds'.map .int)])∧0≤n∧n < 2147483648∧gw ds':=⟨nx ds,ds.tail,Dq ds,(Bl hd).1,(Bl hd).2,Fz hd⟩
theorem uv(cell k:Int)(h0:0≤k)(h1:k≤1000):∃r,ji [.d (.int cell),.d (.int k)]=some (.d (.int r),[.d (.int cell),.d (.int k)])∧0≤r∧r < 2147483648:=by
  have a1:k7 (cell % 2147483647) 48271=true:=pG (by decide) (by decide)
  have a2:k7 7919 k=true:=xf (by decide) (by decide)
  have a3:k7 (7919*k) k=true:=pG (by lia) (by lia)
  have a4:k7 ((cell % 2147483647*48271+7919*k*k+104729) % 2147483647) ((cell % 2147483647*48271+7919*k*k+104729) % 2147483647)=true:=pG (by lia) (by lia)
  refine⟨_,by simp? [ji,s_,aw,mF,a1,a2,a3,a4];rfl,?_,?_⟩
  · lia
  · lia
theorem pb{ds:List Int}(h:gw ds){r:Int}(h0:0≤r)(h1:r < 2147483648):gw (ds++[r]):=fun d hd=>by
  rcases List.mem_append.mp hd with hd | hd
  · exact h d hd
  · simp at hd;subst hd;exact⟨h0,h1⟩
abbrev dE(ns ds:List Int)(v2 v3 v4:Option Sv):En:=[some (.d (.list (ns.map .int))),some (.l (ds.map .int)),v2,v3,v4]
inductive DI (ns:List Int) (i:Nat):En→Prop
  | mk {ds v2 v3 v4} (hd:gw ds) (hl:ds.length≤1000*i):DI ns i (dE ns ds v2 v3 v4)
inductive DJ (ns:List Int) (k cell:Int) (n i:Nat):En→Prop
  | mk {ds v4} (hd:gw ds) (hl:ds.length=n+i):DJ ns k cell n i (dE ns ds (some (.d (.int k))) (some (.d (.int cell))) v4)
inductive DW (ns:List Int) (k:Int) (v4:Option Sv) (n:Nat):En→Prop
  | mk {cell ds} (hc:0≤cell) (hd:gw ds) (hl:ds.length≤max n 900):DW ns k v4 n (dE ns ds (some (.d (.int k))) (some (.d (.int cell))) v4)
theorem AB(ns:List Int)(hn:ns.length≤63):∃ds,ka [.d (.list (ns.map .int))]=some (.l (ds.map .int),[.d (.list (ns.map .int))])∧gw ds:=by
  have inner:∀(cell k:Int) (ds:List Int) (v4:Option Sv),0≤k→k≤63→gw ds→ds.length≤63000→∃ds' v4',(∀W,cN W jh (ag 4) gR (dE ns ds (some (.d (.int k))) (some (.d (.int cell))) v4)=some (.nx (dE ns ds' (some (.d (.int k))) (some (.d (.int cell))) v4')))∧gw ds'∧ds'.length=ds.length+12:=by
    intro cell k ds v4 k0 k1 hd hl
    obtain⟨e',h1,h2⟩:=bo (own:=[]) (g:=ag 4) (f:=gR) (DJ ns k cell ds.length) (aC 0 12) 0 (dE ns ds (some (.d (.int k))) (some (.d (.int cell))) v4) (fun i x e hx hI=>by
      obtain⟨rfl,hi⟩:=a9 hx
      obtain⟨hd',hl'⟩:=hI
      rename_i ds' v4'
      obtain⟨r1,c1,_,_⟩:=uv cell (3*(0+(i:Int))+1) (by lia) (by lia)
      obtain⟨r2,c2,c3,c4⟩:=uv r1 (0+(i:Int)+k+2) (by lia) (by lia)
      have a1:k7 3 (0+(i:Int))=true:=xf (by decide) (by decide)
      refine⟨_,dE ns (ds'++[r2]) (some (.d (.int k))) (some (.d (.int cell))) (some (.d (.int (0+(i:Int))))),rfl,?_,aT,.mk (pb hd' c3 c4) (by simp;lia)⟩
      have hlen:ds'.length < 1000000:=by lia
      simp only [Int.zero_add] at a1 c1 c2
      simp? [dE,gR,c1,c2,mF,a1,hlen]) (.mk hd rfl)
    obtain⟨hd',hl'⟩:=h2
    rename_i ds' v4'
    rw [aX] at hl'
    refine⟨ds',v4',fun W=>?_,hd',by lia⟩
    rw [bO (show jh _=some (aC 0 12,[],_) from aW (n:=12) rfl (by decide) (by decide))]
    exact h1
  have wh:∀(cell k:Int) (ds:List Int) (v4:Option Sv),0≤cell→gw ds→ds.length≤63100→∃cell' ds',eP (2 ^ 4200) fB jc (dE ns ds (some (.d (.int k))) (some (.d (.int cell))) v4)=some (.nx (dE ns ds' (some (.d (.int k))) (some (.d (.int cell'))) v4))∧0≤cell'∧gw ds'∧ds'.length≤max ds.length 900:=by
    intro cell k ds v4 hc hd hl
    have tst:∀(cell:Int) (ds:List Int),fB (dE ns ds (some (.d (.int k))) (some (.d (.int cell))) v4)=some (decide (1000000000000000000≤cell)&&decide ((ds.length:Int) < 900),dE ns ds (some (.d (.int k))) (some (.d (.int cell))) v4):=by
      intro cell ds
      by_cases h:(1000000000000000000:Int)≤cell
      · simp? [dE,fB,j2,kf,h]
      · simp? [dE,fB,j2,kf,h]
    obtain⟨e0,e',h1,hI,h3⟩:=gv (ft:=fB) (f:=jc) (DW ns k v4 ds.length)
      (fun e=>1000000 - Bi 1 e) (fun e hI=>by
        obtain⟨hc',hd',hl'⟩:=hI
        rename_i cell' ds'
        rw [tst]
        by_cases c1:(1000000000000000000:Int)≤cell'
        · by_cases c2:(ds'.length:Int) < 900
          · refine .inr ⟨_,dE ns (ds'++[cell' % 2147483629]) (some (.d (.int k))) (some (.d (.int (cell' / 2147483629)))) v4,by rw [decide_eq_true c1,decide_eq_true c2];rfl,?_,.mk (by lia) (pb hd' (by lia) (by lia)) (by simp;lia),?_⟩
            · have hlen:ds'.length < 1000000:=by lia
              have b8:Bt 8000 2147483629:=iQ (by decide) (by decide)
              simp? [dE,jc,aw,dy,b8,hlen]
            · simp [Bi,dE];lia
          · exact .inl ⟨_,by rw [decide_eq_true c1,decide_eq_false c2];rfl,trivial⟩
        · exact .inl ⟨_,by rw [decide_eq_false c1];rfl,trivial⟩) (2 ^ 4200) _ (.mk hc hd (by lia)) (j' (m:=20) (Nat.lt_of_le_of_lt (Nat.sub_le _ _) (by decide)) (by decide))
    obtain⟨hc',hd',hl'⟩:=hI
    rename_i cell' ds'
    rw [tst] at h3
    have h4:=(Prod.mk.inj (Option.some.inj h3)).2
    subst h4
    exact⟨cell',ds',h1,hc',hd',hl'⟩
  have turn:∀(i:Nat) (ds:List Int) (v3 v4:Option Sv) (hi:i < ns.length),gw ds→ds.length≤1000*i→∃ds2 v3' v4',fx (dE ns ds (some (.d (.int (i:Int)))) v3 v4)=some (.nx (dE ns ds2 (some (.d (.int (i:Int)))) v3' v4'))∧gw ds2∧ds2.length≤1000*(i+1):=by
    intro i ds v3 v4 hi hd hl
    have hcell:atI (ns.map PyData.int) (i:Int)=some (.int ns[i]):=by
      rw [iN (by lia) (by rw [List.length_map];lia)]
      simp [hi]
    have c0:(0:Int)≤(ns[i].natAbs:Int):=by lia
    have st:aR 3 (aP (g1 uQ) (ab (az io (ae 0) (ae 2)) ai)) (dE ns ds (some (.d (.int (i:Int)))) v3 v4)=some (.nx (dE ns ds (some (.d (.int (i:Int)))) (some (.d (.int (ns[i].natAbs:Int)))) v4)):=by
      simp? [dE,hcell]
    generalize (ns[i].natAbs:Int)=cell at c0 st
    have mid:∃ds1 v4',jt (a7 (az BZ (ae 3) (az rZ (vC (.int 10)) (vC (.int 18))))) (cN ([4]++[]) jh (ag 4) gR) fw (dE ns ds (some (.d (.int (i:Int)))) (some (.d (.int cell))) v4)=some (.nx (dE ns ds1 (some (.d (.int (i:Int)))) (some (.d (.int cell))) v4'))∧gw ds1∧ds1.length≤ds.length+12:=by
      by_cases cb:cell < 1000000000000000000
      · obtain⟨ds1,v4',f1,f2,f3⟩:=inner cell (i:Int) ds v4 (by lia) (by lia) hd (by lia)
        refine⟨ds1,v4',?_,f2,by lia⟩
        rw [Fe (e1:=dE ns ds (some (.d (.int (i:Int)))) (some (.d (.int cell))) v4) (by simp? [dE,j2,kf,cb])]
        exact f1 _
      · refine⟨ds,v4,?_,hd,by lia⟩
        rw [Fd (e1:=dE ns ds (some (.d (.int (i:Int)))) (some (.d (.int cell))) v4) (by simp? [dE,j2,kf,cb])]
        rfl
    obtain⟨ds1,v4',m1,m2,m3⟩:=mid
    obtain⟨cell2,ds2,w1,w2,w3,w4⟩:=wh cell (i:Int) ds1 v4' c0 m2 (by lia)
    by_cases c2:(2147483629:Int)≤cell2
    · refine⟨ds2++[cell2 % 2147483629],some (.d (.int cell2)),v4',?_,pb w3 (by lia) (by lia),by simp;lia⟩
      have hlen:ds2.length < 1000000:=by lia
      unfold fx
      rw [jo st,jo m1,jo w1]
      simp? [dE,c2,aw,hlen]
    · refine⟨ds2,some (.d (.int cell2)),v4',?_,w3,by lia⟩
      unfold fx
      rw [jo st,jo m1,jo w1]
      simp? [dE,c2]
  obtain⟨e',h1,hI⟩:=bo (own:=[]) (g:=ag 2) (f:=fx) (DI ns) (aC 0 (min (ns.length:Int) 63).toNat) 0 (dE ns [] none none none) (fun i x e hx hI=>by
    obtain⟨rfl,hi⟩:=a9 hx
    obtain⟨hd,hl⟩:=hI
    rename_i ds v2 v3 v4
    rw [Nat.zero_add] at hl ⊢
    obtain⟨ds2,v3',v4',t1,t2,t3⟩:=turn i ds v3 v4 (by lia) hd hl
    exact⟨dE ns ds (some (.d (.int (i:Int)))) v3 v4,_,by simp [ag,dE],t1,aT,.mk t2 t3⟩) (.mk (fun d hd=>by cases hd) (by simp))
  obtain⟨hd,hl⟩:=hI
  rename_i ds v2 v3 v4
  refine⟨ds,?_,hd⟩
  have hf:∀W,cN W kW (ag 2) fx (dE ns [] none none none)=some (.nx (dE ns ds v2 v3 v4)):=fun W=>by
    rw [bO (show kW _=some (aC 0 (min (ns.length:Int) 63).toNat,[],dE ns [] none none none) from aW (n:=min (ns.length:Int) 63) (by simp? [dE]) (by lia) (by lia))]
    exact h1
  unfold dE at hf
  simp only [List.map_nil] at hf
  simp? [ka,sZ,hf]
theorem Fw(a b:Int)(hb:Bt 4000 b):qF [.d (.int a),.d (.int b)]=some (.d (.int (Int.gcd a b)),[.d (.int a),.d (.int b)]):=by
  have tst:∀x y:Int,jQ [some (.d (.int x)),some (.d (.int y))]=some (!(y==0),[some (.d (.int x)),some (.d (.int y))]):=fun x y=>by simp? [jQ]
  obtain⟨e0,e',h1,⟨x,y,he,hg,hy⟩,h3⟩:=gv (ft:=jQ) (f:=l4) (fun e=>∃x y,e=[some (.d (.int x)),some (.d (.int y))]∧Int.gcd x y=Int.gcd a b∧Bt 4000 y) (xh 1) (fun e ⟨x,y,he,hg,hy⟩=>by
    subst he
    rw [tst]
    by_cases c:y=0
    · subst c;exact .inl ⟨_,rfl,trivial⟩
    · refine .inr ⟨_,[some (.d (.int y)),some (.d (.int (x.fmod y)))],by rw [beq_false_of_ne c];rfl,by simp? [l4,B0 c],⟨y,x.fmod y,rfl,by rw [wK,hg],?_⟩,?_⟩
      · have:=lG x c
        exact Bt.of_le hy (by lia)
      · have:=lG x c
        simpa [xh] using this) (2 ^ 4200) _ ⟨a,b,rfl,rfl,hb⟩ (j' (m:=4000) (by simpa [xh,Bt] using hb) (by decide))
  subst he
  rw [tst] at h3
  have h4:=Prod.mk.inj (Option.some.inj h3)
  have hy0:y=0:=by simpa using h4.1
  subst hy0
  have h5:=h4.2
  subst h5
  have hs:eP (2 ^ 4200) jQ l4 [some (.d (.int a)),some (.d (.int b))]=some (.nx [some (.d (.int x)),some (.d (.int 0))]):=h1
  have hg':(x.natAbs:Int)=(Int.gcd a b:Int):=by rw [←hg];simp
  simp only [qF,AR,js,qJ,aA,jt,bQ,fw,aR,eT,qY,yg,Ac,a7,az,uB,ae,vC,eQ,ai,ab,dc,aP,cP,vG,yO,nH,G8,lU,FB,rH,rJ,fZ,eS,cw,bS,se,iy,jX,pe,fL,ck,y8,vF,c9,ap,ag,cK,dG,aO,bC,Cp,gD,eG,mE,pq,tV,tT,tQ,tP,qt,qr,qz,n_,qm,wC,tS,wB,Bd,wG,tU,wD,wF,qC,qB,og,qD,Bf,oV,rR,vV,vX,AX,nV,nU,jZ,l8,List.replicate, -List.map_nil, -List.map_cons, -List.nil_append, -List.cons_append, -Option.bind_some, -Option.map_some, -getElem?_pos, -List.append_nil,Ba,A_,A6,A0,A8,A9,A7,Bb]
  simp? [hs,hg']
theorem By(t b:Int)(hb:0 < b)(h:Bt 4000 b):oy [.d (.int t),.d (.int b)]=some (.d (.tuple [.int (eO t b).1,.int (eO t b).2]),[.d (.int t),.d (.int b)]):=by
  have g0:=tW (t:=t) (b:=b) (by lia)
  have g1:(Int.gcd t b:Int)≠0:=by lia
  have g8:Bt 8000 (Int.gcd t b:Int):=(B3 (t:=t) (by lia) h).mono (by decide)
  have e:eO t b=(t.fdiv (Int.gcd t b:Int),b.fdiv (Int.gcd t b:Int)):=by unfold eO;rw [if_neg (by lia)]
  rw [e]
  simp? [oy,AS,Fw t b h,zc g1 g8]
theorem AW{i:Int}{n:Nat}(h1: -2147483648 < i)(h2:i < 2147483648)(hn:31≤n):Bt n i:=Bt.mono (m:=31) (by unfold Bt;lia) hn
def wf(t b:Int):Prop:=0≤t∧t≤b∧1≤b∧b≤100∧Int.gcd t b=1
theorem m4(n k:Int)(hn:0≤n):∃t b,cq [.d (.int n),.d (.int k)]=some (.d (.tuple [.int t,.int b]),[.d (.int n),.d (.int k)])∧wf t b:=by
  have b9:Bt 8000 9:=iQ (by decide) (by decide)
  have b100:Bt 8000 100:=iQ (by decide) (by decide)
  have low:∀t b:Int,0 < b→0≤t→t≤b→b≤100→wf (eO t b).1 (eO t b).2:=fun t b hb h0 h1 h2=>by
    obtain⟨r1,r2,r3,r4⟩:=r_ hb h0 h1 h2
    exact⟨r1,r2,r3,r4,xb (by lia)⟩
  by_cases c0:k=0
  · subst c0
    obtain⟨x,hx,ha⟩:=mn (xs:=[PyData.tuple [.int 1,.int 2],.tuple [.int 1,.int 3],.tuple [.int 2,.int 3],.tuple [.int 1,.int 1],.tuple [.int 0,.int 1],.tuple [.int 3,.int 4]]) (i:=n % 6) (by lia) (by simp;lia)
    obtain⟨t,b,rfl,hc⟩:∃t b,x=.tuple [.int t,.int b]∧wf t b:=by
      simp only [List.mem_cons,List.not_mem_nil,or_false] at hx
      rcases hx with rfl | rfl | rfl | rfl | rfl | rfl<;>exact⟨_,_,rfl,by unfold wf;decide⟩
    exact⟨t,b,by simp? [cq,iO,aw,ha],hc⟩
  · by_cases c1:k=1
    · subst c1
      have hm:(n / 9) % (2+n % 9 - 1) < 2+n % 9 - 1:=Int.emod_lt_of_pos _ (by lia)
      have hm0:0≤(n / 9) % (2+n % 9 - 1):=Int.emod_nonneg _ (by lia)
      refine⟨_,_,?_,low (1+(n / 9) % (2+n % 9 - 1)) (2+n % 9) (by lia) (by lia) (by lia) (by lia)⟩
      have hpos:∀e:En,aI e (.d (.int (n / 9))) (.d (.int (2+n % 9 - 1)))=_:=fun e=>aw (by lia)
      have hl:=By (1+(n / 9) % (2+n % 9 - 1)) (2+n % 9) (by lia) (AW (by lia) (by lia) (by decide))
      simp? [cq,iO,aw,dy,b9,hpos,hl]
    · by_cases c2:k=2
      · subst c2
        have hm:(n / 100) % (1+n % 100+1) < 1+n % 100+1:=Int.emod_lt_of_pos _ (by lia)
        have hm0:0≤(n / 100) % (1+n % 100+1):=Int.emod_nonneg _ (by lia)
        refine⟨_,_,?_,low ((n / 100) % (1+n % 100+1)) (1+n % 100) (by lia) (by lia) (by lia) (by lia)⟩
        have hpos:∀e:En,aI e (.d (.int (n / 100))) (.d (.int (1+n % 100+1)))=_:=fun e=>aw (by lia)
        have hl:=By ((n / 100) % (1+n % 100+1)) (1+n % 100) (by lia) (AW (by lia) (by lia) (by decide))
        simp? [cq,iO,aw,dy,b100,hpos,hl]
      · refine⟨1,1,?_,by unfold wf;decide⟩
        simp? [cq,iO,c0,c1,c2]
theorem pZ(n k:Int):∃r,fv [.d (.int n),.d (.int k)]=some (.d (.int r),[.d (.int n),.d (.int k)])∧0≤r∧r≤1000:=by
  obtain⟨x,hx,ha⟩:=mn (xs:=[PyData.int (n % 7),.int (5+n % 2),.int (n % 1001),.int (1000 - n % 3)]) (i:=k % 4) (by lia) (by simp;lia)
  obtain⟨r,rfl,hr⟩:∃r,x=.int r∧0≤r∧r≤1000:=by
    simp only [List.mem_cons,List.not_mem_nil,or_false] at hx
    rcases hx with rfl | rfl | rfl | rfl<;>exact⟨_,rfl,by lia,by lia⟩
  exact⟨r,by simp? [fv,tj,aw,ha],hr⟩
abbrev tE(ds:List Int)(things many shape odds ws:Int)(ts:List gL)(v7 v8 v9 v10 v11 v12:Option Sv):En:=[some (.l (ds.map .int)),some (.d (.int things)),some (.d (.int many)),some (.d (.int shape)),some (.d (.int odds)),some (.d (.int ws)),some (.l (ts.map au)),v7,v8,v9,v10,v11,v12]
inductive TR (things many shape odds ws:Int) (ts:List gL) (k:Option Sv):En→Prop
  | mk {t ds w8 w9 w10 w11 w12} (hd:gw ds) (ht:t.Ok things):TR things many shape odds ws ts k (tE ds things many shape odds ws (ts++[t]) k w8 w9 w10 w11 w12)
inductive TI (things many a b c:Int) (i:Nat):En→Prop
  | mk {ts ds w7 w8 w9 w10 w11 w12} (hd:gw ds) (hl:ts.length=i) (ht:∀t∈ts,t.Ok things):TI things many a b c i (tE ds things many a b c ts w7 w8 w9 w10 w11 w12)
theorem Fx(ds:List Int)(things many shape odds ws:Int)(ts:List gL)(k:Int)(v8 v9 v10 v11 v12:Option Sv)(hd:gw ds)(h2:2≤things)(h12:things≤100)(s0:0≤shape)(s1:shape < 6)(k0:0≤k)(hl:ts.length≤1000):
    ∃e',gU (tE ds things many shape odds ws ts (some (.d (.int k))) v8 v9 v10 v11 v12)=some (.nx e')∧TR things many shape odds ws ts (some (.d (.int k))) e':=by
  obtain⟨n,d1,tn, -, -,hd1⟩:=dS hd
  obtain⟨m,d2,tm,m0, -,hd2⟩:=dS hd1
  obtain⟨x,hx,ha⟩:=mn (xs:=[PyData.int (n % things),.int 0,.int (k % things),.int (n % things),.int (n % 2),.int (n % things)]) (i:=shape) s0 (by simp;lia)
  have tp:0 < things:=Int.lt_of_lt_of_le (by decide) h2
  have tq:0 < things - 1:=Int.sub_pos_of_lt (Int.lt_of_lt_of_le (by decide) h2)
  have nt:0≤n % things∧n % things < things:=⟨m7 tp,m9 tp⟩
  have kt:0≤k % things∧k % things < things:=⟨m7 tp,m9 tp⟩
  obtain⟨one,rfl,o0,o1⟩:∃r,x=.int r∧0≤r∧r < things:=by
    simp only [List.mem_cons,List.not_mem_nil,or_false] at hx
    rcases hx with rfl | rfl | rfl | rfl | rfl | rfl<;>exact⟨_,rfl,by lia,by lia⟩
  have r0:0≤(n / 12) % (things - 1):=m7 tq
  have r1:(n / 12) % (things - 1) < things - 1:=m9 tq
  have q0:0≤(one+1+(n / 12) % (things - 1)) % things:=m7 tp
  have q1:(one+1+(n / 12) % (things - 1)) % things < things:=m9 tp
  have qn:(one+1+(n / 12) % (things - 1)) % things≠one:=fun z=>by
    by_cases c:one+1+(n / 12) % (things - 1) < things
    · rw [Int.emod_eq_of_lt (by lia) c] at z;lia
    · have e:(one+1+(n / 12) % (things - 1)) % things=(one+1+(n / 12) % (things - 1) - things) % things:=by rw [Int.sub_emod_right]
      rw [e,Int.emod_eq_of_lt (by lia) (by lia)] at z;lia
  obtain⟨t,b,c1,c2,c3,c4,c5,c6⟩:=m4 m odds m0
  obtain⟨w,w1,w2,w3⟩:=pZ (m / 10007) ws
  have b12:Bt 8000 12:=iQ (by decide) (by decide)
  have b107:Bt 8000 10007:=iQ (by decide) (by decide)
  have g1:∀(e:En) (i:Int),aI e (.d (.int i)) (.d (.int things))=some (.d (.int (i % things))):=fun e i=>aw tp
  have g2:∀(e:En) (i:Int),aI e (.d (.int i)) (.d (.int (things - 1)))=some (.d (.int (i % (things - 1)))):=fun e i=>aw tq
  have hlen:ts.length < 1000000:=by lia
  by_cases c:shape=4
  · subst c
    refine⟨tE d2 things many 4 odds ws (ts++[⟨0,1,t,b,w⟩]) (some (.d (.int k))) (some (.d (.int n))) (some (.d (.int 0))) (some (.d (.int 1))) (some (.d (.int m))) (some (.d (.tuple [.int 0,.int 1]))),?_,.mk hd2 ⟨by show(0:Int)≤0;decide,by show(0:Int) < 1;decide,by show(1:Int) < things;lia,c2,c3,c4,c5,w2,w3,c6⟩⟩
    simp? [tE,gU,tn,tm,aw,g1,g2,dy,b12,b107,ha,c1,w1,ij,au,hlen]
    decide
  · refine⟨tE d2 things many shape odds ws (ts++[⟨min one ((one+1+(n / 12) % (things - 1)) % things),max one ((one+1+(n / 12) % (things - 1)) % things),t,b,w⟩]) (some (.d (.int k))) (some (.d (.int n))) (some (.d (.int one))) (some (.d (.int ((one+1+(n / 12) % (things - 1)) % things)))) (some (.d (.int m))) (some (.d (.tuple [.int (min one ((one+1+(n / 12) % (things - 1)) % things)),.int (max one ((one+1+(n / 12) % (things - 1)) % things))]))),?_,.mk hd2 ⟨by show 0≤min _ _;lia,by show min _ _ < max _ _;lia,by show max _ _ < _;lia,c2,c3,c4,c5,w2,w3,c6⟩⟩
    simp? [tE,gU,tn,tm,aw,g1,g2,dy,b12,b107,ha,c1,w1,ij,au,hlen,c]
theorem sO(ds:List Int)(things many:Int)(hd:gw ds)(h2:2≤things)(h12:things≤100)(m0:0≤many)(m1:many≤1000):∃(ts:List gL) (ds':List Int),iZ [.l (ds.map .int),.d (.int things),.d (.int many)]=some (.d (.tuple (ts.map au)),[.l (ds'.map .int),.d (.int things),.d (.int many)])∧gw ds'∧(ts.length:Int)=many∧∀t∈ts,t.Ok things:=by
  obtain⟨n0,d1,t0, -, -,hd1⟩:=dS hd
  obtain⟨n1,d2,t1, -, -,hd2⟩:=dS hd1
  obtain⟨n2,d3,t2, -, -,hd3⟩:=dS hd2
  obtain⟨e',h1,hI⟩:=bo (own:=[]) (g:=ag 7) (f:=gU) (TI things many (n0 % 6) (n1 % 4) (n2 % 4)) (aC 0 many.toNat) 0 (tE d3 things many (n0 % 6) (n1 % 4) (n2 % 4) [] none none none none none none) (fun i x e hx hI=>by
    obtain⟨rfl,hi⟩:=a9 hx
    obtain⟨hd',hl,ht⟩:=hI
    rename_i ts ds' w7 w8 w9 w10 w11 w12
    obtain⟨e9,s1,⟨s2,s3⟩⟩:=Fx ds' things many (n0 % 6) (n1 % 4) (n2 % 4) ts (0+(i:Int)) w8 w9 w10 w11 w12 hd' h2 h12 (m7 (by decide)) (m9 (by decide)) (by lia) (by lia)
    exact⟨_,_,rfl,s1,aT,.mk s2 (by simp;lia) fun z hz=>by
      rcases List.mem_append.mp hz with hz | hz
      · exact ht z hz
      · simp at hz;subst hz;exact s3⟩) (.mk hd3 rfl fun t ht=>by cases ht)
  obtain⟨hd',hl,ht⟩:=hI
  rename_i ts ds' w7 w8 w9 w10 w11 w12
  refine⟨ts,ds',?_,hd',by rw [hl,aX];lia,ht⟩
  have hf:∀W,cN W mH (ag 7) gU (tE d3 things many (n0 % 6) (n1 % 4) (n2 % 4) [] none none none none none none)=some (.nx (tE ds' things many (n0 % 6) (n1 % 4) (n2 % 4) ts w7 w8 w9 w10 w11 w12)):=fun W=>by
    rw [bO (show mH _=some (aC 0 many.toNat,[],tE d3 things many (n0 % 6) (n1 % 4) (n2 % 4) [] none none none none none none) from aW (n:=many) (by simp? [tE]) (by lia) (by lia))]
    exact h1
  unfold tE at hf
  simp only [List.map_nil] at hf
  simp? [iZ,vY,t0,t1,t2,aw,hf]
abbrev wE(ds:List Int)(most tn things many:Int)(ts:List gL)(way:Int)(ps:List Int)(v8 v9:Option Sv):En:=[some (.l (ds.map .int)),some (.d (.int most)),some (.d (.int tn)),some (.d (.int things)),some (.d (.int many)),some (.d (.tuple (ts.map au))),some (.d (.int way)),some (.l (ps.map .int)),v8,v9]
inductive WI (most tn things many:Int) (ts:List gL) (way:Int) (i:Nat):En→Prop
  | mk {ps ds w8} (hd:gw ds) (hpl:ps.length=i) (hps:∀p∈ps,0≤p∧p≤20):WI most tn things many ts way i (wE ds most tn things many ts way ps w8 none)
theorem Fy(ds:List Int)(most tn:Int)(hd:gw ds)(m0:0≤most)(m1:most≤12)(k0:0≤tn)(k1:tn≤16):∃(W:bj) (ds':List Int),qG [.l (ds.map .int),.d (.int most),.d (.int tn)]=some (.d (aQ W),[.l (ds'.map .int),.d (.int most),.d (.int tn)])∧gw ds'∧W.Ok∧W.things≤most∧(W.ties.length:Int)≤tn:=by
  obtain⟨n0,d1,t0, -, -,hd1⟩:=dS hd
  obtain⟨n1,d2,t1, -, -,hd2⟩:=dS hd1
  have mp:0 < most+1:=Int.lt_add_one_of_le m0
  have kp:0 < tn+1:=Int.lt_add_one_of_le k0
  have g0:∀(e:En),aI e (.d (.int n0)) (.d (.int (most+1)))=some (.d (.int (n0 % (most+1)))):=fun e=>aw mp
  have g1':∀(e:En),aI e (.d (.int n1)) (.d (.int (tn+1)))=some (.d (.int (n1 % (tn+1)))):=fun e=>aw kp
  have th0:0≤n0 % (most+1):=m7 mp
  have th1:n0 % (most+1) < most+1:=m9 mp
  have ti0:0≤n1 % (tn+1):=m7 kp
  have ti1:n1 % (tn+1) < tn+1:=m9 kp
  clear mp kp
  generalize n0 % (most+1)=things at th0 th1 g0
  generalize n1 % (tn+1)=tm at ti0 ti1 g1'
  obtain⟨many,hmany,mm,m00,m01⟩:∃many:Int,many=tm*(if decide (1 < things)=true then 1 else 0)∧(1 < things∨many=0)∧0≤many∧many≤tn:=by
    by_cases c:1 < things
    · exact⟨tm,by simp [c],.inl c,ti0,by lia⟩
    · exact⟨0,by simp [c],.inr rfl,by lia,by lia⟩
  have gm:∀e:En,jA e (.d (.int tm)) (.d (.int (if decide (1 < things)=true then 1 else 0)))=some (.d (.int many)):=fun e=>by
    rw [mF (pG (by split<;>decide) (by split<;>decide)),hmany]
  have gi:∀e:En,g1 uR e [.d (.bool (decide (1 < things)))]=some (.d (.int (if decide (1 < things)=true then 1 else 0))):=fun e=>rfl
  generalize (if decide (1 < things)=true then 1 else 0:Int)=one at gm gi
  obtain⟨ts,d3,t3,hd3,hlen,hts⟩:=sO d2 (max 2 things) many hd2 (by lia) (by lia) m00 (by lia)
  obtain⟨n4,d4,t4, -, -,hd4⟩:=dS hd3
  obtain⟨e',h1,hI⟩:=bo (own:=[]) (g:=ag 8) (f:=l5) (WI most tn things many ts (n4 % 3)) (aC 0 things.toNat) 0 (wE d4 most tn things many ts (n4 % 3) [] none none) (fun i x e hx hI=>by
    obtain⟨rfl,hi⟩:=a9 hx
    obtain⟨hd5,hpl,hps⟩:=hI
    rename_i ps d5 w8
    obtain⟨p1,d6,t6, -, -,hd6⟩:=dS hd5
    obtain⟨p2,d7,t7, -, -,hd7⟩:=dS hd6
    obtain⟨z,hz,ha⟩:=mn (xs:=[PyData.int 20,.int (1+p1 % 3),.int (p2 % 21)]) (i:=n4 % 3) (m7 (by decide)) (m9 (k:=3) (by decide))
    obtain⟨p,rfl,hp⟩:∃r,z=.int r∧0≤r∧r≤20:=by
      simp only [List.mem_cons,List.not_mem_nil,or_false] at hz
      rcases hz with rfl | rfl | rfl<;>exact⟨_,rfl,by lia,by lia⟩
    refine⟨wE d5 most tn things many ts (n4 % 3) ps (some (.d (.int (0+(i:Int))))) none,wE d7 most tn things many ts (n4 % 3) (ps++[p]) (some (.d (.int (0+(i:Int))))) none,rfl,?_,aT,.mk hd7 (by simp;lia) fun q hq=>by
      rcases List.mem_append.mp hq with hq | hq
      · exact hps q hq
      · simp at hq;subst hq;exact hp⟩
    have hlen:ps.length < 1000000:=by lia
    simp? [wE,l5,t6,t7,aw,ha,hlen]) (.mk hd4 rfl fun p hp=>by cases hp)
  obtain⟨hd5,hpl,hps⟩:=hI
  rename_i ps d5 w8
  have hf:∀W,cN W pB (ag 8) l5 (wE d4 most tn things many ts (n4 % 3) [] none none)=some (.nx (wE d5 most tn things many ts (n4 % 3) ps w8 none)):=fun W=>by
    rw [bO (show pB _=some (aC 0 things.toNat,[],wE d4 most tn things many ts (n4 % 3) [] none none) from aW (n:=things) (by simp? [wE]) (by lia) (by lia))]
    exact h1
  obtain⟨p1,d6,t6, -, -,hd6⟩:=dS hd5
  obtain⟨p2,d7,t7, -, -,hd7⟩:=dS hd6
  obtain⟨p3,d8,t8, -, -,hd8⟩:=dS hd7
  have xp:0 < max 1 many:=Int.lt_of_lt_of_le Int.zero_lt_one (Int.le_max_left _ _)
  have gx:∀(e:En),aI e (.d (.int p1)) (.d (.int (max 1 many)))=some (.d (.int (p1 % max 1 many))):=fun e=>aw xp
  have x0:0≤p1 % max 1 many:=m7 xp
  have x1:p1 % max 1 many < max 1 many:=m9 xp
  obtain⟨z,hz,ha⟩:=mn (xs:=[PyData.int 40,.int (1+p1 % max 1 many),.int (p2 % 41)]) (i:=p3 % 3) (m7 (by decide)) (m9 (k:=3) (by decide))
  obtain⟨asks,rfl,hasks⟩:∃r,z=.int r∧0≤r∧r≤40:=by
    simp only [List.mem_cons,List.not_mem_nil,or_false] at hz
    rcases hz with rfl | rfl | rfl<;>exact⟨_,rfl,by lia,by lia⟩
  rw [aX] at hpl
  refine⟨⟨things,ts,ps,asks⟩,d8,?_,hd8,⟨th0,by show things≤12;lia,fun t ht=>?_,by show ts.length≤16;lia,by show(ps.length:Int)=things;lia,hps,hasks.1,hasks.2⟩,by show things≤most;lia,by show(ts.length:Int)≤tn;lia⟩
  · unfold wE at hf
    simp only [List.map_nil] at hf
    simp? [qG,AU,t0,t1,g0,g1',gm,gi,t3,t4,aw,hf,t6,t7,t8,gx,ha,aQ]
  · rcases mm with c | c
    · have:=hts t ht
      rw [show max 2 things=things by lia] at this
      exact this
    · have:ts=[]:=List.length_eq_zero_iff.mp (by lia)
      subst this;cases ht
def B6:PyData→Bool
  | .int _=>true
  | .bool _=>true
  | _=>false
def B5:PyData→Bool
  | .bool _=>true
  | _=>false
def B9:PyData→Bool
  | .tuple _=>true
  | _=>false
theorem Ed{e:En}{d:PyData}:kU "int" e (.d d)=some (.d (.bool (B6 d))):=by cases d<;>rfl
theorem Gk{e:En}{d:PyData}:kU "bool" e (.d d)=some (.d (.bool (B5 d))):=by cases d<;>rfl
theorem zg{e:En}{d:PyData}:kU "tuple" e (.d d)=some (.d (.bool (B9 d))):=by cases d<;>rfl
theorem zi{d:PyData}(h:B9 d=true):∃ds,d=.tuple ds:=by cases d<;>first | exact⟨_,rfl⟩ | cases h
theorem B7(d:PyData):Ej d=(B6 d&& !B5 d):=by cases d<;>rfl
theorem Dr(d:PyData):eK [.d d]=some (.d (.bool (Ej d)),[.d d]):=by
  rw [B7]
  have g1:=fun e=>Ed (e:=e) (d:=d)
  have g2:=fun e=>Gk (e:=e) (d:=d)
  generalize B6 d=a at*
  generalize B5 d=b at*
  cases a<;>simp? [eK,lE,g1,g2]
theorem oK(d:PyData)(lo hi:Int):aM [.d d,.d (.int lo),.d (.int hi)]=some (.d (.bool (cn lo hi d)),[.d d,.d (.int lo),.d (.int hi)]):=by
  have t:=Dr d
  cases d with
  | int i=>
    by_cases c:lo≤i
    · simp? [aM,bW,t,Ej,cn,i_,c]
    · simp? [aM,bW,t,Ej,cn,i_,c]
  | _=>simp? [aM,bW,t,Ej,cn,i_]
theorem vz(d:PyData)(n:Int):dB [.d d,.d (.int n)]=some (.d (.bool (sI n d)),[.d d,.d (.int n)]):=by
  have g:=fun e=>zg (e:=e) (d:=d)
  cases c:B9 d with
  | false=>
    rw [c] at g
    have e:sI n d=false:=by cases d<;>first | rfl | cases c
    rw [e]
    simp? [dB,iP,g]
  | true=>
    rw [c] at g
    obtain⟨ds,rfl⟩:=zi c
    simp? [dB,iP,g,sI]
def cU(ds:List PyData)(i:Int):Int:=match ds[i.toNat]? with
  | some (.int n)=>n
  | _=>0
def vq(W:bj):PyData→Bool
  | .tuple ds=>((ds.length:Int)==W.things)&&(ds.all (cn 0 1)&&W.ties.all fun t=> !(cU ds t.one==cU ds t.other))
  | _=>false
def uT:PyData→En
  | .tuple [a,b,c,d]=>[some (.d a),some (.d b),some (.d c),some (.d d)]
  | _=>[]
theorem pH{ns:List Int}{i:Int}(h0:0≤i)(h1:i < (ns.length:Int)):atI (ns.map PyData.int) i=some (.int (cU (ns.map .int) i)):=by
  rw [mr h0 h1]
  unfold cU
  have:i.toNat < ns.length:=by lia
  rw [List.getElem?_map,List.getElem?_eq_getElem this,List.getD_eq_getElem?_getD,List.getElem?_eq_getElem this]
  rfl
theorem Ef{W:bj}(e:En):io e (.d (aQ W)) (.d (.int 0))=some (.d (.int W.things)):=by rw [iS,tS,oV];rfl
theorem FW{W:bj}(e:En):io e (.d (aQ W)) (.d (.int 1))=some (.d (.tuple (W.ties.map au))):=by rw [iS,tS,rR];rfl
theorem kJ{W:bj}{x:PyData}(h:x∈W.ties.map au):∃t∈W.ties,x=au t:=by
  obtain⟨t,ht,rfl⟩:=List.mem_map.mp h
  exact⟨t,ht,rfl⟩
def qT(ds:List PyData):PyData→Bool
  | .tuple [.int a,.int b,_,_]=>cU ds a==cU ds b
  | _=>false
theorem rC{W:bj}{ds:List PyData}:(W.ties.map au).all (fun x=> !qT ds x)=W.ties.all fun t=> !(cU ds t.one==cU ds t.other):=by
  rw [List.all_map];rfl
theorem uw{W:bj}(ok:W.Ok)(d:PyData):bN [.d (aQ W),.d d]=some (.d (.bool (vq W d)),[.d (aQ W),.d d]):=by
  have tr:=vz d W.things
  have g0:=Ef (W:=W)
  cases c:sI W.things d with
  | false=>
    rw [c] at tr
    have e:vq W d=false:=by
      unfold vq
      split
      · simp only [sI] at c;rw [c];rfl
      · rfl
    rw [e]
    simp? [bN,ff,g0,tr]
  | true=>
    rw [c] at tr
    cases d with
    | tuple ds=>
      have hl:(ds.length:Int)=W.things:=by simpa [sI] using c
      have t12:=ok.t1
      obtain⟨t',ht,hf⟩:=fN (cs:=[]) (g:=ag 0) (ft:=br) (fe:=dO) (b:=fun _=>true) (y:=fun x=>.bool (cn 0 1 x)) (u:=fun x=>[some (.d x)]) 1 ds [none] [] rfl (fun x hx t ht=>by
        rcases t with _ | ⟨t1,_ | ⟨t2,r⟩⟩
        · simp at ht
        · rfl
        · simp at ht) (fun x hx=>rfl) (fun x _=>rfl) (fun x hx _=>by
        have tn:=oK x 0 1
        simp? [dO,tn]) (by simp;lia)
      have hv:=cO (cp:=[]) (nT:=1) (fi:=iX) (g:=ag 0) (ft:=br) (fe:=dO) (e:=[some (.d (aQ W)),some (.d (.tuple ds))]) (cs:=[]) (t:=[none]) (t':=t') rfl rfl rfl hf
      rw [List.nil_append,show List.filter (fun _=>true) ds=ds from List.filter_eq_self.mpr fun _ _=>rfl] at hv
      have ga:=fun e=>jY (e:=e) (cn 0 1) ds
      cases c2:ds.all (cn 0 1) with
      | false=>
        rw [c2] at ga
        have e:vq W (.tuple ds)=false:=by simp only [vq,c2,Bool.false_and,Bool.and_false]
        rw [e]
        generalize (ds.map fun d=>PyData.bool (cn 0 1 d))=M at*
        simp? [bN,ff,g0,tr,hv,ga]
      | true=>
        rw [c2] at ga
        obtain⟨ns,rfl,hn⟩:=dW c2
        have hln:(ns.length:Int)=W.things:=by simpa using hl
        have g1':=FW (W:=W)
        obtain⟨t2,ht2,hf2⟩:=fN (cs:=[some (.d (.tuple (ns.map .int)))]) (g:=c9 (ap (ag 1) (ap (ag 2) (ap (ag 3) (ap (ag 4) cK))))) (ft:=br) (fe:=dN) (b:=fun _=>true) (y:=fun x=>.bool (!qT (ns.map .int) x)) (u:=uT) 4 (W.ties.map au) [none,none,none,none] [] rfl (fun x hx t ht=>by
          obtain⟨ti,hti,rfl⟩:=kJ hx
          rcases t with _ | ⟨a1,_ | ⟨a2,_ | ⟨a3,_ | ⟨a4,_ | ⟨a5,r⟩⟩⟩⟩⟩
          · simp at ht
          · simp at ht
          · simp at ht
          · simp at ht
          · unfold au
            generalize ns.map PyData.int=NN
            simp? [uT]
          · simp at ht) (fun x hx=>by
          obtain⟨ti,hti,rfl⟩:=kJ hx
          rfl) (fun x _=>rfl) (fun x hx _=>by
          obtain⟨ti,hti,rfl⟩:=kJ hx
          have o:=ok.ties ti hti
          have a1:=pH (ns:=ns) (i:=ti.one) o.o0 (by have:=o.o1;have:=o.o2;lia)
          have a2:=pH (ns:=ns) (i:=ti.other) (by have:=o.o0;have:=o.o1;lia) (by have:=o.o2;lia)
          rw [show qT (ns.map .int) (au ti)=(cU (ns.map .int) ti.one==cU (ns.map .int) ti.other) from rfl]
          rw [show uT (au ti)=[some (.d (.int ti.one)),some (.d (.int ti.other)),some (.d (.tuple [.int ti.top,.int ti.bot])),some (.d (.int ti.worth))] from rfl]
          generalize cU (ns.map PyData.int) ti.one=x1 at*
          generalize cU (ns.map PyData.int) ti.other=x2 at*
          generalize ns.map PyData.int=NN at*
          simp? [dN,a1,a2]) (by have:=ok.len;simp;lia)
        have hv2:=cO (cp:=[(1,"thing")]) (nT:=4) (fi:=fU) (g:=c9 (ap (ag 1) (ap (ag 2) (ap (ag 3) (ap (ag 4) cK))))) (ft:=br) (fe:=dN) (e:=[some (.d (aQ W)),some (.d (.tuple (ns.map .int)))]) (e1:=[some (.d (aQ W)),some (.d (.tuple (ns.map .int)))]) (cs:=[some (.d (.tuple (ns.map .int)))]) (t:=[none,none,none,none]) (t':=t2) (show fU _=_ from kY (by simp? [g1'])) rfl rfl hf2
        rw [List.nil_append,show List.filter (fun _=>true) (W.ties.map au)=W.ties.map au from List.filter_eq_self.mpr fun _ _=>rfl] at hv2
        have ga2:=fun e=>jY (e:=e) (fun x=> !qT (ns.map .int) x) (W.ties.map au)
        rw [rC] at ga2
        have e:vq W (.tuple (ns.map .int))=W.ties.all fun t=> !(cU (ns.map .int) t.one==cU (ns.map .int) t.other):=by simp only [vq,c2,hl,beq_self_eq_true,Bool.true_and]
        rw [e]
        generalize (W.ties.all fun t=> !(cU (ns.map .int) t.one==cU (ns.map .int) t.other))=bb at*
        generalize ((W.ties.map au).map fun x=>PyData.bool (!qT (ns.map .int) x))=M2 at*
        generalize ((ns.map PyData.int).map fun d=>PyData.bool (cn 0 1 d))=M at*
        generalize ns.map PyData.int=NN at*
        simp? [bN,ff,g0,tr,hv,ga,hv2,ga2]
    | _=>simp [sI] at c
abbrev xE(ds:List Int)(things many cut odds ws:Int)(ts:List gL)(v7 v8 v9 v10:Option Sv):En:=[some (.l (ds.map .int)),some (.d (.int things)),some (.d (.int many)),some (.d (.int cut)),some (.d (.int odds)),some (.d (.int ws)),some (.l (ts.map au)),v7,v8,v9,v10]
inductive XI (things many cut a b:Int) (i:Nat):En→Prop
  | mk {ts ds w7 w8 w9 w10} (hd:gw ds) (hl:ts.length=i) (ht:∀t∈ts,t.Ok things):XI things many cut a b i (xE ds things many cut a b ts w7 w8 w9 w10)
theorem yt(ds:List Int)(things many:Int)(hd:gw ds)(h2:2≤things)(h12:things≤100)(m0:0≤many)(m1:many≤1000):∃(ts:List gL) (ds':List Int),iY [.l (ds.map .int),.d (.int things),.d (.int many)]=some (.d (.tuple (ts.map au)),[.l (ds'.map .int),.d (.int things),.d (.int many)])∧gw ds'∧(ts.length:Int)=many∧∀t∈ts,t.Ok things:=by
  obtain⟨n0,d1,t0, -, -,hd1⟩:=dS hd
  obtain⟨n1,d2,t1, -, -,hd2⟩:=dS hd1
  obtain⟨n2,d3,t2, -, -,hd3⟩:=dS hd2
  have tq:0 < things - 1:=Int.sub_pos_of_lt (Int.lt_of_lt_of_le (by decide) h2)
  have g0:∀e:En,aI e (.d (.int n0)) (.d (.int (things - 1)))=some (.d (.int (n0 % (things - 1)))):=fun e=>aw tq
  have c0:1≤1+n0 % (things - 1):=by have:=m7 (n:=n0) tq;lia
  have c1:1+n0 % (things - 1) < things:=by have:=m9 (n:=n0) tq;lia
  generalize n0 % (things - 1)=nc at*
  obtain⟨cut,hcut⟩:∃cut,cut=1+nc:=⟨_,rfl⟩
  rw [←hcut] at c0 c1
  have gcut:∀e:En,bi e (.d (.int 1)) (.d (.int nc))=some (.d (.int cut)):=fun e=>by rw [eG,hcut]
  obtain⟨e',h1,hI⟩:=bo (own:=[]) (g:=ag 7) (f:=ib) (XI things many cut (n1 % 4) (n2 % 4)) (aC 0 many.toNat) 0 (xE d3 things many cut (n1 % 4) (n2 % 4) [] none none none none) (fun i x e hx hI=>by
    obtain⟨rfl,hi⟩:=a9 hx
    obtain⟨hd',hl,ht⟩:=hI
    rename_i ts ds' w7 w8 w9 w10
    obtain⟨n,e1,tn,n0, -,hd1⟩:=dS hd'
    obtain⟨m,e2,tm,m0, -,hd2⟩:=dS hd1
    have cp:0 < cut:=by lia
    have dp:0 < things - cut:=by lia
    have g1:∀e:En,aI e (.d (.int n)) (.d (.int cut))=some (.d (.int (n % cut))):=fun e=>aw cp
    have g2:∀e:En,eI e (.d (.int n)) (.d (.int cut))=some (.d (.int (n / cut))):=fun e=>dy cp (iQ (by lia) (by lia))
    have g3:∀e:En,aI e (.d (.int (n / cut))) (.d (.int (things - cut)))=some (.d (.int (n / cut % (things - cut)))):=fun e=>aw dp
    have a0:=m7 (n:=n) cp;have a1:=m9 (n:=n) cp
    have b0:=m7 (n:=n / cut) dp;have b1:=m9 (n:=n / cut) dp
    generalize n / cut % (things - cut)=y at*
    generalize n % cut=x at*
    obtain⟨t,b,c1,c2,c3,c4,c5,c6⟩:=m4 m (n1 % 4) m0
    obtain⟨w,w1,w2,w3⟩:=pZ (m / 10007) (n2 % 4)
    have b107:Bt 8000 10007:=iQ (by decide) (by decide)
    have hlen:ts.length < 1000000:=by lia
    refine⟨xE ds' things many cut (n1 % 4) (n2 % 4) ts (some (.d (.int (0+(i:Int))))) w8 w9 w10,xE e2 things many cut (n1 % 4) (n2 % 4) (ts++[⟨x,cut+y,t,b,w⟩]) (some (.d (.int (0+(i:Int))))) (some (.d (.int n))) (some (.d (.int m))) (some (.d (.tuple [.int x,.int (cut+y)]))),rfl,?_,aT,.mk hd2 (by simp;lia) fun z hz=>by
      rcases List.mem_append.mp hz with hz | hz
      · exact ht z hz
      · simp at hz;subst hz;exact⟨a0,by show x < cut+y;lia,by show cut+y < things;lia,c2,c3,c4,c5,w2,w3,c6⟩⟩
    simp? [xE,ib,tn,tm,g1,g2,g3,dy,b107,c1,w1,ij,au,hlen]) (.mk hd3 rfl fun t ht=>by cases ht)
  obtain⟨hd',hl,ht⟩:=hI
  rename_i ts ds' w7 w8 w9 w10
  refine⟨ts,ds',?_,hd',by rw [hl,aX];lia,ht⟩
  have hf:∀W,cN W jC (ag 7) ib (xE d3 things many cut (n1 % 4) (n2 % 4) [] none none none none)=some (.nx (xE ds' things many cut (n1 % 4) (n2 % 4) ts w7 w8 w9 w10)):=fun W=>by
    rw [bO (show jC _=some (aC 0 many.toNat,[],xE d3 things many cut (n1 % 4) (n2 % 4) [] none none none none) from aW (n:=many) (by simp? [xE]) (by lia) (by lia))]
    exact h1
  unfold xE at hf
  simp only [List.map_nil] at hf
  simp? [iY,p_,t0,t1,t2,g0,gcut,aw,hf, -eG]
abbrev nE(ds:List Int)(things:Int)(rs:Sv)(left names:List Int)(v5 v6 v7 v8 v9 v10:Option Sv):En:=[some (.l (ds.map .int)),some (.d (.int things)),some rs,some (.l (left.map .int)),some (.l (names.map .int)),v5,v6,v7,v8,v9,v10]
inductive NI (things:Int) (rs:Sv) (i:Nat):En→Prop
  | mk {ds left names v5} (hd:gw ds) (hl:names.length=i) (hp:(names++left).Perm (h8 things.toNat)):NI things rs i (nE ds things rs left names v5 none none none none none)
inductive NJ (ds:List Int) (things:Int) (rs:Sv) (left names:List Int) (v5:Option Sv) (i:Nat):En→Prop
  | mk {ts:List gL} {v7 v8 v9 v10} (hl:ts.length=i) (ht:∀t∈ts,t.Ok things):NJ ds things rs left names v5 i (nE ds things rs left names v5 (some (.l (ts.map au))) v7 v8 v9 v10)
theorem xH{names:List Int}{n:Nat}(h:names.Perm (h8 n)):names.length=n∧names.Nodup∧∀x∈names,0≤x∧x < (n:Int):=by
  refine⟨by rw [h.length_eq,km],h.nodup_iff.mpr ?_,fun x hx=>?_⟩
  · unfold h8
    refine List.Pairwise.map _ (fun a b h=>?_) (List.nodup_range (n:=n))
    intro e
    exact h (by have:(a:Int)=b:=e;lia)
  · have:=h.mem_iff.mp hx
    unfold h8 at this
    obtain⟨k,hk,rfl⟩:=List.mem_map.mp this
    have:=List.mem_range.mp hk
    exact⟨by simp,by simpa using this⟩
theorem xo{names:List Int}(h:names.Nodup){i j:Nat}(hi:i < names.length)(hj:j < names.length)(n:i≠j):names.getD i 0≠names.getD j 0:=by
  rw [List.getD_eq_getElem?_getD,List.getD_eq_getElem?_getD,List.getElem?_eq_getElem hi,List.getElem?_eq_getElem hj]
  have p:=List.pairwise_iff_getElem.mp h
  intro e
  rcases Nat.lt_or_gt_of_ne n with q | q
  · exact p i j hi hj q e
  · exact p j i hj hi q e.symm
theorem oM{ds:List Int}{things:Int}{ts:List gL}{rs:Sv}(hr:rs=.d (.tuple (ts.map au))∨rs=.l (ts.map au))(hd:gw ds)(h2:1≤things)(h12:things≤100)(hl:ts.length≤1000)(ht:∀t∈ts,t.Ok things):
    ∃(us:List gL) (ds':List Int),dz [.l (ds.map .int),.d (.int things),rs]=some (.d (.tuple (us.map au)),[.l (ds'.map .int),.d (.int things),rs])∧gw ds'∧us.length=ts.length∧∀t∈us,t.Ok things:=by
  obtain⟨e',h1,hI⟩:=bo (own:=[]) (g:=ag 5) (f:=gC) (NI things rs) (aC 0 things.toNat) 0 (nE ds things rs (h8 things.toNat) [] none none none none none none) (fun i x e hx hI=>by
    obtain⟨rfl,hi⟩:=a9 hx
    obtain⟨hd',hln,hp⟩:=hI
    rename_i ds left names v5
    have hle:=hp.length_eq
    rw [List.length_append,km] at hle
    obtain⟨n,d1,t1,a1,b1,hd1⟩:=dS hd'
    have pos:0 < left.length:=by lia
    have m0:0≤n % (left.length:Int):=Int.emod_nonneg _ (by lia)
    have m1:n % (left.length:Int) < (left.length:Int):=Int.emod_lt_of_pos _ (by lia)
    have gm:∀e,aI e (.d (.int n)) (.d (.int (left.length:Int)))=some (.d (.int (n % (left.length:Int)))):=fun e=>aw (by lia)
    generalize n % (left.length:Int)=k at*
    have hk:k.toNat < left.length:=by lia
    have hx':(left.map PyData.int)[k.toNat]?=some (.int left[k.toNat]):=by rw [List.getElem?_map,List.getElem?_eq_getElem hk];rfl
    have he:(left.map PyData.int).eraseIdx k.toNat=(left.eraseIdx k.toNat).map .int:=by rw [g9]
    refine⟨nE ds things rs left names (some (.d (.int (0+(i:Int))))) none none none none none,nE d1 things rs (left.eraseIdx k.toNat) (names++[left[k.toNat]]) (some (.d (.int (0+(i:Int))))) none none none none none,rfl,?_,aT,.mk hd1 (by simp;lia) (by
      rw [List.append_assoc]
      exact(List.Perm.append_left _ (mz left k.toNat hk)).trans hp)⟩
    have ql:((left.map PyData.int).length:Int)=(left.length:Int):=by simp
    have hb:k < 1000000000:=by lia
    have lf:(names.map PyData.int).length < 1000000:=by simp;lia
    have e1:(names++[left[k.toNat]]).map PyData.int=names.map .int++[.int left[k.toNat]]:=by simp
    simp only [nE,e1,←he]
    generalize left[k.toNat]=z at*
    generalize names.map PyData.int=FF at*
    generalize (left.length:Int)=L at*
    generalize left.map PyData.int=LL at*
    simp? [gC,t1,ql,gm,m0,hb,hx',lf]) (.mk hd rfl (by simp))
  obtain⟨hd2,hln,hp⟩:=hI
  rename_i d2 left names v5
  rw [Nat.zero_add,aX] at hln
  have hle:=hp.length_eq
  rw [List.length_append,km] at hle
  have hleft:left=[]:=List.length_eq_zero_iff.mp (by lia)
  subst hleft
  rw [List.append_nil] at hp
  obtain⟨_,hnd,hrg⟩:=xH hp
  have hf:∀W,cN W iW (ag 5) gC (nE ds things rs (h8 things.toNat) [] none none none none none none)=some (.nx (nE d2 things rs [] names v5 none none none none none)):=fun W=>by
    rw [bO (show iW _=some (aC 0 things.toNat,[],nE ds things rs (h8 things.toNat) [] none none none none none none) from aW (n:=things) (by simp? [nE]) (by lia) (by lia))]
    exact h1
  have step:∀(own:gQ) (hown:∀e i,NJ d2 things rs [] names v5 i e→keeps own e),∃e',ii own (c9 (ap (ag 7) (ap (ag 8) (ap (ag 9) (ap (ag 10) cK))))) eE (ts.map au) (nE d2 things rs [] names v5 (some (.l [])) none none none none)=some (.nx e')∧NJ d2 things rs [] names v5 (0+(ts.map au).length) e':=fun own hown=>by
    refine bo (own:=own) (g:=c9 (ap (ag 7) (ap (ag 8) (ap (ag 9) (ap (ag 10) cK))))) (f:=eE) (NJ d2 things rs [] names v5) (ts.map au) 0 (nE d2 things rs [] names v5 (some (.l [])) none none none none) (fun i x e hx hI=>?_) (NJ.mk (ts:=[]) rfl (fun t h=>by cases h))
    obtain⟨hl',ht'⟩:=hI
    rename_i us v7 v8 v9 v10
    rw [List.getElem?_map] at hx
    obtain⟨ti,hti,rfl⟩:=Option.map_eq_some_iff.mp hx
    have o:=ht ti (List.mem_of_getElem? hti)
    have ilt:=(List.getElem?_eq_some_iff.mp hti).1
    have:=o.o0;have:=o.o1;have:=o.o2
    have a1:=mr (ns:=names) (k:=ti.one) (by lia) (by lia)
    have a2:=mr (ns:=names) (k:=ti.other) (by lia) (by lia)
    have ne:=xo hnd (i:=ti.one.toNat) (j:=ti.other.toNat) (by lia) (by lia) (by lia)
    have r1:=hrg (names.getD ti.one.toNat 0) (by
      rw [List.getD_eq_getElem?_getD,List.getElem?_eq_getElem (by lia)]
      exact List.getElem_mem _)
    have r2:=hrg (names.getD ti.other.toNat 0) (by
      rw [List.getD_eq_getElem?_getD,List.getElem?_eq_getElem (by lia)]
      exact List.getElem_mem _)
    generalize names.getD ti.one.toNat 0=y1 at*
    generalize names.getD ti.other.toNat 0=y2 at*
    have nj:NJ d2 things rs [] names v5 (0+i+1) (nE d2 things rs [] names v5 (some (.l ((us++[gL.mk (min y1 y2) (max y1 y2) ti.top ti.bot ti.worth]).map au))) (some (.d (.int ti.one))) (some (.d (.int ti.other))) (some (.d (.tuple [.int ti.top,.int ti.bot]))) (some (.d (.int ti.worth)))):=.mk (by simp;lia) fun z hz=>by
      rcases List.mem_append.mp hz with hz | hz
      · exact ht' z hz
      · simp at hz;subst hz
        exact⟨by show 0≤min y1 y2;lia,by show min y1 y2 < max y1 y2;lia,by show max y1 y2 < things;lia,o.c0,o.c1,o.b0,o.b1,o.w0,o.w1,o.cop⟩
    refine⟨nE d2 things rs [] names v5 (some (.l (us.map au))) (some (.d (.int ti.one))) (some (.d (.int ti.other))) (some (.d (.tuple [.int ti.top,.int ti.bot]))) (some (.d (.int ti.worth))),_,?_,?_,hown _ _ nj,nj⟩
    · simp only [nE,au]
      generalize us.map au=UU
      generalize names.map PyData.int=NN
      simp? [List.replicate]
    · have lu:(us.map au).length < 1000000:=by simp;lia
      rw [List.map_append]
      simp only [nE,au,List.map_cons,List.map_nil]
      generalize us.map au=UU at*
      generalize names.map PyData.int=NN at*
      simp? [eE,a1,a2,lu]
  have fin:∃(us:List gL) (v7 v8 v9 v10:Option Sv),(∀Wl,(Wl.contains 2=false)→cN Wl iV (c9 (ap (ag 7) (ap (ag 8) (ap (ag 9) (ap (ag 10) cK))))) eE (nE d2 things rs [] names v5 (some (.l [])) none none none none)=some (.nx (nE d2 things rs [] names v5 (some (.l (us.map au))) v7 v8 v9 v10)))∧us.length=ts.length∧∀t∈us,t.Ok things:=by
    rcases hr with rfl | rfl
    · obtain⟨e',h3,hJ⟩:=step [] (fun _ _ _=>aT)
      obtain⟨hl',ht'⟩:=hJ
      rename_i us v7 v8 v9 v10
      refine⟨us,v7,v8,v9,v10,fun Wl _=>?_,by simpa using hl',ht'⟩
      rw [bO (items:=ts.map au) (e1:=nE d2 things (.d (.tuple (ts.map au))) [] names v5 (some (.l [])) none none none none) rfl]
      exact h3
    · obtain⟨e',h3,hJ⟩:=step [(2,ts.map au)] (fun e i hJ=>by
        obtain⟨_,_⟩:=hJ
        intro p hp
        simp at hp;subst hp;rfl)
      obtain⟨hl',ht'⟩:=hJ
      rename_i us v7 v8 v9 v10
      refine⟨us,v7,v8,v9,v10,fun Wl hW=>?_,by simpa using hl',ht'⟩
      unfold cN
      rw [show iV (nE d2 things (.l (ts.map au)) [] names v5 (some (.l [])) none none none none)=some (ts.map au,[(2,ts.map au)],nE d2 things (.l (ts.map au)) [] names v5 (some (.l [])) none none none none) from rfl]
      simp only [Option.bind_some,List.all_cons,List.all_nil,hW,Bool.not_false,Bool.and_true,if_true]
      exact h3
  obtain⟨us,v7,v8,v9,v10,hf2,hl2,ht2⟩:=fin
  refine⟨us,d2,?_,hd2,hl2,ht2⟩
  have hf2':=fun Wl h=>hf2 Wl h
  simp only [nE,List.map_nil] at hf hf2'
  have th:things≤100000:=by lia
  have th0:0≤things:=by lia
  generalize ts.map au=TT at*
  rcases hr with rfl | rfl
  · simp? [dz,kN,gJ,th,th0,hf,hf2']
  · simp? [dz,kN,gJ,th,th0,hf,hf2']
abbrev yN(ds:List Int)(things size:Int)(ts:List gL)(v4 v5 v6:Option Sv):En:=[some (.l (ds.map .int)),some (.d (.int things)),some (.d (.int size)),some (.l (ts.map au)),v4,v5,v6]
inductive OI (things size:Int) (i:Nat):En→Prop
  | mk {ts ds w4 w5 w6} (hd:gw ds) (hl:ts.length=i) (ht:∀t∈ts,t.Ok things):OI things size i (yN ds things size ts w4 w5 w6)
theorem AC(ds:List Int)(things size:Int)(hd:gw ds)(h2:2≤size)(hs:size≤things)(h12:things≤100):∃(ts:List gL) (ds':List Int),kc [.l (ds.map .int),.d (.int things),.d (.int size)]=some (.d (.tuple (ts.map au)),[.l (ds'.map .int),.d (.int things),.d (.int size)])∧gw ds'∧(ts.length:Int)=size∧∀t∈ts,t.Ok things:=by
  have sp:0 < size:=by lia
  obtain⟨e',h1,hI⟩:=bo (own:=[]) (g:=ag 4) (f:=jd) (OI things size) (aC 0 size.toNat) 0 (yN ds things size [] none none none) (fun i x e hx hI=>by
    obtain⟨rfl,hi⟩:=a9 hx
    obtain⟨hd',hl,ht⟩:=hI
    rename_i ts ds' w4 w5 w6
    obtain⟨k,hk⟩:∃k:Int,k=0+(i:Int):=⟨_,rfl⟩
    rw [←hk]
    obtain⟨m,e2,tm,m0, -,hd2⟩:=dS hd'
    have g1:∀e:En,aI e (.d (.int (k+1))) (.d (.int size))=some (.d (.int ((k+1) % size))):=fun e=>aw sp
    have q0:=m7 (n:=k+1) sp
    have q1:=m9 (n:=k+1) sp
    have qn:(k+1) % size≠k:=fun z=>by
      by_cases c:k+1 < size
      · rw [Int.emod_eq_of_lt (by lia) c] at z;lia
      · have:k+1=size:=by lia
        rw [this,Int.emod_self] at z;lia
    generalize (k+1) % size=y at*
    obtain⟨t,b,c1,c2,c3,c4,c5,c6⟩:=m4 m 1 m0
    obtain⟨w,w1,w2,w3⟩:=pZ (m / 10007) 2
    have b107:Bt 8000 10007:=iQ (by decide) (by decide)
    have hlen:ts.length < 1000000:=by lia
    refine⟨yN ds' things size ts (some (.d (.int k))) w5 w6,yN e2 things size (ts++[⟨min k y,max k y,t,b,w⟩]) (some (.d (.int k))) (some (.d (.int m))) (some (.d (.tuple [.int (min k y),.int (max k y)]))),rfl,?_,aT,.mk hd2 (by simp;lia) fun z hz=>by
      rcases List.mem_append.mp hz with hz | hz
      · exact ht z hz
      · simp at hz;subst hz;exact⟨by show 0≤min k y;lia,by show min k y < max k y;lia,by show max k y < things;lia,c2,c3,c4,c5,w2,w3,c6⟩⟩
    simp? [yN,jd,tm,g1,dy,b107,c1,w1,ij,au,hlen]) (.mk hd rfl fun t ht=>by cases ht)
  obtain⟨hd',hl,ht⟩:=hI
  rename_i ts ds' w4 w5 w6
  rw [Nat.zero_add,aX] at hl
  have hf:∀W,cN W kX (ag 4) jd (yN ds things size [] none none none)=some (.nx (yN ds' things size ts w4 w5 w6)):=fun W=>by
    rw [bO (show kX _=some (aC 0 size.toNat,[],yN ds things size [] none none none) from aW (n:=size) (by simp? [yN]) (by lia) (by lia))]
    exact h1
  obtain⟨us,d2,t2,hd2,hl2,ht2⟩:=oM (ts:=ts) (.inr rfl) hd' (by lia) h12 (by lia) ht
  refine⟨us,d2,?_,hd2,by lia,ht2⟩
  unfold yN at hf
  simp only [List.map_nil] at hf
  generalize ts.map au=TT at*
  generalize us.map au=UU at*
  simp? [kc,tf,hf,t2]
theorem uA{ts:List gL}{n:Int}(h:∀t∈ts,t.Ok n)(k:Nat):∀t∈ts.take k,t.Ok n:=fun t ht=>h t (List.mem_of_mem_take ht)
theorem wk{ts:List gL}{m:Int}(h0:0≤m):L2.cutD (ts.map au) none (some m)=(ts.take m.toNat).map au:=by
  unfold L2.cutD
  show((ts.map au).drop 0).take (HT.sIx (ts.map au).length (ts.map au).length (some m) - 0)=_
  have e:HT.sIx (ts.map au).length (ts.map au).length (some m)=min m.toNat ts.length:=by
    show(if m < 0 then _ else min m.toNat (ts.map au).length)=_
    rw [if_neg (by lia),List.length_map]
  rw [e,List.drop_zero,Nat.sub_zero,List.map_take]
  by_cases c:m.toNat≤ts.length
  · rw [Nat.min_eq_left c]
  · rw [Nat.min_eq_right (by lia),List.take_of_length_le (by simp),List.take_of_length_le (by simp;lia)]
theorem Ok.more{t:gL}{n m:Int}(h:t.Ok n)(k:n≤m):t.Ok m:=⟨h.o0,h.o1,by have:=h.o2;lia,h.c0,h.c1,h.b0,h.b1,h.w0,h.w1,h.cop⟩
theorem sW{things asks p:Int}{ts:List gL}(t0:0≤things)(t1:things≤12)(ht:∀t∈ts,t.Ok things)(hl:ts.length≤16)(p0:0≤p)(p1:p≤20)(a0:0≤asks)(a1:asks≤40):(bj.mk things ts (List.replicate things.toNat p) asks).Ok:=
  ⟨t0,t1,ht,hl,by show((List.replicate things.toNat p).length:Int)=things;rw [List.length_replicate];lia,fun q hq=>by have:=(List.mem_replicate.mp hq).2;lia,a0,a1⟩
theorem sN(ds:List Int)(most many:Int)(hd:gw ds)(m0:2≤most)(m1:most≤12)(k0:0≤many)(k1:many≤16):∃(W:bj) (ds':List Int),cL [.l (ds.map .int),.d (.int most),.d (.int many)]=some (.d (aQ W),[.l (ds'.map .int),.d (.int most),.d (.int many)])∧gw ds'∧W.Ok:=by
  obtain⟨n0,d1,t0, -, -,hd1⟩:=dS hd
  obtain⟨n1,d2,t1, -, -,hd2⟩:=dS hd1
  have mp:0 < most - 1:=by lia
  have g0:∀e:En,aI e (.d (.int n0)) (.d (.int (most - 1)))=some (.d (.int (n0 % (most - 1)))):=fun e=>aw mp
  have a0:=m7 (n:=n0) mp;have a1:=m9 (n:=n0) mp
  generalize n0 % (most - 1)=th at*
  have g1:∀e:En,aI e (.d (.int n1)) (.d (.int 4))=some (.d (.int (n1 % 4))):=fun e=>aw (by decide)
  have b0:=m7 (n:=n1) (k:=4) (by decide);have b1:=m9 (n:=n1) (k:=4) (by decide)
  generalize n1 % 4=sort at*
  by_cases c0:sort=0
  · subst c0
    obtain⟨W,d3,tw,hd3,ok,_,_⟩:=Fy d2 most many hd2 (by lia) m1 k0 k1
    refine⟨W,d3,?_,hd3,ok⟩
    simp? [cL,fK,t0,t1,g0,g1,tw]
  obtain⟨things,hth⟩:∃things,things=2+th:=⟨_,rfl⟩
  have gth:∀e:En,bi e (.d (.int 2)) (.d (.int th))=some (.d (.int things)):=fun e=>by rw [eG,hth]
  obtain⟨n2,d3,t2, -, -,hd3⟩:=dS hd2
  have kp:0 < many+1:=by lia
  have g2:∀e:En,aI e (.d (.int n2)) (.d (.int (many+1)))=some (.d (.int (n2 % (many+1)))):=fun e=>aw kp
  have e0:=m7 (n:=n2) kp;have e1:=m9 (n:=n2) kp
  generalize n2 % (many+1)=ma at*
  obtain⟨ts,d4,t3,hd4,hl3,ht3⟩:=yt d3 things ma hd3 (by lia) (by lia) (by lia) (by lia)
  obtain⟨us,d5,t4,hd5,hl4,ht4⟩:=oM (ts:=ts) (.inl rfl) hd4 (things:=things) (by lia) (by lia) (by lia) ht3
  have fin:∀(ds:List Int),gw ds→∃(p a:Int) (d7 d8:List Int),aE [.l (ds.map .int)]=some (.d (.int p),[.l (d7.map .int)])∧aE [.l (d7.map .int)]=some (.d (.int a),[.l (d8.map .int)])∧gw d8∧(∀e:En,aI e (.d (.int p)) (.d (.int 20))=some (.d (.int (p % 20))))∧(∀e:En,aI e (.d (.int a)) (.d (.int 41))=some (.d (.int (a % 41)))):=fun ds hd=>by
    obtain⟨p,d7,t7, -, -,hd7⟩:=dS hd
    obtain⟨a,d8,t8, -, -,hd8⟩:=dS hd7
    exact⟨p,a,d7,d8,t7,t8,hd8,fun e=>aw (by decide),fun e=>aw (by decide)⟩
  have rep:∀(e:En) (x n:Int),0≤n→n≤100→jA e (.d (.tuple [.int x])) (.d (.int n))=some (.d (.tuple ((List.replicate n.toNat x).map .int))):=fun e x n h0 h1=>by rw [List.map_replicate];exact B2 h0 (by lia)
  have p20:∀p:Int,0≤1+p % 20∧1+p % 20≤20:=fun p=>by have:=m7 (n:=p) (k:=20) (by decide);have:=m9 (n:=p) (k:=20) (by decide);lia
  have a41:∀p:Int,0≤p % 41∧p % 41≤40:=fun p=>by have:=m7 (n:=p) (k:=41) (by decide);have:=m9 (n:=p) (k:=41) (by decide);lia
  by_cases c1:sort=1
  · subst c1
    obtain⟨n5,d6,t5, -, -,hd6⟩:=dS hd5
    have xp:0 < max 1 (things - 2):=by lia
    have g5:∀e:En,aI e (.d (.int n5)) (.d (.int (max 1 (things - 2))))=some (.d (.int (n5 % max 1 (things - 2)))):=fun e=>aw xp
    have f0:=m7 (n:=n5) xp;have f1:=m9 (n:=n5) xp
    generalize n5 % max 1 (things - 2)=sz at*
    obtain⟨vs,d7,t6,hd7,hl6,ht6⟩:=AC d6 (max things 3) (min (3+sz) (max things 3)) hd6 (by lia) (by lia) (by lia)
    obtain⟨n8,d8,t8, -, -,hd8⟩:=dS hd7
    have g8:∀e:En,aI e (.d (.int n8)) (.d (.int 4))=some (.d (.int (n8 % 4))):=fun e=>aw (by decide)
    have h0:=m7 (n:=n8) (k:=4) (by decide);have h1:=m9 (n:=n8) (k:=4) (by decide)
    generalize n8 % 4=m8 at*
    obtain⟨xs,d9,t9,hd9,hl9,ht9⟩:=sO d8 (max things 3) m8 hd8 (by lia) (by lia) (by lia) (by lia)
    obtain⟨p,a,d10,d11,tp,ta,hd11,gp,ga⟩:=fin d9 hd9
    have gc:∀e:En,bi e (.d (.tuple (vs.map au))) (.d (.tuple (xs.map au)))=some (.d (.tuple ((vs++xs).map au))):=fun e=>by rw [List.map_append];exact ij (by simp;lia)
    have gs:=wk (ts:=vs++xs) k0
    refine⟨⟨max things 3,(vs++xs).take many.toNat,List.replicate (max things 3).toNat (1+p % 20),a % 41⟩,d11,?_,hd11,sW (by lia) (by lia) (uA (fun t h=>by
      rcases List.mem_append.mp h with h | h
      · exact ht6 t h
      · exact ht9 t h) _) (by have:=List.length_take_le many.toNat (vs++xs);lia) (p20 p).1 (p20 p).2 (a41 a).1 (a41 a).2⟩
    have hrep:=fun e=>rep e (1+p % 20) (max things 3) (by lia) (by lia)
    rw [iS]
    simp only
    generalize (vs++xs).map au=VX at*
    generalize ((vs++xs).take many.toNat).map au=VT at*
    generalize (List.replicate (max things 3).toNat (1+p % 20)).map PyData.int=RP at*
    generalize vs.map au=VV at*
    generalize xs.map au=XX at*
    generalize us.map au=UU at*
    generalize ts.map au=TT at*
    simp? [cL,fK,t0,t1,g0,g1,gth,t2,g2,t3,t4,t5,g5,t6,t8,g8,t9,gc,gs,tp,ta,gp,ga,hrep, -eG]
  · by_cases c2:sort=2
    · subst c2
      obtain⟨xs,d9,t9,hd9,hl9,ht9⟩:=sO d5 things 1 hd5 (by lia) (by lia) (by decide) (by decide)
      obtain⟨p,a,d10,d11,tp,ta,hd11,gp,ga⟩:=fin d9 hd9
      have gc:∀e:En,bi e (.d (.tuple (us.map au))) (.d (.tuple (xs.map au)))=some (.d (.tuple ((us++xs).map au))):=fun e=>by rw [List.map_append];exact ij (by simp;lia)
      have gs:=wk (ts:=us++xs) k0
      refine⟨⟨things,(us++xs).take many.toNat,List.replicate things.toNat (1+p % 20),a % 41⟩,d11,?_,hd11,sW (by lia) (by lia) (uA (fun t h=>by
        rcases List.mem_append.mp h with h | h
        · exact ht4 t h
        · exact ht9 t h) _) (by have:=List.length_take_le many.toNat (us++xs);lia) (p20 p).1 (p20 p).2 (a41 a).1 (a41 a).2⟩
      have hrep:=fun e=>rep e (1+p % 20) things (by lia) (by lia)
      rw [iS]
      simp only
      generalize (us++xs).map au=VX at*
      generalize ((us++xs).take many.toNat).map au=VT at*
      generalize (List.replicate things.toNat (1+p % 20)).map PyData.int=RP at*
      generalize xs.map au=XX at*
      generalize us.map au=UU at*
      generalize ts.map au=TT at*
      simp? [cL,fK,t0,t1,g0,g1,gth,t2,g2,t3,t4,t9,gc,gs,tp,ta,gp,ga,hrep, -eG]
    · have c3:sort=3:=by lia
      subst c3
      obtain⟨p,a,d10,d11,tp,ta,hd11,gp,ga⟩:=fin d5 hd5
      refine⟨⟨things,us,List.replicate things.toNat (1+p % 20),a % 41⟩,d11,?_,hd11,sW (by lia) (by lia) ht4 (by lia) (p20 p).1 (p20 p).2 (a41 a).1 (a41 a).2⟩
      have hrep:=fun e=>rep e (1+p % 20) things (by lia) (by lia)
      rw [iS]
      simp only
      generalize (List.replicate things.toNat (1+p % 20)).map PyData.int=RP at*
      generalize us.map au=UU at*
      generalize ts.map au=TT at*
      simp? [cL,fK,t0,t1,g0,g1,gth,t2,g2,t3,t4,tp,ta,gp,ga,hrep, -eG]
theorem yw{d:PyData}{many:Int}(hl:∀ds,d=.tuple ds→ds.length≤1000):bw [.d d,.d (.int many)]=some (.d (.bool (yC many d)),[.d d,.d (.int many)]):=by
  cases d with
  | tuple ds=>
    have hl:=hl ds rfl
    let cs:En:=[some (.d (.int many))]
    obtain⟨t',hf⟩:=cQ (cs:=cs) (ft:=br) (fe:=cC) (b:=fun _=>true) (y:=fun d=>.bool (cn 0 (many - 1) d)) ds none [] (fun x _=>rfl) (fun x _ _=>by
      have t:=oK x 0 (many - 1)
      simp? [cs,cC,t]) (by simp;lia)
    have hv:=cO (cp:=[(1,"many")]) (nT:=1) (fi:=gG) (g:=ag 1) (ft:=br) (fe:=cC) (e:=[some (.d (.tuple ds)),some (.d (.int many))]) (cs:=cs) (t:=[none]) (t':=[t']) (kY (fa:=ae 0) rfl) rfl rfl hf
    rw [List.nil_append,show List.filter (fun _=>true) ds=ds from List.filter_eq_self.mpr fun _ _=>rfl] at hv
    have ga:=fun e=>jY (e:=e) (cn 0 (many - 1)) ds
    cases c:ds.all (cn 0 (many - 1)) with
    | true=>
      rw [c] at ga
      obtain⟨ns,rfl,hn⟩:=dW c
      have gl:=fun e=>pw (e:=e) (ns:=ns) (by simpa using hl)
      have e0:yC many (.tuple (ns.map .int))=(((vN ns).length:Int)==(ns.length:Int)):=by
        show iJ many [] (ns.map .int)=_
        rw [p5,←kM,c,Bool.true_and,Bool.eq_iff_iff]
        simp
        rw [←y0]
        constructor<;>intro h<;>lia
      rw [e0]
      have ql:((ns.map PyData.int).length:Int)=(ns.length:Int):=by simp
      generalize ns.map PyData.int=O at*
      simp? [bw,de,kU,wU,vx,Bz,hv,ga,gl,ql]
    | false=>
      rw [c] at ga
      have e0:yC many (.tuple ds)=false:=by
        cases q:yC many (.tuple ds) with
        | false=>rfl
        | true=>exact absurd (kL (show iJ many [] ds=true from q)) (by rw [c];decide)
      rw [e0]
      simp? [bw,de,kU,wU,vx,Bz,hv,ga]
  | _=>simp? [bw,de,kU,wU,vx,Bz,yC]
def pth(R:Int→Int→Bool):Int→List Int→Int→Bool
  | x,[],z=>R x z
  | x,y::r,z=>R x y&&pth R y r z
def lst:Int→List Int→Int
  | x,[]=>x
  | _,y::r=>lst y r
theorem oB{R S:Int→Int→Bool}(h:∀a b,a≠b→R a b=S a b):∀(r:List Int) (x z:Int),(x::r).Nodup→z∉(x::r)→pth R x r z=pth S x r z
  | [],x,z,_,hz=>h _ _ fun e=>hz (by simp [e])
  | y::r,x,z,hn,hz=>by
    have hn':=List.nodup_cons.mp hn
    show(R x y&&pth R y r z)=(S x y&&pth S y r z)
    rw [h x y fun e=>hn'.1 (by simp [e]),oB h r y z hn'.2 fun e=>hz (List.mem_cons_of_mem _ e)]
theorem xS{R S:Int→Int→Bool}(h:∀a b,a≠b→R a b=S a b){x y:Int}{r:List Int}(hn:(x::y::r).Nodup):pth R x (y::r) x=pth S x (y::r) x:=by
  have hn':=List.nodup_cons.mp hn
  show(R x y&&pth R y r x)=(S x y&&pth S y r x)
  rw [h x y fun e=>hn'.1 (by simp [e]),oB h r y x hn'.2 hn'.1]
def gu(W:bj)(a b:Int):Bool:=W.ties.any fun t=>(t.one==a || t.other==a)&&(t.one==b || t.other==b)
def rO(k:Int)(t:gL):List Int:=(if (k==t.one)=true then [t.other] else [])++(if (k==t.other)=true then [t.one] else [])
def mt(W:bj)(k:Int):List Int:=W.ties.flatMap (rO k)
theorem ud(k:Int)(t:gL):(rO k t).length≤2:=by
  unfold rO
  cases (k==t.one)<;>cases (k==t.other)<;>simp
theorem wu(k:Int):∀(ts:List gL),(ts.flatMap (rO k)).length≤2*ts.length
  | []=>by simp
  | t::r=>by
    have:=wu k r
    have:=ud k t
    rw [List.flatMap_cons,List.length_append,List.length_cons]
    lia
theorem uc{k b:Int}{t:gL}:b∈rO k t↔ (k=t.one∧b=t.other)∨(k=t.other∧b=t.one):=by
  unfold rO
  by_cases c1:k=t.one
  · by_cases c2:k=t.other
    · rw [if_pos (by simpa using c1),if_pos (by simpa using c2)];simp [←c1,←c2]
    · rw [if_pos (by simpa using c1),if_neg (by simpa using c2)];simp [←c1,c2]
  · by_cases c2:k=t.other
    · rw [if_neg (by simpa using c1),if_pos (by simpa using c2)];simp [←c2,c1]
    · rw [if_neg (by simpa using c1),if_neg (by simpa using c2)];simp [c1,c2]
theorem jF{W:bj}{a b:Int}:b∈mt W a↔ ∃t∈W.ties,(a=t.one∧b=t.other)∨(a=t.other∧b=t.one):=by
  unfold mt
  rw [List.mem_flatMap]
  exact⟨fun⟨t,h,q⟩=>⟨t,h,uc.mp q⟩,fun⟨t,h,q⟩=>⟨t,h,uc.mpr q⟩⟩
theorem AD(W:bj)(a b:Int)(h:a≠b):gu W a b=(mt W a).contains b:=by
  rw [Bool.eq_iff_iff,List.contains_iff_mem,jF]
  unfold gu
  rw [List.any_eq_true]
  constructor
  · rintro⟨t,ht,q⟩
    simp only [Bool.and_eq_true,Bool.or_eq_true,beq_iff_eq] at q
    refine⟨t,ht,?_⟩
    lia
  · rintro⟨t,ht,q⟩
    refine⟨t,ht,?_⟩
    simp only [Bool.and_eq_true,Bool.or_eq_true,beq_iff_eq]
    lia
theorem Ck{W:bj}(ok:W.Ok){k m:Int}(h:m∈mt W k):0≤m∧m < W.things:=by
  obtain⟨t,ht,q⟩:=jF.mp h
  have o:=ok.ties t ht
  have:=o.o0;have:=o.o1;have:=o.o2
  lia
theorem si{W:bj}(ok:W.Ok)(k:Int):(mt W k).length≤32:=by
  have:=wu k W.ties
  have:=ok.len
  unfold mt
  lia
theorem fD{α:Type}(l:List α):l.filter (fun _=>true)=l:=List.filter_eq_self.mpr fun _ _=>rfl
def EO(a b:Int):PyData→Bool
  | .tuple [.int x,.int y,_,_]=>(x==a || y==a)&&(x==b || y==b)
  | _=>false
theorem yy{W:bj}{a b:Int}:(W.ties.map au).any (EO a b)=gu W a b:=by
  rw [List.any_map];rfl
theorem Ds{W:bj}(ok:W.Ok)(a b:Int):fX [.d (aQ W),.d (.int a),.d (.int b)]=some (.d (.bool (gu W a b)),[.d (aQ W),.d (.int a),.d (.int b)]):=by
  have g1':=FW (W:=W)
  obtain⟨t',hf⟩:=cQ (cs:=[some (.d (.int a)),some (.d (.int b))]) (ft:=br) (fe:=fj) (b:=fun _=>true) (y:=fun x=>.bool (EO a b x)) (W.ties.map au) none [] (fun x _=>rfl) (fun x hx _=>by
    obtain⟨ti,hti,rfl⟩:=kJ hx
    have hc:L2.cutD [PyData.int ti.one,.int ti.other,.tuple [.int ti.top,.int ti.bot],.int ti.worth] none (some 2)=[.int ti.one,.int ti.other]:=rfl
    have i1:∀(e:En) (z:Int),tR false e (.d (.int z)) (.d (.tuple [.int ti.one,.int ti.other]))=some (.d (.bool (ti.one==z || ti.other==z))):=fun e z=>l8
    rw [show EO a b (au ti)=((ti.one==a || ti.other==a)&&(ti.one==b || ti.other==b)) from rfl]
    unfold au
    have i2:=fun e=>i1 e a
    have i3:=fun e=>i1 e b
    generalize (ti.one==a || ti.other==a)=p at*
    generalize (ti.one==b || ti.other==b)=q at*
    cases p<;>simp? [fj,hc,i2,i3]) (by have:=ok.len;simp;lia)
  have hv:=cO (cp:=[(1,"one"),(2,"other")]) (nT:=1) (fi:=j9) (g:=ag 2) (ft:=br) (fe:=fj) (e:=[some (.d (aQ W)),some (.d (.int a)),some (.d (.int b))]) (e1:=[some (.d (aQ W)),some (.d (.int a)),some (.d (.int b))]) (items:=W.ties.map au) (cs:=[some (.d (.int a)),some (.d (.int b))]) (t:=[none]) (t':=[t']) (kY (by simp? [g1'])) rfl rfl hf
  rw [List.nil_append,fD] at hv
  have ga:=fun e=>wz (e:=e) (EO a b) (W.ties.map au)
  rw [yy] at ga
  generalize gu W a b=bb at*
  generalize ((W.ties.map au).map fun x=>PyData.bool (EO a b x))=M at*
  simp? [fX,mx,hv,ga]
theorem BQ{x:PyData}{r:List PyData}:L2.cutD (x::r) (some 1) none=r:=by
  unfold L2.cutD
  show((x::r).drop (min 1 (r.length+1))).take ((r.length+1) - min 1 (r.length+1))=r
  rw [show min 1 (r.length+1)=1 by lia]
  simp
theorem BP{x:PyData}{r:List PyData}:L2.cutD (x::r) none (some 1)=[x]:=by
  rw [yY];rfl
def qP(W:bj):PyData→Bool
  | .tuple [.int a,.int b]=>gu W a b
  | _=>false
theorem uD(W:bj):∀(r:List Int) (x z:Int),(iK ((x::r).map .int) ((r++[z]).map .int)).all (qP W)=pth (gu W) x r z
  | [],x,z=>by simp [iK,qP,pth]
  | y::r,x,z=>by
    show(qP W (.tuple [.int x,.int y])&&(iK ((y::r).map .int) ((r++[z]).map .int)).all (qP W))=_
    rw [uD W r y z];rfl
theorem AL{ns ms:List Int}{d:PyData}(h:d∈iK (ns.map .int) (ms.map .int)):∃a b:Int,d=.tuple [.int a,.int b]:=by
  obtain⟨i,hi⟩:=List.getElem?_of_mem h
  obtain⟨x,y,h1,h2,rfl⟩:=m6 hi
  rw [List.getElem?_map] at h1 h2
  obtain⟨a,_,rfl⟩:=Option.map_eq_some_iff.mp h1
  obtain⟨b,_,rfl⟩:=Option.map_eq_some_iff.mp h2
  exact⟨a,b,rfl⟩
def E_(W:bj):List Int→Bool
  | x::y::r=>pth (gu W) x (y::r) x
  | _=>false
def G3(W:bj)(ds:List PyData):Bool:=match mI ds with
  | some ns=>E_ W ns
  | none=>false
def sE(W:bj):PyData→Bool
  | .tuple ds=>decide (3≤ds.length)&&(!decide (ds.length % 2=0)&&(yC W.things (.tuple ds)&&G3 W ds))
  | _=>false
theorem Bv{W:bj}{ds:List PyData}(h:ds.length < 3):sE W (.tuple ds)=false:=by
  simp only [sE,show decide (3≤ds.length)=false by simpa using h,Bool.false_and]
theorem Bu{W:bj}{ds:List PyData}(h:ds.length % 2=0):sE W (.tuple ds)=false:=by
  simp only [sE,show decide (ds.length % 2=0)=true by simpa using h,Bool.not_true,Bool.false_and,Bool.and_false]
theorem Bw{W:bj}{d:PyData}(h:yC W.things d=false):sE W d=false:=by
  cases d with
  | tuple ds=>simp only [sE,h,Bool.false_and,Bool.and_false]
  | _=>rfl
theorem sT{W:bj}{ns:List Int}(h:(ns.map PyData.int).all (cn 0 (W.things - 1))=true):yC W.things (.tuple (ns.map .int))=decide ns.Nodup:=by
  show iJ W.things [] (ns.map .int)=_
  rw [p5,←kM,h,Bool.true_and]
  simp
theorem sG{W:bj}{ns:List Int}(h1:3≤ns.length)(h2:¬ns.length % 2=0)(h3:(ns.map PyData.int).all (cn 0 (W.things - 1))=true)(h4:ns.Nodup):sE W (.tuple (ns.map .int))=E_ W ns:=by
  simp only [sE,sT h3,G3,g_,List.length_map,decide_eq_true h1,decide_eq_true h4,decide_eq_false h2,Bool.true_and,Bool.not_false]
theorem Ao{W:bj}{x:PyData}{YR YX:List PyData}(gc:∀e:En,bi e (.d (.tuple YR)) (.d (.tuple [x]))=some (.d (.tuple YX))):dP [some (.d (aQ W)),some (.d (.tuple (x::YR)))]=some (iK (x::YR) YX,[],[some (.d (aQ W)),some (.d (.tuple (x::YR)))]):=by
  have ct:=BQ (x:=x) (r:=YR)
  have ch:=BP (x:=x) (r:=YR)
  simp? [dP,tY,yn,ct,ch,gc]
theorem yu{W:bj}(ok:W.Ok)(d:PyData)(hs:∀ds,d=.tuple ds→ds.length≤1000):bD [.d (aQ W),.d d]=some (.d (.bool (sE W d)),[.d (aQ W),.d d]):=by
  have tu:=yw (many:=W.things) hs
  have g0:=Ef (W:=W)
  cases c:yC W.things d with
  | false=>
    rw [Bw c]
    rw [c] at tu
    simp? [bD,dH,g0,tu]
  | true=>
    rw [c] at tu
    cases d with
    | tuple ds=>
      have hs:=hs ds rfl
      have c2:ds.all (cn 0 (W.things - 1))=true:=kL (show iJ W.things [] ds=true from c)
      have gm:∀e:En,aI e (.d (.int (ds.length:Int))) (.d (.int 2))=some (.d (.int ((ds.length:Int) % 2))):=fun e=>aw (by decide)
      by_cases l3:ds.length < 3
      · rw [Bv l3]
        have l3':(ds.length:Int) < 3:=by lia
        simp? [bD,dH,g0,tu,l3']
      · have l3':¬(ds.length:Int) < 3:=by lia
        by_cases l2:ds.length % 2=0
        · rw [Bu l2]
          have l2':(ds.length:Int) % 2=0:=by lia
          rw [l2'] at gm
          simp? [bD,dH,g0,tu,l3',gm]
        · have l2':(ds.length:Int) % 2=1:=by lia
          rw [l2'] at gm
          obtain⟨ns,rfl,hn⟩:=dW c2
          rw [List.length_map] at hs l3 l2
          have nd:ns.Nodup:=by rw [sT c2] at c;simpa using c
          rw [sG (by lia) l2 c2 nd]
          obtain⟨x,y,r,rfl⟩:∃x y r,ns=x::y::r:=by
            rcases ns with _ | ⟨x,_ | ⟨y,r⟩⟩
            · exact absurd (show _ < 3 by simp) l3
            · exact absurd (show _ < 3 by simp) l3
            · exact⟨x,y,r,rfl⟩
          have gc:∀e:En,bi e (.d (.tuple ((y::r).map .int))) (.d (.tuple [.int x]))=some (.d (.tuple ((y::r++[x]).map .int))):=fun e=>by rw [List.map_append];exact ij (by simp at hs;simp;lia)
          have zp:=uD W (y::r) x x
          have zl:=L2.zipD_len ((x::y::r).map .int) ((y::r++[x]).map .int)
          have zm:=fun d=>AL (ns:=x::y::r) (ms:=y::r++[x]) (d:=d)
          have hi:=Ao (W:=W) (x:=.int x) gc
          rw [←List.map_cons] at hi
          rw [show E_ W (x::y::r)=pth (gu W) x (y::r) x from rfl,←zp]
          generalize hZ:iK ((x::y::r).map PyData.int) ((y::r++[x]).map .int)=Z at*
          obtain⟨t2,ht2,hf2⟩:=fN (cs:=[some (.d (aQ W))]) (g:=c9 (ap (ag 1) (ap (ag 2) cK))) (ft:=br) (fe:=cJ) (b:=fun _=>true) (y:=fun x=>.bool (qP W x)) (u:=fun x=>match x with | .tuple [a,b]=>[some (.d a),some (.d b)] | _=>[]) 2 Z [none,none] [] rfl (fun x hx t ht=>by
            obtain⟨a,b,rfl⟩:=zm x hx
            rcases t with _ | ⟨a1,_ | ⟨a2,_ | ⟨a3,r⟩⟩⟩
            · simp at ht
            · simp at ht
            · rfl
            · simp at ht) (fun x hx=>by
            obtain⟨a,b,rfl⟩:=zm x hx
            rfl) (fun x _=>rfl) (fun x hx _=>by
            obtain⟨a,b,rfl⟩:=zm x hx
            have tt:=Ds ok a b
            show cJ [some (.d (aQ W)),some (.d (.int a)),some (.d (.int b))]=some (.d (.bool (gu W a b)),[some (.d (aQ W)),some (.d (.int a)),some (.d (.int b))])
            simp? [cJ,tt]) (by simp at zl hs ⊢;lia)
          have hv:=cO (cp:=[(0,"web")]) (nT:=2) (fi:=dP) (g:=c9 (ap (ag 1) (ap (ag 2) cK))) (ft:=br) (fe:=cJ) (cs:=[some (.d (aQ W))]) (t:=[none,none]) (t':=t2) hi rfl rfl hf2
          rw [List.nil_append,fD] at hv
          have ga:=fun e=>jY (e:=e) (qP W) Z
          generalize Z.all (qP W)=bb at*
          generalize (Z.map fun x=>PyData.bool (qP W x))=M at*
          generalize (x::y::r).map PyData.int=NN at*
          simp? [bD,dH,g0,tu,l3',gm,hv,ga]
    | _=>cases c
theorem vB{t:gL}{x:Int}(h:t.one < t.other)(a:Option Sv)(acc:List PyData)(hl:acc.length+2≤1000000)(hx:t.one=x∨t.other=x):∃a',cH (ag 2) be bI [.int t.one,.int t.other] [some (.d (.int x)),some (.d (au t)),a] acc=some (acc++(rO x t).map .int,[some (.d (.int x)),some (.d (au t)),a']):=by
  have tst:∀k:Int,be [some (.d (.int x)),some (.d (au t)),some (.d (.int k))]=some (!(k==x),[some (.d (.int x)),some (.d (au t)),some (.d (.int k))]):=fun k=>by
    have g:∀e:En,cE true e (.d (.int k)) (.d (.int x))=some (.d (.bool (!(k==x)))):=fun e=>by rw [pq];rfl
    generalize au t=T at*
    generalize (k==x)=bb at*
    simp? [be,g]
  have el:∀k:Int,bI [some (.d (.int x)),some (.d (au t)),some (.d (.int k))]=some (.d (.int k),[some (.d (.int x)),some (.d (au t)),some (.d (.int k))]):=fun k=>rfl
  have g1:∀(b:Option Sv) (k:Int),ag 2 (.int k) [some (.d (.int x)),some (.d (au t)),b]=some [some (.d (.int x)),some (.d (au t)),some (.d (.int k))]:=fun b k=>rfl
  have l1:acc.length < 1000000:=by lia
  rcases hx with rfl | rfl
  · have e1:(t.one==t.one)=true:=by simp
    have e2:(t.other==t.one)=false:=by rw [beq_eq_false_iff_ne];lia
    refine⟨some (.d (.int t.other)),?_⟩
    have em:rO t.one t=[t.other]:=by
      unfold rO
      have:¬t.one=t.other:=by lia
      simp [this]
    rw [em]
    simp only [cH,g1,tst,el,e1,e2,Option.bind_some,Bool.not_true,Bool.not_false,Bool.false_eq_true,if_false,if_true,pe,l1]
    rfl
  · have e1:(t.other==t.other)=true:=by simp
    have e2:(t.one==t.other)=false:=by rw [beq_eq_false_iff_ne];lia
    refine⟨some (.d (.int t.other)),?_⟩
    have em:rO t.other t=[t.one]:=by
      unfold rO
      have:¬t.other=t.one:=by lia
      simp [this]
    rw [em]
    simp only [cH,g1,tst,el,e1,e2,Option.bind_some,Bool.not_true,Bool.not_false,Bool.false_eq_true,if_false,if_true,pe,l1]
    rfl
theorem ls{x:Int}:∀(ts:List gL) (a b:Option Sv) (acc:List PyData),(∀t∈ts,t.one < t.other)→acc.length+2*ts.length≤1000000→∃a' b',gN (ag 1) bH bZ (ag 2) be bI (ts.map au) [some (.d (.int x)),a,b] acc=some (acc++(ts.flatMap (rO x)).map .int,[some (.d (.int x)),a',b'])
  | [],a,b,acc,_,_=>⟨a,b,by simp [gN]⟩
  | t::r,a,b,acc,ho,hl=>by
    simp only [List.length_cons] at hl
    have lt:=ho t (by simp)
    have hg:ag 1 (au t) [some (.d (.int x)),a,b]=some [some (.d (.int x)),some (.d (au t)),b]:=rfl
    have hc:bH [some (.d (.int x)),some (.d (au t)),b]=some (t.one==x || t.other==x,[some (.d (.int x)),some (.d (au t)),b]):=by
      have gi:∀e:En,tR false e (.d (.int x)) (.d (.tuple [.int t.one,.int t.other]))=some (.d (.bool (t.one==x || t.other==x))):=fun e=>by rw [l8];rfl
      generalize (t.one==x || t.other==x)=bb at*
      have cu:L2.cutD [PyData.int t.one,.int t.other,.tuple [.int t.top,.int t.bot],.int t.worth] none (some 2)=[.int t.one,.int t.other]:=rfl
      unfold au
      simp? [bH,cu,gi]
    have hi:bZ [some (.d (.int x)),some (.d (au t)),b]=some ([.int t.one,.int t.other],[],[some (.d (.int x)),some (.d (au t)),b]):=by
      refine kY ?_
      have cu:L2.cutD [PyData.int t.one,.int t.other,.tuple [.int t.top,.int t.bot],.int t.worth] none (some 2)=[.int t.one,.int t.other]:=rfl
      unfold au
      simp? [cu]
    rw [List.map_cons,List.flatMap_cons,List.map_append]
    cases c:(t.one==x || t.other==x) with
    | true=>
      rw [c] at hc
      have hx:t.one=x∨t.other=x:=by simpa using c
      obtain⟨b1,h1⟩:=vB lt b acc (by lia) hx
      have ml:=ud x t
      obtain⟨a2,b2,h2⟩:=ls r (some (.d (au t))) b1 (acc++(rO x t).map .int) (fun y hy=>ho y (by simp [hy])) (by rw [List.length_append,List.length_map];lia)
      refine⟨a2,b2,?_⟩
      simp only [gN,hg,hc,hi,h1,Option.bind_some,if_true]
      rw [h2,List.append_assoc]
    | false=>
      rw [c] at hc
      have em:rO x t=[]:=by
        have:t.one≠x∧t.other≠x:=by simpa using c
        unfold rO
        simp [Ne.symm this.1,Ne.symm this.2]
      obtain⟨a2,b2,h2⟩:=ls r (some (.d (au t))) b acc (fun y hy=>ho y (by simp [hy])) (by lia)
      refine⟨a2,b2,?_⟩
      simp only [gN,hg,hc,Option.bind_some,Bool.false_eq_true,if_false]
      rw [h2,em]
      rfl
theorem yv{W:bj}(ok:W.Ok)(x:Int):bU [.d (aQ W),.d (.int x)]=some (.l ((mt W x).map .int),[.d (aQ W),.d (.int x)]):=by
  have wl:=ok.len
  have g1':=FW (W:=W)
  obtain⟨a,b,hf⟩:=ls (x:=x) W.ties none none [] (fun t ht=>(ok.ties t ht).o1) (by simp;lia)
  rw [List.nil_append] at hf
  have hi:dt [some (.d (aQ W)),some (.d (.int x))]=some (W.ties.map au,[],[some (.d (aQ W)),some (.d (.int x))]):=kY (by
    generalize W.ties.map au=TT at*
    generalize aQ W=WW at*
    simp? [g1'])
  have hv:=vI (cp:=[(1,"thing")]) (nT:=2) (fi:=dt) (g:=ag 1) (ft:=bH) (fi2:=bZ) (g2:=ag 2) (ft2:=be) (fe:=bI) (cs:=[some (.d (.int x))]) (t:=[none,none]) (t':=[a,b]) hi rfl rfl hf
  rw [show(W.ties.flatMap (rO x))=mt W x from rfl] at hv
  generalize (mt W x).map PyData.int=MM at*
  generalize aQ W=WW at*
  simp? [bU,gY,hv]
abbrev jK(W:bj)(kvs:List (PyData × PyData))(v2:Option Sv)(E:List PyData)(v4 v5:Option Sv):En:=[some (.d (aQ W)),some (.d (.dict kvs)),v2,some (.l E),v4,v5]
theorem vK{W:bj}(ok:W.Ok){x:Int}{v1 v2 v3 v5:Option Sv}(h3:∃E,v3=some (.l E)):cD [(4,"thing")] 1 bK (ag 1) br bv [some (.d (aQ W)),v1,v2,v3,some (.d (.int x)),v5]=some (.l ((mt W x).map fun p=>.tuple [.int p,.int x]),[some (.d (aQ W)),v1,v2,v3,some (.d (.int x)),v5]):=by
  have ml:=si ok x
  have tt:=yv ok x
  obtain⟨t',hf⟩:=cQ (cs:=[some (.d (.int x))]) (ft:=br) (fe:=bv) (b:=fun _=>true) (y:=fun y=>.tuple [y,.int x]) ((mt W x).map .int) none [] (fun _ _=>rfl) (fun y hy _=>by
    show bv [some (.d (.int x)),some (.d y)]=some (.d (.tuple [y,.int x]),[some (.d (.int x)),some (.d y)])
    simp? [bv]) (by simp;lia)
  have eo:[]++(((mt W x).map PyData.int).filter fun _=>true).map (fun y=>PyData.tuple [y,.int x])=(mt W x).map fun p=>.tuple [.int p,.int x]:=by
    rw [List.nil_append,List.filter_eq_self.mpr (fun _ _=>rfl),List.map_map]
    rfl
  rw [eo] at hf
  obtain⟨E,rfl⟩:=h3
  have hi:bK [some (.d (aQ W)),v1,v2,some (.l E),some (.d (.int x)),v5]=some ((mt W x).map .int,[],[some (.d (aQ W)),v1,v2,some (.l E),some (.d (.int x)),v5]):=by
    generalize (mt W x).map PyData.int=MM at*
    generalize aQ W=WW at*
    simp? [bK,fq,yn,tt]
  exact cO (cp:=[(4,"thing")]) (nT:=1) (fi:=bK) (g:=ag 1) (ft:=br) (fe:=bv) (cs:=[some (.d (.int x))]) (t:=[none]) (t':=[t']) hi rfl rfl hf
theorem vL{W:bj}(ok:W.Ok){kvs:List (PyData × PyData)}{v2 v4 v5:Option Sv}{E:List PyData}{x:Int}{a:lZ}(hk:kvs.length < 1000)(hE:E.length≤1000):cg (jK W kvs v2 (E++[.tuple [.int x,a.toD]]) v4 v5)=some (.nx (if kvs.any (r8 x)=true then jK W kvs v2 E (some (.d (.int x))) (some (.d a.toD)) else jK W (kvs++[(.int x,a.toD)]) v2 (E++(mt W x).map fun p=>.tuple [.int p,.int x]) (some (.d (.int x))) (some (.d a.toD)))):=by
  have ml:=si ok x
  have hc:=vK ok (x:=x) (v1:=none) (v2:=v2) (v3:=some (.l E)) (v5:=some (.d a.toD)) ⟨E,rfl⟩
  have h1:i8 1 (qY (cw se (ae 3) ai) (c9 (ap (ag 4) (ap (ag 5) cK)))) (jK W kvs v2 (E++[.tuple [.int x,a.toD]]) v4 v5)=some (.nx (jK W kvs v2 E (some (.d (.int x))) (some (.d a.toD)))):=by
    unfold jK
    generalize a.toD=ad at*
    generalize aQ W=WW at*
    have hp:(E++[PyData.tuple [.int x,ad]])[E.length]?=some (.tuple [.int x,ad]):=by rw [List.getElem?_append_right (Nat.le_refl _),Nat.sub_self];rfl
    simp? [i8,hp,List.append_nil]
  have ha:yT 5 (jK W kvs v2 E (some (.d (.int x))) (some (.d a.toD)))=some a:=by cases a<;>rfl
  have h2:pX 1 4 (jK W kvs v2 E (some (.d (.int x))) (some (.d a.toD)))=some (!(kvs.any (r8 x)),jK W kvs v2 E (some (.d (.int x))) (some (.d a.toD))):=rfl
  unfold cg aA
  rw [h1,Option.bind_some]
  dsimp only
  unfold jt
  rw [h2,Option.bind_some]
  cases c:kvs.any (r8 x) with
  | true=>rfl
  | false=>
    have h3:li 1 4 5 (jK W kvs v2 E (some (.d (.int x))) (some (.d a.toD)))=some (.nx (jK W (kvs++[(.int x,a.toD)]) v2 E (some (.d (.int x))) (some (.d a.toD)))):=by
      unfold li
      rw [show(jK W kvs v2 E (some (.d (.int x))) (some (.d a.toD)))[1]?=some (some (.d (.dict kvs))) from rfl]
      dsimp only
      rw [show xg 4 (jK W kvs v2 E (some (.d (.int x))) (some (.d a.toD)))=some x from rfl,ha,Option.bind_some,Option.bind_some,if_pos ⟨by lia,c⟩]
      rfl
    have h4:i8 1 (eT (yD (ae 3) (cD [(4,"thing")] 1 bK (ag 1) br bv))) (jK W (kvs++[(.int x,a.toD)]) v2 E (some (.d (.int x))) (some (.d a.toD)))=some (.nx (jK W (kvs++[(.int x,a.toD)]) v2 (E++(mt W x).map fun p=>.tuple [.int p,.int x]) (some (.d (.int x))) (some (.d a.toD)))):=by
      have l:E.length+((mt W x).map fun p=>PyData.tuple [.int p,.int x]).length≤1000000:=by rw [List.length_map];lia
      unfold jK
      generalize ((mt W x).map fun p=>PyData.tuple [.int p,.int x])=MM at*
      generalize a.toD=ad at*
      generalize aQ W=WW at*
      simp? [i8,yD,pW,hc,l]
    show(li 1 4 5 (jK W kvs v2 E (some (.d (.int x))) (some (.d a.toD)))).bind _=_
    rw [h3,Option.bind_some]
    exact h4
def oA:Option Int→lZ
  | none=>.vn
  | some p=>.vi p
def kD(p:Int × Option Int):PyData × PyData:=(.int p.1,(oA p.2).toD)
def eD(p:Int × Option Int):PyData:=.tuple [.int p.1,(oA p.2).toD]
theorem qE(x:Int):∀(m:List (Int × Option Int)),(m.map kD).any (r8 x)=(m.map (·.1)).contains x
  | []=>rfl
  | p::r=>by
    rw [List.map_cons,List.any_cons,List.map_cons,List.contains_cons,qE x r]
    congr 1
    show(p.1==x)=(x==p.1)
    rw [Bool.eq_iff_iff,beq_iff_eq,beq_iff_eq]
    exact eq_comm
structure Wk (W:bj) (m E:List (Int × Option Int)):Prop where
  nd:(m.map (·.1)).Nodup
  inr:∀p∈m,0≤p.1∧p.1 < W.things
  up:∀(i:Nat) (x p:Int),m[i]?=some (x,some p)→x∈mt W p∧∃(j:Nat) (o:Option Int),j < i∧m[j]?=some (p,o)
  cl:∀p∈m,∀y∈mt W p.1,y∈m.map (·.1)∨(y,some p.1)∈E
  ein:∀p∈E,0≤p.1∧p.1 < W.things
  eup:∀(y p:Int),(y,some p)∈E→y∈mt W p∧p∈m.map (·.1)
theorem Wk.skip{W:bj}{m E:List (Int × Option Int)}{q:Int × Option Int}(h:Wk W m (E++[q]))(hq:q.1∈m.map (·.1)):Wk W m E:=⟨h.nd,h.inr,h.up,fun p hp y hy=>by
    rcases h.cl p hp y hy with z | z
    · exact .inl z
    · rcases List.mem_append.mp z with z | z
      · exact .inr z
      · simp at z
        rw [←z] at hq
        exact .inl hq,fun p hp=>h.ein p (List.mem_append.mpr (.inl hp)),fun y p hp=>h.eup y p (List.mem_append.mpr (.inl hp))⟩
theorem Wk.put{W:bj}(ok:W.Ok){m E:List (Int × Option Int)}{q:Int × Option Int}(h:Wk W m (E++[q]))(hq:q.1∉m.map (·.1)):Wk W (m++[q]) (E++(mt W q.1).map fun y=>(y,some q.1)):=by
  have kk:(m++[q]).map (·.1)=m.map (·.1)++[q.1]:=by rw [List.map_append];rfl
  refine⟨?_,fun p hp=>?_,fun i x p hi=>?_,fun p hp y hy=>?_,fun p hp=>?_,fun y p hp=>?_⟩
  · rw [kk,List.nodup_append]
    exact⟨h.nd,by simp,fun a ha b hb e=>by simp at hb;subst hb;subst e;exact hq ha⟩
  · rcases List.mem_append.mp hp with hp | hp
    · exact h.inr p hp
    · simp at hp;subst hp;exact h.ein _ (by simp)
  · rw [List.getElem?_append] at hi
    by_cases hl:i < m.length
    · rw [if_pos hl] at hi
      obtain⟨a,j,o,hj,b⟩:=h.up i x p hi
      exact⟨a,j,o,hj,by rw [List.getElem?_append_left (by lia)];exact b⟩
    · rw [if_neg hl] at hi
      have h0:i - m.length=0:=by
        have:=(List.getElem?_eq_some_iff.mp hi).1
        simp at this;lia
      rw [h0] at hi
      simp at hi
      subst hi
      obtain⟨a,b⟩:=h.eup x p (by simp)
      obtain⟨⟨p',o⟩,hb,e⟩:=List.mem_map.mp b
      dsimp only at e
      subst e
      obtain⟨j,hj⟩:=List.getElem?_of_mem hb
      have hj2:=(List.getElem?_eq_some_iff.mp hj).1
      exact⟨a,j,o,by lia,by rw [List.getElem?_append_left hj2];exact hj⟩
  · rw [kk]
    rcases List.mem_append.mp hp with hp | hp
    · rcases h.cl p hp y hy with z | z
      · exact .inl (List.mem_append.mpr (.inl z))
      · rcases List.mem_append.mp z with z | z
        · exact .inr (List.mem_append.mpr (.inl z))
        · simp at z
          exact .inl (List.mem_append.mpr (.inr (by rw [←z];simp)))
    · simp at hp;subst hp
      exact .inr (List.mem_append.mpr (.inr (List.mem_map.mpr ⟨y,hy,rfl⟩)))
  · rcases List.mem_append.mp hp with hp | hp
    · exact h.ein p (List.mem_append.mpr (.inl hp))
    · obtain⟨y,hy,rfl⟩:=List.mem_map.mp hp
      exact Ck ok hy
  · rw [kk]
    rcases List.mem_append.mp hp with hp | hp
    · obtain⟨a,b⟩:=h.eup y p (List.mem_append.mpr (.inl hp))
      exact⟨a,List.mem_append.mpr (.inl b)⟩
    · obtain⟨y',hy,e⟩:=List.mem_map.mp hp
      cases e
      exact⟨hy,List.mem_append.mpr (.inr (by simp))⟩
def y4(e:En):Nat:=match (e[(1:Nat)]?:Option (Option Sv)) with
  | some (some (.d (.dict kvs)))=>kvs.length
  | _=>0
def y6(e:En):Nat:=match (e[(3:Nat)]?:Option (Option Sv)) with
  | some (some (.l xs))=>xs.length
  | _=>0
theorem Wk.len{W:bj}(ok:W.Ok){m E:List (Int × Option Int)}(h:Wk W m E):m.length≤12:=by
  have t0:=ok.t0;have t1:=ok.t1
  have:=kd W.things.toNat (m.map (·.1)) h.nd (fun k hk=>by
    obtain⟨p,hp,rfl⟩:=List.mem_map.mp hk
    have:=h.inr p hp
    lia)
  rw [List.length_map] at this
  lia
theorem lC{W:bj}{kvs:List (PyData × PyData)}{v2 v4 v5:Option Sv}{E:List PyData}:cj (jK W kvs v2 E v4 v5)=some (!E.isEmpty,jK W kvs v2 E v4 v5):=by
  have e1:decide (0 < (E.length:Int))= !E.isEmpty:=by cases E<;>simp
  unfold jK
  rw [←e1]
  generalize aQ W=WW at*
  simp? [cj,ut]
theorem yE{W:bj}(ok:W.Ok){v2 v4 v5:Option Sv}{m E:List (Int × Option Int)}(h:Wk W m E)(hE:E.length≤1+32*m.length)(J:List (Int × Option Int)→List (Int × Option Int)→Prop)(jS:∀m E q,J m (E++[q])→J m E)(jP:∀m E q,J m (E++[q])→q.1∉m.map (·.1)→J (m++[q]) (E++(mt W q.1).map fun y=>(y,some q.1)))(j0:J m E):∃m' w4 w5,eP (2 ^ 4200) cj cg (jK W (m.map kD) v2 (E.map eD) v4 v5)=some (.nx (jK W (m'.map kD) v2 [] w4 w5))∧Wk W m' []∧J m' []∧(∀x∈m.map (·.1),x∈m'.map (·.1))∧∀p∈E,p.1∈m'.map (·.1):=by
  obtain⟨e0,e',hw,⟨m1,E1,v4',v5',rfl,hW1,hJ1,hE1,sub1,sub2⟩,hf⟩:=gv (ft:=cj) (f:=cg)
    (fun e=>∃m1 E1 v4 v5,e=jK W (m1.map kD) v2 (E1.map eD) v4 v5∧Wk W m1 E1∧J m1 E1∧E1.length≤1+32*m1.length∧(∀x∈m.map (·.1),x∈m1.map (·.1))∧∀p∈E,p.1∈m1.map (·.1)∨p∈E1)
    (fun e=>40*(13 - y4 e)+y6 e) (fun e ⟨m1,E1,v4,v5,he,hW1,hJ1,hE1,sub1,sub2⟩=>by
      subst he
      have ml:=hW1.len ok
      rcases List.eq_nil_or_concat E1 with rfl | ⟨E2,q,rfl⟩
      · exact .inl ⟨_,lC,trivial⟩
      · rw [List.concat_eq_append] at*
        rw [List.length_append,List.length_singleton] at hE1
        have tst:=lC (W:=W) (kvs:=m1.map kD) (v2:=v2) (v4:=v4) (v5:=v5) (E:=(E2++[q]).map eD)
        have ne:(!((E2++[q]).map eD).isEmpty)=true:=by simp
        rw [ne] at tst
        have tn:=vL ok (kvs:=m1.map kD) (v2:=v2) (v4:=v4) (v5:=v5) (E:=E2.map eD) (x:=q.1) (a:=oA q.2) (by rw [List.length_map];lia) (by rw [List.length_map];lia)
        have em:(E2++[q]).map eD=E2.map eD++[.tuple [.int q.1,(oA q.2).toD]]:=by rw [List.map_append];rfl
        rw [←em,qE] at tn
        cases c:(m1.map (·.1)).contains q.1 with
        | true=>
          rw [c,if_pos rfl] at tn
          have hq:q.1∈m1.map (·.1):=List.contains_iff_mem.mp c
          refine .inr ⟨_,_,tst,tn,⟨m1,E2,_,_,rfl,hW1.skip hq,jS _ _ _ hJ1,by lia,sub1,fun p hp=>?_⟩,?_⟩
          · rcases sub2 p hp with z | z
            · exact .inl z
            · rcases List.mem_append.mp z with z | z
              · exact .inr z
              · simp at z;subst z;exact .inl hq
          · simp [y4,y6,jK]
        | false=>
          rw [c,if_neg (by simp)] at tn
          have hq:q.1∉m1.map (·.1):=fun z=>by rw [List.contains_iff_mem.mpr z] at c;cases c
          have mq:=si ok q.1
          have hp2:=hW1.put ok hq
          have ml2:=hp2.len ok
          rw [List.length_append,List.length_singleton] at ml2
          have ek:m1.map kD++[(.int q.1,(oA q.2).toD)]=(m1++[q]).map kD:=by rw [List.map_append];rfl
          have ee:E2.map eD++((mt W q.1).map fun p=>.tuple [.int p,.int q.1])=(E2++(mt W q.1).map fun y=>(y,some q.1)).map eD:=by
            rw [List.map_append,List.map_map]
            rfl
          rw [ek,ee] at tn
          refine .inr ⟨_,_,tst,tn,⟨m1++[q],_,_,_,rfl,hp2,jP _ _ _ hJ1 hq,by simp only [List.length_append,List.length_map,List.length_singleton];lia,fun x hx=>?_,fun p hp=>?_⟩,?_⟩
          · rw [List.map_append];exact List.mem_append.mpr (.inl (sub1 x hx))
          · rw [List.map_append]
            rcases sub2 p hp with z | z
            · exact .inl (List.mem_append.mpr (.inl z))
            · rcases List.mem_append.mp z with z | z
              · exact .inr (List.mem_append.mpr (.inl z))
              · simp at z;subst z;exact .inl (List.mem_append.mpr (.inr (by simp)))
          · simp [y4,y6,jK]
            lia) (2 ^ 4200) (jK W (m.map kD) v2 (E.map eD) v4 v5) ⟨m,E,v4,v5,rfl,h,j0,hE,fun x hx=>hx,fun p hp=>.inr hp⟩
    (j' (m:=20) (by have:=h.len ok;simp [y4,y6,jK];lia) (by decide))
  rw [lC] at hf
  have hE0:E1=[]:=by
    cases E1 with
    | nil=>rfl
    | cons a r=>simp at hf
  subst hE0
  simp at hf
  subst hf
  exact⟨m1,v4',v5',hw,hW1,hJ1,sub1,fun p hp=>(sub2 p hp).resolve_right (by simp)⟩
theorem Wk.one{W:bj}{m:List (Int × Option Int)}(h:Wk W m []){s:Int}(h0:0≤s)(h1:s < W.things):Wk W m [(s,none)]:=⟨h.nd,h.inr,h.up,fun p hp y hy=>(h.cl p hp y hy).elim .inl (fun z=>(by cases z)),fun p hp=>(by simp at hp;subst hp;exact⟨h0,h1⟩),fun y p hp=>(by simp at hp)⟩
structure Ws (m0:List (Int × Option Int)) (s:Int) (m E:List (Int × Option Int)):Prop where
  spl:∃m1,m=m0++m1∧(∀x,(x,none)∈m1→x=s)∧(∀x p,(x,some p)∈m1→p∈m1.map (·.1))∧(∀x p,(x,some p)∈E→p∈m1.map (·.1))
  non:∀x,(x,none)∈E→x=s
theorem Ws.skip{m0:List (Int × Option Int)}{s:Int}{m E:List (Int × Option Int)}{q:Int × Option Int}(h:Ws m0 s m (E++[q])):Ws m0 s m E:=by
  obtain⟨⟨m1,a,b,c,d⟩,e⟩:=h
  exact⟨⟨m1,a,b,c,fun x p hx=>d x p (List.mem_append.mpr (.inl hx))⟩,fun x hx=>e x (List.mem_append.mpr (.inl hx))⟩
theorem Ws.put{W:bj}{m0:List (Int × Option Int)}{s:Int}{m E:List (Int × Option Int)}{q:Int × Option Int}(h:Ws m0 s m (E++[q])):Ws m0 s (m++[q]) (E++(mt W q.1).map fun y=>(y,some q.1)):=by
  obtain⟨⟨m1,a,b,c,d⟩,e⟩:=h
  have kk:(m1++[q]).map (·.1)=m1.map (·.1)++[q.1]:=by rw [List.map_append];rfl
  refine⟨⟨m1++[q],by rw [a,List.append_assoc],fun x hx=>?_,fun x p hx=>?_,fun x p hx=>?_⟩,fun x hx=>?_⟩
  · rcases List.mem_append.mp hx with z | z
    · exact b x z
    · simp at z;exact e x (by simp [z])
  · rw [kk]
    rcases List.mem_append.mp hx with z | z
    · exact List.mem_append.mpr (.inl (c x p z))
    · simp at z;exact List.mem_append.mpr (.inl (d x p (by simp [z])))
  · rw [kk]
    rcases List.mem_append.mp hx with z | z
    · exact List.mem_append.mpr (.inl (d x p (by simp [z])))
    · obtain⟨y,hy,e⟩:=List.mem_map.mp z
      cases e
      exact List.mem_append.mpr (.inr (by simp))
  · rcases List.mem_append.mp hx with z | z
    · exact e x (by simp [z])
    · obtain⟨y,hy,e⟩:=List.mem_map.mp z
      cases e
theorem Cm{W:bj}{a b:Int}(h:b∈mt W a):a∈mt W b:=by
  obtain⟨t,ht,q⟩:=jF.mp h
  exact jF.mpr ⟨t,ht,by lia⟩
structure Rt (W:bj) (m:List (Int × Option Int)) (r:Int→Int):Prop where
  non:∀x,(x,none)∈m→r x=x
  som:∀x p,(x,some p)∈m→r x=r p
  tie:∀x∈m.map (·.1),∀y∈mt W x,r y=r x
theorem Rt.next{W:bj}{m0 m:List (Int × Option Int)}{r:Int→Int}{s:Int}(h0:Wk W m0 [])(h:Wk W m [])(hr:Rt W m0 r)(hs:Ws m0 s m []):∃r',Rt W m r':=by
  obtain⟨⟨m1,rfl,b,c, -⟩, -⟩:=hs
  have nd:=h.nd
  rw [List.map_append,List.nodup_append] at nd
  obtain⟨n0,n1,n2⟩:=nd
  have cl0:∀x∈m0.map (·.1),∀y∈mt W x,y∈m0.map (·.1):=fun x hx y hy=>by
    obtain⟨p,hp,rfl⟩:=List.mem_map.mp hx
    exact(h0.cl p hp y hy).resolve_right (by simp)
  have i0:∀x o,(x,o)∈m0→x∈m0.map (·.1):=fun x o hx=>List.mem_map.mpr ⟨_,hx,rfl⟩
  have i1:∀x,x∈m1.map (·.1)→x∉m0.map (·.1):=fun x hx hy=>n2 x hy x hx rfl
  have j1:∀x o,(x,o)∈m1→x∈m1.map (·.1):=fun x o hx=>List.mem_map.mpr ⟨_,hx,rfl⟩
  refine⟨fun y=>if y∈m0.map (·.1) then r y else s,fun x hx=>?_,fun x p hx=>?_,fun x hx y hy=>?_⟩
  · rcases List.mem_append.mp hx with z | z
    · simp only [if_pos (i0 _ _ z)];exact hr.non x z
    · simp only [if_neg (i1 _ (j1 _ _ z))];exact(b x z).symm
  · rcases List.mem_append.mp hx with z | z
    · obtain⟨i,hi⟩:=List.getElem?_of_mem z
      obtain⟨_,j,o,_,hj⟩:=h0.up i x p hi
      simp only [if_pos (i0 _ _ z),if_pos (i0 _ _ (List.mem_of_getElem? hj))]
      exact hr.som x p z
    · simp only [if_neg (i1 _ (j1 _ _ z)),if_neg (i1 _ (c x p z))]
  · rw [List.map_append] at hx
    rcases List.mem_append.mp hx with z | z
    · simp only [if_pos z,if_pos (cl0 x z y hy)]
      exact hr.tie x z y hy
    · have ny:y∉m0.map (·.1):=fun q=>i1 x z (cl0 y q x (Cm hy))
      simp only [if_neg (i1 x z),if_neg ny]
theorem yx{W:bj}(ok:W.Ok):∃m,c_ [.d (aQ W)]=some (.d (.dict (m.map kD)),[.d (aQ W)])∧Wk W m []∧(∃r,Rt W m r)∧∀s:Int,0≤s→s < W.things→s∈m.map (·.1):=by
  have t0:=ok.t0;have t1:=ok.t1
  have g0':=Ef (W:=W)
  obtain⟨e2,h1,⟨m,v2,v3,v4,v5,he,hW,⟨r,hR⟩,hall⟩⟩:=bo (own:=[]) (g:=mD 1 (ag 2)) (f:=df) (fun i e=>∃m v2 v3 v4 v5,e=[some (.d (aQ W)),some (.d (.dict (m.map kD))),v2,v3,v4,v5]∧Wk W m []∧(∃r,Rt W m r)∧∀s:Int,0≤s→s < (i:Int)→s∈m.map (·.1)) (aC 0 W.things.toNat) 0 [some (.d (aQ W)),some (.d (.dict [])),none,none,none,none] (fun i x e hx ⟨m,v2,v3,v4,v5,he,hW,⟨r,hR⟩,hall⟩=>by
    subst he
    obtain⟨rfl,hi⟩:=a9 hx
    rw [Int.zero_add]
    have hs:i8 1 (aR 3 (eQ (ab (dc (ab (ae 2) (ab (vC .none) ai))) ai))) [some (.d (aQ W)),some (.d (.dict (m.map kD))),some (.d (.int (i:Int))),v3,v4,v5]=some (.nx (jK W (m.map kD) (some (.d (.int (i:Int)))) [eD ((i:Int),none)] v4 v5)):=by
      unfold jK
      rw [show eD ((i:Int),none)=.tuple [.int (i:Int),.none] from rfl]
      generalize m.map kD=MM at*
      generalize aQ W=WW at*
      simp? [i8]
    obtain⟨m',w4,w5,hw,hW',hJ',s1,s2⟩:=yE ok (v2:=some (.d (.int (i:Int)))) (v4:=v4) (v5:=v5) (hW.one (s:=(i:Int)) (by lia) (by lia)) (by simp) (Ws m (i:Int)) (fun _ _ _=>Ws.skip) (fun _ _ _ h _=>h.put) ⟨⟨[],by simp,fun _ h=>(by cases h),fun _ _ h=>(by cases h),fun x p h=>(by simp at h)⟩,fun x h=>(by simpa using h)⟩
    refine⟨[some (.d (aQ W)),some (.d (.dict (m.map kD))),some (.d (.int (i:Int))),v3,v4,v5],jK W (m'.map kD) (some (.d (.int (i:Int)))) [] w4 w5,rfl,?_,aT,m',_,_,_,_,rfl,hW',hR.next hW hW' hJ',fun s q0 q1=>?_⟩
    · unfold df aA
      rw [hs,Option.bind_some]
      exact hw
    · by_cases c:s=(i:Int)
      · exact s2 ((i:Int),none) (by simp) |> fun z=>by rw [c];exact z
      · exact s1 s (hall s q0 (by lia))) ⟨[],none,none,none,none,rfl,⟨by simp,fun p h=>(by cases h),fun i x p h=>(by simp at h),fun p h=>(by cases h),fun p h=>(by cases h),fun y p h=>(by cases h)⟩,⟨fun x=>x,fun x h=>(by cases h),fun x p h=>(by cases h),fun x h=>(by cases h)⟩,fun s q0 q1=>by lia⟩
  subst he
  rw [aX] at hall
  refine⟨m,?_,hW,⟨r,hR⟩,fun s q0 q1=>hall s q0 (by lia)⟩
  have hi:oh 1 dh [some (.d (aQ W)),some (.d (.dict [])),none,none,none,none]=some (aC 0 W.things.toNat,[],[some (.d (aQ W)),some (.d (.dict [])),none,none,none,none]):=by
    have:=aW (n:=W.things) (fs:=(ab (az io (ae 0) (vC (.int 0))) ai)) (e:=[some (.d (aQ W)),none,none,none,none,none]) (e1:=[some (.d (aQ W)),none,none,none,none,none]) (by
      generalize aQ W=WW at*
      simp? [g0']) (by lia) (by lia)
    unfold oh dh
    rw [show([some (Sv.d (aQ W)),some (Sv.d (.dict [])),none,none,none,none]:En).set 1 none=[some (.d (aQ W)),none,none,none,none,none] from rfl,this]
    rfl
  have hs:∀Wl,cN Wl (oh 1 dh) (mD 1 (ag 2)) df [some (.d (aQ W)),some (.d (.dict [])),none,none,none,none]=some (.nx [some (.d (aQ W)),some (.d (.dict (m.map kD))),v2,v3,v4,v5]):=fun Wl=>by
    rw [bO hi]
    exact h1
  generalize m.map kD=MM at*
  generalize aQ W=WW at*
  simp? [c_,jr,md,hs,uk]
def par(m:List (Int × Option Int))(x:Int):Option Int:=(m.find? fun p=>p.1==x).bind (·.2)
def wy(m:List (Int × Option Int)):Nat→Int→List Int
  | 0,_=>[]
  | n+1,x=>x::match par m x with
    | some p=>wy m n p
    | none=>[]
theorem pK{x:Int}{o:Option Int}:∀(m:List (Int × Option Int)),(m.map (·.1)).Nodup→(x,o)∈m→par m x=o
  | [],_,h=>by cases h
  | q::r,nd,h=>by
    rw [List.map_cons,List.nodup_cons] at nd
    unfold par
    rw [List.find?_cons]
    rcases List.mem_cons.mp h with e | h
    · subst e;simp
    · have:(q.1==x)=false:=by
        rw [beq_eq_false_iff_ne]
        rintro rfl
        exact nd.1 (List.mem_map.mpr ⟨_,h,rfl⟩)
      rw [this]
      exact pK r nd.2 h
theorem jm{m:List (Int × Option Int)}(nd:(m.map (·.1)).Nodup){x:Int}(h:x∈m.map (·.1)):(x,par m x)∈m:=by
  obtain⟨⟨y,o⟩,hp,e⟩:=List.mem_map.mp h
  dsimp only at e
  subst e
  rw [pK m nd hp]
  exact hp
inductive Wy (m:List (Int × Option Int)):Int→List Int→Prop
  | root {x:Int} (hx:x∈m.map (·.1)) (h:par m x=none):Wy m x [x]
  | step {x p:Int} {l:List Int} (hx:x∈m.map (·.1)) (h:par m x=some p) (q:Wy m p l):Wy m x (x::l)
theorem FH{W:bj}{m:List (Int × Option Int)}(h:Wk W m []):∀(n i:Nat) (x:Int) (o:Option Int),i < n→m[i]?=some (x,o)→Wy m x (wy m n x):=by
  intro n
  induction n with
  | zero=>intro i x o hi;lia
  | succ n ih=>
    intro i x o hi hm
    have hm':=List.mem_of_getElem? hm
    have hx:x∈m.map (·.1):=List.mem_map.mpr ⟨_,hm',rfl⟩
    have hp:=pK m h.nd hm'
    unfold wy
    cases o with
    | none=>rw [hp];exact .root hx hp
    | some p=>
      rw [hp]
      obtain⟨_,j,o',hj,hmj⟩:=h.up i x p hm
      exact .step hx hp (ih j p o' (by lia) hmj)
theorem zr{m:List (Int × Option Int)}(nd:(m.map (·.1)).Nodup){i j:Nat}{x:Int}{o o':Option Int}(h1:m[i]?=some (x,o))(h2:m[j]?=some (x,o')):i=j:=by
  have hl:=(List.getElem?_eq_some_iff.mp h1).1
  refine(List.getElem?_inj (by rw [List.length_map];exact hl) nd).mp ?_
  rw [List.getElem?_map,List.getElem?_map,h1,h2]
  rfl
theorem Wy.low{W:bj}{m:List (Int × Option Int)}(h:Wk W m []){x:Int}{l:List Int}(q:Wy m x l):∀(i:Nat) (o:Option Int),m[i]?=some (x,o)→l.Nodup∧∀y∈l,∃(j:Nat) (o:Option Int),j≤i∧m[j]?=some (y,o):=by
  induction q with
  | root hx hp=>exact fun i o hi=>⟨by simp,fun y hy=>by simp at hy;subst hy;exact⟨i,o,Nat.le_refl _,hi⟩⟩
  | step hx hp q ih=>
    rename_i x p l
    intro i o hi
    have e:=pK m h.nd (List.mem_of_getElem? hi)
    rw [hp] at e
    subst e
    obtain⟨_,j,o',hj,hmj⟩:=h.up i x p hi
    obtain⟨n1,n2⟩:=ih j o' hmj
    refine⟨List.nodup_cons.mpr ⟨fun hx=>?_,n1⟩,fun y hy=>?_⟩
    · obtain⟨k,o2,hk,hmk⟩:=n2 x hx
      have:=zr h.nd hi hmk
      lia
    · rcases List.mem_cons.mp hy with rfl | hy
      · exact⟨i,some p,Nat.le_refl _,hi⟩
      · obtain⟨k,o2,hk,hmk⟩:=n2 y hy
        exact⟨k,o2,by lia,hmk⟩
theorem Wy.mem{m:List (Int × Option Int)}{x:Int}{l:List Int}(q:Wy m x l):x∈m.map (·.1):=by cases q<;>assumption
theorem Wy.nd{W:bj}{m:List (Int × Option Int)}(h:Wk W m []){x:Int}{l:List Int}(q:Wy m x l):l.Nodup:=by
  obtain⟨i,hi⟩:=List.getElem?_of_mem (jm h.nd q.mem)
  exact(q.low h i _ hi).1
theorem Wy.inr{W:bj}{m:List (Int × Option Int)}(h:Wk W m []){x:Int}{l:List Int}(q:Wy m x l):∀y∈l,0≤y∧y < W.things:=fun y hy=>by
  obtain⟨i,hi⟩:=List.getElem?_of_mem (jm h.nd q.mem)
  obtain⟨j,o,_,hj⟩:=(q.low h i _ hi).2 y hy
  exact h.inr _ (List.mem_of_getElem? hj)
theorem Wy.det{m:List (Int × Option Int)}{x:Int}{l:List Int}(q:Wy m x l):∀{l':List Int},Wy m x l'→l=l':=by
  induction q with
  | root hx hp=>
    intro l' q'
    cases q' with
    | root _ _=>rfl
    | step _ h _=>rw [hp] at h;cases h
  | step hx hp q ih=>
    intro l' q'
    cases q' with
    | root _ h=>rw [hp] at h;cases h
    | step _ h q2=>
      rw [hp] at h
      cases h
      rw [ih q2]
theorem Wy.suf{m:List (Int × Option Int)}{c:Int}{b:List Int}:∀(a:List Int) {x:Int},Wy m x (a++c::b)→Wy m c (c::b)
  | [],x,q=>by
    have e:x=c:=by cases q<;>rfl
    subst e
    exact q
  | a0::a,x,q=>by
    rw [List.cons_append] at q
    generalize hl:a++c::b=l at q
    cases q with
    | root _ _=>simp at hl
    | step _ _ q2=>subst hl;exact Wy.suf a q2
theorem p4{W:bj}{a b:Int}(h:b∈mt W a):gu W a b=true∧gu W b a=true:=by
  obtain⟨t,ht,q⟩:=jF.mp h
  unfold gu
  constructor<;>rw [List.any_eq_true]<;>refine⟨t,ht,?_⟩<;>simp only [Bool.and_eq_true,Bool.or_eq_true,beq_iff_eq]<;>lia
theorem rq(W:bj)(a b:Int):gu W a b=gu W b a:=by
  unfold gu
  congr 1
  funext t
  exact Bool.and_comm _ _
theorem Wy.hd{m:List (Int × Option Int)}{x c:Int}{l:List Int}(q:Wy m x (c::l)):x=c:=by cases q<;>rfl
theorem Wy.pth{W:bj}{m:List (Int × Option Int)}(h:Wk W m []){c:Int}{b:List Int}:∀(a:List Int) {x:Int},Wy m x (x::(a++c::b))→pth (gu W) x a c=true
  | [],x,q=>by
    rw [List.nil_append] at q
    generalize hl:c::b=l at q
    cases q with
    | root _ _=>cases hl
    | step hx hp q2=>
      subst hl
      have:=q2.hd
      subst this
      obtain⟨i,hi⟩:=List.getElem?_of_mem (jm h.nd hx)
      rw [hp] at hi
      exact(p4 (h.up i _ _ hi).1).2
  | y::a,x,q=>by
    rw [List.cons_append] at q
    generalize hl:y::(a++c::b)=l at q
    cases q with
    | root _ _=>cases hl
    | step hx hp q2=>
      subst hl
      have:=q2.hd
      subst this
      obtain⟨i,hi⟩:=List.getElem?_of_mem (jm h.nd hx)
      rw [hp] at hi
      show(gu W x _&&V66.pth (gu W) _ a c)=true
      rw [(p4 (h.up i _ _ hi).1).2,Wy.pth h a q2]
      rfl
theorem Wy.end {W:bj}{m:List (Int × Option Int)}(h:Wk W m []){r:Int→Int}(hr:Rt W m r){x:Int}{l:List Int}(q:Wy m x l):r x∈l:=by
  induction q with
  | root hx hp=>
    have z:=jm h.nd hx
    rw [hp] at z
    rw [hr.non _ z]
    simp
  | step hx hp q ih=>
    have z:=jm h.nd hx
    rw [hp] at z
    rw [hr.som _ _ z]
    exact List.mem_cons_of_mem _ ih
theorem kg(R:Int→Int→Bool):∀(l:List Int) (x y z:Int) (r:List Int),pth R x (l++y::r) z=(pth R x l y&&pth R y r z)
  | [],x,y,z,r=>rfl
  | w::l,x,y,z,r=>by
    show(R x w&&pth R w (l++y::r) z)=((R x w&&pth R w l y)&&pth R y r z)
    rw [kg R l w y z r,Bool.and_assoc]
theorem pM{R:Int→Int→Bool}(hs:∀a b,R a b=R b a):∀(l:List Int) (x z:Int),pth R x l z=pth R z l.reverse x
  | [],x,z=>hs x z
  | y::l,x,z=>by
    rw [List.reverse_cons,kg,←pM hs l y z,Bool.and_comm]
    show(R x y&&_)=(R y x&&_)
    rw [hs x y]
theorem wq{A B:List Int}{r:Int}(h1:r∈A)(h2:r∈B):∃a1 c a2,A=a1++c::a2∧(∀y∈a1,y∉B)∧c∈B:=by
  induction A with
  | nil=>cases h1
  | cons x A ih=>
    by_cases c:x∈B
    · exact⟨[],x,A,rfl,fun y hy=>(by cases hy),c⟩
    · have h1':r∈A:=by
        rcases List.mem_cons.mp h1 with e | e
        · subst e;exact absurd h2 c
        · exact e
      obtain⟨a1,d,a2,e,f,g⟩:=ih h1'
      exact⟨x::a1,d,a2,by rw [e];rfl,fun y hy=>by
        rcases List.mem_cons.mp hy with e | e
        · subst e;exact c
        · exact f y e,g⟩
theorem An{W:bj}(ok:W.Ok){m:List (Int × Option Int)}(h:Wk W m []){r:Int→Int}(hr:Rt W m r){t:gL}(ht:t∈W.ties){A B:List Int}(hA:Wy m t.one A)(hB:Wy m t.other B)(hp:A.length % 2=B.length % 2):
    ∃a1 c a2 b1 b2,A=a1++c::a2∧(∀y∈a1,y∉B)∧B=b1++c::b2∧c∉b1∧sE W (.tuple ((a1++c::b1.reverse).map .int))=true∧(a1++c::b1.reverse).length≤1000:=by
  have o:=ok.ties t ht
  have mo:t.other∈mt W t.one:=jF.mpr ⟨t,ht,by lia⟩
  have er:r t.other=r t.one:=hr.tie _ hA.mem _ mo
  have rA:=hA.end h hr
  have rB:=hB.end h hr
  rw [er] at rB
  obtain⟨a1,c,a2,eA,dA,cB⟩:=wq rA rB
  obtain⟨b1,b2,eB⟩:=List.append_of_mem cB
  have nA:=hA.nd h
  have nB:=hB.nd h
  have iA:=hA.inr h
  have iB:=hB.inr h
  have es:c::a2=c::b2:=(Wy.suf a1 (eA ▸ hA)).det (Wy.suf b1 (eB ▸ hB))
  have es2:a2=b2:=(List.cons.inj es).2
  subst es2
  have lA:A.length=a1.length+1+a2.length:=by rw [eA];simp;lia
  have lB:B.length=b1.length+1+a2.length:=by rw [eB];simp;lia
  have nB':=nB
  rw [eB,List.nodup_append] at nB'
  have cb:c∉b1:=fun q=>nB'.2.2 c q c (by simp) rfl
  have nA':=nA
  rw [eA,List.nodup_append] at nA'
  have bB:∀y∈b1,y∈B:=fun y hy=>by rw [eB];simp [hy]
  have nR:(a1++c::b1.reverse).Nodup:=by
    rw [List.nodup_append,List.nodup_cons]
    refine⟨nA'.1,⟨by simpa using cb,List.pairwise_reverse.mpr (nB'.1.imp fun h e=>h e.symm)⟩,fun y hy z hz e=>?_⟩
    subst e
    refine dA y hy ?_
    rcases List.mem_cons.mp hz with e | e
    · rw [e];exact cB
    · exact bB y (by simpa using e)
  have iR:∀y∈a1++c::b1.reverse,0≤y∧y < W.things:=fun y hy=>by
    rcases List.mem_append.mp hy with z | z
    · exact iA y (by rw [eA];simp [z])
    · rcases List.mem_cons.mp z with e | e
      · subst e;exact iB _ cB
      · exact iB y (bB y (by simpa using e))
  have lR:(a1++c::b1.reverse).length=a1.length+1+b1.length:=by simp;lia
  have h1:=o.o1
  have tt:gu W t.other t.one=true:=(p4 mo).2
  have rg:a1.length+b1.length≠0→E_ W (a1++c::b1.reverse)=true:=fun hn=>by
    rcases a1 with _ | ⟨u,a1⟩
    · rw [List.nil_append] at eA ⊢
      have eu:t.one=c:=(eA ▸ hA).hd
      rcases b1 with _ | ⟨v,b1⟩
      · exact absurd rfl hn
      · have ev:t.other=v:=(eB ▸ hB).hd
        subst ev eu
        have p:=Wy.pth h b1 (eB ▸ hB)
        rw [pM (rq W)] at p
        have e:pth (gu W) t.one (t.other::b1).reverse t.one=true:=by
          rw [List.reverse_cons,kg,p]
          exact tt
        generalize hq:(t.other::b1).reverse=Q at e ⊢
        rcases Q with _ | ⟨q,Q⟩
        · simp at hq
        · exact e
    · have eu:t.one=u:=(eA ▸ hA).hd
      subst eu
      have p:=Wy.pth h a1 (eA ▸ hA)
      have e:pth (gu W) t.one (a1++c::b1.reverse) t.one=true:=by
        rw [kg,p]
        rcases b1 with _ | ⟨v,b1⟩
        · rw [List.nil_append] at eB
          have ev:t.other=c:=(eB ▸ hB).hd
          subst ev
          exact tt
        · have ev:t.other=v:=(eB ▸ hB).hd
          subst ev
          have p2:=Wy.pth h b1 (eB ▸ hB)
          rw [pM (rq W)] at p2
          rw [List.reverse_cons,kg,p2]
          exact tt
      rw [List.cons_append]
      generalize hq:a1++c::b1.reverse=Q at e ⊢
      rcases Q with _ | ⟨q,Q⟩
      · simp at hq
      · exact e
  have hne:a1.length+b1.length≠0:=fun z=>by
    have z1:a1=[]:=List.length_eq_zero_iff.mp (by lia)
    have z2:b1=[]:=List.length_eq_zero_iff.mp (by lia)
    subst z1 z2
    have e1:t.one=c:=(eA ▸ hA).hd
    have e2:t.other=c:=(eB ▸ hB).hd
    lia
  have t1:=ok.t1
  have l12:=kd W.things.toNat _ nR (fun k hk=>by have:=iR k hk;lia)
  refine⟨a1,c,a2,b1,a2,eA,dA,eB,cb,?_,by lia⟩
  rw [sG (by lia) (by lia) ?_ nR]
  · exact rg hne
  · rw [List.all_map,List.all_eq_true]
    intro y hy
    have:=iR y hy
    show(decide (0≤y)&&decide (y≤W.things - 1))=true
    rw [decide_eq_true (by lia),decide_eq_true (by lia)]
    rfl
theorem oH{W:bj}(ok:W.Ok){d e:PyData}(h1:vq W d=true)(h2:sE W e=true):False:=by
  cases d with
  | tuple ds=>
    simp only [vq,Bool.and_eq_true,beq_iff_eq] at h1
    obtain⟨hl,hin,ht⟩:=h1
    obtain⟨cs,rfl,hc⟩:=dW hin
    cases e with
    | tuple es=>
      have c3:¬es.length < 3:=fun c=>by rw [Bv c] at h2;cases h2
      have c2:¬es.length % 2=0:=fun c=>by rw [Bu c] at h2;cases h2
      have cu:yC W.things (.tuple es)=true:=by
        cases c:yC W.things (.tuple es) with
        | true=>rfl
        | false=>rw [Bw c] at h2;cases h2
      have ci:es.all (cn 0 (W.things - 1))=true:=kL (show iJ W.things [] es=true from cu)
      obtain⟨ns,rfl,hn⟩:=dW ci
      have nd:ns.Nodup:=by rw [sT ci] at cu;simpa using cu
      rw [List.length_map] at c3 c2
      rw [sG (by lia) c2 ci nd] at h2
      have col:∀a b:Int,(mt W a).contains b=true→cU (cs.map .int) b=1 - cU (cs.map .int) a:=fun a b hb=>by
        rw [List.contains_iff_mem] at hb
        obtain⟨t,htt,q⟩:=jF.mp hb
        have z:=List.all_eq_true.mp ht t htt
        simp only [Bool.not_eq_true',beq_eq_false_iff_ne] at z
        have o:=ok.ties t htt
        have:=o.o0;have:=o.o1;have:=o.o2
        have rn:∀i:Int,0≤i→i < W.things→0≤cU (cs.map .int) i∧cU (cs.map .int) i≤1:=fun i i0 i1=>by
          rw [List.length_map] at hl
          have k:i.toNat < cs.length:=by lia
          have e:cU (cs.map .int) i=cs[i.toNat]:=by
            unfold cU
            rw [List.getElem?_map,List.getElem?_eq_getElem k]
            rfl
          rw [e]
          exact hc _ (List.getElem_mem k)
        have r1:=rn t.one (by lia) (by lia)
        have r2:=rn t.other (by lia) (by lia)
        rcases q with ⟨rfl,rfl⟩ | ⟨rfl,rfl⟩<;>lia
      have walk:∀(l:List Int) (x z:Int),pth (fun a b=>(mt W a).contains b) x l z=true→(cU (cs.map .int) z+cU (cs.map .int) x+(l.length:Int)) % 2=1:=by
        intro l
        induction l with
        | nil=>intro x z p;have:=col x z p;simp;lia
        | cons y l ih=>
          intro x z p
          have p':=Bool.and_eq_true_iff.mp (show((mt W x).contains y&&pth (fun a b=>(mt W a).contains b) y l z)=true from p)
          have a1:=col x y p'.1
          have a2:=ih y z p'.2
          rw [List.length_cons]
          lia
      rcases ns with _ | ⟨x,_ | ⟨y,l⟩⟩
      · simp at c3
      · simp at c3
      · rw [show E_ W (x::y::l)=pth (gu W) x (y::l) x from rfl,xS (fun a b h=>AD W a b h) nd] at h2
        have:=walk _ _ _ h2
        simp only [List.length_cons] at this c2
        lia
    | _=>cases h2
  | _=>cases h1
theorem tX{e:En}{x:Int}:∀(m:List (Int × Option Int)),x∈m.map (·.1)→mC e (.d (.dict (m.map kD))) (.d (.int x))=some (.d (oA (par m x)).toD)
  | [],h=>by cases h
  | q::r,h=>by
    by_cases c:q.1=x
    · subst c
      unfold mC par
      simp [kD]
    · have ih:=tX (e:=e) r (by
        rcases List.mem_cons.mp (by rw [List.map_cons] at h;exact h) with z | z
        · exact absurd z.symm c
        · exact z)
      unfold mC par at ih ⊢
      have c':(q.1==x)=false:=by simpa using c
      simp only [List.map_cons,List.find?_cons,kD,c'] at ih ⊢
      exact ih
def vT(e:En):Nat:=match (e[(2:Nat)]?:Option (Option Sv)) with
  | some (some (.l xs))=>xs.length
  | _=>0
abbrev sV(D:PyData)(v:PyData)(acc:List Int):En:=[some (.d D),some (.d v),some (.l (acc.map .int))]
theorem sP{m:List (Int × Option Int)}{x:Int}{L:List Int}(h:Wy m x L)(hl:L.length≤12):fY [.d (.dict (m.map kD)),.d (.int x)]=some (.l (L.map .int),[.d (.dict (m.map kD)),.d (.int x)]):=by
  have tI:∀(D:PyData) (x:Int) (acc:List Int),bX (sV D (.int x) acc)=some (true,sV D (.int x) acc):=fun D x acc=>by
    unfold sV
    generalize acc.map PyData.int=AA
    have gb:∀e:En,fP e (.d (.int x)) (.d .none)=some (.d (.bool true)):=fun e=>rfl
    simp? [bX,gb]
  have tN:∀(D:PyData) (acc:List Int),bX (sV D .none acc)=some (false,sV D .none acc):=fun D acc=>by
    unfold sV
    generalize acc.map PyData.int=AA
    have gb:∀e:En,fP e (.d .none) (.d .none)=some (.d (.bool false)):=fun e=>rfl
    simp? [bX,gb]
  obtain⟨e0,e',hw,hP,hf⟩:=gv (ft:=bX) (f:=dI) (fun e=>∃acc o l,e=sV (.dict (m.map kD)) (oA o).toD acc∧acc++l=L∧((∃y,o=some y∧Wy m y l)∨(o=none∧l=[]))) (fun e=>20 - vT e) (fun e ⟨acc,o,l,he,hl',hc⟩=>by
    subst he
    rcases hc with ⟨y,rfl,hy⟩ | ⟨rfl,rfl⟩
    · have ll:acc.length+l.length=L.length:=by rw [←hl',List.length_append]
      have hg:=fun e=>tX (e:=e) m hy.mem
      have la:acc.length < 1000000:=by lia
      have st:dI (sV (.dict (m.map kD)) (.int y) acc)=some (.nx (sV (.dict (m.map kD)) (oA (par m y)).toD (acc++[y]))):=by
        unfold sV
        rw [List.map_append]
        have la':(acc.map PyData.int).length < 1000000:=by rw [List.length_map];exact la
        generalize acc.map PyData.int=AA at*
        generalize (oA (par m y)).toD=oo at*
        generalize PyData.dict (m.map kD)=DD at*
        simp? [dI,hg,la']
      have lp:1≤l.length:=by cases hy<;>simp
      refine .inr ⟨_,_,tI _ _ _,st,?_,?_⟩
      · cases hy with
        | root hx hp=>exact⟨acc++[y],none,[],by rw [hp],by rw [←hl'];simp,.inr ⟨rfl,rfl⟩⟩
        | step hx hp q=>
          rename_i p l
          exact⟨acc++[y],some p,l,by rw [hp],by rw [←hl'];simp,.inl ⟨p,rfl,q⟩⟩
      · simp [vT,sV]
        lia
    · exact .inl ⟨_,tN _ _,trivial⟩) (2 ^ 4200) (sV (.dict (m.map kD)) (.int x) []) ⟨[],some x,L,rfl,rfl,.inl ⟨x,rfl,h⟩⟩ (j' (m:=20) (by simp [vT,sV]) (by decide))
  obtain⟨acc,o,l,he,hl',hc⟩:=hP
  subst he
  rcases hc with ⟨y,rfl,hy⟩ | ⟨rfl,rfl⟩
  · rw [show(oA (some y)).toD=.int y from rfl,tI] at hf
    simp at hf
  · rw [show(oA none).toD=.none from rfl,tN] at hf
    have h5:=(Prod.mk.inj (Option.some.inj hf)).2
    subst h5
    rw [List.append_nil] at hl'
    subst hl'
    have hs:eP (2 ^ 4200) bX dI [some (.d (.dict (m.map kD))),some (.d (.int x)),some (.l [])]=some (.nx (sV (.dict (m.map kD)) .none acc)):=hw
    unfold sV at hs
    generalize acc.map PyData.int=AA at*
    generalize PyData.dict (m.map kD)=DD at*
    simp? [fY,my,hs]
theorem pC{c:Int}:∀{a:List Int} {b:List Int},c∉a→(a++c::b).idxOf c=a.length
  | [],b,_=>by simp [List.idxOf_cons]
  | x::a,b,h=>by
    have:(x==c)=false:=by
      rw [beq_eq_false_iff_ne];rintro rfl;exact h (by simp)
    rw [List.cons_append,List.idxOf_cons,this,pC (fun z=>h (List.mem_cons_of_mem _ z))]
    rfl
def Gs(B:List Int):PyData→Bool
  | .int i=>B.contains i
  | _=>false
theorem BW{e:En}{x:Int}{ns:List Int}{neg:Bool}:tR neg e (.d (.int x)) (.d (.list (ns.map .int)))=some (.d (.bool (if neg then !ns.contains x else ns.contains x))):=by
  have:=jZ (e:=e) (x:=x) (ns:=ns) (neg:=neg)
  unfold tR at this ⊢
  simp only [iF,cZ,Option.bind_some] at this ⊢
  exact this
theorem vy{a1 a2 b1 b2:List Int}{c:Int}(d:∀y∈a1,y∉b1++c::b2)(cb:c∉b1)(l1:(a1++c::a2).length≤1000)(l2:(b1++c::b2).length≤1000):hU [.d (.list ((a1++c::a2).map .int)),.d (.list ((b1++c::b2).map .int))]=some (.d (.tuple ((a1++c::b1.reverse).map .int)),[.d (.list ((a1++c::a2).map .int)),.d (.list ((b1++c::b2).map .int))]):=by
  have ca:c∉a1:=fun z=>d c z (by simp)
  obtain⟨t',hf⟩:=cQ (cs:=[some (.d (.list ((b1++c::b2).map .int)))]) (ft:=eF) (fe:=gF) (b:=Gs (b1++c::b2)) (y:=fun x=>x) ((a1++c::a2).map .int) none [] (fun x hx=>by
    obtain⟨i,_,rfl⟩:=List.mem_map.mp hx
    have g:=fun e=>BW (e:=e) (x:=i) (ns:=b1++c::b2) (neg:=false)
    show eF [some (.d (.list ((b1++c::b2).map .int))),some (.d (.int i))]=some ((b1++c::b2).contains i,[some (.d (.list ((b1++c::b2).map .int))),some (.d (.int i))])
    generalize (b1++c::b2).contains i=bb at*
    generalize (b1++c::b2).map PyData.int=BB at*
    simp? [eF,g]) (fun x hx _=>by
    generalize (b1++c::b2).map PyData.int=BB at*
    simp? [gF]) (by rw [List.length_map];simp only [List.length_nil];lia)
  have hv:=cO (cp:=[(1,"other")]) (nT:=1) (fi:=lI) (g:=ag 1) (ft:=eF) (fe:=gF) (e:=[some (.d (.list ((a1++c::a2).map .int))),some (.d (.list ((b1++c::b2).map .int))),none]) (cs:=[some (.d (.list ((b1++c::b2).map .int)))]) (t:=[none]) (t':=[t']) rfl rfl rfl hf
  have hfil:∃R,((a1++c::a2).map PyData.int).filter (Gs (b1++c::b2))=.int c::R:=by
    refine⟨(a2.map PyData.int).filter (Gs (b1++c::b2)),?_⟩
    rw [List.map_append,List.filter_append,List.map_cons,List.filter_cons,if_pos (by show(b1++c::b2).contains c=true;simp)]
    rw [List.filter_eq_nil_iff.mpr]
    · rfl
    · intro z hz
      obtain⟨i,hi,rfl⟩:=List.mem_map.mp hz
      have:=d i hi
      show ¬(b1++c::b2).contains i=true
      rw [List.contains_iff_mem]
      exact this
  obtain⟨R,hR⟩:=hfil
  rw [hR,List.nil_append,List.map_id'] at hv
  have hA:gX (a1++c::a2) c=some a1.length:=by unfold gX;rw [if_pos (by simp),pC ca]
  have hB:gX (b1++c::b2) c=some b1.length:=by unfold gX;rw [if_pos (by simp),pC cb]
  have eA:=g_ (a1++c::a2)
  have eB:=g_ (b1++c::b2)
  have kA:L2.cutD ((a1++c::a2).map PyData.int) none (some ((a1.length:Int)+1))=(a1++[c]).map .int:=by
    have:=L2.cut_pre (xs:=(a1++[c]).map PyData.int) (ys:=a2.map .int)
    rw [←List.map_append,List.append_assoc] at this
    rw [List.length_map,List.length_append,List.length_singleton] at this
    rw [←this]
    congr 1
  have kB:L2.cutD ((b1++c::b2).map PyData.int) none (some (b1.length:Int))=b1.map .int:=by
    have:=L2.cut_pre (xs:=b1.map PyData.int) (ys:=(c::b2).map .int)
    rw [←List.map_append,List.length_map] at this
    exact this
  have ll:((a1++[c]).map PyData.int).length+((b1.map PyData.int).reverse).length≤1000000:=by
    simp at l1 l2 ⊢;lia
  have er:(a1++c::b1.reverse).map PyData.int=(a1++[c]).map .int++(b1.map PyData.int).reverse:=by simp
  have gc:=fun e=>tO (e:=e) ll
  have gs:∀(e:En) (lo hi:Option Int) (xs:List PyData),DH e (.d (.list xs)) lo hi=some (.l (L2.cutD xs lo hi)):=fun _ _ _ _=>rfl
  have gr:∀(e:En) (xs:List PyData),Gn e (.l xs) (.d (.int (-1)))=some (.l xs.reverse):=fun _ _=>rfl
  rw [er]
  generalize (a1++[c]).map PyData.int=P1 at*
  generalize b1.map PyData.int=P2 at*
  generalize (a1++c::a2).map PyData.int=AA at*
  generalize (b1++c::b2).map PyData.int=BB at*
  simp? [hU,nL,hv,wC,oV,DO,Fg,cZ,ck,eA,eB,hA,hB,kA,kB,gs,FC,gr,gc]
theorem jz{cs:En}{ft:FT}{fe:FE}{b:PyData→Bool}{y:PyData→PyData}:∀(items:List PyData) (t:Option Sv) (acc:List PyData),(∀x∈items,ft (cs++[some (.d x)])=some (b x,cs++[some (.d x)]))→(∀x∈items,b x=true→∃r,fe (cs++[some (.d x)])=some (r,cs++[some (.d x)])∧pe r=some (y x))→
    acc.length+items.length≤1000000→∃t',cH (ag cs.length) ft fe items (cs++[t]) acc=some (acc++(items.filter b).map y,cs++[t'])
  | [],t,acc,_,_,_=>⟨t,by simp [cH]⟩
  | x::r,t,acc,h1,h2,hl=>by
    have hg:ag cs.length x (cs++[t])=some (cs++[some (.d x)]):=by simp [ag]
    have hx:=h1 x (by simp)
    simp only [List.length_cons] at hl
    unfold cH
    rw [hg,Option.bind_some,hx,Option.bind_some]
    cases c:b x with
    | true=>
      obtain⟨q,h3,h4⟩:=h2 x (by simp) c
      simp only [if_true,h3,Option.bind_some,h4]
      rw [if_pos (by lia)]
      obtain⟨t',h5⟩:=jz (b:=b) (y:=y) r (some (.d x)) (acc++[y x]) (fun z hz=>h1 z (by simp [hz])) (fun z hz=>h2 z (by simp [hz])) (by simp;lia)
      exact⟨t',by rw [h5];simp [List.filter_cons,c]⟩
    | false=>
      simp only [Bool.false_eq_true,if_false]
      obtain⟨t',h5⟩:=jz (b:=b) (y:=y) r (some (.d x)) acc (fun z hz=>h1 z (by simp [hz])) (fun z hz=>h2 z (by simp [hz])) (by lia)
      exact⟨t',by rw [h5];simp [List.filter_cons,c]⟩
theorem qk{own:gQ}{g:FG}{f:FS}(ok:PyData→Bool)(P:En→Prop)(Q:Rv→En→Prop):∀(items:List PyData) (e:En),(∀x∈items,∀e,P e→∃e1,g x e=some e1∧(ok x=true→∃e2,f e1=some (.nx e2)∧keeps own e2∧P e2)∧(ok x=false→∃z e2,f e1=some (.rt z e2)∧Q z e2))→P e→
    (items.all ok=true∧∃e',ii own g f items e=some (.nx e')∧P e')∨∃z e',ii own g f items e=some (.rt z e')∧Q z e'
  | [],e,_,h=>.inl ⟨rfl,e,rfl,h⟩
  | x::r,e,hs,h=>by
    obtain⟨e1,h1,h2,h3⟩:=hs x (by simp) e h
    cases c:ok x with
    | true=>
      obtain⟨e2,h4,h5,h6⟩:=h2 c
      have ih:=qk ok P Q r e2 (fun y hy=>hs y (by simp [hy])) h6
      rw [List.all_cons,c,Bool.true_and]
      have e0:ii own g f (x::r) e=ii own g f r e2:=by
        simp only [ii,h1,h4,Option.bind_some]
        rw [if_pos h5]
      rw [e0]
      exact ih
    | false=>
      obtain⟨z,e2,h4,h5⟩:=h3 c
      refine .inr ⟨z,e2,?_,h5⟩
      simp only [ii,h1,h4,Option.bind_some]
def yW(m:List (Int × Option Int)):PyData→PyData
  | .int x=>.list ((wy m 13 x).map .int)
  | d=>d
def yL:PyData→PyData
  | .list ds=>.int ((ds.length:Int) % 2)
  | d=>d
def As(m:List (Int × Option Int))(n:Nat):List Int:=(List.range n).map fun(i:Nat)=>(((wy m 13 (i:Int)).length:Nat):Int) % 2
abbrev uo(W:bj)(D:PyData)(WL RR:List PyData)(v4 v5 v6 v7:Option Sv):En:=[some (.d (aQ W)),some (.d D),some (.l WL),some (.d (.tuple RR)),v4,v5,v6,v7]
theorem vA{W:bj}(ok:W.Ok):∃(k:Str) (R:List Int),jj [.d (aQ W)]=some (.d (.tuple [.str k,.tuple (R.map .int)]),[.d (aQ W)])∧((k="sides"∧vq W (.tuple (R.map .int))=true)∨(k="ring"∧sE W (.tuple (R.map .int))=true∧R.length≤1000)):=by
  have t0:=ok.t0;have t1:=ok.t1
  obtain⟨m,tw,hW,⟨r,hR⟩,hall⟩:=yx ok
  have g0':=Ef (W:=W)
  have g1':=FW (W:=W)
  have ml:=hW.len ok
  have way:∀x:Int,0≤x→x < W.things→Wy m x (wy m 13 x)∧(wy m 13 x).length≤12:=fun x x0 x1=>by
    obtain⟨⟨y,o⟩,hp,e⟩:=List.mem_map.mp (hall x x0 x1)
    dsimp only at e
    subst e
    obtain⟨i,hi⟩:=List.getElem?_of_mem hp
    have il:=(List.getElem?_eq_some_iff.mp hi).1
    have hw:=FH hW 13 i y o (by lia) hi
    refine⟨hw,?_⟩
    have nn:=kd W.things.toNat _ (hw.nd hW) (fun k hk=>by have:=hw.inr hW k hk;lia)
    lia
  obtain⟨n,hn⟩:∃n:Nat,n=W.things.toNat:=⟨_,rfl⟩
  obtain⟨t1',hf1⟩:=jz (cs:=[some (.d (.dict (m.map kD)))]) (ft:=br) (fe:=jf) (b:=fun _=>true) (y:=yW m) (aC 0 n) none [] (fun x hx=>rfl) (fun x hx _=>by
    obtain⟨i,hx⟩:=List.getElem?_of_mem hx
    obtain⟨rfl,hi⟩:=a9 hx
    have q:=way (0+(i:Int)) (by lia) (by lia)
    have tb:=sP q.1 q.2
    refine⟨.l ((wy m 13 (0+(i:Int))).map .int),?_,rfl⟩
    generalize (wy m 13 (0+(i:Int))).map PyData.int=LL at*
    generalize 0+(i:Int)=k at*
    generalize PyData.dict (m.map kD)=DD at*
    simp? [jf,tb]) (by rw [aX];simp;lia)
  rw [fD,List.nil_append] at hf1
  have hi5:kZ [some (.d (aQ W)),some (.d (.dict (m.map kD))),none,none,none,none,none,none]=some (aC 0 n,[],[some (.d (aQ W)),some (.d (.dict (m.map kD))),none,none,none,none,none,none]):=by
    rw [hn]
    refine aW (n:=W.things) ?_ (by lia) (by lia)
    generalize aQ W=WW at*
    simp? [g0']
  have hv1:=cO (cp:=[(1,"before")]) (nT:=1) (fi:=kZ) (g:=ag 1) (ft:=br) (fe:=jf) (cs:=[some (.d (.dict (m.map kD)))]) (t:=[none]) (t':=[t1']) hi5 rfl rfl hf1
  obtain⟨WL,hWL⟩:∃WL,WL=(aC 0 n).map (yW m):=⟨_,rfl⟩
  rw [←hWL] at hv1
  obtain⟨t2',hf2⟩:=cQ (cs:=[]) (ft:=br) (fe:=gZ) (b:=fun _=>true) (y:=yL) WL none [] (fun x hx=>rfl) (fun x hx _=>by
    rw [hWL] at hx
    obtain⟨z,hz,rfl⟩:=List.mem_map.mp hx
    obtain⟨i,hx⟩:=List.getElem?_of_mem hz
    obtain⟨rfl,hi⟩:=a9 hx
    show gZ [some (.d (.list ((wy m 13 (0+(i:Int))).map .int)))]=some (.d (.int ((((wy m 13 (0+(i:Int))).map PyData.int).length:Int) % 2)),[some (.d (.list ((wy m 13 (0+(i:Int))).map .int)))])
    generalize (wy m 13 (0+(i:Int))).map PyData.int=LL at*
    have gm:∀e:En,aI e (.d (.int (LL.length:Int))) (.d (.int 2))=some (.d (.int ((LL.length:Int) % 2))):=fun e=>aw (by decide)
    simp? [gZ,gm]) (by rw [hWL,List.length_map,aX];simp;lia)
  rw [fD,List.nil_append] at hf2
  have hv2:=oO (cp:=[]) (nT:=1) (fi:=oj) (g:=ag 0) (ft:=br) (fe:=gZ) (e:=[some (.d (aQ W)),some (.d (.dict (m.map kD))),some (.l WL),none,none,none,none,none]) (own:=[(2,WL)]) (cs:=[]) (t:=[none]) (t':=[t2']) rfl rfl rfl rfl hf2
  obtain⟨row,hrow⟩:∃row,row=As m n:=⟨_,rfl⟩
  have eRow:WL.map yL=row.map .int:=by
    rw [hWL,hrow]
    unfold As aC
    rw [List.map_map,List.map_map,List.map_map]
    refine List.map_congr_left fun i _=>?_
    show PyData.int ((((wy m 13 (0+(i:Int))).map PyData.int).length:Int) % 2)=PyData.int (((wy m 13 (i:Int)).length:Int) % 2)
    rw [List.length_map,Int.zero_add]
  rw [eRow] at hv2
  have lrow:row.length=n:=by rw [hrow];unfold As;simp
  have nthR:∀x:Int,0≤x→x < W.things→cU (row.map .int) x=((wy m 13 x).length:Int) % 2:=fun x x0 x1=>by
    unfold cU
    rw [hrow]
    unfold As
    have hx:x.toNat < n:=by lia
    rw [List.getElem?_map,List.getElem?_map,List.getElem?_range hx]
    show((wy m 13 (x.toNat:Int)).length:Int) % 2=_
    rw [Int.toNat_of_nonneg x0]
  have atW:∀x:Int,0≤x→x < W.things→atI WL x=some (.list ((wy m 13 x).map .int)):=fun x x0 x1=>by
    have hx:x.toNat < n:=by lia
    rw [iN x0 (by rw [hWL,List.length_map,aX];lia),hWL,List.getElem?_map]
    unfold aC
    rw [List.getElem?_map,List.getElem?_range hx]
    show some (PyData.list ((wy m 13 (0+(x.toNat:Int))).map .int))=_
    rw [Int.zero_add,Int.toNat_of_nonneg x0]
  have hfor:=qk (own:=[]) (g:=c9 (ap (ag 4) (ap (ag 5) (ap (ag 6) (ap (ag 7) cK))))) (f:=gW) (fun x=> !qT (row.map .int) x)
    (fun e=>∃v4 v5 v6 v7,e=uo W (.dict (m.map kD)) WL (row.map .int) v4 v5 v6 v7) (fun z e=>∃(R:List Int) (v4 v5 v6 v7:Option Sv),z=.d (.tuple [.str "ring",.tuple (R.map .int)])∧sE W (.tuple (R.map .int))=true∧R.length≤1000∧e=uo W (.dict (m.map kD)) WL (row.map .int) v4 v5 v6 v7)
    (W.ties.map au) (uo W (.dict (m.map kD)) WL (row.map .int) none none none none) (fun x hx e ⟨v4,v5,v6,v7,he⟩=>by
      subst he
      obtain⟨t,ht,rfl⟩:=kJ hx
      have o:=ok.ties t ht
      have:=o.o0;have:=o.o1;have:=o.o2
      have a1:=pH (ns:=row) (i:=t.one) (by lia) (by lia)
      have a2:=pH (ns:=row) (i:=t.other) (by lia) (by lia)
      have w1:=atW t.one (by lia) (by lia)
      have w2:=atW t.other (by lia) (by lia)
      refine⟨uo W (.dict (m.map kD)) WL (row.map .int) (some (.d (.int t.one))) (some (.d (.int t.other))) (some (.d (.tuple [.int t.top,.int t.bot]))) (some (.d (.int t.worth))),?_,fun c=>?_,fun c=>?_⟩
      · unfold au uo
        generalize row.map PyData.int=RR
        generalize aQ W=WW
        generalize PyData.dict (m.map kD)=DD
        simp? [List.replicate]
      · refine⟨uo W (.dict (m.map kD)) WL (row.map .int) (some (.d (.int t.one))) (some (.d (.int t.other))) (some (.d (.tuple [.int t.top,.int t.bot]))) (some (.d (.int t.worth))),?_,aT,_,_,_,_,rfl⟩
        have c':(cU (row.map .int) t.one==cU (row.map .int) t.other)=false:=by simpa [qT,au] using c
        rw [beq_eq_false_iff_ne] at c'
        unfold uo
        generalize cU (row.map PyData.int) t.one=x1 at*
        generalize cU (row.map PyData.int) t.other=x2 at*
        generalize row.map PyData.int=RR at*
        generalize aQ W=WW at*
        generalize PyData.dict (m.map kD)=DD at*
        simp? [gW,a1,a2,c']
      · have c':cU (row.map .int) t.one=cU (row.map .int) t.other:=by simpa [qT,au] using c
        have q1:=way t.one (by lia) (by lia)
        have q2:=way t.other (by lia) (by lia)
        have e1:=nthR t.one (by lia) (by lia)
        have e2:=nthR t.other (by lia) (by lia)
        obtain⟨a1',c0,a2',b1',b2',eA,dA,eB,cb,rg,lR⟩:=An ok hW hR ht q1.1 q2.1 (by lia)
        have l1:=q1.2
        have l2:=q2.2
        rw [eA] at w1 l1
        rw [eB] at w2 l2 dA
        have tr:=vy dA cb (a2:=a2') (by lia) (by lia)
        refine⟨.d (.tuple [.str "ring",.tuple ((a1'++c0::b1'.reverse).map .int)]),uo W (.dict (m.map kD)) WL (row.map .int) (some (.d (.int t.one))) (some (.d (.int t.other))) (some (.d (.tuple [.int t.top,.int t.bot]))) (some (.d (.int t.worth))),?_,a1'++c0::b1'.reverse,_,_,_,_,rfl,rg,lR,rfl⟩
        unfold uo
        generalize (a1'++c0::b1'.reverse).map PyData.int=QQ at*
        generalize (a1'++c0::a2').map PyData.int=AA at*
        generalize (b1'++c0::b2').map PyData.int=BB at*
        generalize cU (row.map PyData.int) t.one=x1 at*
        generalize cU (row.map PyData.int) t.other=x2 at*
        generalize row.map PyData.int=RR at*
        generalize aQ W=WW at*
        generalize PyData.dict (m.map kD)=DD at*
        subst c'
        simp? [gW,a1,a2,w1,w2,tr]) ⟨none,none,none,none,rfl⟩
  have hi1:∀(RR:List PyData),oi (uo W (.dict (m.map kD)) WL RR none none none none)=some (W.ties.map au,[],uo W (.dict (m.map kD)) WL RR none none none none):=fun RR=>by
    unfold uo
    refine kY ?_
    generalize (W.ties.map au)=TT at*
    generalize aQ W=WW at*
    generalize PyData.dict (m.map kD)=DD at*
    simp? [g1']
  have hs:=fun Wl=>bO (W:=Wl) (g:=c9 (ap (ag 4) (ap (ag 5) (ap (ag 6) (ap (ag 7) cK))))) (f:=gW) (hi1 (row.map .int))
  rcases hfor with ⟨hok,e',hF,v4,v5,v6,v7,rfl⟩ | ⟨z,e',hF,R,v4,v5,v6,v7,rfl,rg,lR,rfl⟩
  · rw [hF] at hs
    refine⟨"sides",row,?_,.inl ⟨rfl,?_⟩⟩
    · unfold uo at hs
      generalize row.map PyData.int=RR at*
      generalize aQ W=WW at*
      generalize PyData.dict (m.map kD)=DD at*
      simp? [jj,oW,tw,hv1,hv2,hs]
    · rw [rC] at hok
      simp only [vq,List.length_map,lrow,hok,Bool.and_true,Bool.and_eq_true,beq_iff_eq]
      refine⟨by lia,?_⟩
      rw [List.all_map,List.all_eq_true]
      intro y hy
      rw [hrow] at hy
      obtain⟨i,_,hi⟩:=List.mem_map.mp hy
      have hy0:0≤y∧y≤1:=by lia
      show(decide (0≤y)&&decide (y≤1))=true
      rw [decide_eq_true (by lia),decide_eq_true (by lia)]
      rfl
  · rw [hF] at hs
    refine⟨"ring",R,?_,.inr ⟨rfl,rg,lR⟩⟩
    unfold uo at hs
    generalize R.map PyData.int=QQ at*
    generalize row.map PyData.int=RR at*
    generalize aQ W=WW at*
    generalize PyData.dict (m.map kD)=DD at*
    simp? [jj,oW,tw,hv1,hv2,hs]
def Bx(d:PyData):Prop:=∀ds,d=.tuple ds→ds.length≤1000
def Dt(d:PyData)(k:Nat):Prop:=∃ds,d=.tuple ds∧ds.length≤k
theorem Dt.sh{d:PyData}{k:Nat}(h:Dt d k)(hk:k≤1000):Bx d:=fun ds e=>by
  obtain⟨es,rfl,hl⟩:=h
  cases e
  lia
def ni(b:Int):PyData→PyData
  | .tuple ds=>.tuple (ds++[.int b])
  | d=>d
theorem sL{n:Int}(h0:0≤n)(h1:n≤12):∃R:List PyData,fV [.d (.int n)]=some (.l R,[.d (.int n)])∧R.length≤2 ^ 12:=by
  obtain⟨e',hf,⟨R,v2,he,hl,hs⟩⟩:=bo (own:=[]) (g:=ag 2) (f:=eX) (fun i e=>∃R v2,e=[some (.d (.int n)),some (.l R),v2]∧R.length=2 ^ i∧∀d∈R,Dt d i) (aC 0 n.toNat) 0 [some (.d (.int n)),some (.l [.tuple []]),none] (fun i x e hx ⟨R,v2,he,hl,hs⟩=>by
    subst he
    obtain⟨rfl,hi⟩:=a9 hx
    rw [Nat.zero_add] at*
    have hp:2 ^ i≤2 ^ 12:=Nat.pow_le_pow_right (by decide) (by lia)
    have key:∀(b:Int) (fe:FE),(∀ds,ds.length≤100→fe [some (.d (.tuple ds))]=some (.d (.tuple (ds++[.int b])),[some (.d (.tuple ds))]))→cD [] 1 (fq (ae 1)) (ag 0) br fe [some (.d (.int n)),some (.l R),some (.d (.int (0+(i:Int))))]=some (.l (R.map (ni b)),[some (.d (.int n)),some (.l R),some (.d (.int (0+(i:Int))))]):=fun b fe hfe=>by
      obtain⟨t',hf⟩:=cQ (cs:=[]) (ft:=br) (fe:=fe) (b:=fun _=>true) (y:=ni b) R none [] (fun x hx=>rfl) (fun x hx _=>by
        obtain⟨ds,rfl,hd⟩:=hs x hx
        exact hfe ds (by lia)) (by simp;lia)
      rw [fD,List.nil_append] at hf
      exact oO (cp:=[]) (nT:=1) (fi:=fq (ae 1)) (g:=ag 0) (ft:=br) (fe:=fe) (e:=[some (.d (.int n)),some (.l R),some (.d (.int (0+(i:Int))))]) (own:=[(1,R)]) (cs:=[]) (t:=[none]) (t':=[t']) rfl rfl rfl rfl hf
    have k0:=key 0 ie (fun ds hd=>by
      have gc:=fun e=>ij (e:=e) (xs:=ds) (ys:=[.int 0]) (by simp;lia)
      simp? [ie,gc])
    have k1:=key 1 ig (fun ds hd=>by
      have gc:=fun e=>ij (e:=e) (xs:=ds) (ys:=[.int 1]) (by simp;lia)
      simp? [ig,gc])
    refine⟨[some (.d (.int n)),some (.l R),some (.d (.int (0+(i:Int))))],[some (.d (.int n)),some (.l (R.map (ni 0)++R.map (ni 1))),some (.d (.int (0+(i:Int))))],rfl,?_,aT,_,_,rfl,by rw [List.length_append,List.length_map,List.length_map,Nat.pow_succ];lia,fun d hd=>?_⟩
    · have gc:=fun e=>tO (e:=e) (xs:=R.map (ni 0)) (ys:=R.map (ni 1)) (by rw [List.length_map,List.length_map];lia)
      generalize R.map (ni 0)++R.map (ni 1)=R2 at*
      generalize R.map (ni 0)=RA at*
      generalize R.map (ni 1)=RB at*
      generalize 0+(i:Int)=k at*
      simp only [j4,j5,eX] at*
      simp? [k0,k1,gc]
    · rcases List.mem_append.mp hd with hd | hd<;>obtain⟨y,hy,rfl⟩:=List.mem_map.mp hd<;>obtain⟨ds,rfl,hl⟩:=hs y hy<;>exact⟨_,rfl,by simp;lia⟩) ⟨_,_,rfl,rfl,fun d hd=>by simp at hd;subst hd;exact⟨[],rfl,by simp⟩⟩
  subst he
  rw [Nat.zero_add,aX] at hl
  have hi:j6 [some (.d (.int n)),some (.l [.tuple []]),none]=some (aC 0 n.toNat,[],[some (.d (.int n)),some (.l [.tuple []]),none]):=aW (n:=n) (by simp? [List.replicate]) (by lia) (by lia)
  have hF:=fun Wl=>bO (W:=Wl) (g:=ag 2) (f:=eX) hi
  rw [hf] at hF
  refine⟨R,?_,by rw [hl];exact Nat.pow_le_pow_right (by decide) (by lia)⟩
  simp? [fV,mv,hF]
abbrev hX(ds:List Int)(n:Int)(R:List PyData)(v3 v4 v5 v6 v7:Option Sv):En:=[some (.l (ds.map .int)),some (.d (.int n)),some (.l R),v3,v4,v5,v6,v7]
def l6(e:En):Nat:=match (e[(6:Nat)]?:Option (Option Sv)) with
  | some (some (.l xs))=>xs.length
  | _=>0
theorem g9:∀(l:List Int) (k:Nat),(l.map PyData.int).eraseIdx k=(l.eraseIdx k).map .int
  | [],_=>rfl
  | _::_,0=>rfl
  | x::r,k+1=>by
    rw [List.map_cons,List.eraseIdx_cons_succ,List.eraseIdx_cons_succ,g9 r k]
    rfl
theorem xq{ds:List Int}(hd:gw ds){n:Int}{R:List PyData}{v3 v4 v5:Option Sv}{A:List Int}{B:List PyData}(hA:A.length+B.length≤100):∃ds' B',eP (2 ^ 4200) dJ eY (hX ds n R v3 v4 v5 (some (.l (A.map .int))) (some (.l B)))=some (.nx (hX ds' n R v3 v4 v5 (some (.l [])) (some (.l B'))))∧gw ds'∧B'.length≤100:=by
  have tst:∀(ds A:List Int) (v7:Option Sv),dJ (hX ds n R v3 v4 v5 (some (.l (A.map .int))) v7)=some (!A.isEmpty,hX ds n R v3 v4 v5 (some (.l (A.map .int))) v7):=fun ds A v7=>by
    have g:∀e:En,e[6]?=some (some (.l (A.map .int)))→cE true e (.s 6) (.l [])=some (.d (.bool (!(A.map PyData.int).isEmpty))):=fun e he=>qq he (lT A).1
    have ee:A.isEmpty=(A.map PyData.int).isEmpty:=by cases A<;>rfl
    rw [ee]
    unfold hX
    generalize A.map PyData.int=AA at*
    generalize ds.map PyData.int=DD at*
    simp? [dJ,g]
  obtain⟨e0,e',hw,⟨d1,A1,B1,he,hd1,hl1⟩,hf⟩:=gv (ft:=dJ) (f:=eY) (fun e=>∃d1 A1 B1,e=hX d1 n R v3 v4 v5 (some (.l (List.map PyData.int A1))) (some (.l B1))∧gw d1∧A1.length+B1.length≤100) l6 (fun e ⟨d1,A1,B1,he,hd1,hl1⟩=>by
    subst he
    rcases A1 with _ | ⟨a,A1⟩
    · exact .inl ⟨_,tst _ _ _,trivial⟩
    · obtain⟨m,d2,t1, -, -,hd2⟩:=dS hd1
      have lp:(0:Int) < ((a::A1).length:Int):=by rw [List.length_cons];lia
      have gm:∀e:En,aI e (.d (.int m)) (.d (.int ((a::A1).length:Int)))=some (.d (.int (m % ((a::A1).length:Int)))):=fun e=>aw lp
      have q0:=m7 (n:=m) lp;have q1:=m9 (n:=m) lp
      rw [List.length_cons] at hl1
      obtain⟨k,hk⟩:∃k,k=m % ((a::A1).length:Int):=⟨_,rfl⟩
      rw [←hk] at gm q0 q1
      have kl:k.toNat < (a::A1).length:=by lia
      have hg:((a::A1).map PyData.int)[k.toNat]?=some (.int (a::A1)[k.toNat]):=by rw [List.getElem?_map,List.getElem?_eq_getElem kl];rfl
      have hx:((a::A1).map PyData.int).eraseIdx k.toNat=((a::A1).eraseIdx k.toNat).map .int:=g9 _ _
      have hln:(((a::A1).map PyData.int).length:Int)=((a::A1).length:Int):=by rw [List.length_map]
      have kb:k < 1000000000:=by simp at q1;lia
      have le:((a::A1).eraseIdx k.toNat).length=A1.length:=by rw [List.length_eraseIdx,if_pos kl];simp
      have lb:B1.length < 1000000:=by lia
      refine .inr ⟨_,hX d2 n R v3 v4 v5 (some (.l (((a::A1).eraseIdx k.toNat).map .int))) (some (.l (B1++[.int (a::A1)[k.toNat]]))),tst _ _ _,?_,⟨_,_,_,rfl,hd2,by rw [le,List.length_append,List.length_singleton];lia⟩,?_⟩
      · unfold hX
        generalize (a::A1)[k.toNat]=z at*
        generalize ((a::A1).eraseIdx k.toNat).map PyData.int=E2 at*
        rw [←hln] at gm
        generalize (a::A1).map PyData.int=AA at*
        generalize d1.map PyData.int=D1 at*
        generalize d2.map PyData.int=D2 at*
        simp? [eY,t1,gm,iy,q0,kb,hg,hx,lb]
      · simp only [l6,hX]
        show(((a::A1).eraseIdx k.toNat).map PyData.int).length < ((a::A1).map PyData.int).length
        rw [List.length_map,List.length_map,le,List.length_cons];lia) (2 ^ 4200) (hX ds n R v3 v4 v5 (some (.l (A.map .int))) (some (.l B))) ⟨ds,A,B,rfl,hd,hA⟩ (j' (m:=20) (by show(A.map PyData.int).length < _;rw [List.length_map];lia) (by decide))
  subst he
  rw [tst] at hf
  have h4:=Prod.mk.inj (Option.some.inj hf)
  have hA0:A1=[]:=by
    cases A1 with
    | nil=>rfl
    | cons a r=>simp at h4
  subst hA0
  have h5:=h4.2
  subst h5
  exact⟨d1,B1,hw,hd1,by simpa using hl1⟩
theorem sM{ds:List Int}(hd:gw ds){n:Int}(h0:0≤n)(h1:n≤12):∃(ds':List Int) (R:List PyData),fW [.l (ds.map .int),.d (.int n)]=some (.l R,[.l (ds'.map .int),.d (.int n)])∧gw ds'∧∀d∈R,Bx d:=by
  have gS:∀(e:En) (xs ys:List PyData),e[2]?=some (some (.l xs))→xs.length+ys.length≤1000000→bi e (.s 2) (.l ys)=some (.l (xs++ys)):=fun e xs ys he h=>za he h
  have inner:∀(i:Nat) (R:List PyData) (v4:Option Sv),(i:Int) < n→(∀d∈R,Bx d)→R.length≤10000→∃R' v4',(∀Wl,cN Wl iq (ag 4) e_ (hX ds n R (some (.d (.int (0+(i:Int))))) v4 none none none)=some (.nx (hX ds n R' (some (.d (.int (0+(i:Int))))) v4' none none none)))∧(∀d∈R',Bx d)∧R'.length≤R.length+200:=fun i R v4 hi hs hl=>by
    obtain⟨e',hf,⟨R',v4',he,hs',hl'⟩⟩:=bo (own:=[]) (g:=ag 4) (f:=e_) (fun j e=>∃R' v4,e=hX ds n R' (some (.d (.int (0+(i:Int))))) v4 none none none∧(∀d∈R',Bx d)∧R'.length≤R.length+12*j) (aC 0 (0+(i:Int)).toNat) 0 (hX ds n R (some (.d (.int (0+(i:Int))))) v4 none none none) (fun j x e hx ⟨R1,v4,he,hs1,hl1⟩=>by
      subst he
      obtain⟨rfl,hj⟩:=a9 hx
      rw [Nat.zero_add] at*
      have hj':(j:Int) < 12:=by lia
      obtain⟨a,ha⟩:∃a:Int,a=0+(i:Int):=⟨_,rfl⟩
      obtain⟨b,hb⟩:∃b:Int,b=0+(j:Int):=⟨_,rfl⟩
      rw [←ha,←hb]
      obtain⟨t',hf⟩:=cQ (cs:=[some (.d (.int a)),some (.d (.int b))]) (ft:=br) (fe:=fg) (b:=fun _=>true) (y:=fun x=>.tuple [.int a,.int b,x]) (aC 0 b.toNat) none [] (fun x hx=>rfl) (fun x hx _=>by simp? [fg]) (by rw [aX];simp;lia)
      rw [fD,List.nil_append] at hf
      have hi5:ip (hX ds n R1 (some (.d (.int a))) (some (.d (.int b))) none none none)=some (aC 0 b.toNat,[],hX ds n R1 (some (.d (.int a))) (some (.d (.int b))) none none none):=aW (n:=b) (by simp? [hX]) (by lia) (by lia)
      have hv:=cO (cp:=[(3,"_law_one"),(4,"_law_other")]) (nT:=1) (fi:=ip) (g:=ag 2) (ft:=br) (fe:=fg) (cs:=[some (.d (.int a)),some (.d (.int b))]) (t:=[none]) (t':=[t']) hi5 rfl rfl hf
      have lr:((aC 0 b.toNat).map fun x=>PyData.tuple [.int a,.int b,x]).length≤12:=by rw [List.length_map,aX];lia
      have hsr:∀d∈(aC 0 b.toNat).map fun x=>PyData.tuple [.int a,.int b,x],Bx d:=fun d hd es e=>by
        obtain⟨x,_,rfl⟩:=List.mem_map.mp hd
        cases e;simp
      generalize ((aC 0 b.toNat).map fun x=>PyData.tuple [.int a,.int b,x])=Q at*
      refine⟨hX ds n R1 (some (.d (.int a))) (some (.d (.int b))) none none none,hX ds n (R1++Q) (some (.d (.int a))) (some (.d (.int b))) none none none,rfl,?_,aT,_,_,rfl,fun d hd=>(List.mem_append.mp hd).elim (hs1 d) (hsr d),by rw [List.length_append];lia⟩
      have lq:R1.length+Q.length≤1000000:=by lia
      unfold hX at hv ⊢
      generalize ds.map PyData.int=DD at*
      simp? [e_,hv,gS,lq]) ⟨R,v4,rfl,hs,by lia⟩
    subst he
    rw [aX] at hl'
    have hi7:iq (hX ds n R (some (.d (.int (0+(i:Int))))) v4 none none none)=some (aC 0 (0+(i:Int)).toNat,[],hX ds n R (some (.d (.int (0+(i:Int))))) v4 none none none):=aW (n:=0+(i:Int)) (by simp? [hX]) (by lia) (by lia)
    refine⟨R',v4',fun Wl=>?_,hs',by lia⟩
    rw [bO hi7]
    exact hf
  obtain⟨e1,hf1,⟨R1,v3,v4,he1,hs1,hl1⟩⟩:=bo (own:=[]) (g:=ag 3) (f:=gM) (fun i e=>∃R v3 v4,e=hX ds n R v3 v4 none none none∧(∀d∈R,Bx d)∧R.length≤200*i) (aC 0 n.toNat) 0 (hX ds n [] none none none none none) (fun i x e hx ⟨R,v3,v4,he,hs,hl⟩=>by
    subst he
    obtain⟨rfl,hi⟩:=a9 hx
    rw [Nat.zero_add] at*
    obtain⟨R',v4',hF,hs',hl'⟩:=inner i R v4 (by lia) hs (by lia)
    exact⟨hX ds n R (some (.d (.int (0+(i:Int))))) v4 none none none,_,rfl,hF _,aT,R',_,_,rfl,hs',by lia⟩) ⟨[],none,none,rfl,fun d h=>(by cases h),by simp⟩
  subst he1
  rw [aX] at hl1
  have hi9:j8 (hX ds n [] none none none none none)=some (aC 0 n.toNat,[],hX ds n [] none none none none none):=aW (n:=n) (by simp? [hX]) (by lia) (by lia)
  have hF1:=fun Wl=>bO (W:=Wl) (g:=ag 3) (f:=gM) hi9
  rw [hf1] at hF1
  obtain⟨e2,hf2,⟨ds2,R2,v5,v6,v7,he2,hd2,hs2,hl2⟩⟩:=bo (own:=[]) (g:=ag 5) (f:=eZ) (fun i e=>∃ds2 R v5 v6 v7,e=hX ds2 n R v3 v4 v5 v6 v7∧gw ds2∧(∀d∈R,Bx d)∧R.length≤3000+2*i) (aC 0 12) 0 (hX ds n R1 v3 v4 none none none) (fun i x e hx ⟨ds2,R,v5,v6,v7,he,hd2,hs,hl⟩=>by
    subst he
    have hi:i < 12:=by obtain⟨_,h⟩:=a9 hx;exact h
    have lA:(h8 n.toNat).length=n.toNat:=by simp [h8]
    obtain⟨ds3,B,hw,hd3,lB⟩:=xq (ds:=ds2) hd2 (n:=n) (R:=R) (v3:=v3) (v4:=v4) (v5:=some (.d x)) (A:=h8 n.toNat) (B:=[]) (by rw [lA];simp;lia)
    have c5:=L2.cut_len (xs:=B) (lo:=none) (hi:=some 5)
    have c7:=L2.cut_len (xs:=B) (lo:=none) (hi:=some 7)
    have hr:∀v6 v7:Option Sv,gJ (ab (ae 1) ai) (hX ds2 n R v3 v4 (some (.d x)) v6 v7)=some (.l ((h8 n.toNat).map .int),hX ds2 n R v3 v4 (some (.d x)) v6 v7):=fun v6 v7=>by
      have nb:n≤100000:=by lia
      simp? [gJ,hX,h0,nb]
    refine⟨hX ds2 n R v3 v4 (some (.d x)) v6 v7,hX ds3 n (R++[.tuple (L2.cutD B none (some 5)),.tuple (L2.cutD B none (some 7))]) v3 v4 (some (.d x)) (some (.l [])) (some (.l B)),rfl,?_,aT,_,_,_,_,_,rfl,hd3,fun d hd=>?_,by simp;lia⟩
    · generalize hC5:L2.cutD B none (some 5)=C5 at*
      generalize hC7:L2.cutD B none (some 7)=C7 at*
      have lq:R.length+2≤1000000:=by lia
      have gs:∀(e:En) (xs:List PyData) (lo hi:Option Int),e[7]?=some (some (.l xs))→DH e (.s 7) lo hi=some (.l (L2.cutD xs lo hi)):=fun e xs lo hi he=>by simp [DH,cZ,he]
      unfold hX at hw hr ⊢
      generalize (h8 n.toNat).map PyData.int=RG at*
      generalize ds2.map PyData.int=D2 at*
      generalize ds3.map PyData.int=D3 at*
      simp? [eZ,hr,hw,gS,gs,hC5,hC7,lq]
    · rcases List.mem_append.mp hd with z | z
      · exact hs d z
      · simp only [List.mem_cons,List.not_mem_nil,or_false] at z
        rcases z with rfl | rfl<;>intro es e<;>cases e<;>lia) ⟨ds,R1,none,none,none,rfl,hd,hs1,by lia⟩
  subst he2
  have hi3:j7 (hX ds n R1 v3 v4 none none none)=some (aC 0 12,[],hX ds n R1 v3 v4 none none none):=aW (n:=12) (by simp? [hX]) (by lia) (by lia)
  have hF2:=fun Wl=>bO (W:=Wl) (g:=ag 5) (f:=eZ) hi3
  rw [hf2] at hF2
  refine⟨ds2,R2,?_,hd2,hs2⟩
  unfold hX at hF1 hF2
  generalize ds.map PyData.int=DD at*
  generalize ds2.map PyData.int=D2 at*
  simp? [fW,mw,hF1,hF2]
abbrev hG(ns ds:List Int)(v2:Option Sv)(W:bj)(v4 v5 v6:Option Sv):En:=[some (.d (.list (ns.map .int))),some (.l (ds.map .int)),v2,some (.d (aQ W)),v4,v5,v6]
inductive LI (ns:List Int):En→Prop
  | mk {ds v2 v3 v4 v5 v6} (hd:gw ds):LI ns [some (.d (.list (ns.map .int))),some (.l (ds.map .int)),v2,v3,v4,v5,v6]
theorem w_(ns:List Int)(hl:ns.length≤63):∃as',mK [.d (.list (ns.map .int))]=some (.d (.bool true),as'):=by
  obtain⟨ds,td,hd⟩:=AB ns hl
  have bF:∀e:En,fP e (.d (.bool false)) (.d (.bool false))=some (.d (.bool false)):=fun e=>rfl
  have bT:∀e:En,fP e (.d (.bool true)) (.d (.bool true))=some (.d (.bool false)):=fun e=>rfl
  obtain⟨e2,h1,hI⟩:=bo (own:=[]) (g:=ag 2) (f:=DZ) (fun _=>LI ns) (aC 0 (2+min 5 (ns.length:Int)).toNat) 0 [some (.d (.list (ns.map .int))),some (.l (ds.map .int)),none,none,none,none,none] (fun i x e hx hI=>by
    obtain⟨hd⟩:=hI
    rename_i ds v2 v3 v4 v5 v6
    obtain⟨W,d1,tw,hd1,ok⟩:=sN ds 7 10 hd (by decide) (by decide) (by decide) (by decide)
    have g0':=Ef (W:=W)
    have t0:=ok.t0;have t1:=ok.t1
    obtain⟨k,R,ts,hc⟩:=vA ok
    refine⟨[some (.d (.list (ns.map .int))),some (.l (ds.map .int)),some (.d x),v3,v4,v5,v6],?_⟩
    rcases hc with ⟨rfl,hsd⟩ | ⟨rfl,hrg,hlR⟩
    · obtain⟨d2,Q,tq,hd2,hQ⟩:=sM hd1 (n:=W.things) t0 t1
      have tsd:=uw ok (.tuple (R.map .int))
      rw [hsd] at tsd
      obtain⟨e3,h3,⟨u6,he3⟩⟩:=bo (own:=[]) (g:=ag 6) (f:=FQ) (fun i e=>∃v6,e=hG ns d2 (some (.d x)) W (some (.d (.str "sides"))) (some (.d (.tuple (R.map .int)))) v6) Q 0 (hG ns d2 (some (.d x)) W (some (.d (.str "sides"))) (some (.d (.tuple (R.map .int)))) v6) (fun i y e hy ⟨v6,he⟩=>by
        subst he
        have sy:=hQ y (List.mem_of_getElem? hy)
        have r1:=yu ok y sy
        have rf:sE W y=false:=by
          cases c:sE W y with
          | false=>rfl
          | true=>exact(oH ok hsd c).elim
        rw [rf] at r1
        refine⟨hG ns d2 (some (.d x)) W (some (.d (.str "sides"))) (some (.d (.tuple (R.map .int)))) (some (.d y)),hG ns d2 (some (.d x)) W (some (.d (.str "sides"))) (some (.d (.tuple (R.map .int)))) (some (.d y)),rfl,?_,aT,_,rfl⟩
        simp only [hG]
        generalize R.map PyData.int=RR at*
        generalize aQ W=WW at*
        simp? [FQ,r1,bF]) ⟨v6,rfl⟩
      subst he3
      have hi:GY (hG ns d1 (some (.d x)) W (some (.d (.str "sides"))) (some (.d (.tuple (R.map .int)))) v6)=some (Q,[],hG ns d2 (some (.d x)) W (some (.d (.str "sides"))) (some (.d (.tuple (R.map .int)))) v6):=by
        refine wN ?_
        simp only [hG]
        generalize R.map PyData.int=RR at*
        generalize aQ W=WW at*
        simp? [g0',tq]
      have hF:=fun Wl=>bO (W:=Wl) (g:=ag 6) (f:=FQ) hi
      rw [h3] at hF
      refine⟨hG ns d2 (some (.d x)) W (some (.d (.str "sides"))) (some (.d (.tuple (R.map .int)))) u6,rfl,?_,aT,.mk hd2⟩
      have gq:∀e:En,cE false e (.d (.str "sides")) (.d (.str "sides"))=some (.d (.bool true)):=fun e=>zb (by decide+kernel)
      simp only [hG] at hF ⊢
      generalize R.map PyData.int=RR at*
      generalize aQ W=WW at*
      simp? [DZ,tw,ts,gq,tsd,bT,hF]
    · obtain⟨Q,tq,hQ⟩:=sL (n:=W.things) t0 t1
      have trg:=yu ok (.tuple (R.map .int)) (fun es e=>by cases e;rw [List.length_map];exact hlR)
      rw [hrg] at trg
      obtain⟨e3,h3,⟨u6,he3⟩⟩:=bo (own:=[]) (g:=ag 6) (f:=FR) (fun i e=>∃v6,e=hG ns d1 (some (.d x)) W (some (.d (.str "ring"))) (some (.d (.tuple (R.map .int)))) v6) Q 0 (hG ns d1 (some (.d x)) W (some (.d (.str "ring"))) (some (.d (.tuple (R.map .int)))) v6) (fun i y e hy ⟨v6,he⟩=>by
        subst he
        have r1:=uw ok y
        have rf:vq W y=false:=by
          cases c:vq W y with
          | false=>rfl
          | true=>exact(oH ok c hrg).elim
        rw [rf] at r1
        refine⟨hG ns d1 (some (.d x)) W (some (.d (.str "ring"))) (some (.d (.tuple (R.map .int)))) (some (.d y)),hG ns d1 (some (.d x)) W (some (.d (.str "ring"))) (some (.d (.tuple (R.map .int)))) (some (.d y)),rfl,?_,aT,_,rfl⟩
        simp only [hG]
        generalize R.map PyData.int=RR at*
        generalize aQ W=WW at*
        simp? [FR,r1,bF]) ⟨v6,rfl⟩
      subst he3
      have hi:GZ (hG ns d1 (some (.d x)) W (some (.d (.str "ring"))) (some (.d (.tuple (R.map .int)))) v6)=some (Q,[],hG ns d1 (some (.d x)) W (some (.d (.str "ring"))) (some (.d (.tuple (R.map .int)))) v6):=by
        refine wN ?_
        simp only [hG]
        generalize R.map PyData.int=RR at*
        generalize aQ W=WW at*
        simp? [g0',tq]
      have hF:=fun Wl=>bO (W:=Wl) (g:=ag 6) (f:=FR) hi
      rw [h3] at hF
      refine⟨hG ns d1 (some (.d x)) W (some (.d (.str "ring"))) (some (.d (.tuple (R.map .int)))) u6,rfl,?_,aT,.mk hd1⟩
      have gq:∀e:En,cE false e (.d (.str "ring")) (.d (.str "sides"))=some (.d (.bool false)):=fun e=>by with_unfolding_all rfl
      have gr:∀e:En,cE true e (.d (.str "ring")) (.d (.str "ring"))=some (.d (.bool false)):=fun e=>wA (by decide+kernel)
      simp only [hG] at hF ⊢
      generalize R.map PyData.int=RR at*
      generalize aQ W=WW at*
      simp? [DZ,tw,ts,gq,gr,trg,bT,hF]) (.mk hd)
  obtain⟨hd2⟩:=hI
  rename_i ds2 v2 v3 v4 v5 v6
  have hi:G0 [some (.d (.list (ns.map .int))),some (.l (ds.map .int)),none,none,none,none,none]=some (aC 0 (2+min 5 (ns.length:Int)).toNat,[],[some (.d (.list (ns.map .int))),some (.l (ds.map .int)),none,none,none,none,none]):=aW (n:=2+min 5 (ns.length:Int)) (by simp? [List.replicate]) (by lia) (by lia)
  have hfor:=fun Wl=>bO (W:=Wl) (g:=ag 2) (f:=DZ) hi
  rw [h1] at hfor
  simp? [mK,AV,td,hfor]
def kE(P:Params)(k:Str)(t:Tok)(v:Value):DictEntry:=⟨PyData.keyHash P k,.str k t,v⟩
def kF(n:Str)(s:Stmt)(doc pm:Value)(c:Addr):Obj:=⟨.type "function",none,.func (W.fnOf n n (dM s) (cS s) (aj s) .none .none doc pm none (.ref c) .none),#[]⟩
def kI(n:Int):Value:=.int n 0
def kC(n:Str)(a:Nat)(l:List Value)(z:Nat):Obj:=⟨.type "code",none,.fields (Value.str n a::Value.str n (a+1)::Value.str "/claim/cut.py" (a+2)::l++[Value.str "/claim/cut.py" z]).toArray,#[]⟩
def yM:Value:=.str "askedpairs.sides" 187
def Bh:Value:=.str "askedpairs.forms" 222
def DK:Value:=.str "askedpairs.sidepaper" 254
def jp:Value:=.str "law_askedpairs_k66_whole_sides_or_ring" 276
def kK(P:Params):W.Frag:=[(3,⟨.type "dict",none,.dict (List.toArray [kE P "__name__" 165 (.str "law_askedpairs_k66_whole_sides_or_ring" 276),kE P "__doc__" 166 (.none),kE P "__package__" 167 (.none),kE P "__loader__" 168 (.builtin "__main__.__loader__#opaque"),kE P "__spec__" 169 (.none),kE P "__annotations__" 170 (.ref 6),kE P "__builtins__" 171 (.ref 4),kE P "__file__" 173 (.str "/claim/cut.py" 172),kE P "__cached__" 174 (.none),kE P "things_tied_to" 194 (.ref 19),kE P "walked_from" 200 (.ref 24),kE P "way_back" 209 (.ref 31),kE P "ring_of" 215 (.ref 36),kE P "sides" 221 (.ref 41),kE P "is_number" 230 (.ref 48),kE P "is_number_within" 239 (.ref 55),kE P "is_row_of" 247 (.ref 62),kE P "is_unlike_row" 253 (.ref 67),kE P "LEAST_OF_RING" 257 (.int (3) 256),kE P "sides_hold" 263 (.ref 72),kE P "are_tied" 269 (.ref 77),kE P "ring_holds" 275 (.ref 82),kE P "_law_mixed" 286 (.ref 89),kE P "_law_draws" 297 (.ref 96),kE P "_law_next" 304 (.ref 103),kE P "_law_gcd" 312 (.ref 110),kE P "_law_low" 321 (.ref 117),kE P "_law_chance" 330 (.ref 124),kE P "_law_worth" 338 (.ref 131),kE P "_law_ties" 357 (.ref 138),kE P "_law_web" 373 (.ref 145),kE P "_law_two_sided" 379 (.ref 150),kE P "_law_mates" 392 (.ref 157),kE P "_law_are_sides" 398 (.ref 162),kE P "_law_is_ring" 404 (.ref 167),kE P "_law_across" 421 (.ref 174),kE P "_law_renamed" 438 (.ref 181),kE P "_law_round" 451 (.ref 188),kE P "_law_side_web" 464 (.ref 195),kE P "_law_all_rows" 470 (.ref 200),kE P "_law_odd_rows" 476 (.ref 205),kE P "law" 489 (.ref 212)]) 42,#[]⟩),
  (19,kF "things_tied_to" bE (.none) yM 18),
  (18,kC "things_tied_to" 189 [kI 2,kI 2,kI 0,kI 0,kI 3,.ref 15,.bool true,kI 181,.ref 16,.none,.none,.none,.ref 17,kI 192,kI 2] 193),
  (24,kF "walked_from" cx (.none) yM 23),
  (23,kC "walked_from" 195 [kI 4,kI 1,kI 0,kI 0,kI 3,.ref 20,.bool true,kI 181,.ref 21,.none,.none,.none,.ref 22,kI 198,kI 4] 199),
  (31,kF "way_back" gj (.none) yM 30),
  (30,kC "way_back" 201 [kI 14,kI 2,kI 0,kI 0,kI 3,.ref 25,.bool true,kI 181,.ref 26,.none,.ref 27,.ref 28,.ref 29,kI 207,kI 14] 208),
  (36,kF "ring_of" fJ (.none) yM 35),
  (35,kC "ring_of" 210 [kI 20,kI 2,kI 0,kI 0,kI 3,.ref 32,.bool true,kI 181,.ref 33,.none,.none,.none,.ref 34,kI 213,kI 20] 214),
  (41,kF "sides" iD (.none) yM 40),
  (40,kC "sides" 216 [kI 23,kI 1,kI 0,kI 0,kI 3,.ref 37,.bool true,kI 181,.ref 38,.none,.none,.none,.ref 39,kI 219,kI 23] 220),
  (48,kF "is_number" eL (.none) Bh 47),
  (47,kC "is_number" 224 [kI 32,kI 1,kI 0,kI 0,kI 3,.ref 42,.bool true,kI 181,.ref 43,.none,.ref 44,.ref 45,.ref 46,kI 228,kI 32] 229),
  (55,kF "is_number_within" bh (.none) Bh 54),
  (54,kC "is_number_within" 231 [kI 34,kI 3,kI 0,kI 0,kI 3,.ref 49,.bool true,kI 181,.ref 50,.none,.ref 51,.ref 52,.ref 53,kI 237,kI 34] 238),
  (62,kF "is_row_of" eM (.none) Bh 61),
  (61,kC "is_row_of" 240 [kI 36,kI 2,kI 0,kI 0,kI 3,.ref 56,.bool true,kI 181,.ref 57,.none,.ref 58,.ref 59,.ref 60,kI 245,kI 36] 246),
  (67,kF "is_unlike_row" bL (.none) Bh 66),
  (66,kC "is_unlike_row" 248 [kI 38,kI 2,kI 0,kI 0,kI 3,.ref 63,.bool true,kI 181,.ref 64,.none,.none,.none,.ref 65,kI 251,kI 38] 252),
  (72,kF "sides_hold" cc (.none) DK 71),
  (71,kC "sides_hold" 258 [kI 44,kI 2,kI 0,kI 0,kI 3,.ref 68,.bool true,kI 181,.ref 69,.none,.none,.none,.ref 70,kI 261,kI 44] 262),
  (77,kF "are_tied" eh (.none) DK 76),
  (76,kC "are_tied" 264 [kI 48,kI 3,kI 0,kI 0,kI 3,.ref 73,.bool true,kI 181,.ref 74,.none,.none,.none,.ref 75,kI 267,kI 48] 268),
  (82,kF "ring_holds" cV (.none) DK 81),
  (81,kC "ring_holds" 270 [kI 50,kI 2,kI 0,kI 0,kI 3,.ref 78,.bool true,kI 181,.ref 79,.none,.none,.none,.ref 80,kI 273,kI 50] 274),
  (89,kF "_law_mixed" ko (.none) jp 88),
  (88,kC "_law_mixed" 278 [kI 55,kI 2,kI 0,kI 0,kI 3,.ref 83,.bool true,kI 181,.ref 84,.none,.ref 85,.ref 86,.ref 87,kI 284,kI 55] 285),
  (96,kF "_law_draws" kn (.none) jp 95),
  (95,kC "_law_draws" 287 [kI 58,kI 1,kI 0,kI 0,kI 3,.ref 90,.bool true,kI 181,.ref 91,.none,.ref 92,.ref 93,.ref 94,kI 295,kI 58] 296),
  (103,kF "_law_next" gf (.none) jp 102),
  (102,kC "_law_next" 298 [kI 71,kI 1,kI 0,kI 0,kI 3,.ref 97,.bool true,kI 181,.ref 98,.none,.ref 99,.ref 100,.ref 101,kI 302,kI 71] 303),
  (110,kF "_law_gcd" qZ (.none) jp 109),
  (109,kC "_law_gcd" 305 [kI 75,kI 2,kI 0,kI 0,kI 3,.ref 104,.bool true,kI 181,.ref 105,.none,.ref 106,.ref 107,.ref 108,kI 310,kI 75] 311),
  (117,kF "_law_low" q5 (.none) jp 116),
  (116,kC "_law_low" 313 [kI 79,kI 2,kI 0,kI 0,kI 3,.ref 111,.bool true,kI 181,.ref 112,.none,.ref 113,.ref 114,.ref 115,kI 319,kI 79] 320),
  (124,kF "_law_chance" f_ (.none) jp 123),
  (123,kC "_law_chance" 322 [kI 82,kI 2,kI 0,kI 0,kI 3,.ref 118,.bool true,kI 181,.ref 119,.none,.ref 120,.ref 121,.ref 122,kI 328,kI 82] 329),
  (131,kF "_law_worth" iC (.none) jp 130),
  (130,kC "_law_worth" 331 [kI 92,kI 2,kI 0,kI 0,kI 3,.ref 125,.bool true,kI 181,.ref 126,.none,.ref 127,.ref 128,.ref 129,kI 336,kI 92] 337),
  (138,kF "_law_ties" lj (.none) jp 137),
  (137,kC "_law_ties" 339 [kI 94,kI 3,kI 0,kI 0,kI 3,.ref 132,.bool true,kI 181,.ref 133,.none,.ref 134,.ref 135,.ref 136,kI 355,kI 94] 356),
  (145,kF "_law_web" q_ (.none) jp 144),
  (144,kC "_law_web" 358 [kI 109,kI 3,kI 0,kI 0,kI 3,.ref 139,.bool true,kI 181,.ref 140,.none,.ref 141,.ref 142,.ref 143,kI 371,kI 109] 372),
  (174,kF "_law_across" i7 (.none) jp 173),
  (173,kC "_law_across" 405 [kI 156,kI 3,kI 0,kI 0,kI 3,.ref 168,.bool true,kI 181,.ref 169,.none,.ref 170,.ref 171,.ref 172,kI 419,kI 156] 420),
  (181,kF "_law_renamed" fH (.none) jp 180),
  (180,kC "_law_renamed" 422 [kI 167,kI 3,kI 0,kI 0,kI 3,.ref 175,.bool true,kI 181,.ref 176,.none,.ref 177,.ref 178,.ref 179,kI 436,kI 167] 437),
  (188,kF "_law_round" kr (.none) jp 187),
  (187,kC "_law_round" 439 [kI 176,kI 3,kI 0,kI 0,kI 3,.ref 182,.bool true,kI 181,.ref 183,.none,.ref 184,.ref 185,.ref 186,kI 449,kI 176] 450),
  (195,kF "_law_side_web" gh (.none) jp 194),
  (194,kC "_law_side_web" 452 [kI 183,kI 3,kI 0,kI 0,kI 3,.ref 189,.bool true,kI 181,.ref 190,.none,.ref 191,.ref 192,.ref 193,kI 462,kI 183] 463),
  (200,kF "_law_all_rows" dw (.none) jp 199),
  (199,kC "_law_all_rows" 465 [kI 197,kI 1,kI 0,kI 0,kI 3,.ref 196,.bool true,kI 181,.ref 197,.none,.none,.none,.ref 198,kI 468,kI 197] 469),
  (205,kF "_law_odd_rows" ef (.none) jp 204),
  (204,kC "_law_odd_rows" 471 [kI 202,kI 2,kI 0,kI 0,kI 3,.ref 201,.bool true,kI 181,.ref 202,.none,.none,.none,.ref 203,kI 474,kI 202] 475),
  (212,kF "law" mU (.none) jp 211),
  (211,kC "law" 477 [kI 214,kI 1,kI 0,kI 0,kI 3,.ref 206,.bool true,kI 181,.ref 207,.none,.ref 208,.ref 209,.ref 210,kI 487,kI 214] 488)]
def kA:List Addr:=[3,19,18,24,23,31,30,36,35,41,40,48,47,55,54,62,61,67,66,72,71,77,76,82,81,89,88,96,95,103,102,110,109,117,116,124,123,131,130,138,137,145,144,174,173,181,180,188,187,195,194,200,199,205,204,212,211]
def kq:Program:={PySem.Challenge.pw_askedpairs_k66_whole_sides_or_ring with main:={PySem.Challenge.pw_askedpairs_k66_whole_sides_or_ring.main with body:=[top 1,top 2,top 3,top 4,top 5,top 7,top 8,top 9,top 10,top 12,top 13,top 14,top 15,top 17,top 18,top 19,top 20,top 21,top 22,top 23,top 24,top 25,top 26,top 27,top 28,top 29,top 30,top 31,top 32,top 33,top 34,top 35,top 36]}}
def kH:W.Hook:=W.kHook kK kA (fun _=>by kernel_rfl)
theorem left:W.LeftO PySem.Challenge.pw_askedpairs_k66_whole_sides_or_ring kq [] (fun s=>W.xlAt kq [] s&&W.recOk (W.RowW.records (W.OpenRow.toRowW (W.OpenLaw.row PySem.Challenge.rw_askedpairs_k66_whole_sides_or_ring))) s) (W.Hook.obs kH) (W.Hook.val kH) 2158:=fun w=>by kernel_rfl
theorem Ci{P:List Value→Prop}(h:∀a0,P [a0]):∀us:List Value,us.length=1→P us:=fun us e=>match us,e with | [a0],_=>h a0
theorem uY{P:List Value→Prop}(h:∀a0 a1,P [a0,a1]):∀us:List Value,us.length=2→P us:=fun us e=>match us,e with | [a0,a1],_=>h a0 a1
theorem Bk{P:List Value→Prop}(h:∀a0 a1 a2,P [a0,a1,a2]):∀us:List Value,us.length=3→P us:=fun us e=>match us,e with | [a0,a1,a2],_=>h a0 a1 a2
theorem hm{w:World}{h:Heap}{mg:Str→Option Value}{n:Str}{s:Stmt}{a:Addr}{ps:List Str}(c:Addr)(d p:Value)(X:(kK w.params).In h)(G:h.Ns mainGlobals mg)
    (e:(W.nsIn (kK w.params) mainGlobals n,List.lookup a (kK w.params),W.codeIn (kK w.params) (.ref c) n,W.keepIn (kK w.params) (.ref a))=(some (some (.ref a)),some (kF n s d p c),true,true))
    (b:∀(kV doc pm:Value) (an:Option Addr) (cdv ct:Value) (us:List Value),us.length=ps.length→bindArgs (W.fnOf n n (dM s) (cS s) (aj s) .none kV doc pm an cdv ct) ⟨us,[]⟩=pure (ps.zip us)):
    bx (kK w.params) mg n s a (W.fnOf n n (dM s) (cS s) (aj s) .none .none d p none (.ref c) .none) ps:=B4 X G (congrArg (·.1) e) (congrArg (·.2.1) e) (congrArg (·.2.2.1) e) (congrArg (·.2.2.2) e) b
theorem all_mk{l:W.OpenLaw}{w:World}{h:Heap}{mg:Str→Option Value}{fa:Addr}(X:(kK w.params).In h)(G:h.Ns mainGlobals mg)(hfa:mg "law"=some (.ref fa)):
    ∃fd:FuncData,(∀(s:Shared) (v:Value),BindsTo s fd ⟨[v],[]⟩ [("_law_script",v)])∧∀base:Heap,(kK w.params).In base→base.Ns mainGlobals mg→aL l.prog w (kK w.params) mg base cf 7 fa fd ["_law_script"] (cy (kK w.params) 1 mK):=by
  have e:=hfa.symm.trans (W.mg_of X G (show W.nsIn (kK w.params) mainGlobals "law"=some (some (.ref 212)) by kernel_rfl))
  cases e
  have T:jM mg:=⟨W.mg_none_of X G (show W.nsIn (kK w.params) mainGlobals "abs"=some none by kernel_rfl),W.mg_none_of X G (show W.nsIn (kK w.params) mainGlobals "len"=some none by kernel_rfl),W.mg_none_of X G (show W.nsIn (kK w.params) mainGlobals "min"=some none by kernel_rfl),W.mg_none_of X G (show W.nsIn (kK w.params) mainGlobals "max"=some none by kernel_rfl),W.mg_none_of X G (show W.nsIn (kK w.params) mainGlobals "range"=some none by kernel_rfl),W.mg_none_of X G (show W.nsIn (kK w.params) mainGlobals "tuple"=some none by kernel_rfl),W.mg_none_of X G (show W.nsIn (kK w.params) mainGlobals "int"=some none by kernel_rfl),W.mg_none_of X G (show W.nsIn (kK w.params) mainGlobals "zip"=some none by kernel_rfl),W.mg_none_of X G (show W.nsIn (kK w.params) mainGlobals "isinstance"=some none by kernel_rfl),W.mg_none_of X G (show W.nsIn (kK w.params) mainGlobals "bool"=some none by kernel_rfl),W.mg_none_of X G (show W.nsIn (kK w.params) mainGlobals "set"=some none by kernel_rfl),W.mg_none_of X G (show W.nsIn (kK w.params) mainGlobals "any"=some none by kernel_rfl),W.mg_none_of X G (show W.nsIn (kK w.params) mainGlobals "all"=some none by kernel_rfl),W.mg_none_of X G (show W.nsIn (kK w.params) mainGlobals "list"=some none by kernel_rfl)⟩
  have h_things_tied_to:bx (kK w.params) mg "things_tied_to" bE 19 _ ["web","thing"]:=hm 18 (.none) yM X G (by kernel_rfl) fun _ _ _ _ _ _=>uY fun _ _=>rfl
  have h_walked_from:bx (kK w.params) mg "walked_from" cx 24 _ ["web"]:=hm 23 (.none) yM X G (by kernel_rfl) fun _ _ _ _ _ _=>Ci fun _=>rfl
  have h_way_back:bx (kK w.params) mg "way_back" gj 31 _ ["before","thing"]:=hm 30 (.none) yM X G (by kernel_rfl) fun _ _ _ _ _ _=>uY fun _ _=>rfl
  have h_ring_of:bx (kK w.params) mg "ring_of" fJ 36 _ ["way","other"]:=hm 35 (.none) yM X G (by kernel_rfl) fun _ _ _ _ _ _=>uY fun _ _=>rfl
  have h_sides:bx (kK w.params) mg "sides" iD 41 _ ["web"]:=hm 40 (.none) yM X G (by kernel_rfl) fun _ _ _ _ _ _=>Ci fun _=>rfl
  have h_is_number:bx (kK w.params) mg "is_number" eL 48 _ ["thing"]:=hm 47 (.none) Bh X G (by kernel_rfl) fun _ _ _ _ _ _=>Ci fun _=>rfl
  have h_is_number_within:bx (kK w.params) mg "is_number_within" bh 55 _ ["thing","low","high"]:=hm 54 (.none) Bh X G (by kernel_rfl) fun _ _ _ _ _ _=>Bk fun _ _ _=>rfl
  have h_is_row_of:bx (kK w.params) mg "is_row_of" eM 62 _ ["thing","many"]:=hm 61 (.none) Bh X G (by kernel_rfl) fun _ _ _ _ _ _=>uY fun _ _=>rfl
  have h_is_unlike_row:bx (kK w.params) mg "is_unlike_row" bL 67 _ ["thing","many"]:=hm 66 (.none) Bh X G (by kernel_rfl) fun _ _ _ _ _ _=>uY fun _ _=>rfl
  have h_sides_hold:bx (kK w.params) mg "sides_hold" cc 72 _ ["web","thing"]:=hm 71 (.none) DK X G (by kernel_rfl) fun _ _ _ _ _ _=>uY fun _ _=>rfl
  have h_are_tied:bx (kK w.params) mg "are_tied" eh 77 _ ["web","one","other"]:=hm 76 (.none) DK X G (by kernel_rfl) fun _ _ _ _ _ _=>Bk fun _ _ _=>rfl
  have h_ring_holds:bx (kK w.params) mg "ring_holds" cV 82 _ ["web","thing"]:=hm 81 (.none) DK X G (by kernel_rfl) fun _ _ _ _ _ _=>uY fun _ _=>rfl
  have hLmixed:bx (kK w.params) mg "_law_mixed" ko 89 _ ["_law_cell","_law_k"]:=hm 88 (.none) jp X G (by kernel_rfl) fun _ _ _ _ _ _=>uY fun _ _=>rfl
  have hLdraws:bx (kK w.params) mg "_law_draws" kn 96 _ ["_law_script"]:=hm 95 (.none) jp X G (by kernel_rfl) fun _ _ _ _ _ _=>Ci fun _=>rfl
  have hLnext:bx (kK w.params) mg "_law_next" gf 103 _ ["_law_drawn"]:=hm 102 (.none) jp X G (by kernel_rfl) fun _ _ _ _ _ _=>Ci fun _=>rfl
  have hLgcd:bx (kK w.params) mg "_law_gcd" qZ 110 _ ["_law_one","_law_other"]:=hm 109 (.none) jp X G (by kernel_rfl) fun _ _ _ _ _ _=>uY fun _ _=>rfl
  have hLlow:bx (kK w.params) mg "_law_low" q5 117 _ ["_law_top","_law_bottom"]:=hm 116 (.none) jp X G (by kernel_rfl) fun _ _ _ _ _ _=>uY fun _ _=>rfl
  have hLchance:bx (kK w.params) mg "_law_chance" f_ 124 _ ["_law_number","_law_kind"]:=hm 123 (.none) jp X G (by kernel_rfl) fun _ _ _ _ _ _=>uY fun _ _=>rfl
  have hLworth:bx (kK w.params) mg "_law_worth" iC 131 _ ["_law_number","_law_kind"]:=hm 130 (.none) jp X G (by kernel_rfl) fun _ _ _ _ _ _=>uY fun _ _=>rfl
  have hLties:bx (kK w.params) mg "_law_ties" lj 138 _ ["_law_drawn","_law_things","_law_many"]:=hm 137 (.none) jp X G (by kernel_rfl) fun _ _ _ _ _ _=>Bk fun _ _ _=>rfl
  have hLweb:bx (kK w.params) mg "_law_web" q_ 145 _ ["_law_drawn","_law_most","_law_ties_here"]:=hm 144 (.none) jp X G (by kernel_rfl) fun _ _ _ _ _ _=>Bk fun _ _ _=>rfl
  have hLacross:bx (kK w.params) mg "_law_across" i7 174 _ ["_law_numbers","_law_things","_law_many"]:=hm 173 (.none) jp X G (by kernel_rfl) fun _ _ _ _ _ _=>Bk fun _ _ _=>rfl
  have hLrenamed:bx (kK w.params) mg "_law_renamed" fH 181 _ ["_law_numbers","_law_things","_law_ties_here"]:=hm 180 (.none) jp X G (by kernel_rfl) fun _ _ _ _ _ _=>Bk fun _ _ _=>rfl
  have hLround:bx (kK w.params) mg "_law_round" kr 188 _ ["_law_numbers","_law_things","_law_size"]:=hm 187 (.none) jp X G (by kernel_rfl) fun _ _ _ _ _ _=>Bk fun _ _ _=>rfl
  have hLside_web:bx (kK w.params) mg "_law_side_web" gh 195 _ ["_law_numbers","_law_most","_law_many"]:=hm 194 (.none) jp X G (by kernel_rfl) fun _ _ _ _ _ _=>Bk fun _ _ _=>rfl
  have hLall_rows:bx (kK w.params) mg "_law_all_rows" dw 200 _ ["_law_many"]:=hm 199 (.none) jp X G (by kernel_rfl) fun _ _ _ _ _ _=>Ci fun _=>rfl
  have hLodd_rows:bx (kK w.params) mg "_law_odd_rows" ef 205 _ ["_law_numbers","_law_things"]:=hm 204 (.none) jp X G (by kernel_rfl) fun _ _ _ _ _ _=>uY fun _ _=>rfl
  have h_law:bx (kK w.params) mg "law" mU 212 _ ["_law_script"]:=hm 211 (.none) jp X G (by kernel_rfl) fun _ _ _ _ _ _=>Ci fun _=>rfl
  have m_LEAST_OF_RING:=W.mg_of X G (show W.nsIn (kK w.params) mainGlobals "LEAST_OF_RING"=some (some (.int (3) 256)) by kernel_rfl)
  refine⟨W.fnOf "law" "law" (dM mU) (cS mU) (aj mU) .none .none (.none) jp none (.ref 211) .none,fun s v=>.of_eq rfl,fun base _ _=>?_⟩
  have G_things_tied_to:=ke (P:=l.prog) (w:=w) (base:=base) h_things_tied_to T
  have G_walked_from:=mN (P:=l.prog) (w:=w) (base:=base) h_walked_from T h_things_tied_to G_things_tied_to
  have G_way_back:=qU (P:=l.prog) (w:=w) (base:=base) h_way_back T
  have G_ring_of:=sk (P:=l.prog) (w:=w) (base:=base) h_ring_of T
  have G_sides:=xx (P:=l.prog) (w:=w) (base:=base) h_sides T h_walked_from G_walked_from h_way_back G_way_back h_ring_of G_ring_of
  have G_is_number:=pI (P:=l.prog) (w:=w) (base:=base) h_is_number T
  have G_is_number_within:=jq (P:=l.prog) (w:=w) (base:=base) h_is_number_within T h_is_number G_is_number
  have G_is_row_of:=pJ (P:=l.prog) (w:=w) (base:=base) h_is_row_of T
  have G_is_unlike_row:=k8 (P:=l.prog) (w:=w) (base:=base) h_is_unlike_row T h_is_number_within G_is_number_within
  have G_sides_hold:=nF (P:=l.prog) (w:=w) (base:=base) h_sides_hold T h_is_row_of G_is_row_of h_is_number_within G_is_number_within
  have G_are_tied:=qS (P:=l.prog) (w:=w) (base:=base) h_are_tied T
  have G_ring_holds:=nD (P:=l.prog) (w:=w) (base:=base) h_ring_holds T h_is_unlike_row G_is_unlike_row h_are_tied G_are_tied m_LEAST_OF_RING
  have GLmixed:=xt (P:=l.prog) (w:=w) (base:=base) hLmixed T
  have GLdraws:=xr (P:=l.prog) (w:=w) (base:=base) hLdraws T hLmixed GLmixed
  have GLnext:=zz (P:=l.prog) (w:=w) (base:=base) hLnext T
  have GLgcd:=Cr (P:=l.prog) (w:=w) (base:=base) hLgcd T
  have GLlow:=Cs (P:=l.prog) (w:=w) (base:=base) hLlow T hLgcd GLgcd
  have GLchance:=va (P:=l.prog) (w:=w) (base:=base) hLchance T hLlow GLlow
  have GLworth:=xw (P:=l.prog) (w:=w) (base:=base) hLworth T
  have GLties:=zA (P:=l.prog) (w:=w) (base:=base) hLties T hLnext GLnext hLchance GLchance hLworth GLworth
  have GLweb:=Ct (P:=l.prog) (w:=w) (base:=base) hLweb T hLties GLties hLnext GLnext
  have GLacross:=u_ (P:=l.prog) (w:=w) (base:=base) hLacross T hLnext GLnext hLchance GLchance hLworth GLworth
  have GLrenamed:=sj (P:=l.prog) (w:=w) (base:=base) hLrenamed T hLnext GLnext
  have GLround:=xu (P:=l.prog) (w:=w) (base:=base) hLround T hLrenamed GLrenamed hLnext GLnext hLchance GLchance hLworth GLworth
  have GLside_web:=qR (P:=l.prog) (w:=w) (base:=base) hLside_web T hLrenamed GLrenamed hLnext GLnext hLweb GLweb hLacross GLacross hLround GLround hLties GLties
  have GLall_rows:=qO (P:=l.prog) (w:=w) (base:=base) hLall_rows T
  have GLodd_rows:=qQ (P:=l.prog) (w:=w) (base:=base) hLodd_rows T hLnext GLnext
  have G_law:=Cu (P:=l.prog) (w:=w) (base:=base) h_law T hLdraws GLdraws hLside_web GLside_web h_sides G_sides hLodd_rows GLodd_rows hLall_rows GLall_rows h_sides_hold G_sides_hold h_ring_holds G_ring_holds
  exact G_law
def Ff(K:W.Frag):Sp:=fun vs H Q _=>∃(a:Addr) (ns:List Int),vs=[.ref a]∧gA K H a (ns.map V.int)∧ns.length≤63∧∀H',Q (.bl true) H'
theorem Cf{K:W.Frag}{vs:List V}{H:Hp}{Q:VK}{E:XK}(h:Ff K vs H Q E):cy K 1 mK vs H Q E:=by
  obtain⟨a,ns,rfl,hS,hl,q⟩:=h
  obtain⟨as',hm⟩:=w_ ns hl
  exact sJ hS hm q
theorem walk{l:W.OpenLaw}{q:Program}{loose:List Str}{XP:(Str→Option Value)→Heap→Prop}{YP:World→Heap→Prop}{d:DefRec}{K:Params→W.Frag}(hn:l.most=some 63)(hdf:d.params.defaults=[])
    (hY:∀(w:World) (h:Heap),YP w h→(K w.params).In h)
    (F:∀(w:World) (mg:Str→Option Value) (fa:Addr) (h:Heap),(K w.params).In h→h.Ns mainGlobals mg→mg d.name=some (.ref fa)→
      ∃fd:FuncData,(∀(s:Shared) (u:Value),BindsTo s fd ⟨[u],[]⟩ [("_law_script",u)])∧∀base:Heap,(K w.params).In base→base.Ns mainGlobals mg→aL l.prog w (K w.params) mg base cf 7 fa fd ["_law_script"] (cy (K w.params) 1 mK)):
    W.WalkO q loose XP YP l.row.toRowW d [] (fun f vs=>PySem.call f vs):=
  L2.walk_of (n:=63) (k:=7) (x:="_law_script") (CX:=fun _=>cf) (sp:=fun w=>cy (K w.params) 1 mK) hn (by decide) hdf ⟨rfl,by decide,by decide,rfl⟩ hY F (fun _ _ a ns hl _ hS=>Cf ⟨a,ns,rfl,hS,hl,fun _=>rfl⟩) fun _ _ _ _ _ z=>z
end V66
open PySem PySem.W PyProof.Rows
set_option maxRecDepth 100000 in
set_option maxHeartbeats 0 in
theorem PySem.Challenge.cw_askedpairs_k66_whole_sides_or_ring_holds : PySem.Challenge.rw_askedpairs_k66_whole_sides_or_ring.Holds := by
  w_on;o_law
  refine holds_open (q:=V66.kq) (loose:=[]) (Xt:=fun s=>xlAt V66.kq [] s&&recOk (RowW.records (OpenRow.toRowW (OpenLaw.row PySem.Challenge.rw_askedpairs_k66_whole_sides_or_ring))) s) (XP:=XL V66.kq []) (Yf:=Hook.obs V66.kH) (Ya:=Hook.val V66.kH) (YP:=Hook.says V66.kH) (N:=2158) V66.left (Hook.of V66.kH) (Hook.keeps V66.kH) (fun s e=>xl_of s (Bool.and_eq_true_iff.mp e).1) XL.keeps (by rfl) (by rfl) (by rfl) (fun s e=>recFacts_of (Bool.and_eq_true_iff.mp e).2) (by rfl) (by assumption) (by decide+kernel) ⟨rfl,rfl,rfl,rfl,rfl,by decide+kernel⟩ ?hw ?hc
  case hw=>w_witness2
  case hc=>exact V66.walk (l:=PySem.Challenge.rw_askedpairs_k66_whole_sides_or_ring) rfl rfl (fun w h Y=>kIn_of Y) (fun w mg fa h KX G hmg=>V66.all_mk KX G hmg)
