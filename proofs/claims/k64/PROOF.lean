import PyProof.Rows.All
import Wide.All
import OpenK.AllK
import Wide.FinOn
import Lean
import PyProof.EqAt
import PyProof.EqKinds
import PyProof.TupleCall
import PyProof.ReprRoads
import PyProof.IsInstance
import PyProof.IsInstanceH
import PyProof.FitsBits
import PyProof.CompFree
import PyProof.Rows.SumAny
import PyProof.Rows.SortShell
import PyProof.Rows.TupAdd
import PyProof.NeKinds
import PyProof.ConsumeWalk
import PyProof.ZipIter
import PyProof.TupleIter
import PyProof.LayNew
import PyProof.Draws
import PyProof.EnumFor
import PyProof.EnumMake
import PyProof.ListRange
import PyProof.CollectIter
import KE.KRevIter
import PyProof.ListMulRoad
import PyProof.TupleOps
import PyProof.TupleOfStr
import PyProof.WalksMore
import PyProof.FactsAll.range_iterator
import PyProof.IsRules
import PyProof.CompUse
import PyProof.P3In
import PyProof.EqLayable
import KE.KIsAll
import PyProof.Rows.FactsN_isinstance
import PyProof.CallStr
import PyProof.Rows.StrWeight2
import PyProof.Rows.FStr
import PyProof.StrLawsRepr
import PyProof.Rows.SetFrom
import KE.KIntText
import KE.KRevSl
import PyProof.Rows.SeqMore2
import PySem.Challenge.RW_askedpairs_k64_heaviest_of_anything
set_option Elab.async false
set_option linter.all false
set_option maxRecDepth 100000
namespace L2
open PySem PySem.Spec PyProof.Rows
abbrev fX:=Sum Int Str
def lL:fX→Value→Bool
  | .inl k,v=>Value.isInt k v
  | .inr x,v=>Value.isStrOf x v
def Cg(w:World):fX→Int
  | .inl k=>hashInt k
  | .inr x=>hashStr w x
theorem bD:∀{k:fX} {v:Value},lL k v=true→(∃i t,k=Sum.inl i∧v=Value.int i t)∨(∃x t,k=Sum.inr x∧v=Value.str x t)
  | .inl i,v,h=>by
    obtain⟨t,e⟩:=Value.isInt_shape (k:=i) (v:=v) h
    exact .inl ⟨i,t,rfl,e⟩
  | .inr x,v,h=>by
    obtain⟨t,e⟩:=Value.isStrOf_shape (x:=x) (v:=v) h
    exact .inr ⟨x,t,rfl,e⟩
theorem rd(i:Int)(t:Tok):lL (.inl i) (.int i t)=true:=by simp [lL,Value.isInt]
theorem rf(x:Str)(t:Tok):lL (.inr x) (.str x t)=true:=by simp [lL,Value.isStrOf]
theorem yc(a b:Int):decide ((Sum.inl a:fX)=Sum.inl b)=(a==b):=by
  by_cases e:a=b
  · subst e;simp
  · have h:¬(Sum.inl a:fX)=Sum.inl b:=fun q=>e (Sum.inl.inj q)
    rw [decide_eq_false h]
    exact(beq_eq_false_iff_ne.mpr e).symm
theorem yf(a b:Str):decide ((Sum.inr a:fX)=Sum.inr b)=decide (a=b):=by
  by_cases e:a=b
  · subst e;simp
  · have h:¬(Sum.inr a:fX)=Sum.inr b:=fun q=>e (Sum.inr.inj q)
    rw [decide_eq_false h,decide_eq_false e]
theorem yd(a:Int)(b:Str):decide ((Sum.inl a:fX)=Sum.inr b)=false:=decide_eq_false (fun q=>nomatch q)
theorem ye(a:Str)(b:Int):decide ((Sum.inr a:fX)=Sum.inl b)=false:=decide_eq_false (fun q=>nomatch q)
def ef(prog:Program)(w:World):PySem.KeyKind prog w fX where
  is:=lL
  hash:=Cg w
  inj:=fun v a b ha hb=>by
    rcases bD ha with ⟨i,t,rfl,rfl⟩ | ⟨x,t,rfl,rfl⟩
    · rcases bD hb with ⟨j,u,rfl,e⟩ | ⟨y,u,rfl,e⟩
      · injection e with e1 _;rw [e1]
      · exact nomatch e
    · rcases bD hb with ⟨j,u,rfl,e⟩ | ⟨y,u,rfl,e⟩
      · exact nomatch e
      · injection e with e1 _;rw [e1]
  byValue:=fun k v h=>by
    rcases bD h with ⟨i,t,rfl,rfl⟩ | ⟨x,t,rfl,rfl⟩<;>rfl
  pyHash:=fun hv h=>by
    rcases bD hv with ⟨i,t,rfl,rfl⟩ | ⟨x,t,rfl,rfl⟩
    · exact wpAny_pyHash_int h
    · exact wpAny_pyHash_str h
  eqBool:=fun hu hv h=>by
    rcases bD hu with ⟨i,t,rfl,rfl⟩ | ⟨x,t,rfl,rfl⟩
    · rcases bD hv with ⟨j,u,rfl,rfl⟩ | ⟨y,u,rfl,rfl⟩
      · rw [yc] at h;exact wpAny_eqBool_int h
      · rw [yd] at h;exact SeqAt.EqAt.int_str i t y u _ _ _ _ h
    · rcases bD hv with ⟨j,u,rfl,rfl⟩ | ⟨y,u,rfl,rfl⟩
      · rw [ye] at h;exact SeqAt.EqAt.str_int x t j u _ _ _ _ h
      · rw [yf] at h;exact wpAny_eqBool_str h
  «strs»:=fun k x t v h=>by
    rcases bD h with ⟨i,u,rfl,e⟩ | ⟨y,u,rfl,e⟩
    · exact nomatch e
    · injection e with e1 _
      subst e1
      cases v<;>rfl
theorem nW(prog:Program)(w:World)(i:Int)(t:Tok):(ef prog w).is (.inl i) (.int i t)=true:=rd i t
theorem nX(prog:Program)(w:World)(x:Str)(t:Tok):(ef prog w).is (.inr x) (.str x t)=true:=rf x t
end L2
namespace L2
open PySem PySem.Spec PyProof.Rows
inductive V where
  | non | bl (b:Bool) | int (i:Int) | str (x:Str) | byt (b:Array UInt8) | flt (b:UInt64) | ref (a:Addr) | ty (n:String)
  deriving DecidableEq
def bf:V→Value→Prop
  | .non,u=>u=Value.none
  | .bl b,u=>u=Value.bool b
  | .int i,u=>∃t,u=Value.int i t
  | .str x,u=>∃t,u=Value.str x t
  | .byt b,u=>∃t,u=Value.bytes b t
  | .flt b,u=>∃t,u=Value.float b t
  | .ref a,u=>u=Value.ref a
  | .ty n,u=>u=Value.type n
abbrev aE:List V→List Value→Prop:=Paired bf
theorem aE.length{xs:List V}{us:List Value}(r:aE xs us):xs.length=us.length:=Paired.length r
theorem aE.get:∀{xs:List V} {us:List Value} {i:Nat} {x:V},aE xs us→xs[i]?=some x→∃u,us[i]?=some u∧bf x u
  | _,_,_,_,.nil,e=>by simp at e
  | _,_,0,_,.cons r _,e=>by simp at e;subst e;exact⟨_,rfl,r⟩
  | _,_,i+1,x,.cons _ t,e=>by
    obtain⟨u,h1,h2⟩:=aE.get (i:=i) (x:=x) t (by simpa using e)
    exact⟨u,by simpa using h1,h2⟩
theorem aE.set{x:V}{u:Value}(r:bf x u):∀{xs:List V} {us:List Value} (i:Nat),aE xs us→aE (xs.set i x) (us.set i u)
  | _,_,_,.nil=>.nil
  | _,_,0,.cons _ t=>.cons r t
  | _,_,i+1,.cons q t=>.cons q (aE.set r i t)
theorem aE.append:∀{xs ys:List V} {us ws:List Value},aE xs us→aE ys ws→aE (xs++ys) (us++ws)
  | _,_,_,_,.nil,s=>s
  | _,_,_,_,.cons r t,s=>.cons r (aE.append t s)
theorem aE.take:∀{xs:List V} {us:List Value} (n:Nat),aE xs us→aE (xs.take n) (us.take n)
  | _,_,0,_=>.nil
  | _,_,_+1,.nil=>.nil
  | _,_,n+1,.cons r t=>.cons r (aE.take n t)
theorem aE.drop:∀{xs:List V} {us:List Value} (n:Nat),aE xs us→aE (xs.drop n) (us.drop n)
  | _,_,0,r=>r
  | _,_,_+1,.nil=>.nil
  | _,_,n+1,.cons _ t=>aE.drop n t
def zW:Option V→Option Value→Prop
  | some v,some u=>bf v u
  | none,none=>True
  | _,_=>False
def KV{κ:Type}:List (κ × V)→List (κ × Value)→Prop:=Paired fun(p:κ × V) (q:κ × Value)=>p.1=q.1∧bf p.2 q.2
def kV:fX→V
  | .inl i=>.int i
  | .inr x=>.str x
inductive HO where
  /-- a list -/
  | lst (xs:List V)
  /-- a tuple (never changes) -/
  | tup (xs:List V)
  /-- a dict whose keys are ints and texts; one whose keys are tuples of ints and texts (the empty one is both) -/
  | dK (kvs:List (fX × V)) | dT (kvs:List (List fX × V))
  /-- a set of ints: its members, its size -/
  | set (S:Int→Bool) (n:Nat)
  /-- an instance of the class at C, its dict at dx, its attributes -/
  | ins (C dx:Addr) (fs:List (Str × V))
  /-- the dict of the instance at x -/
  | own (x:Addr)
  /-- the dict of an exception -/
  | xd (fs:List (Str × V))
  /-- a bound method, f of x -/
  | met (f x:Addr)
  /-- a range object lo, lo + 1, .. below hi -/
  | rng (lo hi:Int)
  /-- a thing that is known to the object (the script; a dict while a loop walks it): read, never written while it is so -/
  | frz (o:Obj) (u:HO)
  /-- a code object's table -/
  | tbl (ps:Array Value)
  /-- any other thing, by what is true of its one object (a def of one's own: SetO a S n := HO.ext fun h => ..) -/
  | ext (φ:Heap→Prop)
abbrev Hp:=Addr→Option HO
def aX(H:Hp)(a:Addr)(o:HO):Hp:=fun b=>if b=a then some o else H b
theorem aq{H:Hp}{a:Addr}{o:HO}:aX H a o a=some o:=by unfold aX;rw [if_pos rfl]
theorem aJ{H:Hp}{a b:Addr}{o:HO}(h:b≠a):aX H a o b=H b:=by unfold aX;rw [if_neg h]
theorem d7{H:Hp}{a b:Addr}{o:HO}(h:H a=some o)(h':H b=none):a≠b:=by
  intro e;subst e;rw [h] at h';cases h'
def k_(h:Heap)(a:Addr)(items:Array Value):Prop:=∃o,h.get? a=some o∧o.cls=.type "tuple"∧∃n,o.data=.seq items n∧o.dict=none
theorem k_.tup{h:Heap}{a:Addr}{items:Array Value}(x:k_ h a items):IsTup h a items:=let ⟨o,ho,hc,n,hd,_⟩:=x;⟨o,ho,hc,n,hd⟩
theorem k_.new(h:Heap)(items:Array Value):k_ (h.push {cls:=.type "tuple",data:=.seq items}) h.objs.size items:=⟨_,Heap.get?_push_size _ rfl,rfl,_,rfl,rfl⟩
section
variable(P:Program)(w:World)
def cR(H:Hp)(h:Heap)(a:Addr):HO→Prop
  | .lst xs=>xs.length≤sizeLine∧∃(its:List Value) (n:Nat),aE xs its∧h.get? a=some {cls:=.type "list",data:=.seq its.toArray n}
  | .tup xs=>xs.length≤sizeLine∧∃its:List Value,aE xs its∧k_ h a its.toArray
  | .dK kvs=>kvs.length≤sizeLine∧(a==sysModules)=false∧∃vs,KV kvs vs∧h.DictOf (ef P w) a vs
  | .dT kvs=>kvs.length≤sizeLine∧(a==sysModules)=false∧∃xs:List (List fX × Addr × Value),
      Paired (fun(p:List fX × V) (q:List fX × Addr × Value)=>p.1=q.1∧H q.2.1=some (.tup (p.1.map kV))∧bf p.2 q.2.2) kvs xs∧
      ∃o es ep,h.get? a=some o∧o.ExactDict∧o.data=.dict es ep∧es.toList=xs.map (entryOfKey (tupleKind (ef P w)))∧(xs.map (·.1)).Nodup
  | .set S n=>h.SetOf (intKind P w) a S n
  | .ins C dx fs=>H dx=some (.own a)∧fs.length≤1000∧dx≠a∧h.get? a=some (PySem.W.instObj C dx)∧
      ∃mA,h.Ns1 dx mA∧(∀f,zW (fs.lookup f) (mA f))∧PySem.Within mA (fs.map (·.1))
  | .own _=>∃o,h.get? a=some o
  | .xd fs=>∃mA,h.Ns1 a mA∧∀f,zW (fs.lookup f) (mA f)
  | .rng lo hi=>∃t u v,h.get? a=some {cls:=.type "range",data:=.fields #[.int lo t,.int hi u,.int 1 v]}
  | .frz o u=>h.get? a=some o∧cR H h a u
  | .tbl ps=>h.get? a=some {cls:=.none,data:=.fields ps}
  | .met f x=>h.get? a=some (PySem.W.methodObj (.ref f) (.ref x))
  | .ext φ=>φ h∧(∃o,h.get? a=some o)∧∀h1 h2:Heap,φ h1→(∀o,h1.get? a=some o→h2.get? a=some o)→φ h2
def jT(H:Hp)(h:Heap):Prop:=∀a o,H a=some o→cR P w H h a o
end
section
variable{P:Program}{w:World}{H H':Hp}{h h':Heap}{a:Addr}{o:HO}
theorem cR.lt(x:cR P w H h a o):a < h.objs.size:=by
  cases o with
  | lst xs=>obtain⟨_,_,_,_,e⟩:=x;exact Heap.lt_size e
  | tup xs=>obtain⟨_,_,_,p⟩:=x;exact p.tup.lt
  | dK kvs=>obtain⟨_,_,_,_,o,_,_,e,_⟩:=x;exact Heap.lt_size e
  | dT kvs=>obtain⟨_,_,_,_,o,_,_,e,_⟩:=x;exact Heap.lt_size e
  | set S n=>obtain⟨o,_,_,_,e,_⟩:=x;exact Heap.lt_size e
  | ins C dx fs=>obtain⟨_,_,_,e,_⟩:=x;exact Heap.lt_size e
  | own y=>obtain⟨_,e⟩:=x;exact Heap.lt_size e
  | xd fs=>obtain⟨_,⟨_,_,_,e,_⟩,_⟩:=x;exact Heap.lt_size e
  | rng lo hi=>obtain⟨_,_,_,e⟩:=x;exact Heap.lt_size e
  | frz ob u=>obtain⟨e,_⟩:=x;exact Heap.lt_size e
  | tbl ps=>exact Heap.lt_size (show h.get? a=some _ from x)
  | met f y=>exact Heap.lt_size (show h.get? a=some _ from x)
  | ext φ=>obtain⟨_,⟨_,e⟩,_⟩:=x;exact Heap.lt_size e
theorem Paired.mapP{α β:Type}{F G:α→β→Prop}:∀{l₁:List α} {l₂:List β},Paired F l₁ l₂→(∀a b,F a b→G a b)→Paired G l₁ l₂
  | _,_,.nil,_=>.nil
  | _,_,.cons r t,f=>.cons (f _ _ r) (Paired.mapP t f)
theorem cR.stay(x:cR P w H h a o)(k:∀b u,(b=a∨H b=some (.own a))→h.get? b=some u→h'.get? b=some u)
    (ho:∀b,H b=some (.own a)→H' b=some (.own a))(ht:∀b xs,H b=some (.tup xs)→H' b=some (.tup xs)):cR P w H' h' a o:=by
  induction o with
  | lst xs=>obtain⟨z,its,n,r,e⟩:=x;exact⟨z,its,n,r,k _ _ (.inl rfl) e⟩
  | tup xs=>obtain⟨z,its,r,ob,e,c⟩:=x;exact⟨z,its,r,ob,k _ _ (.inl rfl) e,c⟩
  | dK kvs=>obtain⟨z,y,vs,r,ob,es,ep,e,c⟩:=x;exact⟨z,y,vs,r,ob,es,ep,k _ _ (.inl rfl) e,c⟩
  | dT kvs=>
    obtain⟨z,y,xs,r,ob,es,ep,e,c⟩:=x
    exact⟨z,y,xs,Paired.mapP r fun p q z=>⟨z.1,ht _ _ z.2.1,z.2.2⟩,ob,es,ep,k _ _ (.inl rfl) e,c⟩
  | set S n=>obtain⟨ob,es,ep,t,e,c⟩:=x;exact⟨ob,es,ep,t,k _ _ (.inl rfl) e,c⟩
  | ins C dx fs=>
    obtain⟨d,z,ne,e,mA,⟨od,es,ep,e2,c⟩,r⟩:=x
    exact⟨ho _ d,z,ne,k _ _ (.inl rfl) e,mA,⟨od,es,ep,k _ _ (.inr d) e2,c⟩,r⟩
  | own y=>obtain⟨ob,e⟩:=x;exact⟨ob,k _ _ (.inl rfl) e⟩
  | xd fs=>obtain⟨mA,⟨od,es,ep,e,c⟩,r⟩:=x;exact⟨mA,⟨od,es,ep,k _ _ (.inl rfl) e,c⟩,r⟩
  | rng lo hi=>obtain⟨t,u,v,e⟩:=x;exact⟨t,u,v,k _ _ (.inl rfl) e⟩
  | frz ob u ih=>obtain⟨e,q⟩:=x;exact⟨k _ _ (.inl rfl) e,ih q⟩
  | tbl ps=>
    have e:h.get? a=some {cls:=.none,data:=.fields ps}:=x
    show h'.get? a=some {cls:=.none,data:=.fields ps}
    exact k a _ (.inl rfl) e
  | met f y=>
    have e:h.get? a=some (PySem.W.methodObj (.ref f) (.ref y)):=x
    show h'.get? a=some (PySem.W.methodObj (.ref f) (.ref y))
    exact k a _ (.inl rfl) e
  | ext φ=>obtain⟨p,⟨o,e⟩,st⟩:=x;exact⟨st _ _ p fun o q=>k _ _ (.inl rfl) q,⟨o,k _ _ (.inl rfl) e⟩,st⟩
theorem jT.lt(x:jT P w H h)(e:H a=some o):a < h.objs.size:=(x a o e).lt
theorem jT.fresh(x:jT P w H h)(e:h.objs.size≤a):H a=none:=by
  cases q:H a with
  | none=>rfl
  | some u=>exact absurd (Nat.lt_of_lt_of_le (x.lt q) e) (Nat.lt_irrefl _)
theorem jT.kept(x:jT P w H h)(k:∀b u,h.get? b=some u→h'.get? b=some u):jT P w H h':=fun a o e=>
  (x a o e).stay (fun b u _ q=>k b u q) (fun _ q=>q) fun _ _ q=>q
theorem jT.laid(x:jT P w H h)(k:∀b u,h.get? b=some u→h'.get? b=some u)(hp:h.objs.size≤a)(new:cR P w (aX H a o) h' a o):jT P w (aX H a o) h':=fun b u e=>by
  have hn:=x.fresh hp
  by_cases hb:b=a
  · subst hb;rw [aq] at e;cases e;exact new
  · rw [aJ hb] at e
    exact(x b u e).stay (fun c v _ q=>k c v q) (fun c q=>by rw [aJ (d7 q hn)];exact q) fun c xs q=>by rw [aJ (d7 q hn)];exact q
end
def Rd(H:Hp)(a:Addr)(u:HO):Prop:=H a=some u∨∃o,H a=some (.frz o u)
theorem Rd.ok{P:Program}{w:World}{H:Hp}{h:Heap}{a:Addr}{u:HO}(r:Rd H a u)(x:jT P w H h):cR P w H h a u:=by
  rcases r with r | ⟨o,r⟩
  · exact x a u r
  · obtain⟨_,q⟩:=x a _ r
    exact q
def zU:Option HO→Prop
  | some (.lst _)=>True
  | some (.dK _)=>True
  | some (.dT _)=>True
  | some (.set _ _)=>True
  | some (.ins _ _ _)=>True
  | some (.ext _)=>True
  | _=>False
section
variable{P:Program}{w:World}{H:Hp}{h h':Heap}{x e:Addr}{o':HO}
theorem jT.write(ok:jT P w H h)(mu:zU (H x))(he:e=x∨H e=some (.own x))(k:∀b u,b≠e→h.get? b=some u→h'.get? b=some u)(heo:∃u,h'.get? e=some u)
    (new:cR P w (aX H x o') h' x o'):jT P w (aX H x o') h':=fun b u q=>by
  have nown:∀c y,H c=some (.own y)→c≠x:=fun c y r z=>by subst z;rw [r] at mu;exact mu
  have ntup:∀c xs,H c=some (.tup xs)→c≠x:=fun c xs r z=>by subst z;rw [r] at mu;exact mu
  by_cases hb:b=x
  · subst hb;rw [aq] at q;cases q;exact new
  · rw [aJ hb] at q
    by_cases hbe:b=e
    · have q':H b=some (.own x):=by
        rcases he with z | z
        · exact absurd (hbe.trans z) hb
        · rw [hbe];exact z
      rw [q] at q';cases q'
      obtain⟨v,hv⟩:=heo
      exact⟨v,by rw [hbe];exact hv⟩
    · refine(ok b u q).stay (fun c v hc r=>k c v ?_ r) (fun c r=>by rw [aJ (nown c b r)];exact r) fun c xs r=>by rw [aJ (ntup c xs r)];exact r
      rcases hc with rfl | hc
      · exact hbe
      · rintro rfl
        rcases he with z | z
        · exact nown c b hc z
        · rw [hc] at z;cases z;exact hb rfl
end
structure Un (fs ex:List Addr) (H H':Hp) (h h':Heap):Prop where
  keep:∀b o,h.get? b=some o→H b=none→b∉fs→b∉ex→h'.get? b=some o
  slot:∀b o,h.get? b=some o→H b=none→b∈fs→b∉ex→∃sl,h'.get? b=some {o with slots:=sl}
  free:∀b o,h.get? b=some o→H b=none→b∉ex→H' b=none
  there:∀b o,h.get? b=some o→b∉ex→∃o',h'.get? b=some o'
  tups:∀b xs,H b=some (.tup xs)→H' b=some (.tup xs)
  frzs:∀b o u,H b=some (.frz o u)→H' b=some (.frz o u)
  tbls:∀b ps,H b=some (.tbl ps)→∃more,H' b=some (.tbl (ps++more))
section
variable{fs fs' ex ex':List Addr}{H H1 H2:Hp}{h h1 h2 h':Heap}{a x e:Addr}{o:HO}
theorem Un.any(u:Un fs ex H H1 h h1){b:Addr}{ob:Obj}(q:h.get? b=some ob)(n:H b=none)(hx:b∉ex):∃sl,h1.get? b=some {ob with slots:=sl}:=by
  by_cases hb:b∈fs
  · exact u.slot b ob q n hb hx
  · exact⟨ob.slots,u.keep b ob q n hb hx⟩
theorem Un.kept(k:∀b u,h.get? b=some u→h'.get? b=some u):Un fs ex H H h h':=
  ⟨fun b ob q _ _ _=>k b ob q,fun b ob q _ _ _=>⟨ob.slots,k b ob q⟩,fun _ _ _ n _=>n,fun b ob q _=>⟨ob,k b ob q⟩,fun _ _ q=>q,fun _ _ _ q=>q,fun _ ps q=>⟨#[],by rw [q];simp⟩⟩
theorem Un.refl:Un fs ex H H h h:=Un.kept fun _ _ q=>q
theorem Un.laid(k:∀b u,h.get? b=some u→h'.get? b=some u)(hp:h.objs.size≤a)(hn:H a=none):Un fs ex H (aX H a o) h h' where
  keep:=fun b u q _ _ _=>k b u q
  slot:=fun b u q _ _ _=>⟨u.slots,k b u q⟩
  free:=fun b u q n _=>by rw [aJ (Nat.ne_of_lt (Nat.lt_of_lt_of_le (Heap.lt_size q) hp))];exact n
  there:=fun b u q _=>⟨u,k b u q⟩
  tups:=fun b xs q=>by rw [aJ (d7 q hn)];exact q
  frzs:=fun b u xs q=>by rw [aJ (d7 q hn)];exact q
  tbls:=fun b ps q=>⟨#[],by rw [aJ (d7 q hn),q];simp⟩
theorem Un.write(mu:zU (H x))(he:e=x∨H e=some (.own x))(k:∀b u,b≠e→h.get? b=some u→h'.get? b=some u)(heo:∃u,h'.get? e=some u):Un fs ex H (aX H x o) h h':=by
  have hx:∀b,H b=none→b≠x:=fun b n z=>by subst z;rw [n] at mu;exact mu
  have hb:∀b,H b=none→b≠e:=fun b n z=>by
    subst z
    rcases he with r | r
    · exact hx b n r
    · rw [n] at r;cases r
  have hm:∀b u,H b=some u→¬zU (some u)→b≠x:=fun b u q nm z=>by subst z;rw [q] at mu;exact nm mu
  refine⟨fun b u q n _ _=>k b u (hb b n) q,fun b u q n _ _=>⟨u.slots,k b u (hb b n) q⟩,fun b u q n _=>by rw [aJ (hx b n)];exact n,fun b u q _=>?_,
    fun b xs q=>by rw [aJ (hm b _ q fun z=>z)];exact q,fun b u xs q=>by rw [aJ (hm b _ q fun z=>z)];exact q,fun b ps q=>⟨#[],by rw [aJ (hm b _ q fun z=>z),q];simp⟩⟩
  by_cases hbe:b=e
  · subst hbe;exact heo
  · exact⟨u,k b u hbe q⟩
end
def BS(h:Heap)(H:Hp):List Addr:=(List.range h.objs.size).filter fun a=>(H a).isSome
def mB(h:Heap)(H:Hp):Heap:=PySem.W.hideAll h (BS h H)
theorem qY(h:Heap)(H:Hp):(mB h H).objs.size=h.objs.size:=PySem.W.hideAll_size _ _
theorem sS{h:Heap}{H:Hp}{b:Addr}{o:Obj}(e:h.get? b=some o)(n:H b=none):(mB h H).get? b=some o:=
  PySem.W.hideAll_get _ e fun hm=>by
    have q:(H b).isSome=true:=(List.mem_filter.mp hm).2
    rw [n] at q;simp at q
theorem vB{h:Heap}{H:Hp}{b:Addr}{o:Obj}(e:(mB h H).get? b=some o):h.get? b=some o∧H b=none:=by
  have e':h.get? b=some o:=PySem.W.of_hideAll (BS h H) e
  refine⟨e',?_⟩
  cases q:H b with
  | none=>rfl
  | some x=>
    have hm:b∈BS h H:=List.mem_filter.mpr ⟨List.mem_range.mpr (Heap.lt_size e'),by simp [q]⟩
    have z:(mB h H).get? b=none:=PySem.W.hideAll_none (BS h H) hm
    rw [z] at e;cases e
def l4(g h:Heap)(L:Addr):List (Addr × Obj):=(List.range h.objs.size).filterMap fun a=>if a=L∨(g.get? a).isSome=true then none else(h.get? a).map fun o=>(a,o)
theorem kL{g h:Heap}{L:Addr}{p:Addr × Obj}(hp:p∈l4 g h L):p.1≠L∧g.get? p.1=none∧h.get? p.1=some p.2:=by
  obtain⟨b,_,e⟩:=List.mem_filterMap.mp hp
  split at e
  · cases e
  · rename_i hn
    cases q:h.get? b with
    | none=>rw [q] at e;simp at e
    | some u=>
      rw [q] at e
      simp only [Option.map_some,Option.some.injEq] at e
      subst e
      refine⟨fun z=>hn (.inl z),?_,q⟩
      show g.get? b=none
      cases r:g.get? b with
      | none=>rfl
      | some v=>exact(hn (.inr (by simp [r]))).elim
def dR(g h:Heap)(L d:Addr):List (Addr × Obj):=(l4 g h L).filter fun p=>decide (p.1≠d)
theorem tF{g h:Heap}{L:Addr}:News g L h (l4 g h L):=fun p hp=>let ⟨a,b,c⟩:=kL hp;⟨c,a,b⟩
end L2
namespace L2
open PySem PySem.Spec PyProof.Rows
structure Mod (K:PySem.W.Frag) (mg:Str→Option Value) (base:Heap):Prop where
  kin:K.In base
  glob:base.Ns mainGlobals mg
  blt:∃mb,base.Ns builtinsNs mb∧∀x:Str,x≠"__name__"→mb x=bootBuiltins x
  nolimit:base.NoLimit
structure Cx where
  prog:Program
  w:World
  K:PySem.W.Frag
  mg:Str→Option Value
  base:Heap
  A:Around
  N:List Str
  s₀:Shared
  H₀:Hp
  env:Env
  outer:List Env
  stack:List Env
  ex:List Addr
  fn:Str→Bool
  calm:Bool
  pn:List (Addr × Obj)
  xe:Value→Shared→Prop
def sy(l:List Env):List Addr:=l.filterMap (·.frame)
abbrev Cx.fs(X:Cx):List Addr:=sy X.outer
def zZ(sc:Scope)(x:Str):Prop:=sc.names.lookup x=some .local∨sc.names.lookup x=some .cell∨sc.names.lookup x=some .free
def zM(sc:Scope)(x:Str):Prop:=sc.names.lookup x=some .local∨sc.names.lookup x=some .cell
def BZ(env:Env)(h:Heap)(m:Str→Option Value)(x:Str)(u:Value):Prop:=
  (env.kindOf x=some .local∧m x=some u)∨((env.kindOf x=some .cell∨env.kindOf x=some .free)∧∃c,env.cells.lookup x=some c∧h.IsCell c (some u))
structure Cx.Ok (X:Cx):Prop where
  mod:Mod X.K X.mg X.base
  kind:X.env.scope.kind=.function
  glob:X.env.globals=mainGlobals
  blt:X.env.builtins=builtinsNs
  above:X.s₀.heap.objs.size≤X.env.locals
  inj:∀x y c,X.env.cells.lookup x=some c→X.env.cells.lookup y=some c→x=y
  has:∀x,(X.env.kindOf x=some .cell∨X.env.kindOf x=some .free)→∃c,X.env.cells.lookup x=some c
  cab:∀x c,X.fn x=true→X.env.cells.lookup x=some c→X.s₀.heap.objs.size≤c
  hd:X.calm=true→X.A.handled=none
  frames:X.A.frames=some X.stack
  stk:X.stack=X.outer∨(X.stack=X.env::X.outer∧X.env.frame=some X.env.locals)
  exf:∀b∈X.ex,b≠X.env.locals∧∀x c,X.env.cells.lookup x=some c→c≠b
  bs:∀b o,X.base.get? b=some o→X.s₀.heap.get? b=some o∧X.H₀ b=none
  bsz:X.base.objs.size≤X.s₀.heap.objs.size
  noex:∀b o,X.base.get? b=some o→b∉X.ex
  exfs:∀b∈X.ex,b∉X.fs
  funs:X.s₀.heap.FunFrames X.base X.outer
  frf:∀b∈X.fs,X.H₀ b=none
structure au (X:Cx) (pins:List (Addr × Obj)) (σ:List (Option V)) (H:Hp) (s:Shared):Prop where
  ok:X.Ok
  os:s.os=X.s₀.os
  bare:AllBare s.gens
  base:Un X.fs X.ex X.H₀ H X.s₀.heap s.heap
  loc:∃m,s.heap.Ns X.env.locals m∧∀(i:Nat) (x:Str) (v:V),X.N[i]?=some x→σ[i]?=some (some v)→zZ X.env.scope x→∃u,bf v u∧BZ X.env s.heap m x u
  cell:∀x c,X.env.cells.lookup x=some c→∃v,s.heap.IsCell c v
  free:H X.env.locals=none
  freeC:∀x c,X.env.cells.lookup x=some c→H c=none
  pin:∀p∈X.pn++pins,s.heap.get? p.1=some p.2∧H p.1=none∧p.1≠X.env.locals∧p.1∉X.fs∧∀v,p.2.data≠.cell v
  hok:jT X.prog X.w H s.heap
  len:σ.length=X.N.length
section
variable{X:Cx}{pins:List (Addr × Obj)}{σ:List (Option V)}{H H':Hp}{s:Shared}{h':Heap}
theorem Cx.Ok.nofr(ok:X.Ok){b:Addr}{o:Obj}(e:X.base.get? b=some o):b∉X.fs:=fun hb=>by
  have:=(ok.funs.mem hb).1
  rw [e] at this;cases this
theorem au.bs(I:au X pins σ H s):∀b o,X.base.get? b=some o→s.heap.get? b=some o∧H b=none:=fun b o e=>
  ⟨I.base.keep b o (I.ok.bs b o e).1 (I.ok.bs b o e).2 (I.ok.nofr e) (I.ok.noex b o e),I.base.free b o (I.ok.bs b o e).1 (I.ok.bs b o e).2 (I.ok.noex b o e)⟩
theorem au.bk(I:au X pins σ H s):∀b o,X.base.get? b=some o→s.heap.get? b=some o:=fun b o e=>(I.bs b o e).1
theorem au.mod(I:au X pins σ H s):Mod X.K X.mg X.base:=I.ok.mod
theorem au.kIn(I:au X pins σ H s):X.K.In s.heap:=I.ok.mod.kin.keeps I.bk
theorem au.fr(I:au X pins σ H s):∃m,Fr X.base X.env.locals s.heap m:=
  let ⟨m,hn,_⟩:=I.loc
  ⟨m,hn,I.bk,Nat.le_trans I.ok.bsz I.ok.above⟩
theorem au.lt(I:au X pins σ H s):X.env.locals < s.heap.objs.size:=let ⟨_,hn,_⟩:=I.loc;hn.lt
theorem au.sz(I:au X pins σ H s):X.s₀.heap.objs.size≤s.heap.objs.size:=Nat.le_trans I.ok.above (Nat.le_of_lt I.lt)
theorem au.nofs(I:au X pins σ H s){a:Addr}(h:s.heap.objs.size≤a):a∉X.fs:=fun hb=>by
  obtain⟨_,o,ho,_⟩:=I.ok.funs.mem hb
  exact absurd (Nat.lt_of_lt_of_le (Heap.lt_size ho) (Nat.le_trans I.sz h)) (Nat.lt_irrefl _)
theorem au.cne(I:au X pins σ H s):∀x c,X.env.cells.lookup x=some c→c≠X.env.locals:=fun x c e z=>by
  obtain⟨v,o,ho,hd⟩:=I.cell x c e
  obtain⟨m,⟨o',es,ep,ho',hd',_⟩,_⟩:=I.loc
  rw [z,ho'] at ho;cases ho;rw [hd'] at hd;cases hd
theorem au.funs(I:au X pins σ H s):s.heap.FunFrames X.base X.outer:=by
  have all:∀(l:List Env),(∀b∈sy l,b∈X.fs)→X.s₀.heap.FunFrames X.base l→s.heap.FunFrames X.base l:=by
    intro l
    induction l with
    | nil=>intro _ _;trivial
    | cons env r ih=>
      intro hs hl
      obtain⟨hk,⟨L,o,hf,hn,ho,hd⟩,hr⟩:=hl
      have hL:L∈X.fs:=hs L (by unfold sy;rw [List.filterMap_cons,hf];exact List.mem_cons_self)
      obtain⟨sl,e⟩:=I.base.slot L o ho (I.ok.frf L hL) hL fun z=>I.ok.exfs L z hL
      exact⟨hk,⟨L,_,hf,hn,e,hd⟩,ih (fun b hb=>hs b (by unfold sy;rw [List.filterMap_cons,hf];exact List.mem_cons_of_mem _ hb)) hr⟩
  exact all X.outer (fun _ hb=>hb) I.ok.funs
theorem au.stack(I:au X pins σ H s):s.heap.FunFrames X.base X.stack:=by
  rcases I.ok.stk with e | ⟨e,hf⟩
  · rw [e];exact I.funs
  · rw [e]
    obtain⟨m,hn,_⟩:=I.loc
    refine .cons (by rw [I.ok.kind];decide) hf hn ?_ I.funs
    exact Heap.get?_none_of_le (Nat.le_trans I.ok.bsz I.ok.above)
theorem au.stkSub(I:au X pins σ H s):∀b∈sy X.stack,b∈X.env.locals::X.fs:=fun b hb=>by
  rcases I.ok.stk with e | ⟨e,hf⟩
  · rw [e] at hb;exact List.mem_cons_of_mem _ hb
  · rw [e] at hb
    unfold sy at hb
    rw [List.filterMap_cons,hf] at hb
    exact hb
theorem au.stkFree(I:au X pins σ H s):∀b∈sy X.stack,H b=none:=fun b hb=>by
  rcases List.mem_cons.mp (I.stkSub b hb) with e | hb
  · rw [e];exact I.free
  · obtain⟨_,o,ho,_⟩:=I.ok.funs.mem hb
    exact I.base.free b o ho (I.ok.frf b hb) fun z=>I.ok.exfs b z hb
theorem au.step{g':Array GenState}{t':Nat}{d':Drawn}{ch:List Addr}(I:au X pins σ H s)
    (hch:∀b∈ch,(b∈X.ex∨X.s₀.heap.objs.size≤b)∧b≠X.env.locals∧(∀x c,X.env.cells.lookup x=some c→c≠b)∧∀p∈X.pn++pins,p.1≠b)
    (keep:∀b o,b≠X.env.locals→b∉X.fs→b∉ch→s.heap.get? b=some o→H b=none→h'.get? b=some o)
    (slot:∀b o,b≠X.env.locals→b∈X.fs→b∉ch→s.heap.get? b=some o→H b=none→∃sl,h'.get? b=some {o with slots:=sl})(free:∀b o,b∉ch→s.heap.get? b=some o→H b=none→H' b=none)
    (there:∀b o,b∉ch→s.heap.get? b=some o→∃o',h'.get? b=some o')
    (tups:∀b xs,H b=some (.tup xs)→H' b=some (.tup xs))(frzs:∀b o u,H b=some (.frz o u)→H' b=some (.frz o u))(tbls:∀b ps,H b=some (.tbl ps)→∃more,H' b=some (.tbl (ps++more)))
    (ns:∀m,s.heap.Ns X.env.locals m→h'.Ns X.env.locals m)(hok:jT X.prog X.w H' h')(hg:AllBare g'):
    au X pins σ H' {s with heap:=h',gens:=g',drawn:=d',toks:=t'}:=by
  have neL:∀b o,X.s₀.heap.get? b=some o→b≠X.env.locals:=fun b o e=>Nat.ne_of_lt (Nat.lt_of_lt_of_le (Heap.lt_size e) I.ok.above)
  have neC:∀b o,X.s₀.heap.get? b=some o→b∉X.ex→b∉ch:=fun b o e hx hb=>by
    rcases(hch b hb).1 with z | z
    · exact hx z
    · exact absurd (Nat.lt_of_lt_of_le (Heap.lt_size e) z) (Nat.lt_irrefl _)
  have cellK:∀x c,X.env.cells.lookup x=some c→∀v,s.heap.IsCell c v→h'.IsCell c v:=fun x c e v ⟨o,ho,hd⟩=>by
    have nch:c∉ch:=fun z=>(hch c z).2.2.1 x c e rfl
    by_cases hc:c∈X.fs
    · obtain⟨sl,q⟩:=slot c o (I.cne x c e) hc nch ho (I.freeC x c e)
      exact⟨_,q,hd⟩
    · exact⟨o,keep c o (I.cne x c e) hc nch ho (I.freeC x c e),hd⟩
  refine⟨I.ok,I.os,hg,⟨fun b o e n hb hx=>?_,fun b o e n hb hx=>?_,fun b o e n hx=>?_,fun b o e hx=>?_,fun b xs e=>tups b xs (I.base.tups b xs e),fun b o xs e=>frzs b o xs (I.base.frzs b o xs e),fun b ps e=>?_⟩,?_,fun x c e=>?_,?_,fun x c e=>?_,fun p hp=>?_,hok,I.len⟩
  · exact keep b o (neL b o e) hb (neC b o e hx) (I.base.keep b o e n hb hx) (I.base.free b o e n hx)
  · obtain⟨sl,e1⟩:=I.base.slot b o e n hb hx
    obtain⟨sl',e2⟩:=slot b _ (neL b o e) hb (neC b o e hx) e1 (I.base.free b o e n hx)
    exact⟨sl',e2⟩
  · obtain⟨o',e1⟩:=I.base.there b o e hx
    exact free b o' (neC b o e hx) e1 (I.base.free b o e n hx)
  · obtain⟨o',e1⟩:=I.base.there b o e hx
    exact there b o' (neC b o e hx) e1
  · obtain⟨m1,e1⟩:=I.base.tbls b ps e
    obtain⟨m2,e2⟩:=tbls b _ e1
    exact⟨m1++m2,by rw [e2,Array.append_assoc]⟩
  · obtain⟨m,hn,hl⟩:=I.loc
    refine⟨m,ns m hn,fun i x v e1 e2 e3=>?_⟩
    obtain⟨u,r,l⟩:=hl i x v e1 e2 e3
    refine⟨u,r,?_⟩
    rcases l with l | ⟨k,c,e,z⟩
    · exact .inl l
    · exact .inr ⟨k,c,e,cellK x c e _ z⟩
  · obtain⟨v,z⟩:=I.cell x c e
    exact⟨v,cellK x c e v z⟩
  · obtain⟨m,⟨o,_,_,ho,_⟩,_⟩:=I.loc
    exact free _ o (fun z=>(hch _ z).2.1 rfl) ho I.free
  · obtain⟨v,o,ho,hd⟩:=I.cell x c e
    exact free c o (fun z=>(hch c z).2.2.1 x c e rfl) ho (I.freeC x c e)
  · obtain⟨e,n,ne,nf,d⟩:=I.pin p hp
    have nch:p.1∉ch:=fun z=>(hch p.1 z).2.2.2 p hp rfl
    exact⟨keep p.1 p.2 ne nf nch e n,free p.1 p.2 nch e n,ne,nf,d⟩
theorem au.un{t':Nat}(I:au X pins σ H s)(u:Un X.fs [] H H' s.heap h')(hok:jT X.prog X.w H' h'):au X pins σ H' {s with heap:=h',toks:=t'}:=by
  obtain⟨m,⟨o,es,ep,ho,r⟩,_⟩:=id I.loc
  obtain⟨sl,hL⟩:=u.any ho I.free (by simp)
  exact I.step (g':=s.gens) (d':=s.drawn) (ch:=[]) (fun _ z=>nomatch z) (fun b o _ hb _ e n=>u.keep b o e n hb (by simp)) (fun b o _ hb _ e n=>u.slot b o e n hb (by simp)) (fun b o _ e n=>u.free b o e n (by simp)) (fun b o _ e=>u.there b o e (by simp)) u.tups u.frzs u.tbls (fun m' hm=>by
    obtain⟨o',es',ep',ho',r'⟩:=hm
    rw [ho] at ho';cases ho'
    exact⟨_,es',ep',hL,r'⟩) hok I.bare
theorem au.call{g':Array GenState}{t':Nat}{d':Drawn}{ch:List Addr}(I:au X pins σ H s)(u:Un (sy X.stack) ch H H' s.heap h')(hok:jT X.prog X.w H' h')(hg:AllBare g')
    (hch:∀b∈ch,(b∈X.ex∨X.s₀.heap.objs.size≤b)∧b≠X.env.locals∧(∀x c,X.env.cells.lookup x=some c→c≠b)∧∀p∈X.pn++pins,p.1≠b):
    au X pins σ H' {s with heap:=h',gens:=g',drawn:=d',toks:=t'}:=by
  obtain⟨m,⟨o,es,ep,ho,r⟩,_⟩:=id I.loc
  obtain⟨sl,hL⟩:=u.any ho I.free fun z=>(hch _ z).2.1 rfl
  exact I.step (ch:=ch) hch (fun b o hL hb hc e n=>u.keep b o e n (fun z=>(List.mem_cons.mp (I.stkSub b z)).elim hL hb) hc) (fun b o _ _ hc e n=>u.any e n hc) (fun b o hc e n=>u.free b o e n hc) (fun b o hc e=>u.there b o e hc) u.tups u.frzs u.tbls (fun m' hm=>by
    obtain⟨o',es',ep',ho',r'⟩:=hm
    rw [ho] at ho';cases ho'
    exact⟨_,es',ep',hL,r'⟩) hok hg
theorem au.turned{t':Nat}{it:Addr}(I:au X pins σ H s)(k:∀b o,b≠it→s.heap.get? b=some o→h'.get? b=some o)(hn:H it=none)(hL:it≠X.env.locals)
    (h1:it∈X.ex∨X.s₀.heap.objs.size≤it)(h2:∀x c,X.env.cells.lookup x=some c→c≠it)(h3:∀p∈X.pn++pins,p.1≠it):au X pins σ H {s with heap:=h',toks:=t'}:=by
  have nit:∀b u,H b=some u→b≠it:=fun b u e z=>by rw [z,hn] at e;cases e
  refine I.step (g':=s.gens) (d':=s.drawn) (ch:=[it]) (fun b hb=>?_) (fun b o _ _ hc e _=>k b o (fun z=>hc (by simp [z])) e) (fun b o _ _ hc e _=>⟨o.slots,k b o (fun z=>hc (by simp [z])) e⟩) (fun _ _ _ _ n=>n)
    (fun b o hc e=>⟨o,k b o (fun z=>hc (by simp [z])) e⟩) (fun _ _ e=>e) (fun _ _ _ e=>e) (fun b ps e=>⟨#[],by rw [e];simp⟩) (fun m hm=>?_) (fun b u e=>?_) I.bare
  · have e:b=it:=by simpa using hb
    subst e
    exact⟨h1,hL,h2,h3⟩
  · obtain⟨o,es,ep,ho,r⟩:=hm
    exact⟨o,es,ep,k _ o (Ne.symm hL) ho,r⟩
  · refine(I.hok b u e).stay (fun c v hc q=>k c v ?_ q) (fun _ q=>q) fun _ _ q=>q
    rcases hc with z | z
    · rw [z];exact nit b u e
    · exact nit c _ z
theorem au.tok(I:au X pins σ H s)(t:Nat):au X pins σ H {s with toks:=t}:=I.un (h':=s.heap) (t':=t) Un.refl I.hok
theorem au.kept{t':Nat}(I:au X pins σ H s)(k:∀b u,s.heap.get? b=some u→h'.get? b=some u):au X pins σ H {s with heap:=h',toks:=t'}:=I.un (Un.kept k) (I.hok.kept k)
theorem au.laid{a:Addr}{o:HO}{t':Nat}(I:au X pins σ H s)(k:∀b u,s.heap.get? b=some u→h'.get? b=some u)(hp:s.heap.objs.size≤a)(new:cR X.prog X.w (aX H a o) h' a o):
    au X pins σ (aX H a o) {s with heap:=h',toks:=t'}:=I.un (Un.laid k hp (I.hok.fresh hp)) (I.hok.laid k hp new)
theorem au.write{x e:Addr}{o:HO}{t':Nat}(I:au X pins σ H s)(mu:zU (H x))(he:e=x∨H e=some (.own x))(k:∀b u,b≠e→s.heap.get? b=some u→h'.get? b=some u)(heo:∃u,h'.get? e=some u)
    (new:cR X.prog X.w (aX H x o) h' x o):au X pins σ (aX H x o) {s with heap:=h',toks:=t'}:=I.un (Un.write mu he k heo) (I.hok.write mu he k heo new)
theorem au.pins_of{pins':List (Addr × Obj)}(I:au X pins σ H s)(h:∀p∈pins',s.heap.get? p.1=some p.2∧H p.1=none∧p.1≠X.env.locals∧p.1∉X.fs∧∀v,p.2.data≠.cell v):au X pins' σ H s:=
  ⟨I.ok,I.os,I.bare,I.base,I.loc,I.cell,I.free,I.freeC,fun p hp=>(List.mem_append.mp hp).elim (fun z=>I.pin p (List.mem_append_left _ z)) (h p),I.hok,I.len⟩
theorem n_{N:List Str}(hN:N.Nodup){i j:Nat}{x:Str}(a:N[i]?=some x)(b:N[j]?=some x):i=j:=by
  obtain⟨h1,e1⟩:=List.getElem?_eq_some_iff.mp a
  obtain⟨h2,e2⟩:=List.getElem?_eq_some_iff.mp b
  exact(List.getElem_inj hN).mp (e1.trans e2.symm)
theorem jR{M:Model}{A:Around}{E:Value→Shared→Prop}{i:Nat}{x:Str}{v:V}{u:Value}{Q:Unit→Shared→Prop}(I:au X pins σ H s)(hN:X.N.Nodup)(hi:X.N[i]?=some x)(hx:zM X.env.scope x)(r:bf v u)
    (h:∀s',au X pins (σ.set i (some v)) H s'→(∃a,Heap.SameBut a s.heap s'.heap∧(a=X.env.locals∨X.env.cells.lookup x=some a))→Q () s')(hf:X.fn x=true∨X.env.scope.names.lookup x=some .local:=by first | exact .inl rfl | exact .inr rfl | assumption):wpAny M A (storeName X.env x u) Q E s:=by
  obtain⟨m,hn,hl⟩:=id I.loc
  have hcls:(X.env.scope.kind==.class || (X.env.scope.kind==.module&&X.env.locals != X.env.globals))=false:=by rw [I.ok.kind];rfl
  have hiσ:i < σ.length:=by rw [I.len];exact(List.getElem?_eq_some_iff.mp hi).1
  have cne:=I.cne
  have tracked:∀{a:Addr} {h':Heap},(∃o,s.heap.get? a=some o∧H a=none)→Heap.SameBut a s.heap h'→jT X.prog X.w H h':=fun{a h'} ha hs b ob e=>by
    obtain⟨_,_,hfree⟩:=ha
    refine(I.hok b ob e).stay (fun c w' hc q=>(hs.2 c ?_).trans q) (fun _ q=>q) fun _ _ q=>q
    rintro rfl
    rcases hc with rfl | hc
    · rw [hfree] at e;cases e
    · rw [hfree] at hc;cases hc
  rcases hx with hk | hk
  · refine wpAny_storeName_local hk hn (fun h' hn' hs=>?_) hcls
    obtain⟨oL,_,_,hoL,_⟩:=id hn
    refine h _ ⟨I.ok,I.os,I.bare,⟨fun b o e n hb hx=>?_,fun b o e n hb hx=>?_,I.base.free,fun b o e hx=>?_,I.base.tups,I.base.frzs,I.base.tbls⟩,⟨_,hn',fun j y v' e1 e2 e3=>?_⟩,fun y c e=>?_,I.free,I.freeC,fun p hp=>?_,tracked ⟨oL,hoL,I.free⟩ hs,by simpa using I.len⟩ ⟨_,hs,.inl rfl⟩
    · exact(hs.2 b (Nat.ne_of_lt (Nat.lt_of_lt_of_le (Heap.lt_size e) I.ok.above))).trans (I.base.keep b o e n hb hx)
    · obtain⟨sl,e1⟩:=I.base.slot b o e n hb hx
      exact⟨sl,(hs.2 b (Nat.ne_of_lt (Nat.lt_of_lt_of_le (Heap.lt_size e) I.ok.above))).trans e1⟩
    · obtain⟨o',e1⟩:=I.base.there b o e hx
      exact⟨o',(hs.2 b (Nat.ne_of_lt (Nat.lt_of_lt_of_le (Heap.lt_size e) I.ok.above))).trans e1⟩
    · by_cases hj:j=i
      · subst hj
        rw [hi] at e1;cases e1
        rw [List.getElem?_set_self hiσ] at e2
        cases e2
        exact⟨u,r,.inl ⟨hk,by simp⟩⟩
      · rw [List.getElem?_set_ne (Ne.symm hj)] at e2
        obtain⟨u',r',q⟩:=hl j y v' e1 e2 e3
        refine⟨u',r',?_⟩
        rcases q with ⟨k,e⟩ | ⟨k,c,e,z⟩
        · refine .inl ⟨k,?_⟩
          have:y≠x:=fun e=>hj (n_ hN e1 (e ▸ hi))
          simp [this,e]
        · exact .inr ⟨k,c,e,z.sameBut hs (cne y c e)⟩
    · obtain⟨w',z⟩:=I.cell y c e
      exact⟨w',z.sameBut hs (cne y c e)⟩
    · obtain⟨e,n,ne,nf,d⟩:=I.pin p hp
      exact⟨(hs.2 p.1 ne).trans e,n,ne,nf,d⟩
  · have hfn:X.fn x=true:=by
      rcases hf with z | z
      · exact z
      · rw [z] at hk;cases hk
    obtain⟨c,hc⟩:=I.ok.has x (.inl hk)
    obtain⟨w',z⟩:=I.cell x c hc
    refine wpAny_storeName_cell I.ok.kind hk hc z (fun h' hc' hs=>?_)
    obtain⟨oc,hoc,hocd⟩:=id z
    refine h {s with heap:=h'} ⟨I.ok,I.os,I.bare,⟨fun b o e n hb hx=>?_,fun b o e n hb hx=>?_,I.base.free,fun b o e hx=>?_,I.base.tups,I.base.frzs,I.base.tbls⟩,⟨m,hn.sameBut hs (Ne.symm (cne x c hc)),fun j y v' e1 e2 e3=>?_⟩,fun y c' e=>?_,I.free,I.freeC,fun p hp=>?_,tracked ⟨oc,hoc,I.freeC x c hc⟩ hs,by simpa using I.len⟩ ⟨c,hs,.inr hc⟩
    · exact(hs.2 b (Nat.ne_of_lt (Nat.lt_of_lt_of_le (Heap.lt_size e) (I.ok.cab x c hfn hc)))).trans (I.base.keep b o e n hb hx)
    · obtain⟨sl,e1⟩:=I.base.slot b o e n hb hx
      exact⟨sl,(hs.2 b (Nat.ne_of_lt (Nat.lt_of_lt_of_le (Heap.lt_size e) (I.ok.cab x c hfn hc)))).trans e1⟩
    · obtain⟨o',e1⟩:=I.base.there b o e hx
      exact⟨o',(hs.2 b (Nat.ne_of_lt (Nat.lt_of_lt_of_le (Heap.lt_size e) (I.ok.cab x c hfn hc)))).trans e1⟩
    · by_cases hj:j=i
      · subst hj
        rw [hi] at e1;cases e1
        rw [List.getElem?_set_self hiσ] at e2
        cases e2
        exact⟨u,r,.inr ⟨.inl hk,c,hc,hc'⟩⟩
      · rw [List.getElem?_set_ne (Ne.symm hj)] at e2
        obtain⟨u',r',q⟩:=hl j y v' e1 e2 e3
        refine⟨u',r',?_⟩
        rcases q with q | ⟨k,c',e,z'⟩
        · exact .inl q
        · refine .inr ⟨k,c',e,z'.sameBut hs ?_⟩
          rintro rfl
          exact hj (n_ hN e1 (I.ok.inj _ _ _ e hc ▸ hi))
    · by_cases hcc:c'=c
      · subst hcc;exact⟨_,hc'⟩
      · obtain⟨w2,z2⟩:=I.cell y c' e
        exact⟨w2,z2.sameBut hs hcc⟩
    · obtain⟨e,n,ne,nf,d⟩:=I.pin p hp
      refine⟨(hs.2 p.1 ?_).trans e,n,ne,nf,d⟩
      intro q
      rw [q,hoc] at e
      have q':oc=p.2:=Option.some.inj e
      exact d w' (by rw [←q'];exact hocd)
theorem jp{M:Model}{A:Around}{E:Value→Shared→Prop}{i:Nat}{x:Str}{v:V}{u:Value}{Q:Unit→Shared→Prop}(I:au X pins σ H s)(hN:X.N.Nodup)(hi:X.N[i]?=some x)(hx:zM X.env.scope x)(r:bf v u)
    (h:∀s',au X pins (σ.set i (some v)) H s'→Q () s')(hf:X.fn x=true∨X.env.scope.names.lookup x=some .local:=by first | exact .inl rfl | exact .inr rfl | assumption):wpAny M A (storeName X.env x u) Q E s:=
  jR I hN hi hx r (fun s' I' _=>h s' I') hf
theorem au.call'{s':Shared}{ch:List Addr}(I:au X pins σ H s)(ho:s'.os=s.os)(u:Un (sy X.stack) ch H H' s.heap s'.heap)(hok:jT X.prog X.w H' s'.heap)(hg:AllBare s'.gens)
    (hch:∀b∈ch,(b∈X.ex∨X.s₀.heap.objs.size≤b)∧b≠X.env.locals∧(∀x c,X.env.cells.lookup x=some c→c≠b)∧∀p∈X.pn++pins,p.1≠b):au X pins σ H' s':=by
  obtain⟨h',g',d',t',o'⟩:=s'
  have e:o'=s.os:=ho
  subst e
  exact I.call (g':=g') (t':=t') (d':=d') u hok hg hch
end
abbrev XK:=Value→Option Addr→Hp→Prop
abbrev St:=List (Option V)
abbrev VK:=V→Hp→Prop
abbrev TE:=St→Hp→VK→Prop
abbrev TT:=St→Hp→(Bool→Hp→Prop)→Prop
abbrev TA:=St→Hp→(List V→Hp→Prop)→Prop
structure oP where
  nx:St→Hp→Prop
  rt:VK
  bk:St→Hp→Prop:=fun _ _=>False
  ct:St→Hp→Prop:=fun _ _=>False
abbrev TS:=oP→St→Hp→Prop
def EP(X:Cx)(pins:List (Addr × Obj))(σ:St)(Q:VK)(u:Value)(s':Shared):Prop:=∃v H',au X pins σ H' s'∧bf v u∧Q v H'
def TP(X:Cx)(pins:List (Addr × Obj))(σ:St)(Q:Bool→Hp→Prop)(b:Bool)(s':Shared):Prop:=∃H',au X pins σ H' s'∧Q b H'
def AP(X:Cx)(pins:List (Addr × Obj))(σ:St)(Q:List V→Hp→Prop)(us:List Value)(s':Shared):Prop:=∃vs H',au X pins σ H' s'∧aE vs us∧Q vs H'
def SP(X:Cx)(pins:List (Addr × Obj))(D:oP)(f:Flow)(s':Shared):Prop:=
  match f with
  | .next=>∃σ' H',au X pins σ' H' s'∧D.nx σ' H'
  | .brk=>∃σ' H',au X pins σ' H' s'∧D.bk σ' H'
  | .cont=>∃σ' H',au X pins σ' H' s'∧D.ct σ' H'
  | .ret u=>∃v σ' H',au X pins σ' H' s'∧bf v u∧D.rt v H'
def PE(X:Cx)(e:Expr)(t:TE):Prop:=
  ∀(pins:List (Addr × Obj)) (s:Shared) (σ:St) (H:Hp) (Q:VK),au X pins σ H s→t σ H Q→wpAny (model X.prog X.w) X.A (eval e X.env) (EP X pins σ Q) X.xe s
def PT(X:Cx)(e:Expr)(t:TT):Prop:=
  ∀(pins:List (Addr × Obj)) (s:Shared) (σ:St) (H:Hp) (Q:Bool→Hp→Prop),au X pins σ H s→t σ H Q→wpAny (model X.prog X.w) X.A (isTrue e X.env (eval e X.env)) (TP X pins σ Q) X.xe s
def PW(X:Cx)(e:Expr)(t:TT):Prop:=
  ∀(whole:Sem Value) (pins:List (Addr × Obj)) (s:Shared) (σ:St) (H:Hp) (Q:Bool→Hp→Prop),au X pins σ H s→t σ H Q→wpAny (model X.prog X.w) X.A (isTrue e X.env whole) (TP X pins σ Q) X.xe s
theorem PW.pt{X:Cx}{e:Expr}{t:TT}(h:PW X e t):PT X e t:=h _
def PA(X:Cx)(es:List Expr)(t:TA):Prop:=
  ∀(pos:Pos) (pins:List (Addr × Obj)) (s:Shared) (σ:St) (H:Hp) (Q:List V→Hp→Prop),au X pins σ H s→t σ H Q→wpAny (model X.prog X.w) X.A (spliced (backTo pos (starEach es X.env))) (AP X pins σ Q) X.xe s
def PS(X:Cx)(st:Stmt)(t:TS):Prop:=
  ∀(pins:List (Addr × Obj)) (s:Shared) (σ:St) (H:Hp) (D:oP),au X pins σ H s→t D σ H→wpAny (model X.prog X.w) X.A (exec st X.env) (SP X pins D) X.xe s
def j7(X:Cx)(st:List Stmt)(t:TS):Prop:=
  ∀(pins:List (Addr × Obj)) (s:Shared) (σ:St) (H:Hp) (D:oP),au X pins σ H s→t D σ H→wpAny (model X.prog X.w) X.A (execs st X.env) (SP X pins D) X.xe s
theorem bz{α:Type}{t:Sem α}{Q Q':α→Shared→Prop}{M:Model}{A:Around}{E:Value→Shared→Prop}{s:Shared}(h:wpAny M A t Q E s)(hQ:∀a s,Q a s→Q' a s):wpAny M A t Q' E s:=wpAny_mono h hQ fun _ _ x=>x
end L2
namespace L2
open PySem PySem.Spec PyProof.Rows
section
variable{X:Cx}
def Bx(i:Nat):TE:=fun σ H Q=>∃v,σ[i]?=some (some v)∧Q v H
def tC(v:V):TE:=fun _ H Q=>Q v H
theorem yV{i:Nat}{x:Str}{pos:Pos}(hN:X.N[i]?=some x)(hv:zZ X.env.scope x)(hd:(x==("__debug__":Str))=false:=by decide)(hcd:(x==("__classdict__":Str))=false:=by decide):PE X (.Name x pos) (Bx i):=by
  intro pins s σ H Q I h
  obtain⟨v,e,h⟩:=h
  obtain⟨m,hn,hl⟩:=I.loc
  obtain⟨u,r,l⟩:=hl i x v hN e hv
  have fin:EP X pins σ Q u s:=⟨v,H,I,r,h⟩
  rcases l with ⟨hk,hm⟩ | ⟨hk,c,hc,hcell⟩
  · exact wpAny_Name (wpAny_loadName_local I.ok.kind hk hn hm fin) hd
  · rcases hk with hk | hk
    · exact wpAny_Name (wpAny_loadName_cell I.ok.kind hk hc hcell fin) hd
    · exact wpAny_Name (wpAny_loadName_free I.ok.kind hk hc hcell fin hcd) hd
theorem ph{i j pos}:PE X (.Constant (.int i) j pos) (tC (.int i)):=fun _ _ _ H _ I h=>wpAny_Constant_int ⟨.int i,H,I.tok _,⟨_,rfl⟩,h⟩
theorem AL{b j pos}:PE X (.Constant (.bool b) j pos) (tC (.bl b)):=fun _ _ _ H _ I h=>Constant_bool ⟨.bl b,H,I,rfl,h⟩
theorem yQ{j pos}:PE X (.Constant .none j pos) (tC .non):=fun _ _ _ H _ I h=>Constant_none ⟨.non,H,I,rfl,h⟩
theorem yT{x j pos}:PE X (.Constant (.str x) j pos) (tC (.str x)):=fun _ _ _ H _ I h=>Calls.Constant_str ⟨.str x,H,I.tok _,⟨_,rfl⟩,h⟩
def Gl(X:Cx)(x:Str):Prop:=X.env.kindOf x=some .globalImplicit
theorem vp{E:Value→Shared→Prop}{pins:List (Addr × Obj)}{s:Shared}{σ:St}{H:Hp}{x:Str}{u:Value}{pos:Pos}{Q:Value→Shared→Prop}(I:au X pins σ H s)(hg:Gl X x)(hm:X.mg x=some u)(h:Q u s)
    (hd:(x==("__debug__":Str))=false:=by decide):wpAny (model X.prog X.w) X.A (eval (.Name x pos) X.env) Q E s:=
  Calls.Name_function_global I.ok.kind hg (Calls.loadGlobal_global (by rw [I.ok.glob];exact I.mod.glob.keeps I.bk) hm h) hd
theorem jE{E:Value→Shared→Prop}{pins:List (Addr × Obj)}{s:Shared}{σ:St}{H:Hp}{x:Str}{u:Value}{pos:Pos}{Q:Value→Shared→Prop}(I:au X pins σ H s)(hg:Gl X x)(hm:X.mg x=none)(hv:bootBuiltins x=some u)(h:Q u s)
    (hn:x≠"__name__":=by decide)(hd:(x==("__debug__":Str))=false:=by decide):wpAny (model X.prog X.w) X.A (eval (.Name x pos) X.env) Q E s:=by
  obtain⟨mb,h1,h2⟩:=I.mod.blt
  exact Calls.Name_function_global I.ok.kind hg (Calls.loadGlobal_builtin (by rw [I.ok.glob];exact I.mod.glob.keeps I.bk) hm (by rw [I.ok.blt];exact h1.keeps I.bk) ((h2 x hn).trans hv) h) hd
variable{a b:Expr}{ta tb:TE}{pos:Pos}
def tB(t:TE):TT:=fun σ H Q=>t σ H fun x H1=>∃c,x=.bl c∧Q c H1
theorem y9{e:Expr}{t:TE}(h:PE X e t)(he:∀whole,isTrue e X.env whole=(do let v ←whole;standAt e.pos;holding [v] (truthy v)):=by intro _;rfl):PT X e (tB t):=by
  intro pins s σ H Q I hw
  refine isTrue_plain (bz (h pins s σ H _ I hw) fun v s1 ⟨x,H1,I1,r1,q1⟩=>?_) (he _)
  obtain⟨d,rfl,q⟩:=q1
  cases r1
  exact wpAny_truthy_bool ⟨H1,I1,q⟩
variable{tA tB':TT}{dR:List Expr}
def Bl(t u:TT):TT:=fun σ H Q=>t σ H fun c H1=>if c=true then u σ H1 Q else Q false H1
def CY(t u:TT):TT:=fun σ H Q=>t σ H fun c H1=>if c=true then Q true H1 else u σ H1 Q
def Bq(t:TT):TT:=fun σ H Q=>t σ H fun c H1=>Q (!c) H1
theorem wm(ha:PT X a tA):PW X (.BoolOp .And [a] pos) tA:=by
  intro wh pins s σ H Q I h
  refine isTrue_and (bz (ha pins s σ H Q I h) fun c s1 e=>?_)
  cases c with
  | true=>exact isTrue_and_nil e
  | false=>exact e
theorem y'(ha:PT X a tA):PW X (.BoolOp .Or [a] pos) tA:=by
  intro wh pins s σ H Q I h
  refine isTrue_or (bz (ha pins s σ H Q I h) fun c s1 e=>?_)
  cases c with
  | false=>exact isTrue_or_nil e
  | true=>exact e
theorem y_(ha:PT X a tA)(hb:PW X (.BoolOp .And (b::dR) pos) tB'):PW X (.BoolOp .And (a::b::dR) pos) (Bl tA tB'):=by
  intro wh pins s σ H Q I h
  refine isTrue_and (bz (ha pins s σ H _ I h) fun c s1 ⟨H1,I1,q1⟩=>?_)
  cases c with
  | true=>exact hb wh pins s1 σ H1 Q I1 q1
  | false=>exact⟨H1,I1,q1⟩
theorem AV(ha:PT X a tA)(hb:PW X (.BoolOp .Or (b::dR) pos) tB'):PW X (.BoolOp .Or (a::b::dR) pos) (CY tA tB'):=by
  intro wh pins s σ H Q I h
  refine isTrue_or (bz (ha pins s σ H _ I h) fun c s1 ⟨H1,I1,q1⟩=>?_)
  cases c with
  | true=>exact⟨H1,I1,q1⟩
  | false=>exact hb wh pins s1 σ H1 Q I1 q1
theorem y8(ha:PT X a tA):PT X (.UnaryOp .Not a pos) (Bq tA):=by
  intro pins s σ H Q I h
  exact isTrue_not (ha pins s σ H (fun c H1=>Q (!c) H1) I h)
def Bm(ta tb:TE):TE:=fun σ H Q=>ta σ H fun x H1=>∃c,x=.bl c∧if c=true then tb σ H1 Q else Q (.bl false) H1
def Br(ta:TE):TE:=fun σ H Q=>ta σ H fun x H1=>∃c,x=.bl c∧Q (.bl (!c)) H1
theorem yS{op}{t:TE}(h:PE X a t):PE X (.BoolOp op [a] pos) t:=fun pins s σ H Q I hw=>BoolOp_one (h pins s σ H Q I hw)
theorem yO(ha:PE X a ta)(hb:PE X (.BoolOp .And (b::dR) pos) tb):PE X (.BoolOp .And (a::b::dR) pos) (Bm ta tb):=by
  intro pins s σ H Q I h
  refine BoolOp_and (bz (ha pins s σ H _ I h) fun v s1 ⟨x,H1,I1,r1,q1⟩=>?_)
  obtain⟨c,rfl,q1⟩:=q1
  cases r1
  refine wpAny_truthy_bool ?_
  cases c with
  | true=>exact hb pins s1 σ H1 Q I1 q1
  | false=>exact⟨.bl false,H1,I1,rfl,q1⟩
theorem yR(ha:PE X a ta):PE X (.UnaryOp .Not a pos) (Br ta):=by
  intro pins s σ H Q I h
  refine UnaryOp_ (bz (ha pins s σ H _ I h) fun v s1 ⟨x,H1,I1,r1,q1⟩=>?_)
  obtain⟨c,rfl,q1⟩:=q1
  cases r1
  exact not_of (wpAny_truthy_bool ⟨.bl (!c),H1,I1,rfl,q1⟩)
end
end L2
namespace L2
open PySem PySem.Spec PyProof.Rows
def em(K:PySem.W.Frag)(H:Hp)(a:Addr)(xs:List V):Prop:=
  Rd H a (.lst xs)∨
    ∃(o:Obj) (its:Array Value) (n:Nat),K.lookup a=some o∧o.cls=.type "list"∧o.dict=none∧o.data=.seq its n∧its.size≤sizeLine∧aE xs its.toList
def dQ(K:PySem.W.Frag)(H:Hp)(a:Addr)(xs:List V):Prop:=
  Rd H a (.tup xs)∨
    ∃(o:Obj) (its:Array Value) (n:Nat),K.lookup a=some o∧o.cls=.type "tuple"∧o.dict=none∧o.data=.seq its n∧its.size≤sizeLine∧aE xs its.toList
def B4:Value→Option V
  | .none=>some .non
  | .bool b=>some (.bl b)
  | .int i _=>some (.int i)
  | .str x _=>some (.str x)
  | .bytes b _=>some (.byt b)
  | .float b _=>some (.flt b)
  | .ref a=>some (.ref a)
  | .type n=>some (.ty n)
  | _=>none
theorem bf.abs{x:V}{u:Value}(r:bf x u):B4 u=some x:=by
  cases x with
  | non=>cases r;rfl
  | bl _=>cases r;rfl
  | int _=>obtain⟨t,rfl⟩:=r;rfl
  | str _=>obtain⟨t,rfl⟩:=r;rfl
  | byt _=>obtain⟨t,rfl⟩:=r;rfl
  | flt _=>obtain⟨t,rfl⟩:=r;rfl
  | ref _=>cases r;rfl
  | ty _=>cases r;rfl
theorem bf.inj{x y:V}{u:Value}(r:bf x u)(q:bf y u):x=y:=Option.some.inj (r.abs.symm.trans q.abs)
theorem aE.inj:∀{xs ys:List V} {us:List Value},aE xs us→aE ys us→xs=ys
  | _,_,_,.nil,.nil=>rfl
  | _,_,_,.cons r t,.cons r' t'=>by rw [r.inj r',aE.inj t t']
section
variable{X:Cx}{pins:List (Addr × Obj)}{σ:St}{H:Hp}{s:Shared}{a:Addr}{xs ys:List V}
theorem em.of{K:PySem.W.Frag}(h:H a=some (.lst xs)):em K H a xs:=.inl (.inl h)
theorem dQ.of{K:PySem.W.Frag}(h:H a=some (.tup xs)):dQ K H a xs:=.inl (.inl h)
theorem au.list(I:au X pins σ H s)(h:em X.K H a xs):∃its:List Value,aE xs its∧PlainL s.heap a its.toArray∧xs.length≤sizeLine:=by
  rcases h with h | ⟨o,its,n,hk,hc,hd,hs,hz,r⟩
  · obtain⟨z,its,n,r,e⟩:=h.ok I.hok
    exact⟨its,r,⟨_,n,e,rfl,rfl,rfl⟩,z⟩
  · refine⟨its.toList,r,⟨o,n,I.kIn a o hk,hc,hd,by simpa using hs⟩,?_⟩
    have e:=r.length
    simp only [Array.length_toList] at e
    lia
theorem au.tuple(I:au X pins σ H s)(h:dQ X.K H a xs):∃its:List Value,aE xs its∧IsTup s.heap a its.toArray∧xs.length≤sizeLine:=by
  rcases h with h | ⟨o,its,n,hk,hc,_,hs,hz,r⟩
  · obtain⟨z,its,r,p⟩:=h.ok I.hok
    exact⟨its,r,p.tup,z⟩
  · refine⟨its.toList,r,⟨o,I.kIn a o hk,hc,n,by simpa using hs⟩,?_⟩
    have e:=r.length
    simp only [Array.length_toList] at e
    lia
theorem au.tupD(I:au X pins σ H s)(h:dQ X.K H a xs):∃o,s.heap.get? a=some o∧o.dict=none:=by
  rcases h with h | ⟨o,its,n,hk,hc,hd,hs,hz,r⟩
  · obtain⟨z,its,r,o,e,_,_,_,hd⟩:=h.ok I.hok
    exact⟨o,e,hd⟩
  · exact⟨o,I.kIn a o hk,hd⟩
theorem au.list_inj(I:au X pins σ H s)(h:em X.K H a xs)(h':em X.K H a ys):xs=ys:=by
  obtain⟨its,r,⟨o,n,e,_,_,d⟩,_⟩:=I.list h
  obtain⟨its',r',⟨o',n',e',_,_,d'⟩,_⟩:=I.list h'
  rw [e] at e';cases e'
  rw [d] at d'
  injection d' with d1 _
  have:its=its':=by simpa using congrArg Array.toList d1
  subst this
  exact r.inj r'
theorem au.tuple_inj(I:au X pins σ H s)(h:dQ X.K H a xs)(h':dQ X.K H a ys):xs=ys:=by
  obtain⟨its,r,⟨o,e,_,n,d⟩,_⟩:=I.tuple h
  obtain⟨its',r',⟨o',e',_,n',d'⟩,_⟩:=I.tuple h'
  rw [e] at e';cases e'
  rw [d] at d'
  injection d' with d1 _
  have:its=its':=by simpa using congrArg Array.toList d1
  subst this
  exact r.inj r'
end
abbrev Cx.wish(X:Cx)(E:Value→Shared→Prop):Cx:={X with xe:=E}
abbrev Cx.nox(X:Cx):Cx:=X.wish fun _ _=>False
theorem Cx.Ok.wish{X:Cx}(ok:X.Ok)(E:Value→Shared→Prop):(X.wish E).Ok:=
  ⟨ok.mod,ok.kind,ok.glob,ok.blt,ok.above,ok.inj,ok.has,ok.cab,ok.hd,ok.frames,ok.stk,ok.exf,ok.bs,ok.bsz,ok.noex,ok.exfs,ok.funs,ok.frf⟩
theorem Cx.Ok.unwish{X:Cx}{E:Value→Shared→Prop}(ok:(X.wish E).Ok):X.Ok:=
  ⟨ok.mod,ok.kind,ok.glob,ok.blt,ok.above,ok.inj,ok.has,ok.cab,ok.hd,ok.frames,ok.stk,ok.exf,ok.bs,ok.bsz,ok.noex,ok.exfs,ok.funs,ok.frf⟩
section
variable{X:Cx}{pins:List (Addr × Obj)}{σ:St}{H:Hp}{s:Shared}{E:Value→Shared→Prop}
theorem au.wish(I:au X pins σ H s)(E:Value→Shared→Prop):au (X.wish E) pins σ H s:=⟨I.ok.wish E,I.os,I.bare,I.base,I.loc,I.cell,I.free,I.freeC,I.pin,I.hok,I.len⟩
theorem au.unwish(I:au (X.wish E) pins σ H s):au X pins σ H s:=⟨I.ok.unwish,I.os,I.bare,I.base,I.loc,I.cell,I.free,I.freeC,I.pin,I.hok,I.len⟩
theorem SP.unwish{D:oP}{f:Flow}{s':Shared}(h:SP (X.wish E) pins D f s'):SP X pins D f s':=by
  cases f with
  | next=>obtain⟨σ',H',I,q⟩:=h;exact⟨σ',H',I.unwish,q⟩
  | brk=>obtain⟨σ',H',I,q⟩:=h;exact⟨σ',H',I.unwish,q⟩
  | cont=>obtain⟨σ',H',I,q⟩:=h;exact⟨σ',H',I.unwish,q⟩
  | ret u=>obtain⟨v,σ',H',I,r,q⟩:=h;exact⟨v,σ',H',I.unwish,r,q⟩
theorem j7.nox{st:List Stmt}{t:TS}(h:j7 X.nox st t):j7 X st t:=fun pins s σ H D I hw=>
  wpAny_mono (h pins s σ H D (I.wish _) hw) (fun _ _ q=>q.unwish) fun _ _ z=>False.elim z
end
section
variable{X:Cx}{st:Stmt}{dR:List Stmt}{t u:TS}{e:Expr}{te:TE}{pos:Pos}
def Bp:TS:=fun D σ H=>D.nx σ H
def CB(t u:TS):TS:=fun D σ H=>t {D with nx:=u D} σ H
theorem wd:j7 X [] Bp:=fun _ _ σ H _ I h=>wpAny_execs_nil ⟨σ,H,I,h⟩
theorem t7(h1:PS X st t)(h2:j7 X dR u):j7 X (st::dR) (CB t u):=by
  intro pins s σ H D I h
  refine wpAny_execs_cons (bz (h1 pins s σ H {D with nx:=u D} I h) fun f s1 q=>?_)
  cases f with
  | next=>
    obtain⟨σ',H',I',q⟩:=q
    exact h2 pins s1 σ' H' D I' q
  | ret v=>exact q
  | brk=>exact q
  | cont=>exact q
theorem we(h1:PS X st t):j7 X [st] t:=by
  intro pins s σ H D I h
  refine wpAny_execs_cons (bz (h1 pins s σ H D I h) fun f s1 q=>?_)
  cases f with
  | next=>exact wpAny_execs_nil q
  | ret v=>exact q
  | brk=>exact q
  | cont=>exact q
theorem au.quiet{pins:List (Addr × Obj)}{σ:St}{H:Hp}{s:Shared}(I:au X pins σ H s):interactive X.env=false:=by simp [interactive,I.ok.kind]
def Bo(te:TE):TS:=fun D σ H=>te σ H fun _ H1=>D.nx σ H1
theorem wc(he:PE X e te)(hs:swapsWith e none pos.line X.env=pure false:=by rfl):PS X (.Expr e pos) (Bo te):=by
  intro pins s σ H D I h
  exact wpAny_Expr_any (bz (he pins s σ H _ I h) fun v s1 ⟨x,H1,I1,r1,q1⟩=>⟨σ,H1,I1,q1⟩) I.quiet hs
def CA(te:TE):TS:=fun D σ H=>te σ H D.rt
theorem y4(he:PE X e te):PS X (.Return (some e) pos) (CA te):=by
  intro pins s σ H D I h
  exact wpAny_Return_some (bz (he pins s σ H _ I h) fun v s1 ⟨x,H1,I1,r1,q1⟩=>⟨x,σ,H1,I1,r1,q1⟩)
def Cv(c:TT)(t u:TS):TS:=fun D σ H=>c σ H fun b H1=>if b=true then t D σ H1 else u D σ H1
theorem AU{c:Expr}{a b:List Stmt}{tc:TT}(hc:PT X c tc)(ha:j7 X a t)(hb:j7 X b u):PS X (.If c a b pos) (Cv tc t u):=by
  intro pins s σ H D I h
  refine wpAny_If (bz (hc pins s σ H _ I h) fun d s1 ⟨H1,I1,q1⟩=>?_)
  cases d with
  | true=>exact ha pins s1 σ H1 D I1 q1
  | false=>exact hb pins s1 σ H1 D I1 q1
end
abbrev TG:=V→St→Hp→(St→Hp→Prop)→Prop
abbrev uL:=List V→St→Hp→(St→Hp→Prop)→Prop
def PG(X:Cx)(target:Expr)(t:TG):Prop:=
  ∀(pins:List (Addr × Obj)) (s:Shared) (σ:St) (H:Hp) (v:V) (u:Value) (Q:St→Hp→Prop),au X pins σ H s→bf v u→t v σ H Q→
    wpAny (model X.prog X.w) X.A (assign target X.env u) (fun _ s'=>∃σ' H',au X pins σ' H' s'∧Q σ' H') X.xe s
def rS(X:Cx)(ts:List Expr)(t:uL):Prop:=
  ∀(pins:List (Addr × Obj)) (s:Shared) (σ:St) (H:Hp) (vs:List V) (us:List Value) (Q:St→Hp→Prop),au X pins σ H s→aE vs us→t vs σ H Q→
    wpAny (model X.prog X.w) X.A (assignInOrder ((assignEach ts X.env).map (·.2)) us) (fun _ s'=>∃σ' H',au X pins σ' H' s'∧Q σ' H') X.xe s
abbrev xM:=V→V→V→Hp→(Hp→Prop)→Prop
def zV(X:Cx)(t:xM):Prop:=
  ∀(pins:List (Addr × Obj)) (s:Shared) (σ:St) (H:Hp) (o i v:V) (ov iv u:Value) (Q:Hp→Prop),au X pins σ H s→bf o ov→bf i iv→bf v u→t o i v H Q→
    wpAny (model X.prog X.w) X.A (setItem ov iv u) (fun _ s'=>∃H',au X pins σ H' s'∧Q H') X.xe s
section
variable{X:Cx}{pos:Pos}
def qf(i:Nat):TG:=fun v σ H Q=>Q (σ.set i (some v)) H
theorem vT{i:Nat}{x:Str}(hN:X.N.Nodup)(hi:X.N[i]?=some x)(hx:zM X.env.scope x)(hf:X.fn x=true∨X.env.scope.names.lookup x=some .local:=by first | exact .inl rfl | exact .inr rfl | assumption):PG X (.Name x pos) (qf i):=by
  intro pins s σ H v u Q I r h
  exact wpAny_assign_Name (jp I hN hi hx r (fun s' I'=>⟨_,H,I',h⟩) hf)
def B7:uL:=fun vs σ H Q=>vs=[]∧Q σ H
def Ai(t:TG)(u:uL):uL:=fun vs σ H Q=>∃v r,vs=v::r∧t v σ H fun σ' H'=>u r σ' H' Q
theorem vV:rS X [] B7:=by
  intro pins s σ H vs us Q I r h
  obtain⟨e,h⟩:=h
  subst e
  cases r
  exact assignInOrder_nil ⟨σ,H,I,h⟩
theorem tQ{e:Expr}{es:List Expr}{t:TG}{u:uL}(h1:PG X e t)(h2:rS X es u)
    (hs:(assignEach (e::es) X.env).map (·.2)=assign e X.env::(assignEach es X.env).map (·.2):=by rfl):rS X (e::es) (Ai t u):=by
  intro pins s σ H vs us Q I r h
  obtain⟨v,vr,e1,h⟩:=h
  subst e1
  cases r with
  | cons r rr=>
    rw [hs]
    refine assignInOrder_cons (bz (h1 pins s σ H _ _ _ I r h) fun _ s1 ⟨σ1,H1,I1,q1⟩=>?_)
    exact h2 pins s1 σ1 H1 _ _ Q I1 rr q1
def nL(K:PySem.W.Frag)(n:Nat)(t:uL):TG:=fun v σ H Q=>∃a xs,v=.ref a∧dQ K H a xs∧xs.length=n∧t xs σ H Q
theorem yX{es:List Expr}{k:Nat}{t:uL}{n:Nat}(hc:X.calm=true)(h:rS X es t)
    (hn:(assignEach es X.env).length=n:=by rfl)(hst:(assignEach es X.env).findIdx? (·.1)=none:=by rfl):PG X (.Tuple es k pos) (nL X.K n t):=by
  intro pins s σ H v u Q I r hw
  obtain⟨a,xs,e1,hq,hl,hw⟩:=hw
  subst e1
  cases r
  obtain⟨its,rv,ht,hz⟩:=I.tuple hq
  refine assign_Tuple_tuple (I.ok.hd hc) ht (by simp [hn,←hl,rv.length]) hst fun h' hx=>?_
  have I1:au X pins σ H {s with heap:=h'}:=I.kept (t':=s.toks) fun b o e=>hx b o (Nat.ne_of_lt (Heap.lt_size e)) e
  exact h pins _ σ H xs _ Q I1 (by simpa using rv) hw
def B_(to ti:TE)(t:xM):TG:=fun v σ H Q=>to σ H fun o H1=>ti σ H1 fun i H2=>t o i v H2 fun H3=>Q σ H3
theorem yW{o i:Expr}{to ti:TE}{t:xM}(ho:PE X o to)(hi:PE X i ti)(hs:zV X t)
    (ha:∀v,assign (.Subscript o i pos) X.env v=(do
      let ov ←holding [v] (eval o X.env)
      let iv ←holding [v,ov] (eval i X.env)
      standAt pos
      holding [v,ov,iv] (setItem ov iv v)
      release [v,ov,iv] []):=by intro _;rfl):PG X (.Subscript o i pos) (B_ to ti t):=by
  intro pins s σ H v u Q I r h
  rw [ha]
  refine wpAny_bind (wpAny_holding (bz (ho pins s σ H _ I h) fun ov s1 ⟨x,H1,I1,r1,q1⟩=>?_))
  refine wpAny_bind (wpAny_holding (bz (hi pins s1 σ H1 _ I1 q1) fun iv s2 ⟨y,H2,I2,r2,q2⟩=>?_))
  refine wpAny_bind (wpAny_standAt (wpAny_bind (wpAny_holding (bz (hs pins s2 σ H2 x y v ov iv u _ I2 r1 r2 r q2) fun _ s3 ⟨H3,I3,q3⟩=>?_))))
  exact wpAny_release ⟨σ,H3,I3,q3⟩
def wB(te:TE)(g:TG):TS:=fun D σ H=>te σ H fun x H1=>g x σ H1 D.nx
theorem tY{tg e:Expr}{te:TE}{g:TG}(he:PE X e te)(hg:PG X tg g)(hs:swapsWithSole [tg] e pos.line X.env=pure false:=by rfl)(hw:swappedStores [tg] e X.env=pure none:=by rfl)
    (h1:(assignEach [tg] X.env).map (·.2)=[assign tg X.env]:=by rfl):PS X (.Assign [tg] e pos) (wB te g):=by
  intro pins s σ H D I h
  refine wpAny_Assign_stores (bz (he pins s σ H _ I h) fun v s1 ⟨x,H1,I1,r1,q1⟩=>?_) hs hw
  rw [h1]
  exact bz (hg pins s1 σ H1 x v _ I1 r1 q1) fun _ s2 q=>q
theorem y6{i:Nat}{x:Str}{e:Expr}{te:TE}{pos':Pos}(hN:X.N.Nodup)(hi:X.N[i]?=some x)(hx:zM X.env.scope x)(he:PE X e te)(hs:swapsWith e (some (.Name x pos')) pos.line X.env=pure false:=by rfl)(hf:X.fn x=true∨X.env.scope.names.lookup x=some .local:=by first | exact .inl rfl | exact .inr rfl | assumption):
    PS X (.Assign [.Name x pos'] e pos) (wB te (qf i)):=by
  intro pins s σ H D I h
  refine wpAny_Assign_Name (bz (he pins s σ H _ I h) fun v s1 ⟨y,H1,I1,r1,q1⟩=>?_) hs
  exact jp I1 hN hi hx r1 (fun s2 I2=>⟨_,H1,I2,q1⟩) hf
def Cz(i j:Nat)(ta:TA):TS:=fun D σ H=>ta σ H fun vs H1=>∃v w,vs=[v,w]∧D.nx ((σ.set i (some v)).set j (some w)) H1
theorem y3{i j:Nat}{x y:Str}{a b:Expr}{ta:TA}{px py pt:Pos}{kt k2 pt2}(hc:X.calm=true)(hN:X.N.Nodup)(hi:X.N[i]?=some x)(hj:X.N[j]?=some y)(hij:i≠j)
    (hx:X.env.scope.names.lookup x=some .local)(hy:X.env.scope.names.lookup y=some .local)(ha:PA X [a,b] ta)
    (hw:swappedStores [.Tuple [.Name x px,.Name y py] kt pt] (.Tuple [a,b] k2 pt2) X.env=pure (some [x,y]))
    (hs:swapsWithSole [.Tuple [.Name x px,.Name y py] kt pt] (.Tuple [a,b] k2 pt2) pos.line X.env=pure false:=by rfl):
    PS X (.Assign [.Tuple [.Name x px,.Name y py] kt pt] (.Tuple [a,b] k2 pt2) pos) (Cz i j ta):=by
  intro pins s σ H D I h
  rw [exec_Assign_arm]
  refine wpAny_bind (wpAny_standAt ?_)
  rw [hs]
  refine wpAny_bind (wpAny_pure ?_)
  rw [if_neg (by decide)]
  refine wpAny_bind (Tuple_ (bz (ha _ pins s σ H _ I h) fun us s1 ⟨vs,H1,I1,r1,q1⟩=>?_))
  obtain⟨v,w,e1,q1⟩:=q1
  subst e1
  obtain⟨u1,u2,rfl,rv,rw'⟩:∃u1 u2,us=[u1,u2]∧bf v u1∧bf w u2:=by
    cases r1 with
    | cons p q=>
      cases q with
      | cons p' q'=>
        cases q'
        exact⟨_,_,rfl,p,p'⟩
  refine wpAny_newObj_type ?_ (by show 2≤sizeLine;decide)
  have I2:au X pins σ H1 {s1 with heap:=s1.heap.push {cls:=.type "tuple",data:=.seq [u1,u2].toArray}}:=I1.kept (t':=s1.toks) fun b o e=>Heap.get?_push_of_some _ e
  rw [hw]
  refine wpAny_bind (wpAny_pure ?_)
  show wpAny (model X.prog X.w) X.A (do rule "assign.swapped-stores";let items ←unpackItems (.ref s1.heap.objs.size) 2 none;assignInOrder [fun v=>bindName X.env y v,fun v=>bindName X.env x v] items.reverse;pure Flow.next) _ _ _
  refine wpAny_bind (wpAny_rule (wpAny_bind (unpackItems_tuple (items:=#[u1,u2]) (I.ok.hd hc) (IsTup.new s1.heap _) fun h' hx'=>?_)))
  have I3:=I2.kept (h':=h') (t':=s1.toks) fun b o e=>hx' b o (Nat.ne_of_lt (Heap.lt_size e)) e
  show wpAny _ _ (assignInOrder [fun v=>bindName X.env y v,fun v=>bindName X.env x v] [u2,u1] >>= fun _=>pure Flow.next) _ _ _
  refine wpAny_bind (assignInOrder_cons (wpAny_bindName (jp I3 hN hj (.inl hy) rw' (fun s2 I4=>?_) (.inr hy))))
  refine assignInOrder_cons (wpAny_bindName (jp I4 hN hi (.inl hx) rv (fun s3 I5=>assignInOrder_nil (wpAny_pure ?_)) (.inr hx)))
  rw [List.set_comm _ _ (Ne.symm hij)] at I5
  exact⟨_,H1,I5,q1⟩
end
section
variable{X:Cx}{pos:Pos}
def zC(c:TT)(tb:TS):TS:=fun D σ H=>∃W:Nat→St→Hp→Prop,(∃m,W m σ H)∧∀m σ H,W m σ H→
  c σ H fun b H1=>if b=true then ∃N:St→Hp→Prop,(∀σ' H',N σ' H'→∃m',m' < m∧W m' σ' H')∧tb {D with nx:=N,ct:=N,bk:=D.nx} σ H1 else D.nx σ H1
theorem tZ{c:Expr}{body:List Stmt}{tc:TT}{tb:TS}(hp:PassesOwn (model X.prog X.w) X.A X.env X.xe)(hc:PT X c tc)(hb:j7 X body tb):PS X (.While c body [] pos) (zC tc tb):=by
  intro pins s σ H D I h
  obtain⟨W,⟨m0,w0⟩,turn⟩:=h
  refine wpAny_While (codeAny_whileLoop (fun n s'=>∃σ' H',au X pins σ' H' s'∧W n σ' H') ?_ m0 ⟨σ,H,I,w0⟩)
  rintro n s1 ⟨σ1,H1,I1,w1⟩
  refine wpAny_passesOwn hp (bz (hc pins s1 σ1 H1 _ I1 (turn n σ1 H1 w1)) fun b s2 ⟨H2,I2,q2⟩=>?_)
  cases b with
  | true=>
    obtain⟨N,hN,q2⟩:=q2
    rw [if_pos rfl]
    refine wpAny_passesOwn hp (bz (hb pins s2 σ1 H2 _ I2 q2) fun f s3 q3=>?_)
    cases f with
    | next=>
      obtain⟨σ3,H3,I3,n3⟩:=q3
      obtain⟨m',hm,w3⟩:=hN σ3 H3 n3
      exact⟨m',hm,σ3,H3,I3,w3⟩
    | cont=>
      obtain⟨σ3,H3,I3,n3⟩:=q3
      obtain⟨m',hm,w3⟩:=hN σ3 H3 n3
      exact⟨m',hm,σ3,H3,I3,w3⟩
    | brk=>exact q3
    | ret v=>exact q3
  | false=>
    rw [if_neg Bool.false_ne_true]
    exact wpAny_execs_nil ⟨σ1,H2,I2,q2⟩
end
structure It where
  go:Nat→Hp→Prop
  yld:Nat→Hp→V→Hp→Prop
  stop:Nat→Hp→Prop
def ir(X:Cx)(pins:List (Addr × Obj))(H:Hp)(b:Addr):Prop:=
  H b=none∧b≠X.env.locals∧b∉X.fs∧(b∈X.ex∨X.s₀.heap.objs.size≤b)∧(∀x c,X.env.cells.lookup x=some c→c≠b)∧∀p∈X.pn++pins,p.1≠b
theorem au.fpOk{X:Cx}{pins:List (Addr × Obj)}{σ:St}{H H':Hp}{s:Shared}{b:Addr}(I:au X pins σ H s)(hb:s.heap.objs.size≤b)(hn:H' b=none):ir X pins H' b:=by
  refine⟨hn,Nat.ne_of_gt (Nat.lt_of_lt_of_le I.lt hb),I.nofs hb,.inr (Nat.le_trans I.sz hb),fun x c e z=>?_,fun p hp z=>?_⟩
  · obtain⟨v,q⟩:=I.cell x c e
    exact absurd (Nat.lt_of_lt_of_le q.lt (by rw [z];exact hb)) (Nat.lt_irrefl _)
  · exact absurd (Nat.lt_of_lt_of_le (Heap.lt_size (I.pin p hp).1) (by rw [z];exact hb)) (Nat.lt_irrefl _)
structure uX (P:Program) (w:World) (K:PySem.W.Frag) (tg:Expr) (J:It) (fp:List Addr) (it:Addr) (tn:Nat→Heap→Prop):Prop where
  mem:it∈fp
  obj:∀i h,tn i h→∀b∈fp,∃o,h.get? b=some o∧∀v,o.data≠.cell v
  keep:∀i h h',tn i h→(∀b∈fp,∀o,h.get? b=some o→h'.get? b=some o)→tn i h'
  item:∀(X:Cx),X.prog=P→X.w=w→X.K=K→X.calm=true→∀(i:Nat) (pins:List (Addr × Obj)) (s:Shared) (σ:St) (H:Hp) (E:Value→Shared→Prop),au X pins σ H s→(∀b∈fp,ir X pins H b)→tn i s.heap→J.go i H→
    wpAny (model P w) X.A (pyNext (.ref it)) (fun r s1=>∃u,r=some u∧
      wpAny (model P w) X.A (letOwnedTupleGo tg (.ref it) u) (fun _ s2=>∃x H',au X pins σ H' s2∧bf x u∧J.yld i H x H'∧tn (i+1) s2.heap∧∀b∈fp,H' b=none) E s1) E s
  done:∀(X:Cx),X.prog=P→X.w=w→X.K=K→X.calm=true→∀(i:Nat) (pins:List (Addr × Obj)) (s:Shared) (σ:St) (H:Hp) (E:Value→Shared→Prop),au X pins σ H s→(∀b∈fp,ir X pins H b)→tn i s.heap→J.stop i H→
    wpAny (model P w) X.A (pyNext (.ref it)) (fun r s1=>r=none∧au X pins σ H s1) E s
  self:∀(A:Around) (i:Nat) (s:Shared) (Q:Value→Shared→Prop) (E:Value→Shared→Prop),tn i s.heap→Q (.ref it) s→wpAny (model P w) A (pyIter (.ref it)) Q E s
abbrev TI:=St→Hp→(It→Hp→Prop)→Prop
def CH(X:Cx)(pins:List (Addr × Obj))(σ:St)(tg:Expr)(R:It→Hp→Prop)(itv:Value)(s2:Shared):Prop:=
  ∃(it:Addr) (fp:List Addr) (tn:Nat→Heap→Prop) (J:It) (H':Hp),itv=.ref it∧au X pins σ H' s2∧uX X.prog X.w X.K tg J fp it tn∧tn 0 s2.heap∧(∀b∈fp,ir X pins H' b)∧R J H'
def PI(X:Cx)(tg iter:Expr)(wi:TI):Prop:=
  ∀(pins:List (Addr × Obj)) (s:Shared) (σ:St) (H:Hp) (R:It→Hp→Prop),au X pins σ H s→wi σ H R→
    wpAny (model X.prog X.w) X.A (eval iter X.env) (fun v s1=>wpAny (model X.prog X.w) X.A (pyIter v) (CH X pins σ tg R) X.xe s1) X.xe s
theorem sR{M:Model}{A:Around}{E:Value→Shared→Prop}{s:Shared}{tg:Expr}{it:Addr}{u:Value}{o:Obj}{n:String}{vs:Array Value}{Q:Unit→Shared→Prop}(ho:s.heap.get? it=some o)(hc:o.cls=.type n)(hd:o.data=.fields vs)
    (hn:["enumerate","zip","dict_itemiterator","dict_reverseitemiterator","odict_iterator","itertools.zip_longest","itertools.pairwise"].contains n=false)(hQ:Q () s):wpAny M A (letOwnedTupleGo tg (.ref it) u) Q E s:=by
  unfold letOwnedTupleGo
  cases tg<;>first
    | exact wpAny_pure hQ
    | (cases u<;>first
        | exact wpAny_pure hQ
        | (refine wpAny_bind (wpAny_load ho ?_)
           rw [hc,hd]
           show wpAny M A (if (["enumerate","zip","dict_itemiterator","dict_reverseitemiterator","odict_iterator","itertools.zip_longest","itertools.pairwise"].contains n&&vs[0]?==some (rawInt _))=true then _ else _) Q E s
           rw [if_neg (by intro h;rw [hn,Bool.false_and] at h;cases h)]
           exact wpAny_pure hQ))
def BW(K:PySem.W.Frag)(a:Addr):It:=
  ⟨fun i H=>∃xs x,em K H a xs∧xs[i]?=some x,fun i H x H'=>H'=H∧∀xs,em K H a xs→xs[i]?=some x,fun i H=>∃xs,em K H a xs∧xs.length≤i⟩
def BX(K:PySem.W.Frag)(a:Addr):It:=
  ⟨fun i H=>∃xs x,dQ K H a xs∧xs[i]?=some x,fun i H x H'=>H'=H∧∀xs,dQ K H a xs→xs[i]?=some x,fun i H=>∃xs,dQ K H a xs∧xs.length≤i⟩
def BG(lo:Int)(n:Nat):It:=⟨fun i _=>i < n,fun i H x H'=>H'=H∧x=.int (lo+i),fun i _=>n≤i⟩
theorem rJ{P:Program}{w:World}{K:PySem.W.Frag}{tg:Expr}(a it:Addr):uX P w K tg (BW K a) [it] it (fun i h=>h.IsListIter it a i) where
  mem:=by simp
  obj:=fun i h st b hb=>by
    have e:b=it:=by simpa using hb
    subst e
    obtain⟨o,e,c,d⟩:=st
    exact⟨o,e,fun v z=>by rw [d] at z;cases z⟩
  keep:=fun i h h' st k=>st.at fun o e=>k it (by simp) o e
  item:=by
    intro X hP hw hK hc i pins s σ H E I hf st hg
    subst hP hw hK
    obtain⟨xs,x,hq,hx⟩:=hg
    obtain⟨its,rv,p,hz⟩:=I.list hq
    obtain⟨u,hu,ru⟩:=rv.get hx
    obtain⟨f0,f1,f2,f3,f4,f5⟩:=hf it (by simp)
    refine wpAny_pyNext_list_item st p.isList (x:=u) (by simpa using hu) fun h' st' sb=>?_
    have I1:au X pins σ H {s with heap:=h'}:=I.turned (t':=s.toks) (fun b o hb e=>(sb.2 b hb).trans e) f0 f1 f3 f4 f5
    obtain⟨o,e,c,d⟩:=id st'
    exact⟨u,rfl,sR (s:={s with heap:=h'}) e c d (by decide) ⟨x,H,I1,ru,⟨rfl,fun ys hy=>by rw [I.list_inj hy hq];exact hx⟩,st',fun b hb=>(hf b hb).1⟩⟩
  done:=by
    intro X hP hw hK hc i pins s σ H E I hf st hg
    subst hP hw hK
    obtain⟨xs,hq,hx⟩:=hg
    obtain⟨its,rv,p,hz⟩:=I.list hq
    obtain⟨f0,f1,f2,f3,f4,f5⟩:=hf it (by simp)
    have hl:=rv.length
    exact wpAny_pyNext_list_end (I.ok.hd hc) st p.isList (by simp;lia) fun h' eb=>⟨rfl,I.turned (t':=s.toks) (fun b o hb e=>eb b o hb e) f0 f1 f3 f4 f5⟩
  self:=fun _ _ _ _ _ st h=>wpAny_pyIter_listiter st h
theorem pL{P:Program}{w:World}{K:PySem.W.Frag}{tg:Expr}(a it:Addr):uX P w K tg (BX K a) [it] it (fun i h=>h.IsTupleIter it a i) where
  mem:=by simp
  obj:=fun i h st b hb=>by
    have e:b=it:=by simpa using hb
    subst e
    obtain⟨o,e,c,d⟩:=st
    exact⟨o,e,fun v z=>by rw [d] at z;cases z⟩
  keep:=fun i h h' st k=>st.at fun o e=>k it (by simp) o e
  item:=by
    intro X hP hw hK hc i pins s σ H E I hf st hg
    subst hP hw hK
    obtain⟨xs,x,hq,hx⟩:=hg
    obtain⟨its,rv,p,hz⟩:=I.tuple hq
    obtain⟨u,hu,ru⟩:=rv.get hx
    obtain⟨f0,f1,f2,f3,f4,f5⟩:=hf it (by simp)
    refine wpAny_pyNext_tuple_item st (show s.heap.IsTuple a its.toArray from p) (x:=u) (by simpa using hu) fun h' st' sb=>?_
    have I1:au X pins σ H {s with heap:=h'}:=I.turned (t':=s.toks) (fun b o hb e=>(sb.2 b hb).trans e) f0 f1 f3 f4 f5
    obtain⟨o,e,c,d⟩:=id st'
    exact⟨u,rfl,sR (s:={s with heap:=h'}) e c d (by decide) ⟨x,H,I1,ru,⟨rfl,fun ys hy=>by rw [I.tuple_inj hy hq];exact hx⟩,st',fun b hb=>(hf b hb).1⟩⟩
  done:=by
    intro X hP hw hK hc i pins s σ H E I hf st hg
    subst hP hw hK
    obtain⟨xs,hq,hx⟩:=hg
    obtain⟨its,rv,p,hz⟩:=I.tuple hq
    obtain⟨f0,f1,f2,f3,f4,f5⟩:=hf it (by simp)
    have hl:=rv.length
    exact wpAny_pyNext_tuple_end (I.ok.hd hc) st (show s.heap.IsTuple a its.toArray from p) (by simp;lia) fun h' eb=>⟨rfl,I.turned (t':=s.toks) (fun b o hb e=>eb b o hb e) f0 f1 f3 f4 f5⟩
  self:=fun _ _ _ _ _ st h=>wpAny_pyIter_tupleiter st h
theorem pK{P:Program}{w:World}{K:PySem.W.Frag}{tg:Expr}(it:Addr)(lo:Int)(n:Nat):uX P w K tg (BG lo n) [it] it (fun i h=>IsRangeIter h it (lo+(i:Nat)*1) ((n:Int) - (i:Nat)) 1) where
  mem:=by simp
  obj:=fun i h st b hb=>by
    have e:b=it:=by simpa using hb
    subst e
    exact⟨_,st,fun v z=>by
      have z':Data.fields _=Data.cell v:=z
      cases z'⟩
  keep:=fun i h h' st k=>k it (by simp) _ st
  item:=by
    intro X hP hw hK hc i pins s σ H E I hf st hg
    subst hP hw hK
    obtain⟨f0,f1,f2,f3,f4,f5⟩:=hf it (by simp)
    have W:=Walks.range (prog:=X.prog) (w:=X.w) (I.ok.hd hc) it lo 1 n
    refine W.item i s _ _ hg st fun v h' tk hv st' kk=>?_
    obtain⟨t,rfl⟩:=hv
    have I1:au X pins σ H {s with heap:=h',toks:=tk}:=I.turned (fun b o hb e=>kk b o (by simpa using hb) e) f0 f1 f3 f4 f5
    refine⟨_,rfl,sR (s:={s with heap:=h',toks:=tk}) (n:="range_iterator") st' rfl rfl (by decide) ⟨.int (lo+i),H,I1,⟨t,?_⟩,⟨rfl,rfl⟩,st',fun b hb=>(hf b hb).1⟩⟩
    rw [Int.mul_one]
  done:=by
    intro X hP hw hK hc i pins s σ H E I hf st hg
    subst hP hw hK
    obtain⟨f0,f1,f2,f3,f4,f5⟩:=hf it (by simp)
    exact wpAny_pyNext_range_end (I.ok.hd hc) st (by have:n≤i:=hg;lia) fun h' eb=>⟨rfl,I.turned (t':=s.toks) (fun b o hb e=>eb b o hb e) f0 f1 f3 f4 f5⟩
  self:=fun _ _ _ _ _ st h=>wpAny_pyIter_rangeiter st h
end L2
namespace L2
open PySem PySem.Spec PyProof.Rows
section
variable{X:Cx}{tg:Expr}
def xt(K:PySem.W.Frag)(tl:TE):TI:=fun σ H R=>tl σ H fun x H1=>∃a,x=.ref a∧(∃xs,em K H1 a xs)∧R (BW K a) H1
def Am(K:PySem.W.Frag)(tl:TE):TI:=fun σ H R=>tl σ H fun x H1=>∃a,x=.ref a∧(∃xs,dQ K H1 a xs)∧R (BX K a) H1
theorem vX{l:Expr}{tl:TE}(hl:PE X l tl):PI X tg l (xt X.K tl):=by
  intro pins s σ H R I h
  refine bz (hl pins s σ H _ I h) fun v s1 ⟨x,H1,I1,r1,q1⟩=>?_
  obtain⟨a,e,⟨xs,hq⟩,q⟩:=q1
  subst e
  cases r1
  obtain⟨its,rv,p,hz⟩:=I1.list hq
  refine wpAny_pyIter_list p.isList ?_
  refine⟨s1.heap.objs.size,[s1.heap.objs.size],_,_,H1,rfl,I1.kept (t':=s1.toks) fun b o e=>Heap.get?_push_of_some _ e,rJ a _,⟨_,Heap.get?_push_size _ rfl,rfl,rfl⟩,fun b hb=>?_,q⟩
  have e:b=s1.heap.objs.size:=by simpa using hb
  subst e
  exact I1.fpOk (Nat.le_refl _) (I1.hok.fresh (Nat.le_refl _))
theorem yY{l:Expr}{tl:TE}(hl:PE X l tl):PI X tg l (Am X.K tl):=by
  intro pins s σ H R I h
  refine bz (hl pins s σ H _ I h) fun v s1 ⟨x,H1,I1,r1,q1⟩=>?_
  obtain⟨a,e,⟨xs,hq⟩,q⟩:=q1
  subst e
  cases r1
  obtain⟨its,rv,p,hz⟩:=I1.tuple hq
  refine wpAny_pyIter_tuple (show s1.heap.IsTuple a its.toArray from p) ?_
  refine⟨s1.heap.objs.size,[s1.heap.objs.size],_,_,H1,rfl,I1.kept (t':=s1.toks) fun b o e=>Heap.get?_push_of_some _ e,pL a _,⟨_,Heap.get?_push_size _ rfl,rfl,rfl⟩,fun b hb=>?_,q⟩
  have e:b=s1.heap.objs.size:=by simpa using hb
  subst e
  exact I1.fpOk (Nat.le_refl _) (I1.hok.fresh (Nat.le_refl _))
theorem um{pins:List (Addr × Obj)}{σ:St}{H:Hp}{s:Shared}{R:It→Hp→Prop}{E:Value→Shared→Prop}{lo hi:Int}{t u v:Tok}{tk:Nat}(I:au X pins σ H s)(h1: -(2 ^ 62)≤lo)(h2:lo < 2 ^ 62)(h3: -(2 ^ 62)≤hi)(h4:hi < 2 ^ 62)
    (q:R (BG lo (hi - lo).toNat) H):wpAny (model X.prog X.w) X.A (pyIter (.ref s.heap.objs.size)) (CH X pins σ tg R) E {s with heap:=s.heap.push {cls:=.type "range",data:=.fields #[.int lo t,.int hi u,.int 1 v]},toks:=tk}:=by
  refine wpAny_pyIter_range (IsRange.new ..) (small_one h1 h2 h3 h4) ?_
  have I1:au X pins σ H {s with heap:=s.heap.push {cls:=.type "range",data:=.fields #[.int lo t,.int hi u,.int 1 v]},toks:=tk}:=I.kept fun b o e=>Heap.get?_push_of_some _ e
  refine⟨(s.heap.push {cls:=.type "range",data:=.fields #[.int lo t,.int hi u,.int 1 v]}).objs.size,[(s.heap.push {cls:=.type "range",data:=.fields #[.int lo t,.int hi u,.int 1 v]}).objs.size],_,_,H,rfl,
    I1.kept (t':=tk) fun b o e=>Heap.get?_push_of_some _ e,pK _ lo (hi - lo).toNat,?_,fun b hb=>?_,q⟩
  · have e1:lo+((0:Nat):Int)*1=lo:=by simp
    have e2:(((hi - lo).toNat:Nat):Int) - ((0:Nat):Int)=Builtin.Range.rangeSize lo hi 1:=by rw [rangeSize_one];split<;>lia
    show IsRangeIter _ _ (lo+((0:Nat):Int)*1) ((((hi - lo).toNat:Nat):Int) - ((0:Nat):Int)) 1
    rw [e1,e2]
    exact Heap.get?_push_size _ rfl
  · have e:b=(s.heap.push {cls:=.type "range",data:=.fields #[.int lo t,.int hi u,.int 1 v]}).objs.size:=by simpa using hb
    subst e
    exact I1.fpOk (Nat.le_refl _) (I1.hok.fresh (Nat.le_refl _))
def Al(ta:TA):TI:=fun σ H R=>ta σ H fun vs H1=>∃j:Int,vs=[.int j]∧ -(2 ^ 62)≤j∧j < 2 ^ 62∧R (BG 0 j.toNat) H1
theorem rm{a:Expr}{ta:TA}{p pos:Pos}(hg:Gl X "range")(hm:X.mg "range"=none)(ha:PA X [a] ta)(hs:starEach [a] X.env=[(false,eval a X.env)]:=by rfl):PI X tg (.Call (.Name "range" p) [a] [] pos) (Al ta):=by
  intro pins s σ H R I h
  refine Call_ (jE I hg hm boot_range (PyProof.Rows.callWith_type1 (bz (ha pos pins s σ H _ I h) fun us s1 ⟨vs,H1,I1,r1,q1⟩=>?_) hs rfl))
  obtain⟨j,e,q1,q2,q⟩:=q1
  subst e
  cases r1 with
  | cons r rr=>
    cases rr
    obtain⟨t,rfl⟩:=r
    exact call_range_1 (um I1 (by lia) (by lia) q1 q2 (by simpa using q))
def Cu(wi:TI)(g:TG)(tb:TS):TS:=fun D σ H=>wi σ H fun J H1=>∃W:Nat→Nat→St→Hp→Prop,(∃m,W 0 m σ H1)∧∀i m σ H,W i m σ H→
  (J.stop i H∧D.nx σ H)∨(J.go i H∧∃N:St→Hp→Prop,(∀σ' H',N σ' H'→∃m',m' < m∧W (i+1) m' σ' H')∧∀x H',J.yld i H x H'→g x σ H' fun σ2 H2=>tb {D with nx:=N,ct:=N,bk:=D.nx} σ2 H2)
def gZ(fp:List Addr)(h:Heap):List (Addr × Obj):=fp.filterMap fun b=>(h.get? b).map fun o=>(b,o)
theorem bJ{fp:List Addr}{h:Heap}{b:Addr}{o:Obj}(hb:b∈fp)(e:h.get? b=some o):(b,o)∈gZ fp h:=List.mem_filterMap.mpr ⟨b,hb,by rw [e];rfl⟩
theorem rj{fp:List Addr}{h:Heap}{p:Addr × Obj}(hp:p∈gZ fp h):p.1∈fp∧h.get? p.1=some p.2:=by
  obtain⟨b,hb,e⟩:=List.mem_filterMap.mp hp
  cases q:h.get? b with
  | none=>rw [q] at e;cases e
  | some o=>
    rw [q] at e
    have e':(b,o)=p:=Option.some.inj e
    subst e'
    exact⟨hb,q⟩
theorem au.pinned{pins:List (Addr × Obj)}{σ:St}{H:Hp}{s:Shared}{fp:List Addr}(I:au X pins σ H s)(hf:∀b∈fp,ir X pins H b)(ho:∀b∈fp,∃o,s.heap.get? b=some o∧∀v,o.data≠.cell v):au X (pins++gZ fp s.heap) σ H s:=
  I.pins_of fun p hp=>(List.mem_append.mp hp).elim (fun z=>I.pin p (List.mem_append_right _ z)) fun z=>by
    obtain⟨hb,e⟩:=rj z
    obtain⟨f0,f1,f2,_⟩:=hf p.1 hb
    obtain⟨o,e',d⟩:=ho p.1 hb
    rw [e] at e';cases e'
    exact⟨e,f0,f1,f2,d⟩
theorem au.unpinned{pins pl:List (Addr × Obj)}{σ:St}{H:Hp}{s:Shared}(I:au X (pins++pl) σ H s):au X pins σ H s:=I.pins_of fun p hp=>I.pin p (List.mem_append_right _ (List.mem_append_left _ hp))
theorem yZ{iter:Expr}{body:List Stmt}{wi:TI}{g:TG}{tb:TS}{pos:Pos}(hp:PassesOwn (model X.prog X.w) X.A X.env X.xe)(hc:X.calm=true)(hi:PI X tg iter wi)(hg:PG X tg g)(hb:j7 X body tb)
    (hs:∀x,foldedSetIterable iter X.env x=pure x:=by intro _;rfl):PS X (.For tg iter body [] pos) (Cu wi g tb):=by
  intro pins s σ H D I h
  refine wpAny_For (bz (hi pins s σ H _ I h) fun v s1 h1=>bz h1 fun itv s2 h2=>?_) hs
  obtain⟨it,fp,tn,J,H2,e,I2,T,st2,f2,W,⟨m0,w0⟩,turn⟩:=h2
  subst e
  have stat:∀{H':Hp},(∀b∈fp,H' b=none)→∀b∈fp,ir X pins H' b:=fun hn b hb=>⟨hn b hb,(f2 b hb).2⟩
  refine codeAny_forLoop_any (fun n s'=>∃i σ' H',au X pins σ' H' s'∧tn i s'.heap∧(∀b∈fp,H' b=none)∧W i n σ' H') ?_ m0 ⟨0,σ,H2,I2,st2,fun b hb=>(f2 b hb).1,w0⟩
  rintro n s3 ⟨i,σ3,H3,I3,st3,fr3,w3⟩
  rcases turn i n σ3 H3 w3 with ⟨stop,qn⟩ | ⟨go,N,hN,step⟩
  · refine wpAny_passesOwn hp (bz (T.done X rfl rfl rfl hc i pins s3 σ3 H3 X.xe I3 (stat fr3) st3 stop) fun r s4 ⟨hr,I4⟩=>?_)
    subst hr
    exact wpAny_execs_nil ⟨σ3,H3,I4,qn⟩
  · refine wpAny_passesOwn hp (bz (T.item X rfl rfl rfl hc i pins s3 σ3 H3 X.xe I3 (stat fr3) st3 go) fun r s4 ⟨u,hr,h4⟩=>?_)
    subst hr
    refine wpAny_passesOwn hp (bz h4 fun _ s5 ⟨x,H5,I5,r5,y5,st5,fr5⟩=>?_)
    have I5':=I5.pinned (stat fr5) (T.obj _ _ st5)
    refine wpAny_passesOwn hp (bz (hg _ s5 σ3 H5 x u _ I5' r5 (step x H5 y5)) fun _ s6 ⟨σ6,H6,I6,q6⟩=>?_)
    refine wpAny_passesOwn hp (bz (hb _ s6 σ6 H6 _ I6 q6) fun f s7 q7=>?_)
    have again:∀{σ7:St} {H7:Hp},au X (pins++gZ fp s5.heap) σ7 H7 s7→N σ7 H7→∃m,m < n∧∃i σ' H',au X pins σ' H' s7∧tn i s7.heap∧(∀b∈fp,H' b=none)∧W i m σ' H':=fun{σ7 H7} I7 n7=>by
      obtain⟨m',hm,w7⟩:=hN σ7 H7 n7
      refine⟨m',hm,i+1,σ7,H7,I7.unpinned,T.keep _ _ _ st5 fun b hb o e=>(I7.pin (b,o) (List.mem_append_right _ (List.mem_append_right _ (bJ hb e)))).1,fun b hb=>?_,w7⟩
      obtain⟨o,e,d⟩:=T.obj _ _ st5 b hb
      exact(I7.pin (b,o) (List.mem_append_right _ (List.mem_append_right _ (bJ hb e)))).2.1
    cases f with
    | next=>obtain⟨σ7,H7,I7,n7⟩:=q7;exact again I7 n7
    | cont=>obtain⟨σ7,H7,I7,n7⟩:=q7;exact again I7 n7
    | brk=>obtain⟨σ7,H7,I7,q7⟩:=q7;exact⟨σ7,H7,I7.unpinned,q7⟩
    | ret v=>obtain⟨x7,σ7,H7,I7,r7,q7⟩:=q7;exact⟨x7,σ7,H7,I7.unpinned,r7,q7⟩
end
end L2
namespace L2
open PySem PySem.Spec PyProof.Rows
abbrev R2:=V→V→Hp→VK→Prop
def fg(X:Cx)(f:Value→Value→Sem Value)(r:R2):Prop:=
  ∀(pins:List (Addr × Obj)) (s:Shared) (σ:St) (H:Hp) (x y:V) (v u:Value) (Q:VK),au X pins σ H s→bf x v→bf y u→r x y H Q→
    wpAny (model X.prog X.w) X.A (f v u) (EP X pins σ Q) X.xe s
def BK(X:Cx)(f:Value→Sem Value)(r:V→Hp→VK→Prop):Prop:=
  ∀(pins:List (Addr × Obj)) (s:Shared) (σ:St) (H:Hp) (x:V) (v:Value) (Q:VK),au X pins σ H s→bf x v→r x H Q→
    wpAny (model X.prog X.w) X.A (f v) (EP X pins σ Q) X.xe s
def cQ(X:Cx)(f:Value)(r:List V→Hp→VK→Prop):Prop:=
  ∀(pins:List (Addr × Obj)) (s:Shared) (σ:St) (H:Hp) (xs:List V) (us:List Value) (Q:VK),au X pins σ H s→aE xs us→r xs H Q→
    wpAny (model X.prog X.w) X.A (call f us) (EP X pins σ Q) X.xe s
def Bs(r:R2)(ta tb:TE):TE:=fun σ H Q=>ta σ H fun x H1=>tb σ H1 fun y H2=>r x y H2 Q
def C0(r:V→Hp→VK→Prop)(ta:TE):TE:=fun σ H Q=>ta σ H fun x H1=>r x H1 Q
def rI(C:Int→Int→Prop)(g:Int→Int→V):R2:=fun x y H Q=>∃i j,x=.int i∧y=.int j∧C i j∧Q (g i j) H
def pC(g:Int→Int→V):R2:=fun x y H Q=>∃i j,x=.int i∧y=.int j∧Q (g i j) H
def rU(g:Int→V):V→Hp→VK→Prop:=fun x H Q=>∃i,x=.int i∧Q (g i) H
section
variable{X:Cx}{a b c:Expr}{ta tb tc:TE}{pos:Pos}
theorem xO(ha:PE X a ta)(hb:PE X b tb){pins:List (Addr × Obj)}{s:Shared}{σ:St}{H:Hp}{R:V→V→Hp→Prop}(I:au X pins σ H s)
    (h:ta σ H fun x H1=>tb σ H1 fun y H2=>R x y H2){Q:Value→Shared→Prop}{f:Value→Value→Sem Value}
    (hf:∀v u s2 x y H2,au X pins σ H2 s2→bf x v→bf y u→R x y H2→wpAny (model X.prog X.w) X.A (f v u) Q X.xe s2):
    wpAny (model X.prog X.w) X.A (eval a X.env) (fun v s₁=>wpAny (model X.prog X.w) X.A (eval b X.env) (fun u s₂=>wpAny (model X.prog X.w) X.A (f v u) Q X.xe s₂) X.xe s₁) X.xe s:=by
  refine bz (ha pins s σ H _ I h) fun v s1 ⟨x,H1,I1,r1,q1⟩=>?_
  refine bz (hb pins s1 σ H1 _ I1 q1) fun u s2 ⟨y,H2,I2,r2,q2⟩=>?_
  exact hf v u s2 x y H2 I2 r1 r2 q2
theorem AO{op:Operator}{r:R2}(ho:fg X (binaryOp op) r)(ha:PE X a ta)(hb:PE X b tb):PE X (.BinOp a op b pos) (Bs r ta tb):=by
  intro pins s σ H Q I h
  exact wpAny_BinOp (xO ha hb I h fun v u s2 x y H2 I2 rx ry q=>ho pins s2 σ H2 x y v u Q I2 rx ry q)
theorem AR{op:UnaryOp}{r:V→Hp→VK→Prop}(ho:BK X (unaryOp op) r)(ha:PE X a ta):PE X (.UnaryOp op a pos) (C0 r ta):=by
  intro pins s σ H Q I h
  exact UnaryOp_ (bz (ha pins s σ H _ I h) fun v s1 ⟨x,H1,I1,r1,q1⟩=>ho pins s1 σ H1 x v Q I1 r1 q1)
theorem AE{f:Value→Value→Sem Value}{C:Int→Int→Prop}{g:Int→Int→Int}
    (rule:∀(i j:Int) (t u:Tok) (s:Shared) (Q:Value→Shared→Prop) (E:Value→Shared→Prop),C i j→Q (.int (g i j) s.toks) {s with toks:=s.toks+1}→wpAny (model X.prog X.w) X.A (f (.int i t) (.int j u)) Q E s):
    fg X f (rI C fun i j=>.int (g i j)):=by
  intro pins s σ H x y v u Q I rx ry h
  obtain⟨i,j,rfl,rfl,hc,q⟩:=h
  obtain⟨t,rfl⟩:=rx
  obtain⟨t',rfl⟩:=ry
  exact rule i j t t' s _ _ hc ⟨.int (g i j),H,I.tok _,⟨_,rfl⟩,q⟩
theorem AF{f:Value→Value→Sem Value}{g:Int→Int→Int}
    (rule:∀(i j:Int) (t u:Tok) (s:Shared) (Q:Value→Shared→Prop) (E:Value→Shared→Prop),Q (.int (g i j) s.toks) {s with toks:=s.toks+1}→wpAny (model X.prog X.w) X.A (f (.int i t) (.int j u)) Q E s):
    fg X f (pC fun i j=>.int (g i j)):=by
  intro pins s σ H x y v u Q I rx ry h
  obtain⟨i,j,rfl,rfl,q⟩:=h
  obtain⟨t,rfl⟩:=rx
  obtain⟨t',rfl⟩:=ry
  exact rule i j t t' s _ _ ⟨.int (g i j),H,I.tok _,⟨_,rfl⟩,q⟩
theorem vH{f:Value→Value→Sem Value}{g:Int→Int→Bool}
    (rule:∀(i j:Int) (t u:Tok) (s:Shared) (Q:Value→Shared→Prop) (E:Value→Shared→Prop),Q (.bool (g i j)) s→wpAny (model X.prog X.w) X.A (f (.int i t) (.int j u)) Q E s):
    fg X f (pC fun i j=>.bl (g i j)):=by
  intro pins s σ H x y v u Q I rx ry h
  obtain⟨i,j,rfl,rfl,q⟩:=h
  obtain⟨t,rfl⟩:=rx
  obtain⟨t',rfl⟩:=ry
  exact rule i j t t' s _ _ ⟨.bl (g i j),H,I,rfl,q⟩
def xI(i j:Int):Prop:=0≤j∧j≤1000000∧i.natAbs < 2 ^ 64
def uR(i j:Int):Prop:=(-(2 ^ 64) < i∧i < 2 ^ 64)∨(-(2 ^ 64) < j∧j < 2 ^ 64)
theorem uR.ok{i j:Int}(h:uR i j):IntMulOk i j:=by
  rcases h with ⟨h1,h2⟩ | ⟨h1,h2⟩
  · exact .of_left (intBits_le_64 h1 h2)
  · exact .of_right (intBits_le_64 h1 h2)
theorem yy:fg X (binaryOp .Add) (pC fun i j=>.int (i+j)):=AF fun _ _ _ _ _ _ _ q=>add_int q
theorem yM:fg X (binaryOp .Sub) (pC fun i j=>.int (i - j)):=AF fun _ _ _ _ _ _ _ q=>sub_int q
theorem yH:fg X (binaryOp .Mult) (rI uR fun i j=>.int (i*j)):=AE fun _ _ _ _ _ _ _ hc q=>mul_int q hc.ok
theorem vL:fg X (binaryOp .Mod) (rI (fun _ j=>j≠0) fun i j=>.int (i.fmod j)):=AE fun _ _ _ _ _ _ _ hc q=>mod_int' hc q
theorem yK:fg X (binaryOp .Pow) (rI xI fun i j=>.int (i ^ j.toNat)):=AE fun _ _ _ _ _ _ _ hc q=>pow_int_small hc.1 hc.2.1 hc.2.2 q
theorem Do{f:Value→Sem Value}{g:Int→Int}
    (rule:∀(i:Int) (t:Tok) (s:Shared) (Q:Value→Shared→Prop) (E:Value→Shared→Prop),Q (.int (g i) s.toks) {s with toks:=s.toks+1}→wpAny (model X.prog X.w) X.A (f (.int i t)) Q E s):
    BK X f (rU fun i=>.int (g i)):=by
  intro pins s σ H x v Q I rx h
  obtain⟨i,rfl,q⟩:=h
  obtain⟨t,rfl⟩:=rx
  exact rule i t s _ _ ⟨.int (g i),H,I.tok _,⟨_,rfl⟩,q⟩
theorem zH:BK X (unaryOp .USub) (rU fun i=>.int (-i)):=Do fun _ _ _ _ _ q=>neg_int q
end
section
variable{X:Cx}{a b c:Expr}{ta tb tc:TE}{pos:Pos}
theorem xV{pins:List (Addr × Obj)}{σ:St}{H:Hp}{s:Shared}{Q:VK}{k k':Bool}(I:au X pins σ H s)(q:Q (.bl k) H)(e:k=k'):EP X pins σ Q (.bool k') s:=by
  subst e
  exact⟨.bl k,H,I,rfl,q⟩
theorem AJ:fg X (compareOp .Lt) (pC fun i j=>.bl (decide (i < j))):=vH fun _ _ _ _ _ _ _ q=>lt_int q
theorem AI:fg X (compareOp .LtE) (pC fun i j=>.bl (decide (i≤j))):=vH fun _ _ _ _ _ _ _ q=>le_int q
theorem AH:fg X (compareOp .Gt) (pC fun i j=>.bl (decide (j < i))):=vH fun _ _ _ _ _ _ _ q=>gt_int q
theorem AG:fg X (compareOp .GtE) (pC fun i j=>.bl (decide (j≤i))):=vH fun _ _ _ _ _ _ _ q=>ge_int q
theorem yG:fg X (compareOp .Is) (fun x y H Q=>y=.non∧Q (.bl (decide (x=.non))) H):=by
  intro pins s σ H x y v u Q I rx ry h
  obtain⟨rfl,q⟩:=h
  cases ry
  refine is_none_gen (xV I q ?_)
  cases x<;>first
    | (cases rx;rfl)
    | (obtain⟨t,rfl⟩:=rx;rfl)
theorem fg.or{f:Value→Value→Sem Value}{r r':R2}(h:fg X f r)(h':fg X f r'):fg X f (fun x y H Q=>r x y H Q∨r' x y H Q):=by
  intro pins s σ H x y v u Q I rx ry q
  rcases q with q | q
  · exact h pins s σ H x y v u Q I rx ry q
  · exact h' pins s σ H x y v u Q I rx ry q
theorem aR(b:Expr){op:CmpOp}(h:op≠.In:=by decide)(h2:op≠.NotIn:=by decide):behindInMarks op b=false:=by
  have e1:(op==CmpOp.In)=false:=by cases op<;>first | rfl | exact absurd rfl h
  have e2:(op==CmpOp.NotIn)=false:=by cases op<;>first | rfl | exact absurd rfl h2
  cases b<;>simp [behindInMarks,e1,e2]
theorem vR{op:CmpOp}{r:R2}(ho:fg X (compareOp op) r)(ha:PE X a ta)(hb:PE X b tb)(hm:behindInMarks op b=false):PE X (.Compare a [op] [b] pos) (Bs r ta tb):=by
  intro pins s σ H Q I h
  exact wpAny_Compare1 (xO ha hb I h fun v u s2 x y H2 I2 rx ry q=>ho pins s2 σ H2 x y v u Q I2 rx ry q) hm
def Bv(t:TE):TT:=fun σ H Q=>t σ H fun x H'=>∃k,x=.bl k∧Q k H'
theorem wf{op:CmpOp}{r:R2}(ho:fg X (compareOp op) r)(ha:PE X a ta)(hb:PE X b tb)(hm:behindInMarks op b=false):PT X (.Compare a [op] [b] pos) (Bv (Bs r ta tb)):=by
  intro pins s σ H Q I h
  refine wpAny_isTrue_Compare1 (bz (ha pins s σ H _ I h) fun v s1 ⟨x,H1,I1,r1,q1⟩=>bz (hb pins s1 σ H1 _ I1 q1) fun u s2 ⟨y,H2,I2,r2,q2⟩=>
    bz (ho pins s2 σ H2 x y v u _ I2 r1 r2 q2) fun c s3 ⟨z,H3,I3,r3,k,e,q3⟩=>?_) hm
  subst e
  cases r3
  exact wpAny_truthy_bool ⟨H3,I3,q3⟩
def uD(r r':R2)(ta tb tc:TE):TE:=fun σ H Q=>ta σ H fun x H1=>tb σ H1 fun y H2=>r x y H2 fun z H3=>∃k,z=.bl k∧
  (if k=true then tc σ H3 fun w' H4=>r' y w' H4 Q else Q (.bl false) H3)
theorem tM{op op':CmpOp}{r r':R2}(ho:fg X (compareOp op) r)(ho':fg X (compareOp op') r')(ha:PE X a ta)(hb:PE X b tb)(hc:PE X c tc)
    (hm:lastMarks [op,op'] [b,c]=false:=by with_unfolding_all rfl):PE X (.Compare a [op,op'] [b,c] pos) (uD r r' ta tb tc):=by
  intro pins s σ H Q I h
  refine Compare_chain (bz (ha pins s σ H _ I h) fun v s1 ⟨x,H1,I1,r1,q1⟩=>chain_link (bz (hb pins s1 σ H1 _ I1 q1) fun u s2 ⟨y,H2,I2,r2,q2⟩=>
    bz (ho pins s2 σ H2 x y v u _ I2 r1 r2 q2) fun d s3 ⟨z,H3,I3,r3,k,e,q3⟩=>?_)) hm
  subst e
  cases r3
  refine wpAny_truthy_bool ?_
  cases k with
  | false=>exact ite_ff ⟨.bl false,H3,I3,rfl,q3⟩
  | true=>exact ite_tt (chain_last (bz (hc pins s3 σ H3 _ I3 q3) fun w' s4 ⟨z',H4,I4,r4,q4⟩=>ho' pins s4 σ H4 y z' u w' Q I4 r2 r4 q4))
theorem mE:(sizeLine:Nat) < 2 ^ 63:=by rw [sizeLine_eq];decide
theorem lY{x:V}{us:List Value}(r:aE [x] us):∃u,us=[u]∧bf x u:=by
  cases r with
  | cons r1 r2=>cases r2;exact⟨_,rfl,r1⟩
theorem xH{x y:V}{us:List Value}(r:aE [x,y] us):∃u w',us=[u,w']∧bf x u∧bf y w':=by
  cases r with
  | cons r1 r2=>
    cases r2 with
    | cons r3 r4=>cases r4;exact⟨_,_,rfl,r1,r3⟩
theorem se:cQ X (.builtin "abs") (fun xs H Q=>∃i,xs=[.int i]∧Q (.int (if i < 0 then -i else i)) H):=by
  intro pins s σ H xs us Q I r h
  obtain⟨i,rfl,q⟩:=h
  obtain⟨u,rfl,t,rfl⟩:=lY r
  exact call_abs_int fun u tk=>⟨.int (if i < 0 then -i else i),H,I.tok _,⟨_,rfl⟩,q⟩
theorem qP(hc:X.calm=true):cQ X (.builtin "max") (fun xs H Q=>∃i j,xs=[.int i,.int j]∧Q (.int (if j > i then j else i)) H):=by
  intro pins s σ H xs us Q I r h
  obtain⟨i,j,rfl,q⟩:=h
  obtain⟨u,w',rfl,⟨t,rfl⟩,⟨t',rfl⟩⟩:=xH r
  refine max_two_ints (I.ok.hd hc) fun h' tk k=>⟨_,H,I.kept k,?_,q⟩
  by_cases hj:j > i
  · rw [if_pos hj,if_pos hj];exact⟨_,rfl⟩
  · rw [if_neg hj,if_neg hj];exact⟨_,rfl⟩
theorem qQ(hc:X.calm=true):cQ X (.builtin "min") (fun xs H Q=>∃i j,xs=[.int i,.int j]∧Q (.int (if j < i then j else i)) H):=by
  intro pins s σ H xs us Q I r h
  obtain⟨i,j,rfl,q⟩:=h
  obtain⟨u,w',rfl,⟨t,rfl⟩,⟨t',rfl⟩⟩:=xH r
  refine min_two_ints (I.ok.hd hc) fun h' tk k=>⟨_,H,I.kept k,?_,q⟩
  by_cases hj:j < i
  · rw [if_pos hj,if_pos hj];exact⟨_,rfl⟩
  · rw [if_neg hj,if_neg hj];exact⟨_,rfl⟩
theorem qN:cQ X (.type "int") (fun xs H Q=>(∃i,xs=[.int i]∧Q (.int i) H)∨∃k,xs=[.bl k]∧Q (.int (if k then 1 else 0)) H):=by
  intro pins s σ H xs us Q I r h
  rcases h with ⟨i,rfl,q⟩ | ⟨k,rfl,q⟩
  · obtain⟨u,rfl,t,rfl⟩:=lY r
    exact call_int_int ⟨.int i,H,I,⟨_,rfl⟩,q⟩
  · obtain⟨u,rfl,r1⟩:=lY r
    cases r1
    exact call_int_bool ⟨.int (if k then 1 else 0),H,I.tok _,⟨_,rfl⟩,q⟩
end
end L2
namespace L2
open PySem PySem.Spec PyProof.Rows
structure C_ (h:Heap) (x dx C:Addr) (mA:Str→Option Value):Prop where
  obj:h.get? x=some (PySem.W.instObj C dx)
  ns:h.Ns1 dx mA
  ne:dx≠x
section
variable{prog:Program}{w:World}{A:Around}{E:Value→Shared→Prop}{s:Shared}{K:PySem.W.Frag}{x dx C f:Addr}{mA:Str→Option Value}{name:Str}{v:Value}
end
section
variable{P:Program}{w:World}{H H':Hp}{h h':Heap}{a C dx:Addr}{fs fs':List (Str × V)}
end
structure C6 (K:PySem.W.Frag) (C:Addr):Prop where
  pg:PySem.W.plainGet K C Str.empty=true
  hd:PySem.W.hasDictIn K C=true
  po:PySem.W.plainOver K C=true
  sa:PySem.W.findIn K (.ref C) "__setattr__"=some (some (.builtin "object.__setattr__"))
structure Dq (K:PySem.W.Frag) (C:Addr) (f:Str) (v:V) (u:Value):Prop where
  at_:PySem.W.findIn K (.ref C) f=some (some u)
  rel:bf v u
  get:PySem.W.specialIn K u "__get__"=some none
  cp:PySem.W.copiedNames.contains f=false
structure C9 (K:PySem.W.Frag) (C:Addr) (m:Str) (f:Addr):Prop where
  at_:PySem.W.findIn K (.ref C) m=some (some (.ref f))
  fn:PySem.W.isFn K (.ref f)=true
  kp:PySem.W.keepIn K (.ref f)=true
section
variable{X:Cx}{pins:List (Addr × Obj)}{σ:St}{H:Hp}{s:Shared}{a C dx:Addr}{fs:List (Str × V)}{f:Str}{v:V}{A:Around}{E:Value→Shared→Prop}
end
section
variable{X:Cx}{o e value:Expr}{f:Str}{pos pos' tpos:Pos}{ta tv:TE}
end
section
variable{X:Cx}{pins:List (Addr × Obj)}{σ:St}{H:Hp}{s:Shared}{A:Around}{E:Value→Shared→Prop}{Q:Value→Shared→Prop}{c:Value}{b:Bool}
inductive kh (K:PySem.W.Frag) (H:Hp):V→Value→Prop where
  | non:kh K H .non (.type "NoneType")
  | bl (x:Bool):kh K H (.bl x) (.type "bool")
  | int (i:Int):kh K H (.int i) (.type "int")
  | str (x:Str):kh K H (.str x) (.type "str")
  | flt (x:UInt64):kh K H (.flt x) (.type "float")
  | lst {a:Addr} {xs:List V} (e:H a=some (.lst xs)):kh K H (.ref a) (.type "list")
  | frz {a:Addr} {o:Obj} {xs:List V} (e:H a=some (.frz o (.lst xs))):kh K H (.ref a) (.type "list")
  | tup {a:Addr} {xs:List V} (e:H a=some (.tup xs)):kh K H (.ref a) (.type "tuple")
  | dK {a:Addr} {kvs:List (fX × V)} (e:H a=some (.dK kvs)):kh K H (.ref a) (.type "dict")
  | dT {a:Addr} {kvs:List (List fX × V)} (e:H a=some (.dT kvs)):kh K H (.ref a) (.type "dict")
  | ins {a C dx:Addr} {fs:List (Str × V)} (e:H a=some (.ins C dx fs)) (cl:C6 K C) (ha:PySem.W.findIn K (.ref C) "__class__"=some (some (.builtin "object.__class__")))
      (hn:PySem.W.specialIn K (.builtin "object.__class__") "__get__"=some (some (.builtin "getset_descriptor.__get__"))) (htk:PySem.W.takesIn K (.builtin "object.__class__")=some true)
      (hm:PySem.W.mroIn K C (.type "object")=some true):kh K H (.ref a) (.ref C)
end
end L2
namespace L2
open PySem PySem.Spec PyProof.Rows
structure bX (k:Nat) (A:Around):Prop where
  hd:A.handled=none
  dp:A.depth+3*k+5 < recursionLimit
  un:A.units+16*k+200 < cLine
  gd:A.guards=some []
theorem bX.mono{j k:Nat}{A:Around}(r:bX k A)(h:j≤k):bX j A:=⟨r.hd,by have:=r.dp;lia,by have:=r.un;lia,r.gd⟩
theorem bX.deeper{k:Nat}{A:Around}(r:bX (k+1) A)(env:Env):bX k (A.deeper env):=
  ⟨r.hd,by have:=r.dp;show A.depth+1+3*k+5 < _;lia,by have:=r.un;show A.units+3+16*k+200 < _;lia,r.gd⟩
theorem bX.depth{k:Nat}{A:Around}(r:bX k A):A.depth < recursionLimit:=by have:=r.dp;lia
theorem bX.units{k:Nat}{A:Around}(r:bX k A):A.units+64 < cLine:=by have:=r.un;lia
theorem bX.units0{k:Nat}{A:Around}(r:bX k A):A.units < cLine:=by have:=r.un;lia
def zB:TA:=fun _ H Q=>Q [] H
def oD(ta:TE)(tr:TA):TA:=fun σ H Q=>ta σ H fun x H1=>tr σ H1 fun xs H2=>Q (x::xs) H2
section
variable{X:Cx}{e:Expr}{es:List Expr}{te:TE}{t:TA}{pos:Pos}
theorem kO:PA X [] zB:=fun _ _ _ _ H Q I h=>Calls.spliced_nil ⟨[],H,I,.nil,h⟩
theorem io(ha:PE X e te)(hr:PA X es t)(hs:starEach (e::es) X.env=(false,eval e X.env)::starEach es X.env:=by rfl):PA X (e::es) (oD te t):=by
  intro pos pins s σ H Q I h
  rw [hs]
  show wpAny _ _ (spliced ((false,eval e X.env)::backTo pos (starEach es X.env))) _ _ s
  refine Calls.spliced_cons (bz (ha pins s σ H _ I h) fun u s1 ⟨x,H1,I1,r1,q1⟩=>?_)
  exact bz (hr pos pins s1 σ H1 _ I1 q1) fun us s2 ⟨xs,H2,I2,r2,q2⟩=>⟨x::xs,H2,I2,.cons r1 r2,q2⟩
def Bw(t:TA):TE:=fun σ H Q=>t σ H fun xs H1=>xs.length≤sizeLine∧∀p,H1 p=none→Q (.ref p) (aX H1 p (.tup xs))
def Cw(t:TA):TE:=fun σ H Q=>t σ H fun xs H1=>xs.length≤sizeLine∧∀p,H1 p=none→Q (.ref p) (aX H1 p (.lst xs))
theorem yU{x1}(h:PA X es t):PE X (.Tuple es x1 pos) (Bw t):=by
  intro pins s σ H Q I hq
  refine wpAny_Tuple_spliced (bz (h pos pins s σ H _ I hq) fun us s1 ⟨xs,H1,I1,r,z,q⟩=>⟨by rw [←r.length];exact z,?_⟩)
  have hf:H1 s1.heap.objs.size=none:=I1.hok.fresh (Nat.le_refl _)
  refine⟨.ref s1.heap.objs.size,aX H1 s1.heap.objs.size (.tup xs),I1.laid (t':=s1.toks) (fun b u e=>Heap.get?_push_of_some _ e) (Nat.le_refl _) ?_,rfl,q _ hf⟩
  exact⟨z,us,r,⟨_,Heap.get?_push_size _ rfl,rfl,_,rfl,rfl⟩⟩
theorem yP(h:PA X es t):PE X (.List es pos) (Cw t):=by
  intro pins s σ H Q I hq
  refine wpAny_List_spliced (bz (h pos pins s σ H _ I hq) fun us s1 ⟨xs,H1,I1,r,z,q⟩=>⟨by rw [←r.length];exact z,?_⟩)
  have hf:H1 s1.heap.objs.size=none:=I1.hok.fresh (Nat.le_refl _)
  refine⟨.ref s1.heap.objs.size,aX H1 s1.heap.objs.size (.lst xs),I1.laid (t':=s1.toks) (fun b u e=>Heap.get?_push_of_some _ e) (Nat.le_refl _) ?_,rfl,q _ hf⟩
  exact⟨z,us,0,r,Heap.get?_push_size _ rfl⟩
end
abbrev Sp:=List V→Hp→VK→XK→Prop
abbrev qL:=List Env→Hp→Shared→XK→Value→Shared→Prop
structure uS (P:Program) (w:World) (K:PySem.W.Frag) (mg:Str→Option Value) (base:Heap) (A:Around) (outer:List Env) (s:Shared) (H:Hp):Prop where
  frames:A.frames=some outer
  mod:Mod K mg base
  bs:∀b o,base.get? b=some o→s.heap.get? b=some o∧H b=none
  bsz:base.objs.size≤s.heap.objs.size
  funs:s.heap.FunFrames base outer
  frf:∀b∈sy outer,H b=none
  hok:jT P w H s.heap
  bare:AllBare s.gens
def CE(outer:List Env)(P:Program)(w:World)(H:Hp)(s:Shared)(Q:VK)(u:Value)(s':Shared):Prop:=
  ∃v H',s'.os=s.os∧AllBare s'.gens∧Un (sy outer) [] H H' s.heap s'.heap∧jT P w H' s'.heap∧bf v u∧Q v H'
def CR(CX:qL)(outer:List Env)(P:Program)(w:World)(H:Hp)(s:Shared)(Q:VK)(E:XK)(r:Result)(s':Shared):Prop:=
  match r with
  | .ok (.ret u)=>CE outer P w H s Q u s'
  | .ok _=>False
  | .error e=>CX outer H s E e s'
structure aS (P:Program) (w:World) (K:PySem.W.Frag) (mg:Str→Option Value) (base:Heap) (CX:qL) (k:Nat) (f:Addr) (fd:FuncData) (ps:List Str) (sp:Sp):Prop where
  len:∀vs H Q E,sp vs H Q E→vs.length=ps.length
  run:∀(A:Around) (outer:List Env) (s:Shared) (H:Hp) (args:Args) (us:List Value) (vs:List V) (Q:VK) (E:XK),bX k A→uS P w K mg base A outer s H→BindsTo s fd args (ps.zip us)→aE vs us→sp vs H Q E→
    codeAny (model P w) A (.call (.ref f) args) (CR CX outer P w H s Q E) s
section
variable{X:Cx}{pins:List (Addr × Obj)}{σ:St}{H:Hp}{s s':Shared}
theorem au.env0(I:au X pins σ H s):uS X.prog X.w X.K X.mg X.base X.A X.stack s H:=
  ⟨I.ok.frames,I.ok.mod,I.bs,Nat.le_trans I.ok.bsz I.sz,I.stack,I.stkFree,I.hok,I.bare⟩
theorem au.after{Q:VK}{u:Value}(I:au X pins σ H s)(h:CE X.stack X.prog X.w H s Q u s'):EP X pins σ Q u s':=by
  obtain⟨v,H',os,bare,un,hok,r,q⟩:=h
  obtain⟨hh,g,d,t,os'⟩:=s'
  obtain rfl:os'=s.os:=os
  exact⟨v,H',I.call (h':=hh) (g':=g) (d':=d) (t':=t) (ch:=[]) un hok bare (fun b z=>absurd z (by simp)),r,q⟩
end
def uC(sp:Sp)(dvs:List V)(E:XK)(t:TA):TE:=fun σ H Q=>t σ H fun vs H1=>sp (vs++dvs) H1 Q E
def lx(K:PySem.W.Frag)(fd:FuncData)(ps:List Str)(ds:List Value):Prop:=
  ∀(s:Shared) (us:List Value),K.In s.heap→(us++ds).length=ps.length→BindsTo s fd ⟨us,[]⟩ (ps.zip (us++ds))
theorem lx.all{K:PySem.W.Frag}{fd:FuncData}{ps:List Str}(h:∀us:List Value,us.length=ps.length→bindArgs fd ⟨us,[]⟩=pure (ps.zip us)):lx K fd ps []:=fun s us _ hl=>by
  rw [List.append_nil] at hl ⊢
  exact .of_eq (h us hl)
def oR(CX:qL)(X:Cx)(E:XK):Prop:=∀(pins:List (Addr × Obj)) (σ:St) (H:Hp) (s:Shared) (e:Value) (s':Shared),au X pins σ H s→CX X.stack H s E e s'→X.xe e s'
section
variable{X:Cx}{CX:qL}{k:Nat}{f C:Addr}{fd:FuncData}{ps:List Str}{sp:Sp}{dvs:List V}{ds:List Value}{E:XK}{x m:Str}{p pos apos:Pos}{e o:Expr}{es:List Expr}{ta:TE}{t:TA}
theorem zr{pins:List (Addr × Obj)}{σ:St}{H:Hp}{s:Shared}{Q:VK}{us:List Value}{vs:List V}(F:aS X.prog X.w X.K X.mg X.base CX k f fd ps sp)(hr:bX k X.A)(hb:lx X.K fd ps ds)(hd:aE dvs ds)(hx:oR CX X E)
    (I:au X pins σ H s)(r:aE vs us)(h:sp (vs++dvs) H Q E):wpAny (model X.prog X.w) X.A (call (.ref f) us) (EP X pins σ Q) X.xe s:=by
  have r2:aE (vs++dvs) (us++ds):=r.append hd
  have hl:(us++ds).length=ps.length:=by rw [←r2.length];exact F.len _ _ _ _ h
  refine wpAny_call (codeAny_mono (F.run X.A X.stack s H ⟨us,[]⟩ (us++ds) (vs++dvs) Q E hr I.env0 (hb s us I.kIn hl) r2 h) fun r s' hq=>?_)
  cases r with
  | error e=>exact hx pins σ H s e s' I hq
  | ok fl=>
    cases fl with
    | ret u=>exact I.after hq
    | next=>exact False.elim hq
    | brk=>exact False.elim hq
    | cont=>exact False.elim hq
theorem vQ(F:aS X.prog X.w X.K X.mg X.base CX k f fd ps sp)(hr:bX k X.A)(hg:Gl X x)(hm:X.mg x=some (.ref f))(hk:PySem.W.keepIn X.K (.ref f)=true)(hb:lx X.K fd ps ds)(hd:aE dvs ds)(hx:oR CX X E)
    (ha:PA X (e::es) t)(hdb:(x==("__debug__":Str))=false:=by decide)(he:starEach (e::es) X.env=(false,eval e X.env)::starEach es X.env:=by rfl)(hpl:(backTo pos (starEach es X.env)).any (·.1)=false:=by rfl):
    PE X (.Call (.Name x p) (e::es) [] pos) (uC sp dvs E t):=by
  intro pins s σ H Q I h
  refine wpAny_Call_Name_kw (vp I hg hm ?_ hdb)
  refine PySem.W.callWith_K (h₀:=X.base) I.ok.mod.kin hk (bz (ha pos pins s σ H _ I h) fun us s1 ⟨vs,H1,I1,r,q⟩=>⟨I1.kIn,?_⟩) he hpl
  exact zr F hr hb hd hx I1 r q
structure Mk (K:PySem.W.Frag) (C f:Addr):Prop where
  makes:PySem.W.makesIn K C=true
  init:PySem.W.findIn K (.ref C) "__init__"=some (some (.ref f))
  fn:PySem.W.isFn K (.ref f)=true
  kp:PySem.W.keepIn K (.ref C)=true
end
def PK(X:Cx)(kws:List Keyword)(t:TA):Prop:=
  ∀(pos:Pos) (pins:List (Addr × Obj)) (s:Shared) (σ:St) (H:Hp) (Q:List V→Hp→Prop),au X pins σ H s→t σ H Q→wpAny (model X.prog X.w) X.A (evalAll ((backToKw pos (keywordEach kws X.env)).map (·.2))) (AP X pins σ Q) X.xe s
section
variable{X:Cx}{CX:qL}{k:Nat}{f C:Addr}{fd:FuncData}{ps ks:List Str}{sp:Sp}{E:XK}{x m:Str}{p pos apos kpos:Pos}{e o:Expr}{es:List Expr}{kws:List Keyword}{te ta:TE}{t tk:TA}{nm:Option Str}
structure BY (K:PySem.W.Frag) (fd:FuncData) (ps ks:List Str) (g:List Value→List Value→List Value) (gV:List V→List V→List V):Prop where
  to:∀(s:Shared) (us ws:List Value),K.In s.heap→(g us ws).length=ps.length→BindsTo s fd ⟨us,ks.zip ws⟩ (ps.zip (g us ws))
  rel:∀{vs:List V} {us:List Value} {zs:List V} {ws:List Value},aE vs us→aE zs ws→aE (gV vs zs) (g us ws)
variable{g:List Value→List Value→List Value}{gV:List V→List V→List V}
end
structure aM (N P:List Str) (sc:Scope):Prop where
  kind:sc.kind=.function
  co:sc.isCoroutine=false
  gen:sc.isGenerator=false
  nd:N.Nodup
  pre:N.take P.length=P
  par:∀x∈P,sc.names.lookup x=some .local∨sc.names.lookup x=some .cell
  nofree:∀y∈sc.names,y.2≠.free
theorem lB{kindOf:Str→Option NameKind}{x:Str}:∀{binds:List (Str × Value)} {m:Str→Option Value},(∀v,(x,v)∉binds)→bindL kindOf binds m x=m x
  | [],_,_=>rfl
  | (n,v)::r,m,h=>by
    unfold bindL
    rw [lB fun w hw=>h w (List.mem_cons_of_mem _ hw)]
    split
    · have:x≠n:=by rintro rfl;exact h v List.mem_cons_self
      simp [this]
    · rfl
theorem lz{kindOf:Str→Option NameKind}{x:Str}:∀{binds:List (Str × Value)} {m:Str→Option Value},(∀v,(x,v)∉binds)→bindC kindOf binds m x=m x
  | [],_,_=>rfl
  | (n,v)::r,m,h=>by
    unfold bindC
    rw [lz fun w hw=>h w (List.mem_cons_of_mem _ hw)]
    split
    · rfl
    · have:x≠n:=by rintro rfl;exact h v List.mem_cons_self
      simp [this]
theorem lA{kindOf:Str→Option NameKind}{x:Str}{v:Value}:∀{P:List Str} {vs:List Value} {i:Nat} {m:Str→Option Value},P.Nodup→P[i]?=some x→vs[i]?=some v→kindOf x=some .local→
    bindL kindOf (P.zip vs) m x=some v
  | [],_,_,_,_,h,_,_=>by simp at h
  | _::_,[],_,_,_,_,h,_=>by simp at h
  | p::P,w::vs,0,m,nd,h1,h2,hk=>by
    simp at h1 h2;subst h1;subst h2
    show bindL kindOf ((p,w)::P.zip vs) m p=_
    unfold bindL
    rw [lB fun v hv=>(List.nodup_cons.mp nd).1 (List.of_mem_zip hv).1,if_pos hk]
    simp
  | p::P,w::vs,i+1,m,nd,h1,h2,hk=>by
    show bindL kindOf ((p,w)::P.zip vs) m x=_
    unfold bindL
    exact lA (i:=i) (List.nodup_cons.mp nd).2 (by simpa using h1) (by simpa using h2) hk
theorem ly{kindOf:Str→Option NameKind}{x:Str}{v:Value}:∀{P:List Str} {vs:List Value} {i:Nat} {m:Str→Option Value},P.Nodup→P[i]?=some x→vs[i]?=some v→kindOf x≠some .local→
    bindC kindOf (P.zip vs) m x=some v
  | [],_,_,_,_,h,_,_=>by simp at h
  | _::_,[],_,_,_,_,h,_=>by simp at h
  | p::P,w::vs,0,m,nd,h1,h2,hk=>by
    simp at h1 h2;subst h1;subst h2
    show bindC kindOf ((p,w)::P.zip vs) m p=_
    unfold bindC
    rw [lz fun v hv=>(List.nodup_cons.mp nd).1 (List.of_mem_zip hv).1,if_neg hk]
    simp
  | p::P,w::vs,i+1,m,nd,h1,h2,hk=>by
    show bindC kindOf ((p,w)::P.zip vs) m x=_
    unfold bindC
    exact ly (i:=i) (List.nodup_cons.mp nd).2 (by simpa using h1) (by simpa using h2) hk
def start(N:List Str)(vs:List V):St:=vs.map some++List.replicate (N.length - vs.length) none
def oW(CX:qL)(P:Program)(w:World)(K:PySem.W.Frag)(mg:Str→Option Value)(base:Heap)(N:List Str)(qual:Str)(scope:Scope)(f:Addr)(cd:Value)(A:Around)(outer:List Env)(s:Shared)(H:Hp)(E:XK):Cx where
  prog:=P
  w:=w
  K:=K
  mg:=mg
  base:=base
  A:=A.deeper (envOfC qual scope s.heap.objs.size f cd)
  N:=N
  s₀:=s
  H₀:=H
  env:=envOfC qual scope s.heap.objs.size f cd
  outer:=outer
  stack:=envOfC qual scope s.heap.objs.size f cd::outer
  ex:=[]
  calm:=true
  fn:=fun _=>true
  pn:=[]
  xe:=fun e s'=>wpAny (model P w) (A.deeper (envOfC qual scope s.heap.objs.size f cd)) (leaving (envOfC qual scope s.heap.objs.size f cd) e) (fun _ s''=>CX outer H s E e s'') (fun e' s''=>CX outer H s E e' s'') s'
theorem m_{sc:Scope}{n:Nat}{x:Str}(h:sc.names.lookup x=some .cell):∃c,(cellsFrom n sc.names []).lookup x=some c:=by
  have q:=PySem.W.cellsFrom_some sc.names n [] (.inl h)
  exact Option.isSome_iff_exists.mp q
theorem q_{CX:qL}{P:Program}{w:World}{K:PySem.W.Frag}{mg:Str→Option Value}{base:Heap}{N ps:List Str}{qual:Str}{scope:Scope}{f:Addr}{cd:Value}{A:Around}{outer:List Env}{s s1:Shared}{H:Hp}{E:XK}{us:List Value}{vs:List V}
    (S:aM N ps scope)(hd:A.handled=none)(e0:uS P w K mg base A outer s H)(hl:vs.length=ps.length)(r:aE vs us)
    (x:InCallC s s.heap.objs.size (bindL (envOfC qual scope s.heap.objs.size f cd).kindOf (ps.zip us) fun _=>none) (cellsFrom (s.heap.objs.size+1) scope.names []) (bindC (envOfC qual scope s.heap.objs.size f cd).kindOf (ps.zip us) fun _=>none) s1):
    au (oW CX P w K mg base N qual scope f cd A outer s H E) [] (start N vs) H s1:=by
  have hpl:ps.length≤N.length:=by have:=congrArg List.length S.pre;rw [List.length_take] at this;lia
  obtain⟨h1,tk,rfl,hk⟩:=x.done
  have noA:∀b:Addr,b∉(oW CX P w K mg base N qual scope f cd A outer s H E).ex:=fun b z=>absurd (show b∈([]:List Addr) from z) (by simp)
  refine⟨⟨e0.mod,S.kind,rfl,rfl,Nat.le_refl _,fun y z c h1 h2=>?_,fun y hy=>?_,fun y c _ h=>?_,fun _=>hd,Around.frames_deeper e0.frames,.inr ⟨rfl,rfl⟩,fun b z=>absurd z (noA b),e0.bs,e0.bsz,fun b _ _=>noA b,fun b z=>absurd z (noA b),e0.funs,e0.frf⟩,
    rfl,e0.bare,Un.kept hk,⟨_,x.toInCall.ns,fun i y v h1 h2 h3=>?_⟩,fun y c h=>⟨_,x.cell y c h⟩,e0.hok.fresh (Nat.le_refl _),fun y c h=>?_,fun p hp=>absurd (show p∈([]:List (Addr × Obj)) from hp) (by simp),e0.hok.kept hk,?_⟩
  · exact name_of_addr x.apart (PySem.mem_of_lookup h1) (PySem.mem_of_lookup h2)
  · have hy:scope.names.lookup y=some .cell∨scope.names.lookup y=some .free:=hy
    rcases hy with hy | hy
    · exact m_ hy
    · exact absurd rfl (S.nofree _ (PySem.mem_of_lookup hy))
  · exact Nat.le_of_lt (x.above y c (PySem.mem_of_lookup h))
  · have hi:i < vs.length:=by
      unfold start at h2
      by_cases hi:i < vs.length
      · exact hi
      · rw [List.getElem?_append_right (by simpa using hi)] at h2
        rw [List.getElem?_replicate] at h2
        split at h2<;>cases h2
    have ha:vs[i]?=some v:=by
      unfold start at h2
      rw [List.getElem?_append_left (by simpa using hi),List.getElem?_map] at h2
      cases e:vs[i]? with
      | none=>rw [e] at h2;cases h2
      | some a=>rw [e] at h2;cases h2;rfl
    obtain⟨u,hu,rv⟩:=r.get ha
    have hp:ps[i]?=some y:=by
      rw [←S.pre,List.getElem?_take_of_lt (by lia)];exact h1
    have ndP:ps.Nodup:=by rw [←S.pre];exact S.nd.sublist (List.take_sublist _ _)
    refine⟨u,rv,?_⟩
    rcases S.par y (List.mem_of_getElem? hp) with k | k
    · exact .inl ⟨k,lA ndP hp hu k⟩
    · obtain⟨c,e⟩:=m_ (n:=s.heap.objs.size+1) k
      refine .inr ⟨.inl k,c,e,?_⟩
      have q:=x.cell y c e
      rw [ly ndP hp hu (by show scope.names.lookup y≠_;rw [k];decide)] at q
      exact q
  · exact e0.hok.fresh (Nat.le_of_lt (x.above y c (PySem.mem_of_lookup h)))
  · unfold start
    show _=N.length
    rw [List.length_append,List.length_map,List.length_replicate]
    lia
theorem Ag{CX:qL}{P:Program}{w:World}{K:PySem.W.Frag}{mg:Str→Option Value}{base:Heap}{k:Nat}{f:Addr}{name qual:Str}{params:Arguments}{body:List Stmt}{scope:Scope}{dV kV doc pm cdv ct oc:Value}{an od:Option Addr}
    {osl:Array (Option Value)}{N ps:List Str}{sp:Sp}(lk:K.lookup f=some ⟨oc,od,.func (PySem.W.fnOf name qual params body scope dV kV doc pm an cdv ct),osl⟩)(hcd:PySem.W.codeIn K cdv qual=true)(S:aM N ps scope)
    (len:∀vs H Q E,sp vs H Q E→vs.length=ps.length)
    (hbody:∀(A:Around) (outer:List Env) (s:Shared) (H:Hp) (vs:List V) (Q:VK) (E:XK),bX k (A.deeper (envOfC qual scope s.heap.objs.size f cdv))→sp vs H Q E→
      ∃t,j7 (oW CX P w K mg base N qual scope f cdv A outer s H E) body t∧t {nx:=fun _ H'=>Q .non H',rt:=Q} (start N vs) H):
    aS P w K mg base CX (k+1) f (PySem.W.fnOf name qual params body scope dV kV doc pm an cdv ct) ps sp:=by
  refine⟨len,fun A outer s H args us vs Q E hr e0 hb r hsp=>?_⟩
  have hl:=len _ _ _ _ hsp
  have KX:K.In s.heap:=e0.mod.kin.keeps fun b o e=>(e0.bs b o e).1
  have lim:s.heap.NoLimit:=e0.mod.nolimit.keeps fun b o e=>(e0.bs b o e).1
  have hkind:∀y∈ps.zip us,scope.names.lookup y.1=some .local∨(scope.names.lookup y.1=some .cell∧((cellsFrom (s.heap.objs.size+1) scope.names []).lookup y.1).isSome=true):=fun⟨n,v⟩ hy=>by
    rcases S.par n (List.of_mem_zip hy).1 with q | q
    · exact .inl q
    · exact .inr ⟨q,PySem.W.cellsFrom_some _ _ _ (.inl q)⟩
  refine codeAny_call_function hr.depth (KX _ _ lk) rfl S.co S.gen rfl (PySem.W.codeRec_of KX hcd) (hb _ _ _ _ ?_)
  refine wpAny_newFunctionEnv_cells S.kind hkind fun env he s1 x=>?_
  subst he
  refine⟨lim.keeps x.toInCall.keep,codeAny_func ?_⟩
  obtain⟨t,ht,hq⟩:=hbody A outer s H vs Q E (hr.deeper _) hsp
  have I:au (oW CX P w K mg base N qual scope f cdv A outer s H E) [] (start N vs) H s1:=q_ S hr.hd e0 hl r x
  refine wpAny_mono (ht [] s1 (start N vs) H _ I hq) (fun fl s' hs=>?_) fun e s' hs=>hs
  have fin:∀{σ':St} {H':Hp} {v:V} {u:Value},au (oW CX P w K mg base N qual scope f cdv A outer s H E) [] σ' H' s'→bf v u→Q v H'→CE outer P w H s Q u s':=
    fun{σ' H' v u} J rv q=>⟨v,H',J.os,J.bare,J.base,J.hok,rv,q⟩
  cases fl with
  | ret u=>
    obtain⟨v,σ',H',J,rv,q⟩:=hs
    exact fin J rv q
  | next=>
    obtain⟨σ',H',J,q⟩:=hs
    exact fin (v:=V.non) (u:=Value.none) J rfl q
  | brk=>
    obtain⟨_,_,_,q⟩:=hs
    exact False.elim q
  | cont=>
    obtain⟨_,_,_,q⟩:=hs
    exact False.elim q
end L2
namespace L2
open PySem PySem.Spec PyProof.Rows
section
variable{X:Cx}{x:Str}{p pos:Pos}{e:Expr}{es:List Expr}{t:TA}{id T:String}{r:List V→Hp→VK→Prop}
def Ct(r:List V→Hp→VK→Prop)(t:TA):TE:=fun σ H Q=>t σ H fun vs H1=>r vs H1 Q
theorem kP(hc:cQ X (.builtin id) r)(hg:Gl X x)(hm:X.mg x=none)(hv:bootBuiltins x=some (.builtin id))(ha:PA X (e::es) t)(hn:x≠"__name__":=by decide)(hdb:(x==("__debug__":Str))=false:=by decide)
    (he:starEach (e::es) X.env=(false,eval e X.env)::starEach es X.env:=by rfl)(hpl:(backTo pos (starEach es X.env)).any (·.1)=false:=by rfl):PE X (.Call (.Name x p) (e::es) [] pos) (Ct r t):=by
  intro pins s σ H Q I h
  refine wpAny_Call_Name_kw (jE I hg hm hv ?_ hn hdb)
  exact PyProof.Rows.callWith_builtin1 (bz (ha pos pins s σ H _ I h) fun us s1 ⟨vs,H1,I1,r1,q1⟩=>hc pins s1 σ H1 vs us Q I1 r1 q1) he hpl
theorem lP(hc:cQ X (.type T) r)(hg:Gl X x)(hm:X.mg x=none)(hv:bootBuiltins x=some (.type T))(ha:PA X (e::es) t)(hn:x≠"__name__":=by decide)(hdb:(x==("__debug__":Str))=false:=by decide)
    (he:starEach (e::es) X.env=(false,eval e X.env)::starEach es X.env:=by rfl)(hpl:(backTo pos (starEach es X.env)).any (·.1)=false:=by rfl):PE X (.Call (.Name x p) (e::es) [] pos) (Ct r t):=by
  intro pins s σ H Q I h
  refine wpAny_Call_Name_kw (jE I hg hm hv ?_ hn hdb)
  exact PyProof.Rows.callWith_type1 (bz (ha pos pins s σ H _ I h) fun us s1 ⟨vs,H1,I1,r1,q1⟩=>hc pins s1 σ H1 vs us Q I1 r1 q1) he hpl
end
end L2
namespace HT
open PySem PyProof.Rows
section
open PySem.SeqAt
open PySem.AutoSeq1 (wpAny_loadPart')
open PySem.MeetsSeq PySem.MeetsSeq2 PySem.MeetsSeq3
end
section
variable{prog:Program}{w:World}{A:Around}{E:Value→Shared→Prop}{s:Shared}
theorem cat_tup{t b:Addr}{vs ws:List Value}{Q:Value→Shared→Prop}(ht:IsTup s.heap t vs.toArray)(hb:IsTup s.heap b ws.toArray)(hv:vs≠[])
    (h1:ws=[]→Q (.ref t) s)(h2:ws≠[]→Q (.ref s.heap.objs.size) {s with heap:=s.heap.push {cls:=.type "tuple",data:=.seq (vs++ws).toArray}})
    (hsz:vs.length+ws.length≤sizeLine):wpAny (model prog w) A (binaryOp .Add (.ref t) (.ref b)) Q E s:=by
  obtain⟨⟨cls,dd,data,sl⟩,ho,hc,n,hd⟩:=id ht
  obtain⟨⟨cls2,dd2,data2,sl2⟩,ho2,hc2,n2,hd2⟩:=id hb
  simp only at hc hd hc2 hd2
  subst hc hd hc2 hd2
  have e:vs.toArray++ws.toArray=(vs++ws).toArray:=by simp
  by_cases hw:ws=[]
  · exact concat_meets ⟨_,ho,rfl⟩ ⟨_,ho2,rfl⟩ noFill_tuple_add seq_tuple_add PySem.F.slot_tuple_add PySem.F.entry_tuple_add (PySem.F.args_tuple_add_2 _ _)
      (tuple_addW1 t b vs.toArray ws.toArray n n2 dd dd2 sl sl2 (by simpa using hv) (by simp [hw])) ⟨ho,ho2,h1 hw⟩
  · refine concat_meets ⟨_,ho,rfl⟩ ⟨_,ho2,rfl⟩ noFill_tuple_add seq_tuple_add PySem.F.slot_tuple_add PySem.F.entry_tuple_add (PySem.F.args_tuple_add_2 _ _)
      (tuple_addW2 t b vs.toArray ws.toArray n n2 dd dd2 sl sl2 (by simpa using hv) (by simpa using hw) (by rw [List.size_toArray,List.size_toArray];exact hsz)) ⟨ho,ho2,?_⟩
    rw [e]
    exact h2 hw
def sIx(n d:Nat):Option Int→Nat
  | none=>d
  | some v=>if v < 0 then(v+(n:Int)).toNat else min v.toNat n
theorem zt(n d:Nat)(hd:d≤n)(o:Option Int):sIx n d o≤n:=by
  cases o with
  | none=>exact hd
  | some v=>
    show(if v < 0 then(v+(n:Int)).toNat else min v.toNat n)≤n
    by_cases hv:v < 0
    · rw [if_pos hv];lia
    · rw [if_neg hv];exact Nat.min_le_right _ _
theorem pV(v:Int)(n d:Nat):(if v < 0 then max (v+(n:Int)) 0 else min v (n:Int))=((sIx n d (some v):Nat):Int):=by
  show(if v < 0 then max (v+(n:Int)) 0 else min v (n:Int))=(((if v < 0 then(v+(n:Int)).toNat else min v.toNat n):Nat):Int)
  by_cases hv:v < 0
  · simp only [if_pos hv];lia
  · simp only [if_neg hv];lia
theorem oS(lo hi:Option Int)(n:Nat):Builtin.Slice.sliceAdjust lo hi 1 (n:Int)=(((sIx n 0 lo:Nat):Int),((sIx n n hi:Nat):Int)):=by
  have h1:¬((1:Int) < 0):=by lia
  unfold Builtin.Slice.sliceAdjust
  simp only [h1,if_false]
  refine Prod.ext ?_ ?_
  · cases lo with
    | none=>rfl
    | some v=>exact pV v n 0
  · cases hi with
    | none=>rfl
    | some v=>exact pV v n n
theorem pk(i j:Nat):Builtin.Slice.slicePlaces (i:Int) (j:Int) 1=j - i:=by
  unfold Builtin.Slice.slicePlaces
  have h1:(1:Int) > 0:=by lia
  simp only [h1,if_true,Int.ediv_one]
  split<;>lia
theorem slicePart_{v:Value}{o:Option Int}{Q:Option Int→Shared→Prop}(p:IsPart v o)(h:Q o s):wpAny (model prog w) A (Builtin.Slice.slicePartIndex v) Q E s:=by
  cases p with
  | none=>exact slicePart_none h
  | int i t=>exact slicePart_int h
theorem fW{sl:Addr}{vl vu:Value}{lo hi:Option Int}{n:Nat}{Q:Int × Int × Nat→Shared→Prop}(hs:s.heap.IsSliceOf sl vl vu .none)(pl:IsPart vl lo)(pu:IsPart vu hi)
    (h:Q (((sIx n 0 lo:Nat):Int),1,sIx n n hi - sIx n 0 lo) s):wpAny (model prog w) A (Builtin.Slice.sliceApplied (.ref sl) (pure (n:Int))) Q E s:=by
  obtain⟨os,hos,hcs,hds⟩:=id hs
  unfold Builtin.Slice.sliceApplied Builtin.Slice.sliceFields
  refine wpAny_bind (wpAny_bind (wpAny_field hos hds (x:=vl) rfl (wpAny_bind (wpAny_field hos hds (x:=vu) rfl (wpAny_bind (wpAny_field hos hds (x:=.none) rfl (wpAny_pure ?_)))))))
  refine wpAny_bind (slicePart_none ?_)
  show wpAny _ _ (if ((1:Int)==0)=true then _ else _) _ _ s
  rw [if_neg (by decide)]
  refine wpAny_bind (slicePart_ pl (wpAny_bind (slicePart_ pu (wpAny_bind (wpAny_pure ?_)))))
  show wpAny _ _ (match Builtin.Slice.sliceAdjust lo hi 1 (n:Int) with | (lo,hi)=>pure (lo,(1:Int),Builtin.Slice.slicePlaces lo hi 1)) _ _ s
  rw [oS lo hi n]
  show wpAny _ _ (pure (((sIx n 0 lo:Nat):Int),(1:Int),Builtin.Slice.slicePlaces ((sIx n 0 lo:Nat):Int) ((sIx n n hi:Nat):Int) 1)) _ _ s
  rw [pk]
  exact wpAny_pure h
theorem tS(xs:Array Value)(i k:Nat):((List.range k).filterMap fun(m:Nat)=>xs[((i:Int)+(m:Int)*1).toNat]?).toArray=((xs.toList.drop i).take k).toArray:=by
  have e:(fun(m:Nat)=>xs[((i:Int)+(m:Int)*1).toNat]?)=fun m=>xs[i+m]?:=by
    funext m
    have:((i:Int)+(m:Int)*1).toNat=i+m:=by lia
    rw [this]
  rw [e]
  have:=pick_run xs i k
  rw [List.filterMap_map] at this
  have e2:((fun x=>xs[x]?) ∘ fun x=>i+x)=fun m=>xs[i+m]?:=rfl
  rw [e2] at this
  rw [this]
theorem getItem_tuple_cut{t sl:Addr}{items:Array Value}{vl vu:Value}{lo hi:Option Int}{Q:Value→Shared→Prop}(ht:IsTup s.heap t items)(hs:s.heap.IsSliceOf sl vl vu .none)(pl:IsPart vl lo)(pu:IsPart vu hi)
    (hw:¬(sIx items.size 0 lo=0∧sIx items.size items.size hi=items.size))
    (h:Q (.ref s.heap.objs.size) {s with heap:=s.heap.push {cls:=.type "tuple",data:=.seq ((items.toList.drop (sIx items.size 0 lo)).take (sIx items.size items.size hi - sIx items.size 0 lo)).toArray}})
    (hsz:items.size≤sizeLine):wpAny (model prog w) A (getItem (.ref t) (.ref sl)) Q E s:=by
  have htake:sizeOk (.seq ((items.toList.drop (sIx items.size 0 lo)).take (sIx items.size items.size hi - sIx items.size 0 lo)).toArray):=by
    show((items.toList.drop (sIx items.size 0 lo)).take (sIx items.size items.size hi - sIx items.size 0 lo)).toArray.size≤sizeLine
    rw [List.size_toArray,List.length_take,List.length_drop,Array.length_toList]
    lia
  have hj:sIx items.size items.size hi≤items.size:=zt _ _ (Nat.le_refl _) hi
  obtain⟨os,hos,hcs,hds⟩:=id hs
  have hTs:s.TypeIs (.ref sl) "slice":=⟨os,hos,hcs⟩
  unfold getItem
  try with_reducible refine wpAny_holding ?_
  first | refine wpAny_bind (wpAny_pure ?_) | skip
  refine wpAny_bind (wpAny_sequenceKey ht.typeIs (by decide) ?_)
  refine wpAny_bind (wpAny_callSpecial?_slot (name:=Str.ofString "__getitem__") ht.typeIs PyProof.Rows.slot_tuple_getitem
    (wpAny_call_entry PyProof.Rows.slot_tuple_getitem ht.typeIs entry_tuple_getitem ?_ (args_tuple_getitem _ _)))
  show wpAny _ _ (Builtin.Tuple.tupleItemsOf (.ref t) >>= _) _ _ s
  refine wpAny_bind (tupleItemsOf_ ht ?_)
  refine wpAny_bind (wpAny_typeOf hTs ?_)
  rw [if_pos (by decide)]
  refine wpAny_bind (fW hs pl pu ?_)
  have hno:¬((((sIx items.size 0 lo:Nat):Int)==0&&(1:Int)==1&&(sIx items.size items.size hi - sIx items.size 0 lo)==items.size)=true):=by
    intro q
    rw [Bool.and_eq_true,Bool.and_eq_true] at q
    have q1:((sIx items.size 0 lo:Nat):Int)=0:=eq_of_beq q.1.1
    have q2:sIx items.size items.size hi - sIx items.size 0 lo=items.size:=eq_of_beq q.2
    exact hw ⟨by lia,by lia⟩
  show wpAny _ _ (if (((sIx items.size 0 lo:Nat):Int)==0&&(1:Int)==1&&(sIx items.size items.size hi - sIx items.size 0 lo)==items.size)=true then _ else _) _ _ s
  rw [if_neg hno,tS]
  first
    | exact wpAny_bind (m:=Builtin.Tuple.tupleExact _) (wpAny_newObj_type (wpAny_pure ⟨_,rfl,wpAny_pure h⟩) htake)
    | exact wpAny_bind (m:=Builtin.Tuple.tupleExact _) (wpAny_newObj_type (wpAny_bind (wpAny_pure (wpAny_pure ⟨_,rfl,wpAny_pure h⟩))) htake)
    | exact wpAny_bind (wpAny_bind (m:=Builtin.Tuple.tupleExact _) (wpAny_newObj_type (wpAny_pure (wpAny_pure ⟨_,rfl,wpAny_pure h⟩)) htake))
    | exact wpAny_bind (wpAny_bind (m:=Builtin.Tuple.tupleExact _) (wpAny_newObj_type (wpAny_pure ⟨_,rfl,wpAny_pure h⟩) htake))
end
end HT
namespace L2
open PySem PySem.Spec PyProof.Rows
abbrev TO:=St→Hp→(Option Int→Hp→Prop)→Prop
def PO(X:Cx)(e:Option Expr)(t:TO):Prop:=
  ∀(pins:List (Addr × Obj)) (s:Shared) (σ:St) (H:Hp) (Q:Option Int→Hp→Prop),au X pins σ H s→t σ H Q→
    wpAny (model X.prog X.w) X.A (evalPart e X.env) (fun u s'=>∃o H',au X pins σ H' s'∧IsPart u o∧Q o H') X.xe s
def wC:TO:=fun _ H Q=>Q none H
def Bu(t:TE):TO:=fun σ H Q=>t σ H fun x H1=>∃i,x=.int i∧Q (some i) H1
theorem dZ{ns:List Int}:∀{us:List Value},aE (ns.map V.int) us→IntsAre us ns:=by
  induction ns with
  | nil=>intro us r;rw [List.map_nil] at r;cases r;exact .nil
  | cons n ns ih=>
    intro us r
    rw [List.map_cons] at r
    cases r with
    | cons r1 r2=>
      obtain⟨t,e⟩:=r1
      subst e
      exact .cons n t (ih r2)
section
variable{X:Cx}{e:Expr}{te:TE}{lo hi:Option Expr}{tl th:TO}{pos p2:Pos}
theorem vZ:PO X none wC:=by
  intro pins s σ H Q I h
  rw [evalPart_none]
  exact wpAny_pure ⟨none,H,I,.none,h⟩
theorem v0(h:PE X e te):PO X (some e) (Bu te):=by
  intro pins s σ H Q I hw
  rw [evalPart_some]
  refine bz (h pins s σ H _ I hw) fun u s1 ⟨x,H1,I1,r1,q1⟩=>?_
  obtain⟨i,rfl,q⟩:=q1
  obtain⟨t,rfl⟩:=r1
  exact⟨some i,H1,I1,.int i t,q⟩
def uW(X:Cx)(r:V→Option Int→Option Int→Hp→VK→Prop):Prop:=
  ∀(pins:List (Addr × Obj)) (s:Shared) (σ:St) (H:Hp) (x:V) (v vl vu:Value) (lo hi:Option Int) (sl:Addr) (Q:VK),au X pins σ H s→bf x v→s.heap.IsSliceOf sl vl vu .none→IsPart vl lo→IsPart vu hi→r x lo hi H Q→
    ∃T id,typeLookup (.type T) "__getitem__"=pure (some (.builtin id))∧s.TypeIs v T∧wpAny (model X.prog X.w) X.A (getItem v (.ref sl)) (EP X pins σ Q) X.xe s
theorem uW.or{r r':V→Option Int→Option Int→Hp→VK→Prop}(h:uW X r)(h':uW X r'):uW X (fun x lo hi H Q=>r x lo hi H Q∨r' x lo hi H Q):=by
  intro pins s σ H x v vl vu lo hi sl Q I rx hs pl pu q
  rcases q with q | q
  · exact h pins s σ H x v vl vu lo hi sl Q I rx hs pl pu q
  · exact h' pins s σ H x v vl vu lo hi sl Q I rx hs pl pu q
def Dn(r:V→Option Int→Option Int→Hp→VK→Prop)(te:TE)(tl th:TO):TE:=fun σ H Q=>te σ H fun x H1=>tl σ H1 fun l H2=>th σ H2 fun u H3=>r x l u H3 Q
theorem tO{r:V→Option Int→Option Int→Hp→VK→Prop}(hr:uW X r)(he:PE X e te)(hl:PO X lo tl)(hu:PO X hi th):PE X (.Subscript e (.Slice lo hi none p2) pos) (Dn r te tl th):=by
  intro pins s σ H Q I h
  refine Subscript_ (bz (he pins s σ H _ I h) fun v s1 ⟨x,H1,I1,r1,q1⟩=>?_)
  refine wpAny_Slice (bz (hl pins s1 σ H1 _ I1 q1) fun vl s2 ⟨l,H2,I2,pl,q2⟩=>bz (hu pins s2 σ H2 _ I2 q2) fun vu s3 ⟨u,H3,I3,pu,q3⟩=>?_)
  rw [evalPart_none]
  refine wpAny_pure ?_
  have I4:au X pins σ H3 {s3 with heap:=s3.heap.push {cls:=.type "slice",data:=.fields #[vl,vu,.none]}}:=I3.kept (t':=s3.toks) fun b ob q=>Heap.get?_push_of_some _ q
  obtain⟨T,id,hT,ht,hg⟩:=hr pins {s3 with heap:=s3.heap.push {cls:=.type "slice",data:=.fields #[vl,vu,.none]}} σ H3 x v vl vu l u s3.heap.objs.size Q I4 r1 (Heap.IsSliceOf.new ..) pl pu q3
  show wpAny (model X.prog X.w) X.A (subscriptTail e (.Slice lo hi none p2) v (.ref s3.heap.objs.size)) (EP X pins σ Q) X.xe {s3 with heap:=s3.heap.push {cls:=.type "slice",data:=.fields #[vl,vu,.none]}}
  exact tail_any (ops:=[.ref s3.heap.objs.size,v]) ht hT hg (by with_unfolding_all rfl)
def lh(xs:List V)(lo hi:Option Int):List V:=(xs.drop (HT.sIx xs.length 0 lo)).take (HT.sIx xs.length xs.length hi - HT.sIx xs.length 0 lo)
theorem jY(xs:List V)(lo hi:Option Int):(lh xs lo hi).length≤xs.length:=by
  unfold lh
  rw [List.length_take,List.length_drop]
  lia
def Bd(K:PySem.W.Frag):V→Option Int→Option Int→Hp→VK→Prop:=fun x lo hi H Q=>∃a xs,x=.ref a∧dQ K H a xs∧
  ¬(HT.sIx xs.length 0 lo=0∧HT.sIx xs.length xs.length hi=xs.length)∧∀p,H p=none→Q (.ref p) (aX H p (.tup (lh xs lo hi)))
theorem zu:uW X (Bd X.K):=by
  intro pins s σ H x v vl vu lo hi sl Q I rx hs pl pu h
  obtain⟨a,xs,rfl,hx,hw,q⟩:=h
  cases rx
  obtain⟨its,r,ht,hz⟩:=I.tuple hx
  have hlen:its.toArray.size=xs.length:=by rw [List.size_toArray];exact r.length.symm
  refine⟨"tuple",_,PyProof.Rows.slot_tuple_getitem.lookup,ht.typeIs,?_⟩
  refine HT.getItem_tuple_cut ht hs pl pu (by rw [hlen];exact hw) ?_ (by rw [hlen];exact hz)
  rw [hlen]
  refine⟨.ref s.heap.objs.size,_,I.laid (t':=s.toks) (o:=.tup (lh xs lo hi)) (fun b ob q=>Heap.get?_push_of_some _ q) (Nat.le_refl _) ?_,rfl,q _ (I.hok.fresh (Nat.le_refl _))⟩
  exact⟨Nat.le_trans (jY xs lo hi) hz,_,(r.drop (HT.sIx xs.length 0 lo)).take (HT.sIx xs.length xs.length hi - HT.sIx xs.length 0 lo),k_.new _ _⟩
def A0(K:PySem.W.Frag):R2:=fun x y H Q=>∃a b xs ys,x=.ref a∧y=.ref b∧dQ K H a xs∧dQ K H b ys∧xs≠[]∧xs.length+ys.length≤sizeLine∧
  (ys=[]→Q (.ref a) H)∧(ys≠[]→∀p,H p=none→Q (.ref p) (aX H p (.tup (xs++ys))))
theorem aE.nil_iff{xs:List V}{us:List Value}(r:aE xs us):us=[]↔ xs=[]:=by
  cases r with
  | nil=>simp
  | cons _ _=>simp
theorem vK:fg X (binaryOp .Add) (A0 X.K):=by
  intro pins s σ H x y v u Q I rx ry h
  obtain⟨a,b,xs,ys,rfl,rfl,ha,hb,hx,hz,q1,q2⟩:=h
  cases rx
  cases ry
  obtain⟨its,r1,p1,_⟩:=I.tuple ha
  obtain⟨its2,r2,p2,_⟩:=I.tuple hb
  refine HT.cat_tup p1 p2 (fun z=>hx (r1.nil_iff.mp z)) (fun z=>⟨.ref a,H,I,rfl,q1 (r2.nil_iff.mp z)⟩) (fun z=>?_) (by rw [←r1.length,←r2.length];exact hz)
  refine⟨.ref s.heap.objs.size,_,I.laid (t':=s.toks) (o:=.tup (xs++ys)) (fun b ob q=>Heap.get?_push_of_some _ q) (Nat.le_refl _) ?_,rfl,q2 (fun w=>z (r2.nil_iff.mpr w)) _ (I.hok.fresh (Nat.le_refl _))⟩
  exact⟨by rw [List.length_append];exact hz,_,r1.append r2,k_.new _ _⟩
end
end L2
namespace L2
open PySem PySem.Spec PyProof.Rows
def nR(n:Nat)(i:Int):Option Nat:=if 0≤i then(if i < n then some i.toNat else none) else if -(n:Int)≤i then some (i+n).toNat else none
def atI{α:Type}(xs:List α)(i:Int):Option α:=(nR xs.length i).bind fun j=>xs[j]?
theorem qi{n:Nat}{i:Int}{j:Nat}(h:nR n i=some j):seqIndex? i n=some j∧j < n∧ -(n:Int)≤i∧i < n:=by
  unfold nR at h
  by_cases h0:0≤i
  · rw [if_pos h0] at h
    by_cases h1:i < n
    · rw [if_pos h1] at h
      have e:i.toNat=j:=Option.some.inj h
      exact⟨by rw [seqIndex_of h0 h1,e],by lia,by lia,h1⟩
    · rw [if_neg h1] at h;cases h
  · rw [if_neg h0] at h
    by_cases h1: -(n:Int)≤i
    · rw [if_pos h1] at h
      have e:(i+n).toNat=j:=Option.some.inj h
      exact⟨by rw [seqIndex_neg (by lia) h1,e],by lia,h1,by lia⟩
    · rw [if_neg h1] at h;cases h
theorem pQ{α:Type}{xs:List α}{i:Int}{v:α}(h:atI xs i=some v):∃j,seqIndex? i xs.length=some j∧xs[j]?=some v∧j < xs.length∧ -(xs.length:Int)≤i∧i < xs.length:=by
  unfold atI at h
  cases e:nR xs.length i with
  | none=>rw [e] at h;cases h
  | some j=>
    rw [e] at h
    obtain⟨h1,h2,h3,h4⟩:=qi e
    exact⟨j,h1,h,h2,h3,h4⟩
def l0(b:Expr):Prop:=∀o i,subscripted b false o i=operate [o,i] (getItem o i)
def uV(X:Cx)(r:R2):Prop:=
  ∀(value slice:Expr) (pins:List (Addr × Obj)) (s:Shared) (σ:St) (H:Hp) (x y:V) (v u:Value) (Q:VK),au X pins σ H s→bf x v→bf y u→r x y H Q→
    subscripted slice false v u=operate [v,u] (getItem v u)→wpAny (model X.prog X.w) X.A (subscriptTail value slice v u) (EP X pins σ Q) X.xe s
def zT(X:Cx)(id:String)(r:V→List V→Hp→VK→Prop):Prop:=
  ∀(pins:List (Addr × Obj)) (s:Shared) (σ:St) (H:Hp) (x:V) (xs:List V) (v:Value) (us:List Value) (Q:VK),au X pins σ H s→bf x v→aE xs us→r x xs H Q→
    wpAny (model X.prog X.w) X.A (call (.builtin id) (v::us)) (EP X pins σ Q) X.xe s
section
variable{X:Cx}{a b:Expr}{ta tb:TE}{pos:Pos}
theorem uV.or{r r':R2}(h:uV X r)(h':uV X r'):uV X (fun x y H Q=>r x y H Q∨r' x y H Q):=by
  intro value slice pins s σ H x y v u Q I rx ry q hs
  rcases q with q | q
  · exact h value slice pins s σ H x y v u Q I rx ry q hs
  · exact h' value slice pins s σ H x y v u Q I rx ry q hs
theorem AN{r:R2}(hr:uV X r)(ha:PE X a ta)(hb:PE X b tb)(hs:l0 b):PE X (.Subscript a b pos) (Bs r ta tb):=by
  intro pins s σ H Q I h
  exact Subscript_ (xO ha hb I h fun v u s2 x y H2 I2 rx ry q=>hr a b pins s2 σ H2 x y v u Q I2 rx ry q (hs _ _))
def A9(K:PySem.W.Frag):R2:=fun x y H Q=>∃p xs i v,x=.ref p∧y=.int i∧em K H p xs∧atI xs i=some v∧Q v H
def A_(K:PySem.W.Frag):R2:=fun x y H Q=>∃p xs i v,x=.ref p∧y=.int i∧dQ K H p xs∧atI xs i=some v∧Q v H
theorem vo:uV X (A9 X.K):=by
  intro value slice pins s σ H x y v u Q I rx ry h hs
  obtain⟨p,xs,i,z,rfl,rfl,hq,he,q⟩:=h
  cases rx
  obtain⟨t,rfl⟩:=ry
  obtain⟨its,r,pl,hz⟩:=I.list hq
  obtain⟨j,h1,h2,h3,h4,h5⟩:=pQ he
  obtain⟨w,ew,rw'⟩:=r.get h2
  have hl:=r.length
  have hn:=mE
  have fin:EP X pins σ Q w s:=⟨z,H,I,rw',q⟩
  by_cases h0:0≤i
  · have hj:i.toNat=j:=by
      rw [seqIndex_of h0 h5] at h1
      exact Option.some.inj h1
    exact item_listR pl.isList h0 (by lia) (by rw [hj];simpa using ew) fin hs
  · have hj:(i+(its.toArray.size:Int)).toNat=j:=by
      rw [seqIndex_neg (by lia) h4] at h1
      rw [List.size_toArray,←hl]
      exact Option.some.inj h1
    exact subscriptTail_builtinR (x:=w) pl.isList.typeIs slot_list_getitem.lookup
      (wpAny_getItem_list_neg (Q:=fun r s'=>r=w∧EP X pins σ Q r s') pl.isList (by lia) (by rw [List.size_toArray]<;>lia) (by lia) (by rw [hj];simpa using ew) ⟨rfl,fin⟩) hs
theorem ya:uV X (A_ X.K):=by
  intro value slice pins s σ H x y v u Q I rx ry h hs
  obtain⟨p,xs,i,z,rfl,rfl,hq,he,q⟩:=h
  cases rx
  obtain⟨t,rfl⟩:=ry
  obtain⟨its,r,pl,hz⟩:=I.tuple hq
  obtain⟨j,h1,h2,h3,h4,h5⟩:=pQ he
  obtain⟨w,ew,rw'⟩:=r.get h2
  have hl:=r.length
  have hn:=mE
  have fin:EP X pins σ Q w s:=⟨z,H,I,rw',q⟩
  exact subscriptTail_builtinR (x:=w) pl.typeIs slot_tuple_getitem.lookup
    (getItem_tuple (j:=j) (Q:=fun r s'=>r=w∧EP X pins σ Q r s') pl (by lia) (by lia) (by rw [List.size_toArray,←hl];exact h1) (by simpa using ew) ⟨rfl,fin⟩) hs
theorem pd(its:List Value)(n j:Nat)(u:Value):Obj.mapSeq (·.setIfInBounds j u) {cls:=.type "list",data:=.seq its.toArray n}={cls:=.type "list",data:=.seq (its.set j u).toArray n}:=by
  simp [Obj.mapSeq]
theorem au.lst{pins:List (Addr × Obj)}{σ:St}{H:Hp}{s:Shared}{p:Addr}{xs:List V}(I:au X pins σ H s)(h:H p=some (.lst xs)):
    ∃(its:List Value) (n:Nat),aE xs its∧s.heap.get? p=some {cls:=.type "list",data:=.seq its.toArray n}∧xs.length≤sizeLine:=by
  obtain⟨z,its,n,r,e⟩:=I.hok p _ h
  exact⟨its,n,r,e,z⟩
theorem au.lstUpd{pins:List (Addr × Obj)}{σ:St}{H:Hp}{s:Shared}{p:Addr}{xs ys:List V}{its its':List Value}{n n':Nat}{f:Obj→Obj}(I:au X pins σ H s)(h:H p=some (.lst xs))
    (ho:s.heap.get? p=some {cls:=.type "list",data:=.seq its.toArray n})(hf:f {cls:=.type "list",data:=.seq its.toArray n}={cls:=.type "list",data:=.seq its'.toArray n'})(r:aE ys its')(hz:ys.length≤sizeLine)(t:Nat):
    au X pins σ (aX H p (.lst ys)) {s with heap:=s.heap.update p f,toks:=t}:=by
  have e:(s.heap.update p f).get? p=some {cls:=.type "list",data:=.seq its'.toArray n'}:=by
    rw [Heap.get?_update_self f ho (by rw [hf]<;>rfl),hf]
  refine I.write (x:=p) (e:=p) (by rw [h];trivial) (.inl rfl) (fun b u hb q=>(Heap.get?_update_other _ _ (Ne.symm hb)).trans q) ⟨_,e⟩ ?_
  exact⟨hz,its',n',r,e⟩
def Bb:V→V→V→Hp→(Hp→Prop)→Prop:=fun o i v H Q=>∃p xs k j,o=.ref p∧i=.int k∧H p=some (.lst xs)∧nR xs.length k=some j∧Q (aX H p (.lst (xs.set j v)))
theorem uA:zV X Bb:=by
  intro pins s σ H o i v ov iv u Q I ro ri rv h
  obtain⟨p,xs,k,j,rfl,rfl,hp,hj,q⟩:=h
  cases ro
  obtain⟨t,rfl⟩:=ri
  obtain⟨its,n,r,ho,hz⟩:=I.lst hp
  obtain⟨h1,h2,h3,h4⟩:=qi hj
  have hl:=r.length
  have hn:=mE
  have I':au X pins σ (aX H p (.lst (xs.set j v))) {s with heap:=s.heap.update p (Obj.mapSeq (·.setIfInBounds j u))}:=
    I.lstUpd hp ho (pd its n j u) (r.set rv j) (by rw [List.length_set];exact hz) s.toks
  by_cases h0:0≤k
  · have hk:k.toNat=j:=by
      rw [seqIndex_of h0 h4] at h1
      exact Option.some.inj h1
    exact PySem.W.ki_setAt ho h0 (by lia) (by rw [List.size_toArray,←hl];exact h4) (by rw [hk];exact⟨_,I',q⟩)
  · have hk:(k+(its.toArray.size:Int)).toNat=j:=by
      rw [seqIndex_neg (by lia) h3] at h1
      rw [List.size_toArray,←hl]
      exact Option.some.inj h1
    exact PySem.W.ki_setBack ho (by lia) (by rw [List.size_toArray,←hl];exact h3) (by lia) (by rw [hk];exact⟨_,I',q⟩)
theorem mT(lo hi:Option Int)(n:Nat):(sliceBounds lo hi none n).1=((HT.sIx n 0 lo:Nat):Int)∧(sliceBounds lo hi none n).2.1=((HT.sIx n n hi:Nat):Int)∧(sliceBounds lo hi none n).2.2=1:=by
  refine⟨?_,?_,rfl⟩
  · cases lo with
    | none=>simp [sliceBounds,HT.sIx]
    | some i=>
      simp only [sliceBounds,HT.sIx,Option.getD_none,show(1:Int) > 0 by decide,if_true]
      by_cases h:i < 0
      · simp only [h,if_true]<;>lia
      · simp only [h,if_false]<;>lia
  · cases hi with
    | none=>simp [sliceBounds,HT.sIx]
    | some i=>
      simp only [sliceBounds,HT.sIx,Option.getD_none,show(1:Int) > 0 by decide,if_true]
      by_cases h:i < 0
      · simp only [h,if_true]<;>lia
      · simp only [h,if_false]<;>lia
theorem lq(its:List Value)(lo hi:Option Int):slicePick its.toArray lo hi none=((its.drop (HT.sIx its.length 0 lo)).take (HT.sIx its.length its.length hi - HT.sIx its.length 0 lo)).toArray:=by
  obtain⟨h1,h2,h3⟩:=mT lo hi its.toArray.size
  unfold slicePick
  rw [h1,h2,h3]
  simp only [sliceRange_one,pick_run,List.size_toArray]<;>rfl
def Bc(K:PySem.W.Frag):V→Option Int→Option Int→Hp→VK→Prop:=fun x lo hi H Q=>∃a xs,x=.ref a∧em K H a xs∧∀p,H p=none→Q (.ref p) (aX H p (.lst (lh xs lo hi)))
theorem wy:uW X (Bc X.K):=by
  intro pins s σ H x v vl vu lo hi sl Q I rx hs pl pu h
  obtain⟨a,xs,rfl,hx,q⟩:=h
  cases rx
  obtain⟨its,r,ht,hz⟩:=I.list hx
  have hlen:=r.length
  refine⟨"list",_,slot_list_getitem.lookup,ht.isList.typeIs,?_⟩
  refine wpAny_getItem_list_slice ht.isList hs pl pu .none (by simp) ?_ (by rw [List.size_toArray]<;>lia)
  rw [lq,←hlen]
  refine⟨.ref s.heap.objs.size,_,I.laid (t':=s.toks) (o:=.lst (lh xs lo hi)) (fun b ob q=>Heap.get?_push_of_some _ q) (Nat.le_refl _) ?_,rfl,q _ (I.hok.fresh (Nat.le_refl _))⟩
  exact⟨Nat.le_trans (jY xs lo hi) hz,_,0,(r.drop (HT.sIx xs.length 0 lo)).take (HT.sIx xs.length xs.length hi - HT.sIx xs.length 0 lo),Heap.get?_push_size _ rfl⟩
theorem me:cQ X (.builtin "len") (fun xs H Q=>∃p ys,xs=[.ref p]∧(em X.K H p ys∨dQ X.K H p ys)∧Q (.int ys.length) H):=by
  intro pins s σ H xs us Q I r h
  obtain⟨p,ys,rfl,hq,q⟩:=h
  obtain⟨u,rfl,rx⟩:=lY r
  cases rx
  have hn:=mE
  rcases hq with hq | hq
  · obtain⟨its,r',pl,hz⟩:=I.list hq
    have hlen:=r'.length
    exact Calls.call_len_list pl.isList (by simp only [List.size_toArray]<;>lia) ⟨.int ys.length,H,I.tok _,⟨s.toks+1,by rw [List.size_toArray,hlen]⟩,q⟩
  · obtain⟨its,r',pl,hz⟩:=I.tuple hq
    have hlen:=r'.length
    exact len_tuple pl (by simp only [List.size_toArray]<;>lia) ⟨.int ys.length,H,I.tok _,⟨s.toks+1,by rw [List.size_toArray,hlen]⟩,q⟩
theorem mf:cQ X (.type "list") (fun xs H Q=>∃p ys,xs=[.ref p]∧(em X.K H p ys∨dQ X.K H p ys)∧∀l,H l=none→Q (.ref l) (aX H l (.lst ys))):=by
  intro pins s σ H xs us Q I r h
  obtain⟨p,ys,rfl,hq,q⟩:=h
  obtain⟨u,rfl,rx⟩:=lY r
  cases rx
  have fin:∀(its:List Value),aE ys its→ys.length≤sizeLine→∀(h':Heap) (c':Nat),(∀b o',s.heap.get? b=some o'→h'.get? b=some o')→
      h'.get? s.heap.objs.size=some {cls:=.type "list",dict:=none,data:=.seq its.toArray c',slots:=#[]}→EP X pins σ Q (.ref s.heap.objs.size) {s with heap:=h'}:=fun its r' hz h' c' kp e=>
    ⟨.ref s.heap.objs.size,_,I.laid (t':=s.toks) kp (Nat.le_refl _) (show cR X.prog X.w _ h' _ (.lst ys) from⟨hz,its,c',r',e⟩),rfl,q _ (I.hok.fresh (Nat.le_refl _))⟩
  rcases hq with hq | hq
  · obtain⟨its,r',pl,hz⟩:=I.list hq
    have hlen:=r'.length
    obtain⟨o,ho,hc,n,hd⟩:=pl.isList
    exact call_list_seq p (.inl rfl) ho hc hd (fun h' c' kp e=>fin its r' hz h' c' kp e) (by simp only [List.size_toArray]<;>lia)
  · obtain⟨its,r',pl,hz⟩:=I.tuple hq
    have hlen:=r'.length
    obtain⟨o,ho,hc,n,hd⟩:=pl
    exact call_list_seq p (.inr rfl) ho hc hd (fun h' c' kp e=>fin its r' hz h' c' kp e) (by simp only [List.size_toArray]<;>lia)
theorem lg:cQ X (.type "tuple") (fun xs H Q=>∃p ys,xs=[.ref p]∧((em X.K H p ys∧∀l,H l=none→Q (.ref l) (aX H l (.tup ys)))∨(dQ X.K H p ys∧Q (.ref p) H))):=by
  intro pins s σ H xs us Q I r h
  obtain⟨p,ys,rfl,h⟩:=h
  obtain⟨u,rfl,rx⟩:=lY r
  cases rx
  rcases h with ⟨hq,q⟩ | ⟨hq,q⟩
  · obtain⟨its,r',pl,hz⟩:=I.list hq
    have hlen:=r'.length
    refine call_tuple_list pl.isList (fun h' kp=>?_) (by simp only [List.size_toArray]<;>lia)
    have I1:au X pins σ H {s with heap:=h'}:=I.kept (t':=s.toks) kp
    have I2:au X pins σ (aX H h'.objs.size (.tup ys)) {s with heap:=h'.push {cls:=.type "tuple",data:=.seq its.toArray}}:=
      I1.laid (t':=s.toks) (fun b o e=>Heap.get?_push_of_some _ e) (Nat.le_refl _) (show cR X.prog X.w _ _ _ (.tup ys) from⟨hz,its,r',k_.new _ _⟩)
    exact⟨.ref h'.objs.size,_,I2,rfl,q _ (I1.hok.fresh (Nat.le_refl _))⟩
  · obtain⟨its,r',pl,hz⟩:=I.tuple hq
    exact call_tuple_same pl ⟨.ref p,H,I,rfl,q⟩
def C3(K:PySem.W.Frag)(T:String)(x:V)(H:Hp):Prop:=match x with
  | .str _=>T="str"
  | .int _=>T="int"
  | .ref p=>(T="list"∧∃xs,em K H p xs)∨(T="tuple"∧∃o,K.lookup p=some o∧o.cls=.type "tuple"∧o.dict=none)∨
      (T="dict"∧((∃kvs,H p=some (.dK kvs))∨∃kvs,H p=some (.dT kvs)))∨(T="set"∧∃S n,H p=some (.set S n))
  | _=>False
theorem uH{pins:List (Addr × Obj)}{σ:St}{H:Hp}{s:Shared}{T:String}{x:V}{v:Value}(I:au X pins σ H s)(r:bf x v)(ty:C3 X.K T x H):
    s.TypeIs v T∧∀a,v=.ref a→∃ob,s.heap.get? a=some ob∧ob.dict=none:=by
  cases x with
  | str z=>
    obtain⟨t,rfl⟩:=r
    cases (show T="str" from ty)
    exact⟨typeIs_str s z t,fun _ e=>nomatch e⟩
  | int i=>
    obtain⟨t,rfl⟩:=r
    cases (show T="int" from ty)
    exact⟨typeIs_int s i t,fun _ e=>nomatch e⟩
  | ref p=>
    cases r
    rcases ty with ⟨rfl,xs,hq⟩ | ⟨rfl,o,hk,hc,hd⟩ | ⟨rfl,hk⟩ | ⟨rfl,S,n,hk⟩
    · obtain⟨its,_,pl,_⟩:=I.list hq
      refine⟨pl.isList.typeIs,fun a e=>?_⟩
      cases e
      obtain⟨o,n,e,c,hd,_⟩:=pl
      exact⟨o,e,hd⟩
    · refine⟨⟨o,I.kIn p o hk,hc⟩,fun a e=>?_⟩
      cases e
      exact⟨o,I.kIn _ o hk,hd⟩
    · have z:∃o,s.heap.get? p=some o∧o.ExactDict:=by
        rcases hk with ⟨kvs,hk⟩ | ⟨kvs,hk⟩
        · obtain⟨_,_,_,_,o,_,_,e,ex,_⟩:=I.hok p _ hk
          exact⟨o,e,ex⟩
        · obtain⟨_,_,_,_,o,_,_,e,ex,_⟩:=I.hok p _ hk
          exact⟨o,e,ex⟩
      obtain⟨o,e,ex⟩:=z
      refine⟨⟨o,e,ex.1⟩,fun a e2=>?_⟩
      cases e2
      exact⟨o,e,ex.2.1⟩
    · obtain⟨o,_,_,_,e,ex,_⟩:=I.hok p _ hk
      refine⟨⟨o,e,ex.1⟩,fun a e2=>?_⟩
      cases e2
      exact⟨o,e,ex.2.1⟩
  | _=>exact False.elim ty
def CW(K:PySem.W.Frag)(T:String)(r:V→List V→Hp→VK→Prop)(to:TE)(t:TA):TE:=fun σ H Q=>to σ H fun x H1=>C3 K T x H1∧t σ H1 fun xs H2=>r x xs H2 Q
variable{o e:Expr}{es:List Expr}{to:TE}{t:TA}{name:Str}{apos cpos:Pos}{T id:String}{r:V→List V→Hp→VK→Prop}
theorem AM(pa:PlainAttrs T)(slot:Slot T name id)(hty:typeOf (.builtin id)=pure (.type "method_descriptor"))(hm:zT X id r)(ho:PE X o to)(ha:PA X (e::es) t)
    (hbase:attributeBase o name X.env (eval o X.env)=eval o X.env:=by rfl)
    (hfew:((backTo cpos (starEach (e::es) X.env)).all (fun x=> !x.1)&&(backToKw cpos (keywordEach [] X.env)).all (fun x=>x.1.isSome)
      &&decide ((e::es).length+([]:List Keyword).length+(if ([]:List Keyword).isEmpty then 0 else 1) < 30))=true:=by rfl)
    (hline:(apos.endLine==cpos.line)=true:=by rfl)(hs:starEach (e::es) X.env=(false,eval e X.env)::starEach es X.env:=by rfl)(hplain:(backTo cpos (starEach es X.env)).any (·.1)=false:=by rfl):
    PE X (.Call (.Attribute o name apos) (e::es) [] cpos) (CW X.K T r to t):=by
  intro pins s σ H Q I h
  refine wpAny_Call_method_late hbase hfew hline rfl (bz (ho pins s σ H _ I h) fun v s1 ⟨x,H1,I1,r1,ty,q1⟩=>?_)
  obtain⟨h1,h2⟩:=uH I1 r1 ty
  refine⟨T,id,pa,slot,hty,h1,h2,?_⟩
  have hA:=ha cpos pins s1 σ H1 _ I1 q1
  rw [hs] at hA ⊢
  refine Calls.callWith_builtin (by show(false || (backTo cpos (starEach es X.env)).any (·.1))=false;rw [hplain]<;>rfl) (Calls.evalArgs_plain ?_)
  exact bz hA fun us s2 ⟨vs,H2,I2,r2,q2⟩=>hm pins s2 σ H2 x vs v us Q I2 r1 r2 q2
end
end L2
namespace L2
open PySem PySem.Spec PyProof.Rows
def CF(X:Cx)(id:String)(r:V→List V→Hp→VK→Prop):Prop:=
  ∀(pins:List (Addr × Obj)) (s:Shared) (σ:St) (H:Hp) (x:V) (xs:List V) (v:Value) (us:List Value) (Q:VK),au X pins σ H s→bf x v→aE xs us→r x xs H Q→
    wpAny (model X.prog X.w) X.A (call (.builtin id) (v::us)) (EP X pins σ Q) X.xe s
theorem aE.one:∀{x:V} {us:List Value},aE [x] us→∃u,us=[u]∧bf x u
  | _,_,.cons r .nil=>⟨_,rfl,r⟩
theorem aE.eraseIdx:∀{xs:List V} {us:List Value} (i:Nat),aE xs us→aE (xs.eraseIdx i) (us.eraseIdx i)
  | _,_,_,.nil=>.nil
  | _,_,0,.cons _ t=>t
  | _,_,i+1,.cons r t=>.cons r (aE.eraseIdx i t)
theorem aE.reverse{xs:List V}{us:List Value}(h:aE xs us):aE xs.reverse us.reverse:=by
  induction h with
  | nil=>exact .nil
  | cons r t ih=>rw [List.reverse_cons,List.reverse_cons];exact aE.append ih (.cons r .nil)
theorem aE.rep{xs:List V}{us:List Value}(h:aE xs us):∀k:Nat,aE (List.replicate k xs).flatten (List.replicate k us).flatten
  | 0=>.nil
  | k+1=>by
    rw [List.replicate_succ,List.replicate_succ,List.flatten_cons,List.flatten_cons]
    exact aE.append h (aE.rep h k)
theorem lM{α:Type}:∀(l:List α) (i:Nat),(l.eraseIdx i).length≤l.length
  | [],_=>Nat.le_refl _
  | _::_,0=>Nat.le_succ _
  | _::r,i+1=>Nat.succ_le_succ (lM r i)
theorem lI(its:List Value):∀(k:Nat) (acc:List Value),
    List.foldl (fun x1 x2=>x1++x2) acc.toArray (List.replicate k its.toArray)=(acc++(List.replicate k its).flatten).toArray
  | 0,acc=>by simp
  | k+1,acc=>by
    have e:acc.toArray++its.toArray=(acc++its).toArray:=by simp
    have e2:(acc++its)++(List.replicate k its).flatten=acc++(List.replicate (k+1) its).flatten:=by
      rw [List.replicate_succ,List.flatten_cons,List.append_assoc]
    rw [←e2,←lI its k (acc++its),←e,List.replicate_succ,List.foldl_cons]
section
variable{X:Cx}{pins:List (Addr × Obj)}{σ:St}{H:Hp}{s:Shared}{l b:Addr}{xs ys zs:List V}
theorem au.lset{its its':List Value}{n:Nat}{f:Array Value→Array Value}{t':Nat}(I:au X pins σ H s)(hH:H l=some (.lst xs))
    (e:s.heap.get? l=some {cls:=.type "list",data:=.seq its.toArray n})(hf:f its.toArray=its'.toArray)(hv:aE ys its')(hz:ys.length≤sizeLine):
    au X pins σ (aX H l (.lst ys)) {s with heap:=s.heap.update l (Obj.mapSeq f),toks:=t'}:=by
  have q:=PySem.IsL.update e f
  rw [hf] at q
  refine I.write (x:=l) (e:=l) (by rw [hH];exact trivial) (.inl rfl) (fun b' u hb hu=>(Heap.get?_update_other s.heap (Obj.mapSeq f) (Ne.symm hb)).trans hu) ⟨_,q⟩ ?_
  exact⟨hz,its',_,hv,q⟩
theorem au.lnew{its:List Value}{t':Nat}(I:au X pins σ H s)(hv:aE ys its)(hz:ys.length≤sizeLine):
    au X pins σ (aX H s.heap.objs.size (.lst ys)) {s with heap:=s.heap.push {cls:=.type "list",data:=.seq its.toArray},toks:=t'}:=
  I.laid (fun _ _ q=>Heap.get?_push_of_some _ q) (Nat.le_refl _) ⟨hz,its,0,hv,Heap.get?_push_size _ rfl⟩
theorem au.fresh(I:au X pins σ H s):H s.heap.objs.size=none:=I.hok.fresh (Nat.le_refl _)
theorem au.lstM(I:au X pins σ H s)(hH:H l=some (.lst xs)):xs.length≤sizeLine∧∃(its:List Value) (n:Nat),aE xs its∧xs.length=its.length∧s.heap.get? l=some {cls:=.type "list",data:=.seq its.toArray n}:=by
  obtain⟨z,its,n,r,e⟩:=I.hok l _ hH
  exact⟨z,its,n,r,r.length,e⟩
theorem tH{n:Nat}(h:n≤sizeLine):Builtin.List.listTooLong n=false:=by
  unfold Builtin.List.listTooLong
  exact decide_eq_false (by lia)
end
section
variable{X:Cx}
def qr:V→List V→Hp→VK→Prop:=fun x vs H Q=>∃l xs y,x=.ref l∧vs=[y]∧H l=some (.lst xs)∧xs.length < sizeLine∧Q .non (aX H l (.lst (xs++[y])))
theorem il:CF X "list.append" qr:=by
  intro pins s σ H x vs v us Q I rx rv h
  obtain⟨l,xs,y,rfl,rfl,hH,hz,q⟩:=h
  cases rx
  obtain⟨u,rfl,ru⟩:=rv.one
  obtain⟨z,its,n,r,hl,e⟩:=I.lstM hH
  refine call_meets F.slot_list_append ⟨_,e,rfl⟩ F.entry_list_append (F.args_list_append_2 _ _) (PySem.list_append l its.toArray n u (by rw [List.size_toArray];lia)) ⟨e,?_⟩
  refine⟨.non,_,I.lset (its':=its++[u]) hH e (by simp) (r.append (.cons ru .nil)) ?_,rfl,q⟩
  rw [List.length_append,List.length_singleton]
  lia
def uj:V→List V→Hp→VK→Prop:=fun x vs H Q=>∃l xs i k y,x=.ref l∧vs=[.int i]∧H l=some (.lst xs)∧ -(2 ^ 63)≤i∧i < 2 ^ 63∧seqIndex? i xs.length=some k∧xs[k]?=some y∧Q y (aX H l (.lst (xs.eraseIdx k)))
theorem tu:CF X "list.pop" uj:=by
  intro pins s σ H x vs v us Q I rx rv h
  obtain⟨l,xs,i,k,y,rfl,rfl,hH,h1,h2,hk,hy,q⟩:=h
  cases rx
  obtain⟨u,rfl,ru⟩:=rv.one
  obtain⟨t,rfl⟩:=ru
  obtain⟨z,its,n,r,hl,e⟩:=I.lstM hH
  obtain⟨w,hw,rw'⟩:=r.get hy
  refine call_meets F.slot_list_pop ⟨_,e,rfl⟩ F.entry_list_pop (F.args_list_pop_2 _ _)
    (MeetsSeq.list_pop_at l its.toArray n i t k w (fitsIndex_both h1 h2) (by rw [List.size_toArray,←hl];exact hk) (by rw [←Array.getElem?_toList];exact hw) (by rw [List.size_toArray];lia)) ⟨e,?_⟩
  refine⟨y,_,I.lset (its':=its.eraseIdx k) hH e ?_ (r.eraseIdx k) ?_,rw',q⟩
  · show its.toArray.eraseIdxIfInBounds k=(its.eraseIdx k).toArray
    rw [List.eraseIdxIfInBounds_toArray]
  · have:=lM xs k
    lia
def zh:R2:=fun x y H Q=>∃l b xs zs,x=.ref l∧y=.ref b∧H l=some (.lst xs)∧H b=some (.lst zs)∧xs.length+zs.length≤sizeLine∧∀p,H p=none→Q (.ref p) (aX H p (.lst (xs++zs)))
theorem yz:fg X (binaryOp .Add) zh:=by
  intro pins s σ H x y v u Q I rx ry h
  obtain⟨l,b,xs,zs,rfl,rfl,hH,hB,hz,q⟩:=h
  cases rx
  cases ry
  obtain⟨z,its,n,r,hl,e⟩:=I.lstM hH
  obtain⟨z2,its2,n2,r2,hl2,e2⟩:=I.lstM hB
  refine PySem.P.add_list e e2 ?_ (by rw [List.size_toArray,List.size_toArray];lia)
  have ea:its.toArray++its2.toArray=(its++its2).toArray:=by simp
  rw [ea]
  exact⟨.ref _,_,I.lnew (t':=s.toks) (r.append r2) (by rw [List.length_append];lia),rfl,q _ I.fresh⟩
def zm:R2:=fun x y H Q=>∃l k xs,x=.ref l∧y=.int k∧H l=some (.lst xs)∧ -(2 ^ 63)≤k∧k < 2 ^ 63∧xs.length*k.toNat≤sizeLine∧
  ∀p,H p=none→Q (.ref p) (aX H p (.lst (List.replicate k.toNat xs).flatten))
theorem vq{α:Type}(xs:List α)(k:Nat):(List.replicate k xs).flatten.length=k*xs.length:=by
  induction k with
  | zero=>simp
  | succ k ih=>rw [List.replicate_succ,List.flatten_cons,List.length_append,ih,Nat.succ_mul,Nat.add_comm]
theorem yL:fg X (binaryOp .Mult) zm:=by
  intro pins s σ H x y v u Q I rx ry h
  obtain⟨l,k,xs,rfl,rfl,hH,h1,h2,hz,q⟩:=h
  cases rx
  obtain⟨t,rfl⟩:=ry
  obtain⟨z,its,n,r,hl,e⟩:=I.lstM hH
  have hlen:its.toArray.size*k.toNat≤sizeLine:=by rw [List.size_toArray,←hl];exact hz
  have hcap:¬its.toArray.size*k.toNat > (2 ^ 63 - 1) / 8:=by
    have:(sizeLine:Nat)≤(2 ^ 63 - 1) / 8:=by decide
    lia
  have hfit:¬(!Builtin.List.listFitsIndex k)=true:=by
    rw [fitsIndex_both h1 h2]
    exact Bool.false_ne_true
  have hlong:¬Builtin.List.listTooLong (its.toArray.size*k.toNat)=true:=by
    rw [tH hlen]
    exact Bool.false_ne_true
  have hnew:List.foldl (fun x1 x2=>x1++x2) #[] (List.replicate (if its.toArray.isEmpty=true then 0 else k.toNat) its.toArray)=(List.replicate k.toNat its).flatten.toArray:=by
    have f0:∀m:Nat,List.foldl (fun x1 x2=>x1++x2) #[] (List.replicate m its.toArray)=(List.replicate m its).flatten.toArray:=fun m=>by
      have:=lI its m []
      rw [List.nil_append] at this
      exact this
    rw [f0]
    cases its with
    | nil=>simp
    | cons a r'=>rw [if_neg (by simp)]
  refine wpAny_binaryOp_repeat_ref (T:="list") (U:="int") (by decide) ⟨_,e,rfl⟩ (fun s'=>typeIs_int s' k t) noFill_list_mul F.fills_int_mul F.slot_int_rmul repeat_list F.slot_int_index.lookup
    (call_meets F.slot_int_rmul (typeIs_int s k t) F.entry_int_rmul (F.args_int_rmul_2 _ _) (int___rmul___int_list k t l its.toArray n)
      ⟨e,rfl,⟨_,e,rfl⟩,call_meets F.slot_list_mul ⟨_,e,rfl⟩ F.entry_list_mul (F.args_list_mul_2 _ _) (AutoListH.list___mul___list_int_3 l its.toArray n k t hfit hcap hlong) ⟨e,?_⟩⟩)
  rw [hnew]
  exact⟨.ref _,_,I.lnew (t':=s.toks) (r.rep k.toNat) (by rw [vq,Nat.mul_comm];exact hz),rfl,q _ I.fresh⟩
end
section
variable{prog:Program}{w:World}{A:Around}{E:Value→Shared→Prop}{s:Shared}
end
section
variable{X:Cx}
end
end L2
namespace Att
open PySem PySem.W PySem.Calls PyProof.Rows
theorem j8{P:Params}{h:Heap}:∀(ns:List Int) (vs:List Value),WellAll P h vs (ns.map WData.int)→IntsAre vs ns:=by
  intro ns
  induction ns with
  | nil=>
    intro vs w
    rw [List.map_nil] at w
    cases w
    exact .nil
  | cons n ns ih=>
    intro vs w
    rw [List.map_cons] at w
    cases w with
    | cons a b=>
      cases a
      exact .cons _ _ (ih _ b)
theorem rB{l:OpenLaw}{n:Nat}(hn:l.most=some n){P:Params}{h:Heap}{args:List WData}{vals:List Value}
    (hpre:l.row.toRowW.claim.pre args=true)(hwl:WellAll P h vals args):
    ∃a vs ns,vals=[Value.ref a]∧args=[WData.list (ns.map WData.int)]∧h.get? a=some {cls:=.type "list",data:=.seq vs.toArray}∧IntsAre vs ns∧ns.length≤n:=by
  have hsh:WShape.hasAll [] args [.list .int]=true:=(pre_splitW hpre).1
  have hc:l.pre.holds [] {args:=args}=true:=(pre_splitW hpre).2
  obtain⟨d,r,rfl,h1,h2⟩:=hasAllW_cons hsh
  obtain rfl:=hasAllW_nil h2
  obtain⟨xs,rfl,h3⟩:=hasW_list h1
  obtain⟨ns,rfl⟩:=items_int h3
  have hlen:ns.length≤n:=by
    unfold OpenLaw.pre at hc
    have h4:(WTm.not (.lt (.lit (.int (n:Int))) (.len (.arg 0)))).holds [] {args:=[.list (ns.map .int)]}=true:=by
      have h4:=(holds_andW hc).1
      rw [hn] at h4
      exact h4
    have h5:=condW_of h4 (w_not (w_lt w_lit (w_len_list (w_arg rfl))))
    rw [List.length_map] at h5
    refine Nat.le_of_not_lt fun q=>?_
    have q':(n:Int) < ((ns.length:Nat):Int):=by lia
    first
      | (rw [decide_eq_true q'] at h5;exact absurd h5 (by decide))
      | (simp at h5;lia)
  cases hwl with
  | cons w1 w2=>
    cases w2
    cases w1 with
    | list ho hall=>exact⟨_,_,ns,rfl,rfl,ho,j8 ns _ hall,hlen⟩
theorem rp(l:OpenLaw)(args:List WData):l.row.toRowW.claim.post args (.bool true) args=true:=
  postW_of (r:=l.row.toRowW) (X:=(true==true))
    (show WShape.has [] (.bool true) .bool=true by first | rfl | decide | simp [WShape.has,WShape.arms,WShape.armsAll])
    (show(WTm.eq .res (.lit (.bool true))).value [] {args:=args,res:=some (.bool true),after:=args}=some (.bool (true==true)) from w_eq_bool (w_res rfl) w_lit) rfl
theorem attach_call{l:OpenLaw}{n:Nat}{q:Program}{loose:List Str}{XP:(Str→Option Value)→Heap→Prop}{YP:World→Heap→Prop}{d:DefRec}
    (hn:l.most=some n)(hdf:d.params.defaults=[])
    (call:∀(w:World) (s₀ s₁:Shared) (mg mb:Str→Option Value) (fa:Addr) (o:Obj) (pm cd doc:Value) (a:Addr) (vs:List Value) (ns:List Int),
      Ground q loose [] XP w s₀ mg mb s₁.heap→YP w s₁.heap→
      s₁.heap.get? fa=some o→o.data=.func (docDef d.name d.params d.body d.scope pm cd doc)→s₁.heap.CodeRec cd d.name→mg d.name=some (.ref fa)→
      s₁.heap.get? a=some {cls:=.type "list",data:=.seq vs.toArray}→IntsAre vs ns→ns.length≤n→s₁.gens=#[]→
      codeAny (model l.prog w) callerA (.call (.ref fa) ⟨[.ref a],[]⟩) (fun r s'=>r=.ok (.ret (.bool true))∧OldK s₁.heap s'.heap∧s'.os=s₁.os∧AllBare s'.gens) s₁):
    WalkO q loose XP YP l.row.toRowW d [] (fun f vs=>PySem.call f vs):=by
  intro w s₀ s₁ mg mb G Y fa o pm cd doc dV kV ho hd hcd hD hmg hg args vals as hpre hlay hrd hwl hlo
  obtain rfl:dV=.none:=Dflts.none hD hdf
  obtain rfl:kV=.none:=Dflts.noKw hD
  obtain⟨a,vs,ns,rfl,rfl,hobj,hints,hlen⟩:=rB hn hpre hwl
  refine enter_call (codeAny_mono (call w s₀ s₁ mg mb fa o pm cd doc a vs ns G Y ho (fd_plain hd) hcd hmg hobj hints hlen hg) fun r s' hq=>?_)
  obtain⟨rfl,h2,h3,h4⟩:=hq
  exact⟨.inl ⟨.bool true,.bool true,[],rfl,fun _=>rfl,.bool true,rp l _,fun _=>⟨List.Pairwise.nil,fun _ hm=>(nomatch hm)⟩⟩,h2,h3,h4⟩
section
variable{prog:Program}{w:World}{A:Around}{E:Value→Shared→Prop}{s:Shared}{K:Frag}
end
end Att
namespace L2
open PySem PySem.Spec PyProof.Rows
theorem lZ:∀{vs:List Value} {ns:List Int},IntsAre vs ns→aE (ns.map V.int) vs
  | _,_,.nil=>.nil
  | _,_,.cons n t h=>.cons ⟨t,rfl⟩ (lZ h)
def xJ(H:Hp):Prop:=∀b,H b=none∨∃o xs,H b=some (.frz o (.lst xs))
theorem sZ{P:Program}{w:World}{K:PySem.W.Frag}{mg mb:Str→Option Value}{CX:qL}{k:Nat}{fa a:Addr}{fd:FuncData}{x:Str}{sp:Sp}{s₁:Shared}{vs:List Value}{ns:List Int}
    (KX:K.In s₁.heap)(hns:s₁.heap.Ns mainGlobals mg)(hb:s₁.heap.Ns builtinsNs mb)(hbb:∀x:Str,x≠"__name__"→mb x=bootBuiltins x)(hlim:s₁.heap.NoLimit)(hg:s₁.gens=#[])
    (ha:s₁.heap.get? a=some {cls:=.type "list",data:=.seq vs.toArray})(hi:IntsAre vs ns)(hl:ns.length≤sizeLine)(hr:bX k callerA)
    (F:∀base:Heap,K.In base→base.Ns mainGlobals mg→aS P w K mg base CX k fa fd [x] sp)(hbind:∀(s:Shared) (u:Value),BindsTo s fd ⟨[u],[]⟩ [(x,u)])
    (hsp:∀H:Hp,xJ H→em K H a (ns.map V.int)→sp [.ref a] H (fun v _=>v=.bl true) fun _ _ _=>False)
    (hCX:∀H e s',CX [] H s₁ (fun _ _ _=>False) e s'→False):
    codeAny (model P w) callerA (.call (.ref fa) ⟨[.ref a],[]⟩) (fun r s'=>r=.ok (.ret (.bool true))∧OldK s₁.heap s'.heap∧s'.os=s₁.os∧AllBare s'.gens) s₁:=by
  have rv:=lZ hi
  have lenV:=hi.length
  have core:∀H:Hp,xJ H→em K H a (ns.map V.int)→jT P w H s₁.heap→(∀b,H b≠none→b=a)→(H a≠none→K.lookup a=none)→
      codeAny (model P w) callerA (.call (.ref fa) ⟨[.ref a],[]⟩) (fun r s'=>r=.ok (.ret (.bool true))∧OldK s₁.heap s'.heap∧s'.os=s₁.os∧AllBare s'.gens) s₁:=by
    intro H hO hS hok hA hK
    have base_of:∀{b:Addr} {o:Obj},s₁.heap.get? b=some o→H b=none→(mB s₁.heap H).get? b=some o:=fun e n=>sS e n
    have noA:∀{b:Addr} {o:Obj} {es:Array DictEntry} {ep:Nat},s₁.heap.get? b=some o→o.data=.dict es ep→H b=none:=fun{b o es ep} e d=>by
      cases q:H b with
      | none=>rfl
      | some u=>
        have e':b=a:=hA b (by rw [q];simp)
        subst e'
        rw [ha] at e;cases e
        have d':Data.seq vs.toArray _=Data.dict es ep:=d
        cases d'
    have nsK:∀{b:Addr} {m:Str→Option Value},s₁.heap.Ns b m→(mB s₁.heap H).Ns b m:=fun{b m} ⟨o,es,ep,e,d,r⟩=>⟨o,es,ep,base_of e (noA e d),d,r⟩
    have hKb:K.In (mB s₁.heap H):=fun b o e=>base_of (KX b o e) (by
      cases q:H b with
      | none=>rfl
      | some u=>
        have e':b=a:=hA b (by rw [q];simp)
        subst e'
        rw [hK (by rw [q];simp)] at e;cases e)
    have hM:Mod K mg (mB s₁.heap H):=⟨hKb,nsK hns,⟨mb,nsK hb,hbb⟩,let ⟨mc,h1,h2⟩:=hlim;⟨mc,nsK h1,h2⟩⟩
    have e0:uS P w K mg (mB s₁.heap H) callerA [] s₁ H:=⟨rfl,hM,fun b o e=>vB e,Nat.le_of_eq (qY _ _),trivial,fun b hb=>absurd (show b∈([]:List Addr) from hb) (by simp),hok,.of_eq hg⟩
    refine codeAny_mono ((F _ hKb (nsK hns)).run callerA [] s₁ H ⟨[.ref a],[]⟩ [.ref a] [.ref a] _ _ hr e0 (hbind s₁ (.ref a)) (.cons rfl .nil) (hsp H hO hS)) fun r s' h=>?_
    cases r with
    | error e=>exact(hCX H e s' h).elim
    | ok fl=>
      cases fl with
      | next=>exact False.elim h
      | brk=>exact False.elim h
      | cont=>exact False.elim h
      | ret u=>
        obtain⟨v,H',os,bare,un,hok',r',q⟩:=h
        have q':v=.bl true:=q
        subst q'
        obtain rfl:u=Value.bool true:=r'
        refine⟨rfl,OldK.of_keep fun b o e=>?_,os,bare⟩
        cases q:H b with
        | none=>exact un.keep b o e q (by intro z;exact absurd (show b∈([]:List Addr) from z) (by simp)) (by simp)
        | some u=>
          rcases hO b with z | ⟨ob,xs,z⟩
          · rw [q] at z;cases z
          · have z2:=un.frzs b ob _ z
            obtain⟨e1,_⟩:=hok b _ z
            obtain⟨e2,_⟩:=hok' b _ z2
            rw [e] at e1;cases e1
            exact e2
  cases hk:K.lookup a with
  | some o=>
    have e:=KX a o hk
    rw [ha] at e
    cases e
    refine core (fun _=>none) (fun _=>.inl rfl) (.inr ⟨_,vs.toArray,_,hk,rfl,rfl,rfl,by rw [List.size_toArray,lenV];exact hl,by simpa using rv⟩) (fun b u z=>by have z':(none:Option HO)=some u:=z;cases z') (fun b z=>absurd rfl z) fun z=>absurd rfl z
  | none=>
    refine core (fun b=>if b=a then some (.frz {cls:=.type "list",data:=.seq vs.toArray} (.lst (ns.map V.int))) else none) (fun b=>?_) (.inl (.inr ⟨{cls:=.type "list",data:=.seq vs.toArray},if_pos rfl⟩)) (fun b u z=>?_) (fun b z=>?_) fun _=>hk
    · by_cases hb:b=a
      · exact .inr ⟨_,_,if_pos hb⟩
      · exact .inl (if_neg hb)
    · by_cases hb:b=a
      · have z':=(if_pos hb).symm.trans z
        cases z'
        subst hb
        exact⟨ha,by rw [List.length_map];exact hl,vs,_,rv,ha⟩
      · have z':=(if_neg hb).symm.trans z
        cases z'
    · by_cases hb:b=a
      · exact hb
      · exact absurd (if_neg hb) z
end L2
namespace L2
open PySem PySem.Spec PyProof.Rows
theorem walk_of{l:PySem.W.OpenLaw}{n k:Nat}{q:Program}{loose:List Str}{XP:(Str→Option Value)→Heap→Prop}{YP:World→Heap→Prop}{d:DefRec}{K:Params→PySem.W.Frag}{CX:World→qL}{sp:World→Sp}{x:Str}
    (hn:l.most=some n)(hn2:n≤sizeLine)(hdf:d.params.defaults=[])(hr:bX k callerA)
    (hY:∀(w:World) (h:Heap),YP w h→(K w.params).In h)
    (F:∀(w:World) (mg:Str→Option Value) (fa:Addr) (h:Heap),(K w.params).In h→h.Ns mainGlobals mg→mg d.name=some (.ref fa)→
      ∃fd:FuncData,(∀(s:Shared) (u:Value),BindsTo s fd ⟨[u],[]⟩ [(x,u)])∧
        ∀base:Heap,(K w.params).In base→base.Ns mainGlobals mg→aS l.prog w (K w.params) mg base (CX w) k fa fd [x] (sp w))
    (hsp:∀(w:World) (H:Hp) (a:Addr) (ns:List Int),ns.length≤n→xJ H→em (K w.params) H a (ns.map V.int)→sp w [.ref a] H (fun v _=>v=.bl true) fun _ _ _=>False)
    (hCX:∀(w:World) (H:Hp) (s:Shared) (e:Value) (s':Shared),CX w [] H s (fun _ _ _=>False) e s'→False):
    PySem.W.WalkO q loose XP YP l.row.toRowW d [] (fun f vs=>PySem.call f vs):=by
  refine Att.attach_call hn hdf fun w s₀ s₁ mg mb fa o pm cd doc a vs ns G Y ho hd hcd hmg hobj hints hlen hg=>?_
  have KX:=hY w _ Y
  obtain⟨fd,hb,hF⟩:=F w mg fa _ KX G.T.g hmg
  exact sZ KX G.T.g G.T.b G.T.builtins G.T.nolimit hg hobj hints (Nat.le_trans hlen hn2) hr hF hb (fun H hO hS=>hsp w H a ns hlen hO hS) fun H e s'=>hCX w H s₁ e s'
end L2
namespace L2
open PySem PySem.Spec PyProof.Rows
def dA(s:Stmt):Arguments:=match s with
  | .FunctionDef _ a _ _ _ _ _ _ _ _=>a
  | _=>{posonlyargs:=[],args:=[],vararg:=none,kwonlyargs:=[],kw_defaults:=[],kwarg:=none,defaults:=[]}
def cH(s:Stmt):List Stmt:=match s with
  | .FunctionDef _ _ b _ _ _ _ _ _ _=>b
  | _=>[]
def aj(s:Stmt):Scope:=match s with
  | .FunctionDef _ _ _ _ _ _ sc _ _ _=>sc
  | _=>{kind:=.function,names:=[],isGenerator:=false,isCoroutine:=false}
abbrev du:qL:=fun _ _ _ _ _ _=>False
abbrev E0:XK:=fun _ _ _=>False
theorem AK{X:Cx}:oR du X E0:=fun _ _ _ _ _ _ _ h=>h.elim
structure zL (K:PySem.W.Frag) (x qual:Str) (st:Stmt) (f:Addr) (fd:FuncData):Prop where
  ex:∃(oc:Value) (od:Option Addr) (kV doc pm:Value) (an:Option Addr) (cdv ct:Value) (osl:Array (Option Value)),
    fd=PySem.W.fnOf x qual (dA st) (cH st) (aj st) .none kV doc pm an cdv ct∧K.lookup f=some ⟨oc,od,.func fd,osl⟩∧PySem.W.codeIn K cdv qual=true
  kp:PySem.W.keepIn K (.ref f)=true
section
variable{P:Program}{w:World}{K:PySem.W.Frag}{mg:Str→Option Value}{base:Heap}
theorem zL.ok{x qual:Str}{st:Stmt}{f:Addr}{fd:FuncData}{N ps:List Str}{k:Nat}{sp:Sp}(F:zL K x qual st f fd)(S:aM N ps (aj st))(len:∀vs H Q E,sp vs H Q E→vs.length=ps.length)
    (hbody:∀(cdv:Value) (A:Around) (outer:List Env) (s:Shared) (H:Hp) (vs:List V) (Q:VK) (E:XK),bX k (A.deeper (envOfC qual (aj st) s.heap.objs.size f cdv))→sp vs H Q E→
      ∃t,j7 (oW du P w K mg base N qual (aj st) f cdv A outer s H E).nox (cH st) t∧t {nx:=fun _ H'=>Q .non H',rt:=Q} (start N vs) H):aS P w K mg base du (k+1) f fd ps sp:=by
  obtain⟨oc,od,kV,doc,pm,an,cdv,ct,osl,rfl,lk,hcd⟩:=F.ex
  refine Ag lk hcd S len fun A outer s H vs Q E hr hsp=>?_
  obtain⟨t,h,q⟩:=hbody cdv A outer s H vs Q E hr hsp
  exact⟨t,h.nox,q⟩
theorem zL.binds{x qual:Str}{st:Stmt}{f:Addr}{fd:FuncData}{ps:List Str}(F:zL K x qual st f fd)
    (h:∀(kV doc pm:Value) (an:Option Addr) (cdv ct:Value) (us:List Value),us.length=ps.length→bindArgs (PySem.W.fnOf x qual (dA st) (cH st) (aj st) .none kV doc pm an cdv ct) ⟨us,[]⟩=pure (ps.zip us)):lx K fd ps []:=by
  obtain⟨oc,od,kV,doc,pm,an,cdv,ct,osl,rfl,lk,hcd⟩:=F.ex
  exact .all (h kV doc pm an cdv ct)
theorem sA{x qual:Str}{st:Stmt}{f:Addr}{oc:Value}{od an:Option Addr}{osl:Array (Option Value)}{kV doc pm cdv ct:Value}(l:K.lookup f=some ⟨oc,od,.func (PySem.W.fnOf x qual (dA st) (cH st) (aj st) .none kV doc pm an cdv ct),osl⟩)
    (c:PySem.W.codeIn K cdv qual=true)(k:PySem.W.keepIn K (.ref f)=true):zL K x qual st f (PySem.W.fnOf x qual (dA st) (cH st) (aj st) .none kV doc pm an cdv ct):=⟨⟨oc,od,kV,doc,pm,an,cdv,ct,osl,rfl,l,c⟩,k⟩
end
theorem lV{n:Nat}(h:n≤1000):n < sizeLine:=Nat.lt_of_le_of_lt h (by decide)
section
variable{X:Cx}
end
theorem sX{A B:Prop}(h:B):if false=true then A else B:=by
  rw [if_neg Bool.false_ne_true]
  exact h
theorem sY{A B:Prop}(h:A):if true=true then A else B:=by
  rw [if_pos rfl]
  exact h
def av(H H':Hp):Prop:=∀b o,H b=some o→H' b=some o
theorem av.refl(H:Hp):av H H:=fun _ _ h=>h
theorem av.trans{H H1 H2:Hp}(a:av H H1)(b:av H1 H2):av H H2:=fun c o h=>b c o (a c o h)
theorem av.free{H H':Hp}(e:av H H'){l:Addr}(h:H' l=Option.none):H l=Option.none:=by
  cases q:H l with
  | none=>rfl
  | some o=>
    rw [e l o q] at h
    cases h
theorem av.seq{K:PySem.W.Frag}{H H':Hp}{a:Addr}{xs:List V}(e:av H H')(h:em K H a xs):em K H' a xs:=by
  rcases h with (h | ⟨o,h⟩) | h
  · exact .inl (.inl (e _ _ h))
  · exact .inl (.inr ⟨o,e _ _ h⟩)
  · exact .inr h
end L2
set_option maxHeartbeats 4000000
namespace L2
open PySem PySem.Spec PyProof.Rows
def Bt(n:Nat)(i:Int):Prop:=i.natAbs < 2 ^ n
theorem Bt.mono{m n:Nat}{i:Int}(h:Bt m i)(hm:m≤n):Bt n i:=Nat.lt_of_lt_of_le h (Nat.pow_le_pow_right (by decide) hm)
theorem Bt.log{m:Nat}{i:Int}(h:Bt m i)(hm:0 < m):i.natAbs.log2 < m:=by
  unfold Bt at h
  rcases Nat.eq_zero_or_pos i.natAbs with h0 | hp
  · rw [h0];exact hm
  · exact(Nat.log2_lt (by lia)).mpr h
theorem Bt.bits{m:Nat}{i:Int}(h:Bt m i)(hm:0 < m):Builtin.Int.intBits i≤m:=by
  unfold Builtin.Int.intBits
  split
  · exact Nat.zero_le _
  · exact h.log hm
theorem Bt.of_le{m:Nat}{i:Int}{j:Int}(h:Bt m j)(e:i.natAbs≤j.natAbs):Bt m i:=Nat.lt_of_le_of_lt e h
section
variable{X:Cx}
def wN(i j:Int):Prop:=Bt 4000 i∧Bt 4000 j
theorem vO:fg X (binaryOp .Mult) (rI wN fun i j=>.int (i*j)):=AE fun _ _ _ _ _ _ _ hc q=>
  mul_int q (.of_bits (Nat.le_trans (hc.1.bits (by decide)) (by decide)) (Nat.le_trans (hc.2.bits (by decide)) (by decide)))
def wM(i j:Int):Prop:=j≠0∧Bt 8000 j
theorem tL:fg X (binaryOp .FloorDiv) (rI wM fun i j=>.int (i.fdiv j)):=AE fun _ _ _ _ _ _ _ hc q=>
  floordiv_int hc.1 q (.inl (PyProof.noPylong_of_log2 (Nat.lt_trans (hc.2.log (by decide)) (by decide))))
def Cp(K:PySem.W.Frag):R2:=fun x y H Q=>∃a b xs,x=.ref a∧y=.ref b∧em K H a xs∧em K H b []∧Q (.bl xs.isEmpty) H
theorem yB(hu:X.A.units < cLine):fg X (compareOp .Eq) (Cp X.K):=by
  intro pins s σ H x y v u Q I rx ry h
  obtain⟨a,b,xs,rfl,rfl,ha,hb,q⟩:=h
  cases rx
  cases ry
  obtain⟨its,r,p,hz⟩:=I.list ha
  obtain⟨its2,r2,p2,hz2⟩:=I.list hb
  cases r2
  cases r with
  | nil=>
    refine SeqAt.eq_listAt (e:=fun _=>true) p.isList p2.isList rfl hu (fun j h1 h2=>by simp at h1) ?_
    exact⟨.bl true,H,I,rfl,q⟩
  | cons r rr=>
    refine SeqAt.eq_list_lengthsAt p.isList p2.isList (by simp) hu ?_
    exact⟨.bl false,H,I,rfl,q⟩
theorem yF:fg X (compareOp .Is) (fun x y H Q=>∃b c,x=.bl b∧y=.bl c∧Q (.bl (b==c)) H):=by
  intro pins s σ H x y v u Q I rx ry h
  obtain⟨b,c,rfl,rfl,q⟩:=h
  cases rx;cases ry
  exact is_bool ⟨.bl _,H,I,rfl,q⟩
end
def jU(H H':Hp):Prop:=∀a o,H a=some o→(∀xs,o≠.lst xs)→(∀ob xs,o≠.frz ob (.lst xs))→H' a=some o
theorem jU.trans{H H1 H2:Hp}(a:jU H H1)(b:jU H1 H2):jU H H2:=fun c o h n m=>b c o (a c o h n m) n m
theorem av.ts{H H':Hp}(h:av H H'):jU H H':=fun a o e _ _=>h a o e
theorem jU.tup{K:PySem.W.Frag}{H H':Hp}(h:jU H H'){a:Addr}{xs:List V}(q:dQ K H a xs):dQ K H' a xs:=by
  rcases q with (q | ⟨o,q⟩) | q
  · exact .inl (.inl (h _ _ q (fun _ e=>nomatch e) (fun _ _ e=>nomatch e)))
  · exact .inl (.inr ⟨o,h _ _ q (fun _ e=>nomatch e) (fun _ _ e=>nomatch e)⟩)
  · exact .inr q
section
variable{X:Cx}
end
end L2
namespace L2
open PySem PySem.Spec PyProof.Rows
structure bQ (K:PySem.W.Frag) (mg:Str→Option Value) (x:Str) (st:Stmt) (f:Addr) (fd:FuncData) (ps:List Str):Prop where
  F:zL K x x st f fd
  m:mg x=some (.ref f)
  b:lx K fd ps []
theorem x9{K:PySem.W.Frag}{mg:Str→Option Value}{h:Heap}{x:Str}{st:Stmt}{f:Addr}{ps:List Str}{oc:Value}{od an:Option Addr}{osl:Array (Option Value)}{kV doc pm cdv ct:Value}(X:K.In h)(G:h.Ns mainGlobals mg)(a:PySem.W.nsIn K mainGlobals x=some (some (.ref f)))
    (l:K.lookup f=some ⟨oc,od,.func (PySem.W.fnOf x x (dA st) (cH st) (aj st) .none kV doc pm an cdv ct),osl⟩)(c:PySem.W.codeIn K cdv x=true)(k:PySem.W.keepIn K (.ref f)=true)
    (hb:∀(kV doc pm:Value) (an:Option Addr) (cdv ct:Value) (us:List Value),us.length=ps.length→bindArgs (PySem.W.fnOf x x (dA st) (cH st) (aj st) .none kV doc pm an cdv ct) ⟨us,[]⟩=pure (ps.zip us)):
    bQ K mg x st f (PySem.W.fnOf x x (dA st) (cH st) (aj st) .none kV doc pm an cdv ct) ps:=⟨sA l c k,PySem.W.mg_of X G a,(sA l c k).binds hb⟩
theorem Cm{X:Cx}{x:Str}{st:Stmt}{f:Addr}{fd:FuncData}{ps:List Str}{k:Nat}{sp:Sp}{e:Expr}{es:List Expr}{t:TA}{p pos:Pos}(h:bQ X.K X.mg x st f fd ps)(G:aS X.prog X.w X.K X.mg X.base du k f fd ps sp)(hr:bX k X.A)(ha:PA X (e::es) t)
    (hg:Gl X x:=by rfl)(hdb:(x==("__debug__":Str))=false:=by decide)(he:starEach (e::es) X.env=(false,eval e X.env)::starEach es X.env:=by rfl)(hpl:(backTo pos (starEach es X.env)).any (·.1)=false:=by rfl):
    PE X (.Call (.Name x p) (e::es) [] pos) (uC sp [] E0 t):=vQ G hr hg h.m h.F.kp h.b .nil AK ha hdb he hpl
theorem av.new{H:Hp}{p:Addr}{o:HO}(h:H p=none):av H (aX H p o):=fun b u e=>by
  rw [aJ (d7 e h)];exact e
theorem av.tup{K:PySem.W.Frag}{H H':Hp}{a:Addr}{xs:List V}(e:av H H')(h:dQ K H a xs):dQ K H' a xs:=e.ts.tup h
end L2
namespace L2
open PySem PySem.Spec PyProof.Rows
def eA(t b:Int):Int × Int:=if b < 0 then(t.fdiv (-(Int.gcd t b:Int)),b.fdiv (-(Int.gcd t b:Int))) else(t.fdiv (Int.gcd t b:Int),b.fdiv (Int.gcd t b:Int))
theorem sQ(x y:Int):Int.gcd y (x.fmod y)=Int.gcd x y:=by
  rw [Int.fmod_def,Int.gcd_sub_mul_left_right,Int.gcd_comm]
theorem jZ(x:Int){y:Int}(h:y≠0):(x.fmod y).natAbs < y.natAbs:=by
  rcases Int.lt_or_gt_of_ne h with h | h
  · have h1:x.fmod y= -((-x).fmod (-y)):=by
      have:=Int.neg_fmod_neg x y
      lia
    have h2:=Int.fmod_nonneg_of_pos (-x) (b:= -y) (by lia)
    have h3:=Int.fmod_lt_of_pos (-x) (b:= -y) (by lia)
    lia
  · have h2:=Int.fmod_nonneg_of_pos x h
    have h3:=Int.fmod_lt_of_pos x h
    lia
theorem qg{t b:Int}(h:b≠0):(0:Int) < Int.gcd t b:=by
  have:=Int.gcd_pos_of_ne_zero_right t h
  lia
theorem lN{t b:Int}(h:b≠0):∃d:Int,d.natAbs=Int.gcd t b∧d≠0∧(eA t b).1*d=t∧(eA t b).2*d=b∧0 < (eA t b).2:=by
  have hg:=qg (t:=t) h
  have d1:(Int.gcd t b:Int) ∣ t:=Int.gcd_dvd_left ..
  have d2:(Int.gcd t b:Int) ∣ b:=Int.gcd_dvd_right ..
  unfold eA
  split
  · rename_i hb
    have e1:t.fdiv (-(Int.gcd t b:Int))*(-(Int.gcd t b:Int))=t:=Int.fdiv_mul_cancel (Int.neg_dvd.mpr d1)
    have e2:b.fdiv (-(Int.gcd t b:Int))*(-(Int.gcd t b:Int))=b:=Int.fdiv_mul_cancel (Int.neg_dvd.mpr d2)
    refine⟨-(Int.gcd t b:Int),by lia,by lia,e1,e2,?_⟩
    show 0 < b.fdiv (-(Int.gcd t b:Int))
    have h3:b.fdiv (-(Int.gcd t b:Int))*(Int.gcd t b:Int)= -b:=by rw [Int.mul_neg] at e2;lia
    exact Int.pos_of_mul_pos_left (by lia) (by lia) (b:=(Int.gcd t b:Int))
  · rename_i hb
    have e1:t.fdiv (Int.gcd t b:Int)*(Int.gcd t b:Int)=t:=Int.fdiv_mul_cancel d1
    have e2:b.fdiv (Int.gcd t b:Int)*(Int.gcd t b:Int)=b:=Int.fdiv_mul_cancel d2
    refine⟨(Int.gcd t b:Int),by lia,by lia,e1,e2,?_⟩
    show 0 < b.fdiv (Int.gcd t b:Int)
    exact Int.pos_of_mul_pos_left (by lia) (by lia) (b:=(Int.gcd t b:Int))
theorem tq{t b:Int}(h:b≠0):Int.gcd (eA t b).1 (eA t b).2=1:=by
  obtain⟨d,h1,h2,h3,h4,h5⟩:=lN (t:=t) h
  have e:Int.gcd ((eA t b).1*d) ((eA t b).2*d)=Int.gcd (eA t b).1 (eA t b).2*d.natAbs:=Int.gcd_mul_right ..
  rw [h3,h4,←h1] at e
  have hd:0 < d.natAbs:=by lia
  exact(Nat.eq_of_mul_eq_mul_right hd (by rw [Nat.one_mul];exact e)).symm
theorem x8{t b:Int}(h:b≠0){n:Nat}(hb:Bt n b):Bt n (Int.gcd t b:Int):=by
  refine hb.of_le ?_
  have h1:=Nat.le_of_dvd (show 0 < b.natAbs by lia) (Int.ofNat_dvd.mp (by rw [Int.dvd_natAbs];exact Int.gcd_dvd_right t b))
  lia
mutual
def cnt:PyData→Nat
  | .tuple ds=>1+iF ds
  | .str _=>0
  | _=>1
def iF:List PyData→Nat
  | []=>0
  | d::ds=>cnt d+iF ds
end
mutual
def kJ:PyData→Bool
  | .tuple ds=>fR ds
  | .str _=>false
  | .list _=>false
  | .dict _=>false
  | _=>true
def fR:List PyData→Bool
  | []=>true
  | d::ds=>kJ d&&fR ds
end
theorem li{a:Int}(h:a.natAbs.log2 < 1920):(Str.ofString (toString a)).length≤1921:=by
  have e:=int_text_length_le (k:=1920) (by decide) h
  rw [PySem.ofString_length];lia
theorem pj(x:Str)(r:List Str):piled (x::r)=x.length+2+piled r:=by
  simp [piled]
theorem rH(ts:List Str):(tupleText ts).length≤piled ts+3:=by
  unfold tupleText
  rw [strLen_append,strLen_append]
  have h1:(("(":Str)).length=1:=by decide
  have h2:(Str.ofString (if (ts.length==1)=true then ",)" else ")")).length≤2:=by split<;>decide
  have h3:(Str.join ", " ts).length≤piled ts:=by
    cases ts with
    | nil=>show(Str.join ", " []).length≤0;decide
    | cons x r=>have:=join_length_add (x::r) (by simp);lia
  lia
mutual
theorem lU:∀{d:PyData},kJ d=true→d.showable=true→d.shown.length+2≤2000*cnt d
  | .none,_,_=>by show(Str.ofString "None").length+2≤2000*1;decide
  | .bool b,_,_=>by
    cases b
    · show(Str.ofString "False").length+2≤2000*1;decide
    · show(Str.ofString "True").length+2≤2000*1;decide
  | .int i,_,hs=>by
    simp only [PyData.showable,decide_eq_true_eq] at hs
    have:=li hs
    show(Str.ofString (toString i)).length+2≤2000*1
    lia
  | .tuple ds,hn,hs=>by
    simp only [PyData.showable] at hs
    simp only [kJ] at hn
    have h1:=jn hn hs
    have h2:=rH (PyData.shownAll ds)
    simp only [PyData.shown,cnt]
    lia
  | .str _,hn,_=>by simp [kJ] at hn
  | .list _,hn,_=>by simp [kJ] at hn
  | .dict _,hn,_=>by simp [kJ] at hn
theorem jn:∀{ds:List PyData},fR ds=true→PyData.showableAll ds=true→piled (PyData.shownAll ds)≤2000*iF ds
  | [],_,_=>by simp [PyData.shownAll,piled]
  | d::ds,hn,hs=>by
    simp only [fR,Bool.and_eq_true] at hn
    simp only [PyData.showableAll,Bool.and_eq_true] at hs
    have h1:=lU hn.1 hs.1
    have h2:=jn hn.2 hs.2
    simp only [PyData.shownAll,iF,pj]
    lia
end
end L2
namespace L2
open PySem PySem.Spec PyProof.Rows
def eS(env:Env):List (Str × NameKind)→List (Str × Addr)→List (Str × Addr)
  | [],cs=>cs
  | (n,k)::r,cs=>eS env r (if k==.free then(n,(env.cells.lookup n).getD 0)::cs else cs)
theorem iY{env:Env}:∀(names:List (Str × NameKind)) (cs:List (Str × Addr)),(∀y∈names,y.2=.free→∃c,env.cells.lookup y.1=some c)→
    (forIn names cs (fun(x:Str × NameKind) (r:List (Str × Addr))=>(if (x.2==NameKind.free)=true then do let a ←cellOf env x.1;pure (ForInStep.yield ((x.1,a)::r)) else pure (ForInStep.yield r):Sem (ForInStep (List (Str × Addr))))):Sem (List (Str × Addr)))=pure (eS env names cs)
  | [],cs,_=>rfl
  | (n,k)::r,cs,h=>by
    rw [List.forIn_cons]
    have ih:=fun cs'=>iY (env:=env) r cs' (fun y hy=>h y (List.mem_cons_of_mem _ hy))
    by_cases hk:(k==NameKind.free)=true
    · have hk':k=.free:=by simpa using hk
      obtain⟨c,hc⟩:=h (n,k) List.mem_cons_self hk'
      have e:cellOf env n=pure c:=by unfold cellOf;rw [hc]
      simp only [hk,if_true,e,pure_bind,eS,hc,Option.getD_some]
      exact ih _
    · have hk':(k==NameKind.free)=false:=by simpa using hk
      simp only [hk',Bool.false_eq_true,if_false,pure_bind,eS]
      exact ih _
theorem iE{scope:Scope}{env:Env}(h:∀y∈scope.names,y.2=.free→∃c,env.cells.lookup y.1=some c):closureFor scope env=pure (eS env scope.names []):=by
  have e:=iY (env:=env) scope.names [] h
  unfold closureFor
  simp only [pure_bind,bind_pure] at e ⊢
  exact e
theorem f9{env:Env}:∀(names:List (Str × NameKind)) (cs:List (Str × Addr)) (x:Str) (c:Addr),(∀y∈names,y.2=.free→∃c,env.cells.lookup y.1=some c)→(∀x c,cs.lookup x=some c→env.cells.lookup x=some c)→(eS env names cs).lookup x=some c→env.cells.lookup x=some c
  | [],cs,x,c,_,hs,h=>hs x c h
  | (n,k)::r,cs,x,c,hn,hs,h=>by
    refine f9 r _ x c (fun y hy=>hn y (List.mem_cons_of_mem _ hy)) (fun x' c' e=>?_) h
    by_cases hk:(k==NameKind.free)=true
    · rw [if_pos hk] at e
      obtain⟨c0,hc⟩:=hn (n,k) List.mem_cons_self (by simpa using hk)
      rw [List.lookup_cons] at e
      cases hx:x'==n with
      | true=>
        rw [hx] at e
        have e1:x'=n:=by simpa using hx
        subst e1
        simp only [hc,Option.getD_some,Option.some.injEq] at e
        rw [←e];exact hc
      | false=>rw [hx] at e;exact hs x' c' e
    · rw [if_neg hk] at e
      exact hs x' c' e
theorem iX{env:Env}:∀(names:List (Str × NameKind)) (cs:List (Str × Addr)) (x:Str),((∃y∈names,y.1=x∧y.2=.free)∨∃c,cs.lookup x=some c)→∃c,(eS env names cs).lookup x=some c
  | [],cs,x,h=>by
    rcases h with ⟨y,hy,_⟩ | h
    · cases hy
    · exact h
  | (n,k)::r,cs,x,h=>by
    refine iX r _ x ?_
    by_cases hk:(k==NameKind.free)=true
    · rw [if_pos hk,List.lookup_cons]
      cases hx:x==n with
      | true=>exact .inr ⟨_,rfl⟩
      | false=>
        rcases h with ⟨y,hy,e1,e2⟩ | h
        · rcases List.mem_cons.mp hy with z | z
          · subst z;subst e1;simp at hx
          · exact .inl ⟨y,z,e1,e2⟩
        · exact .inr h
    · rw [if_neg hk]
      rcases h with ⟨y,hy,e1,e2⟩ | h
      · rcases List.mem_cons.mp hy with z | z
        · subst z;exact absurd (by simpa using e2) hk
        · exact .inl ⟨y,z,e1,e2⟩
      · exact .inr h
theorem bW{env:Env}:∀{names:List (Str × NameKind)} {x:Str},(∀y∈names,y.2≠.cell)→(names.map fun(n,k)=>if (k==NameKind.free&&env.scope.kind==.function&&env.kindOf n==some .cell) then(n,NameKind.cell) else(n,k)).lookup x=some .cell∨
    (names.map fun(n,k)=>if (k==NameKind.free&&env.scope.kind==.function&&env.kindOf n==some .cell) then(n,NameKind.cell) else(n,k)).lookup x=some .free→∃y∈names,y.1=x∧y.2=.free
  | [],x,_,h=>by simp at h
  | (n,k)::r,x,hc,h=>by
    have ih:=@bW env r x (fun y hy=>hc y (List.mem_cons_of_mem _ hy))
    have nc:k≠.cell:=hc (n,k) List.mem_cons_self
    rw [List.map_cons] at h
    cases hx:x==n with
    | true=>
      have e1:x=n:=by simpa using hx
      subst e1
      refine⟨(x,k),List.mem_cons_self,rfl,?_⟩
      by_cases q:(k==NameKind.free&&env.scope.kind==.function&&env.kindOf x==some .cell)=true
      · simp only [Bool.and_eq_true,beq_iff_eq] at q;exact q.1.1
      · simp only [q,Bool.false_eq_true,if_false,List.lookup_cons,beq_self_eq_true,Option.some.injEq] at h
        rcases h with h | h
        · exact absurd h nc
        · exact h
    | false=>
      have e2:∀(l:List (Str × NameKind)),((if (k==NameKind.free&&env.scope.kind==.function&&env.kindOf n==some .cell)=true then(n,NameKind.cell) else(n,k))::l).lookup x=l.lookup x:=fun l=>by
        split<;>simp [List.lookup_cons,hx]
      simp only [e2] at h
      obtain⟨y,hy,z⟩:=ih h
      exact⟨y,List.mem_cons_of_mem _ hy,z⟩
theorem dj{env:Env}:∀{names:List (Str × NameKind)} {x:Str},names.lookup x=some .free→
    (names.map fun(n,k)=>if (k==NameKind.free&&env.scope.kind==.function&&env.kindOf n==some .cell) then(n,NameKind.cell) else(n,k)).lookup x≠some .local
  | [],x,h=>by simp at h
  | (n,k)::r,x,h=>by
    rw [List.map_cons]
    cases hx:x==n with
    | true=>
      simp only [hx,List.lookup_cons] at h
      cases h
      show List.lookup x ((if (NameKind.free==NameKind.free&&env.scope.kind==.function&&env.kindOf n==some .cell)=true then(n,NameKind.cell) else(n,NameKind.free))::_)≠_
      split<;>simp [List.lookup_cons,hx]
    | false=>
      simp only [hx,List.lookup_cons] at h
      have ih:=@dj env r x h
      have e2:∀(l:List (Str × NameKind)),((if (k==NameKind.free&&env.scope.kind==.function&&env.kindOf n==some .cell)=true then(n,NameKind.cell) else(n,k))::l).lookup x=l.lookup x:=fun l=>by
        split<;>simp [List.lookup_cons,hx]
      simp only [e2]
      exact ih
def ao(X:Cx)(scope:Scope)(cp:List (Nat × Str))(tgN:List Str)(C:Addr)(s0:Shared)(H0:Hp)(fp:List Addr):Cx where
  prog:=X.prog
  w:=X.w
  K:=X.K
  mg:=X.mg
  base:=X.base
  A:=X.A
  N:=cp.map (·.2)++tgN
  s₀:=s0
  H₀:=H0
  env:=compEnvC scope (eS X.env scope.names []) C X.env
  outer:=X.stack
  stack:=X.stack
  ex:=fp
  fn:=fun x=>scope.names.lookup x==some .local
  calm:=X.calm
  pn:=[]
  xe:=fun _ _=>False
def mZ(X:Cx)(ifs:List Expr)(t:TT):Prop:=
  ∀(pins:List (Addr × Obj)) (s:Shared) (σ:L2.St) (H:Hp) (Q:Bool→Hp→Prop),au X pins σ H s→t σ H Q→
    wpAny (model X.prog X.w) X.A (forIn ifs true fun c r=>if r=true then do let ok ←isTrue c X.env (eval c X.env);pure (ForInStep.yield ok) else pure (ForInStep.yield r)) (TP X pins σ Q) X.xe s
theorem wg{X:Cx}:mZ X [] (fun _ H Q=>Q true H):=fun _ _ _ H _ I h=>wpAny_tests_nil ⟨H,I,h⟩
theorem wj{X:Cx}{c:Expr}{t:TT}(h:PT X c t):mZ X [c] t:=fun pins s σ H Q I q=>wpAny_tests_one (h pins s σ H Q I q)
abbrev qo:Value→Shared→Prop:=fun _ _=>False
def sr(prog:Program)(w:World)(A:Around)(elt tg:Expr)(ifs:List Expr)(env:Env)(it acc:Value)(onward:Shared→Prop)(v:Value)(u:Shared):Prop:=
  wpAny (model prog w) A (letOwnedTupleGo tg it v) (fun _ u1=>wpAny (model prog w) A (assign tg env v) (fun _ u2=>wpAny (model prog w) A
    (forIn ifs true fun c r=>if r=true then do let ok ←isTrue c env (eval c env);pure (ForInStep.yield ok) else pure (ForInStep.yield r)) (fun ok u3=>if ok=true then wpAny (model prog w) A (eval elt env) (fun x u4=>wpAny (model prog w) A (call (.builtin "list.append") [acc,x]) (fun _ u5=>onward u5) qo u4) qo u3 else onward u3) qo u2) qo u1) qo u
theorem iZ{prog:Program}{w:World}{A:Around}{R:Result→Shared→Prop}{elt tg iter:Expr}{ifs:List Expr}{scope:Scope}{pos:Pos}{it acc:Value}{env:Env}(J:Nat→Shared→Prop)
    (turn:∀n u,J n u→wpAny (model prog w) A (pyNext it) (fun r u1=>(r=none→R (.ok .next) u1)∧∀v,r=some v→sr prog w A elt tg ifs env it acc (fun u2=>∃m,m < n∧J m u2) v u1) qo u){n0:Nat}{u0:Shared}(start:J n0 u0):
    codeAny (model prog w) A (.compLoop (.ListComp elt [⟨tg,iter,ifs,0⟩] scope pos) 0 it acc env) R u0:=by
  refine codeAny_loop rfl J (fun n u ju=>?_) n0 start
  show wpAny _ A ((compTurn (.ListComp elt [⟨tg,iter,ifs,0⟩] scope pos) 0 it acc env).onRaise _) _ _ u;refine wpAny_noted ?_;rw [compTurn_list]
  refine wpAny_bind (wpAny_standAt (wpAny_bind (wpAny_mono (turn n u ju) (fun r u1 k1=>?_) fun _ _ z=>z.elim)))
  cases r with
  | none=>exact wpAny_pure (k1.1 rfl)
  | some v=>
    refine wpAny_bind (wpAny_mono (k1.2 v rfl) (fun _ u2 k2=>wpAny_bind (wpAny_mono k2 (fun _ u3 k3=>wpAny_bind (wpAny_mono k3 (fun ok u4 k4=>?_) fun _ _ z=>z.elim)) fun _ _ z=>z.elim)) fun _ _ z=>z.elim)
    cases ok with
    | false=>rw [if_neg Bool.false_ne_true] at k4;exact wpAny_pure ⟨rfl,k4⟩
    | true=>
      rw [if_pos rfl] at k4
      refine wpAny_bind (wpAny_bind (wpAny_mono k4 (fun x u5 k5=>wpAny_bind (wpAny_mono k5 (fun _ u6 k6=>?_) fun _ _ z=>z.elim)) fun _ _ z=>z.elim));exact wpAny_pure (wpAny_pure ⟨rfl,k6⟩)
def c9(cp:List (Nat × Str))(nT:Nat)(σ:L2.St):L2.St:=cp.map (fun p=>(σ[p.1]?).join)++List.replicate nT none
structure oC (cp:List (Nat × Str)) (nT:Nat) (wi:TI) (g:TG) (tc:TT) (te:TE) (σ:L2.St) (H:Hp) (Q:VK):Prop where
  go:wi σ H fun J H1=>∀l,H1 l=none→
  ∃W:Nat→Nat→L2.St→Hp→Prop,(∃m,W 0 m (c9 cp nT σ) (aX H1 l (.lst [])))∧∀i m σ' H',W i m σ' H'→
    (J.stop i H'∧Q (.ref l) H')∨(J.go i H'∧∃N:L2.St→Hp→Prop,(∀σ2 H2,N σ2 H2→∃m',m' < m∧W (i+1) m' σ2 H2)∧
      ∀x H2,J.yld i H' x H2→g x σ' H2 fun σ2 H3=>tc σ2 H3 fun b H4=>if b=true then te σ2 H4 fun v H5=>∃ys,H5 l=some (.lst ys)∧ys.length < sizeLine∧N σ2 (aX H5 l (.lst (ys++[v]))) else N σ2 H4)
theorem qp{X:Cx}{elt iter tg:Expr}{ifs:List Expr}{scope:Scope}{pos:Pos}{wi:TI}{g:TG}{tc:TT}{te:TE}(sc0:Scope)(N0:List Str)(cp:List (Nat × Str))(tgN:List Str)
    (hc:X.calm=true)(hsc:X.env.scope=sc0)(hN0:X.N=N0)(hi:PI X tg iter wi)
    (hg:∀C s0 H0 fp,PG (ao X scope cp tgN C s0 H0 fp) tg g)
    (ht:∀C s0 H0 fp,mZ (ao X scope cp tgN C s0 H0 fp) ifs tc)
    (he:∀C s0 H0 fp,PE (ao X scope cp tgN C s0 H0 fp) elt te)
    (hk:scope.kind=.function)(hcell:∀y∈scope.names,y.2≠.cell)(hnames:∀y∈scope.names,y.2=.local→scope.names.lookup y.1=some .local)
    (hfr:∀y∈scope.names,y.2=.free→scope.names.lookup y.1=some .free∧sc0.names.lookup y.1=some .cell)
    (hcp:∀p∈cp,N0[p.1]?=some p.2)(hcq:∀p∈cp,sc0.names.lookup p.2=some .cell∧scope.names.lookup p.2=some .free)
    (hs:∀x,foldedSetIterable iter X.env x=pure x:=by intro _;rfl):
    PE X (.ListComp elt [⟨tg,iter,ifs,0⟩] scope pos) (oC cp tgN.length wi g tc te):=by
  intro pins s σ H Q I h
  have hkind:∀x,X.env.kindOf x=sc0.names.lookup x:=fun x=>by unfold Env.kindOf;rw [hsc]
  have hfree:∀y∈scope.names,y.2=.free→∃c,X.env.cells.lookup y.1=some c:=fun y hy e=>I.ok.has y.1 (.inl (by rw [hkind];exact(hfr y hy e).2))
  rw [eval_ListComp]
  refine wpAny_comprehension_free (use:=none) rfl hs (iE hfree) hk hnames (wpAny_mono (hi pins s σ H _ I h.go) (fun xv s₁ h₁=>wpAny_mono h₁ (fun itv s₂ h₂=>?_) fun _ _ e=>e) fun _ _ e=>e)
  obtain⟨it,fp,tn,J,H2,rfl,I2,T,st2,f2,hq⟩:=h₂
  refine wpAny_newObj_type ?_
  have hlF:H2 s₂.heap.objs.size=none:=I2.hok.fresh (Nat.le_refl _)
  have I3:au X pins σ (aX H2 s₂.heap.objs.size (.lst [])) {s₂ with heap:=s₂.heap.push {cls:=.type "list",data:=.seq ([]:List Value).toArray}}:=I2.lnew (t':=s₂.toks) .nil (Nat.zero_le _)
  obtain⟨W,⟨m0,w0⟩,turn⟩:=hq _ hlF
  have f3:∀b∈fp,ir X pins (aX H2 s₂.heap.objs.size (.lst [])) b:=fun b hb=>by
    obtain⟨f0,fr⟩:=f2 b hb
    obtain⟨o,ho,_⟩:=T.obj _ _ st2 b hb
    exact⟨by rw [aJ (Nat.ne_of_lt (Heap.lt_size ho))];exact f0,fr⟩
  have st3:tn 0 (s₂.heap.push {cls:=.type "list",data:=.seq ([]:List Value).toArray}):=T.keep _ _ _ st2 fun b _ o e=>Heap.get?_push_of_some _ e
  generalize hD:s₂.heap.objs.size=D at*
  generalize hs3:({s₂ with heap:=s₂.heap.push {cls:=.type "list",data:=.seq ([]:List Value).toArray}}:Shared)=s₃ at*
  have hst3:tn 0 s₃.heap:=by rw [←hs3];exact st3
  refine wpAny_newFunctionEnv hcell (by intro y hy;simp at hy) (fun h₁ hns₁ hsb₁=>?_) hk
  generalize hC:s₃.heap.objs.size=C at*
  have old:∀b o,s₃.heap.get? b=some o→h₁.get? b=some o:=fun b o e=>hsb₁.extBut b o (by rw [←hC];exact Nat.ne_of_lt (Heap.lt_size e)) (Heap.get?_push_of_some _ e)
  have nC:∀b o,s₃.heap.get? b=some o→b≠C:=fun b o e=>by rw [←hC];exact Nat.ne_of_lt (Heap.lt_size e)
  have hHC:(aX H2 D (.lst [])) C=none:=I3.hok.fresh (by rw [hC];exact Nat.le_refl _)
  have clS:∀x c,(eS X.env scope.names []).lookup x=some c→X.env.cells.lookup x=some c:=fun x c e=>f9 _ _ x c hfree (fun _ _ z=>by simp at z) e
  have clH:∀x,(∃y∈scope.names,y.1=x∧y.2=.free)→∃c,(eS X.env scope.names []).lookup x=some c:=fun x e=>iX _ _ x (.inl e)
  have ok':(ao X scope cp tgN C s₃ (aX H2 D (.lst [])) fp).Ok:=by
    refine⟨I.ok.mod,hk,I.ok.glob,I.ok.blt,by rw [←hC];exact Nat.le_refl _,fun x y c e1 e2=>I.ok.inj x y c (clS _ _ e1) (clS _ _ e2),fun x e=>clH x (bW hcell e),fun x c e1 e2=>?_,I.ok.hd,I.ok.frames,.inl rfl,fun b hb=>?_,fun b o e=>I3.bs b o e,?_,fun b o e hb=>?_,fun b hb z=>?_,I3.stack,fun b hb=>I3.stkFree b hb⟩
    · exfalso
      have e1':scope.names.lookup x=some .local:=by simpa [ao] using e1
      have e2':=clS x c e2
      obtain⟨c',hc'⟩:∃y∈scope.names,y.1=x∧y.2=.free:=by
        by_cases q:∃y∈scope.names,y.1=x∧y.2=.free
        · exact q
        · exfalso
          have:∀(names:List (Str × NameKind)) (cs:List (Str × Addr)),(¬∃y∈names,y.1=x∧y.2=.free)→cs.lookup x=none→(eS X.env names cs).lookup x=none:=by
            intro names
            induction names with
            | nil=>intro cs _ h;exact h
            | cons y r ih=>
              intro cs hn hcs
              obtain⟨n,k⟩:=y
              refine ih _ (fun⟨y,hy,z⟩=>hn ⟨y,List.mem_cons_of_mem _ hy,z⟩) ?_
              by_cases hk:(k==NameKind.free)=true
              · rw [if_pos hk,List.lookup_cons]
                cases hx:x==n with
                | true=>exact absurd ⟨(n,k),List.mem_cons_self,(by simpa using hx:x=n).symm,by simpa using hk⟩ hn
                | false=>exact hcs
              · rw [if_neg hk];exact hcs
          have z:=this scope.names [] q rfl
          have e2'':(eS X.env scope.names []).lookup x=some c:=e2
          rw [z] at e2'';cases e2''
      have z:=(hfr c' hc'.1 hc'.2.2).1
      rw [hc'.2.1,e1'] at z;cases z
    · obtain⟨f0,f1,f4,f5,f6,f7⟩:=f3 b hb
      obtain⟨o,ho,_⟩:=T.obj _ _ hst3 b hb
      exact⟨nC b o ho,fun x c e=>f6 x c (clS x c e)⟩
    · exact Nat.le_trans I.ok.bsz I3.sz
    · obtain⟨f0,f1,f4,f5,f6,f7⟩:=f3 b hb
      rcases f5 with z | z
      · exact I.ok.noex b o e z
      · have:=(I.ok.bs b o e).1
        exact absurd (Nat.lt_of_lt_of_le (Heap.lt_size this) z) (Nat.lt_irrefl _)
    · obtain⟨f0,f1,f4,f5,f6,f7⟩:=f3 b hb
      rcases List.mem_cons.mp (I3.stkSub b z) with z | z
      · exact f1 z
      · exact f4 z
  have I4:au (ao X scope cp tgN C s₃ (aX H2 D (.lst [])) fp) [] (c9 cp tgN.length σ) (aX H2 D (.lst [])) {s₃ with heap:=h₁,toks:=s₃.toks+([]:List (Str × Value)).length}:=by
    refine⟨ok',rfl,I3.bare,Un.kept old,⟨_,hns₁,fun i x v e1 e2 e3=>?_⟩,fun x c e=>?_,hHC,fun x c e=>I3.freeC x c (clS x c e),fun p hp=>by simp [ao] at hp,I3.hok.kept old,by simp [c9,ao]⟩
    · have hlt:i < cp.length:=by
        by_cases q:i < cp.length
        · exact q
        · exfalso
          unfold c9 at e2
          rw [List.getElem?_append_right (by simp;lia)] at e2
          rw [List.getElem?_replicate] at e2
          split at e2<;>cases e2
      have e1':(cp.map (·.2))[i]?=some x:=by
        have e1'':(cp.map (·.2)++tgN)[i]?=some x:=e1
        rwa [List.getElem?_append_left (by simp;exact hlt)] at e1''
      have e2':(cp.map (fun p=>(σ[p.1]?).join))[i]?=some (some v):=by
        unfold c9 at e2
        rwa [List.getElem?_append_left (by simp;exact hlt)] at e2
      rw [List.getElem?_map,List.getElem?_eq_getElem hlt] at e1' e2'
      have ex:(cp[i]).2=x:=by simpa using e1'
      have ev:(σ[(cp[i]).1]?).join=some v:=by simpa using e2'
      have ev':σ[(cp[i]).1]?=some (some v):=by
        cases q:σ[(cp[i]).1]? with
        | none=>rw [q] at ev;cases ev
        | some z=>rw [q] at ev;simp only [Option.join_some] at ev;rw [ev]
      have hN:=hcp cp[i] (List.getElem_mem hlt)
      rw [←hN0] at hN
      obtain⟨hcl,hcf⟩:=hcq cp[i] (List.getElem_mem hlt)
      rw [ex] at hN hcl hcf
      obtain⟨m,hn,hl⟩:=I3.loc
      obtain⟨u,r,l⟩:=hl _ x v hN ev' (.inr (.inl (by rw [hsc];exact hcl)))
      refine⟨u,r,.inr ?_⟩
      rcases l with ⟨k1,_⟩ | ⟨k1,c,hcc,o,ho,hd⟩
      · rw [hkind,hcl] at k1;cases k1
      · have e3':(relabel scope X.env).names.lookup x=some .local∨(relabel scope X.env).names.lookup x=some .cell∨(relabel scope X.env).names.lookup x=some .free:=e3
        have nl:(relabel scope X.env).names.lookup x=some .cell∨(relabel scope X.env).names.lookup x=some .free:=by
          rcases e3' with z | z | z
          · exact absurd z (dj hcf)
          · exact .inl z
          · exact .inr z
        obtain⟨c',hc'⟩:=clH x (bW hcell nl)
        have:=clS x c' hc'
        rw [hcc] at this;cases this
        exact⟨nl,c,hc',o,old c o ho,hd⟩
    · obtain⟨v,o,ho,hd⟩:=I3.cell x c (clS x c e)
      exact⟨v,o,old c o ho,hd⟩
  have hst4:tn 0 h₁:=T.keep _ _ _ hst3 fun b _ o e=>old b o e
  have loop:codeAny (model X.prog X.w) X.A (.compLoop (.ListComp elt [⟨tg,iter,ifs,0⟩] scope pos) 0 (.ref it) (.ref D) (compEnvC scope (eS X.env scope.names []) C X.env))
      (compPost (model X.prog X.w) X.A X.xe none (EP X pins σ Q) (.ref D) C) {s₃ with heap:=h₁,toks:=s₃.toks+([]:List (Str × Value)).length}:=by
    refine iZ (fun n s'=>∃i σ' H',au (ao X scope cp tgN C s₃ (aX H2 D (.lst [])) fp) [] σ' H' s'∧tn i s'.heap∧(∀b∈fp,H' b=none)∧W i n σ' H') ?_ (n0:=m0) ⟨0,_,_,I4,hst4,fun b hb=>(f3 b hb).1,w0⟩
    rintro n s5 ⟨i,σ5,H5,I5,st5,fr5,w5⟩
    have stat:∀{H':Hp},(∀b∈fp,H' b=none)→∀b∈fp,ir (ao X scope cp tgN C s₃ (aX H2 D (.lst [])) fp) [] H' b:=fun hn b hb=>
      ⟨hn b hb,(ok'.exf b hb).1,ok'.exfs b hb,.inl hb,(ok'.exf b hb).2,fun p hp=>by simp [ao] at hp⟩
    rcases turn i n σ5 H5 w5 with ⟨stop,qn⟩ | ⟨go,N,hN,step⟩
    · refine bz (T.done (ao X scope cp tgN C s₃ (aX H2 D (.lst [])) fp) rfl rfl rfl hc i [] s5 σ5 H5 (fun _ _=>False) I5 (stat fr5) st5 stop) fun r s6 ⟨hr,I6⟩=>?_
      subst hr
      refine⟨fun _=>?_,fun v z=>by cases z⟩
      obtain⟨m,hn,_⟩:=I6.loc
      refine⟨m,hn,fun h' sb=>⟨.ref D,H5,?_,rfl,qn⟩⟩
      have ub:=I6.base
      have kp:∀b u,b≠C→s6.heap.get? b=some u→h'.get? b=some u:=fun b u ne e=>sb.extBut b u ne e
      have nit:∀b u,H5 b=some u→b≠C:=fun b u e z=>by
        have:=I6.free
        rw [z] at e
        rw [show H5 C=none from this] at e;cases e
      refine I3.call' (s':={s6 with heap:=h'}) (ch:=fp) I6.os ⟨fun b o e n hb hx=>kp b o (nC b o e) (ub.keep b o e n hb hx),fun b o e n hb hx=>?_,ub.free,fun b o e hx=>?_,ub.tups,ub.frzs,ub.tbls⟩ (fun b u e=>?_) I6.bare (fun b hb=>?_)
      · obtain⟨sl,q⟩:=ub.slot b o e n hb hx
        exact⟨sl,kp b _ (nC b o e) q⟩
      · obtain⟨o',q⟩:=ub.there b o e hx
        exact⟨o',kp b _ (nC b o e) q⟩
      · refine(I6.hok b u e).stay (fun c v hc q=>kp c v ?_ q) (fun _ q=>q) fun _ _ q=>q
        rcases hc with z | z
        · rw [z];exact nit b u e
        · exact nit c _ z
      · obtain⟨f0,f1,f4,f5,f6,f7⟩:=f3 b hb
        exact⟨f5,f1,f6,f7⟩
    · refine bz (T.item (ao X scope cp tgN C s₃ (aX H2 D (.lst [])) fp) rfl rfl rfl hc i [] s5 σ5 H5 (fun _ _=>False) I5 (stat fr5) st5 go) fun r s6 ⟨u,hr,h6⟩=>?_
      subst hr
      refine⟨fun z=>(by cases z),fun v z=>?_⟩
      cases z
      refine bz h6 fun _ s7 ⟨x,H7,I7,r7,y7,st7,fr7⟩=>?_
      have I7':=I7.pinned (stat fr7) (T.obj _ _ st7)
      have again:∀{σ8:L2.St} {H8:Hp} {s8:Shared},au (ao X scope cp tgN C s₃ (aX H2 D (.lst [])) fp) ([]++gZ fp s7.heap) σ8 H8 s8→N σ8 H8→∃m,m < n∧∃i σ' H',au (ao X scope cp tgN C s₃ (aX H2 D (.lst [])) fp) [] σ' H' s8∧tn i s8.heap∧(∀b∈fp,H' b=none)∧W i m σ' H':=fun{σ8 H8 s8} I8 n8=>by
        obtain⟨m',hm,w8⟩:=hN σ8 H8 n8
        refine⟨m',hm,i+1,σ8,H8,I8.unpinned,T.keep _ _ _ st7 fun b hb o e=>(I8.pin (b,o) (List.mem_append_right _ (List.mem_append_right _ (bJ hb e)))).1,fun b hb=>?_,w8⟩
        obtain⟨o,e,d⟩:=T.obj _ _ st7 b hb
        exact(I8.pin (b,o) (List.mem_append_right _ (List.mem_append_right _ (bJ hb e)))).2.1
      refine bz (hg C s₃ (aX H2 D (.lst [])) fp _ s7 σ5 H7 x u _ I7' r7 (step x H7 y7)) fun _ s8 ⟨σ8,H8,I8,q8⟩=>?_
      refine bz (ht C s₃ (aX H2 D (.lst [])) fp _ s8 σ8 H8 _ I8 q8) fun ok s9 ⟨H9,I9,q9⟩=>?_
      cases ok with
      | false=>
        rw [if_neg Bool.false_ne_true] at q9 ⊢
        exact again I9 q9
      | true=>
        rw [if_pos rfl] at q9 ⊢
        refine bz (he C s₃ (aX H2 D (.lst [])) fp _ s9 σ8 H9 _ I9 q9) fun v s10 ⟨xv,H10,I10,r10,ys,hl,hz,n10⟩=>?_
        refine bz (il _ s10 σ8 H10 (.ref D) [xv] (.ref D) [v] (fun _ H=>N σ8 H) I10 rfl (.cons r10 .nil) ⟨D,ys,xv,rfl,rfl,hl,hz,n10⟩) fun _ s11 ⟨_,H11,I11,_,q11⟩=>?_
        exact again I11 q11
  exact codeAny_compStart_list loop (T.self X.A 0 _ _ _ hst4 loop)
end L2
namespace L2
open PySem PySem.Spec PyProof.Rows
section
variable{X:Cx}
def ui(K:PySem.W.Frag):R2:=fun x y H Q=>∃a b xs ys,x=.ref a∧y=.ref b∧dQ K H a xs∧dQ K H b ys∧xs.length+ys.length≤sizeLine∧∀p H',av H H'→dQ K H' p (xs++ys)→Q (.ref p) H'
theorem vJ:fg X (binaryOp .Add) (ui X.K):=by
  intro pins s σ H x y v u Q I rx ry h
  obtain⟨a,b,xs,ys,rfl,rfl,ha,hb,hz,q⟩:=h
  cases rx;cases ry
  by_cases hx:xs=[]
  · obtain⟨i1,r1,p1,_⟩:=I.tuple ha
    obtain⟨i2,r2,p2,_⟩:=I.tuple hb
    obtain⟨m,F⟩:=I.fr
    have e1:i1=[]:=by subst hx;cases r1;rfl
    refine add_tuples F (tF (g:=X.base)) p1 p2 (fun _=>?_) (fun z1 _=>absurd e1 z1) (fun z1 _ _ _ _=>absurd e1 z1) (by rw [←r1.length,←r2.length];exact hz)
    exact⟨.ref b,H,I,rfl,q b H (av.refl H) (by rw [hx];exact hb)⟩
  · exact vK pins s σ H (.ref a) (.ref b) _ _ Q I rfl rfl ⟨a,b,xs,ys,rfl,rfl,ha,hb,hx,hz,fun z=>q a H (av.refl H) (by rw [z,List.append_nil];exact ha),fun _ p hp=>q p _ (av.new hp) (dQ.of aq)⟩
theorem fK{x:V}{us:List Value}(r:aE [x] us):∃u,us=[u]∧bf x u:=by
  cases r with
  | cons p p'=>cases p';exact⟨_,rfl,p⟩
theorem m6{k:Nat}(hr:bX k X.A):cQ X (.builtin "sum") (fun xs H Q=>∃(l:Addr) (ns:List Int),xs=[.ref l]∧em X.K H l (ns.map V.int)∧Q (.int ns.sum) H):=by
  intro pins s σ H xs us Q I r h
  obtain⟨l,ns,rfl,hs,q⟩:=h
  obtain⟨u,rfl,ru⟩:=fK r
  cases ru
  obtain⟨its,rv,p,hz⟩:=I.list hs
  have hi:IntsAre its ns:=dZ rv
  obtain⟨ys,ey⟩:=hi.allInts.items
  have hl:=p.isList
  rw [ey] at hl
  refine PySem.sum_intListG hr.hd hl fun h' tk t' hk=>?_
  have e:preSum (numAt ys) ys.size=ns.sum:=by
    have e2:=nums_intItems (xs:=ys)
    rw [←ey] at e2
    have e3:=hi.numsOf
    rw [preSum_eq,List.take_of_length_le (by simp)]
    rw [show its.toArray.toList=its from rfl,e3] at e2
    rw [e2]
  exact⟨.int ns.sum,H,I.kept hk,⟨t',by rw [e]⟩,q⟩
end
end L2
namespace L2
open PySem PySem.Spec PyProof.Rows
section
variable{X:Cx}
end
theorem rD{e:Expr}{es:List Expr}{env:Env}(h:PySem.W.isStarred e=false):starEach (e::es) env=(false,eval e env)::starEach es env:=by
  cases e<;>first | rfl | cases h
theorem Ck{X:Cx}{e:Expr}{es:List Expr}{te:TE}{t:TA}(ha:PE X e te)(hr:PA X es t)(h:PySem.W.isStarred e=false:=by rfl):PA X (e::es) (oD te t):=io ha hr (rD h)
def qG:List (Int × Int)→TA
  | []=>zB
  | p::r=>oD (Bw (oD (tC (.int p.1)) (oD (tC (.int p.2)) zB))) (qG r)
@[irreducible] def Cy(ps:List (Int × Int)):TA:=qG ps
structure lc where
  one:Int
  other:Int
  top:Int
  bot:Int
  worth:Int
structure cf where
  things:Int
  ties:List lc
  pat:List Int
  asks:Int
structure lc.Ok (n:Int) (t:lc):Prop where
  o0:0≤t.one
  o1:t.one < t.other
  o2:t.other < n
  c0:0≤t.top
  c1:t.top≤t.bot
  b0:1≤t.bot
  b1:t.bot≤100
  w0:0≤t.worth
  w1:t.worth≤1000
  cop:Int.gcd t.top t.bot=1
structure cf.Ok (w:cf):Prop where
  t0:0≤w.things
  t1:w.things≤12
  ties:∀t∈w.ties,t.Ok w.things
  len:w.ties.length≤16
  pl:(w.pat.length:Int)=w.things
  pat:∀p∈w.pat,0≤p∧p≤20
  a0:0≤w.asks
  a1:w.asks≤40
def zY(K:PySem.W.Frag)(H:Hp)(v:V)(t:lc):Prop:=∃p q,v=.ref p∧dQ K H p [.int t.one,.int t.other,.ref q,.int t.worth]∧dQ K H q [.int t.top,.int t.bot]
inductive l3 (K:PySem.W.Frag) (H:Hp):List V→List lc→Prop
  | nil:l3 K H [] []
  | cons {v vs t ts}:zY K H v t→l3 K H vs ts→l3 K H (v::vs) (t::ts)
structure CL (K:PySem.W.Frag) (H:Hp) (v:V) (w:cf):Prop where
  ex:∃a b c ts,v=.ref a∧dQ K H a [.int w.things,.ref b,.ref c,.int w.asks]∧dQ K H b ts∧l3 K H ts w.ties∧dQ K H c (w.pat.map V.int)
section
variable{K:PySem.W.Frag}{H H':Hp}
end
theorem pb{t b:Int}(hb:0 < b)(h0:0≤t)(h1:t≤b)(h2:b≤100):0≤(eA t b).1∧(eA t b).1≤(eA t b).2∧1≤(eA t b).2∧(eA t b).2≤100:=by
  obtain⟨d,e1,e2,e3,e4,e5⟩:=lN (t:=t) (b:=b) (by lia)
  generalize (eA t b).1=x at*
  generalize (eA t b).2=y at*
  have dp:0 < d:=by
    rcases Int.lt_or_gt_of_ne e2 with z | z
    · exfalso
      have:y*d < 0:=Int.mul_neg_of_pos_of_neg e5 z
      lia
    · exact z
  have x0:0≤x:=by
    rcases Int.lt_or_le x 0 with z | z
    · have:x*d < 0:=Int.mul_neg_of_neg_of_pos z dp
      lia
    · exact z
  have xy:x≤y:=by
    rcases Int.lt_or_le y x with z | z
    · have:y*d < x*d:=Int.mul_lt_mul_of_pos_right z dp
      lia
    · exact z
  have yb:y≤y*d:=by
    have:=Int.mul_le_mul_of_nonneg_left (show(1:Int)≤d by lia) (show 0≤y by lia)
    lia
  exact⟨x0,xy,by lia,by lia⟩
end L2
namespace L2
open PySem PySem.Spec PyProof.Rows
inductive j6 {α β:Type} (R:α→β→Prop):List α→List β→Prop
  | nil:j6 R [] []
  | cons {a b as bs}:R a b→j6 R as bs→j6 R (a::as) (b::bs)
namespace j6
variable{α β:Type}{R S:α→β→Prop}
theorem mono(h:∀a b,R a b→S a b):∀{as:List α} {bs:List β},j6 R as bs→j6 S as bs
  | _,_,.nil=>.nil
  | _,_,.cons x r=>.cons (h _ _ x) (mono h r)
theorem len:∀{as:List α} {bs:List β},j6 R as bs→as.length=bs.length
  | _,_,.nil=>rfl
  | _,_,.cons _ r=>by simp [len r]
theorem snoc{a:α}{b:β}(h:R a b):∀{as:List α} {bs:List β},j6 R as bs→j6 R (as++[a]) (bs++[b])
  | _,_,.nil=>.cons h .nil
  | _,_,.cons x r=>.cons x (snoc h r)
theorem get:∀{as:List α} {bs:List β} {i:Nat} {b:β},j6 R as bs→bs[i]?=some b→∃a,as[i]?=some a∧R a b
  | _,_,_,_,.nil,e=>by simp at e
  | _,_,0,_,.cons x _,e=>by simp at e;subst e;exact⟨_,rfl,x⟩
  | _,_,i+1,b,.cons _ r,e=>by
    obtain⟨v,h1,h2⟩:=get (i:=i) (b:=b) r (by simpa using e)
    exact⟨v,by simpa using h1,h2⟩
end j6
section
variable{K:PySem.W.Frag}{a l:Addr}{xs:List V}{g:TG}{tc:TT}{te:TE}{Q:VK}{σ:L2.St}{H:Hp}{α β:Type}{us:List α}{cp:List (Nat × Str)}{nT:Nat}
def BI(a7:Hp→V→β→Prop)(SI:L2.St→Prop)(us:List α)(f:α→Option β)(H:Hp)(l:Addr)(i:Nat)(σ:L2.St)(H':Hp):Prop:=SI σ∧av H H'∧∃vs,H' l=some (.lst vs)∧vs.length≤i∧j6 (a7 H') vs ((us.take i).filterMap f)
end
def oA(ns:List Int):List Int:=ns.mergeSort
theorem kY(ns:List Int):(oA ns).Perm ns:=List.mergeSort_perm ns _
theorem zQ{ns:List Int}{x:Int}:x∈oA ns↔ x∈ns:=(kY ns).mem_iff
theorem zP(ns:List Int):(oA ns).length=ns.length:=(kY ns).length_eq
section
variable{X:Cx}{K:PySem.W.Frag}{pos:Pos}
theorem vU{es:List Expr}{k:Nat}{t:uL}{n:Nat}(hK:X.K=K)(hc:X.calm=true)(h:rS X es t)(hn:(assignEach es X.env).length=n:=by rfl)(hst:(assignEach es X.env).findIdx? (·.1)=none:=by rfl):PG X (.Tuple es k pos) (nL K n t):=hK ▸ yX hc h hn hst
theorem vY{tg l:Expr}{tl:TE}(h:X.K=K)(hl:PE X l tl):PI X tg l (Am K tl):=h ▸ yY hl
theorem tR{tg l:Expr}{tl:TE}(h:X.K=K)(hl:PE X l tl):PI X tg l (xt K tl):=h ▸ vX hl
end
instance:Inhabited lc:=⟨⟨0,1,1,1,0⟩⟩
def cf.tie(W:cf)(k:Int):lc:=W.ties.getD k.toNat default
def cf.has(W:cf)(k thing:Int):Bool:=(W.tie k).one==thing || (W.tie k).other==thing
def cf.many(W:cf)(asked:List Int)(thing:Int):Int:=((asked.filter fun k=>W.has k thing).length:Nat)
def cf.bears(W:cf)(asked taken:List Int)(thing:Int):Bool:= !taken.contains thing&&decide (W.many asked thing < W.pat.getD thing.toNat 0)
def cf.may(W:cf)(asked taken:List Int)(k:Int):Bool:= !(asked.contains k || decide (W.asks≤(asked.length:Int)))&&(W.bears asked taken (W.tie k).one&&W.bears asked taken (W.tie k).other)
def cf.askd(asked:List Int)(k:Int):List Int:=oA (asked++[k])
def cf.took(W:cf)(taken:List Int)(k:Int)(truth:Bool):List Int:=if truth then oA (taken++[(W.tie k).one,(W.tie k).other]) else taken
def cf.rng(W:cf):List Int:=(List.range W.ties.length).map Int.ofNat
def pO(W:cf)(k:Int):Prop:=0≤k∧k < (W.ties.length:Int)
theorem pO.get{W:cf}{k:Int}(h:pO W k):W.ties[k.toNat]?=some (W.tie k):=by
  have hk:k.toNat < W.ties.length:=by have:=h.1;have:=h.2;lia
  unfold cf.tie
  rw [List.getD_eq_getElem?_getD,List.getElem?_eq_getElem hk];rfl
theorem pO.ok{W:cf}{k:Int}(h:pO W k)(o:W.Ok):(W.tie k).Ok W.things:=o.ties _ (List.mem_of_getElem? h.get)
theorem BQ{W:cf}{k:Int}:k∈W.rng↔ pO W k:=by
  unfold cf.rng pO
  rw [List.mem_map]
  constructor
  · rintro⟨n,hn,rfl⟩
    have:=List.mem_range.mp hn
    exact⟨Int.natCast_nonneg n,by simp;lia⟩
  · rintro⟨h0,h1⟩
    exact⟨k.toNat,List.mem_range.mpr (by lia),by simp;lia⟩
def xK(K:PySem.W.Frag)(H:Hp)(v:V)(asked taken:List Int):Prop:=∃a b c,v=.ref a∧dQ K H a [.ref b,.ref c]∧dQ K H b (asked.map V.int)∧dQ K H c (taken.map V.int)
theorem xK.ts{K:PySem.W.Frag}{H H':Hp}(s:jU H H'){v:V}{asked taken:List Int}(h:xK K H v asked taken):xK K H' v asked taken:=by
  obtain⟨a,b,c,e,h1,h2,h3⟩:=h
  exact⟨a,b,c,e,s.tup h1,s.tup h2,s.tup h3⟩
section
variable{K:PySem.W.Frag}{σ:L2.St}{H:Hp}{Q:VK}{i j:Nat}{vW:V}{W:cf}{k:Int}
end
def small(k:Int):Prop:= -1000000≤k∧k≤1000000
def Dk(n dep:Nat)(d:PyData):Prop:=d.showable=true∧kJ d=true∧L2.cnt d≤n∧d.depth≤dep
theorem Dk.mono{n m dep e:Nat}{d:PyData}(h:Dk n dep d)(h1:n≤m)(h2:dep≤e):Dk m e d:=⟨h.1,h.2.1,Nat.le_trans h.2.2.1 h1,Nat.le_trans h.2.2.2 h2⟩
theorem Dk.int{k:Int}(h:small k):Dk 1 2 (.int k):=by
  refine⟨?_,rfl,Nat.le_refl _,by simp [PyData.depth]⟩
  show decide (k.natAbs.log2 < 1920)=true
  rw [decide_eq_true_eq]
  exact Nat.lt_trans ((show Bt 64 k by have:=h.1;have:=h.2;unfold Bt;lia).log (by decide)) (by decide)
theorem Dk.bool(b:Bool):Dk 1 2 (.bool b):=⟨rfl,rfl,Nat.le_refl _,by simp [PyData.depth]⟩
theorem Dk.none:Dk 1 2 .none:=⟨rfl,rfl,Nat.le_refl _,by simp [PyData.depth]⟩
theorem Dk.all{n dep:Nat}:∀{ds:List PyData},(∀d∈ds,Dk n dep d)→PyData.showableAll ds=true∧fR ds=true∧iF ds≤ds.length*n∧PyData.depthAll ds≤dep
  | [],_=>⟨rfl,rfl,by simp [iF],by simp [PyData.depthAll]⟩
  | d::r,h=>by
    obtain⟨a1,a2,a3,a4⟩:=h d (by simp)
    obtain⟨b1,b2,b3,b4⟩:=Dk.all (ds:=r) fun x hx=>h x (by simp [hx])
    refine⟨?_,?_,?_,?_⟩
    · simp only [PyData.showableAll,a1,b1,Bool.and_self]
    · simp only [fR,a2,b2,Bool.and_self]
    · simp only [iF,List.length_cons,Nat.succ_mul]
      lia
    · simp only [PyData.depthAll];lia
theorem Dk.tup{n dep m:Nat}{ds:List PyData}(h:∀d∈ds,Dk n dep d)(hl:ds.length≤m):Dk (1+m*n) (dep+2) (.tuple ds):=by
  obtain⟨b1,b2,b3,b4⟩:=Dk.all h
  refine⟨b1,b2,?_,?_⟩
  · simp only [L2.cnt]
    have:=Nat.mul_le_mul_right n hl
    lia
  · simp only [PyData.depth];lia
theorem Dk.ok{n dep:Nat}{d:PyData}(h:Dk n dep d)(h1:n≤8000)(h2:dep≤60):d.showable=true∧d.depth≤60∧d.shown.length≤sizeLine:=by
  have:=lU h.2.1 h.1
  have sl:sizeLine=16777216:=sizeLine_eq
  have:=h.2.2.1
  exact⟨h.1,Nat.le_trans h.2.2.2 h2,by lia⟩
theorem Dk.ints{ns:List Int}{m:Nat}(hl:ns.length≤m)(h:∀r∈ns,small r):Dk (1+m) 4 (.tuple (ns.map .int)):=by
  have:=Dk.tup (n:=1) (dep:=2) (m:=m) (ds:=ns.map PyData.int) (fun d hd=>by
    obtain⟨x,hx,rfl⟩:=List.mem_map.mp hd
    exact Dk.int (h x hx)) (by rw [List.length_map];exact hl)
  simpa using this
section
variable{K:PySem.W.Frag}{H:Hp}
theorem Dk.bools{ns:List Bool}{m:Nat}(hl:ns.length≤m):Dk (1+m) 4 (.tuple (ns.map .bool)):=by
  have:=Dk.tup (n:=1) (dep:=2) (m:=m) (ds:=ns.map PyData.bool) (fun d hd=>by
    obtain⟨x,hx,rfl⟩:=List.mem_map.mp hd
    exact Dk.bool x) (by rw [List.length_map];exact hl)
  simpa using this
def aY(t:lc):PyData:=.tuple [.int t.one,.int t.other,.tuple [.int t.top,.int t.bot],.int t.worth]
def aU(W:cf):PyData:=.tuple [.int W.things,.tuple (W.ties.map aY),.tuple (W.pat.map .int),.int W.asks]
def Du(asked taken:List Int):PyData:=.tuple [.tuple (asked.map .int),.tuple (taken.map .int)]
end
end L2
namespace L2
open PySem PySem.Spec PyProof.Rows
theorem oV:∀{bs:List Bool} {us:List Value} {i:Nat} {v:Value},aE (bs.map V.bl) us→us[i]?=some v→∃b,bs[i]?=some b∧v=.bool b
  | [],us,i,v,r,e=>by cases r;simp at e
  | b::bs,us,i,v,r,e=>by
    cases r with
    | cons p q=>
      cases i with
      | zero=>simp at e;subst e;cases p;exact⟨b,rfl,rfl⟩
      | succ i=>
        obtain⟨c,h1,h2⟩:=oV (bs:=bs) (i:=i) (v:=v) q (by simpa using e)
        exact⟨c,by simpa using h1,h2⟩
theorem ww(bs:List Bool):((List.range bs.length).all fun i=>(bs[i]?).getD true)=bs.all id:=by
  rw [Bool.eq_iff_iff,List.all_eq_true,List.all_eq_true]
  constructor
  · intro h b hb
    obtain⟨i,hi,rfl⟩:=List.getElem_of_mem hb
    have:=h i (List.mem_range.mpr hi)
    rw [List.getElem?_eq_getElem hi] at this
    exact this
  · intro h i hi
    have hi':=List.mem_range.mp hi
    rw [List.getElem?_eq_getElem hi']
    exact h _ (List.getElem_mem hi')
theorem wx(bs:List Bool):((List.range bs.length).any fun i=>(bs[i]?).getD false)=bs.any id:=by
  rw [Bool.eq_iff_iff,List.any_eq_true,List.any_eq_true]
  constructor
  · rintro⟨i,hi,e⟩
    have hi':=List.mem_range.mp hi
    rw [List.getElem?_eq_getElem hi'] at e
    exact⟨_,List.getElem_mem hi',e⟩
  · rintro⟨b,hb,e⟩
    obtain⟨i,hi,rfl⟩:=List.getElem_of_mem hb
    refine⟨i,List.mem_range.mpr hi,?_⟩
    rw [List.getElem?_eq_getElem hi]
    exact e
section
variable{X:Cx}
theorem si{k:Nat}{K:PySem.W.Frag}(hr:bX k X.A)(hK:X.K=K):cQ X (.builtin "all") (fun xs H Q=>∃(l:Addr) (bs:List Bool),xs=[.ref l]∧em K H l (bs.map V.bl)∧Q (.bl (bs.all id)) H):=by
  intro pins s σ H xs us Q I r h
  subst hK
  obtain⟨l,bs,rfl,hs,q⟩:=h
  obtain⟨u,rfl,ru⟩:=fK r
  cases ru
  obtain⟨its,rv,p,hz⟩:=I.list hs
  have hl:=p.isList
  have lt:l < s.heap.objs.size:=by obtain⟨_,e,_⟩:=hl;exact Heap.lt_size e
  refine PySem.call_all_walk (wpAny_pyIter_list hl ?_)
  refine⟨s.heap.objs.size,[s.heap.objs.size,l],[s.heap.objs.size],its.toArray.size,_,_,fun i=>(bs[i]?).getD true,rfl,Walks.list (A:=X.A.in1) hr.hd _ l (Nat.ne_of_lt lt) its.toArray,⟨⟨_,Heap.get?_push_size _ rfl,rfl,rfl⟩,hl.push _⟩,fun i v s' Q' E' hP hQ=>?_,fun h' tk hk=>?_⟩
  · obtain⟨b,e,rfl⟩:=oV rv (by simpa using hP)
    simp only [e,Option.getD_some] at hQ
    exact wpAny_truthy_bool hQ
  · have e:its.toArray.size=bs.length:=by have:=rv.length;rw [List.length_map] at this;simpa using this.symm
    rw [e,ww]
    refine⟨.bl (bs.all id),H,I.kept fun b x e=>hk b x (fun hm=>?_) (Heap.get?_push_of_some _ e),rfl,q⟩
    rw [List.mem_singleton.mp hm] at e
    exact Nat.lt_irrefl _ (Heap.lt_size e)
theorem sj{k:Nat}{K:PySem.W.Frag}(hr:bX k X.A)(hK:X.K=K):cQ X (.builtin "any") (fun xs H Q=>∃(l:Addr) (bs:List Bool),xs=[.ref l]∧em K H l (bs.map V.bl)∧Q (.bl (bs.any id)) H):=by
  intro pins s σ H xs us Q I r h
  subst hK
  obtain⟨l,bs,rfl,hs,q⟩:=h
  obtain⟨u,rfl,ru⟩:=fK r
  cases ru
  obtain⟨its,rv,p,hz⟩:=I.list hs
  have hl:=p.isList
  have lt:l < s.heap.objs.size:=by obtain⟨_,e,_⟩:=hl;exact Heap.lt_size e
  refine PySem.call_any_walk (wpAny_pyIter_list hl ?_)
  refine⟨s.heap.objs.size,[s.heap.objs.size,l],[s.heap.objs.size],its.toArray.size,_,_,fun i=>(bs[i]?).getD false,rfl,Walks.list (A:=X.A.in1) hr.hd _ l (Nat.ne_of_lt lt) its.toArray,⟨⟨_,Heap.get?_push_size _ rfl,rfl,rfl⟩,hl.push _⟩,fun i v s' Q' E' hP hQ=>?_,fun h' tk hk=>?_⟩
  · obtain⟨b,e,rfl⟩:=oV rv (by simpa using hP)
    simp only [e,Option.getD_some] at hQ
    exact wpAny_truthy_bool hQ
  · have e:its.toArray.size=bs.length:=by have:=rv.length;rw [List.length_map] at this;simpa using this.symm
    rw [e,wx]
    refine⟨.bl (bs.any id),H,I.kept fun b x e=>hk b x (fun hm=>?_) (Heap.get?_push_of_some _ e),rfl,q⟩
    rw [List.mem_singleton.mp hm] at e
    exact Nat.lt_irrefl _ (Heap.lt_size e)
end
end L2
namespace L2
theorem r8:PySem.bootBuiltins "all"=some (.builtin "all"):=by decide+kernel
theorem r9:PySem.bootBuiltins "any"=some (.builtin "any"):=by decide+kernel
end L2
namespace L2
open PySem PySem.Spec PyProof.Rows
section
variable{prog:Program}{w:World}{A:Around}{E:Value→Shared→Prop}{s:Shared}
end
structure Sc (prog:Program) (w:World) (it l:Addr) (St:Nat→Heap→Prop) (Sq:Heap→Array Value→Prop):Prop where
  stay:∀{k h h'},St k h→(∀o,h.get? it=some o→h'.get? it=some o)→St k h'
  live:∀{k h},St k h→∃o,h.get? it=some o∧∀v,o.data≠.cell v
  row:∀{h h' xs},Sq h xs→(∀o,h.get? l=some o→h'.get? l=some o)→Sq h' xs
  next:∀{A:Around} {s:Shared} {E:Value→Shared→Prop} {Q:Value→Shared→Prop} {k:Nat} {xs:Array Value} {x:Value},St k s.heap→Sq s.heap xs→xs[k]?=some x→(∀g,St (k+1) g→Heap.SameBut it s.heap g→Q x {s with heap:=g})→wpAny (model prog w) A (Builtin.SmallTypes.nextOf (.ref it)) Q E s
  last:∀{A:Around} {s:Shared} {E:Value→Shared→Prop} {Q:Value→Shared→Prop} {k:Nat} {xs:Array Value},A.handled=none→St k s.heap→Sq s.heap xs→xs[k]?=none→(∀g e,Heap.ExtBut it s.heap g→(∃o,g.get? e=some o∧o.cls=.type "StopIteration")→E (.ref e) {s with heap:=g})→wpAny (model prog w) A (Builtin.SmallTypes.nextOf (.ref it)) Q E s
structure CD (z TI TO i1 i2 l1 l2:Addr):Prop where
  a1:TO≠z
  a2:i1≠z
  a3:i2≠z
  a4:TO≠i1
  a5:TO≠i2
  a6:i1≠i2
  b1:l1≠z
  b2:l1≠TO
  b3:l1≠i1
  b4:l1≠i2
  c1:l2≠z
  c2:l2≠TO
  c3:l2≠i1
  c4:l2≠i2
section
variable{prog:Program}{w:World}{A:Around}{E:Value→Shared→Prop}{s:Shared}{z TI TO i1 i2 l1 l2:Addr}{k:Nat}{xs ys:Array Value}{a b:Value}{S1 S2:Nat→Heap→Prop}{R1 R2:Heap→Array Value→Prop}
end
end L2
namespace L2
open PySem PySem.Spec PyProof.Rows
section
variable{X:Cx}{pins:List (Addr × Obj)}{σ:L2.St}{H:Hp}{s:Shared}{h':Heap}
theorem au.turnedL{t':Nat}{fp:List Addr}(I:au X pins σ H s)(hf:∀b∈fp,ir X pins H b)(k:∀b o,b∉fp→s.heap.get? b=some o→h'.get? b=some o):au X pins σ H {s with heap:=h',toks:=t'}:=by
  have hL:X.env.locals∉fp:=fun z=>(hf _ z).2.1 rfl
  have nit:∀b u,H b=some u→b∉fp:=fun b u e z=>by have:=(hf b z).1;rw [this] at e;cases e
  refine I.step (g':=s.gens) (d':=s.drawn) (ch:=fp) (fun b hb=>?_) (fun b o _ _ hc e _=>k b o hc e) (fun b o _ _ hc e _=>⟨o.slots,k b o hc e⟩) (fun _ _ _ _ n=>n) (fun b o hc e=>⟨o,k b o hc e⟩) (fun _ _ e=>e) (fun _ _ _ e=>e) (fun b ps e=>⟨#[],by rw [e];simp⟩) (fun m hm=>?_) (fun b u e=>?_) I.bare
  · obtain⟨f0,f1,f2,f3,f4,f5⟩:=hf b hb
    exact⟨f3,f1,f4,f5⟩
  · obtain⟨o,es,ep,ho,r⟩:=hm
    exact⟨o,es,ep,k _ o hL ho,r⟩
  · refine(I.hok b u e).stay (fun c v hc q=>k c v ?_ q) (fun _ q=>q) fun _ _ q=>q
    rcases hc with z | z
    · rw [z];exact nit b u e
    · exact nit c _ z
end
section
variable{prog:Program}{w:World}{A:Around}{E:Value→Shared→Prop}{s:Shared}
end
end L2
namespace L2
open PySem PySem.Spec PyProof.Rows
section
variable{prog:Program}{w:World}{A:Around}{E:Value→Shared→Prop}{s:Shared}{e it l:Addr}{k:Nat}{xs:Array Value}{S:Nat→Heap→Prop}{R:Heap→Array Value→Prop}
end
section
variable{X:Cx}{pins:List (Addr × Obj)}{σ:L2.St}{H:Hp}{s:Shared}
end
end L2
namespace L2
open PySem PySem.Spec PyProof.Rows
theorem qK:∀(us:List Value) (f:Nat→Int),(∀(j:Nat) (v:Value),us[j]?=some v→∃t,v=Value.int (f j) t)→aE ((List.range us.length).map fun j=>V.int (f j)) us
  | [],_,_=>.nil
  | u::us,f,h=>by
    rw [List.length_cons,List.range_succ_eq_map,List.map_cons,List.map_map]
    refine .cons (h 0 u rfl) (qK us (fun j=>f (j+1)) fun j v e=>h (j+1) v (by simpa using e))
def cK(n:Nat):List Int:=(List.range n).map Int.ofNat
theorem kU(n:Nat):(cK n).length=n:=by simp [cK]
section
variable{X:Cx}{a:Expr}{ta:TA}{p p2 pos pos2:Pos}
theorem sx(hg:Gl X "range")(hm:X.mg "range"=none)(ha:PA X [a] ta)(hs:starEach [a] X.env=[(false,eval a X.env)]){pins:List (Addr × Obj)}{s:Shared}{σ:L2.St}{H:Hp}{R:Int→Hp→Prop}(I:au X pins σ H s)(h:ta σ H fun vs H1=>∃j:Int,vs=[.int j]∧R j H1):
    wpAny (model X.prog X.w) X.A (eval (.Call (.Name "range" p) [a] [] pos) X.env) (fun v s1=>∃(r:Addr) (j:Int) (H1:Hp) (t u w:Tok),v=.ref r∧IsRange s1.heap r 0 j 1 t u w∧r < s1.heap.objs.size∧au X pins σ H1 s1∧R j H1) X.xe s:=by
  refine Call_ (jE I hg hm boot_range (PyProof.Rows.callWith_type1 (bz (ha pos pins s σ H _ I h) fun us s1 ⟨vs,H1,I1,r1,q1⟩=>?_) hs rfl))
  obtain⟨j,e,q⟩:=q1
  subst e
  cases r1 with
  | cons r rr=>
    cases rr
    obtain⟨t,rfl⟩:=r
    exact call_range_1 ⟨_,j,H1,_,_,_,rfl,IsRange.new ..,by simp [Heap.size_push],I1.kept fun b o e=>Heap.get?_push_of_some _ e,q⟩
def Dl(ta:TA):TE:=fun σ H Q=>ta σ H fun vs H1=>∃j:Int,vs=[.int j]∧(0≤j∧j≤100000∧∀l,H1 l=none→Q (.ref l) (aX H1 l (.lst ((cK j.toNat).map V.int))))
theorem mL(hc:X.calm=true)(hgl:Gl X "list")(hml:X.mg "list"=none)(hg:Gl X "range")(hm:X.mg "range"=none)(ha:PA X [a] ta)(hs:starEach [a] X.env=[(false,eval a X.env)]:=by rfl)
    (he:starEach [.Call (.Name "range" p) [a] [] pos] X.env=(false,eval (.Call (.Name "range" p) [a] [] pos) X.env)::starEach [] X.env:=by rfl):PE X (.Call (.Name "list" p2) [.Call (.Name "range" p) [a] [] pos] [] pos2) (Dl ta):=by
  intro pins s σ H Q I h
  refine wpAny_Call_Name_kw (jE I hgl hml PyProof.Rows.boot_list ?_ (by decide) (by decide))
  refine PyProof.Rows.callWith_type1 ?_ he rfl
  rw [he]
  refine Calls.spliced_cons (bz (sx hg hm ha hs I h) fun u s1 ⟨r,j,H1,t,u1,w,e,hr,lt,I1,j0,j1,q⟩=>?_)
  subst e
  refine wpAny_pure ?_
  have hsm:Builtin.Range.small 0 j 1=true:=small_one (by decide) (by decide) (by lia) (by lia)
  refine call_list_range (n:=j.toNat) (I1.ok.hd hc) hr hsm (by rw [rangeSize_one];split<;>lia) (Nat.le_trans (show j.toNat≤100000 by lia) (by decide)) fun h' tk acc c hk hD hI=>?_
  have hf:H1 s1.heap.objs.size=none:=I1.hok.fresh (Nat.le_refl _)
  have vv:aE ((cK j.toNat).map V.int) acc.toList:=by
    have z:=qK acc.toList (fun k=>(k:Int)) fun k v e=>by
      obtain⟨t,ht⟩:=hI.2 k v (by simpa using e)
      exact⟨t,by rw [ht];simp⟩
    rw [Array.length_toList,hI.1] at z
    rw [cK,List.map_map]
    exact z
  refine⟨.ref s1.heap.objs.size,_,I1.laid (o:=.lst ((cK j.toNat).map V.int)) hk (Nat.le_refl _) ⟨?_,acc.toList,c,vv,by simpa using hD⟩,rfl,q _ hf⟩
  rw [List.length_map,kU,sizeLine_eq];lia
end
end L2
namespace L2
open PySem PySem.Spec PyProof.Rows
theorem rh:fillsNumberSlot (.type "tuple") "mul"=pure false:=
  PySem.fillsNumberSlot_seq (id:="tuple.__mul__") (r:=some (.builtin "tuple.__rmul__")) F.slot_tuple_mul.lookup (by decide+kernel) F.slot_tuple_rmul.lookup (by decide+kernel)
theorem zq:seqRepeat? (.type "tuple")=pure (some (.builtin "tuple.__mul__")):=by
  unfold seqRepeat?;rw [PySem.seqSlot_of (T:="tuple") (name:="__mul__") (id:="tuple.__mul__") F.slot_tuple_mul.lookup (by decide+kernel),PySem.seqSlot_of (T:="tuple") (name:="__rmul__") (id:="tuple.__rmul__") F.slot_tuple_rmul.lookup (by decide+kernel)];rfl
theorem wq(a:Int)(t:Tok)(l:Addr)(items:Array Value)(n:Nat)(dd:Option Addr)(sl:Array (Option Value)):
    Meets (Builtin.«int.__rmul__» ⟨[.int a t,.ref l],[]⟩) (fun _ R s=>s.heap.get? l=some {cls:=.type "tuple",dict:=dd,data:=.seq items n,slots:=sl}∧R (.ok (.ret Value.notImplemented)) s):=
  .of_wp fun prog w A R s h=>by obtain⟨hp,g,d,tk,os⟩:=s;obtain⟨hl,h⟩:=h;wp_walk;exact⟨_,rfl,h⟩
theorem yq(l:Addr)(x:Value)(n:Nat)(k:Int)(u:Tok)(dd:Option Addr)(sl:Array (Option Value))(h0:2≤k)(h1:k≤100000):
    Meets (Builtin.«tuple.__mul__» ⟨[.ref l,.int k u],[]⟩) (fun _ R s=>s.heap.get? l=some {cls:=.type "tuple",dict:=dd,data:=.seq #[x] n,slots:=sl}∧
      R (.ok (.ret (.ref s.heap.objs.size))) {s with heap:=s.heap.push {cls:=.type "tuple",data:=.seq (List.replicate k.toNat x).toArray}}):=
  .of_wp fun prog w A R s h=>by
    obtain⟨hp,g,d,tk,os⟩:=s;obtain⟨hl,h⟩:=h
    have f1:=AutoSeq1.idx_int
    have c1:¬(decide (k < -(2 ^ 63)) || decide (k≥2 ^ 63))=true:=by simp;lia
    have c2:¬((#[x]:Array Value).isEmpty || k==1)=true:=by simp;lia
    have c3:¬(decide (k≤0) || (#[x]:Array Value).isEmpty)=true:=by simp;lia
    have c4:¬(((#[x]:Array Value).size:Int)*k > (2 ^ 63 - 1) / 8):=by simp;lia
    have c5:¬Builtin.Tuple.tupleTooMany (((#[x]:Array Value).size:Int)*k)=true:=by
      unfold Builtin.Tuple.tupleTooMany;rw [sizeLine_eq];simp;lia
    wp_walk using wpAny_loadPart' hl
    rw [if_neg c1]
    wp_walk using wpAny_loadPart' hl
    rw [if_neg c2]
    wp_walk using wpAny_loadPart' hl
    rw [if_neg c3]
    wp_walk using wpAny_loadPart' hl
    rw [if_neg c4]
    show wpAny _ _ (if Builtin.Tuple.tupleTooMany (((#[x]:Array Value).size:Int)*k)=true then _ else _) _ _ _
    rw [if_neg c5]
    have f0:∀(m:Nat) (acc:Array Value),List.foldl (fun x1 x2=>x1++x2) acc (List.replicate m #[x])=acc++(List.replicate m x).toArray:=by
      intro m
      induction m with
      | zero=>intro acc;simp
      | succ m ih=>intro acc;rw [List.replicate_succ,List.foldl_cons,ih,List.replicate_succ];apply Array.toList_inj.mp;simp
    have e:List.foldl (fun x1 x2=>x1++x2) #[] (List.replicate k.toNat #[x])=(List.replicate k.toNat x).toArray:=by rw [f0];simp
    show wpAny _ _ (Builtin.Tuple.tupleExact (List.foldl (fun x1 x2=>x1++x2) #[] (List.replicate k.toNat #[x])) >>= fun v=>ret v) _ _ _
    rw [e]
    unfold Builtin.Tuple.tupleExact
    refine wpAny_bind (wpAny_newObj_type ?_ (by show(List.replicate k.toNat x).toArray.size≤sizeLine;rw [List.size_toArray,List.length_replicate,sizeLine_eq];lia))
    exact wpAny_pure ⟨_,rfl,h⟩
theorem vx(l:Addr)(x:Value)(n:Nat)(u:Tok)(dd:Option Addr)(sl:Array (Option Value)):
    Meets (Builtin.«tuple.__mul__» ⟨[.ref l,.int 0 u],[]⟩) (fun _ R s=>s.heap.get? l=some {cls:=.type "tuple",dict:=dd,data:=.seq #[x] n,slots:=sl}∧R (.ok (.ret (.ref s.heap.objs.size))) {s with heap:=s.heap.push {cls:=.type "tuple",data:=.seq #[]}}):=
  .of_wp fun prog w A R s h=>by
    obtain⟨hp,g,d,tk,os⟩:=s;obtain⟨hl,h⟩:=h;have f1:=AutoSeq1.idx_int
    have c2:¬((#[x]:Array Value).isEmpty || (0:Int)==1)=true:=by simp
    wp_walk using wpAny_loadPart' hl
    first | rw [if_neg c2] | skip
    wp_walk using wpAny_loadPart' hl
    exact⟨_,rfl,h⟩
theorem vy(l:Addr)(x:Value)(n:Nat)(u:Tok)(dd:Option Addr)(sl:Array (Option Value)):
    Meets (Builtin.«tuple.__mul__» ⟨[.ref l,.int 1 u],[]⟩) (fun _ R s=>s.heap.get? l=some {cls:=.type "tuple",dict:=dd,data:=.seq #[x] n,slots:=sl}∧R (.ok (.ret (.ref l))) s):=
  .of_wp fun prog w A R s h=>by
    obtain⟨hp,g,d,tk,os⟩:=s;obtain⟨hl,h⟩:=h;have f1:=AutoSeq1.idx_int
    wp_walk using wpAny_loadPart' hl
    exact⟨_,rfl,h⟩
section
variable{X:Cx}
def uk(K:PySem.W.Frag):R2:=fun x y H Q=>∃a k v,x=.ref a∧y=.int k∧dQ K H a [v]∧0≤k∧k≤100000∧∀p H',av H H'→dQ K H' p (List.replicate k.toNat v)→Q (.ref p) H'
theorem vP:fg X (binaryOp .Mult) (uk X.K):=by
  intro pins s σ H x y v u Q I rx ry h
  obtain⟨a,k,z,rfl,rfl,ha,k0,k1,q⟩:=h
  cases rx
  obtain⟨t,rfl⟩:=ry
  obtain⟨its,r,p,hz⟩:=I.tuple ha
  obtain⟨uz,rfl,rz⟩:=fK r
  obtain⟨⟨cls,dd,data,sl⟩,ho,hc,n,hd⟩:=id p
  simp only at hc hd
  subst hc hd
  refine wpAny_binaryOp_repeat_ref (T:="tuple") (U:="int") (by decide) ⟨_,ho,rfl⟩ (fun s'=>PySem.typeIs_int s' k t) rh F.fills_int_mul F.slot_int_rmul zq F.slot_int_index.lookup (call_meets F.slot_int_rmul (PySem.typeIs_int s k t) F.entry_int_rmul (F.args_int_rmul_2 _ _) (wq k t a #[uz] n dd sl) ⟨ho,rfl,⟨_,ho,rfl⟩,?_⟩)
  have new:∀m:Nat,m=k.toNat→EP X pins σ Q (.ref s.heap.objs.size) {s with heap:=s.heap.push {cls:=.type "tuple",data:=.seq (List.replicate m uz).toArray},toks:=s.toks}:=fun m hm=>by
    have hf:H s.heap.objs.size=none:=I.hok.fresh (Nat.le_refl _)
    have vv:∀j:Nat,aE (List.replicate j z) (List.replicate j uz):=fun j=>by
      induction j with
      | zero=>exact .nil
      | succ j ih=>exact .cons rz ih
    refine⟨.ref s.heap.objs.size,_,I.laid (t':=s.toks) (o:=.tup (List.replicate m z)) (fun b ob q=>Heap.get?_push_of_some _ q) (Nat.le_refl _) ⟨by rw [List.length_replicate,sizeLine_eq];lia,_,vv m,k_.new _ _⟩,rfl,q _ _ (av.new hf) (dQ.of (by rw [aq,hm]))⟩
  rcases(by lia:k=0∨k=1∨2≤k) with e | e | e
  · subst e
    exact call_meets F.slot_tuple_mul ⟨_,ho,rfl⟩ F.entry_tuple_mul (F.args_tuple_mul_2 _ _) (vx a uz n t dd sl) ⟨ho,new 0 rfl⟩
  · subst e
    exact call_meets F.slot_tuple_mul ⟨_,ho,rfl⟩ F.entry_tuple_mul (F.args_tuple_mul_2 _ _) (vy a uz n t dd sl) ⟨ho,⟨.ref a,H,I,rfl,q a H (av.refl H) ha⟩⟩
  · exact call_meets F.slot_tuple_mul ⟨_,ho,rfl⟩ F.entry_tuple_mul (F.args_tuple_mul_2 _ _) (yq a uz n k t dd sl e k1) ⟨ho,new _ rfl⟩
end
end L2
namespace L2
open PySem PySem.Spec PyProof.Rows
section
variable{prog:Program}{w:World}{A:Around}{E:Value→Shared→Prop}{s:Shared}
end
section
variable{X:Cx}{a:Expr}{ta:TA}{p p2 p3 pos pos2 pos3:Pos}
end
end L2
namespace L2
open PySem PySem.Spec PyProof.Rows
section
variable{prog:Program}{w:World}{A:Around}{E:Value→Shared→Prop}{s:Shared}
end
section
variable{X:Cx}{K:PySem.W.Frag}{es:List Expr}{k0:Nat}{tp:Pos}{a:Expr}{ta:TA}{p pos:Pos}
end
end L2
namespace L2
open PySem PySem.Spec PyProof.Rows
section
variable{prog:Program}{w:World}{A:Around}{E:Value→Shared→Prop}{s:Shared}
end
section
variable{prog:Program}{w:World}{A:Around}{E:Value→Shared→Prop}{s:Shared}
end
section
variable{prog:Program}{w:World}{A:Around}{E:Value→Shared→Prop}{s:Shared}
end
end L2
namespace L2
open PySem PySem.Spec PyProof.Rows
theorem pv{X:Cx}{ix:Nat}{nm:Str}{posn poss:Pos}{elt iter tg:Expr}{ifs:List Expr}{scope:Scope}{pos:Pos}{wi:TI}{g:TG}{tc:TT}{te:TE}(sc0:Scope)(N0:List Str)(cp:List (Nat × Str))(tgN:List Str)
    (hc:X.calm=true)(hsc:X.env.scope=sc0)(hN0:X.N=N0)(hi:PI X tg iter wi)
    (hg:∀C s0 H0 fp,PG (ao X scope cp tgN C s0 H0 fp) tg g)
    (ht:∀C s0 H0 fp,mZ (ao X scope cp tgN C s0 H0 fp) ifs tc)
    (he:∀C s0 H0 fp,PE (ao X scope cp tgN C s0 H0 fp) elt te)
    (hk:scope.kind=.function)(hcell:∀y∈scope.names,y.2≠.cell)(hnames:∀y∈scope.names,y.2=.local→scope.names.lookup y.1=some .local)
    (hfr:∀y∈scope.names,y.2=.free→scope.names.lookup y.1=some .free∧sc0.names.lookup y.1=some .cell)
    (hcp:∀p∈cp,N0[p.1]?=some p.2)(hcq:∀p∈cp,sc0.names.lookup p.2=some .cell∧scope.names.lookup p.2=some .free)
    (hNd:X.N.Nodup)(hix:X.N[ix]?=some nm)(hlc:X.env.scope.names.lookup nm=some .local)(hsw:swapsWith (.ListComp elt [⟨tg,iter,ifs,0⟩] scope pos) (some (.Name nm posn)) poss.line X.env=pure true)
    (hs:∀x,foldedSetIterable iter X.env x=pure x:=by intro _;rfl):
    PS X (.Assign [.Name nm posn] (.ListComp elt [⟨tg,iter,ifs,0⟩] scope pos) poss) (wB (oC cp tgN.length wi g tc te) (qf ix)):=by
  intro pins s σ H D0 I h
  let Q:VK:=fun x H1=>D0.nx (σ.set ix (some x)) H1
  have h:oC cp tgN.length wi g tc te σ H Q:=h
  have hkind:∀x,X.env.kindOf x=sc0.names.lookup x:=fun x=>by unfold Env.kindOf;rw [hsc]
  have hfree:∀y∈scope.names,y.2=.free→∃c,X.env.cells.lookup y.1=some c:=fun y hy e=>I.ok.has y.1 (.inl (by rw [hkind];exact(hfr y hy e).2))
  rw [exec_Assign_Name_used _ _ _ _ hsw]
  refine wpAny_bind (wpAny_standAt (wpAny_bind ?_))
  unfold evalThenUse
  refine wpAny_bind ?_
  refine wpAny_comprehension_free (use:=some (assign (.Name nm posn) X.env)) rfl hs (iE hfree) hk hnames (wpAny_mono (hi pins s σ H _ I h.go) (fun xv s₁ h₁=>wpAny_mono h₁ (fun itv s₂ h₂=>?_) fun _ _ e=>e) fun _ _ e=>e)
  obtain⟨it,fp,tn,J,H2,rfl,I2,T,st2,f2,hq⟩:=h₂
  refine wpAny_newObj_type ?_
  have hlF:H2 s₂.heap.objs.size=none:=I2.hok.fresh (Nat.le_refl _)
  have I3:au X pins σ (aX H2 s₂.heap.objs.size (.lst [])) {s₂ with heap:=s₂.heap.push {cls:=.type "list",data:=.seq ([]:List Value).toArray}}:=I2.lnew (t':=s₂.toks) .nil (Nat.zero_le _)
  obtain⟨W,⟨m0,w0⟩,turn⟩:=hq _ hlF
  have f3:∀b∈fp,ir X pins (aX H2 s₂.heap.objs.size (.lst [])) b:=fun b hb=>by
    obtain⟨f0,fr⟩:=f2 b hb
    obtain⟨o,ho,_⟩:=T.obj _ _ st2 b hb
    exact⟨by rw [aJ (Nat.ne_of_lt (Heap.lt_size ho))];exact f0,fr⟩
  have st3:tn 0 (s₂.heap.push {cls:=.type "list",data:=.seq ([]:List Value).toArray}):=T.keep _ _ _ st2 fun b _ o e=>Heap.get?_push_of_some _ e
  generalize hD:s₂.heap.objs.size=D at*
  generalize hs3:({s₂ with heap:=s₂.heap.push {cls:=.type "list",data:=.seq ([]:List Value).toArray}}:Shared)=s₃ at*
  have hst3:tn 0 s₃.heap:=by rw [←hs3];exact st3
  refine wpAny_newFunctionEnv hcell (by intro y hy;simp at hy) (fun h₁ hns₁ hsb₁=>?_) hk
  generalize hC:s₃.heap.objs.size=C at*
  have old:∀b o,s₃.heap.get? b=some o→h₁.get? b=some o:=fun b o e=>hsb₁.extBut b o (by rw [←hC];exact Nat.ne_of_lt (Heap.lt_size e)) (Heap.get?_push_of_some _ e)
  have nC:∀b o,s₃.heap.get? b=some o→b≠C:=fun b o e=>by rw [←hC];exact Nat.ne_of_lt (Heap.lt_size e)
  have hHC:(aX H2 D (.lst [])) C=none:=I3.hok.fresh (by rw [hC];exact Nat.le_refl _)
  have clS:∀x c,(eS X.env scope.names []).lookup x=some c→X.env.cells.lookup x=some c:=fun x c e=>f9 _ _ x c hfree (fun _ _ z=>by simp at z) e
  have clH:∀x,(∃y∈scope.names,y.1=x∧y.2=.free)→∃c,(eS X.env scope.names []).lookup x=some c:=fun x e=>iX _ _ x (.inl e)
  have ok':(ao X scope cp tgN C s₃ (aX H2 D (.lst [])) fp).Ok:=by
    refine⟨I.ok.mod,hk,I.ok.glob,I.ok.blt,by rw [←hC];exact Nat.le_refl _,fun x y c e1 e2=>I.ok.inj x y c (clS _ _ e1) (clS _ _ e2),fun x e=>clH x (bW hcell e),fun x c e1 e2=>?_,I.ok.hd,I.ok.frames,.inl rfl,fun b hb=>?_,fun b o e=>I3.bs b o e,?_,fun b o e hb=>?_,fun b hb z=>?_,I3.stack,fun b hb=>I3.stkFree b hb⟩
    · exfalso
      have e1':scope.names.lookup x=some .local:=by simpa [ao] using e1
      have e2':=clS x c e2
      obtain⟨c',hc'⟩:∃y∈scope.names,y.1=x∧y.2=.free:=by
        by_cases q:∃y∈scope.names,y.1=x∧y.2=.free
        · exact q
        · exfalso
          have:∀(names:List (Str × NameKind)) (cs:List (Str × Addr)),(¬∃y∈names,y.1=x∧y.2=.free)→cs.lookup x=none→(eS X.env names cs).lookup x=none:=by
            intro names
            induction names with
            | nil=>intro cs _ h;exact h
            | cons y r ih=>
              intro cs hn hcs
              obtain⟨n,k⟩:=y
              refine ih _ (fun⟨y,hy,z⟩=>hn ⟨y,List.mem_cons_of_mem _ hy,z⟩) ?_
              by_cases hk:(k==NameKind.free)=true
              · rw [if_pos hk,List.lookup_cons]
                cases hx:x==n with
                | true=>exact absurd ⟨(n,k),List.mem_cons_self,(by simpa using hx:x=n).symm,by simpa using hk⟩ hn
                | false=>exact hcs
              · rw [if_neg hk];exact hcs
          have z:=this scope.names [] q rfl
          have e2'':(eS X.env scope.names []).lookup x=some c:=e2
          rw [z] at e2'';cases e2''
      have z:=(hfr c' hc'.1 hc'.2.2).1
      rw [hc'.2.1,e1'] at z;cases z
    · obtain⟨f0,f1,f4,f5,f6,f7⟩:=f3 b hb
      obtain⟨o,ho,_⟩:=T.obj _ _ hst3 b hb
      exact⟨nC b o ho,fun x c e=>f6 x c (clS x c e)⟩
    · exact Nat.le_trans I.ok.bsz I3.sz
    · obtain⟨f0,f1,f4,f5,f6,f7⟩:=f3 b hb
      rcases f5 with z | z
      · exact I.ok.noex b o e z
      · have:=(I.ok.bs b o e).1
        exact absurd (Nat.lt_of_lt_of_le (Heap.lt_size this) z) (Nat.lt_irrefl _)
    · obtain⟨f0,f1,f4,f5,f6,f7⟩:=f3 b hb
      rcases List.mem_cons.mp (I3.stkSub b z) with z | z
      · exact f1 z
      · exact f4 z
  have I4:au (ao X scope cp tgN C s₃ (aX H2 D (.lst [])) fp) [] (c9 cp tgN.length σ) (aX H2 D (.lst [])) {s₃ with heap:=h₁,toks:=s₃.toks+([]:List (Str × Value)).length}:=by
    refine⟨ok',rfl,I3.bare,Un.kept old,⟨_,hns₁,fun i x v e1 e2 e3=>?_⟩,fun x c e=>?_,hHC,fun x c e=>I3.freeC x c (clS x c e),fun p hp=>by simp [ao] at hp,I3.hok.kept old,by simp [c9,ao]⟩
    · have hlt:i < cp.length:=by
        by_cases q:i < cp.length
        · exact q
        · exfalso
          unfold c9 at e2
          rw [List.getElem?_append_right (by simp;lia)] at e2
          rw [List.getElem?_replicate] at e2
          split at e2<;>cases e2
      have e1':(cp.map (·.2))[i]?=some x:=by
        have e1'':(cp.map (·.2)++tgN)[i]?=some x:=e1
        rwa [List.getElem?_append_left (by simp;exact hlt)] at e1''
      have e2':(cp.map (fun p=>(σ[p.1]?).join))[i]?=some (some v):=by
        unfold c9 at e2
        rwa [List.getElem?_append_left (by simp;exact hlt)] at e2
      rw [List.getElem?_map,List.getElem?_eq_getElem hlt] at e1' e2'
      have ex:(cp[i]).2=x:=by simpa using e1'
      have ev:(σ[(cp[i]).1]?).join=some v:=by simpa using e2'
      have ev':σ[(cp[i]).1]?=some (some v):=by
        cases q:σ[(cp[i]).1]? with
        | none=>rw [q] at ev;cases ev
        | some z=>rw [q] at ev;simp only [Option.join_some] at ev;rw [ev]
      have hN:=hcp cp[i] (List.getElem_mem hlt)
      rw [←hN0] at hN
      obtain⟨hcl,hcf⟩:=hcq cp[i] (List.getElem_mem hlt)
      rw [ex] at hN hcl hcf
      obtain⟨m,hn,hl⟩:=I3.loc
      obtain⟨u,r,l⟩:=hl _ x v hN ev' (.inr (.inl (by rw [hsc];exact hcl)))
      refine⟨u,r,.inr ?_⟩
      rcases l with ⟨k1,_⟩ | ⟨k1,c,hcc,o,ho,hd⟩
      · rw [hkind,hcl] at k1;cases k1
      · have e3':(relabel scope X.env).names.lookup x=some .local∨(relabel scope X.env).names.lookup x=some .cell∨(relabel scope X.env).names.lookup x=some .free:=e3
        have nl:(relabel scope X.env).names.lookup x=some .cell∨(relabel scope X.env).names.lookup x=some .free:=by
          rcases e3' with z | z | z
          · exact absurd z (dj hcf)
          · exact .inl z
          · exact .inr z
        obtain⟨c',hc'⟩:=clH x (bW hcell nl)
        have:=clS x c' hc'
        rw [hcc] at this;cases this
        exact⟨nl,c,hc',o,old c o ho,hd⟩
    · obtain⟨v,o,ho,hd⟩:=I3.cell x c (clS x c e)
      exact⟨v,o,old c o ho,hd⟩
  have hst4:tn 0 h₁:=T.keep _ _ _ hst3 fun b _ o e=>old b o e
  have loop:codeAny (model X.prog X.w) X.A (.compLoop (.ListComp elt [⟨tg,iter,ifs,0⟩] scope pos) 0 (.ref it) (.ref D) (compEnvC scope (eS X.env scope.names []) C X.env))
      (compPost (model X.prog X.w) X.A X.xe (some (assign (.Name nm posn) X.env)) (fun _ s'=>wpAny (model X.prog X.w) X.A (pure ()) (fun _ s''=>wpAny (model X.prog X.w) X.A (pure Flow.next) (SP X pins D0) X.xe s'') X.xe s') (.ref D) C) {s₃ with heap:=h₁,toks:=s₃.toks+([]:List (Str × Value)).length}:=by
    refine iZ (fun n s'=>∃i σ' H',au (ao X scope cp tgN C s₃ (aX H2 D (.lst [])) fp) [] σ' H' s'∧tn i s'.heap∧(∀b∈fp,H' b=none)∧W i n σ' H') ?_ (n0:=m0) ⟨0,_,_,I4,hst4,fun b hb=>(f3 b hb).1,w0⟩
    rintro n s5 ⟨i,σ5,H5,I5,st5,fr5,w5⟩
    have stat:∀{H':Hp},(∀b∈fp,H' b=none)→∀b∈fp,ir (ao X scope cp tgN C s₃ (aX H2 D (.lst [])) fp) [] H' b:=fun hn b hb=>
      ⟨hn b hb,(ok'.exf b hb).1,ok'.exfs b hb,.inl hb,(ok'.exf b hb).2,fun p hp=>by simp [ao] at hp⟩
    rcases turn i n σ5 H5 w5 with ⟨stop,qn⟩ | ⟨go,N,hN,step⟩
    · refine bz (T.done (ao X scope cp tgN C s₃ (aX H2 D (.lst [])) fp) rfl rfl rfl hc i [] s5 σ5 H5 (fun _ _=>False) I5 (stat fr5) st5 stop) fun r s6 ⟨hr,I6⟩=>?_
      subst hr
      refine⟨fun _=>?_,fun v z=>by cases z⟩
      obtain⟨m,hn,_⟩:=I6.loc
      have I7:au X pins σ H5 s6:=by
        have key:∀h':Heap,Heap.SameBut C s6.heap h'→au X pins σ H5 {s6 with heap:=h'}:=fun h' sb=>by
          have ub:=I6.base
          have kp:∀b u,b≠C→s6.heap.get? b=some u→h'.get? b=some u:=fun b u ne e=>sb.extBut b u ne e
          have nit:∀b u,H5 b=some u→b≠C:=fun b u e z=>by
            have:=I6.free
            rw [z] at e
            rw [show H5 C=none from this] at e;cases e
          refine I3.call' (s':={s6 with heap:=h'}) (ch:=fp) I6.os ⟨fun b o e n hb hx=>kp b o (nC b o e) (ub.keep b o e n hb hx),fun b o e n hb hx=>?_,ub.free,fun b o e hx=>?_,ub.tups,ub.frzs,ub.tbls⟩ (fun b u e=>?_) I6.bare (fun b hb=>?_)
          · obtain⟨sl,q⟩:=ub.slot b o e n hb hx
            exact⟨sl,kp b _ (nC b o e) q⟩
          · obtain⟨o',q⟩:=ub.there b o e hx
            exact⟨o',kp b _ (nC b o e) q⟩
          · refine(I6.hok b u e).stay (fun c v hc q=>kp c v ?_ q) (fun _ q=>q) fun _ _ q=>q
            rcases hc with z | z
            · rw [z];exact nit b u e
            · exact nit c _ z
          · obtain⟨f0,f1,f4,f5,f6,f7⟩:=f3 b hb
            exact⟨f5,f1,f6,f7⟩
        exact key s6.heap ⟨rfl,fun _ _=>rfl⟩
      have fC:ir X pins H5 C:=I3.fpOk (by rw [hC];exact Nat.le_refl _) I6.free
      show wpAny (model X.prog X.w) X.A (assign (.Name nm posn) X.env (.ref D)) _ X.xe s6
      refine wpAny_assign_Name (jR (v:=.ref D) I7 hNd hix (Or.inl hlc) rfl (fun s' I' hsb=>?_) (Or.inr hlc))
      obtain⟨a,sb,ha⟩:=hsb
      have nCa:C≠a:=by
        rcases ha with z | z
        · rw [z];exact fC.2.1
        · exact fun e=>fC.2.2.2.2.1 _ _ z e.symm
      obtain⟨oN,esN,epN,hoN,rN⟩:=hn
      refine⟨m,⟨oN,esN,epN,(sb.2 C nCa).trans hoN,rN⟩,fun h' sb'=>wpAny_pure (wpAny_pure ?_)⟩
      have I8:au X pins (σ.set ix (some (.ref D))) H5 {s' with heap:=h',toks:=s'.toks}:=I'.turnedL (t':=s'.toks) (fp:=[C]) (fun b hb=>by rw [List.mem_singleton.mp hb];exact fC) fun b o nb e=>sb'.extBut b o (by simpa using nb) e
      exact⟨_,H5,I8,qn⟩
    · refine bz (T.item (ao X scope cp tgN C s₃ (aX H2 D (.lst [])) fp) rfl rfl rfl hc i [] s5 σ5 H5 (fun _ _=>False) I5 (stat fr5) st5 go) fun r s6 ⟨u,hr,h6⟩=>?_
      subst hr
      refine⟨fun z=>(by cases z),fun v z=>?_⟩
      cases z
      refine bz h6 fun _ s7 ⟨x,H7,I7,r7,y7,st7,fr7⟩=>?_
      have I7':=I7.pinned (stat fr7) (T.obj _ _ st7)
      have again:∀{σ8:L2.St} {H8:Hp} {s8:Shared},au (ao X scope cp tgN C s₃ (aX H2 D (.lst [])) fp) ([]++gZ fp s7.heap) σ8 H8 s8→N σ8 H8→∃m,m < n∧∃i σ' H',au (ao X scope cp tgN C s₃ (aX H2 D (.lst [])) fp) [] σ' H' s8∧tn i s8.heap∧(∀b∈fp,H' b=none)∧W i m σ' H':=fun{σ8 H8 s8} I8 n8=>by
        obtain⟨m',hm,w8⟩:=hN σ8 H8 n8
        refine⟨m',hm,i+1,σ8,H8,I8.unpinned,T.keep _ _ _ st7 fun b hb o e=>(I8.pin (b,o) (List.mem_append_right _ (List.mem_append_right _ (bJ hb e)))).1,fun b hb=>?_,w8⟩
        obtain⟨o,e,d⟩:=T.obj _ _ st7 b hb
        exact(I8.pin (b,o) (List.mem_append_right _ (List.mem_append_right _ (bJ hb e)))).2.1
      refine bz (hg C s₃ (aX H2 D (.lst [])) fp _ s7 σ5 H7 x u _ I7' r7 (step x H7 y7)) fun _ s8 ⟨σ8,H8,I8,q8⟩=>?_
      refine bz (ht C s₃ (aX H2 D (.lst [])) fp _ s8 σ8 H8 _ I8 q8) fun ok s9 ⟨H9,I9,q9⟩=>?_
      cases ok with
      | false=>
        rw [if_neg Bool.false_ne_true] at q9 ⊢
        exact again I9 q9
      | true=>
        rw [if_pos rfl] at q9 ⊢
        refine bz (he C s₃ (aX H2 D (.lst [])) fp _ s9 σ8 H9 _ I9 q9) fun v s10 ⟨xv,H10,I10,r10,ys,hl,hz,n10⟩=>?_
        refine bz (il _ s10 σ8 H10 (.ref D) [xv] (.ref D) [v] (fun _ H=>N σ8 H) I10 rfl (.cons r10 .nil) ⟨D,ys,xv,rfl,rfl,hl,hz,n10⟩) fun _ s11 ⟨_,H11,I11,_,q11⟩=>?_
        exact again I11 q11
  exact codeAny_compStart_list loop (T.self X.A 0 _ _ _ hst4 loop)
end L2
namespace L2
open PySem PySem.Spec PyProof.Rows
mutual
def DA(K:PySem.W.Frag)(F:Hp):PyData→V→Prop
  | .none,v=>v=.non
  | .bool b,v=>v=.bl b
  | .int i,v=>v=.int i
  | .str x,v=>v=.str x
  | .tuple ds,v=>∃a xs,v=.ref a∧dQ K F a xs∧ax K F ds xs
  | .list ds,v=>∃a xs,v=.ref a∧em K F a xs∧ax K F ds xs
  | .dict kvs,v=>∃(a:Addr) (m:List (Int × Int)),v=.ref a∧F a=some (.dK (m.map fun p=>(Sum.inl p.1,V.int p.2)))∧kvs=m.map fun p=>(PyData.int p.1,PyData.int p.2)
def ax(K:PySem.W.Frag)(F:Hp):List PyData→List V→Prop
  | [],xs=>xs=[]
  | d::ds,xs=>∃x r,xs=x::r∧DA K F d x∧ax K F ds r
end
mutual
theorem DA.mono{K:PySem.W.Frag}{F F':Hp}(h:av F F'):∀{d:PyData} {v:V},DA K F d v→DA K F' d v
  | .none,_,q=>by simp only [DA] at q ⊢;exact q
  | .bool b,_,q=>by simp only [DA] at q ⊢;exact q
  | .int i,_,q=>by simp only [DA] at q ⊢;exact q
  | .str x,_,q=>by simp only [DA] at q ⊢;exact q
  | .tuple ds,_,q=>by
    simp only [DA] at q ⊢
    obtain⟨a,xs,e,s,r⟩:=q
    exact⟨a,xs,e,h.tup s,ax.mono h r⟩
  | .list ds,_,q=>by
    simp only [DA] at q ⊢
    obtain⟨a,xs,e,s,r⟩:=q
    exact⟨a,xs,e,h.seq s,ax.mono h r⟩
  | .dict _,_,q=>by
    simp only [DA] at q ⊢
    obtain⟨a,m,e,s,k⟩:=q
    exact⟨a,m,e,h _ _ s,k⟩
theorem ax.mono{K:PySem.W.Frag}{F F':Hp}(h:av F F'):∀{ds:List PyData} {xs:List V},ax K F ds xs→ax K F' ds xs
  | [],_,q=>by simp only [ax] at q ⊢;exact q
  | d::ds,_,q=>by
    simp only [ax] at q ⊢
    obtain⟨x,r,e,a,b⟩:=q
    exact⟨x,r,e,DA.mono h a,ax.mono h b⟩
end
section
variable{K:PySem.W.Frag}{F:Hp}
theorem ax.len:∀{ds:List PyData} {xs:List V},ax K F ds xs→ds.length=xs.length
  | [],_,q=>by simp only [ax] at q;subst q;rfl
  | d::ds,_,q=>by
    simp only [ax] at q
    obtain⟨x,r,e,a,b⟩:=q
    subst e
    simp [ax.len b]
theorem ax.get:∀{ds:List PyData} {xs:List V} {i:Nat} {d:PyData},ax K F ds xs→ds[i]?=some d→∃v,xs[i]?=some v∧DA K F d v
  | [],_,_,_,_,h=>by simp at h
  | d::ds,_,i,d',q,h=>by
    simp only [ax] at q
    obtain⟨x,r,e,a,b⟩:=q
    subst e
    cases i with
    | zero=>simp at h;subst h;exact⟨x,rfl,a⟩
    | succ i=>
      obtain⟨v,h1,h2⟩:=ax.get (i:=i) b (by simpa using h)
      exact⟨v,by simpa using h1,h2⟩
theorem ax.append:∀{ds es:List PyData} {xs ys:List V},ax K F ds xs→ax K F es ys→ax K F (ds++es) (xs++ys)
  | [],_,_,_,q,s=>by simp only [ax] at q;subst q;simpa using s
  | d::ds,es,_,ys,q,s=>by
    simp only [ax] at q
    obtain⟨x,r,e,a,b⟩:=q
    subst e
    simp only [List.cons_append,ax]
    exact⟨x,_,rfl,a,ax.append b s⟩
theorem ax.one{d:PyData}{v:V}(h:DA K F d v):ax K F [d] [v]:=by simp only [ax];exact⟨_,_,rfl,h,rfl⟩
theorem ax.nil:ax K F [] []:=by simp only [ax]
theorem ax.cons{d:PyData}{v:V}{ds:List PyData}{vs:List V}(h:DA K F d v)(r:ax K F ds vs):ax K F (d::ds) (v::vs):=by simp only [ax];exact⟨_,_,rfl,h,r⟩
theorem ax.drop:∀{ds:List PyData} {xs:List V} (n:Nat),ax K F ds xs→ax K F (ds.drop n) (xs.drop n)
  | _,_,0,q=>q
  | [],_,n+1,q=>by simp only [ax] at q;subst q;exact ax.nil
  | d::ds,_,n+1,q=>by
    simp only [ax] at q
    obtain⟨x,r,e,a,b⟩:=q
    subst e
    simpa using ax.drop n b
theorem ax.take:∀{ds:List PyData} {xs:List V} (n:Nat),ax K F ds xs→ax K F (ds.take n) (xs.take n)
  | _,_,0,q=>by simpa using ax.nil
  | [],_,n+1,q=>by simp only [ax] at q;subst q;exact ax.nil
  | d::ds,_,n+1,q=>by
    simp only [ax] at q
    obtain⟨x,r,e,a,b⟩:=q
    subst e
    simpa using ax.cons a (ax.take n b)
theorem ax.set{d:PyData}{v:V}(h:DA K F d v):∀{ds:List PyData} {xs:List V} (n:Nat),ax K F ds xs→ax K F (ds.set n d) (xs.set n v)
  | [],_,_,q=>by simp only [ax] at q;subst q;exact ax.nil
  | e::ds,_,n,q=>by
    simp only [ax] at q
    obtain⟨x,r,e,a,b⟩:=q
    subst e
    cases n with
    | zero=>exact ax.cons h b
    | succ n=>exact ax.cons a (ax.set h n b)
theorem ax.erase:∀{ds:List PyData} {xs:List V} (n:Nat),ax K F ds xs→ax K F (ds.eraseIdx n) (xs.eraseIdx n)
  | [],_,_,q=>by simp only [ax] at q;subst q;exact ax.nil
  | e::ds,_,n,q=>by
    simp only [ax] at q
    obtain⟨x,r,e,a,b⟩:=q
    subst e
    cases n with
    | zero=>exact b
    | succ n=>exact ax.cons a (ax.erase n b)
theorem ax.ints:∀{ns:List Int} {xs:List V},ax K F (ns.map .int) xs↔ xs=ns.map V.int
  | [],xs=>by simp [ax]
  | n::ns,xs=>by
    simp only [List.map_cons,ax,DA]
    constructor
    · rintro⟨x,r,e,rfl,q⟩;rw [e,ax.ints.mp q]
    · rintro rfl;exact⟨_,_,rfl,rfl,ax.ints.mpr rfl⟩
theorem ax.bools:∀{ns:List Bool} {xs:List V},ax K F (ns.map .bool) xs↔ xs=ns.map V.bl
  | [],xs=>by simp [ax]
  | n::ns,xs=>by
    simp only [List.map_cons,ax,DA]
    constructor
    · rintro⟨x,r,e,rfl,q⟩;rw [e,ax.bools.mp q]
    · rintro rfl;exact⟨_,_,rfl,rfl,ax.bools.mpr rfl⟩
theorem cm{i:Int}{v:V}:DA K F (.int i) v↔ v=.int i:=by simp only [DA]
theorem cG{b:Bool}{v:V}:DA K F (.bool b) v↔ v=.bl b:=by simp only [DA]
theorem ic{v:V}:DA K F .none v↔ v=.non:=by simp only [DA]
theorem kl{x:Str}{v:V}:DA K F (.str x) v↔ v=.str x:=by simp only [DA]
theorem dz{ds:List PyData}{v:V}:DA K F (.tuple ds) v↔ ∃a xs,v=.ref a∧dQ K F a xs∧ax K F ds xs:=by simp only [DA]
theorem et{ds:List PyData}{v:V}:DA K F (.list ds) v↔ ∃a xs,v=.ref a∧em K F a xs∧ax K F ds xs:=by simp only [DA]
end
inductive Sv where
  | d (x:PyData)
  | l (xs:List PyData)
  /-- a list of lists that nobody else holds -/
  | n (xss:List (List PyData))
abbrev En:=List (Option Sv)
inductive Rv where
  | d (x:PyData)
  | l (xs:List PyData)
  | s (i:Nat)
def Fp(σ:L2.St)(e:En)(H:Hp)(i:Nat)(a:Addr):Prop:=(∃xs:List PyData,e[i]?=some (some (Sv.l xs))∧σ[i]?=some (some (.ref a)))∨
  ∃(xss:List (List PyData)) (l:Addr) (bs:List Addr),e[i]?=some (some (Sv.n xss))∧σ[i]?=some (some (.ref l))∧H l=some (.lst (bs.map V.ref))∧(a=l∨a∈bs)
def cD(σ:L2.St)(e:En)(H:Hp)(a:Addr):Prop:=∃i,Fp σ e H i a
structure a7 (K:PySem.W.Frag) (F H:Hp) (σ:L2.St) (e:En):Prop where
  sm:av F H
  len:σ.length=e.length
  dat:∀(i:Nat) (x:PyData),e[i]?=some (some (.d x))→∃v,σ[i]?=some (some v)∧DA K F x v
  own:∀(i:Nat) (xs:List PyData),e[i]?=some (some (.l xs))→∃l vs,σ[i]?=some (some (.ref l))∧F l=none∧H l=some (.lst vs)∧ax K F xs vs
  nst:∀(i:Nat) (xss:List (List PyData)),e[i]?=some (some (.n xss))→∃(l:Addr) (bs:List Addr),σ[i]?=some (some (.ref l))∧F l=none∧H l=some (.lst (bs.map V.ref))∧bs.length=xss.length∧bs.Nodup∧l∉bs∧
    ∀(k:Nat) (b:Addr) (ys:List PyData),bs[k]?=some b→xss[k]?=some ys→F b=none∧∃us,H b=some (.lst us)∧ax K F ys us
  fp:∀(i j:Nat) (a:Addr),Fp σ e H i a→Fp σ e H j a→i=j
theorem a7.inj{K:PySem.W.Frag}{F H:Hp}{σ:L2.St}{e:En}(R:a7 K F H σ e)(i j:Nat)(xs ys:List PyData)(l:Addr)(h1:e[i]?=some (some (.l xs)))(h2:e[j]?=some (some (.l ys)))(h3:σ[i]?=some (some (.ref l)))(h4:σ[j]?=some (some (.ref l))):i=j:=R.fp i j l (.inl ⟨xs,h1,h3⟩) (.inl ⟨ys,h2,h4⟩)
theorem a7.fpAt{K:PySem.W.Frag}{F H:Hp}{σ:L2.St}{e:En}(R:a7 K F H σ e){i:Nat}{a:Addr}(h:Fp σ e H i a):F a=none∧∃vs,H a=some (.lst vs):=by
  rcases h with ⟨xs,h1,h2⟩ | ⟨xss,l,bs,h1,h2,h3,h4⟩
  · obtain⟨l,vs,g1,g2,g3,_⟩:=R.own i xs h1
    rw [h2] at g1;cases g1
    exact⟨g2,vs,g3⟩
  · obtain⟨l',bs',g1,g2,g3,g4,g5,g6,g7⟩:=R.nst i xss h1
    rw [h2] at g1;cases g1
    rw [h3] at g3
    have e1:bs=bs':=by
      have:=HO.lst.inj (Option.some.inj g3)
      exact List.map_inj_right (fun _ _ z=>V.ref.inj z) |>.mp this
    subst e1
    rcases h4 with rfl | h4
    · exact⟨g2,_,h3⟩
    · obtain⟨k,hk⟩:=List.getElem?_of_mem h4
      have hk2:k < xss.length:=by rw [←g4];exact(List.getElem?_eq_some_iff.mp hk).1
      obtain⟨c1,us,c2,_⟩:=g7 k a xss[k] hk (List.getElem?_eq_getElem hk2)
      exact⟨c1,us,c2⟩
structure dP (σ:L2.St) (F H:Hp) (e:En) (F' H':Hp) (e':En):Prop where
  sf:av F F'
  dom:∀a,H' a=none→H a=none
  fr:∀a vs,F a=none→H a=some (.lst vs)→¬cD σ e H a→F' a=none
  lst:∀a vs,H a=some (.lst vs)→∃vs',H' a=some (.lst vs')
  tmp:∀a o,H a=some o→¬cD σ e H a→H' a=some o
  shp:∀i:Nat,(∃xs,e'[i]?=some (some (.l xs)))↔ (∃xs,e[i]?=some (some (.l xs)))
  ow:∀a,cD σ e' H' a→cD σ e H a∨H a=none
theorem dP.refl(σ:L2.St)(F H:Hp)(e:En):dP σ F H e F H e:=⟨av.refl _,fun _ h=>h,fun _ _ h _ _=>h,fun _ vs h=>⟨vs,h⟩,fun _ _ h _=>h,fun _=>Iff.rfl,fun _ h=>.inl h⟩
theorem dP.trans{σ:L2.St}{F H F1 H1 F2 H2:Hp}{e e1 e2:En}(x:dP σ F H e F1 H1 e1)(y:dP σ F1 H1 e1 F2 H2 e2):dP σ F H e F2 H2 e2:=
  ⟨x.sf.trans y.sf,fun a h=>x.dom a (y.dom a h),fun a vs h n no=>let ⟨vs',q⟩:=x.lst a vs n;y.fr a vs' (x.fr a vs h n no) q (fun z=>(x.ow a z).elim no fun z=>by rw [n] at z;cases z),fun a vs h=>let ⟨vs',q⟩:=x.lst a vs h;y.lst a vs' q,
    fun a o h n=>y.tmp a o (x.tmp a o h n) (fun z=>(x.ow a z).elim n fun z=>by rw [h] at z;cases z),fun i=>(y.shp i).trans (x.shp i),fun a h=>(y.ow a h).elim (x.ow a) fun z=>.inr (x.dom a z)⟩
def bY(K:PySem.W.Frag)(σ:L2.St)(H0 F H:Hp)(e:En):Rv→V→Prop
  | .d x,v=>DA K F x v
  | .l xs,v=>∃l vs,v=.ref l∧H0 l=none∧F l=none∧H l=some (.lst vs)∧ax K F xs vs∧¬cD σ e H l
  | .s i,v=>σ[i]?=some (some v)∧∃xs,e[i]?=some (some (.l xs))
section
variable{K:PySem.W.Frag}{σ:L2.St}{H0 F H F' H':Hp}{e e':En}{r:Rv}{v:V}
theorem bY.ext(h:bY K σ H0 F H e r v)(x:dP σ F H e F' H' e'):bY K σ H0 F' H' e' r v:=by
  cases r with
  | d y=>exact DA.mono x.sf h
  | l xs=>
    obtain⟨l,vs,e1,h1,h2,h3,h4,h5⟩:=h
    exact⟨l,vs,e1,h1,x.fr l _ h2 h3 h5,x.tmp l _ h3 h5,ax.mono x.sf h4,fun z=>(x.ow l z).elim h5 fun z=>by rw [h3] at z;cases z⟩
  | s i=>exact⟨h.1,(x.shp i).mpr h.2⟩
theorem bY.weak{H1:Hp}(h:bY K σ H1 F H e r v)(d:∀a,H1 a=none→H0 a=none):bY K σ H0 F H e r v:=by
  cases r with
  | d y=>exact h
  | l xs=>
    obtain⟨l,vs,e1,h1,r⟩:=h
    exact⟨l,vs,e1,d l h1,r⟩
  | s i=>exact h
theorem a7.ownH(R:a7 K F H σ e)(a:Addr)(h:cD σ e H a):H a≠none:=by
  obtain⟨i,h⟩:=h
  obtain⟨_,vs,h2⟩:=R.fpAt h
  rw [h2];simp
theorem a7.freeF(R:a7 K F H σ e){p:Addr}(hp:H p=none):F p=none:=R.sm.free hp
theorem ve(R:a7 K F H σ e)(h:∀l bs,H l=some (.lst bs)→cD σ e H l→H' l=some (.lst bs)){i:Nat}{a:Addr}:Fp σ e H' i a↔ Fp σ e H i a:=by
  have key:∀xss l,e[i]?=some (some (.n xss))→σ[i]?=some (some (.ref l))→H' l=H l:=fun xss l h1 h2=>by
    obtain⟨l',bs,g1,g2,g3,_⟩:=R.nst i xss h1
    rw [h2] at g1;cases g1
    rw [g3]
    exact h l _ g3 ⟨i,.inr ⟨xss,l,bs,h1,h2,g3,.inl rfl⟩⟩
  constructor
  · rintro(h1 | ⟨xss,l,bs,h1,h2,h3,h4⟩)
    · exact .inl h1
    · exact .inr ⟨xss,l,bs,h1,h2,by rw [←key xss l h1 h2];exact h3,h4⟩
  · rintro(h1 | ⟨xss,l,bs,h1,h2,h3,h4⟩)
    · exact .inl h1
    · exact .inr ⟨xss,l,bs,h1,h2,by rw [key xss l h1 h2];exact h3,h4⟩
theorem a7.keep(R:a7 K F H σ e)(sF:av F F')(sm:av F' H')(hf:∀a,cD σ e H a→F' a=none)(hh:∀a o,cD σ e H a→H a=some o→H' a=some o):a7 K F' H' σ e∧∀a,cD σ e H' a↔ cD σ e H a:=by
  have fs:∀{i a},Fp σ e H' i a↔ Fp σ e H i a:=fun{i a}=>ve R fun l bs h1 h2=>hh l _ h2 h1
  refine⟨⟨sm,R.len,fun i x h=>let ⟨v,h1,h2⟩:=R.dat i x h;⟨v,h1,DA.mono sF h2⟩,fun i xs h=>?_,fun i xss h=>?_,fun i j a h1 h2=>R.fp i j a (fs.mp h1) (fs.mp h2)⟩,fun a=>⟨fun⟨i,h⟩=>⟨i,fs.mp h⟩,fun⟨i,h⟩=>⟨i,fs.mpr h⟩⟩⟩
  · obtain⟨l,vs,h1,h2,h3,h4⟩:=R.own i xs h
    have o:cD σ e H l:=⟨i,.inl ⟨xs,h,h1⟩⟩
    exact⟨l,vs,h1,hf l o,hh l _ o h3,h4.mono sF⟩
  · obtain⟨l,bs,h1,h2,h3,h4,h5,h6,h7⟩:=R.nst i xss h
    have o:cD σ e H l:=⟨i,.inr ⟨xss,l,bs,h,h1,h3,.inl rfl⟩⟩
    refine⟨l,bs,h1,hf l o,hh l _ o h3,h4,h5,h6,fun k b ys g1 g2=>?_⟩
    obtain⟨c1,us,c2,c3⟩:=h7 k b ys g1 g2
    have ob:cD σ e H b:=⟨i,.inr ⟨xss,l,bs,h,h1,h3,.inr (List.mem_of_getElem? g1)⟩⟩
    exact⟨hf b ob,us,hh b _ ob c2,c3.mono sF⟩
theorem a7.same(R:a7 K F H σ e)(s:av H H'):a7 K F H' σ e∧dP σ F H e F H' e:=by
  obtain⟨R',o'⟩:=R.keep (av.refl F) (R.sm.trans s) (fun a ⟨i,h⟩=>(R.fpAt h).1) fun a o _ h=>s a o h
  exact⟨R',⟨av.refl _,fun a h=>s.free h,fun _ _ h _ _=>h,fun a vs h=>⟨vs,s _ _ h⟩,fun a o h _=>s a o h,fun _=>Iff.rfl,fun a h=>.inl ((o' a).mp h)⟩⟩
theorem a7.freeze(R:a7 K F H σ e){p:Addr}{o:HO}(hF:F p=none)(hp:H p=some o)(hn:¬cD σ e H p):a7 K (aX F p o) H σ e∧av F (aX F p o):=by
  have sF:av F (aX F p o):=av.new hF
  refine⟨(R.keep sF (fun b u q=>?_) (fun a ha=>?_) fun _ _ _ h=>h).1,sF⟩
  · by_cases z:b=p
    · subst z;rw [aq] at q;cases q;exact hp
    · rw [aJ z] at q;exact R.sm _ _ q
  · obtain⟨i,hi⟩:=ha
    have z:a≠p:=fun z=>hn ⟨i,by rw [←z];exact hi⟩
    rw [aJ z];exact(R.fpAt hi).1
theorem a7.notOwn(R:a7 K F H σ e){p:Addr}{o:HO}(hp:H p=some o)(hl:∀vs,o≠.lst vs):¬cD σ e H p:=fun⟨i,h⟩=>by
  obtain⟨_,vs,g⟩:=R.fpAt h
  rw [hp] at g;cases g
  exact hl _ rfl
theorem a7.newT(R:a7 K F H σ e){p:Addr}{vs:List V}(hp:H p=none):a7 K (aX F p (.tup vs)) (aX H p (.tup vs)) σ e∧dP σ F H e (aX F p (.tup vs)) (aX H p (.tup vs)) e:=by
  have hF:=R.freeF hp
  obtain⟨R1,X1⟩:=R.same (av.new hp (o:=.tup vs))
  obtain⟨R2,s2⟩:=R1.freeze (p:=p) hF aq (R1.notOwn aq (fun _ z=>nomatch z))
  refine⟨R2,⟨s2,X1.dom,fun a ws h n _=>?_,X1.lst,X1.tmp,X1.shp,X1.ow⟩⟩
  have z:a≠p:=fun z=>by rw [z,hp] at n;cases n
  rw [aJ z];exact h
theorem a7.sameOwn(R:a7 K F H σ e)(s:av H H')(a:Addr):cD σ e H' a↔ cD σ e H a:=(R.keep (av.refl F) (R.sm.trans s) (fun a ⟨i,h⟩=>(R.fpAt h).1) fun a o _ h=>s a o h).2 a
theorem a7.newL(R:a7 K F H σ e){p:Addr}{vs:List V}(hp:H p=none):a7 K F (aX H p (.lst vs)) σ e∧dP σ F H e F (aX H p (.lst vs)) e∧F p=none∧¬cD σ e (aX H p (.lst vs)) p:=
  ⟨(R.same (av.new hp)).1,(R.same (av.new hp)).2,R.freeF hp,fun z=>R.ownH p ((R.sameOwn (av.new hp) p).mp z) hp⟩
theorem a7.growT(R:a7 K F H σ e){p:Addr}{xs:List V}(s:av H H')(hp:dQ K H' p xs):∃F',a7 K F' H' σ e∧dP σ F H e F' H' e∧dQ K F' p xs:=by
  obtain⟨R1,X1⟩:=R.same s
  rcases hp with hp | hp
  · have key:∀o,H' p=some o→(∀vs,o≠.lst vs)→(∀G:Hp,G p=some o→Rd G p (.tup xs))→∃F',a7 K F' H' σ e∧dP σ F H e F' H' e∧dQ K F' p xs:=by
      intro o ho hl hr
      cases q:F p with
      | some u=>
        have:=R1.sm _ _ q
        rw [ho] at this;cases this
        exact⟨F,R1,X1,.inl (hr F q)⟩
      | none=>
        obtain⟨R2,s2⟩:=R1.freeze q ho (R1.notOwn ho hl)
        refine⟨_,R2,⟨s2,X1.dom,fun a ws h n _=>?_,X1.lst,X1.tmp,X1.shp,X1.ow⟩,.inl (hr _ aq)⟩
        have z:a≠p:=fun z=>by rw [z] at n;rw [s _ _ n] at ho;cases ho;exact hl _ rfl
        rw [aJ z];exact h
    rcases hp with hp | ⟨ob,hp⟩
    · exact key _ hp (fun _ z=>nomatch z) fun G g=>.inl g
    · exact key _ hp (fun _ z=>nomatch z) fun G g=>.inr ⟨ob,g⟩
  · exact⟨F,R1,X1,.inr hp⟩
theorem bY.frozen(R:a7 K F H σ e){xs:List PyData}(h:bY K σ H0 F H e (.l xs) v):∃F',a7 K F' H σ e∧av F F'∧DA K F' (.list xs) v∧(∀a,F a=none→H0 a≠none→F' a=none):=by
  obtain⟨l,vs,rfl,h1,h2,h3,h4,h5⟩:=h
  obtain⟨R2,s2⟩:=R.freeze h2 h3 h5
  refine⟨_,R2,s2,?_,fun a ha hn=>?_⟩
  · rw [et]
    exact⟨l,vs,rfl,.inl (.inl aq),ax.mono s2 h4⟩
  · have z:a≠l:=fun z=>hn (by rw [z];exact h1)
    rw [aJ z];exact ha
def bP(e:En):Rv→Option (Bool × List PyData)
  | .d (.tuple xs)=>some (false,xs)
  | .d (.list xs)=>some (true,xs)
  | .l xs=>some (true,xs)
  | .s i=>match e[i]? with
    | some (some (.l xs))=>some (true,xs)
    | _=>none
  | _=>none
theorem bw(R:a7 K F H σ e)(h:bY K σ H0 F H e r v){b:Bool}{xs:List PyData}(q:bP e r=some (b,xs)):
    ∃p vs,v=.ref p∧ax K F xs vs∧(if b=true then em K H p vs else dQ K H p vs):=by
  cases r with
  | d x=>
    cases x with
    | tuple ds=>
      cases q
      obtain⟨a,ys,e1,e2,e3⟩:=dz.mp h
      exact⟨a,ys,e1,e3,R.sm.tup e2⟩
    | list ds=>
      cases q
      obtain⟨a,ys,e1,e2,e3⟩:=et.mp h
      exact⟨a,ys,e1,e3,R.sm.seq e2⟩
    | _=>cases q
  | l ys=>
    cases q
    obtain⟨l,vs,e1,h1,h2,h3,h4,_⟩:=h
    exact⟨l,vs,e1,h4,.inl (.inl h3)⟩
  | s i=>
    obtain⟨h1,ys,h2⟩:=h
    simp only [bP,h2] at q
    cases q
    obtain⟨l,vs,e1,e2,e3,e4⟩:=R.own i _ h2
    rw [h1] at e1;cases e1
    exact⟨l,vs,rfl,e4,.inl (.inl e3)⟩
end
end L2
namespace L2
open PySem PySem.Spec PyProof.Rows
abbrev FE:=En→Option (Rv × En)
abbrev FT:=En→Option (Bool × En)
abbrev FA:=En→Option (List Rv × En)
def cS(K:PySem.W.Frag)(σ:L2.St)(H0 F H:Hp)(e:En):List Rv→List V→Prop
  | [],vs=>vs=[]
  | r::rs,vs=>∃v ws,vs=v::ws∧bY K σ H0 F H e r v∧cS K σ H0 F H e rs ws
def fE(K:PySem.W.Frag)(f:FE):TE:=fun σ H Q=>∃F e r e',a7 K F H σ e∧f e=some (r,e')∧∀F' H' v,dP σ F H e F' H' e'→a7 K F' H' σ e'→bY K σ H F' H' e' r v→Q v H'
def fT(K:PySem.W.Frag)(f:FT):TT:=fun σ H Q=>∃F e b e',a7 K F H σ e∧f e=some (b,e')∧∀F' H',dP σ F H e F' H' e'→a7 K F' H' σ e'→Q b H'
def fA(K:PySem.W.Frag)(f:FA):TA:=fun σ H Q=>∃F e rs e',a7 K F H σ e∧f e=some (rs,e')∧∀F' H' vs,dP σ F H e F' H' e'→a7 K F' H' σ e'→cS K σ H F' H' e' rs vs→Q vs H'
theorem PE.mono{X:Cx}{e:Expr}{t t':TE}(h:PE X e t)(m:∀σ H Q,t' σ H Q→t σ H Q):PE X e t':=fun pins s σ H Q I q=>h pins s σ H Q I (m σ H Q q)
theorem PT.mono{X:Cx}{e:Expr}{t t':TT}(h:PT X e t)(m:∀σ H Q,t' σ H Q→t σ H Q):PT X e t':=fun pins s σ H Q I q=>h pins s σ H Q I (m σ H Q q)
theorem PW.mono{X:Cx}{e:Expr}{t t':TT}(h:PW X e t)(m:∀σ H Q,t' σ H Q→t σ H Q):PW X e t':=fun wh pins s σ H Q I q=>h wh pins s σ H Q I (m σ H Q q)
theorem PA.mono{X:Cx}{es:List Expr}{t t':TA}(h:PA X es t)(m:∀σ H Q,t' σ H Q→t σ H Q):PA X es t':=fun pos pins s σ H Q I q=>h pos pins s σ H Q I (m σ H Q q)
section
variable{K:PySem.W.Frag}{σ:L2.St}{H0 F H F' H':Hp}{e e':En}
theorem cS.weak{H1:Hp}(d:∀a,H1 a=none→H0 a=none):∀{rs:List Rv} {vs:List V},cS K σ H1 F H e rs vs→cS K σ H0 F H e rs vs
  | [],_,h=>h
  | r::rs,_,h=>by
    obtain⟨v,ws,rfl,h1,h2⟩:=h
    exact⟨v,ws,rfl,h1.weak d,cS.weak d h2⟩
theorem dP.frz{F'':Hp}(x:dP σ F H e F' H' e')(s:av F' F'')(h:∀a,F' a=none→H a≠none→F'' a=none):dP σ F H e F'' H' e':=
  ⟨x.sf.trans s,x.dom,fun a vs h1 h2 h3=>h a (x.fr a vs h1 h2 h3) (by rw [h2];simp),x.lst,x.tmp,x.shp,x.ow⟩
def i6:List Rv→Option (List PyData)
  | []=>some []
  | .d x::rs=>(i6 rs).map (x::·)
  | .l xs::rs=>(i6 rs).map (.list xs::·)
  | .s _::_=>none
theorem cS.frozen:∀{rs:List Rv} {vs:List V} {ds:List PyData} {F:Hp},a7 K F H σ e→cS K σ H0 F H e rs vs→i6 rs=some ds→
    ∃F',a7 K F' H σ e∧av F F'∧ax K F' ds vs∧(∀a,F a=none→H0 a≠none→F' a=none)
  | [],_,_,F,R,h,q=>by
    cases q
    have h':_=[]:=h
    subst h'
    exact⟨F,R,av.refl _,ax.nil,fun _ h _=>h⟩
  | .d x::rs,_,ds,F,R,h,q=>by
    obtain⟨v,ws,rfl,h1,h2⟩:=h
    obtain⟨ds',q1,rfl⟩:=Option.map_eq_some_iff.mp q
    obtain⟨F',R',s',d',f'⟩:=cS.frozen R h2 q1
    exact⟨F',R',s',.cons (DA.mono s' h1) d',f'⟩
  | .l xs::rs,_,ds,F,R,h,q=>by
    obtain⟨v,ws,rfl,h1,h2⟩:=h
    obtain⟨ds',q1,rfl⟩:=Option.map_eq_some_iff.mp q
    obtain⟨F',R',s',d',f'⟩:=cS.frozen R h2 q1
    obtain⟨l,us,rfl,g1,g2,g3,g4,g5⟩:=h1
    cases hl:F' l with
    | none=>
      have h1':bY K σ H0 F' H e (.l xs) (.ref l):=⟨l,us,rfl,g1,hl,g3,ax.mono s' g4,g5⟩
      obtain⟨F2,R2,s2,d2,f2⟩:=h1'.frozen R'
      exact⟨F2,R2,s'.trans s2,.cons d2 (ax.mono s2 d'),fun a ha hn=>f2 a (f' a ha hn) hn⟩
    | some o=>
      have:=R'.sm _ _ hl
      rw [g3] at this;cases this
      exact⟨F',R',s',.cons (et.mpr ⟨l,us,rfl,.inl (.inl hl),ax.mono s' g4⟩) d',f'⟩
end
section
variable{X:Cx}{K:PySem.W.Frag}{a b c:Expr}{fa fb:FE}{ft fu:FT}{pos:Pos}{es:List Expr}{fs:FA}
def ac(i:Nat):FE:=fun e=>match e[i]? with
  | some (some (.d x))=>some (.d x,e)
  | some (some (.l _))=>some (.s i,e)
  | _=>none
def vC(x:PyData):FE:=fun e=>some (.d x,e)
theorem wK{i:Nat}{σ:L2.St}{H:Hp}{Q:VK}(h:fE K (ac i) σ H Q):Bx i σ H Q:=by
  obtain⟨F,e,r,e',R,hf,q⟩:=h
  unfold ac at hf
  match h1:e[i]?,hf with
  | some (some (.d x)),hf=>
    cases hf
    obtain⟨v,h2,h3⟩:=R.dat i x h1
    exact⟨v,h2,q F H v (dP.refl _ _ _ _) R h3⟩
  | some (some (.n _)),hf=>cases hf
  | some (some (.l xs)),hf=>
    cases hf
    obtain⟨l,vs,h2,h3⟩:=R.own i xs h1
    exact⟨_,h2,q F H _ (dP.refl _ _ _ _) R ⟨h2,xs,h1⟩⟩
  | some none,hf=>cases hf
  | none,hf=>cases hf
theorem qv(i:Nat){x:Str}{pos:Pos}(hN:X.N[i]?=some x)(hv:zZ X.env.scope x)(hd:(x==("__debug__":Str))=false)(hcd:(x==("__classdict__":Str))=false):PE X (.Name x pos) (fE K (ac i)):=(yV hN hv hd hcd).mono fun _ _ _ h=>wK h
theorem qJ{x:PyData}{v:V}{σ:L2.St}{H:Hp}{Q:VK}(hx:∀F,DA K F x v)(h:fE K (vC x) σ H Q):tC v σ H Q:=by
  obtain⟨F,e,r,e',R,hf,q⟩:=h
  cases hf
  exact q F H v (dP.refl _ _ _ _) R (hx F)
theorem ae{i j pos}:PE X (.Constant (.int i) j pos) (fE K (vC (.int i))):=ph.mono fun _ _ _ h=>qJ (fun _=>cm.mpr rfl) h
theorem bO{b j pos}:PE X (.Constant (.bool b) j pos) (fE K (vC (.bool b))):=AL.mono fun _ _ _ h=>qJ (fun _=>cG.mpr rfl) h
theorem jN{j pos}:PE X (.Constant .none j pos) (fE K (vC .none)):=yQ.mono fun _ _ _ h=>qJ (fun _=>ic.mpr rfl) h
theorem kR{x j pos}:PE X (.Constant (.str x) j pos) (fE K (vC (.str x))):=yT.mono fun _ _ _ h=>qJ (fun _=>kl.mpr rfl) h
def fm(K:PySem.W.Frag)(r:R2)(g:En→Rv→Rv→Option Rv):Prop:=
  ∀(σ:L2.St) (H0 F H:Hp) (e:En) (x y z:Rv) (v u:V) (Q:VK),a7 K F H σ e→bY K σ H0 F H e x v→bY K σ H0 F H e y u→g e x y=some z→
    (∀F' H' w,dP σ F H e F' H' e→a7 K F' H' σ e→bY K σ H F' H' e z w→Q w H')→r v u H Q
def ar(g:En→Rv→Rv→Option Rv)(fa fb:FE):FE:=fun e=>(fa e).bind fun p=>(fb p.2).bind fun q=>(g q.2 p.1 q.1).map fun z=>(z,q.2)
theorem mX{r:R2}{g:En→Rv→Rv→Option Rv}(ho:fm K r g){σ:L2.St}{H:Hp}{Q:VK}(h:fE K (ar g fa fb) σ H Q):Bs r (fE K fa) (fE K fb) σ H Q:=by
  obtain⟨F,e,z,e2,R,hf,q⟩:=h
  unfold ar at hf
  obtain⟨⟨x,e1⟩,h1,hf⟩:=Option.bind_eq_some_iff.mp hf
  obtain⟨⟨y,e2'⟩,h2,hf⟩:=Option.bind_eq_some_iff.mp hf
  obtain⟨z',h3,hf⟩:=Option.map_eq_some_iff.mp hf
  cases hf
  refine⟨F,e,x,e1,R,h1,fun F1 H1 v X1 R1 A1=>⟨F1,e1,y,_,R1,h2,fun F2 H2 u X2 R2 A2=>?_⟩⟩
  have X12:=X1.trans X2
  refine ho σ H F2 H2 _ x y _ v u Q R2 (A1.ext X2) (A2.weak X1.dom) h3 fun F3 H3 w X3 R3 A3=>?_
  exact q F3 H3 w (X12.trans X3) R3 (A3.weak X12.dom)
theorem lS{op:Operator}{r:R2}{g:En→Rv→Rv→Option Rv}(hr:fg X (binaryOp op) r)(ho:fm K r g)(ha:PE X a (fE K fa))(hb:PE X b (fE K fb)):PE X (.BinOp a op b pos) (fE K (ar g fa fb)):=(AO hr ha hb).mono fun _ _ _ h=>mX ho h
theorem zc{op:CmpOp}{r:R2}{g:En→Rv→Rv→Option Rv}(hr:fg X (compareOp op) r)(ho:fm K r g)(ha:PE X a (fE K fa))(hb:PE X b (fE K fb))(hm:behindInMarks op b=false):PE X (.Compare a [op] [b] pos) (fE K (ar g fa fb)):=(vR hr ha hb hm).mono fun _ _ _ h=>mX ho h
theorem AW{r:R2}{g:En→Rv→Rv→Option Rv}(hr:uV X r)(ho:fm K r g)(ha:PE X a (fE K fa))(hb:PE X b (fE K fb))(hs:l0 b):PE X (.Subscript a b pos) (fE K (ar g fa fb)):=(AN hr ha hb hs).mono fun _ _ _ h=>mX ho h
def js(g:En→Rv→Option Rv)(fa:FE):FE:=fun e=>(fa e).bind fun p=>(g p.2 p.1).map fun z=>(z,p.2)
def xN(K:PySem.W.Frag)(r:V→Hp→VK→Prop)(g:En→Rv→Option Rv):Prop:=
  ∀(σ:L2.St) (H0 F H:Hp) (e:En) (x z:Rv) (v:V) (Q:VK),a7 K F H σ e→bY K σ H0 F H e x v→g e x=some z→
    (∀F' H' w,dP σ F H e F' H' e→a7 K F' H' σ e→bY K σ H F' H' e z w→Q w H')→r v H Q
theorem pM{r:V→Hp→VK→Prop}{g:En→Rv→Option Rv}(ho:xN K r g){σ:L2.St}{H:Hp}{Q:VK}(h:fE K (js g fa) σ H Q):C0 r (fE K fa) σ H Q:=by
  obtain⟨F,e,z,e2,R,hf,q⟩:=h
  unfold js at hf
  obtain⟨⟨x,e1⟩,h1,hf⟩:=Option.bind_eq_some_iff.mp hf
  obtain⟨z',h3,hf⟩:=Option.map_eq_some_iff.mp hf
  cases hf
  refine⟨F,e,x,_,R,h1,fun F1 H1 v X1 R1 A1=>?_⟩
  refine ho σ H F1 H1 _ x _ v Q R1 A1 h3 fun F3 H3 w X3 R3 A3=>?_
  exact q F3 H3 w (X1.trans X3) R3 (A3.weak X1.dom)
theorem AZ{op:UnaryOp}{r:V→Hp→VK→Prop}{g:En→Rv→Option Rv}(hr:BK X (unaryOp op) r)(ho:xN K r g)(ha:PE X a (fE K fa)):PE X (.UnaryOp op a pos) (fE K (js g fa)):=(AR hr ha).mono fun _ _ _ h=>pM ho h
def eR:Rv→Option Bool
  | .d (.bool b)=>some b
  | _=>none
theorem eL{σ:L2.St}{H0 F H:Hp}{e:En}{r:Rv}{v:V}{b:Bool}(h:bY K σ H0 F H e r v)(q:eR r=some b):v=.bl b:=by
  unfold eR at q
  split at q
  · cases q;exact cG.mp (show DA K F (.bool _) v from h)
  · cases q
theorem dH{σ:L2.St}{H0 F H:Hp}{e:En}{b:Bool}:bY K σ H0 F H e (.d (.bool b)) (.bl b):=(cG (K:=K) (F:=F)).mpr rfl
def aG(f:FE):FT:=fun e=>(f e).bind fun p=>(eR p.1).map fun b=>(b,p.2)
theorem oK{σ:L2.St}{H:Hp}{Q:Bool→Hp→Prop}(h:fT K (aG fa) σ H Q):fE K fa σ H fun x H'=>∃k,x=.bl k∧Q k H':=by
  obtain⟨F,e,b,e1,R,hf,q⟩:=h
  unfold aG at hf
  obtain⟨⟨x,e1'⟩,h1,hf⟩:=Option.bind_eq_some_iff.mp hf
  obtain⟨b',h3,hf⟩:=Option.map_eq_some_iff.mp hf
  cases hf
  exact⟨F,e,x,_,R,h1,fun F1 H1 v X1 R1 A1=>⟨_,eL A1 h3,q F1 H1 X1 R1⟩⟩
theorem zg{op:CmpOp}{r:R2}{g:En→Rv→Rv→Option Rv}(hr:fg X (compareOp op) r)(ho:fm K r g)(ha:PE X a (fE K fa))(hb:PE X b (fE K fb))(hm:behindInMarks op b=false):PT X (.Compare a [op] [b] pos) (fT K (aG (ar g fa fb))):=
  (wf hr ha hb hm).mono fun σ H Q h=>by
    obtain⟨F,e,z,e2,R,hf,q⟩:=oK h
    exact mX ho ⟨F,e,z,e2,R,hf,q⟩
theorem dk{e:Expr}(h:PE X e (fE K fa))(he:∀whole,isTrue e X.env whole=(do let v ←whole;standAt e.pos;holding [v] (truthy v))):PT X e (fT K (aG fa)):=(y9 h he).mono fun _ _ _ h=>oK h
def oG(f g:FT):FT:=fun e=>(f e).bind fun p=>if p.1=true then g p.2 else some (false,p.2)
def rV(f g:FT):FT:=fun e=>(f e).bind fun p=>if p.1=true then some (true,p.2) else g p.2
def gF(f:FT):FT:=fun e=>(f e).map fun p=>(!p.1,p.2)
theorem wH{σ:L2.St}{H:Hp}{Q:Bool→Hp→Prop}(h:fT K (oG ft fu) σ H Q):Bl (fT K ft) (fT K fu) σ H Q:=by
  obtain⟨F,e,b,e1,R,hf,q⟩:=h
  unfold oG at hf
  obtain⟨⟨x,e1'⟩,h1,hf⟩:=Option.bind_eq_some_iff.mp hf
  refine⟨F,e,x,e1',R,h1,fun F1 H1 X1 R1=>?_⟩
  cases x with
  | true=>exact⟨F1,e1',b,e1,R1,hf,fun F2 H2 X2 R2=>q F2 H2 (X1.trans X2) R2⟩
  | false=>cases hf;exact q F1 H1 X1 R1
theorem zJ{σ:L2.St}{H:Hp}{Q:Bool→Hp→Prop}(h:fT K (rV ft fu) σ H Q):CY (fT K ft) (fT K fu) σ H Q:=by
  obtain⟨F,e,b,e1,R,hf,q⟩:=h
  unfold rV at hf
  obtain⟨⟨x,e1'⟩,h1,hf⟩:=Option.bind_eq_some_iff.mp hf
  refine⟨F,e,x,e1',R,h1,fun F1 H1 X1 R1=>?_⟩
  cases x with
  | false=>exact⟨F1,e1',b,e1,R1,hf,fun F2 H2 X2 R2=>q F2 H2 (X1.trans X2) R2⟩
  | true=>cases hf;exact q F1 H1 X1 R1
theorem wJ{σ:L2.St}{H:Hp}{Q:Bool→Hp→Prop}(h:fT K (gF ft) σ H Q):Bq (fT K ft) σ H Q:=by
  obtain⟨F,e,b,e1,R,hf,q⟩:=h
  unfold gF at hf
  obtain⟨⟨x,e1'⟩,h1,hf⟩:=Option.map_eq_some_iff.mp hf
  cases hf
  exact⟨F,e,x,_,R,h1,fun F1 H1 X1 R1=>q F1 H1 X1 R1⟩
variable{dR:List Expr}
theorem qq(ha:PT X a (fT K ft)):PW X (.BoolOp .And [a] pos) (fT K ft):=wm ha
theorem kT(ha:PT X a (fT K ft)):PW X (.BoolOp .Or [a] pos) (fT K ft):=y' ha
theorem uh(ha:PT X a (fT K ft))(hb:PW X (.BoolOp .And (b::dR) pos) (fT K fu)):PW X (.BoolOp .And (a::b::dR) pos) (fT K (oG ft fu)):=(y_ ha hb).mono fun _ _ _ h=>wH h
theorem kS(ha:PT X a (fT K ft))(hb:PW X (.BoolOp .Or (b::dR) pos) (fT K fu)):PW X (.BoolOp .Or (a::b::dR) pos) (fT K (rV ft fu)):=(AV ha hb).mono fun _ _ _ h=>zJ h
theorem d8(ha:PT X a (fT K ft)):PT X (.UnaryOp .Not a pos) (fT K (gF ft)):=(y8 ha).mono fun _ _ _ h=>wJ h
theorem pB{e:Expr}(h:PW X e (fT K ft)):PT X e (fT K ft):=h.pt
def iD(f g:FE):FE:=fun e=>(f e).bind fun p=>(eR p.1).bind fun b=>if b=true then g p.2 else some (.d (.bool false),p.2)
def BC(f g:FE):FE:=fun e=>(f e).bind fun p=>(eR p.1).bind fun b=>if b=true then some (.d (.bool true),p.2) else g p.2
def lX(f:FE):FE:=fun e=>(f e).bind fun p=>(eR p.1).map fun b=>(.d (.bool (!b)),p.2)
theorem jM(ha:PE X a (fE K fa))(hb:PE X (.BoolOp .And (b::dR) pos) (fE K fb)):PE X (.BoolOp .And (a::b::dR) pos) (fE K (iD fa fb)):=(yO ha hb).mono fun σ H Q h=>by
  obtain⟨F,e,z,e2,R,hf,q⟩:=h
  unfold iD at hf
  obtain⟨⟨x,e1⟩,h1,hf⟩:=Option.bind_eq_some_iff.mp hf
  obtain⟨b,h2,hf⟩:=Option.bind_eq_some_iff.mp hf
  refine⟨F,e,x,e1,R,h1,fun F1 H1 v X1 R1 A1=>⟨b,eL A1 h2,?_⟩⟩
  cases b with
  | true=>exact⟨F1,e1,z,e2,R1,hf,fun F2 H2 w X2 R2 A2=>q F2 H2 w (X1.trans X2) R2 (A2.weak X1.dom)⟩
  | false=>cases hf;exact q F1 H1 _ X1 R1 dH
theorem jO{op}(h:PE X a (fE K fa)):PE X (.BoolOp op [a] pos) (fE K fa):=yS h
theorem uf(ha:PE X a (fE K fa)):PE X (.UnaryOp .Not a pos) (fE K (lX fa)):=(yR ha).mono fun σ H Q h=>by
  obtain⟨F,e,z,e2,R,hf,q⟩:=h
  unfold lX at hf
  obtain⟨⟨x,e1⟩,h1,hf⟩:=Option.bind_eq_some_iff.mp hf
  obtain⟨b,h2,hf⟩:=Option.map_eq_some_iff.mp hf
  cases hf
  exact⟨F,e,x,_,R,h1,fun F1 H1 v X1 R1 A1=>⟨b,eL A1 h2,q F1 H1 _ X1 R1 dH⟩⟩
def C4(t:FT)(f g:FE):FE:=fun e=>(t e).bind fun p=>if p.1=true then f p.2 else g p.2
def ia(g g':En→Rv→Rv→Option Rv)(fa fb fc:FE):FE:=fun e=>(fa e).bind fun p=>(fb p.2).bind fun q=>(g q.2 p.1 q.1).bind fun z=>(eR z).bind fun k=>if k=true then(fc q.2).bind fun w=>(g' w.2 q.1 w.1).map fun z'=>(z',w.2) else some (.d (.bool false),q.2)
theorem rL{r r':R2}{g g':En→Rv→Rv→Option Rv}{fc:FE}(ho:fm K r g)(ho':fm K r' g'){σ:L2.St}{H:Hp}{Q:VK}(h:fE K (ia g g' fa fb fc) σ H Q):uD r r' (fE K fa) (fE K fb) (fE K fc) σ H Q:=by
  obtain⟨F,e,z,e4,R,hf,q⟩:=h
  unfold ia at hf
  obtain⟨⟨x,e1⟩,h1,hf⟩:=Option.bind_eq_some_iff.mp hf
  obtain⟨⟨y,e2⟩,h2,hf⟩:=Option.bind_eq_some_iff.mp hf
  obtain⟨z',h3,hf⟩:=Option.bind_eq_some_iff.mp hf
  obtain⟨k,h4,hf⟩:=Option.bind_eq_some_iff.mp hf
  refine⟨F,e,x,e1,R,h1,fun F1 H1 v X1 R1 A1=>⟨F1,e1,y,e2,R1,h2,fun F2 H2 u X2 R2 A2=>?_⟩⟩
  have X12:=X1.trans X2
  refine ho σ H F2 H2 e2 x y z' v u _ R2 (A1.ext X2) (A2.weak X1.dom) h3 fun F3 H3 w X3 R3 A3=>⟨k,eL A3 h4,?_⟩
  have X13:=X12.trans X3
  cases k with
  | false=>
    cases hf
    exact q F3 H3 _ X13 R3 dH
  | true=>
    obtain⟨⟨w',e3⟩,h5,hf⟩:=Option.bind_eq_some_iff.mp hf
    obtain⟨z2,h6,hf⟩:=Option.map_eq_some_iff.mp hf
    cases hf
    refine⟨F3,_,w',_,R3,h5,fun F4 H4 u4 X4 R4 A4=>?_⟩
    have X14:=X13.trans X4
    refine ho' σ H F4 H4 _ y w' _ u u4 Q R4 (((A2.weak X1.dom).ext X3).ext X4) (A4.weak X13.dom) h6 fun F5 H5 w5 X5 R5 A5=>?_
    exact q F5 H5 w5 (X14.trans X5) R5 (A5.weak X14.dom)
theorem ud{op op':CmpOp}{r r':R2}{g g':En→Rv→Rv→Option Rv}{fc:FE}(hr:fg X (compareOp op) r)(ho:fm K r g)(hr':fg X (compareOp op') r')(ho':fm K r' g')(ha:PE X a (fE K fa))(hb:PE X b (fE K fb))(hc:PE X c (fE K fc))
    (hm:lastMarks [op,op'] [b,c]=false):PE X (.Compare a [op,op'] [b,c] pos) (fE K (ia g g' fa fb fc)):=(tM hr hr' ha hb hc hm).mono fun _ _ _ h=>rL ho ho' h
def ag:FA:=fun e=>some ([],e)
def aa(fa:FE)(fs:FA):FA:=fun e=>(fa e).bind fun p=>(fs p.2).map fun q=>(p.1::q.1,q.2)
theorem ab:PA X [] (fA K ag):=kO.mono fun σ H Q h=>by
  obtain⟨F,e,r,e',R,hf,q⟩:=h
  cases hf
  exact q F H [] (dP.refl _ _ _ _) R rfl
theorem Co(ha:PE X a (fE K fa))(hr:PA X es (fA K fs))(h:PySem.W.isStarred a=false):PA X (a::es) (fA K (aa fa fs)):=(Ck ha hr h).mono fun σ H Q h=>by
  obtain⟨F,e,z,e2,R,hf,q⟩:=h
  unfold aa at hf
  obtain⟨⟨x,e1⟩,h1,hf⟩:=Option.bind_eq_some_iff.mp hf
  obtain⟨⟨xs,e2'⟩,h2,hf⟩:=Option.map_eq_some_iff.mp hf
  cases hf
  refine⟨F,e,x,e1,R,h1,fun F1 H1 v X1 R1 A1=>⟨F1,e1,xs,_,R1,h2,fun F2 H2 vs X2 R2 A2=>?_⟩⟩
  exact q F2 H2 (v::vs) (X1.trans X2) R2 ⟨v,vs,rfl,A1.ext X2,A2.weak X1.dom⟩
def aP(fs:FA):FE:=fun e=>(fs e).bind fun p=>(i6 p.1).bind fun ds=>if ds.length≤1000 then some (.d (.tuple ds),p.2) else none
def dN(fs:FA):FE:=fun e=>(fs e).bind fun p=>(i6 p.1).bind fun ds=>if ds.length≤1000 then some (.l ds,p.2) else none
theorem ap{x1}(h:PA X es (fA K fs)):PE X (.Tuple es x1 pos) (fE K (aP fs)):=(yU h).mono fun σ H Q h=>by
  obtain⟨F,e,z,e2,R,hf,q⟩:=h
  unfold aP at hf
  obtain⟨⟨rs,e1⟩,h1,hf⟩:=Option.bind_eq_some_iff.mp hf
  obtain⟨ds,h2,hf⟩:=Option.bind_eq_some_iff.mp hf
  split at hf
  case isFalse=>cases hf
  case isTrue hl=>
  cases hf
  refine⟨F,e,rs,_,R,h1,fun F1 H1 vs X1 R1 A1=>?_⟩
  obtain⟨F2,R2,s2,d2,f2⟩:=cS.frozen R1 A1 h2
  have hlen:=d2.len
  refine⟨Nat.le_of_lt (lV (by lia)),fun p hp=>?_⟩
  obtain⟨R3,X3⟩:=R2.newT (vs:=vs) hp
  exact q _ _ _ ((X1.frz s2 f2).trans X3) R3 (dz.mpr ⟨p,vs,rfl,.inl (.inl aq),ax.mono X3.sf d2⟩)
theorem bo(h:PA X es (fA K fs)):PE X (.List es pos) (fE K (dN fs)):=(yP h).mono fun σ H Q h=>by
  obtain⟨F,e,z,e2,R,hf,q⟩:=h
  unfold dN at hf
  obtain⟨⟨rs,e1⟩,h1,hf⟩:=Option.bind_eq_some_iff.mp hf
  obtain⟨ds,h2,hf⟩:=Option.bind_eq_some_iff.mp hf
  split at hf
  case isFalse=>cases hf
  case isTrue hl=>
  cases hf
  refine⟨F,e,rs,_,R,h1,fun F1 H1 vs X1 R1 A1=>?_⟩
  obtain⟨F2,R2,s2,d2,f2⟩:=cS.frozen R1 A1 h2
  have hlen:=d2.len
  refine⟨Nat.le_of_lt (lV (by lia)),fun p hp=>?_⟩
  obtain⟨R3,X3,hF,no⟩:=R2.newL (vs:=vs) hp
  exact q _ _ _ ((X1.frz s2 f2).trans X3) R3 ⟨p,vs,rfl,X1.dom p hp,hF,aq,d2,no⟩
def dn(K:PySem.W.Frag)(r:List V→Hp→VK→Prop)(g:En→List Rv→Option Rv):Prop:=
  ∀(σ:L2.St) (H0 F H:Hp) (e:En) (xs:List Rv) (z:Rv) (vs:List V) (Q:VK),a7 K F H σ e→cS K σ H0 F H e xs vs→g e xs=some z→
    (∀F' H' w,dP σ F H e F' H' e→a7 K F' H' σ e→bY K σ H F' H' e z w→Q w H')→r vs H Q
def ay(g:En→List Rv→Option Rv)(fs:FA):FE:=fun e=>(fs e).bind fun p=>(g p.2 p.1).map fun z=>(z,p.2)
theorem oH{r:List V→Hp→VK→Prop}{g:En→List Rv→Option Rv}(ho:dn K r g){σ:L2.St}{H:Hp}{Q:VK}(h:fE K (ay g fs) σ H Q):Ct r (fA K fs) σ H Q:=by
  obtain⟨F,e,z,e2,R,hf,q⟩:=h
  unfold ay at hf
  obtain⟨⟨x,e1⟩,h1,hf⟩:=Option.bind_eq_some_iff.mp hf
  obtain⟨z',h3,hf⟩:=Option.map_eq_some_iff.mp hf
  cases hf
  refine⟨F,e,x,_,R,h1,fun F1 H1 vs X1 R1 A1=>?_⟩
  refine ho σ H F1 H1 _ x _ vs Q R1 A1 h3 fun F3 H3 w X3 R3 A3=>?_
  exact q F3 H3 w (X1.trans X3) R3 (A3.weak X1.dom)
theorem uc{x:Str}{p pos:Pos}{id:String}{r:List V→Hp→VK→Prop}{g:En→List Rv→Option Rv}(hc:cQ X (.builtin id) r)(ho:dn K r g)(hg:Gl X x)(hm:X.mg x=none)(hv:bootBuiltins x=some (.builtin id))(ha:PA X (a::es) (fA K fs))(hn:x≠"__name__")(hdb:(x==("__debug__":Str))=false)
    (he:starEach (a::es) X.env=(false,eval a X.env)::starEach es X.env)(hpl:(backTo pos (starEach es X.env)).any (·.1)=false):PE X (.Call (.Name x p) (a::es) [] pos) (fE K (ay g fs)):=(kP hc hg hm hv ha hn hdb he hpl).mono fun _ _ _ h=>oH ho h
theorem rA{x:Str}{p pos:Pos}{T:String}{r:List V→Hp→VK→Prop}{g:En→List Rv→Option Rv}(hc:cQ X (.type T) r)(ho:dn K r g)(hg:Gl X x)(hm:X.mg x=none)(hv:bootBuiltins x=some (.type T))(ha:PA X (a::es) (fA K fs))(hn:x≠"__name__")(hdb:(x==("__debug__":Str))=false)
    (he:starEach (a::es) X.env=(false,eval a X.env)::starEach es X.env)(hpl:(backTo pos (starEach es X.env)).any (·.1)=false):PE X (.Call (.Name x p) (a::es) [] pos) (fE K (ay g fs)):=(lP hc hg hm hv ha hn hdb he hpl).mono fun _ _ _ h=>oH ho h
end
end L2
namespace L2
open PySem PySem.Spec PyProof.Rows
mutual
theorem DA.reads{X:Cx}{pins:List (Addr × Obj)}{σ:L2.St}{H:Hp}{s:Shared}(I:au X pins σ H s):∀{d:PyData} {v:V} {u:Value},d.canLay0=true→DA X.K H d v→bf v u→∃as,Reads s.heap u d as
  | .none,_,_,_,q,r=>by
    simp only [DA] at q;subst q;cases r;exact⟨_,.none⟩
  | .bool b,_,_,_,q,r=>by
    simp only [DA] at q;subst q;cases r;exact⟨_,.bool b⟩
  | .int i,_,_,_,q,r=>by
    simp only [DA] at q;subst q;obtain⟨t,rfl⟩:=r;exact⟨_,.int i t⟩
  | .str x,_,_,_,q,r=>by
    simp only [DA] at q;subst q;obtain⟨t,rfl⟩:=r;exact⟨_,.str x t⟩
  | .tuple ds,_,_,c,q,r=>by
    simp only [DA] at q
    obtain⟨a,xs,e,hs,rr⟩:=q
    subst e;cases r
    obtain⟨its,rv,⟨o,ho,hc,n,hd⟩,hz⟩:=I.tuple hs
    obtain⟨as,q⟩:=ax.reads I (by simpa [PyData.canLay0] using c) rr rv
    exact⟨_,.tuple ho hc hd q⟩
  | .list ds,_,_,c,q,r=>by
    simp only [DA] at q
    obtain⟨a,xs,e,hs,rr⟩:=q
    subst e;cases r
    obtain⟨its,rv,ht,hz⟩:=I.list hs
    obtain⟨o,ho,hc,n,hd⟩:=ht.isList
    obtain⟨as,q⟩:=ax.reads I (by simpa [PyData.canLay0] using c) rr rv
    exact⟨_,.list ho hc hd q⟩
  | .dict _,_,_,c,_,_=>by simp [PyData.canLay0] at c
theorem ax.reads{X:Cx}{pins:List (Addr × Obj)}{σ:L2.St}{H:Hp}{s:Shared}(I:au X pins σ H s):∀{ds:List PyData} {xs:List V} {us:List Value},PyData.canLayAll0 ds=true→ax X.K H ds xs→aE xs us→∃as,ReadsAll s.heap us ds as
  | [],_,_,_,q,r=>by
    simp only [ax] at q;subst q;cases r;exact⟨_,.nil⟩
  | d::ds,_,_,c,q,r=>by
    simp only [ax] at q
    simp only [PyData.canLayAll0,Bool.and_eq_true] at c
    obtain⟨x,rr,e,a,b⟩:=q
    subst e
    cases r with
    | cons p p'=>
      obtain⟨as,q1⟩:=DA.reads I c.1 a p
      obtain⟨bs,q2⟩:=ax.reads I c.2 b p'
      exact⟨_,.cons q1 q2⟩
end
def i4(e:En):Rv→Option PyData
  | .d x=>some x
  | .l xs=>some (.list xs)
  | .s i=>match e[i]? with
    | some (some (.l xs))=>some (.list xs)
    | _=>none
theorem i5{K:PySem.W.Frag}{σ:L2.St}{H0 F H:Hp}{e:En}{r:Rv}{v:V}{d:PyData}(R:a7 K F H σ e)(h:bY K σ H0 F H e r v)(q:i4 e r=some d):DA K H d v:=by
  cases r with
  | d x=>cases q;exact DA.mono R.sm h
  | l xs=>
    cases q
    obtain⟨l,vs,rfl,h1,h2,h3,h4,_⟩:=h
    exact et.mpr ⟨l,vs,rfl,.inl (.inl h3),ax.mono R.sm h4⟩
  | s i=>
    obtain⟨h1,ys,h2⟩:=h
    simp only [i4,h2] at q
    cases q
    obtain⟨l,vs,e1,e2,e3,e4⟩:=R.own i _ h2
    rw [h1] at e1;cases e1
    exact et.mpr ⟨l,vs,rfl,.inl (.inl e3),ax.mono R.sm e4⟩
section
variable{X:Cx}{K:PySem.W.Frag}
def bL:Rv→Option Int
  | .d (.int i)=>some i
  | _=>none
theorem bM{σ:L2.St}{H0 F H:Hp}{e:En}{r:Rv}{v:V}{i:Int}(h:bY K σ H0 F H e r v)(q:bL r=some i):v=.int i:=by
  unfold bL at q
  split at q
  · cases q;exact cm.mp (show DA K F (.int _) v from h)
  · cases q
theorem hE{σ:L2.St}{H0 F H:Hp}{e:En}{i:Int}:bY K σ H0 F H e (.d (.int i)) (.int i):=(cm (K:=K) (F:=F)).mpr rfl
def gI(C:Int→Int→Bool)(f:Int→Int→PyData):En→Rv→Rv→Option Rv:=fun _ x y=>(bL x).bind fun i=>(bL y).bind fun j=>if C i j=true then some (.d (f i j)) else none
theorem oe{C:Int→Int→Prop}{c:Int→Int→Bool}{g:Int→Int→V}{f:Int→Int→PyData}(hc:∀i j,c i j=true→C i j)(hf:∀F i j,DA K F (f i j) (g i j)):fm K (rI C g) (gI c f):=by
  intro σ H0 F H e x y z v u Q R A B hg q
  unfold gI at hg
  obtain⟨i,h1,hg⟩:=Option.bind_eq_some_iff.mp hg
  obtain⟨j,h2,hg⟩:=Option.bind_eq_some_iff.mp hg
  split at hg
  case isFalse=>cases hg
  case isTrue hh=>
  cases hg
  exact⟨i,j,bM A h1,bM B h2,hc i j hh,q F H _ (dP.refl _ _ _ _) R (hf F i j)⟩
theorem gY{g:Int→Int→V}{f:Int→Int→PyData}(hf:∀F i j,DA K F (f i j) (g i j)):fm K (pC g) (gI (fun _ _=>true) f):=by
  intro σ H0 F H e x y z v u Q R A B hg q
  obtain⟨i,j,h1,h2,h3,h4⟩:=oe (K:=K) (C:=fun _ _=>True) (c:=fun _ _=>true) (g:=g) (f:=f) (fun _ _ _=>trivial) hf σ H0 F H e x y z v u Q R A B hg q
  exact⟨i,j,h1,h2,h4⟩
def sN(g g':En→Rv→Rv→Option Rv):En→Rv→Rv→Option Rv:=fun e x y=>(g e x y).or (g' e x y)
theorem fm.or{r r':R2}{g g':En→Rv→Rv→Option Rv}(h:fm K r g)(h':fm K r' g'):fm K (fun x y H Q=>r x y H Q∨r' x y H Q) (sN g g'):=by
  intro σ H0 F H e x y z v u Q R A B hg q
  unfold sN at hg
  cases e1:g e x y with
  | some w=>
    rw [e1] at hg
    cases hg
    exact .inl (h σ H0 F H e x y _ v u Q R A B e1 q)
  | none=>
    rw [e1] at hg
    exact .inr (h' σ H0 F H e x y _ v u Q R A B hg q)
def sC:=gI (fun _ _=>true) fun i j=>.int (i+j)
def eT:=gI (fun _ _=>true) fun i j=>.int (i - j)
def gu(i:Int):Bool:=decide (-(2 ^ 64) < i)&&decide (i < 2 ^ 64)
def Ab(n:Nat)(i:Int):Bool:=decide (i.natAbs < 2 ^ n)
theorem iV{n:Nat}{i:Int}:Ab n i=true↔ Bt n i:=by unfold Ab Bt;exact decide_eq_true_iff
def jG(i j:Int):Bool:=gu i || gu j || (Ab 4000 i&&Ab 4000 j)
def nG:=gI jG fun i j=>.int (i*j)
def fQ:=gI (fun _ j=>j != 0&&Ab 8000 j) fun i j=>.int (i.fdiv j)
def aZ:=gI (fun _ j=>j != 0) fun i j=>.int (i.fmod j)
def tW(i j:Int):Bool:=decide (0≤j)&&decide (j≤1000000)&&gu i
def my:=gI tW fun i j=>.int (i ^ j.toNat)
theorem iP{i:Int}(h:gu i=true): -(2 ^ 64) < i∧i < 2 ^ 64:=by
  unfold gu at h
  rw [Bool.and_eq_true,decide_eq_true_iff,decide_eq_true_iff] at h
  exact h
theorem wa{i j:Int}(h:tW i j=true):xI i j:=by
  unfold tW at h
  rw [Bool.and_eq_true,Bool.and_eq_true,decide_eq_true_iff,decide_eq_true_iff] at h
  have:=iP h.2
  exact⟨h.1.1,h.1.2,by lia⟩
def pN(i j:Int):Prop:=uR i j∨wN i j
theorem vN:fg X (binaryOp .Mult) (rI pN fun i j=>.int (i*j)):=by
  intro pins s σ H x y v u Q I rx ry h
  obtain⟨i,j,e1,e2,h1,q⟩:=h
  rcases h1 with h1 | h1
  · exact yH pins s σ H x y v u Q I rx ry ⟨i,j,e1,e2,h1,q⟩
  · exact vO pins s σ H x y v u Q I rx ry ⟨i,j,e1,e2,h1,q⟩
theorem vD{i j:Int}(h:jG i j=true):pN i j:=by
  unfold jG at h
  rw [Bool.or_eq_true,Bool.or_eq_true,Bool.and_eq_true] at h
  rcases h with (h | h) | h
  · exact .inl (.inl (iP h))
  · exact .inl (.inr (iP h))
  · exact .inr ⟨iV.mp h.1,iV.mp h.2⟩
theorem yp:fm K (rI pN fun i j=>.int (i*j)) nG:=oe (fun _ _ h=>vD h) fun _ _ _=>cm.mpr rfl
theorem Bj:fm K (pC fun i j=>.int (i - j)) eT:=gY fun _ _ _=>cm.mpr rfl
theorem xU:fm K (rI wM fun i j=>.int (i.fdiv j)) fQ:=oe (fun i j h=>by
  rw [Bool.and_eq_true] at h
  exact⟨by simpa using h.1,iV.mp h.2⟩) fun _ _ _=>cm.mpr rfl
theorem Az:fm K (rI (fun _ j=>j≠0) fun i j=>.int (i.fmod j)) aZ:=oe (fun i j h=>by simpa using h) fun _ _ _=>cm.mpr rfl
theorem AS:fm K (rI xI fun i j=>.int (i ^ j.toNat)) my:=oe (fun _ _ h=>wa h) fun _ _ _=>cm.mpr rfl
def nB:En→Rv→Rv→Option Rv:=fun e x y=>match bP e x,bP e y with
  | some (false,xs),some (false,ys)=>if xs.length+ys.length≤1000000 then some (.d (.tuple (xs++ys))) else none
  | _,_=>none
theorem xS:fm K (ui K) nB:=by
  intro σ H0 F H e x y z v u Q R A B hg q
  unfold nB at hg
  match h1:bP e x,h2:bP e y,hg with
  | some (false,xs),some (false,ys),hg=>
    obtain⟨p,vs,rfl,d1,s1⟩:=bw R A h1
    obtain⟨p',us,rfl,d2,s2⟩:=bw R B h2
    dsimp only at hg
    split at hg
    case isFalse=>cases hg
    case isTrue hl=>
    cases hg
    have l1:=d1.len
    have l2:=d2.len
    have sl:sizeLine=16777216:=sizeLine_eq
    refine⟨p,p',vs,us,rfl,rfl,s1,s2,by lia,fun t H' sm hT=>?_⟩
    obtain⟨F',R',X',hF⟩:=R.growT sm hT
    exact q F' H' _ X' R' (dz.mpr ⟨t,_,rfl,hF,(d1.append d2).mono X'.sf⟩)
def rg(e:En):Rv→Option (List PyData)
  | .l xs=>some xs
  | .s i=>match e[i]? with
    | some (some (.l xs))=>some xs
    | _=>none
  | _=>none
theorem mF{σ:L2.St}{H0 F H:Hp}{e:En}{r:Rv}{v:V}(R:a7 K F H σ e)(h:bY K σ H0 F H e r v){xs:List PyData}(q:rg e r=some xs):∃p vs,v=.ref p∧F p=none∧H p=some (.lst vs)∧ax K F xs vs:=by
  cases r with
  | d x=>cases q
  | l ys=>
    cases q
    obtain⟨l,vs,e1,h1,h2,h3,h4,_⟩:=h
    exact⟨l,vs,e1,h2,h3,h4⟩
  | s i=>
    obtain⟨h1,ys,h2⟩:=h
    simp only [rg,h2] at q
    cases q
    obtain⟨l,vs,e1,e2,e3,e4⟩:=R.own i _ h2
    rw [h1] at e1;cases e1
    exact⟨l,vs,rfl,e2,e3,e4⟩
def pZ:En→Rv→Rv→Option Rv:=fun e x y=>(rg e x).bind fun xs=>(rg e y).bind fun ys=>if xs.length+ys.length≤1000000 then some (.l (xs++ys)) else none
theorem xR:fm K zh pZ:=by
  intro σ H0 F H e x y z v u Q R A B hg q
  unfold pZ at hg
  obtain⟨xs,h1,hg⟩:=Option.bind_eq_some_iff.mp hg
  obtain⟨ys,h2,hg⟩:=Option.bind_eq_some_iff.mp hg
  split at hg
  case isFalse=>cases hg
  case isTrue hl=>
  cases hg
  obtain⟨p,vs,rfl,f1,s1,d1⟩:=mF R A h1
  obtain⟨p',us,rfl,f2,s2,d2⟩:=mF R B h2
  have l1:=d1.len
  have l2:=d2.len
  have sl:sizeLine=16777216:=sizeLine_eq
  refine⟨p,p',vs,us,rfl,rfl,s1,s2,by lia,fun t ht=>?_⟩
  obtain⟨R3,X3,hF,no⟩:=R.newL (vs:=vs++us) ht
  exact q _ _ _ X3 R3 ⟨t,_,rfl,ht,hF,aq,d1.append d2,no⟩
def aK:En→Rv→Rv→Option Rv:=sN sC (sN nB pZ)
def xE(K:PySem.W.Frag):R2:=fun x y H Q=>pC (fun i j=>.int (i+j)) x y H Q∨(ui K x y H Q∨zh x y H Q)
theorem vI:fg X (binaryOp .Add) (xE X.K):=yy.or (vJ.or yz)
theorem z5:fm K (xE K) aK:=fm.or (gY fun _ _ _=>cm.mpr rfl) (fm.or xS xR)
def nJ:En→Rv→Rv→Option Rv:=fun e x y=>match bP e x,bL y with
  | some (false,[d]),some k=>if 0≤k∧k≤100000 then some (.d (.tuple (List.replicate k.toNat d))) else none
  | _,_=>none
theorem ax.rep{F:Hp}{d:PyData}{v:V}(h:DA K F d v):∀n,ax K F (List.replicate n d) (List.replicate n v)
  | 0=>ax.nil
  | n+1=>ax.cons h (ax.rep h n)
theorem zp:fm K (uk K) nJ:=by
  intro σ H0 F H e x y z v u Q R A B hg q
  unfold nJ at hg
  match h1:bP e x,h2:bL y,hg with
  | some (false,[d]),some k,hg=>
    obtain⟨p,vs,rfl,d1,s1⟩:=bw R A h1
    dsimp only at hg
    split at hg
    case isFalse=>cases hg
    case isTrue hl=>
    cases hg
    have hd:=d1
    simp only [ax] at hd
    obtain⟨w,r,e1,hw,e2⟩:=hd
    subst e2 e1
    refine⟨p,k,w,rfl,bM B h2,s1,hl.1,hl.2,fun t H' sm hT=>?_⟩
    obtain⟨F',R',X',hF⟩:=R.growT sm hT
    exact q F' H' _ X' R' (dz.mpr ⟨t,_,rfl,hF,(ax.rep hw _).mono X'.sf⟩)
def sO:En→Rv→Rv→Option Rv:=fun e x y=>(rg e x).bind fun xs=>(bL y).bind fun k=>if -100000≤k∧k≤100000∧xs.length*k.toNat≤1000000 then some (.l (List.replicate k.toNat xs).flatten) else none
theorem ax.reps{F:Hp}{ds:List PyData}{vs:List V}(h:ax K F ds vs):∀n,ax K F (List.replicate n ds).flatten (List.replicate n vs).flatten
  | 0=>ax.nil
  | n+1=>by simpa [List.replicate_succ] using ax.append h (ax.reps h n)
theorem zo:fm K zm sO:=by
  intro σ H0 F H e x y z v u Q R A B hg q
  unfold sO at hg
  obtain⟨xs,h1,hg⟩:=Option.bind_eq_some_iff.mp hg
  obtain⟨k,h2,hg⟩:=Option.bind_eq_some_iff.mp hg
  split at hg
  case isFalse=>cases hg
  case isTrue hl=>
  cases hg
  obtain⟨p,vs,rfl,f1,s1,d1⟩:=mF R A h1
  have l1:=d1.len
  have sl:sizeLine=16777216:=sizeLine_eq
  refine⟨p,k,vs,rfl,bM B h2,s1,by lia,by lia,by rw [←l1];lia,fun t ht=>?_⟩
  obtain⟨R3,X3,hF,no⟩:=R.newL (vs:=(List.replicate k.toNat vs).flatten) ht
  exact q _ _ _ X3 R3 ⟨t,_,rfl,ht,hF,aq,ax.reps d1 _,no⟩
def jB:En→Rv→Rv→Option Rv:=sN nG (sN nJ sO)
def xF(K:PySem.W.Frag):R2:=fun x y H Q=>rI pN (fun i j=>.int (i*j)) x y H Q∨(uk K x y H Q∨zm x y H Q)
theorem vM:fg X (binaryOp .Mult) (xF X.K):=vN.or (vP.or yL)
theorem AA:fm K (xF K) jB:=fm.or yp (fm.or zp zo)
def uM:=gI (fun _ _=>true) fun i j=>.bool (decide (i < j))
def zN:=gI (fun _ _=>true) fun i j=>.bool (decide (i≤j))
def Aj:=gI (fun _ _=>true) fun i j=>.bool (decide (j < i))
def xm:=gI (fun _ _=>true) fun i j=>.bool (decide (j≤i))
theorem Cj:fm K (pC fun i j=>.bl (decide (i < j))) uM:=gY fun _ _ _=>cG.mpr rfl
theorem Ci:fm K (pC fun i j=>.bl (decide (i≤j))) zN:=gY fun _ _ _=>cG.mpr rfl
theorem Ca:fm K (pC fun i j=>.bl (decide (j < i))) Aj:=gY fun _ _ _=>cG.mpr rfl
theorem B':fm K (pC fun i j=>.bl (decide (j≤i))) xm:=gY fun _ _ _=>cG.mpr rfl
def zi(K:PySem.W.Frag)(neg:Bool):R2:=fun x y H Q=>∃a b,DA K H a x∧DA K H b y∧SeqAt.shaped a=true∧SeqAt.shaped b=true∧Q (.bl (if neg then !PyData.eqv a b else PyData.eqv a b)) H
theorem yA{k:Nat}(hr:bX k X.A):fg X (compareOp .Eq) (zi X.K false):=by
  intro pins s σ H x y v u Q I rx ry h
  obtain⟨a,b,ha,hb,s1,s2,q⟩:=h
  obtain⟨as,ra⟩:=DA.reads I (SeqAt.canLay_of_shaped s1) ha rx
  obtain⟨bs,rb⟩:=DA.reads I (SeqAt.canLay_of_shaped s2) hb ry
  exact SeqAt.compareEq_shaped ra rb s1 s2 hr.units ⟨.bl _,H,I,rfl,q⟩
theorem yI{k:Nat}(hr:bX k X.A):fg X (compareOp .NotEq) (zi X.K true):=by
  intro pins s σ H x y v u Q I rx ry h
  obtain⟨a,b,ha,hb,s1,s2,q⟩:=h
  obtain⟨as,ra⟩:=DA.reads I (SeqAt.canLay_of_shaped s1) ha rx
  obtain⟨bs,rb⟩:=DA.reads I (SeqAt.canLay_of_shaped s2) hb ry
  exact SeqAt.compareNe_shaped ra rb s1 s2 hr.units ⟨.bl _,H,I,rfl,q⟩
def cv(neg:Bool):En→Rv→Rv→Option Rv:=fun e x y=>(i4 e x).bind fun a=>(i4 e y).bind fun b=>if (SeqAt.shaped a&&SeqAt.shaped b)=true then some (.d (.bool (if neg then !PyData.eqv a b else PyData.eqv a b))) else none
theorem w_{neg:Bool}:fm K (zi K neg) (cv neg):=by
  intro σ H0 F H e x y z v u Q R A B hg q
  unfold cv at hg
  obtain⟨a,h1,hg⟩:=Option.bind_eq_some_iff.mp hg
  obtain⟨b,h2,hg⟩:=Option.bind_eq_some_iff.mp hg
  split at hg
  case isFalse=>cases hg
  case isTrue hl=>
  cases hg
  rw [Bool.and_eq_true] at hl
  exact⟨a,b,i5 R A h1,i5 R B h2,hl.1,hl.2,q F H _ (dP.refl _ _ _ _) R dH⟩
def A6(K:PySem.W.Frag)(neg:Bool):R2:=fun x y H Q=>∃a xs,DA K H a x∧(DA K H (.list xs) y∨DA K H (.tuple xs) y)∧a.canLay0=true∧a.depth≤60∧PyData.canLayAll0 xs=true∧Q (.bl (if neg then !(xs.any fun y=>PyData.eqv y a) else xs.any fun y=>PyData.eqv y a)) H
theorem yD{k:Nat}(hr:bX k X.A):fg X (compareOp .In) (A6 X.K false):=by
  intro pins s σ H x y v u Q I rx ry h
  obtain⟨a,xs,ha,hb,s1,s2,s3,q⟩:=h
  obtain⟨as,ra⟩:=DA.reads I s1 ha rx
  have hu:=hr.units
  rcases hb with hb | hb
  · obtain⟨bs,rb⟩:=DA.reads I (by simpa [PyData.canLay0] using s3) hb ry
    exact PySem.SeqAt.in_list_reads rb ra s3 s1 (by lia) ⟨.bl _,H,I,rfl,q⟩
  · obtain⟨bs,rb⟩:=DA.reads I (by simpa [PyData.canLay0] using s3) hb ry
    exact PySem.SeqAt.in_tuple_reads rb ra s3 s1 (by lia) ⟨.bl _,H,I,rfl,q⟩
def sG(neg:Bool):En→Rv→Rv→Option Rv:=fun e x y=>(i4 e x).bind fun a=>(bP e y).bind fun p=>if (a.canLay0&&decide (a.depth≤60)&&PyData.canLayAll0 p.2)=true then some (.d (.bool (if neg then !(p.2.any fun y=>PyData.eqv y a) else p.2.any fun y=>PyData.eqv y a))) else none
theorem Cc{neg:Bool}:fm K (A6 K neg) (sG neg):=by
  intro σ H0 F H e x y z v u Q R A B hg q
  unfold sG at hg
  obtain⟨a,h1,hg⟩:=Option.bind_eq_some_iff.mp hg
  obtain⟨⟨b,xs⟩,h2,hg⟩:=Option.bind_eq_some_iff.mp hg
  split at hg
  case isFalse=>cases hg
  case isTrue hl=>
  cases hg
  rw [Bool.and_eq_true,Bool.and_eq_true,decide_eq_true_iff] at hl
  obtain⟨p,vs,rfl,d1,s1⟩:=bw R B h2
  refine⟨a,xs,i5 R A h1,?_,hl.1.1,hl.1.2,hl.2,q F H _ (dP.refl _ _ _ _) R dH⟩
  cases b with
  | true=>exact .inl (et.mpr ⟨p,vs,rfl,s1,d1.mono R.sm⟩)
  | false=>exact .inr (dz.mpr ⟨p,vs,rfl,s1,d1.mono R.sm⟩)
def mD:PyData→Bool
  | .none=>true
  | _=>false
theorem qU{F:Hp}{d:PyData}{v:V}(h:DA K F d v):decide (v=.non)=mD d:=by
  cases d with
  | none=>rw [ic.mp h];rfl
  | bool b=>rw [cG.mp h];rfl
  | int b=>rw [cm.mp h];rfl
  | str b=>rw [kl.mp h];rfl
  | tuple b=>obtain⟨a,_,e,_⟩:=dz.mp h;rw [e];rfl
  | list b=>obtain⟨a,_,e,_⟩:=et.mp h;rw [e];rfl
  | dict b=>simp only [DA] at h;obtain⟨a,m,rfl,_⟩:=h;rfl
def xY(neg:Bool):En→Rv→Rv→Option Rv:=fun e x y=>(i4 e x).bind fun a=>match y with
  | .d .none=>some (.d (.bool (if neg then !mD a else mD a)))
  | _=>none
def xX(neg:Bool):En→Rv→Rv→Option Rv:=fun e x y=>(eR x).bind fun a=>(eR y).bind fun b=>some (.d (.bool (if neg then !(a==b) else a==b)))
theorem Ap:fm K (fun x y H Q=>y=.non∧Q (.bl (decide (x=.non))) H) (xY false):=by
  intro σ H0 F H e x y z v u Q R A B hg q
  unfold xY at hg
  obtain⟨a,h1,hg⟩:=Option.bind_eq_some_iff.mp hg
  split at hg
  · cases hg
    refine⟨ic.mp (show DA K F .none u from B),?_⟩
    rw [qU (i5 R A h1)]
    exact q F H _ (dP.refl _ _ _ _) R dH
  · cases hg
theorem Ao:fm K (fun x y H Q=>∃b c,x=.bl b∧y=.bl c∧Q (.bl (b==c)) H) (xX false):=by
  intro σ H0 F H e x y z v u Q R A B hg q
  unfold xX at hg
  obtain⟨a,h1,hg⟩:=Option.bind_eq_some_iff.mp hg
  obtain⟨b,h2,hg⟩:=Option.bind_eq_some_iff.mp hg
  cases hg
  exact⟨a,b,eL A h1,eL B h2,q F H _ (dP.refl _ _ _ _) R dH⟩
def xW:En→Rv→Rv→Option Rv:=sN (xY false) (xX false)
def A7:R2:=fun x y H Q=>(y=.non∧Q (.bl (decide (x=.non))) H)∨∃b c,x=.bl b∧y=.bl c∧Q (.bl (b==c)) H
theorem yE:fg X (compareOp .Is) A7:=yG.or yF
theorem Cd:fm K A7 xW:=fm.or Ap Ao
def cO:En→Rv→Rv→Option Rv:=fun e x y=>(bP e x).bind fun p=>(bL y).bind fun i=>(atI p.2 i).map .d
def A8(K:PySem.W.Frag):R2:=fun x y H Q=>A9 K x y H Q∨A_ K x y H Q
theorem Ce:uV X (A8 X.K):=vo.or ya
theorem ax.atI{F:Hp}{ds:List PyData}{vs:List V}(h:ax K F ds vs){i:Int}{d:PyData}(q:atI ds i=some d):∃v,L2.atI vs i=some v∧DA K F d v:=by
  unfold L2.atI at q ⊢
  obtain⟨j,h1,h2⟩:=Option.bind_eq_some_iff.mp q
  obtain⟨v,h3,h4⟩:=h.get h2
  exact⟨v,by rw [←h.len,h1];exact h3,h4⟩
theorem Cf:fm K (A8 K) cO:=by
  intro σ H0 F H e x y z v u Q R A B hg q
  unfold cO at hg
  obtain⟨⟨b,xs⟩,h1,hg⟩:=Option.bind_eq_some_iff.mp hg
  obtain⟨i,h2,hg⟩:=Option.bind_eq_some_iff.mp hg
  obtain⟨d,h3,hg⟩:=Option.map_eq_some_iff.mp hg
  cases hg
  obtain⟨p,vs,rfl,d1,s1⟩:=bw R A h1
  obtain⟨w,h4,h5⟩:=d1.atI h3
  have fin:=q F H w (dP.refl _ _ _ _) R h5
  cases b with
  | true=>exact .inl ⟨p,vs,i,w,rfl,bM B h2,s1,h4,fin⟩
  | false=>exact .inr ⟨p,vs,i,w,rfl,bM B h2,s1,h4,fin⟩
end
end L2
namespace HT
open PySem PySem.Spec PyProof.Rows
section
variable{prog:Program}{w:World}{A:Around}{E:Value→Shared→Prop}{s:Shared}
theorem getItem_tuple_all{t sl:Addr}{items:Array Value}{vl vu:Value}{lo hi:Option Int}{Q:Value→Shared→Prop}(ht:IsTup s.heap t items)(hs:s.heap.IsSliceOf sl vl vu .none)(pl:IsPart vl lo)(pu:IsPart vu hi)
    (hw:sIx items.size 0 lo=0∧sIx items.size items.size hi=items.size)
    (h:Q (.ref t) s):wpAny (model prog w) A (getItem (.ref t) (.ref sl)) Q E s:=by
  obtain⟨os,hos,hcs,hds⟩:=id hs
  have hTs:s.TypeIs (.ref sl) "slice":=⟨os,hos,hcs⟩
  unfold getItem
  try with_reducible refine wpAny_holding ?_
  first | refine wpAny_bind (wpAny_pure ?_) | skip
  refine wpAny_bind (wpAny_sequenceKey ht.typeIs (by decide) ?_)
  refine wpAny_bind (wpAny_callSpecial?_slot (name:=Str.ofString "__getitem__") ht.typeIs PyProof.Rows.slot_tuple_getitem
    (wpAny_call_entry PyProof.Rows.slot_tuple_getitem ht.typeIs entry_tuple_getitem ?_ (args_tuple_getitem _ _)))
  show wpAny _ _ (Builtin.Tuple.tupleItemsOf (.ref t) >>= _) _ _ s
  refine wpAny_bind (tupleItemsOf_ ht ?_)
  refine wpAny_bind (wpAny_typeOf hTs ?_)
  rw [if_pos (by decide)]
  refine wpAny_bind (fW hs pl pu ?_)
  have hno:(((sIx items.size 0 lo:Nat):Int)==0&&(1:Int)==1&&(sIx items.size items.size hi - sIx items.size 0 lo)==items.size)=true:=by
    rw [hw.1,hw.2];simp
  show wpAny _ _ (if (((sIx items.size 0 lo:Nat):Int)==0&&(1:Int)==1&&(sIx items.size items.size hi - sIx items.size 0 lo)==items.size)=true then _ else _) _ _ s
  rw [if_pos hno]
  unfold Builtin.Tuple.tupleIsExact
  refine wpAny_bind (wpAny_bind (wpAny_typeOf ht.typeIs (wpAny_pure ?_)))
  rw [if_pos (by decide)]
  exact wpAny_bind (wpAny_rule (wpAny_pure ⟨_,rfl,wpAny_pure h⟩))
end
end HT
namespace L2
open PySem PySem.Spec PyProof.Rows
section
variable{X:Cx}{K:PySem.W.Frag}{a:Expr}{fa:FE}{lo hi:Option Expr}{pos p2:Pos}
def cutD(xs:List PyData)(lo hi:Option Int):List PyData:=(xs.drop (HT.sIx xs.length 0 lo)).take (HT.sIx xs.length xs.length hi - HT.sIx xs.length 0 lo)
def Be(K:PySem.W.Frag):V→Option Int→Option Int→Hp→VK→Prop:=fun x lo hi H Q=>∃a xs,x=.ref a∧dQ K H a xs∧
  (HT.sIx xs.length 0 lo=0∧HT.sIx xs.length xs.length hi=xs.length)∧Q (.ref a) H
theorem wz:uW X (Be X.K):=by
  intro pins s σ H x v vl vu lo hi sl Q I rx hs pl pu h
  obtain⟨a,xs,rfl,hx,hw,q⟩:=h
  cases rx
  obtain⟨its,r,ht,hz⟩:=I.tuple hx
  have hlen:its.toArray.size=xs.length:=by rw [List.size_toArray];exact r.length.symm
  refine⟨"tuple",_,PyProof.Rows.slot_tuple_getitem.lookup,ht.typeIs,?_⟩
  exact HT.getItem_tuple_all ht hs pl pu (by rw [hlen];exact hw) ⟨.ref a,H,I,rfl,q⟩
def Cq(K:PySem.W.Frag):V→Option Int→Option Int→Hp→VK→Prop:=fun x lo hi H Q=>Bd K x lo hi H Q∨(Be K x lo hi H Q∨Bc K x lo hi H Q)
theorem Cs:uW X (Cq X.K):=zu.or (wz.or wy)
abbrev FO:=En→Option (Option Int × En)
def fO(K:PySem.W.Frag)(f:FO):TO:=fun σ H Q=>∃F e o e',a7 K F H σ e∧f e=some (o,e')∧∀F' H',dP σ F H e F' H' e'→a7 K F' H' σ e'→Q o H'
theorem PO.mono{e:Option Expr}{t t':TO}(h:PO X e t)(m:∀σ H Q,t' σ H Q→t σ H Q):PO X e t':=fun pins s σ H Q I q=>h pins s σ H Q I (m σ H Q q)
def cx:FO:=fun e=>some (none,e)
def cg(f:FE):FO:=fun e=>(f e).bind fun p=>(bL p.1).map fun i=>(some i,p.2)
theorem bF:PO X none (fO K cx):=vZ.mono fun σ H Q h=>by
  obtain⟨F,e,o,e',R,hf,q⟩:=h
  cases hf
  exact q F H (dP.refl _ _ _ _) R
theorem bG(h:PE X a (fE K fa)):PO X (some a) (fO K (cg fa)):=(v0 h).mono fun σ H Q h=>by
  obtain⟨F,e,o,e',R,hf,q⟩:=h
  unfold cg at hf
  obtain⟨⟨x,e1⟩,h1,hf⟩:=Option.bind_eq_some_iff.mp hf
  obtain⟨i,h2,hf⟩:=Option.map_eq_some_iff.mp hf
  cases hf
  exact⟨F,e,x,_,R,h1,fun F1 H1 v X1 R1 A1=>⟨i,bM A1 h2,q F1 H1 X1 R1⟩⟩
def B9(e:En)(x:Rv)(lo hi:Option Int):Option Rv:=(bP e x).map fun p=>if p.1=true then .l (cutD p.2 lo hi) else .d (.tuple (cutD p.2 lo hi))
def j_(fa:FE)(fl fh:FO):FE:=fun e=>(fa e).bind fun p=>(fl p.2).bind fun l=>(fh l.2).bind fun h=>(B9 h.2 p.1 l.1 h.1).map fun z=>(z,h.2)
theorem su{F:Hp}{ds:List PyData}{vs:List V}(h:ax K F ds vs)(lo hi:Option Int):ax K F (cutD ds lo hi) (lh vs lo hi):=by
  unfold cutD lh
  rw [h.len]
  exact(h.drop _).take _
theorem u_{α:Type}{xs:List α}{lo hi:Option Int}(h:HT.sIx xs.length 0 lo=0∧HT.sIx xs.length xs.length hi=xs.length):(xs.drop (HT.sIx xs.length 0 lo)).take (HT.sIx xs.length xs.length hi - HT.sIx xs.length 0 lo)=xs:=by
  rw [h.1,h.2];simp
theorem ug{fl fh:FO}(he:PE X a (fE X.K fa))(hl:PO X lo (fO X.K fl))(hh:PO X hi (fO X.K fh)):PE X (.Subscript a (.Slice lo hi none p2) pos) (fE X.K (j_ fa fl fh)):=(tO Cs he hl hh).mono fun σ H Q h=>by
  obtain⟨F,e,z,e',R,hf,q⟩:=h
  unfold j_ at hf
  obtain⟨⟨x,e1⟩,h1,hf⟩:=Option.bind_eq_some_iff.mp hf
  obtain⟨⟨l,e2⟩,h2,hf⟩:=Option.bind_eq_some_iff.mp hf
  obtain⟨⟨u,e3⟩,h3,hf⟩:=Option.bind_eq_some_iff.mp hf
  obtain⟨z',h4,hf⟩:=Option.map_eq_some_iff.mp hf
  cases hf
  refine⟨F,e,x,e1,R,h1,fun F1 H1 v X1 R1 A1=>⟨F1,e1,l,e2,R1,h2,fun F2 H2 X2 R2=>⟨F2,e2,u,_,R2,h3,fun F3 H3 X3 R3=>?_⟩⟩⟩
  have X12:=X1.trans X2
  have X13:=X12.trans X3
  have A3:=(A1.ext X2).ext X3
  unfold B9 at h4
  obtain⟨⟨b,xs⟩,h5,h4⟩:=Option.map_eq_some_iff.mp h4
  obtain⟨p,vs,rfl,d1,s1⟩:=bw R3 A3 h5
  cases b with
  | true=>
    rw [if_pos rfl] at h4;cases h4
    refine .inr (.inr ⟨p,vs,rfl,s1,fun t ht=>?_⟩)
    obtain⟨R4,X4,hF,no⟩:=R3.newL (vs:=lh vs l u) ht
    exact q _ _ _ (X13.trans X4) R4 ⟨t,_,rfl,X13.dom _ ht,hF,aq,su d1 l u,no⟩
  | false=>
    rw [if_neg (by simp)] at h4;cases h4
    by_cases hw:HT.sIx vs.length 0 l=0∧HT.sIx vs.length vs.length u=vs.length
    · refine .inr (.inl ⟨p,vs,rfl,s1,hw,?_⟩)
      have e5:cutD xs l u=xs:=by unfold cutD;exact u_ (by rw [d1.len];exact hw)
      rw [e5] at q
      obtain⟨F4,R4,X4,hF⟩:=R3.growT (av.refl _) s1
      exact q _ _ _ (X13.trans X4) R4 (dz.mpr ⟨p,vs,rfl,hF,d1.mono X4.sf⟩)
    · refine .inl ⟨p,vs,rfl,s1,hw,fun t ht=>?_⟩
      obtain⟨R4,X4⟩:=R3.newT (vs:=lh vs l u) ht
      exact q _ _ _ (X13.trans X4) R4 (dz.mpr ⟨t,_,rfl,.inl (.inl aq),(su d1 l u).mono X4.sf⟩)
end
section
variable{X:Cx}{K:PySem.W.Frag}
theorem ke{σ:L2.St}{H0 F H:Hp}{e:En}{x:Rv}{vs:List V}(h:cS K σ H0 F H e [x] vs):∃v,vs=[v]∧bY K σ H0 F H e x v:=by
  obtain⟨v,ws,rfl,h1,h2⟩:=h
  have h2':ws=[]:=h2
  subst h2'
  exact⟨v,rfl,h1⟩
theorem qz{σ:L2.St}{H0 F H:Hp}{e:En}{x y:Rv}{vs:List V}(h:cS K σ H0 F H e [x,y] vs):∃v u,vs=[v,u]∧bY K σ H0 F H e x v∧bY K σ H0 F H e y u:=by
  obtain⟨v,ws,rfl,h1,h2⟩:=h
  obtain⟨u,rfl,h3⟩:=ke h2
  exact⟨v,u,rfl,h1,h3⟩
def g1(g:En→Rv→Option Rv):En→List Rv→Option Rv:=fun e xs=>match xs with
  | [x]=>g e x
  | _=>none
def g2(g:En→Rv→Rv→Option Rv):En→List Rv→Option Rv:=fun e xs=>match xs with
  | [x,y]=>g e x y
  | _=>none
theorem fv{r:List V→Hp→VK→Prop}{g:En→Rv→Option Rv}(h:xN K (fun v H Q=>r [v] H Q) g):dn K r (g1 g):=by
  intro σ H0 F H e xs z vs Q R A hg q
  unfold g1 at hg
  match xs,hg with
  | [x],hg=>
    obtain⟨v,rfl,h1⟩:=ke A
    exact h σ H0 F H e x z v Q R h1 hg q
theorem pU{r:List V→Hp→VK→Prop}{g:En→Rv→Rv→Option Rv}(h:fm K (fun v u H Q=>r [v,u] H Q) g):dn K r (g2 g):=by
  intro σ H0 F H e xs z vs Q R A hg q
  unfold g2 at hg
  match xs,hg with
  | [x,y],hg=>
    obtain⟨v,u,rfl,h1,h2⟩:=qz A
    exact h σ H0 F H e x y z v u Q R h1 h2 hg q
def eu:En→Rv→Option Rv:=fun e x=>(bP e x).map fun p=>.d (.int p.2.length)
theorem Au:dn K (fun xs H Q=>∃p ys,xs=[.ref p]∧(em K H p ys∨dQ K H p ys)∧Q (.int ys.length) H) (g1 eu):=fv fun σ H0 F H e x z v Q R A hg q=>by
  obtain⟨⟨b,xs⟩,h5,h4⟩:=Option.map_eq_some_iff.mp hg
  obtain⟨p,vs,rfl,d1,s1⟩:=bw R A h5
  cases h4
  refine⟨p,vs,rfl,?_,?_⟩
  · cases b with
    | true=>exact .inl s1
    | false=>exact .inr s1
  · rw [←d1.len]
    exact q F H _ (dP.refl _ _ _ _) R hE
def qV:En→Rv→Option Rv:=fun _ x=>(bL x).map fun i=>.d (.int (if i < 0 then -i else i))
theorem z0:dn K (fun xs H Q=>∃i,xs=[.int i]∧Q (.int (if i < 0 then -i else i)) H) (g1 qV):=fv fun σ H0 F H e x z v Q R A hg q=>by
  obtain⟨i,h5,h4⟩:=Option.map_eq_some_iff.mp hg
  cases h4
  exact⟨i,by rw [bM A h5],q F H _ (dP.refl _ _ _ _) R hE⟩
def vh:En→Rv→Option Rv:=fun _ x=>match x with
  | .d (.int i)=>some (.d (.int i))
  | .d (.bool k)=>some (.d (.int (if k then 1 else 0)))
  | _=>none
theorem An:dn K (fun xs H Q=>(∃i,xs=[.int i]∧Q (.int i) H)∨∃k,xs=[.bl k]∧Q (.int (if k then 1 else 0)) H) (g1 vh):=fv fun σ H0 F H e x z v Q R A hg q=>by
  unfold vh at hg
  split at hg
  · cases hg
    exact .inl ⟨_,by rw [cm.mp (show DA K F (.int _) v from A)],q F H _ (dP.refl _ _ _ _) R hE⟩
  · cases hg
    exact .inr ⟨_,by rw [cG.mp (show DA K F (.bool _) v from A)],q F H _ (dP.refl _ _ _ _) R hE⟩
  · cases hg
def mx:=gI (fun _ _=>true) fun i j=>.int (if j < i then j else i)
def qX:=gI (fun _ _=>true) fun i j=>.int (if j > i then j else i)
theorem Ay:dn K (fun xs H Q=>∃i j,xs=[.int i,.int j]∧Q (.int (if j < i then j else i)) H) (g2 mx):=pU fun σ H0 F H e x y z v u Q R A B hg q=>by
  obtain⟨i,j,h1,h2,h3⟩:=gY (K:=K) (g:=fun i j=>.int (if j < i then j else i)) (fun _ _ _=>cm.mpr rfl) σ H0 F H e x y z v u Q R A B hg q
  exact⟨i,j,by rw [h1,h2],h3⟩
theorem Ax:dn K (fun xs H Q=>∃i j,xs=[.int i,.int j]∧Q (.int (if j > i then j else i)) H) (g2 qX):=pU fun σ H0 F H e x y z v u Q R A B hg q=>by
  obtain⟨i,j,h1,h2,h3⟩:=gY (K:=K) (g:=fun i j=>.int (if j > i then j else i)) (fun _ _ _=>cm.mpr rfl) σ H0 F H e x y z v u Q R A B hg q
  exact⟨i,j,by rw [h1,h2],h3⟩
def dW:En→Rv→Option Rv:=fun e x=>(bP e x).map fun p=>.d (.tuple p.2)
theorem wF:dn K (fun xs H Q=>∃p ys,xs=[.ref p]∧((em K H p ys∧∀l,H l=none→Q (.ref l) (aX H l (.tup ys)))∨(dQ K H p ys∧Q (.ref p) H))) (g1 dW):=fv fun σ H0 F H e x z v Q R A hg q=>by
  obtain⟨⟨b,xs⟩,h5,h4⟩:=Option.map_eq_some_iff.mp hg
  obtain⟨p,vs,rfl,d1,s1⟩:=bw R A h5
  cases h4
  refine⟨p,vs,rfl,?_⟩
  cases b with
  | true=>
    refine .inl ⟨s1,fun t ht=>?_⟩
    obtain⟨R4,X4⟩:=R.newT (vs:=vs) ht
    exact q _ _ _ X4 R4 (dz.mpr ⟨t,_,rfl,.inl (.inl aq),d1.mono X4.sf⟩)
  | false=>
    obtain⟨F4,R4,X4,hF⟩:=R.growT (av.refl _) s1
    exact .inr ⟨s1,q _ _ _ X4 R4 (dz.mpr ⟨p,vs,rfl,hF,d1.mono X4.sf⟩)⟩
def gP:En→Rv→Option Rv:=fun e x=>(bP e x).map fun p=>.l p.2
theorem yi:dn K (fun xs H Q=>∃p ys,xs=[.ref p]∧(em K H p ys∨dQ K H p ys)∧∀l,H l=none→Q (.ref l) (aX H l (.lst ys))) (g1 gP):=fv fun σ H0 F H e x z v Q R A hg q=>by
  obtain⟨⟨b,xs⟩,h5,h4⟩:=Option.map_eq_some_iff.mp hg
  obtain⟨p,vs,rfl,d1,s1⟩:=bw R A h5
  cases h4
  refine⟨p,vs,rfl,?_,fun t ht=>?_⟩
  · cases b with
    | true=>exact .inl s1
    | false=>exact .inr s1
  · obtain⟨R4,X4,hF,no⟩:=R.newL (vs:=vs) ht
    exact q _ _ _ X4 R4 ⟨t,_,rfl,ht,hF,aq,d1,no⟩
def j2:List PyData→Option (List Int)
  | []=>some []
  | .int i::r=>(j2 r).map (i::·)
  | _=>none
theorem gT:∀{ds:List PyData} {ns:List Int},j2 ds=some ns→ds=ns.map .int
  | [],_,h=>by cases h;rfl
  | .int i::r,_,h=>by
    obtain⟨ns,h1,rfl⟩:=Option.map_eq_some_iff.mp h
    rw [gT h1];rfl
theorem cI:∀(ns:List Int),j2 (ns.map .int)=some ns
  | []=>rfl
  | i::r=>by simp [j2,cI r]
def jv:List PyData→Option (List Bool)
  | []=>some []
  | .bool i::r=>(jv r).map (i::·)
  | _=>none
theorem jw:∀{ds:List PyData} {ns:List Bool},jv ds=some ns→ds=ns.map .bool
  | [],_,h=>by cases h;rfl
  | .bool i::r,_,h=>by
    obtain⟨ns,h1,rfl⟩:=Option.map_eq_some_iff.mp h
    rw [jw h1];rfl
def fw(g:List PyData→Option PyData):En→Rv→Option Rv:=fun e x=>match bP e x with
  | some (true,xs)=>(g xs).map .d
  | _=>none
theorem pF{r:List V→Hp→VK→Prop}{g:List PyData→Option PyData}(h:∀(F H:Hp) (p:Addr) (xs:List PyData) (vs:List V) (d:PyData) (Q:VK),ax K F xs vs→em K H p vs→g xs=some d→(∀v,(∀F,DA K F d v)→Q v H)→r [.ref p] H Q):dn K r (g1 (fw g)):=fv fun σ H0 F H e x z v Q R A hg q=>by
  unfold fw at hg
  split at hg
  case h_2=>cases hg
  case h_1 xs h5=>
  obtain⟨p,vs,rfl,d1,s1⟩:=bw R A h5
  obtain⟨d,h6,hg⟩:=Option.map_eq_some_iff.mp hg
  cases hg
  exact h F H p xs vs d Q d1 s1 h6 fun v hv=>q F H v (dP.refl _ _ _ _) R (hv F)
def xr:List PyData→Option PyData:=fun xs=>(j2 xs).map fun ns=>.int ns.sum
theorem Bk:dn K (fun xs H Q=>∃(l:Addr) (ns:List Int),xs=[.ref l]∧em K H l (ns.map V.int)∧Q (.int ns.sum) H) (g1 (fw xr)):=pF fun F H p xs vs d Q d1 s1 hg q=>by
  obtain⟨ns,h1,h2⟩:=Option.map_eq_some_iff.mp hg
  cases h2
  rw [gT h1] at d1
  rw [ax.ints.mp d1] at s1
  exact⟨p,ns,rfl,s1,q _ fun _=>cm.mpr rfl⟩
def nz:List PyData→Option PyData:=fun xs=>(jv xs).map fun ns=>.bool (ns.all id)
def nA:List PyData→Option PyData:=fun xs=>(jv xs).map fun ns=>.bool (ns.any id)
theorem z7:dn K (fun xs H Q=>∃(l:Addr) (bs:List Bool),xs=[.ref l]∧em K H l (bs.map V.bl)∧Q (.bl (bs.all id)) H) (g1 (fw nz)):=pF fun F H p xs vs d Q d1 s1 hg q=>by
  obtain⟨ns,h1,h2⟩:=Option.map_eq_some_iff.mp hg
  cases h2
  rw [jw h1] at d1
  rw [ax.bools.mp d1] at s1
  exact⟨p,ns,rfl,s1,q _ fun _=>cG.mpr rfl⟩
theorem z8:dn K (fun xs H Q=>∃(l:Addr) (bs:List Bool),xs=[.ref l]∧em K H l (bs.map V.bl)∧Q (.bl (bs.any id)) H) (g1 (fw nA)):=pF fun F H p xs vs d Q d1 s1 hg q=>by
  obtain⟨ns,h1,h2⟩:=Option.map_eq_some_iff.mp hg
  cases h2
  rw [jw h1] at d1
  rw [ax.bools.mp d1] at s1
  exact⟨p,ns,rfl,s1,q _ fun _=>cG.mpr rfl⟩
mutual
def xl:PyData→Bool
  | .tuple ds=>pY ds
  | .list _=>false
  | .dict _=>false
  | _=>true
def pY:List PyData→Bool
  | []=>true
  | d::r=>xl d&&pY r
end
end
end L2
namespace L2
open PySem PySem.Spec PyProof.Rows
section
variable{K:PySem.W.Frag}{σ:L2.St}{H0 F H F' H':Hp}{e e':En}
theorem a7.upd1(R:a7 K F H σ e){σ':L2.St}(i:Nat)(hl:σ'.length=e'.length)(hσ:∀j,j≠i→σ'[j]?=σ[j]?)(he:∀j,j≠i→e'[j]?=e[j]?)(sF:av F F')(sm:av F' H')(hf:∀j a,j≠i→Fp σ e H j a→F' a=none)
    (hh:∀j a o,j≠i→Fp σ e H j a→H a=some o→H' a=some o)(hd:∀x,e'[i]?=some (some (.d x))→∃v,σ'[i]?=some (some v)∧DA K F' x v)
    (ho:∀xs,e'[i]?=some (some (.l xs))→∃l vs,σ'[i]?=some (some (.ref l))∧F' l=none∧H' l=some (.lst vs)∧ax K F' xs vs)
    (hn:∀xss,e'[i]?=some (some (.n xss))→∃(l:Addr) (bs:List Addr),σ'[i]?=some (some (.ref l))∧F' l=none∧H' l=some (.lst (bs.map V.ref))∧bs.length=xss.length∧bs.Nodup∧l∉bs∧
      ∀(k:Nat) (b:Addr) (ys:List PyData),bs[k]?=some b→xss[k]?=some ys→F' b=none∧∃us,H' b=some (.lst us)∧ax K F' ys us)
    (hi:∀a j,j≠i→Fp σ' e' H' i a→¬Fp σ e H j a):a7 K F' H' σ' e'∧∀j a,j≠i→(Fp σ' e' H' j a↔ Fp σ e H j a):=by
  have fs:∀j a,j≠i→(Fp σ' e' H' j a↔ Fp σ e H j a):=by
    intro j a hj
    have key:∀xss l,e[j]?=some (some (.n xss))→σ[j]?=some (some (.ref l))→H' l=H l:=fun xss l h1 h2=>by
      obtain⟨l',bs,g1,g2,g3,_⟩:=R.nst j xss h1
      rw [h2] at g1;cases g1
      rw [g3]
      exact hh j l _ hj (.inr ⟨xss,l,bs,h1,h2,g3,.inl rfl⟩) g3
    unfold Fp
    rw [he j hj,hσ j hj]
    constructor
    · rintro(h1 | ⟨xss,l,bs,h1,h2,h3,h4⟩)
      · exact .inl h1
      · exact .inr ⟨xss,l,bs,h1,h2,by rw [←key xss l h1 h2];exact h3,h4⟩
    · rintro(h1 | ⟨xss,l,bs,h1,h2,h3,h4⟩)
      · exact .inl h1
      · exact .inr ⟨xss,l,bs,h1,h2,by rw [key xss l h1 h2];exact h3,h4⟩
  refine⟨⟨sm,hl,fun j x q=>?_,fun j xs q=>?_,fun j xss q=>?_,fun j k a q1 q2=>?_⟩,fs⟩
  · by_cases z:j=i
    · subst z;exact hd x q
    · rw [he j z] at q
      obtain⟨v,h1,h2⟩:=R.dat j x q
      exact⟨v,by rw [hσ j z];exact h1,DA.mono sF h2⟩
  · by_cases z:j=i
    · subst z;exact ho xs q
    · rw [he j z] at q
      obtain⟨l,vs,h1,h2,h3,h4⟩:=R.own j xs q
      have o:Fp σ e H j l:=.inl ⟨xs,q,h1⟩
      exact⟨l,vs,by rw [hσ j z];exact h1,hf j l z o,hh j l _ z o h3,h4.mono sF⟩
  · by_cases z:j=i
    · subst z;exact hn xss q
    · rw [he j z] at q
      obtain⟨l,bs,h1,h2,h3,h4,h5,h6,h7⟩:=R.nst j xss q
      have o:Fp σ e H j l:=.inr ⟨xss,l,bs,q,h1,h3,.inl rfl⟩
      refine⟨l,bs,by rw [hσ j z];exact h1,hf j l z o,hh j l _ z o h3,h4,h5,h6,fun k b ys g1 g2=>?_⟩
      obtain⟨c1,us,c2,c3⟩:=h7 k b ys g1 g2
      have ob:Fp σ e H j b:=.inr ⟨xss,l,bs,q,h1,h3,.inr (List.mem_of_getElem? g1)⟩
      exact⟨hf j b z ob,us,hh j b _ z ob c2,c3.mono sF⟩
  · by_cases zj:j=i
    · subst zj
      by_cases zk:k=j
      · exact zk.symm
      · exact absurd ((fs k a zk).mp q2) (hi a k zk q1)
    · by_cases zk:k=i
      · subst zk
        exact absurd ((fs j a zj).mp q1) (hi a j zj q2)
      · exact R.fp j k a ((fs j a zj).mp q1) ((fs k a zk).mp q2)
theorem a7.putL(R:a7 K F H σ e){i:Nat}{xs ys:List PyData}{l:Addr}{vs:List V}(hi:e[i]?=some (some (.l xs)))(hl:σ[i]?=some (some (.ref l)))(hd:ax K F ys vs):
    a7 K F (aX H l (.lst vs)) σ (e.set i (some (.l ys)))∧dP σ F H e F (aX H l (.lst vs)) (e.set i (some (.l ys))):=by
  obtain⟨l',vs',h1,h2,h3,h4⟩:=R.own i xs hi
  rw [hl] at h1;cases h1
  have hlt:i < e.length:=(List.getElem?_eq_some_iff.mp hi).1
  have fi:Fp σ e H i l:=.inl ⟨xs,hi,hl⟩
  have gi:(e.set i (some (Sv.l ys)))[i]?=some (some (.l ys)):=List.getElem?_set_self hlt
  obtain⟨R',fs⟩:=R.upd1 (F':=F) (H':=aX H l (.lst vs)) (e':=e.set i (some (.l ys))) i (by rw [List.length_set];exact R.len) (fun _ _=>rfl) (fun j hj=>List.getElem?_set_ne (Ne.symm hj)) (av.refl F)
    (fun b o q=>by
      have z:b≠l:=fun z=>by rw [z,h2] at q;cases q
      rw [aJ z];exact R.sm b o q)
    (fun j a _ q=>(R.fpAt q).1)
    (fun j a o hj q ha=>by
      have z:a≠l:=fun z=>hj (R.fp j i a q (by rw [z];exact fi))
      rw [aJ z];exact ha)
    (fun x q=>by rw [gi] at q;cases q) (fun zs q=>by rw [gi] at q;cases q;exact⟨l,vs,hl,h2,aq,hd⟩) (fun xss q=>by rw [gi] at q;cases q)
    (fun a j hj q q2=>by
      rcases q with ⟨zs,_,q⟩ | ⟨xss,_,_,q,_⟩
      · rw [hl] at q;cases q
        exact hj (R.fp j i _ q2 fi)
      · rw [gi] at q;cases q)
  refine⟨R',⟨av.refl _,fun a q=>?_,fun _ _ q _ _=>q,fun a ws q=>?_,fun a o q n=>?_,fun j=>?_,fun a ⟨j,q⟩=>?_⟩⟩
  · by_cases z:a=l
    · rw [z,aq] at q;cases q
    · rw [aJ z] at q;exact q
  · by_cases z:a=l
    · rw [z];exact⟨vs,aq⟩
    · rw [aJ z];exact⟨ws,q⟩
  · have z:a≠l:=fun z=>n ⟨i,by rw [z];exact fi⟩
    rw [aJ z];exact q
  · by_cases z:j=i
    · subst z;rw [gi];exact⟨fun _=>⟨xs,hi⟩,fun _=>⟨ys,rfl⟩⟩
    · rw [List.getElem?_set_ne (Ne.symm z)]
  · by_cases z:j=i
    · subst z
      rcases q with ⟨zs,_,q⟩ | ⟨xss,_,_,q,_⟩
      · rw [hl] at q;cases q;exact .inl ⟨j,fi⟩
      · rw [gi] at q;cases q
    · exact .inl ⟨j,(fs j a z).mp q⟩
theorem a7.setD(R:a7 K F H σ e)(i:Nat){x:PyData}{v:V}(h:DA K F x v):a7 K F H (σ.set i (some v)) (e.set i (some (.d x)))∧∀a,cD (σ.set i (some v)) (e.set i (some (.d x))) H a→cD σ e H a:=by
  have gi:∀s,(e.set i (some (Sv.d x)))[i]?=some (some s)→s=.d x∧i < e.length:=fun s q=>by
    have hlt:i < e.length:=by have:=(List.getElem?_eq_some_iff.mp q).1;simpa using this
    rw [List.getElem?_set_self hlt] at q
    exact⟨(Option.some.inj (Option.some.inj q)).symm,hlt⟩
  have nofp:∀a,¬Fp (σ.set i (some v)) (e.set i (some (.d x))) H i a:=fun a q=>by
    rcases q with ⟨zs,q,_⟩ | ⟨xss,_,_,q,_⟩
    · cases (gi _ q).1
    · cases (gi _ q).1
  obtain⟨R',fs⟩:=R.upd1 (F':=F) (H':=H) (σ':=σ.set i (some v)) (e':=e.set i (some (.d x))) i (by rw [List.length_set,List.length_set];exact R.len) (fun j hj=>List.getElem?_set_ne (Ne.symm hj)) (fun j hj=>List.getElem?_set_ne (Ne.symm hj)) (av.refl F) R.sm
    (fun j a _ q=>(R.fpAt q).1) (fun j a o _ _ ha=>ha)
    (fun y q=>by
      obtain⟨z,hlt⟩:=gi _ q
      cases z
      exact⟨v,List.getElem?_set_self (by rw [R.len];exact hlt),h⟩)
    (fun zs q=>by cases (gi _ q).1) (fun xss q=>by cases (gi _ q).1) (fun a j hj q=>absurd q (nofp a))
  refine⟨R',fun a ⟨j,q⟩=>?_⟩
  by_cases z:j=i
  · subst z;exact absurd q (nofp a)
  · exact⟨j,(fs j a z).mp q⟩
theorem a7.setL(R:a7 K F H σ e)(i:Nat){xs:List PyData}{l:Addr}{vs:List V}(h1:F l=none)(h2:H l=some (.lst vs))(h3:ax K F xs vs)(h4:¬cD σ e H l):a7 K F H (σ.set i (some (.ref l))) (e.set i (some (.l xs)))∧∀a,cD (σ.set i (some (.ref l))) (e.set i (some (.l xs))) H a→cD σ e H a∨a=l:=by
  have gi:∀s,(e.set i (some (Sv.l xs)))[i]?=some (some s)→s=.l xs∧i < e.length:=fun s q=>by
    have hlt:i < e.length:=by have:=(List.getElem?_eq_some_iff.mp q).1;simpa using this
    rw [List.getElem?_set_self hlt] at q
    exact⟨(Option.some.inj (Option.some.inj q)).symm,hlt⟩
  have onefp:∀a,Fp (σ.set i (some (.ref l))) (e.set i (some (.l xs))) H i a→a=l:=fun a q=>by
    rcases q with ⟨zs,q,q2⟩ | ⟨xss,_,_,q,_⟩
    · obtain⟨_,hlt⟩:=gi _ q
      rw [List.getElem?_set_self (by rw [R.len];exact hlt)] at q2
      cases q2;rfl
    · cases (gi _ q).1
  obtain⟨R',fs⟩:=R.upd1 (F':=F) (H':=H) (σ':=σ.set i (some (.ref l))) (e':=e.set i (some (.l xs))) i (by rw [List.length_set,List.length_set];exact R.len) (fun j hj=>List.getElem?_set_ne (Ne.symm hj)) (fun j hj=>List.getElem?_set_ne (Ne.symm hj)) (av.refl F) R.sm
    (fun j a _ q=>(R.fpAt q).1) (fun j a o _ _ ha=>ha) (fun y q=>by cases (gi _ q).1)
    (fun zs q=>by
      obtain⟨z,hlt⟩:=gi _ q
      cases z
      exact⟨l,vs,List.getElem?_set_self (by rw [R.len];exact hlt),h1,h2,h3⟩)
    (fun xss q=>by cases (gi _ q).1) (fun a j hj q q2=>h4 ⟨j,by rw [onefp a q] at q2;exact q2⟩)
  refine⟨R',fun a ⟨j,q⟩=>?_⟩
  by_cases z:j=i
  · subst z;exact .inr (onefp a q)
  · exact .inl ⟨j,(fs j a z).mp q⟩
end
section
variable{X:Cx}{K:PySem.W.Frag}{o a:Expr}{es:List Expr}{fo:FE}{fs:FA}{name:Str}{apos cpos:Pos}{id:String}
def pP(K:PySem.W.Frag)(r:V→List V→Hp→VK→Prop)(g:List PyData→List PyData→Option (PyData × List PyData)):Prop:=
  ∀(F H:Hp) (l:Addr) (xs ys ds:List PyData) (z:PyData) (vs us:List V) (Q:VK),F l=none→av F H→H l=some (.lst vs)→ax K F xs vs→ax K F ds us→g xs ds=some (z,ys)→
    (∀w ws,DA K F z w→ax K F ys ws→Q w (aX H l (.lst ws)))→r (.ref l) us H Q
def b_(g:List PyData→List PyData→Option (PyData × List PyData))(fo:FE)(fs:FA):FE:=fun e=>(fo e).bind fun p=>match p.1 with
  | .s i=>(fs p.2).bind fun q=>(i6 q.1).bind fun ds=>match q.2[i]? with
    | some (some (.l xs))=>(g xs ds).map fun z=>(.d z.1,q.2.set i (some (.l z.2)))
    | _=>none
  | _=>none
theorem uI{r:V→List V→Hp→VK→Prop}{g:List PyData→List PyData→Option (PyData × List PyData)}(hm:pP K r g){σ:L2.St}{H:Hp}{Q:VK}(h:fE K (b_ g fo fs) σ H Q):CW K "list" r (fE K fo) (fA K fs) σ H Q:=by
  obtain⟨F,e,z,e',R,hf,q⟩:=h
  unfold b_ at hf
  obtain⟨⟨x,e1⟩,h1,hf⟩:=Option.bind_eq_some_iff.mp hf
  match x,h1,hf with
  | .s i,h1,hf=>
  dsimp only at hf
  obtain⟨⟨rs,e2⟩,h2,hf⟩:=Option.bind_eq_some_iff.mp hf
  obtain⟨ds,h3,hf⟩:=Option.bind_eq_some_iff.mp hf
  refine⟨F,e,_,e1,R,h1,fun F1 H1 v X1 R1 A1=>?_⟩
  obtain⟨g1,zs,g2⟩:=A1
  obtain⟨l,vs,c1,c2,c3,c4⟩:=R1.own i zs g2
  rw [g1] at c1;cases c1
  refine⟨.inl ⟨rfl,vs,.inl (.inl c3)⟩,F1,e1,rs,e2,R1,h2,fun F2 H2 us X2 R2 A2=>?_⟩
  match h4:e2[i]?,hf with
  | some (some (.l xs)),hf=>
  dsimp only at hf
  obtain⟨⟨zd,ys⟩,h5,hf⟩:=Option.map_eq_some_iff.mp hf
  cases hf
  obtain⟨F3,R3,s3,d3,f3⟩:=cS.frozen R2 A2 h3
  obtain⟨l',vs',k1,k2,k3,k4⟩:=R3.own i xs h4
  rw [g1] at k1;cases k1
  refine hm F3 H2 l xs ys ds zd vs' us Q k2 R3.sm k3 k4 d3 h5 fun w ws hw hws=>?_
  obtain⟨R4,X4⟩:=R3.putL h4 g1 hws
  exact q _ _ _ ((X1.trans (X2.frz s3 f3)).trans X4) R4 hw
theorem xD{r:V→List V→Hp→VK→Prop}{g:List PyData→List PyData→Option (PyData × List PyData)}(slot:Slot "list" name id)(hty:typeOf (.builtin id)=pure (.type "method_descriptor"))(hm:zT X id r)(hf:pP X.K r g)(ho:PE X o (fE X.K fo))(ha:PA X (a::es) (fA X.K fs))
    (hbase:attributeBase o name X.env (eval o X.env)=eval o X.env)
    (hfew:((backTo cpos (starEach (a::es) X.env)).all (fun x=> !x.1)&&(backToKw cpos (keywordEach [] X.env)).all (fun x=>x.1.isSome)
      &&decide ((a::es).length+([]:List Keyword).length+(if ([]:List Keyword).isEmpty then 0 else 1) < 30))=true)
    (hline:(apos.endLine==cpos.line)=true)(hs:starEach (a::es) X.env=(false,eval a X.env)::starEach es X.env)(hplain:(backTo cpos (starEach es X.env)).any (·.1)=false):
    PE X (.Call (.Attribute o name apos) (a::es) [] cpos) (fE X.K (b_ g fo fs)):=(AM PySem.F.plainAttrs_list slot hty hm ho ha hbase hfew hline hs hplain).mono fun _ _ _ h=>uI hf h
def be:List PyData→List PyData→Option (PyData × List PyData):=fun xs ds=>match ds with
  | [d]=>if xs.length < 1000000 then some (.none,xs++[d]) else none
  | _=>none
theorem rW:pP K qr be:=by
  intro F H l xs ys ds z vs us Q hF sm hl d1 d2 hg q
  unfold be at hg
  match ds,hg,d2 with
  | [d],hg,d2=>
    simp only [ax] at d2
    obtain⟨w,r,rfl,hw,rfl⟩:=d2
    dsimp only at hg
    split at hg
    case isFalse=>cases hg
    case isTrue hlt=>
    cases hg
    have:=d1.len
    have sl:sizeLine=16777216:=sizeLine_eq
    exact⟨l,vs,w,rfl,rfl,hl,by lia,q _ _ (ic.mpr rfl) (d1.append (ax.one hw))⟩
def Aw:List PyData→List PyData→Option (PyData × List PyData):=fun xs ds=>match ds with
  | []=>(xs[xs.length - 1]?).map fun d=>(d,xs.dropLast)
  | _=>none
def gU:List PyData→List PyData→Option (PyData × List PyData):=fun xs ds=>match ds with
  | [.int i]=>if 0≤i∧i < 1000000000 then(xs[i.toNat]?).map fun d=>(d,xs.eraseIdx i.toNat) else none
  | _=>none
theorem v_:pP K uj gU:=by
  intro F H l xs ys ds z vs us Q hF sm hl d1 d2 hg q
  unfold gU at hg
  match ds,hg,d2 with
  | [.int i],hg,d2=>
    simp only [ax,DA] at d2
    obtain⟨w,r,rfl,rfl,rfl⟩:=d2
    dsimp only at hg
    split at hg
    case isFalse=>cases hg
    case isTrue hlt=>
    obtain⟨d,h1,h2⟩:=Option.map_eq_some_iff.mp hg
    cases h2
    obtain⟨v,g1,g2⟩:=d1.get h1
    have hlt2:i.toNat < vs.length:=(List.getElem?_eq_some_iff.mp g1).1
    exact⟨l,vs,i,i.toNat,v,rfl,rfl,hl,by lia,by lia,seqIndex_of hlt.1 (by lia),g1,q _ _ g2 (d1.erase _)⟩
end
end L2
namespace L2
open PySem PySem.Spec PyProof.Rows
inductive Fl where
  | nx (e:En)
  | bk (e:En)
  | ct (e:En)
  | rt (r:Rv) (e:En)
abbrev FS:=En→Option Fl
structure cP (W:List Nat) (σ:L2.St) (F H:Hp) (e:En) (σ':L2.St) (F' H':Hp) (e':En):Prop where
  sf:av F F'
  dom:∀a,H' a=none→H a=none
  fr:∀a vs,F a=none→H a=some (.lst vs)→¬cD σ e H a→F' a=none
  lst:∀a vs,H a=some (.lst vs)→∃vs',H' a=some (.lst vs')
  tmp:∀a o,H a=some o→¬cD σ e H a→H' a=some o
  own:∀a,cD σ' e' H' a→cD σ e H a∨H a=none
  wr:∀j,j∉W→σ'[j]?=σ[j]?
section
variable{K:PySem.W.Frag}{W W1 W2:List Nat}{σ σ1 σ2 σ':L2.St}{H0 F H F1 H1 F2 H2 F' H':Hp}{e e1 e2 e':En}
theorem cP.refl:cP W σ F H e σ F H e:=⟨av.refl _,fun _ h=>h,fun _ _ h _ _=>h,fun _ vs h=>⟨vs,h⟩,fun _ _ h _=>h,fun _ h=>.inl h,fun _ _=>rfl⟩
theorem dP.s(x:dP σ F H e F' H' e'):cP W σ F H e σ F' H' e':=⟨x.sf,x.dom,x.fr,x.lst,x.tmp,x.ow,fun _ _=>rfl⟩
theorem cP.trans(x:cP W σ F H e σ1 F1 H1 e1)(y:cP W σ1 F1 H1 e1 σ2 F2 H2 e2):cP W σ F H e σ2 F2 H2 e2:=
  ⟨x.sf.trans y.sf,fun a h=>x.dom a (y.dom a h),fun a vs h n no=>let ⟨vs',q⟩:=x.lst a vs n;y.fr a vs' (x.fr a vs h n no) q (fun z=>(x.own a z).elim no fun z=>by rw [n] at z;cases z),fun a vs h=>let ⟨vs',q⟩:=x.lst a vs h;y.lst a vs' q,
    fun a o h n=>y.tmp a o (x.tmp a o h n) (fun z=>(x.own a z).elim n fun z=>by rw [h] at z;cases z),
    fun a h=>(y.own a h).elim (x.own a) (fun z=>.inr (x.dom a z)),
    fun j h=>(y.wr j h).trans (x.wr j h)⟩
theorem cP.mono(x:cP W1 σ F H e σ' F' H' e')(h:∀j,j∈W1→j∈W):cP W σ F H e σ' F' H' e':=⟨x.sf,x.dom,x.fr,x.lst,x.tmp,x.own,fun j n=>x.wr j fun z=>n (h j z)⟩
end
def kn(K:PySem.W.Frag)(W:List Nat)(σ:L2.St)(F H:Hp)(e:En)(D:oP):Fl→Prop
  | .nx e'=>∀F' H' σ',cP W σ F H e σ' F' H' e'→a7 K F' H' σ' e'→D.nx σ' H'
  | .bk e'=>∀F' H' σ',cP W σ F H e σ' F' H' e'→a7 K F' H' σ' e'→D.bk σ' H'
  | .ct e'=>∀F' H' σ',cP W σ F H e σ' F' H' e'→a7 K F' H' σ' e'→D.ct σ' H'
  | .rt r e'=>∀F' H' σ' v,cP W σ F H e σ' F' H' e'→a7 K F' H' σ' e'→bY K σ' H F' H' e' r v→D.rt v H'
def fS(K:PySem.W.Frag)(f:FS)(W:List Nat):TS:=fun D σ H=>∃F e fl,a7 K F H σ e∧f e=some fl∧kn K W σ F H e D fl
theorem PS.mono{X:Cx}{st:Stmt}{t t':TS}(h:PS X st t)(m:∀D σ H,t' D σ H→t D σ H):PS X st t':=fun pins s σ H D I q=>h pins s σ H D I (m D σ H q)
theorem j7.mono{X:Cx}{st:List Stmt}{t t':TS}(h:j7 X st t)(m:∀D σ H,t' D σ H→t D σ H):j7 X st t':=fun pins s σ H D I q=>h pins s σ H D I (m D σ H q)
theorem kn.later{K:PySem.W.Frag}{W W1 W2:List Nat}{σ σ1:L2.St}{F H F1 H1:Hp}{e e1:En}{D:oP}{fl:Fl}(h:kn K W σ F H e D fl)(x:cP W1 σ F H e σ1 F1 H1 e1)(h1:∀j,j∈W1→j∈W)(h2:∀j,j∈W2→j∈W):kn K W2 σ1 F1 H1 e1 D fl:=by
  cases fl with
  | nx e'=>exact fun F' H' σ' y R=>h F' H' σ' ((x.mono h1).trans (y.mono h2)) R
  | bk e'=>exact fun F' H' σ' y R=>h F' H' σ' ((x.mono h1).trans (y.mono h2)) R
  | ct e'=>exact fun F' H' σ' y R=>h F' H' σ' ((x.mono h1).trans (y.mono h2)) R
  | rt r e'=>exact fun F' H' σ' v y R A=>h F' H' σ' v ((x.mono h1).trans (y.mono h2)) R (A.weak x.dom)
section
variable{X:Cx}{K:PySem.W.Frag}{W W1 W2:List Nat}{st:Stmt}{dR:List Stmt}{f g:FS}{a b:Expr}{fa:FE}{ft:FT}{pos:Pos}
def dm:FS:=fun e=>some (.nx e)
def aw(f g:FS):FS:=fun e=>(f e).bind fun fl=>match fl with
  | .nx e1=>g e1
  | fl=>some fl
theorem aT:j7 X [] (fS K dm []):=wd.mono fun D σ H h=>by
  obtain⟨F,e,fl,R,hf,q⟩:=h
  cases hf
  exact q F H σ cP.refl R
theorem af(h1:PS X st (fS K f W1))(h2:j7 X dR (fS K g W2)):j7 X (st::dR) (fS K (aw f g) (W1++W2)):=(t7 h1 h2).mono fun D σ H h=>by
  obtain⟨F,e,fl,R,hf,q⟩:=h
  unfold aw at hf
  obtain⟨fl1,h1,hf⟩:=Option.bind_eq_some_iff.mp hf
  have s1:∀j,j∈W1→j∈W1++W2:=fun j h=>List.mem_append.mpr (.inl h)
  have s2:∀j,j∈W2→j∈W1++W2:=fun j h=>List.mem_append.mpr (.inr h)
  refine⟨F,e,fl1,R,h1,?_⟩
  cases fl1 with
  | nx e1=>exact fun F' H' σ' x R'=>⟨F',e1,fl,R',hf,q.later x s1 s2⟩
  | bk e1=>cases hf;exact fun F' H' σ' x R'=>q F' H' σ' (x.mono s1) R'
  | ct e1=>cases hf;exact fun F' H' σ' x R'=>q F' H' σ' (x.mono s1) R'
  | rt r e1=>cases hf;exact fun F' H' σ' v x R' A=>q F' H' σ' v (x.mono s1) R' A
theorem am(h1:PS X st (fS K f W)):j7 X [st] (fS K f W):=we h1
def dU(fa:FE):FS:=fun e=>(fa e).map fun p=>.nx p.2
theorem di(he:PE X a (fE K fa))(hs:swapsWith a none pos.line X.env=pure false):PS X (.Expr a pos) (fS K (dU fa) []):=(wc he hs).mono fun D σ H h=>by
  obtain⟨F,e,fl,R,hf,q⟩:=h
  obtain⟨⟨x,e1⟩,h1,hf⟩:=Option.map_eq_some_iff.mp hf
  cases hf
  exact⟨F,e,x,e1,R,h1,fun F1 H1 v X1 R1 A1=>q F1 H1 σ X1.s R1⟩
def bH(fa:FE):FS:=fun e=>(fa e).map fun p=>.rt p.1 p.2
theorem aA(he:PE X a (fE K fa)):PS X (.Return (some a) pos) (fS K (bH fa) []):=(y4 he).mono fun D σ H h=>by
  obtain⟨F,e,fl,R,hf,q⟩:=h
  obtain⟨⟨x,e1⟩,h1,hf⟩:=Option.map_eq_some_iff.mp hf
  cases hf
  exact⟨F,e,x,e1,R,h1,fun F1 H1 v X1 R1 A1=>q F1 H1 σ v X1.s R1 A1⟩
def gD(ft:FT)(f g:FS):FS:=fun e=>(ft e).bind fun p=>if p.1=true then f p.2 else g p.2
theorem ci{c:Expr}{bs cs:List Stmt}(hc:PT X c (fT K ft))(ha:j7 X bs (fS K f W1))(hb:j7 X cs (fS K g W2)):PS X (.If c bs cs pos) (fS K (gD ft f g) (W1++W2)):=(AU hc ha hb).mono fun D σ H h=>by
  obtain⟨F,e,fl,R,hf,q⟩:=h
  unfold gD at hf
  obtain⟨⟨x,e1⟩,h1,hf⟩:=Option.bind_eq_some_iff.mp hf
  refine⟨F,e,x,e1,R,h1,fun F1 H1 X1 R1=>?_⟩
  cases x with
  | true=>exact⟨F1,e1,fl,R1,hf,q.later (W1:=[]) X1.s (fun j h=>by cases h) fun j h=>List.mem_append.mpr (.inl h)⟩
  | false=>exact⟨F1,e1,fl,R1,hf,q.later (W1:=[]) X1.s (fun j h=>by cases h) fun j h=>List.mem_append.mpr (.inr h)⟩
def wk(i:Nat)(r:Rv)(e:En):Option En:=match r with
  | .d x=>some (e.set i (some (.d x)))
  | .l xs=>some (e.set i (some (.l xs)))
  | .s _=>none
theorem pw{σ:L2.St}{H F H1 F1:Hp}{e e1 e2:En}{i:Nat}{r:Rv}{v:V}(R:a7 K F H σ e)(X1:dP σ F H e F1 H1 e1)(R1:a7 K F1 H1 σ e1)(A1:bY K σ H F1 H1 e1 r v)(h:wk i r e1=some e2):
    cP [i] σ F H e (σ.set i (some v)) F1 H1 e2∧a7 K F1 H1 (σ.set i (some v)) e2:=by
  have wr:∀j,j∉[i]→(σ.set i (some v))[j]?=σ[j]?:=fun j n=>List.getElem?_set_ne (fun z=>n (by simp [z]))
  cases r with
  | d x=>
    cases h
    obtain⟨R2,o2⟩:=R1.setD i A1
    exact⟨⟨X1.sf,X1.dom,X1.fr,X1.lst,X1.tmp,fun a h=>X1.ow a (o2 a h),wr⟩,R2⟩
  | l xs=>
    cases h
    obtain⟨l,vs,rfl,h1,h2,h3,h4,h5⟩:=A1
    obtain⟨R2,o2⟩:=R1.setL i h2 h3 h4 h5
    refine⟨⟨X1.sf,X1.dom,X1.fr,X1.lst,X1.tmp,fun a h=>?_,wr⟩,R2⟩
    rcases o2 a h with z | z
    · exact X1.ow a z
    · exact .inr (by rw [z];exact h1)
  | s j=>cases h
def ba(i:Nat)(fa:FE):FS:=fun e=>(fa e).bind fun p=>(wk i p.1 p.2).map .nx
theorem aD{i:Nat}{x:Str}{pos':Pos}(hN:X.N.Nodup)(hi:X.N[i]?=some x)(hx:zM X.env.scope x)(he:PE X a (fE K fa))(hs:swapsWith a (some (.Name x pos')) pos.line X.env=pure false)(hf:X.fn x=true∨X.env.scope.names.lookup x=some .local):
    PS X (.Assign [.Name x pos'] a pos) (fS K (ba i fa) [i]):=(y6 hN hi hx he hs hf).mono fun D σ H h=>by
  obtain⟨F,e,fl,R,hf,q⟩:=h
  unfold ba at hf
  obtain⟨⟨r,e1⟩,h1,hf⟩:=Option.bind_eq_some_iff.mp hf
  obtain⟨e2,h2,hf⟩:=Option.map_eq_some_iff.mp hf
  cases hf
  refine⟨F,e,r,e1,R,h1,fun F1 H1 v X1 R1 A1=>?_⟩
  obtain⟨x,R2⟩:=pw R X1 R1 A1 h2
  exact q F1 H1 _ x R2
abbrev FG:=PyData→En→Option En
def fG(K:PySem.W.Frag)(g:FG)(W:List Nat):TG:=fun v σ H Q=>∃F e x e',a7 K F H σ e∧DA K F x v∧g x e=some e'∧∀σ',cP W σ F H e σ' F H e'→a7 K F H σ' e'→Q σ' H
abbrev wO:=List PyData→En→Option En
def BO(K:PySem.W.Frag)(g:wO)(W:List Nat):uL:=fun vs σ H Q=>∃F e xs e',a7 K F H σ e∧ax K F xs vs∧g xs e=some e'∧∀σ',cP W σ F H e σ' F H e'→a7 K F H σ' e'→Q σ' H
theorem PG.mono{tg:Expr}{t t':TG}(h:PG X tg t)(m:∀v σ H Q,t' v σ H Q→t v σ H Q):PG X tg t':=fun pins s σ H v u Q I r q=>h pins s σ H v u Q I r (m v σ H Q q)
theorem rS.mono{tg:List Expr}{t t':uL}(h:rS X tg t)(m:∀v σ H Q,t' v σ H Q→t v σ H Q):rS X tg t':=fun pins s σ H v u Q I r q=>h pins s σ H v u Q I r (m v σ H Q q)
def ah(i:Nat):FG:=fun x e=>some (e.set i (some (.d x)))
def gx:wO:=fun xs e=>match xs with
  | []=>some e
  | _=>none
def bi(g:FG)(gs:wO):wO:=fun xs e=>match xs with
  | x::r=>(g x e).bind fun e1=>gs r e1
  | _=>none
def iw(gs:wO):FG:=fun x e=>match x with
  | .tuple xs=>gs xs e
  | _=>none
theorem aB{i:Nat}{x:Str}(hN:X.N.Nodup)(hi:X.N[i]?=some x)(hx:zM X.env.scope x)(hf:X.fn x=true∨X.env.scope.names.lookup x=some .local):PG X (.Name x pos) (fG K (ah i) [i]):=(vT hN hi hx hf).mono fun v σ H Q h=>by
  obtain⟨F,e,x,e',R,hx,hg,q⟩:=h
  cases hg
  obtain⟨R2,o2⟩:=R.setD i hx
  exact q _ ⟨av.refl _,fun _ h=>h,fun _ _ h _ _=>h,fun _ vs h=>⟨vs,h⟩,fun _ _ h _=>h,fun a h=>.inl (o2 a h),fun j n=>List.getElem?_set_ne (fun z=>n (by simp [z]))⟩ R2
theorem kd:rS X [] (BO K gx []):=vV.mono fun v σ H Q h=>by
  obtain⟨F,e,x,e',R,hx,hg,q⟩:=h
  unfold gx at hg
  split at hg
  · cases hg
    simp only [ax] at hx
    exact⟨hx,q σ cP.refl R⟩
  · cases hg
theorem cW{es:List Expr}{g1:FG}{gs:wO}(h1:PG X a (fG K g1 W1))(h2:rS X es (BO K gs W2))
    (hs:(assignEach (a::es) X.env).map (·.2)=assign a X.env::(assignEach es X.env).map (·.2)):rS X (a::es) (BO K (bi g1 gs) (W1++W2)):=(tQ h1 h2 hs).mono fun v σ H Q h=>by
  obtain⟨F,e,xs,e',R,hx,hg,q⟩:=h
  unfold bi at hg
  match xs,hg,hx with
  | x::r,hg,hx=>
    simp only [ax] at hx
    obtain⟨w,ws,e1,hw,hr⟩:=hx
    dsimp only at hg
    obtain⟨e1',h3,h4⟩:=Option.bind_eq_some_iff.mp hg
    refine⟨w,ws,e1,F,e,x,e1',R,hw,h3,fun σ1 x1 R1=>⟨F,e1',r,e',R1,hr,h4,fun σ2 x2 R2=>?_⟩⟩
    exact q σ2 ((x1.mono fun j h=>List.mem_append.mpr (.inl h)).trans (x2.mono fun j h=>List.mem_append.mpr (.inr h))) R2
theorem mO{es:List Expr}{k n:Nat}{gs:wO}(hK:X.K=K)(hc:X.calm=true)(h:rS X es (BO K gs W))(hl:∀xs e e',gs xs e=some e'→xs.length=n)(hn:(assignEach es X.env).length=n)(hst:(assignEach es X.env).findIdx? (·.1)=none):PG X (.Tuple es k pos) (fG K (iw gs) W):=(vU hK hc h hn hst).mono fun v σ H Q h=>by
  obtain⟨F,e,x,e',R,hx,hg,q⟩:=h
  unfold iw at hg
  match x,hg,hx with
  | .tuple xs,hg,hx=>
    obtain⟨p,vs,e1,e2,e3⟩:=dz.mp hx
    exact⟨p,vs,e1,R.sm.tup e2,by rw [←e3.len];exact hl xs e e' hg,F,e,xs,e',R,e3,hg,q⟩
theorem mz(xs:List PyData)(e e':En)(h:gx xs e=some e'):xs.length=0:=by
  unfold gx at h
  split at h
  · rfl
  · cases h
theorem ec{g:FG}{gs:wO}{n:Nat}(hl:∀xs e e',gs xs e=some e'→xs.length=n)(xs:List PyData)(e e':En)(h:bi g gs xs e=some e'):xs.length=n+1:=by
  unfold bi at h
  match xs,h with
  | x::r,h=>
    obtain⟨e1,h3,h4⟩:=Option.bind_eq_some_iff.mp h
    simp [hl r e1 e' h4]
def pD(fa:FE)(g:FG):FS:=fun e=>(fa e).bind fun p=>match p.1 with
  | .d x=>(g x p.2).map .nx
  | _=>none
theorem pA{tg:Expr}{g:FG}(he:PE X a (fE K fa))(hg:PG X tg (fG K g W))(hs:swapsWithSole [tg] a pos.line X.env=pure false)(hw:swappedStores [tg] a X.env=pure none)
    (h1:(assignEach [tg] X.env).map (·.2)=[assign tg X.env]):PS X (.Assign [tg] a pos) (fS K (pD fa g) W):=(tY he hg hs hw h1).mono fun D σ H h=>by
  obtain⟨F,e,fl,R,hf,q⟩:=h
  unfold pD at hf
  obtain⟨⟨r,e1⟩,h1,hf⟩:=Option.bind_eq_some_iff.mp hf
  match r,h1,hf with
  | .d x,h1,hf=>
    obtain⟨e2,h2,hf⟩:=Option.map_eq_some_iff.mp hf
    cases hf
    exact⟨F,e,_,e1,R,h1,fun F1 H1 v X1 R1 A1=>⟨F1,e1,x,e2,R1,A1,h2,fun σ' x2 R2=>q F1 H1 σ' (X1.s.trans x2) R2⟩⟩
def uu(i j:Nat)(fs:FA):FS:=fun e=>(fs e).bind fun p=>match p.1 with
  | [.d x,.d y]=>some (.nx ((p.2.set i (some (.d x))).set j (some (.d y))))
  | _=>none
theorem ze{i j:Nat}{x y:Str}{fs:FA}{px py pt:Pos}{kt k2 pt2}(hc:X.calm=true)(hN:X.N.Nodup)(hi:X.N[i]?=some x)(hj:X.N[j]?=some y)(hij:i≠j)
    (hx:X.env.scope.names.lookup x=some .local)(hy:X.env.scope.names.lookup y=some .local)(ha:PA X [a,b] (fA K fs))
    (hw:swappedStores [.Tuple [.Name x px,.Name y py] kt pt] (.Tuple [a,b] k2 pt2) X.env=pure (some [x,y]))
    (hs:swapsWithSole [.Tuple [.Name x px,.Name y py] kt pt] (.Tuple [a,b] k2 pt2) pos.line X.env=pure false):
    PS X (.Assign [.Tuple [.Name x px,.Name y py] kt pt] (.Tuple [a,b] k2 pt2) pos) (fS K (uu i j fs) [i,j]):=(y3 hc hN hi hj hij hx hy ha hw hs).mono fun D σ H h=>by
  obtain⟨F,e,fl,R,hf,q⟩:=h
  unfold uu at hf
  obtain⟨⟨rs,e1⟩,h1,hf⟩:=Option.bind_eq_some_iff.mp hf
  refine⟨F,e,rs,e1,R,h1,fun F1 H1 vs X1 R1 A1=>?_⟩
  match rs,hf,A1 with
  | [.d x,.d y],hf,A1=>
    cases hf
    obtain⟨v,u,rfl,a1,a2⟩:=qz A1
    obtain⟨R2,o2⟩:=R1.setD i a1
    obtain⟨R3,o3⟩:=R2.setD j a2
    refine⟨v,u,rfl,q F1 H1 _ ⟨X1.sf,X1.dom,X1.fr,X1.lst,X1.tmp,fun a h=>X1.ow a (o2 a (o3 a h)),fun m n=>?_⟩ R3⟩
    rw [List.getElem?_set_ne (fun z=>n (by simp [z])),List.getElem?_set_ne (fun z=>n (by simp [z]))]
def km:Rv→Option PyData
  | .d x=>some x
  | .l xs=>some (.list xs)
  | .s _=>none
theorem ie{r:Rv}{d:PyData}(h:km r=some d):i6 [r]=some [d]:=by
  cases r with
  | d x=>cases h;rfl
  | l xs=>cases h;rfl
  | s i=>cases h
def iO(e:En):Rv→Option (Nat × List PyData)
  | .s n=>match e[n]? with
    | some (some (.l xs))=>some (n,xs)
    | _=>none
  | _=>none
theorem rC{e:En}{r:Rv}{n:Nat}{xs:List PyData}(h:iO e r=some (n,xs)):r=.s n∧e[n]?=some (some (.l xs)):=by
  unfold iO at h
  split at h
  · split at h
    · rename_i heq
      cases h;exact⟨rfl,heq⟩
    · cases h
  · cases h
def iN(fa fo fi:FE):FS:=fun e=>(fa e).bind fun p=>(km p.1).bind fun d=>(fo p.2).bind fun o=>(fi o.2).bind fun i=>(bL i.1).bind fun k=>(iO i.2 o.1).bind fun s=>(nR s.2.length k).map fun j=>.nx (i.2.set s.1 (some (.l (s.2.set j d))))
theorem mP{o i:Expr}{fo fi:FE}{ps:Pos}(he:PE X a (fE K fa))(ho:PE X o (fE K fo))(hi:PE X i (fE K fi))
    (ha:∀v,assign (.Subscript o i ps) X.env v=(do
      let ov ←holding [v] (eval o X.env)
      let iv ←holding [v,ov] (eval i X.env)
      standAt ps
      holding [v,ov,iv] (setItem ov iv v)
      release [v,ov,iv] []))
    (hs:swapsWithSole [.Subscript o i ps] a pos.line X.env=pure false)(hw:swappedStores [.Subscript o i ps] a X.env=pure none)
    (h1:(assignEach [.Subscript o i ps] X.env).map (·.2)=[assign (.Subscript o i ps) X.env]):PS X (.Assign [.Subscript o i ps] a pos) (fS K (iN fa fo fi) []):=(tY he (yW ho hi uA ha) hs hw h1).mono fun D σ H h=>by
  obtain⟨F,e,fl,R,hf,q⟩:=h
  unfold iN at hf
  obtain⟨⟨r,e1⟩,g1,hf⟩:=Option.bind_eq_some_iff.mp hf
  obtain⟨d,g2,hf⟩:=Option.bind_eq_some_iff.mp hf
  obtain⟨⟨ro,e2⟩,g3,hf⟩:=Option.bind_eq_some_iff.mp hf
  obtain⟨⟨ri,e3⟩,g4,hf⟩:=Option.bind_eq_some_iff.mp hf
  obtain⟨k,g5,hf⟩:=Option.bind_eq_some_iff.mp hf
  obtain⟨⟨n,xs⟩,g6,hf⟩:=Option.bind_eq_some_iff.mp hf
  obtain⟨j,g7,hf⟩:=Option.map_eq_some_iff.mp hf
  cases hf
  obtain⟨z6,g6'⟩:=rC g6
  dsimp only at z6 g6'
  subst z6
  refine⟨F,e,r,e1,R,g1,fun F1 H1 v X1 R1 A1=>?_⟩
  refine⟨F1,e1,_,e2,R1,g3,fun F2 H2 u X2 R2 A2=>⟨F2,e2,ri,e3,R2,g4,fun F3 H3 w X3 R3 A3=>?_⟩⟩
  have X12:=X1.trans X2
  have X13:=X12.trans X3
  have A1':=(A1.ext X2).ext X3
  obtain⟨F4,R4,s4,d4,f4⟩:=cS.frozen R3 (rs:=[r]) (vs:=[v]) ⟨v,[],rfl,A1',rfl⟩ (ie g2)
  obtain⟨h1,_⟩:=A2
  obtain⟨l,vs,k1,k2,k3,k4⟩:=R4.own n xs g6'
  rw [h1] at k1;cases k1
  simp only [ax] at d4
  obtain⟨v',r',e',hv,_⟩:=d4
  cases e'
  refine⟨l,vs,k,j,rfl,bM A3 g5,k3,by rw [←k4.len];exact g7,?_⟩
  obtain⟨R5,X5⟩:=R4.putL g6' h1 (k4.set hv j)
  exact q _ _ σ ((X13.frz s4 f4).trans X5).s R5
def gv(ft:FT)(f:FS):Nat→FS
  | 0,_=>none
  | n+1,e=>(ft e).bind fun p=>if p.1=true then(f p.2).bind fun fl=>match fl with
      | .nx e1=>gv ft f n e1
      | .ct e1=>gv ft f n e1
      | .bk e1=>some (.nx e1)
      | .rt r e1=>some (.rt r e1)
    else some (.nx p.2)
def kX(n:Nat)(ft:FT)(f:FS):FS:=gv ft f n
theorem oi{n:Nat}{c:Expr}{body:List Stmt}(hp:PassesOwn (model X.prog X.w) X.A X.env X.xe)(hc:PT X c (fT K ft))(hb:j7 X body (fS K f W)):PS X (.While c body [] pos) (fS K (kX n ft f) W):=(tZ hp hc hb).mono fun D σ H h=>by
  refine⟨fun m σ H=>∃F e fl,a7 K F H σ e∧gv ft f m e=some fl∧kn K W σ F H e D fl,⟨n,h⟩,?_⟩
  rintro m σ H ⟨F,e,fl,R,hf,q⟩
  cases m with
  | zero=>cases hf
  | succ m=>
    unfold gv at hf
    obtain⟨⟨x,e1⟩,h1,hf⟩:=Option.bind_eq_some_iff.mp hf
    refine⟨F,e,x,e1,R,h1,fun F1 H1 X1 R1=>?_⟩
    have sub:∀j,j∈([]:List Nat)→j∈W:=fun j h=>by cases h
    cases x with
    | false=>
      rw [if_neg (by simp)] at hf
      cases hf
      exact sX (q F1 H1 σ X1.s R1)
    | true=>
      rw [if_pos rfl] at hf
      refine sY ?_
      obtain⟨fl1,h2,hf⟩:=Option.bind_eq_some_iff.mp hf
      have q1:kn K W σ F1 H1 e1 D fl:=q.later (W1:=[]) X1.s sub fun j h=>h
      refine⟨fun σ' H'=>∃F' e',a7 K F' H' σ' e'∧gv ft f m e'=some fl∧kn K W σ' F' H' e' D fl,fun σ' H' ⟨F',e',r1,r2,r3⟩=>⟨m,Nat.lt_succ_self m,F',e',fl,r1,r2,r3⟩,F1,e1,fl1,R1,h2,?_⟩
      cases fl1 with
      | nx e2=>exact fun F2 H2 σ2 x R2=>⟨F2,e2,R2,hf,q1.later x (fun j h=>h) fun j h=>h⟩
      | ct e2=>exact fun F2 H2 σ2 x R2=>⟨F2,e2,R2,hf,q1.later x (fun j h=>h) fun j h=>h⟩
      | bk e2=>cases hf;exact fun F2 H2 σ2 x R2=>q1 F2 H2 σ2 x R2
      | rt r e2=>cases hf;exact fun F2 H2 σ2 v x R2 A=>q1 F2 H2 σ2 v x R2 A
end
end L2
namespace L2
open PySem PySem.Spec PyProof.Rows
theorem PI.mono{X:Cx}{tg iter:Expr}{t t':TI}(h:PI X tg iter t)(m:∀σ H R,t' σ H R→t σ H R):PI X tg iter t':=fun pins s σ H R I q=>h pins s σ H R I (m σ H R q)
theorem PI.or{X:Cx}{tg iter:Expr}{t t':TI}(h:PI X tg iter t)(h':PI X tg iter t'):PI X tg iter (fun σ H R=>t σ H R∨t' σ H R):=fun pins s σ H R I q=>by
  rcases q with q | q
  · exact h pins s σ H R I q
  · exact h' pins s σ H R I q
abbrev fM:=List (Nat × List PyData)
def oQ(K:PySem.W.Frag)(σ:L2.St)(F H:Hp)(own:fM):Prop:=∀p∈own,∃l vs,σ[p.1]?=some (some (.ref l))∧H l=some (.lst vs)∧ax K F p.2 vs
def uU(K:PySem.W.Frag)(σ:L2.St)(J:It)(items:List PyData)(own:fM)(F0:Hp):Prop:=∀F H,av F0 F→av F H→oQ K σ F H own→
  (∀i,i < items.length→J.go i H)∧(∀i,items.length≤i→J.stop i H)∧∀i d x H',items[i]?=some d→J.yld i H x H'→∃F',av H H'∧av F F'∧av F' H'∧(∀a,F a=none→H a≠none→F' a=none)∧DA K F' d x
abbrev FI:=En→Option (List PyData × fM × En)
def keeps(own:fM)(e:En):Prop:=∀p∈own,e[p.1]?=some (some (.l p.2))
def fI(K:PySem.W.Frag)(f:FI):TI:=fun σ H R=>∃F e items own e',a7 K F H σ e∧f e=some (items,own,e')∧∀J F' H',dP σ F H e F' H' e'→a7 K F' H' σ e'→keeps own e'→uU K σ J items own F'→R J H'
section
variable{K:PySem.W.Frag}{σ:L2.St}{H0 F H F' H':Hp}{e e':En}
theorem a7.held(R:a7 K F H σ e){own:fM}(h:keeps own e):oQ K σ F H own:=fun p hp=>by
  obtain⟨l,vs,h1,h2,h3,h4⟩:=R.own p.1 p.2 (h p hp)
  exact⟨l,vs,h1,h3,h4⟩
theorem a7.step(R:a7 K F H σ e)(s:av H H')(sF:av F F')(sm:av F' H')(fz:∀a,F a=none→H a≠none→F' a=none):a7 K F' H' σ e∧dP σ F H e F' H' e:=by
  obtain⟨R',o'⟩:=R.keep sF sm (fun a ⟨i,h⟩=>by
    obtain⟨h1,vs,h2⟩:=R.fpAt h
    exact fz a h1 (by rw [h2];simp)) fun a o _ h=>s a o h
  exact⟨R',⟨sF,fun a h=>s.free h,fun a vs h1 h2 _=>fz a h1 (by rw [h2];simp),fun a vs h=>⟨vs,s _ _ h⟩,fun a o h _=>s a o h,fun _=>Iff.rfl,fun a h=>.inl ((o' a).mp h)⟩⟩
inductive wQ (K:PySem.W.Frag) (σ:L2.St) (F:Hp) (p:Addr):Bool→List PyData→fM→Prop
  | tup {xs vs}:dQ K F p vs→ax K F xs vs→wQ K σ F p false xs []
  | lst {xs vs}:em K F p vs→ax K F xs vs→wQ K σ F p true xs []
  | own {i xs}:σ[i]?=some (some (.ref p))→wQ K σ F p true xs [(i,xs)]
theorem wQ.at{p:Addr}{b:Bool}{xs:List PyData}{own:fM}{F0:Hp}(h:wQ K σ F0 p b xs own)(s0:av F0 F)(s1:av F H){own':fM}(hh:oQ K σ F H own')(hs:∀q∈own,q∈own'):∃vs,ax K F xs vs∧(if b=true then em K H p vs else dQ K H p vs):=by
  cases h with
  | tup h1 h2=>exact⟨_,h2.mono s0,(s0.trans s1).tup h1⟩
  | lst h1 h2=>exact⟨_,h2.mono s0,(s0.trans s1).seq h1⟩
  | @own i xs h1=>
    obtain⟨l,vs,g1,g2,g3⟩:=hh (i,xs) (hs (i,xs) (by simp))
    dsimp only at g1 g3
    rw [h1] at g1;cases g1
    exact⟨vs,g3,.inl (.inl g2)⟩
def wA(e:En):Rv→Option (Bool × List PyData × fM)
  | .d (.tuple xs)=>some (false,xs,[])
  | .d (.list xs)=>some (true,xs,[])
  | .l xs=>some (true,xs,[])
  | .s i=>match e[i]? with
    | some (some (.l xs))=>some (true,xs,[(i,xs)])
    | _=>none
  | _=>none
theorem qF{r:Rv}{v:V}{b:Bool}{xs:List PyData}{own:fM}(R:a7 K F H σ e)(A:bY K σ H0 F H e r v)(h:wA e r=some (b,xs,own)):
    ∃F' p,a7 K F' H σ e∧av F F'∧(∀a,F a=none→H0 a≠none→F' a=none)∧v=.ref p∧wQ K σ F' p b xs own∧keeps own e:=by
  cases r with
  | d x=>
    cases x with
    | tuple ds=>
      cases h
      obtain⟨a,ys,e1,e2,e3⟩:=dz.mp A
      exact⟨F,a,R,av.refl _,fun _ h _=>h,e1,.tup e2 e3,fun p hp=>by cases hp⟩
    | list ds=>
      cases h
      obtain⟨a,ys,e1,e2,e3⟩:=et.mp A
      exact⟨F,a,R,av.refl _,fun _ h _=>h,e1,.lst e2 e3,fun p hp=>by cases hp⟩
    | _=>cases h
  | l ys=>
    cases h
    obtain⟨F',R',s',d',f'⟩:=A.frozen R
    obtain⟨a,ys,e1,e2,e3⟩:=et.mp d'
    exact⟨F',a,R',s',f',e1,.lst e2 e3,fun p hp=>by cases hp⟩
  | s i=>
    obtain⟨h1,ys,h2⟩:=A
    simp only [wA,h2] at h
    cases h
    obtain⟨l,vs,e1,e2,e3,e4⟩:=R.own i _ h2
    rw [h1] at e1;cases e1
    exact⟨F,l,R,av.refl _,fun _ h _=>h,rfl,.own h1,fun p hp=>by simp only [List.mem_singleton] at hp;subst hp;exact h2⟩
theorem rc{p:Addr}{xs:List PyData}{own:fM}{F0:Hp}(h:wQ K σ F0 p true xs own):uU K σ (BW K p) xs own F0:=by
  intro F H s0 s1 hh
  obtain⟨vs,d,q⟩:=h.at s0 s1 hh fun _ h=>h
  have q:em K H p vs:=q
  refine⟨fun i hi=>⟨vs,vs[i]'(by rw [←d.len];exact hi),q,List.getElem?_eq_getElem _⟩,fun i hi=>⟨vs,q,by rw [←d.len];exact hi⟩,fun i x v H' hx hy=>?_⟩
  obtain⟨rfl,hy⟩:=hy
  obtain⟨w,g1,g2⟩:=d.get hx
  have e:=hy vs q
  rw [g1] at e;cases e
  exact⟨F,av.refl _,av.refl _,s1,fun _ h _=>h,g2⟩
theorem sW{p:Addr}{xs:List PyData}{own:fM}{F0:Hp}(h:wQ K σ F0 p false xs own):uU K σ (BX K p) xs own F0:=by
  intro F H s0 s1 hh
  obtain⟨vs,d,q⟩:=h.at s0 s1 hh fun _ h=>h
  have q:dQ K H p vs:=q
  refine⟨fun i hi=>⟨vs,vs[i]'(by rw [←d.len];exact hi),q,List.getElem?_eq_getElem _⟩,fun i hi=>⟨vs,q,by rw [←d.len];exact hi⟩,fun i x v H' hx hy=>?_⟩
  obtain⟨rfl,hy⟩:=hy
  obtain⟨w,g1,g2⟩:=d.get hx
  have e:=hy vs q
  rw [g1] at e;cases e
  exact⟨F,av.refl _,av.refl _,s1,fun _ h _=>h,g2⟩
def bK(lo:Int)(n:Nat):List PyData:=(List.range n).map fun(i:Nat)=>.int (lo+(i:Int))
theorem o_{lo:Int}{n:Nat}{F0:Hp}:uU K σ (BG lo n) (bK lo n) [] F0:=by
  intro F H s0 s1 hh
  unfold bK
  rw [List.length_map,List.length_range]
  refine⟨fun i hi=>hi,fun i hi=>hi,fun i x v H' hx hy=>?_⟩
  obtain⟨rfl,rfl⟩:=hy
  rw [List.getElem?_map] at hx
  obtain⟨k,h1,rfl⟩:=Option.map_eq_some_iff.mp hx
  have h2:=(List.getElem?_eq_some_iff.mp h1).2
  simp at h2
  subst h2
  exact⟨F,av.refl _,av.refl _,s1,fun _ h _=>h,cm.mpr rfl⟩
end
inductive BV (K:PySem.W.Frag) (own:fM) (σ0:L2.St) (F1:Hp) (P:En→Prop) (G:L2.St→Hp→Hp→En→Prop) (σ:L2.St) (H:Hp):Prop
  | mk {F:Hp} {e:En} (R:a7 K F H σ e) (kp:keeps own e) (hσ:∀p∈own,σ[p.1]?=σ0[p.1]?) (sF:av F1 F) (hf:P e) (q:G σ F H e):BV K own σ0 F1 P G σ H
section
variable{X:Cx}{K:PySem.W.Frag}{tg a b:Expr}{es:List Expr}{fa:FE}{fs:FA}{pos p tp:Pos}{k0:Nat}
def ej(fa:FE):FI:=fun e=>(fa e).bind fun p=>(wA p.2 p.1).map fun s=>(s.2.1,s.2.2,p.2)
theorem cy(hK:X.K=K)(h:PE X a (fE K fa)):PI X tg a (fI K (ej fa)):=((tR (tg:=tg) hK h).or (vY (tg:=tg) hK h)).mono fun σ H R hh=>by
  obtain⟨F,e,items,own,e',R0,hf,q⟩:=hh
  unfold ej at hf
  obtain⟨⟨r,e1⟩,h1,hf⟩:=Option.bind_eq_some_iff.mp hf
  obtain⟨⟨b,xs,ow⟩,h2,hf⟩:=Option.map_eq_some_iff.mp hf
  cases hf
  cases b with
  | true=>
    refine .inl ⟨F,e,r,e1,R0,h1,fun F1 H1 v X1 R1 A1=>?_⟩
    obtain⟨F2,p,R2,s2,f2,rfl,sc,kp⟩:=qF R1 A1 h2
    obtain⟨vs,_,c⟩:=sc.at (av.refl _) R2.sm (R2.held kp) fun _ h=>h
    exact⟨p,rfl,⟨vs,c⟩,q _ F2 H1 (X1.frz s2 f2) R2 kp (rc sc)⟩
  | false=>
    refine .inr ⟨F,e,r,e1,R0,h1,fun F1 H1 v X1 R1 A1=>?_⟩
    obtain⟨F2,p,R2,s2,f2,rfl,sc,kp⟩:=qF R1 A1 h2
    obtain⟨vs,_,c⟩:=sc.at (av.refl _) R2.sm (R2.held kp) fun _ h=>h
    exact⟨p,rfl,⟨vs,c⟩,q _ F2 H1 (X1.frz s2 f2) R2 kp (sW sc)⟩
def uo(j:Int):Bool:=decide (-1000000≤j)&&decide (j≤1000000)
theorem uq{j:Int}(h:uo j=true): -1000000≤j∧j≤1000000:=by
  unfold uo at h
  rw [Bool.and_eq_true,decide_eq_true_iff,decide_eq_true_iff] at h
  exact h
def ee(fs:FA):FI:=fun e=>(fs e).bind fun p=>match p.1 with
  | [r]=>(bL r).bind fun j=>if uo j=true then some (bK 0 j.toNat,[],p.2) else none
  | _=>none
theorem eP(hg:Gl X "range")(hm:X.mg "range"=none)(ha:PA X [a] (fA K fs))(hs:starEach [a] X.env=[(false,eval a X.env)]):PI X tg (.Call (.Name "range" p) [a] [] pos) (fI K (ee fs)):=(rm hg hm ha hs).mono fun σ H R hh=>by
  obtain⟨F,e,items,own,e',R0,hf,q⟩:=hh
  unfold ee at hf
  obtain⟨⟨rs,e1⟩,h1,hf⟩:=Option.bind_eq_some_iff.mp hf
  match rs,h1,hf with
  | [r],h1,hf=>
  obtain⟨j,h2,hf⟩:=Option.bind_eq_some_iff.mp hf
  split at hf
  case isFalse=>cases hf
  case isTrue hj=>
  cases hf
  refine⟨F,e,_,e1,R0,h1,fun F1 H1 vs X1 R1 A1=>?_⟩
  obtain⟨v,rfl,A2⟩:=ke A1
  have:=uq hj
  exact⟨j,by rw [bM A2 h2],by lia,by lia,q _ F1 H1 X1 R1 (fun _ h=>by cases h) o_⟩
open Classical in
noncomputable def iI(own:fM)(g:FG)(f:FS):List PyData→FS
  | [],e=>some (.nx e)
  | x::r,e=>(g x e).bind fun e1=>(f e1).bind fun fl=>match fl with
    | .nx e2=>if keeps own e2 then iI own g f r e2 else none
    | .ct e2=>if keeps own e2 then iI own g f r e2 else none
    | .bk e2=>some (.nx e2)
    | .rt v e2=>some (.rt v e2)
noncomputable def dS(W:List Nat)(fi:FI)(g:FG)(f:FS):FS:=fun e=>(fi e).bind fun p=>if (p.2.1.all fun q=> !W.contains q.1)=true then iI p.2.1 g f p.1 p.2.2 else none
theorem eZ{W1 W2:List Nat}{iter:Expr}{body:List Stmt}{fi:FI}{g:FG}{f:FS}(hp:PassesOwn (model X.prog X.w) X.A X.env X.xe)(hc:X.calm=true)(hi:PI X tg iter (fI K fi))(hg:PG X tg (fG K g W1))(hb:j7 X body (fS K f W2))(hs:∀x,foldedSetIterable iter X.env x=pure x):
    PS X (.For tg iter body [] pos) (fS K (dS (W1++W2) fi g f) (W1++W2)):=(yZ hp hc hi hg hb hs).mono fun D σ0 H0 hh=>by
  obtain⟨F0,e0,fl,R0,hf,q0⟩:=hh
  unfold dS at hf
  obtain⟨⟨items,own,e1⟩,h1,hf⟩:=Option.bind_eq_some_iff.mp hf
  dsimp only at hf
  split at hf
  case isFalse=>cases hf
  case isTrue hW=>
  have hW':∀p∈own,p.1∉W1++W2:=fun p hp=>by
    have:=List.all_eq_true.mp hW p hp
    simpa using this
  refine⟨F0,e0,items,own,e1,R0,h1,fun J F1 H1 X1 R1 kp ok=>?_⟩
  have s1:∀j,j∈W1→j∈W1++W2:=fun j h=>List.mem_append.mpr (.inl h)
  have s2:∀j,j∈W2→j∈W1++W2:=fun j h=>List.mem_append.mpr (.inr h)
  have q1:kn K (W1++W2) σ0 F1 H1 e1 D fl:=q0.later (W1:=[]) X1.s (fun j h=>by cases h) fun j h=>h
  refine⟨fun i m σ H=>m=items.length - i∧i≤items.length∧BV K own σ0 F1 (fun e=>iI own g f (items.drop i) e=some fl) (fun σ F H e=>kn K (W1++W2) σ F H e D fl) σ H,
    ⟨items.length,by simp,Nat.zero_le _,.mk R1 kp (fun _ _=>rfl) (av.refl _) hf q1⟩,?_⟩
  rintro i m σ H ⟨rfl,hi,⟨R,kp,hσ,sF,hf,q⟩⟩
  rename_i F e
  have held:oQ K σ0 F H own:=fun p hp=>by
    obtain⟨l,vs,g1,g2⟩:=R.held kp p hp
    exact⟨l,vs,by rw [←hσ p hp];exact g1,g2⟩
  obtain⟨go,stop,yld⟩:=ok F H sF R.sm held
  by_cases hlt:i < items.length
  · have hd:items.drop i=items[i]::items.drop (i+1):=List.drop_eq_getElem_cons hlt
    rw [hd] at hf
    unfold iI at hf
    obtain⟨e2,h2,hf⟩:=Option.bind_eq_some_iff.mp hf
    obtain⟨fl2,h3,hf⟩:=Option.bind_eq_some_iff.mp hf
    refine .inr ⟨go i hlt,BV K own σ0 F1 (fun e=>iI own g f (items.drop (i+1)) e=some fl) (fun σ F H e=>kn K (W1++W2) σ F H e D fl),
      fun σ' H' r=>⟨items.length - (i+1),by lia,rfl,hlt,r⟩,fun x H' hy=>?_⟩
    obtain⟨F',sH,sF',sm',fz,hx⟩:=yld i items[i] x H' (List.getElem?_eq_getElem hlt) hy
    obtain⟨R',X'⟩:=R.step sH sF' sm' fz
    refine⟨F',e,items[i],e2,R',hx,h2,fun σ2 x2 R2=>⟨F',e2,fl2,R2,h3,?_⟩⟩
    have q2:kn K (W1++W2) σ2 F' H' e2 D fl:=(q.later (W1:=[]) (W2:=W1++W2) X'.s (fun j h=>by cases h) fun j h=>h).later x2 s1 fun j h=>h
    have w2:∀p∈own,σ2[p.1]?=σ0[p.1]?:=fun p hp=>(x2.wr p.1 fun z=>hW' p hp (s1 _ z)).trans (hσ p hp)
    cases fl2 with
    | nx e3=>
      intro F3 H3 σ3 x3 R3
      dsimp only at hf
      split at hf
      case isFalse=>cases hf
      case isTrue kp3=>
      exact .mk R3 kp3 (fun p hp=>(x3.wr p.1 fun z=>hW' p hp (s2 _ z)).trans (w2 p hp)) (sF.trans (sF'.trans x3.sf)) hf (q2.later x3 s2 fun j h=>h)
    | ct e3=>
      intro F3 H3 σ3 x3 R3
      dsimp only at hf
      split at hf
      case isFalse=>cases hf
      case isTrue kp3=>
      exact .mk R3 kp3 (fun p hp=>(x3.wr p.1 fun z=>hW' p hp (s2 _ z)).trans (w2 p hp)) (sF.trans (sF'.trans x3.sf)) hf (q2.later x3 s2 fun j h=>h)
    | bk e3=>
      cases hf
      exact fun F3 H3 σ3 x3 R3=>q2 F3 H3 σ3 (x3.mono s2) R3
    | rt r e3=>
      cases hf
      exact fun F3 H3 σ3 v x3 R3 A3=>q2 F3 H3 σ3 v (x3.mono s2) R3 A3
  · have hd:items.drop i=[]:=List.drop_eq_nil_of_le (by lia)
    rw [hd] at hf
    cases hf
    exact .inl ⟨stop i (by lia),q F H σ cP.refl R⟩
end
end L2
namespace L2
open PySem PySem.Spec PyProof.Rows
def rT:Option (Option Sv)→Bool
  | some (some (.l _))=>true
  | _=>false
theorem mC{s:Option (Option Sv)}:rT s=true↔ ∃xs,s=some (some (.l xs)):=by
  unfold rT
  split
  · simp
  · rename_i h
    constructor
    · intro z;cases z
    · rintro⟨xs,rfl⟩;exact absurd rfl (h xs)
def h_(pos:Nat→Option Nat)(ei e:En):En:=e.mapIdx fun i s=>match s with
  | some (.l xs)=>match pos i with
    | some k=>(ei[k]?).join
    | none=>some (.l xs)
  | s=>s
theorem b7{pos:Nat→Option Nat}{ei e:En}{i:Nat}:(h_ pos ei e)[i]?=(e[i]?).map fun s=>match s with
  | some (.l xs)=>match pos i with
    | some k=>(ei[k]?).join
    | none=>some (.l xs)
  | s=>s:=by unfold h_;rw [List.getElem?_mapIdx]
structure m4 (σ:L2.St) (e:En) (σi:L2.St) (ei:En) (pos:Nat→Option Nat):Prop where
  a:∀(i k:Nat) (xs:List PyData),e[i]?=some (some (.l xs))→pos i=some k→σi[k]?=σ[i]?
  b:∀(k:Nat) (ys:List PyData),ei[k]?=some (some (.l ys))→∃(i:Nat) (xs:List PyData),e[i]?=some (some (.l xs))∧pos i=some k∧σi[k]?=σ[i]?
section
variable{K:PySem.W.Frag}{σ σi σi':L2.St}{F H F' H':Hp}{e ei ei':En}{pos:Nat→Option Nat}
def zO(e:En):Prop:=∀(i:Nat) (xss:List (List PyData)),e[i]?≠some (some (.n xss))
theorem m4.own(s:m4 σ e σi ei pos)(hn:zO ei){a:Addr}{H H':Hp}(h:cD σi ei H a):∃(i k:Nat) (xs:List PyData),e[i]?=some (some (.l xs))∧pos i=some k∧σ[i]?=some (some (.ref a)):=by
  obtain⟨k,⟨ys,h1,h2⟩ | ⟨xss,_,_,h1,_⟩⟩:=h
  · obtain⟨i,xs,g1,g2,g3⟩:=s.b k ys h1
    exact⟨i,k,xs,g1,g2,by rw [←g3];exact h2⟩
  · exact absurd h1 (hn k xss)
theorem jq(R:a7 K F H σ e)(s:m4 σ e σi ei pos)(hnn:zO ei)(sf:av F F')(dom:∀a,H' a=none→H a=none)(fr:∀a vs,F a=none→H a=some (.lst vs)→¬cD σi ei H a→F' a=none)(lst:∀a vs,H a=some (.lst vs)→∃vs',H' a=some (.lst vs'))
    (tmp:∀a o,H a=some o→¬cD σi ei H a→H' a=some o)(R':a7 K F' H' σi' ei')(hσ:∀(i k:Nat) (xs:List PyData),e[i]?=some (some (.l xs))→pos i=some k→σi'[k]?=σi[k]?)(hsh:∀(i k:Nat) (xs:List PyData),e[i]?=some (some (.l xs))→pos i=some k→∃ys,ei'[k]?=some (some (.l ys))):
    a7 K F' H' σ (h_ pos ei' e)∧dP σ F H e F' H' (h_ pos ei' e)∧∀a,cD σ (h_ pos ei' e) H' a→cD σ e H a:=by
  have shp:∀i:Nat,(∃xs,(h_ pos ei' e)[i]?=some (some (.l xs)))↔ (∃xs,e[i]?=some (some (.l xs))):=by
    intro i
    rw [b7]
    match h:e[i]? with
    | none=>simp
    | some none=>simp
    | some (some (.d x))=>simp
    | some (some (.n x))=>simp
    | some (some (.l xs))=>
      simp only [Option.map_some]
      constructor
      · intro _;exact⟨xs,rfl⟩
      · intro _
        match hp:pos i with
        | none=>exact⟨xs,rfl⟩
        | some k=>
          obtain⟨ys,g⟩:=hsh i k xs h hp
          exact⟨ys,by show some ((ei'[k]?).join)=_;rw [g];rfl⟩
  have oth:∀(i:Nat) (s:Sv),(∀xs,s≠.l xs)→((h_ pos ei' e)[i]?=some (some s)↔ e[i]?=some (some s)):=by
    intro i s hs
    constructor
    · intro h
      rw [b7] at h
      match h1:e[i]?,h with
      | some (some (.d y)),h=>exact h
      | some (some (.n y)),h=>exact h
      | some (some (.l ys)),h=>
        simp only [Option.map_some,Option.some.injEq] at h
        match hp:pos i,h with
        | none,h=>cases h;exact absurd rfl (hs _)
        | some k,h=>
          obtain⟨zs,g⟩:=hsh i k ys h1 hp
          change (ei'[k]?).join=_ at h
          rw [g] at h;cases h;exact absurd rfl (hs _)
      | some none,h=>simp at h
      | none,h=>simp at h
    · intro h
      rw [b7,h]
      cases s with
      | d y=>rfl
      | n y=>rfl
      | l y=>exact absurd rfl (hs y)
  have out:∀i a,Fp σ e H i a→(∀k xs,e[i]?=some (some (.l xs))→pos i≠some k)→¬cD σi ei H a:=by
    intro i a hi hp z
    obtain⟨j,k,ws,d1,d2,d3⟩:=s.own hnn (H':=H') z
    have:i=j:=R.fp i j a hi (.inl ⟨ws,d1,d3⟩)
    subst this
    exact hp k ws d1 d2
  have keep:∀i a o,Fp σ e H i a→(∀k xs,e[i]?=some (some (.l xs))→pos i≠some k)→H a=some o→H' a=some o:=fun i a o hi hp ha=>tmp a o ha (out i a hi hp)
  have sown:∀a,cD σi ei H a→cD σ e H a:=fun a z=>by
    obtain⟨j,k,ws,d1,d2,d3⟩:=s.own hnn (H':=H') z
    exact⟨j,.inl ⟨ws,d1,d3⟩⟩
  have fs:∀i a,Fp σ (h_ pos ei' e) H' i a↔ Fp σ e H i a:=by
    intro i a
    have key:∀xss l,e[i]?=some (some (.n xss))→σ[i]?=some (some (.ref l))→H' l=H l:=fun xss l h1 h2=>by
      obtain⟨l',bs,g1,g2,g3,_⟩:=R.nst i xss h1
      rw [h2] at g1;cases g1
      rw [g3]
      exact keep i l _ (.inr ⟨xss,l,bs,h1,h2,g3,.inl rfl⟩) (fun k xs z=>by rw [h1] at z;cases z) g3
    constructor
    · rintro(⟨xs,h1,h2⟩ | ⟨xss,l,bs,h1,h2,h3,h4⟩)
      · obtain⟨ys,h⟩:=(shp i).mp ⟨xs,h1⟩
        exact .inl ⟨ys,h,h2⟩
      · have h1':=(oth i (.n xss) (fun _ z=>nomatch z)).mp h1
        exact .inr ⟨xss,l,bs,h1',h2,by rw [←key xss l h1' h2];exact h3,h4⟩
    · rintro(⟨xs,h1,h2⟩ | ⟨xss,l,bs,h1,h2,h3,h4⟩)
      · obtain⟨ys,h⟩:=(shp i).mpr ⟨xs,h1⟩
        exact .inl ⟨ys,h,h2⟩
      · exact .inr ⟨xss,l,bs,(oth i (.n xss) (fun _ z=>nomatch z)).mpr h1,h2,by rw [key xss l h1 h2];exact h3,h4⟩
  refine⟨⟨R'.sm,?_,fun i x h=>?_,fun i xs h=>?_,fun i xss h=>?_,fun i j a h1 h2=>R.fp i j a ((fs i a).mp h1) ((fs j a).mp h2)⟩,⟨sf,dom,fun a vs h1 h2 n=>fr a vs h1 h2 fun z=>n (sown a z),lst,fun a o h n=>tmp a o h fun z=>n (sown a z),shp,fun a ⟨i,h⟩=>.inl ⟨i,(fs i a).mp h⟩⟩,fun a ⟨i,h⟩=>⟨i,(fs i a).mp h⟩⟩
  · unfold h_;rw [List.length_mapIdx];exact R.len
  · obtain⟨v,g1,g2⟩:=R.dat i x ((oth i (.d x) (fun _ z=>nomatch z)).mp h)
    exact⟨v,g1,DA.mono sf g2⟩
  · obtain⟨ys,h1⟩:=(shp i).mp ⟨xs,h⟩
    obtain⟨l,vs,g1,g2,g3,g4⟩:=R.own i ys h1
    rw [b7,h1] at h
    simp only [Option.map_some,Option.some.injEq] at h
    match hp:pos i,h with
    | none,h=>
      cases h
      have np:∀k xs,e[i]?=some (some (Sv.l xs))→pos i≠some k:=fun k xs _ z=>by rw [hp] at z;cases z
      have fi:Fp σ e H i l:=.inl ⟨_,h1,g1⟩
      exact⟨l,vs,g1,fr l vs g2 g3 (out i l fi np),keep i l _ fi np g3,g4.mono sf⟩
    | some k,h=>
      obtain⟨zs,c1⟩:=hsh i k ys h1 hp
      change (ei'[k]?).join=_ at h
      rw [c1] at h;cases h
      obtain⟨l',vs',d1,d2,d3,d4⟩:=R'.own k _ c1
      rw [hσ i k ys h1 hp,s.a i k ys h1 hp] at d1
      exact⟨l',vs',d1,d2,d3,d4⟩
  · have h1:=(oth i (.n xss) (fun _ z=>nomatch z)).mp h
    obtain⟨l,bs,g1,g2,g3,g4,g5,g6,g7⟩:=R.nst i xss h1
    have np:∀k xs,e[i]?=some (some (Sv.l xs))→pos i≠some k:=fun k xs z=>by rw [h1] at z;cases z
    have fi:Fp σ e H i l:=.inr ⟨xss,l,bs,h1,g1,g3,.inl rfl⟩
    refine⟨l,bs,g1,fr l _ g2 g3 (out i l fi np),keep i l _ fi np g3,g4,g5,g6,fun k b ys q1 q2=>?_⟩
    obtain⟨c1,us,c2,c3⟩:=g7 k b ys q1 q2
    have fb:Fp σ e H i b:=.inr ⟨xss,l,bs,h1,g1,g3,.inr (List.mem_of_getElem? q1)⟩
    exact⟨fr b _ c1 c2 (out i b fb np),us,keep i b _ fb np c2,c3.mono sf⟩
end
def dy(e:En):List Rv→Option (List Sv)
  | []=>some []
  | .d x::r=>(dy e r).map (.d x::·)
  | .l xs::r=>(dy e r).map (.d (.list xs)::·)
  | .s i::r=>match e[i]? with
    | some (some (.l xs))=>(dy e r).map (.l xs::·)
    | _=>none
def aH:List Rv→List Nat
  | []=>[]
  | .s i::r=>i::aH r
  | .d _::r=>aH r
  | .l _::r=>aH r
def iL(rs:List Rv)(i:Nat):Option Nat:=rs.findIdx? fun r=>match r with
  | .s j=>j==i
  | _=>false
def noS:Rv→Prop
  | .s _=>False
  | _=>True
abbrev FM:=List Sv→Option (Rv × List Sv)
def dI(K:PySem.W.Frag)(n:Nat)(m:FM):Sp:=fun vs H Q _=>vs.length=n∧∃F as r as',a7 K F H (vs.map some) (as.map some)∧zO (as.map some)∧m as=some (r,as')∧noS r∧
  ∀F' H' v,dP (vs.map some) F H (as.map some) F' H' (as'.map some)→a7 K F' H' (vs.map some) (as'.map some)→bY K (vs.map some) H F' H' (as'.map some) r v→Q v H'
def bj:List Rv→List Sv→Bool
  | [],[]=>true
  | .s _::r,.l _::s=>bj r s
  | .d _::r,_::s=>bj r s
  | .l _::r,_::s=>bj r s
  | _,_=>false
def yr:Rv→Bool
  | .s _=>false
  | _=>true
def fq:List Rv→List Sv→En→En
  | .s i::r,.l ys::s,e=>fq r s (e.set i (some (.l ys)))
  | .d _::r,_::s,e=>fq r s e
  | .l _::r,_::s,e=>fq r s e
  | _,_,e=>e
def dO(n:Nat)(m:FM)(fs:FA):FE:=fun e=>(fs e).bind fun p=>(dy p.2 p.1).bind fun as=>(m as).bind fun z=>if p.1.length=n∧(aH p.1).Nodup∧bj p.1 z.2=true∧yr z.1=true then some (z.1,fq p.1 z.2 p.2) else none
theorem gh:∀{rs:List Rv} {as:List Sv},bj rs as=true→∀(k i:Nat),rs[k]?=some (.s i)→∃ys,as[k]?=some (.l ys)
  | [],[],_,k,i,h=>by simp at h
  | .s j::r,.l ys::s,h,k,i,hk=>by
    cases k with
    | zero=>exact⟨ys,rfl⟩
    | succ k=>simpa using gh (rs:=r) (as:=s) (by simpa [bj] using h) k i (by simpa using hk)
  | .d x::r,y::s,h,k,i,hk=>by
    cases k with
    | zero=>simp at hk
    | succ k=>simpa using gh (rs:=r) (as:=s) (by simpa [bj] using h) k i (by simpa using hk)
  | .l x::r,y::s,h,k,i,hk=>by
    cases k with
    | zero=>simp at hk
    | succ k=>simpa using gh (rs:=r) (as:=s) (by simpa [bj] using h) k i (by simpa using hk)
  | .s _::_,.d _::_,h,_,_,_=>by simp [bj] at h
  | .s _::_,[],h,_,_,_=>by simp [bj] at h
  | .d _::_,[],h,_,_,_=>by simp [bj] at h
  | .l _::_,[],h,_,_,_=>by simp [bj] at h
theorem jJ{r0:Rv}{rs:List Rv}{i:Nat}:iL (r0::rs) i=if (match r0 with | .s j=>j==i | _=>false)=true then some 0 else(iL rs i).map (· +1):=by
  unfold iL;rw [List.findIdx?_cons]
theorem jK{rs:List Rv}{i k:Nat}(h:iL rs i=some k):rs[k]?=some (.s i):=by
  unfold iL at h
  rw [List.findIdx?_eq_some_iff_getElem] at h
  obtain⟨hk,h1,_⟩:=h
  rw [List.getElem?_eq_getElem hk]
  split at h1
  · rename_i heq
    rw [heq]
    have:=eq_of_beq h1
    rw [this]
  · cases h1
theorem eO:∀{rs:List Rv} {i:Nat},i∈aH rs↔ Rv.s i∈rs
  | [],i=>by simp [aH]
  | .s j::r,i=>by simp [aH,eO (rs:=r)]
  | .d x::r,i=>by simp [aH,eO (rs:=r)]
  | .l x::r,i=>by simp [aH,eO (rs:=r)]
theorem ff:∀{rs:List Rv} {i k j:Nat},(aH rs).Nodup→rs[k]?=some (.s i)→rs[j]?=some (.s i)→k=j
  | [],i,k,j,_,h,_=>by simp at h
  | .s m::r,i,k,j,hn,h1,h2=>by
    simp only [aH,List.nodup_cons] at hn
    cases k with
    | zero=>
      simp at h1;subst h1
      cases j with
      | zero=>rfl
      | succ j=>exact absurd (eO.mpr (List.mem_of_getElem? (by simpa using h2))) hn.1
    | succ k=>
      cases j with
      | zero=>
        simp at h2;subst h2
        exact absurd (eO.mpr (List.mem_of_getElem? (by simpa using h1))) hn.1
      | succ j=>
        have:=ff (rs:=r) (i:=i) (k:=k) (j:=j) hn.2 (by simpa using h1) (by simpa using h2)
        lia
  | .d x::r,i,k,j,hn,h1,h2=>by
    cases k with
    | zero=>simp at h1
    | succ k=>
      cases j with
      | zero=>simp at h2
      | succ j=>
        have:=ff (rs:=r) (i:=i) (k:=k) (j:=j) (by simpa [aH] using hn) (by simpa using h1) (by simpa using h2)
        lia
  | .l x::r,i,k,j,hn,h1,h2=>by
    cases k with
    | zero=>simp at h1
    | succ k=>
      cases j with
      | zero=>simp at h2
      | succ j=>
        have:=ff (rs:=r) (i:=i) (k:=k) (j:=j) (by simpa [aH] using hn) (by simpa using h1) (by simpa using h2)
        lia
theorem tV{rs:List Rv}{i:Nat}(h:i∉aH rs):iL rs i=none:=by
  unfold iL
  rw [List.findIdx?_eq_none_iff]
  intro r hr
  cases r with
  | d x=>rfl
  | l x=>rfl
  | s j=>
    have:j≠i:=fun z=>h (by rw [←z];exact eO.mpr hr)
    simpa using this
theorem kc:∀{rs:List Rv} {as:List Sv} {e:En},(aH rs).Nodup→bj rs as=true→(∀j∈aH rs,∃xs,e[j]?=some (some (.l xs)))→fq rs as e=h_ (iL rs) (as.map some) e
  | [],[],e,_,_,_=>by
    refine List.ext_getElem? fun i=>?_
    rw [b7]
    have:iL [] i=none:=rfl
    rw [this]
    simp only [fq]
    match e[i]? with
    | none=>rfl
    | some none=>rfl
    | some (some (.d x))=>rfl
    | some (some (.l x))=>rfl
    | some (some (.n x))=>rfl
  | .d x::r,y::s,e,hn,hl,hs=>by
    rw [show fq (.d x::r) (y::s) e=fq r s e from rfl,kc (by simpa [aH] using hn) (by simpa [bj] using hl) (fun j hj=>hs j (by simpa [aH] using hj))]
    refine List.ext_getElem? fun i=>?_
    rw [b7,b7,jJ]
    cases iL r i<;>simp
  | .l x::r,y::s,e,hn,hl,hs=>by
    rw [show fq (.l x::r) (y::s) e=fq r s e from rfl,kc (by simpa [aH] using hn) (by simpa [bj] using hl) (fun j hj=>hs j (by simpa [aH] using hj))]
    refine List.ext_getElem? fun i=>?_
    rw [b7,b7,jJ]
    cases iL r i<;>simp
  | .s k::r,.l ys::s,e,hn,hl,hs=>by
    simp only [aH,List.nodup_cons] at hn
    obtain⟨xs,hk⟩:=hs k (by simp [aH])
    have hlt:k < e.length:=(List.getElem?_eq_some_iff.mp hk).1
    rw [show fq (.s k::r) (.l ys::s) e=fq r s (e.set k (some (.l ys))) from rfl,kc hn.2 (by simpa [bj] using hl) (fun j hj=>by
      have z:k≠j:=fun z=>hn.1 (by rw [z];exact hj)
      rw [List.getElem?_set_ne z]
      exact hs j (by simp [aH,hj]))]
    refine List.ext_getElem? fun i=>?_
    rw [b7,b7,jJ]
    by_cases z:k=i
    · subst z
      rw [List.getElem?_set_self hlt,hk,tV hn.1]
      simp
    · rw [List.getElem?_set_ne z]
      have:((match (Rv.s k) with | .s j=>j==i | _=>false)=true)=False:=by simp [z]
      simp only [this,if_false]
      cases iL r i<;>simp
  | .s _::_,.d _::_,_,_,h,_=>by simp [bj] at h
  | .s _::_,.n _::_,_,_,h,_=>by simp [bj] at h
  | .s _::_,[],_,_,h,_=>by simp [bj] at h
  | .d _::_,[],_,_,h,_=>by simp [bj] at h
  | .l _::_,[],_,_,h,_=>by simp [bj] at h
  | [],_::_,_,_,h,_=>by simp [bj] at h
theorem eC{e:En}:∀{rs:List Rv} {as:List Sv},dy e rs=some as→∀j∈aH rs,∃xs,e[j]?=some (some (.l xs))
  | [],_,_,j,h=>by simp [aH] at h
  | .d x::rs,as,q,j,h=>by
    obtain⟨as',q1,rfl⟩:=Option.map_eq_some_iff.mp q
    exact eC q1 j (by simpa [aH] using h)
  | .l x::rs,as,q,j,h=>by
    obtain⟨as',q1,rfl⟩:=Option.map_eq_some_iff.mp q
    exact eC q1 j (by simpa [aH] using h)
  | .s k::rs,as,q,j,h=>by
    unfold dy at q
    match he:e[k]?,q with
    | some (some (.l xs)),q=>
      obtain⟨as',q1,rfl⟩:=Option.map_eq_some_iff.mp q
      simp only [aH,List.mem_cons] at h
      rcases h with rfl | h
      · exact⟨xs,he⟩
      · exact eC q1 j h
theorem iT{e:En}:∀{rs:List Rv} {as:List Sv} {k i:Nat},dy e rs=some as→rs[k]?=some (.s i)→∃xs,as[k]?=some (.l xs)
  | [],_,k,i,_,h=>by simp at h
  | .d x::rs,as,k,i,q,h=>by
    obtain⟨as',q1,rfl⟩:=Option.map_eq_some_iff.mp q
    cases k with
    | zero=>simp at h
    | succ k=>simpa using iT (k:=k) (i:=i) q1 (by simpa using h)
  | .l x::rs,as,k,i,q,h=>by
    obtain⟨as',q1,rfl⟩:=Option.map_eq_some_iff.mp q
    cases k with
    | zero=>simp at h
    | succ k=>simpa using iT (k:=k) (i:=i) q1 (by simpa using h)
  | .s j::rs,as,k,i,q,h=>by
    unfold dy at q
    match he:e[j]?,q with
    | some (some (.l xs)),q=>
      obtain⟨as',q1,rfl⟩:=Option.map_eq_some_iff.mp q
      cases k with
      | zero=>exact⟨xs,rfl⟩
      | succ k=>simpa using iT (k:=k) (i:=i) q1 (by simpa using h)
section
variable{X:Cx}{K:PySem.W.Frag}{σ:L2.St}{H0 H:Hp}{e:En}
theorem ka:∀{rs:List Rv} {vs:List V} {as:List Sv} {F:Hp},a7 K F H σ e→cS K σ H0 F H e rs vs→dy e rs=some as→
    ∃F',a7 K F' H σ e∧av F F'∧(∀a,F a=none→H0 a≠none→F' a=none)∧vs.length=as.length∧rs.length=as.length∧
      (∀(k:Nat) (x:PyData),as[k]?=some (.d x)→∃v,vs[k]?=some v∧DA K F' x v)∧∀(k:Nat) (xs:List PyData),as[k]?=some (.l xs)→∃i,rs[k]?=some (.s i)∧e[i]?=some (some (.l xs))∧∃v,vs[k]?=some v∧σ[i]?=some (some v)
  | [],vs,as,F,R,h,q=>by
    cases q
    have h':vs=[]:=h
    subst h'
    exact⟨F,R,av.refl _,fun _ h _=>h,rfl,rfl,fun k x h=>by simp at h,fun k x h=>by simp at h⟩
  | .d x::rs,_,as,F,R,h,q=>by
    obtain⟨v,ws,rfl,h1,h2⟩:=h
    obtain⟨as',q1,rfl⟩:=Option.map_eq_some_iff.mp q
    obtain⟨F',R',s',f',l1,l2,d',o'⟩:=ka R h2 q1
    refine⟨F',R',s',f',by simp [l1],by simp [l2],fun k y hk=>?_,fun k ys hk=>?_⟩
    · cases k with
      | zero=>simp at hk;subst hk;exact⟨v,rfl,DA.mono s' h1⟩
      | succ k=>simpa using d' k y (by simpa using hk)
    · cases k with
      | zero=>simp at hk
      | succ k=>simpa using o' k ys (by simpa using hk)
  | .l xs::rs,_,as,F,R,h,q=>by
    obtain⟨v,ws,rfl,h1,h2⟩:=h
    obtain⟨as',q1,rfl⟩:=Option.map_eq_some_iff.mp q
    obtain⟨F',R',s',f',l1,l2,d',o'⟩:=ka R h2 q1
    have key:∃F2,a7 K F2 H σ e∧av F' F2∧(∀a,F' a=none→H0 a≠none→F2 a=none)∧DA K F2 (.list xs) v:=by
      obtain⟨l,us,rfl,g1,g2,g3,g4,g5⟩:=h1
      cases hl:F' l with
      | none=>
        have h1':bY K σ H0 F' H e (.l xs) (.ref l):=⟨l,us,rfl,g1,hl,g3,ax.mono s' g4,g5⟩
        obtain⟨F2,R2,s2,d2,f2⟩:=h1'.frozen R'
        exact⟨F2,R2,s2,f2,d2⟩
      | some o=>
        have:=R'.sm _ _ hl
        rw [g3] at this;cases this
        exact⟨F',R',av.refl _,fun _ h _=>h,et.mpr ⟨l,us,rfl,.inl (.inl hl),ax.mono s' g4⟩⟩
    obtain⟨F2,R2,s2,f2,d2⟩:=key
    refine⟨F2,R2,s'.trans s2,fun a ha hn=>f2 a (f' a ha hn) hn,by simp [l1],by simp [l2],fun k y hk=>?_,fun k ys hk=>?_⟩
    · cases k with
      | zero=>simp at hk;subst hk;exact⟨v,rfl,d2⟩
      | succ k=>
        obtain⟨u,c1,c2⟩:=d' k y (by simpa using hk)
        exact⟨u,by simpa using c1,DA.mono s2 c2⟩
    · cases k with
      | zero=>simp at hk
      | succ k=>simpa using o' k ys (by simpa using hk)
  | .s i::rs,_,as,F,R,h,q=>by
    obtain⟨v,ws,rfl,h1,h2⟩:=h
    unfold dy at q
    match he:e[i]?,q with
    | some (some (.l xs)),q=>
      obtain⟨as',q1,rfl⟩:=Option.map_eq_some_iff.mp q
      obtain⟨F',R',s',f',l1,l2,d',o'⟩:=ka R h2 q1
      refine⟨F',R',s',f',by simp [l1],by simp [l2],fun k y hk=>?_,fun k ys hk=>?_⟩
      · cases k with
        | zero=>simp at hk
        | succ k=>simpa using d' k y (by simpa using hk)
      · cases k with
        | zero=>simp at hk;subst hk;exact⟨i,rfl,he,v,rfl,h1.1⟩
        | succ k=>simpa using o' k ys (by simpa using hk)
theorem eG{α:Type}{l:List α}{k:Nat}{x:α}:(l.map some)[k]?=some (some x)↔ l[k]?=some x:=by
  rw [List.getElem?_map]
  cases l[k]?<;>simp
theorem bY.noS{σ':L2.St}{e':En}{F H:Hp}{r:Rv}{v:V}(h:bY K σ' H0 F H e' r v)(n:L2.noS r)(ho:∀a,cD σ e H a→H0 a≠none):bY K σ H0 F H e r v:=by
  cases r with
  | d x=>exact h
  | l xs=>
    obtain⟨l,vs,e1,h1,h2,h3,h4,_⟩:=h
    exact⟨l,vs,e1,h1,h2,h3,h4,fun z=>ho l z h1⟩
  | s i=>exact absurd n (by simp [L2.noS])
theorem fY:∀{rs:List Rv} {as:List Sv},dy e rs=some as→zO (as.map some)
  | [],_,q=>by cases q;intro i xss h;simp at h
  | .d x::rs,as,q=>by
    obtain⟨as',q1,rfl⟩:=Option.map_eq_some_iff.mp q
    have ih:=fY q1
    intro i xss h
    cases i with
    | zero=>simp at h
    | succ i=>exact ih i xss (by simpa using h)
  | .l x::rs,as,q=>by
    obtain⟨as',q1,rfl⟩:=Option.map_eq_some_iff.mp q
    have ih:=fY q1
    intro i xss h
    cases i with
    | zero=>simp at h
    | succ i=>exact ih i xss (by simpa using h)
  | .s j::rs,as,q=>by
    unfold dy at q
    match he:e[j]?,q with
    | some (some (.l xs)),q=>
      obtain⟨as',q1,rfl⟩:=Option.map_eq_some_iff.mp q
      have ih:=fY q1
      intro i xss h
      cases i with
      | zero=>simp at h
      | succ i=>exact ih i xss (by simpa using h)
theorem zI{n:Nat}{m:FM}{fs:FA}{Q:VK}{E:XK}(h:fE K (dO n m fs) σ H Q):uC (dI K n m) [] E (fA K fs) σ H Q:=by
  obtain⟨F,e,z,e',R,hf,q⟩:=h
  unfold dO at hf
  obtain⟨⟨rs,e1⟩,h1,hf⟩:=Option.bind_eq_some_iff.mp hf
  obtain⟨as,h2,hf⟩:=Option.bind_eq_some_iff.mp hf
  obtain⟨⟨r,as'⟩,h3,hf⟩:=Option.bind_eq_some_iff.mp hf
  split at hf
  case isFalse=>cases hf
  case isTrue hc=>
  obtain⟨c1,c2,c3,c4⟩:=hc
  cases hf
  refine⟨F,e,rs,e1,R,h1,fun F1 H1 vs X1 R1 A1=>?_⟩
  obtain⟨F2,R2,s2,f2,l1,l2,d2,o2⟩:=ka R1 A1 h2
  have X2:=X1.frz s2 f2
  rw [List.append_nil]
  have hn:L2.noS r:=by
    cases r with
    | d x=>trivial
    | l x=>trivial
    | s i=>cases c4
  have nN:=fY h2
  have RA:a7 K F2 H1 (vs.map some) (as.map some):=by
    refine⟨R2.sm,by simp [l1],fun k x hk=>?_,fun k xs hk=>?_,fun k xss hk=>absurd hk (nN k xss),fun k j l f1 f2=>?_⟩
    · obtain⟨v,g1,g2⟩:=d2 k x (eG.mp hk)
      exact⟨v,eG.mpr g1,g2⟩
    · obtain⟨i,g1,g2,v,g3,g4⟩:=o2 k xs (eG.mp hk)
      obtain⟨l,us,k1,k2,k3,k4⟩:=R2.own i xs g2
      rw [g4] at k1;cases k1
      exact⟨l,us,eG.mpr g3,k2,k3,k4⟩
    · obtain⟨xs,g1,g3⟩:=f1.resolve_right fun⟨xss,_,_,z,_⟩=>nN k xss z
      obtain⟨ys,g2,g4⟩:=f2.resolve_right fun⟨xss,_,_,z,_⟩=>nN j xss z
      obtain⟨i1,a1,a2,v1,a3,a4⟩:=o2 k xs (eG.mp g1)
      obtain⟨i2,b1,b2,v2,b3,b4⟩:=o2 j ys (eG.mp g2)
      have e1:=eG.mp g3
      have e2:=eG.mp g4
      rw [a3] at e1;cases e1
      rw [b3] at e2;cases e2
      have:i1=i2:=R2.inj i1 i2 xs ys l a2 b2 a4 b4
      subst this
      exact ff c2 a1 b1
  have sub:m4 σ e1 (vs.map some) (as.map some) (iL rs):=by
    refine⟨fun i k xs g1 g2=>?_,fun k ys g1=>?_⟩
    · have g3:=jK g2
      obtain⟨zs,hs⟩:=iT h2 g3
      obtain⟨i',a1,a2,v,a3,a4⟩:=o2 k zs hs
      rw [g3] at a1;cases a1
      rw [eG.mpr a3,a4]
    · obtain⟨i,a1,a2,v,a3,a4⟩:=o2 k ys (eG.mp g1)
      refine⟨i,ys,a2,?_,by rw [eG.mpr a3,a4]⟩
      cases hp:iL rs i with
      | none=>
        unfold iL at hp
        rw [List.findIdx?_eq_none_iff] at hp
        have:=hp _ (List.mem_of_getElem? a1)
        simp at this
      | some j=>rw [ff c2 (jK hp) a1]
  refine⟨by rw [l1,←l2];exact c1,F2,as,r,as',RA,nN,h3,hn,fun F' H' v X3 R3 A3=>?_⟩
  obtain⟨R4,X4,o4⟩:=jq R2 sub nN X3.sf X3.dom X3.fr X3.lst X3.tmp R3 (fun _ _ _ _ _=>rfl) fun i k xs g1 g2=>by
    obtain⟨ys,g3⟩:=gh c3 k i (jK g2)
    exact⟨ys,eG.mpr g3⟩
  have hb:=kc (e:=e1) c2 c3 (eC h2)
  rw [←hb] at R4 X4 o4
  exact q F' H' v (X2.trans X4) R4 ((A3.noS hn fun a z=>R2.ownH a (o4 a z)).weak X2.dom)
theorem bc{x:Str}{st:Stmt}{f:Addr}{fd:FuncData}{ps:List Str}{k n:Nat}{m:FM}{a:Expr}{es:List Expr}{fs:FA}{p pos:Pos}(h:bQ X.K X.mg x st f fd ps)(G:aS X.prog X.w X.K X.mg X.base du k f fd ps (dI K n m))(hr:bX k X.A)(ha:PA X (a::es) (fA K fs))
    (hg:Gl X x)(hdb:(x==("__debug__":Str))=false)(he:starEach (a::es) X.env=(false,eval a X.env)::starEach es X.env)(hpl:(backTo pos (starEach es X.env)).any (·.1)=false):
    PE X (.Call (.Name x p) (a::es) [] pos) (fE K (dO n m fs)):=(Cm h G hr ha hg hdb he hpl).mono fun _ _ _ h=>zI h
def rK:List Sv→En→Option (List Sv)
  | [],_=>some []
  | .d x::r,e=>(rK r e.tail).map (.d x::·)
  | .l _::r,e=>match e.head? with
    | some (some (.l ys))=>(rK r e.tail).map (.l ys::·)
    | _=>none
  | .n _::_,_=>none
def vd(n:Nat)(e:En):Rv→Option Rv
  | .s i=>if n≤i then match e[i]? with
      | some (some (.l xs))=>some (.l xs)
      | _=>none
    else none
  | r=>some r
def nY(W:List Nat)(as:List Sv):Bool:=W.all fun j=>match as[j]? with
  | some (.l _)=>false
  | _=>true
def jF(n k:Nat)(W:List Nat)(f:FS):FM:=fun as=>if as.length=n∧nY W as=true then(f (as.map some++List.replicate k none)).bind fun fl=>match fl with
    | .rt r e=>(vd n e r).bind fun r'=>(rK as e).map fun as'=>(r',as')
    | .nx e=>(rK as e).map fun as'=>(.d .none,as')
    | _=>none
  else none
theorem kg:∀{as as':List Sv} {e:En},rK as e=some as'→as'.length=as.length∧(∀(j:Nat) (x:PyData),as'[j]?=some (.d x)↔ as[j]?=some (.d x))∧(∀(j:Nat) (ys:List PyData),as'[j]?=some (.l ys)→(∃xs,as[j]?=some (.l xs))∧e[j]?=some (some (.l ys)))∧∀(j:Nat) (xs:List PyData),as[j]?=some (.l xs)→∃ys,as'[j]?=some (.l ys)
  | [],_,e,h=>by cases h;simp
  | .d x::r,_,e,h=>by
    obtain⟨s,h1,rfl⟩:=Option.map_eq_some_iff.mp h
    obtain⟨g1,g2,g3,g4⟩:=kg h1
    refine⟨by simp [g1],fun j y=>?_,fun j ys hj=>?_,fun j xs hj=>?_⟩
    · cases j with
      | zero=>simp
      | succ j=>simpa using g2 j y
    · cases j with
      | zero=>simp at hj
      | succ j=>
        obtain⟨c1,c2⟩:=g3 j ys (by simpa using hj)
        refine⟨by simpa using c1,?_⟩
        rw [List.getElem?_tail] at c2
        exact c2
    · cases j with
      | zero=>simp at hj
      | succ j=>simpa using g4 j xs (by simpa using hj)
  | .l xs::r,_,e,h=>by
    unfold rK at h
    match he:e.head?,h with
    | some (some (.l ys)),h=>
      obtain⟨s,h1,rfl⟩:=Option.map_eq_some_iff.mp h
      obtain⟨g1,g2,g3,g4⟩:=kg h1
      refine⟨by simp [g1],fun j y=>?_,fun j zs hj=>?_,fun j zs hj=>?_⟩
      · cases j with
        | zero=>simp
        | succ j=>simpa using g2 j y
      · cases j with
        | zero=>
          simp at hj;subst hj
          exact⟨⟨xs,rfl⟩,by rw [List.head?_eq_getElem?] at he;exact he⟩
        | succ j=>
          obtain⟨c1,c2⟩:=g3 j zs (by simpa using hj)
          refine⟨by simpa using c1,?_⟩
          rw [List.getElem?_tail] at c2
          exact c2
      · cases j with
        | zero=>exact⟨ys,rfl⟩
        | succ j=>simpa using g4 j zs (by simpa using hj)
  | .n x::r,_,e,h=>by simp [rK] at h
end
end L2
namespace L2
open PySem PySem.Spec PyProof.Rows
theorem d_{α:Type}{l:List (Option α)}{k i:Nat}{x:α}(h:(l++List.replicate k none)[i]?=some (some x)):l[i]?=some (some x):=by
  rw [List.getElem?_append] at h
  split at h
  · exact h
  · rw [List.getElem?_replicate] at h
    split at h<;>simp at h
theorem eh{α:Type}{l:List (Option α)}{k i:Nat}{x:α}(h:l[i]?=some (some x)):(l++List.replicate k none)[i]?=some (some x):=by
  have hi:i < l.length:=(List.getElem?_eq_some_iff.mp h).1
  rw [List.getElem?_append_left hi];exact h
section
variable{K:PySem.W.Frag}{F H:Hp}{σ:L2.St}{e:En}{k:Nat}
theorem ms{i:Nat}{a:Addr}:Fp (σ++List.replicate k none) (e++List.replicate k none) H i a↔ Fp σ e H i a:=by
  constructor
  · rintro(⟨xs,h1,h2⟩ | ⟨xss,l,bs,h1,h2,h3⟩)
    · exact .inl ⟨xs,d_ h1,d_ h2⟩
    · exact .inr ⟨xss,l,bs,d_ h1,d_ h2,h3⟩
  · rintro(⟨xs,h1,h2⟩ | ⟨xss,l,bs,h1,h2,h3⟩)
    · exact .inl ⟨xs,eh h1,eh h2⟩
    · exact .inr ⟨xss,l,bs,eh h1,eh h2,h3⟩
theorem mK{a:Addr}:cD (σ++List.replicate k none) (e++List.replicate k none) H a↔ cD σ e H a:=⟨fun⟨i,h⟩=>⟨i,ms.mp h⟩,fun⟨i,h⟩=>⟨i,ms.mpr h⟩⟩
theorem a7.pad(R:a7 K F H σ e):a7 K F H (σ++List.replicate k none) (e++List.replicate k none):=by
  refine⟨R.sm,by simp [R.len],fun i x h=>?_,fun i xs h=>?_,fun i xss h=>?_,fun i j a h1 h2=>R.fp i j a (ms.mp h1) (ms.mp h2)⟩
  · obtain⟨v,g1,g2⟩:=R.dat i x (d_ h)
    exact⟨v,eh g1,g2⟩
  · obtain⟨l,vs,g1,g2⟩:=R.own i xs (d_ h)
    exact⟨l,vs,eh g1,g2⟩
  · obtain⟨l,bs,g1,g2⟩:=R.nst i xss (d_ h)
    exact⟨l,bs,eh g1,g2⟩
end
theorem mW:∀{as as':List Sv} {e:En},rK as e=some as'→zO (as'.map some)
  | [],_,e,h=>by cases h;intro i xss z;simp at z
  | .d x::r,_,e,h=>by
    obtain⟨s,h1,rfl⟩:=Option.map_eq_some_iff.mp h
    have ih:=mW h1
    intro i xss z
    cases i with
    | zero=>simp at z
    | succ i=>exact ih i xss (by simpa using z)
  | .l xs::r,_,e,h=>by
    unfold rK at h
    match he:e.head?,h with
    | some (some (.l ys)),h=>
      obtain⟨s,h1,rfl⟩:=Option.map_eq_some_iff.mp h
      have ih:=mW h1
      intro i xss z
      cases i with
      | zero=>simp at z
      | succ i=>exact ih i xss (by simpa using z)
  | .n x::r,_,e,h=>by simp [rK] at h
theorem nZ{W:List Nat}{as:List Sv}(h:nY W as=true){j:Nat}{xs:List PyData}(hj:as[j]?=some (.l xs)):j∉W:=fun z=>by
  unfold nY at h
  have:=List.all_eq_true.mp h j z
  rw [hj] at this
  cases this
section
variable{P:Program}{w:World}{K:PySem.W.Frag}{mg:Str→Option Value}{base:Heap}
theorem bQ.fn{x:Str}{st:Stmt}{f:Addr}{fd:FuncData}{N ps:List Str}{k n k0:Nat}{W:List Nat}{fb:FS}(h:bQ K mg x st f fd ps)(S:aM N ps (aj st))(hn:ps.length=n)(hN:N.length=n+k0)
    (hb:∀(cdv:Value) (A:Around) (outer:List Env) (s:Shared) (H:Hp) (E:XK),bX k (A.deeper (envOfC x (aj st) s.heap.objs.size f cdv))→j7 (oW du P w K mg base N x (aj st) f cdv A outer s H E).nox (cH st) (fS K fb W)):
    aS P w K mg base du (k+1) f fd ps (dI K n (jF n k0 W fb)):=by
  refine h.F.ok S (fun vs H Q E q=>?_) fun cdv A outer s H vs Q E hr hsp=>⟨_,hb cdv A outer s H E hr,?_⟩
  · rw [hn];exact q.1
  · obtain⟨hl,F,as,r,as',R,nN,hm,nr,q⟩:=hsp
    unfold jF at hm
    split at hm
    case isFalse=>cases hm
    case isTrue hc=>
    obtain⟨la,nl⟩:=hc
    obtain⟨fl,h1,hm⟩:=Option.bind_eq_some_iff.mp hm
    have hst:start N vs=vs.map some++List.replicate k0 none:=by unfold start;rw [hN,hl];congr 2;lia
    rw [hst]
    have key:∀{as':List Sv} {e':En},rK as e'=some as'→∀F' H' σ',cP W (vs.map some++List.replicate k0 none) F H (as.map some++List.replicate k0 none) σ' F' H' e'→a7 K F' H' σ' e'→
        dP (vs.map some) F H (as.map some) F' H' (as'.map some)∧a7 K F' H' (vs.map some) (as'.map some)∧∀a,cD (vs.map some) (as'.map some) H' a→cD (vs.map some) (as.map some) H a:=by
      intro as' e' hu F' H' σ' X' R'
      obtain⟨u1,u2,u3,u4⟩:=kg hu
      have uN:=mW hu
      have ow:∀a,cD (vs.map some) (as'.map some) H' a→cD (vs.map some) (as.map some) H a:=by
        rintro a ⟨j,⟨ys,c1,c2⟩ | ⟨xss,_,_,z,_⟩⟩
        · obtain⟨⟨xs,c3⟩,_⟩:=u3 j ys (eG.mp c1)
          exact⟨j,.inl ⟨xs,eG.mpr c3,c2⟩⟩
        · exact absurd z (uN j xss)
      have sg:∀(j:Nat) (xs:List PyData),as[j]?=some (.l xs)→σ'[j]?=(vs.map some)[j]?:=fun j xs hj=>by
        rw [X'.wr j (nZ nl hj)]
        have hj2:j < (vs.map some).length:=by rw [List.length_map,hl,←la];exact(List.getElem?_eq_some_iff.mp hj).1
        rw [List.getElem?_append_left hj2]
      refine⟨⟨X'.sf,X'.dom,fun a vs h1 h2 hn=>X'.fr a vs h1 h2 fun z=>hn (mK.mp z),X'.lst,fun a o ha hn=>X'.tmp a o ha fun z=>hn (mK.mp z),fun j=>?_,fun a z=>.inl (ow a z)⟩,⟨R'.sm,?_,fun j y hj=>?_,fun j ys hj=>?_,fun j xss hj=>absurd hj (uN j xss),fun j i l f1 f2=>?_⟩,ow⟩
      · constructor
        · rintro⟨ys,hj⟩
          obtain⟨⟨xs,c⟩,_⟩:=u3 j ys (eG.mp hj)
          exact⟨xs,eG.mpr c⟩
        · rintro⟨xs,hj⟩
          obtain⟨ys,c⟩:=u4 j xs (eG.mp hj)
          exact⟨ys,eG.mpr c⟩
      · simp [u1,hl,la]
      · obtain⟨v,c1,c2⟩:=R.dat j y (eG.mpr ((u2 j y).mp (eG.mp hj)))
        exact⟨v,c1,DA.mono X'.sf c2⟩
      · obtain⟨⟨xs,c1⟩,c2⟩:=u3 j ys (eG.mp hj)
        obtain⟨l,us,d1,d2⟩:=R'.own j ys c2
        exact⟨l,us,by rw [←sg j xs c1];exact d1,d2⟩
      · obtain⟨xs,g1,g3⟩:=f1.resolve_right fun⟨xss,_,_,z,_⟩=>uN j xss z
        obtain⟨ys,g2,g4⟩:=f2.resolve_right fun⟨xss,_,_,z,_⟩=>uN i xss z
        obtain⟨⟨zs,c1⟩,c2⟩:=u3 j xs (eG.mp g1)
        obtain⟨⟨ws,c3⟩,c4⟩:=u3 i ys (eG.mp g2)
        exact R'.inj j i xs ys l c2 c4 (by rw [sg j zs c1];exact g3) (by rw [sg i ws c3];exact g4)
    refine⟨F,as.map some++List.replicate k0 none,fl,R.pad,h1,?_⟩
    cases fl with
    | bk e'=>cases hm
    | ct e'=>cases hm
    | nx e'=>
      obtain⟨as2,h2,hm⟩:=Option.map_eq_some_iff.mp hm
      cases hm
      intro F' H' σ' X' R'
      obtain⟨X2,R2,_⟩:=key h2 F' H' σ' X' R'
      exact q F' H' .non X2 R2 ((ic (K:=K) (F:=F')).mpr rfl)
    | rt r0 e'=>
      obtain⟨r1,h2,hm⟩:=Option.bind_eq_some_iff.mp hm
      obtain⟨as2,h3,hm⟩:=Option.map_eq_some_iff.mp hm
      cases hm
      intro F' H' σ' v X' R' A'
      obtain⟨X2,R2,ow2⟩:=key h3 F' H' σ' X' R'
      have noo:∀l,H l=none→¬cD (vs.map some) (as'.map some) H' l:=fun l hl z=>R.ownH l (ow2 l z) hl
      refine q F' H' v X2 R2 ?_
      cases r0 with
      | d y=>cases h2;exact A'
      | l ys=>
        cases h2
        obtain⟨l,us,d0,d1,d2,d3,d4,_⟩:=A'
        exact⟨l,us,d0,d1,d2,d3,d4,noo l d1⟩
      | s i=>
        simp only [vd] at h2
        split at h2
        case isFalse=>cases h2
        case isTrue hi=>
        obtain⟨a1,xs,a2⟩:=A'
        rw [a2] at h2
        cases h2
        obtain⟨l,us,d1,d2,d3,d4⟩:=R'.own i _ a2
        rw [a1] at d1;cases d1
        suffices hl0:H l=none from⟨l,us,rfl,hl0,d2,d3,d4,noo l hl0⟩
        rcases X'.own l ⟨i,.inl ⟨_,a2,a1⟩⟩ with z | z
        · obtain⟨j,zf⟩:=mK.mp z
          obtain⟨ys,z1,z2⟩:=zf.resolve_right fun⟨xss,_,_,z,_⟩=>nN j xss z
          have z1':=eG.mp z1
          obtain⟨u1,u2,u3,u4⟩:=kg h3
          obtain⟨ws,w1⟩:=u4 j ys z1'
          obtain⟨_,w2⟩:=u3 j ws w1
          have hj2:j < vs.length:=by rw [hl,←la];exact(List.getElem?_eq_some_iff.mp z1').1
          have e3:σ'[j]?=some (some (.ref l)):=by
            rw [X'.wr j (nZ nl z1'),List.getElem?_append_left (by simpa using hj2)]
            exact z2
          have:=R'.inj i j _ ws l a2 w2 a1 e3
          lia
        · exact z
end
def Av:Option Sv→Option Sv
  | some (.n _)=>none
  | s=>s
def iR(cp:List (Nat × Str))(nT:Nat)(e:En):En:=cp.map (fun p=>Av (e[p.1]?).join)++List.replicate nT none
def fL(cp:List (Nat × Str))(i:Nat):Option Nat:=cp.findIdx? fun p=>p.1==i
def cN(g:FG)(ft:FT)(fe:FE):List PyData→En→List PyData→Option (List PyData × En)
  | [],e,acc=>some (acc,e)
  | x::r,e,acc=>(g x e).bind fun e1=>(ft e1).bind fun b=>if b.1=true then(fe b.2).bind fun v=>(km v.1).bind fun d=>if acc.length < 1000000 then cN g ft fe r v.2 (acc++[d]) else none else cN g ft fe r b.2 acc
def fJ(cp:List (Nat × Str))(ei e:En):Bool:=cp.all fun p=> !rT e[p.1]? || rT ei[(fL cp p.1).getD 0]?
def dJ(cp:List (Nat × Str))(nT:Nat)(fi:FI)(g:FG)(ft:FT)(fe:FE):FE:=fun e=>(fi e).bind fun p=>if (p.2.1.all fun q=> !(cp.any fun c=>c.1==q.1))=true then(cN g ft fe p.1 (iR cp nT p.2.2) []).bind fun z=>if fJ cp z.2 p.2.2=true then some (.l z.1,h_ (fL cp) z.2 p.2.2) else none else none
section
variable{K:PySem.W.Frag}{F H:Hp}{σ:L2.St}{e:En}{cp:List (Nat × Str)}{nT:Nat}
theorem ce{i k:Nat}(h:fL cp i=some k):∃s,cp[k]?=some (i,s):=by
  unfold fL at h
  rw [List.findIdx?_eq_some_iff_getElem] at h
  obtain⟨hk,h1,_⟩:=h
  refine⟨cp[k].2,?_⟩
  rw [List.getElem?_eq_getElem hk]
  have:=eq_of_beq h1
  rw [←this]
theorem fy{k:Nat}{x:Sv}(h:(iR cp nT e)[k]?=some (some x)):∃i s,cp[k]?=some (i,s)∧e[i]?=some (some x):=by
  unfold iR at h
  have h:=d_ h
  rw [List.getElem?_map] at h
  obtain⟨p,h1,h2⟩:=Option.map_eq_some_iff.mp h
  refine⟨p.1,p.2,h1,?_⟩
  cases q:e[p.1]? with
  | none=>rw [q] at h2;cases h2
  | some y=>
    rw [q] at h2
    match y,h2 with
    | some (.d z),h2=>exact congrArg some h2
    | some (.l z),h2=>exact congrArg some h2
    | some (.n z),h2=>cases h2
    | none,h2=>cases h2
theorem eH:zO (iR cp nT e):=by
  intro k xss h
  unfold iR at h
  have h:=d_ h
  rw [List.getElem?_map] at h
  obtain⟨p,h1,h2⟩:=Option.map_eq_some_iff.mp h
  match (e[p.1]?).join,h2 with
  | some (.d z),h2=>cases h2
  | some (.l z),h2=>cases h2
  | some (.n z),h2=>cases h2
  | none,h2=>cases h2
theorem jo{k i:Nat}{s:Str}{v:V}(h:cp[k]?=some (i,s))(hv:σ[i]?=some (some v)):(c9 cp nT σ)[k]?=some (some v):=by
  unfold c9
  refine eh ?_
  rw [List.getElem?_map,h]
  simp [hv]
theorem hZ{k i:Nat}{s:Str}{v:V}(h:cp[k]?=some (i,s))(hv:(c9 cp nT σ)[k]?=some (some v)):σ[i]?=some (some v):=by
  unfold c9 at hv
  have hv:=d_ hv
  rw [List.getElem?_map,h] at hv
  simp only [Option.map_some,Option.some.injEq] at hv
  cases q:σ[i]? with
  | none=>rw [q] at hv;cases hv
  | some y=>rw [q] at hv;exact congrArg some hv
theorem mm:∀{cp:List (Nat × Str)} {k j i:Nat} {s t:Str},(cp.map (·.1)).Nodup→cp[k]?=some (i,s)→cp[j]?=some (i,t)→k=j
  | [],k,j,i,s,t,_,h,_=>by simp at h
  | p::r,k,j,i,s,t,hn,h1,h2=>by
    simp only [List.map_cons,List.nodup_cons] at hn
    cases k with
    | zero=>
      simp at h1;subst h1
      cases j with
      | zero=>rfl
      | succ j=>
        have hm:(i,t)∈r:=List.mem_of_getElem? (i:=j) (by simpa using h2)
        exact absurd (List.mem_map.mpr ⟨(i,t),hm,rfl⟩) hn.1
    | succ k=>
      cases j with
      | zero=>
        simp at h2;subst h2
        have hm:(i,s)∈r:=List.mem_of_getElem? (i:=k) (by simpa using h1)
        exact absurd (List.mem_map.mpr ⟨(i,s),hm,rfl⟩) hn.1
      | succ j=>
        have:=mm (cp:=r) (k:=k) (j:=j) hn.2 (by simpa using h1) (by simpa using h2)
        lia
theorem a7.inn(R:a7 K F H σ e)(hn:(cp.map (·.1)).Nodup):a7 K F H (c9 cp nT σ) (iR cp nT e)∧m4 σ e (c9 cp nT σ) (iR cp nT e) (fL cp):=by
  refine⟨⟨R.sm,by simp [c9,iR],fun k x h=>?_,fun k xs h=>?_,fun k xss h=>absurd h (eH k xss),fun k j l f1 f2=>?_⟩,⟨fun i k xs h1 h2=>?_,fun k ys h=>?_⟩⟩
  · obtain⟨i,s,h1,h2⟩:=fy h
    obtain⟨v,g1,g2⟩:=R.dat i x h2
    exact⟨v,jo h1 g1,g2⟩
  · obtain⟨i,s,h1,h2⟩:=fy h
    obtain⟨l,vs,g1,g2⟩:=R.own i xs h2
    exact⟨l,vs,jo h1 g1,g2⟩
  · obtain⟨xs,h1,h3⟩:=f1.resolve_right fun⟨xss,_,_,z,_⟩=>eH k xss z
    obtain⟨ys,h2,h4⟩:=f2.resolve_right fun⟨xss,_,_,z,_⟩=>eH j xss z
    obtain⟨i,s,a1,a2⟩:=fy h1
    obtain⟨i',s',b1,b2⟩:=fy h2
    have:i=i':=R.inj i i' xs ys l a2 b2 (hZ a1 h3) (hZ b1 h4)
    subst this
    exact mm hn a1 b1
  · obtain⟨s,g⟩:=ce h2
    obtain⟨l,vs,g1,_⟩:=R.own i xs h1
    rw [g1];exact jo g g1
  · obtain⟨i,s,h1,h2⟩:=fy h
    obtain⟨l,vs,g1,_⟩:=R.own i ys h2
    refine⟨i,ys,h2,?_,by rw [g1];exact jo h1 g1⟩
    cases hp:fL cp i with
    | none=>
      unfold fL at hp
      rw [List.findIdx?_eq_none_iff] at hp
      have:=hp _ (List.mem_of_getElem? h1)
      simp at this
    | some j=>
      obtain⟨t,g⟩:=ce hp
      rw [mm hn g h1]
theorem a7.putT(R:a7 K F H σ e){l:Addr}{ws:List V}(h1:F l=none)(h2:¬cD σ e H l):a7 K F (aX H l (.lst ws)) σ e∧∀a,cD σ e (aX H l (.lst ws)) a↔ cD σ e H a:=
  R.keep (av.refl F) (fun b o q=>by
    have z:b≠l:=fun z=>by rw [z,h1] at q;cases q
    rw [aJ z];exact R.sm b o q) (fun a ⟨i,h⟩=>(R.fpAt h).1) fun a o ha q=>by
      have z:a≠l:=fun z=>h2 (by rw [←z];exact ha)
      rw [aJ z];exact q
theorem cP.putT{W:List Nat}{σ':L2.St}{F' H':Hp}{e':En}(x:cP W σ F H e σ' F' H' e'){l:Addr}{o:HO}(h:H l=none)(ho:∀a,cD σ' e' (aX H' l o) a↔ cD σ' e' H' a):cP W σ F H e σ' F' (aX H' l o) e':=by
  refine⟨x.sf,fun a q=>?_,x.fr,fun a vs q=>?_,fun a u q n=>?_,fun a q=>x.own a ((ho a).mp q),x.wr⟩
  · by_cases z:a=l
    · rw [z];exact h
    · rw [aJ z] at q;exact x.dom a q
  · have z:a≠l:=fun z=>by rw [z,h] at q;cases q
    rw [aJ z];exact x.lst a vs q
  · have z:a≠l:=fun z=>by rw [z,h] at q;cases q
    rw [aJ z];exact x.tmp a u q n
inductive CI (K:PySem.W.Frag) (W:List Nat) (σ0:L2.St) (F1 H1:Hp) (e0:En) (l:Addr) (P:Hp→En→List PyData→Prop) (σ':L2.St) (H':Hp):Prop
  | mk {F':Hp} {ei:En} {acc:List PyData} {vs:List V} (R:a7 K F' H' σ' ei) (X:cP W σ0 F1 H1 e0 σ' F' H' ei) (fl:F' l=none) (no:¬cD σ' ei H' l) (hl:H' l=some (.lst vs)) (da:ax K F' acc vs) (hc:P F' ei acc):CI K W σ0 F1 H1 e0 l P σ' H'
theorem oI{Q:VK}{fi:FI}{g:FG}{W:List Nat}{ft:FT}{fe:FE}(hn:(cp.map (·.1)).Nodup)(hW:∀j∈W,cp.length≤j)(h:fE K (dJ cp nT fi g ft fe) σ H Q):oC cp nT (fI K fi) (fG K g W) (fT K ft) (fE K fe) σ H Q:=by
  obtain⟨F0,e0,z,e',R0,hf,q⟩:=h
  unfold dJ at hf
  obtain⟨⟨items,own,e1⟩,h1,hf⟩:=Option.bind_eq_some_iff.mp hf
  dsimp only at hf
  split at hf
  case isFalse=>cases hf
  case isTrue hO=>
  obtain⟨⟨out,eo⟩,h2,hf⟩:=Option.bind_eq_some_iff.mp hf
  dsimp only at hf
  split at hf
  case isFalse=>cases hf
  case isTrue hB=>
  cases hf
  refine⟨⟨F0,e0,items,own,e1,R0,h1,fun J F1 H1 X1 R1 kp ok=>?_⟩⟩
  intro l hl
  obtain⟨Ri,sub⟩:=R1.inn (nT:=nT) hn
  have hFl:F1 l=none:=R1.freeF hl
  let Iv:Nat→L2.St→Hp→Prop:=fun i=>CI K W (c9 cp nT σ) F1 H1 (iR cp nT e1) l fun _ ei acc=>cN g ft fe (items.drop i) ei acc=some (out,eo)
  have notown:∀p∈own,∀a,σ[p.1]?=some (some (.ref a))→¬cD (c9 cp nT σ) (iR cp nT e1) H1 a:=by
    rintro p hp a ha ⟨k,zf⟩
    obtain⟨xs,c1,c2⟩:=zf.resolve_right fun⟨xss,_,_,z,_⟩=>eH k xss z
    obtain⟨i,s,d1,d2⟩:=fy c1
    have e2:=hZ d1 c2
    have:p.1=i:=R1.inj p.1 i p.2 xs a (kp p hp) d2 ha e2
    have hh:=List.all_eq_true.mp hO p hp
    simp only [Bool.not_eq_true',List.any_eq_false,beq_iff_eq] at hh
    exact hh (i,s) (List.mem_of_getElem? d1) this.symm
  refine⟨fun i m σ' H'=>m=items.length - i∧i≤items.length∧Iv i σ' H',⟨items.length,by simp,Nat.zero_le _,.mk (Ri.putT hFl (fun z=>(Ri.ownH l z) hl)).1 (cP.refl.putT hl (Ri.putT hFl (fun z=>(Ri.ownH l z) hl)).2) hFl (fun z=>(Ri.ownH l (((Ri.putT hFl (fun z=>(Ri.ownH l z) hl)).2 l).mp z)) hl) aq ax.nil h2⟩,?_⟩
  rintro i m σ' H' ⟨rfl,hi,⟨R',X',fl,no,hl',da,hc⟩⟩
  rename_i F' ei acc vs
  have held:oQ K σ F' H' own:=fun p hp=>by
    obtain⟨a,us,c1,c2,c3,c4⟩:=R1.own p.1 p.2 (kp p hp)
    exact⟨a,us,c1,X'.tmp a _ c3 (notown p hp a c1),c4.mono X'.sf⟩
  obtain⟨go,stop,yld⟩:=ok F' H' X'.sf R'.sm held
  by_cases hlt:i < items.length
  · have hd:items.drop i=items[i]::items.drop (i+1):=List.drop_eq_getElem_cons hlt
    rw [hd] at hc
    unfold cN at hc
    obtain⟨e2,c2,hc⟩:=Option.bind_eq_some_iff.mp hc
    obtain⟨⟨b,e3⟩,c3,hc⟩:=Option.bind_eq_some_iff.mp hc
    refine .inr ⟨go i hlt,Iv (i+1),fun σ2 H2 r=>⟨items.length - (i+1),by lia,rfl,hlt,r⟩,fun x H2 hy=>?_⟩
    obtain⟨F2,sH,sF2,sm2,fz,hx⟩:=yld i items[i] x H2 (List.getElem?_eq_getElem hlt) hy
    obtain⟨R2,X2⟩:=R'.step sH sF2 sm2 fz
    refine⟨F2,ei,items[i],e2,R2,hx,c2,fun σ3 X3 R3=>⟨F2,e2,b,e3,R3,c3,fun F4 H4 X4 R4=>?_⟩⟩
    have hlH2:H2 l=some (.lst vs):=sH _ _ hl'
    have no2:¬cD σ' ei H2 l:=fun z=>by
      rcases X2.ow l z with z | z
      · exact no z
      · rw [hl'] at z;cases z
    have no3:¬cD σ3 e2 H2 l:=fun z=>by
      rcases X3.own l z with z | z
      · exact no2 z
      · rw [hlH2] at z;cases z
    have fl2:F2 l=none:=fz l fl (by rw [hl'];simp)
    have hlH4:H4 l=some (.lst vs):=X4.tmp l _ hlH2 no3
    have fl4:F4 l=none:=X4.fr l vs fl2 hlH2 no3
    have no4:¬cD σ3 e3 H4 l:=fun z=>by
      rcases X4.ow l z with z | z
      · exact no3 z
      · rw [hlH2] at z;cases z
    have E4:cP W (c9 cp nT σ) F1 H1 (iR cp nT e1) σ3 F4 H4 e3:=((X'.trans X2.s).trans X3).trans X4.s
    cases b with
    | false=>
      rw [if_neg (by simp)] at hc
      exact sX (.mk R4 E4 fl4 no4 hlH4 (da.mono (sF2.trans X4.sf)) hc)
    | true=>
      rw [if_pos rfl] at hc
      obtain⟨⟨r,e5⟩,c5,hc⟩:=Option.bind_eq_some_iff.mp hc
      obtain⟨d,c6,hc⟩:=Option.bind_eq_some_iff.mp hc
      split at hc
      case isFalse=>cases hc
      case isTrue hlen=>
      refine sY ⟨F4,e3,r,e5,R4,c5,fun F5 H5 v X5 R5 A5=>?_⟩
      have hlH5:H5 l=some (.lst vs):=X5.tmp l _ hlH4 no4
      have fl5:F5 l=none:=X5.fr l vs fl4 hlH4 no4
      have no5:¬cD σ3 e5 H5 l:=fun z=>by
        rcases X5.ow l z with z | z
        · exact no4 z
        · rw [hlH4] at z;cases z
      obtain⟨F6,R6,s6,d6,f6⟩:=cS.frozen R5 (rs:=[r]) (vs:=[v]) ⟨v,[],rfl,A5,rfl⟩ (ie c6)
      have fl6:F6 l=none:=f6 l fl5 (by rw [hlH4];simp)
      have X6:=X5.frz s6 f6
      have ll:=da.len
      have sl:sizeLine=16777216:=sizeLine_eq
      have dv:DA K F6 d v:=by
        simp only [ax] at d6
        obtain⟨v',r',e',hv,_⟩:=d6
        cases e';exact hv
      obtain⟨R7,o7⟩:=R6.putT (ws:=vs++[v]) fl6 no5
      exact⟨vs,hlH5,by lia,.mk R7 ((E4.trans X6.s).putT hl o7) fl6 (fun z=>no5 ((o7 l).mp z)) aq ((da.mono (sF2.trans (X4.sf.trans (X5.sf.trans s6)))).append (ax.one dv)) hc⟩
  · have hd:items.drop i=[]:=List.drop_eq_nil_of_le (by lia)
    rw [hd] at hc
    cases hc
    refine .inl ⟨stop i (by lia),?_⟩
    obtain⟨R9,X9,o9⟩:=jq R1 sub eH X'.sf X'.dom X'.fr X'.lst X'.tmp R' (fun i k xs g1 g2=>X'.wr k fun z=>by
      obtain⟨s,g⟩:=ce g2
      have:=(List.getElem?_eq_some_iff.mp g).1
      have:=hW k z
      lia) fun i k xs g1 g2=>by
        obtain⟨s,g⟩:=ce g2
        unfold fJ at hB
        have hb:=List.all_eq_true.mp hB _ (List.mem_of_getElem? g)
        simp only [g1,g2,Option.getD_some,rT,Bool.not_true,Bool.false_or] at hb
        exact mC.mp hb
    exact q F' H' (.ref l) (X1.trans X9) R9 ⟨l,vs,rfl,X1.dom l hl,fl,hl',da,fun z=>R1.ownH l (o9 l z) hl⟩
end
end L2
namespace L2
open PySem PySem.Spec PyProof.Rows
section
variable{X:Cx}{K:PySem.W.Frag}{a b:Expr}{es:List Expr}{fa fb:FE}{fs:FA}{pos p p2 p3:Pos}{lo hi:Option Expr}
def i8:En→Rv→Option Rv:=fun _ x=>(bL x).map fun i=>.d (.int (-i))
theorem AD:xN K (rU fun i=>.int (-i)) i8:=by
  intro σ H0 F H e x z v Q R A hg q
  obtain⟨i,h5,h4⟩:=Option.map_eq_some_iff.mp hg
  cases h4
  exact⟨i,bM A h5,q F H _ (dP.refl _ _ _ _) R hE⟩
theorem j5(ha:PE X a (fE K fa)):PE X (.UnaryOp .USub a pos) (fE K (js i8 fa)):=AZ zH AD ha
theorem aF(hK:X.K=K)(ha:PE X a (fE K fa))(hb:PE X b (fE K fb)):PE X (.BinOp a .Add b pos) (fE K (ar aK fa fb)):=lS (hK ▸ vI) z5 ha hb
theorem lR(ha:PE X a (fE K fa))(hb:PE X b (fE K fb)):PE X (.BinOp a .Sub b pos) (fE K (ar eT fa fb)):=lS yM Bj ha hb
theorem lQ(hK:X.K=K)(ha:PE X a (fE K fa))(hb:PE X b (fE K fb)):PE X (.BinOp a .Mult b pos) (fE K (ar jB fa fb)):=lS (hK ▸ vM) AA ha hb
theorem jL(ha:PE X a (fE K fa))(hb:PE X b (fE K fb)):PE X (.BinOp a .FloorDiv b pos) (fE K (ar fQ fa fb)):=lS tL xU ha hb
theorem bx(ha:PE X a (fE K fa))(hb:PE X b (fE K fb)):PE X (.BinOp a .Mod b pos) (fE K (ar aZ fa fb)):=lS vL Az ha hb
theorem ua(ha:PE X a (fE K fa))(hb:PE X b (fE K fb)):PE X (.BinOp a .Pow b pos) (fE K (ar my fa fb)):=lS yK AS ha hb
theorem bh(hK:X.K=K)(ha:PE X a (fE K fa))(hb:PE X b (fE K fb))(hs:l0 b):PE X (.Subscript a b pos) (fE K (ar cO fa fb)):=AW (hK ▸ Ce) Cf ha hb hs
theorem bE{fl fh:FO}(hK:X.K=K)(he:PE X a (fE K fa))(hl:PO X lo (fO K fl))(hh:PO X hi (fO K fh)):PE X (.Subscript a (.Slice lo hi none p2) pos) (fE K (j_ fa fl fh)):=by subst hK;exact ug he hl hh
structure iS (X:Cx) (K:PySem.W.Frag) (op:CmpOp) (g:En→Rv→Rv→Option Rv):Prop where
  ex:∃r,fg X (compareOp op) r∧fm K r g
theorem r_:iS X K .Lt uM:=⟨_,AJ,Cj⟩
theorem xQ:iS X K .LtE zN:=⟨_,AI,Ci⟩
theorem B6:iS X K .Gt Aj:=⟨_,AH,Ca⟩
theorem uZ:iS X K .GtE xm:=⟨_,AG,B'⟩
theorem md{k:Nat}(hK:X.K=K)(hr:bX k X.A):iS X K .Eq (cv false):=⟨_,hK ▸ yA hr,w_⟩
theorem sd{k:Nat}(hK:X.K=K)(hr:bX k X.A):iS X K .NotEq (cv true):=⟨_,hK ▸ yI hr,w_⟩
theorem Ad{k:Nat}(hK:X.K=K)(hr:bX k X.A):iS X K .In (sG false):=⟨_,hK ▸ yD hr,Cc⟩
theorem xP:iS X K .Is xW:=⟨_,yE,Cd⟩
theorem iA{op:CmpOp}{g:En→Rv→Rv→Option Rv}(h:iS X K op g)(ha:PE X a (fE K fa))(hb:PE X b (fE K fb))(hm:behindInMarks op b=false):PE X (.Compare a [op] [b] pos) (fE K (ar g fa fb)):=by
  obtain⟨r,h1,h2⟩:=h.ex;exact zc h1 h2 ha hb hm
theorem bu{op:CmpOp}{g:En→Rv→Rv→Option Rv}(h:iS X K op g)(ha:PE X a (fE K fa))(hb:PE X b (fE K fb))(hm:behindInMarks op b=false):PT X (.Compare a [op] [b] pos) (fT K (aG (ar g fa fb))):=by
  obtain⟨r,h1,h2⟩:=h.ex;exact zg h1 h2 ha hb hm
theorem wn{op op':CmpOp}{g g':En→Rv→Rv→Option Rv}{c:Expr}{fc:FE}(h:iS X K op g)(h':iS X K op' g')(ha:PE X a (fE K fa))(hb:PE X b (fE K fb))(hc:PE X c (fE K fc))(hm:lastMarks [op,op'] [b,c]=false):PE X (.Compare a [op,op'] [b,c] pos) (fE K (ia g g' fa fb fc)):=by
  obtain⟨r,h1,h2⟩:=h.ex;obtain⟨r',h3,h4⟩:=h'.ex;exact ud h1 h2 h3 h4 ha hb hc hm
structure jt (X:Cx) (K:PySem.W.Frag) (x:Str) (g:En→List Rv→Option Rv):Prop where
  ex:(∃id r,cQ X (.builtin id) r∧dn K r g∧bootBuiltins x=some (.builtin id))∨∃T r,cQ X (.type T) r∧dn K r g∧bootBuiltins x=some (.type T)
theorem aO{x:Str}{g:En→List Rv→Option Rv}(h:jt X K x g)(hg:Gl X x)(hm:X.mg x=none)(ha:PA X (a::es) (fA K fs))(hn:x≠"__name__")(hdb:(x==("__debug__":Str))=false)
    (he:starEach (a::es) X.env=(false,eval a X.env)::starEach es X.env)(hpl:(backTo pos (starEach es X.env)).any (·.1)=false):PE X (.Call (.Name x p) (a::es) [] pos) (fE K (ay g fs)):=by
  rcases h.ex with ⟨id,r,h1,h2,h3⟩ | ⟨T,r,h1,h2,h3⟩
  · exact uc h1 h2 hg hm h3 ha hn hdb he hpl
  · exact rA h1 h2 hg hm h3 ha hn hdb he hpl
theorem b_len(hK:X.K=K):jt X K "len" (g1 eu):=⟨.inl ⟨_,_,hK ▸ me,Au,PySem.boot_len⟩⟩
theorem b_abs:jt X K "abs" (g1 qV):=⟨.inl ⟨_,_,se,z0,PyProof.Rows.boot_abs⟩⟩
theorem b_min(hc:X.calm=true):jt X K "min" (g2 mx):=⟨.inl ⟨_,_,qQ hc,Ay,PyProof.Rows.boot_min⟩⟩
theorem b_max(hc:X.calm=true):jt X K "max" (g2 qX):=⟨.inl ⟨_,_,qP hc,Ax,PyProof.Rows.boot_max⟩⟩
theorem b_int:jt X K "int" (g1 vh):=⟨.inr ⟨_,_,qN,An,PyProof.Rows.boot_int⟩⟩
theorem b_tuple(hK:X.K=K):jt X K "tuple" (g1 dW):=⟨.inr ⟨_,_,hK ▸ lg,wF,PyProof.Rows.boot_tuple⟩⟩
theorem b_list(hK:X.K=K):jt X K "list" (g1 gP):=⟨.inr ⟨_,_,hK ▸ mf,yi,PyProof.Rows.boot_list⟩⟩
theorem b_sum{k:Nat}(hK:X.K=K)(hr:bX k X.A):jt X K "sum" (g1 (fw xr)):=⟨.inl ⟨_,_,hK ▸ m6 hr,Bk,PyProof.Rows.boot_sum⟩⟩
theorem b_all{k:Nat}(hK:X.K=K)(hr:bX k X.A):jt X K "all" (g1 (fw nz)):=⟨.inl ⟨_,_,si hr hK,z7,r8⟩⟩
theorem b_any{k:Nat}(hK:X.K=K)(hr:bX k X.A):jt X K "any" (g1 (fw nA)):=⟨.inl ⟨_,_,sj hr hK,z8,r9⟩⟩
def iq(fs:FA):FE:=fun e=>(fs e).bind fun p=>match p.1 with
  | [r]=>(bL r).bind fun j=>if 0≤j∧j≤100000 then some (.l ((cK j.toNat).map .int),p.2) else none
  | _=>none
theorem j4(hc:X.calm=true)(hgl:Gl X "list")(hml:X.mg "list"=none)(hg:Gl X "range")(hm:X.mg "range"=none)(ha:PA X [a] (fA K fs))(hs:starEach [a] X.env=[(false,eval a X.env)])
    (he:starEach [.Call (.Name "range" p2) [a] [] p3] X.env=[(false,eval (.Call (.Name "range" p2) [a] [] p3) X.env)]):PE X (.Call (.Name "list" p) [.Call (.Name "range" p2) [a] [] p3] [] pos) (fE K (iq fs)):=(mL hc hgl hml hg hm ha hs he).mono fun σ H Q h=>by
  obtain⟨F,e,z,e',R,hf,q⟩:=h
  unfold iq at hf
  obtain⟨⟨rs,e1⟩,h1,hf⟩:=Option.bind_eq_some_iff.mp hf
  match rs,h1,hf with
  | [r],h1,hf=>
  obtain⟨j,h2,hf⟩:=Option.bind_eq_some_iff.mp hf
  split at hf
  case isFalse=>cases hf
  case isTrue hj=>
  cases hf
  refine⟨F,e,_,e1,R,h1,fun F1 H1 vs X1 R1 A1=>?_⟩
  obtain⟨v,rfl,A2⟩:=ke A1
  refine⟨j,by rw [bM A2 h2],hj.1,hj.2,fun t ht=>?_⟩
  obtain⟨R3,X3,hF,no⟩:=R1.newL (vs:=(cK j.toNat).map V.int) ht
  exact q _ _ _ (X1.trans X3) R3 ⟨t,_,rfl,X1.dom _ ht,hF,aq,ax.ints.mpr rfl,no⟩
abbrev bI:FT:=fun e=>some (true,e)
theorem mZ.mono{ifs:List Expr}{t t':TT}(h:mZ X ifs t)(m:∀σ H Q,t' σ H Q→t σ H Q):mZ X ifs t':=fun pins s σ H Q I q=>h pins s σ H Q I (m σ H Q q)
theorem eJ:mZ X [] (fT K bI):=wg.mono fun σ H Q h=>by
  obtain⟨F,e,b,e',R,hf,q⟩:=h
  cases hf
  exact q F H (dP.refl _ _ _ _) R
theorem mQ{c:Expr}{ft:FT}(h:PT X c (fT K ft)):mZ X [c] (fT K ft):=wj h
theorem g_{elt iter tg:Expr}{ifs:List Expr}{scope:Scope}{fi:FI}{g:FG}{ft:FT}{fe:FE}{W:List Nat}(sc0:Scope)(N0:List Str)(cp:List (Nat × Str))(tgN:List Str)
    (hc:X.calm=true)(hsc:X.env.scope=sc0)(hN0:X.N=N0)(hi:PI X tg iter (fI K fi))
    (hg:∀C s0 H0 fp,PG (ao X scope cp tgN C s0 H0 fp) tg (fG K g W))
    (ht:∀C s0 H0 fp,mZ (ao X scope cp tgN C s0 H0 fp) ifs (fT K ft))
    (he:∀C s0 H0 fp,PE (ao X scope cp tgN C s0 H0 fp) elt (fE K fe))
    (hk:scope.kind=.function)(hcell:∀y∈scope.names,y.2≠.cell)(hnames:∀y∈scope.names,y.2=.local→scope.names.lookup y.1=some .local)
    (hfr:∀y∈scope.names,y.2=.free→scope.names.lookup y.1=some .free∧sc0.names.lookup y.1=some .cell)
    (hcp:∀p∈cp,N0[p.1]?=some p.2)(hcq:∀p∈cp,sc0.names.lookup p.2=some .cell∧scope.names.lookup p.2=some .free)(hnd:(cp.map (·.1)).Nodup)(hW:∀j∈W,cp.length≤j)
    (hs:∀x,foldedSetIterable iter X.env x=pure x):
    PE X (.ListComp elt [⟨tg,iter,ifs,0⟩] scope pos) (fE K (dJ cp tgN.length fi g ft fe)):=(qp sc0 N0 cp tgN hc hsc hN0 hi hg ht he hk hcell hnames hfr hcp hcq hs).mono fun _ _ _ h=>oI hnd hW h
theorem rq{ix:Nat}{nm:Str}{posn poss:Pos}{elt iter tg:Expr}{ifs:List Expr}{scope:Scope}{fi:FI}{g:FG}{ft:FT}{fe:FE}{W:List Nat}(sc0:Scope)(N0:List Str)(cp:List (Nat × Str))(tgN:List Str)
    (hc:X.calm=true)(hsc:X.env.scope=sc0)(hN0:X.N=N0)(hi:PI X tg iter (fI K fi))
    (hg:∀C s0 H0 fp,PG (ao X scope cp tgN C s0 H0 fp) tg (fG K g W))
    (ht:∀C s0 H0 fp,mZ (ao X scope cp tgN C s0 H0 fp) ifs (fT K ft))
    (he:∀C s0 H0 fp,PE (ao X scope cp tgN C s0 H0 fp) elt (fE K fe))
    (hk:scope.kind=.function)(hcell:∀y∈scope.names,y.2≠.cell)(hnames:∀y∈scope.names,y.2=.local→scope.names.lookup y.1=some .local)
    (hfr:∀y∈scope.names,y.2=.free→scope.names.lookup y.1=some .free∧sc0.names.lookup y.1=some .cell)
    (hcp:∀p∈cp,N0[p.1]?=some p.2)(hcq:∀p∈cp,sc0.names.lookup p.2=some .cell∧scope.names.lookup p.2=some .free)(hnd:(cp.map (·.1)).Nodup)(hW:∀j∈W,cp.length≤j)
    (hNd:X.N.Nodup)(hix:X.N[ix]?=some nm)(hlc:X.env.scope.names.lookup nm=some .local)(hsw:swapsWith (.ListComp elt [⟨tg,iter,ifs,0⟩] scope pos) (some (.Name nm posn)) poss.line X.env=pure true)
    (hs:∀x,foldedSetIterable iter X.env x=pure x):
    PS X (.Assign [.Name nm posn] (.ListComp elt [⟨tg,iter,ifs,0⟩] scope pos) poss) (fS K (ba ix (dJ cp tgN.length fi g ft fe)) [ix]):=(pv sc0 N0 cp tgN hc hsc hN0 hi hg ht he hk hcell hnames hfr hcp hcq hNd hix hlc hsw hs).mono fun D σ H h=>by
  obtain⟨F,e,fl,R,hf,q⟩:=h
  unfold ba at hf
  obtain⟨⟨r,e1⟩,h1,hf⟩:=Option.bind_eq_some_iff.mp hf
  obtain⟨e2,h2,hf⟩:=Option.map_eq_some_iff.mp hf
  cases hf
  refine oI hnd hW ⟨F,e,r,e1,R,h1,fun F1 H1 v X1 R1 A1=>?_⟩
  obtain⟨x,R2⟩:=pw R X1 R1 A1 h2
  exact q F1 H1 _ x R2
variable{o:Expr}{fo:FE}{apos cpos:Pos}
theorem b5(hK:X.K=K)(ho:PE X o (fE K fo))(ha:PA X (a::es) (fA K fs))(hbase:attributeBase o "append" X.env (eval o X.env)=eval o X.env)
    (hfew:((backTo cpos (starEach (a::es) X.env)).all (fun x=> !x.1)&&(backToKw cpos (keywordEach [] X.env)).all (fun x=>x.1.isSome)
      &&decide ((a::es).length+([]:List Keyword).length+(if ([]:List Keyword).isEmpty then 0 else 1) < 30))=true)
    (hline:(apos.endLine==cpos.line)=true)(hs:starEach (a::es) X.env=(false,eval a X.env)::starEach es X.env)(hplain:(backTo cpos (starEach es X.env)).any (·.1)=false):
    PE X (.Call (.Attribute o "append" apos) (a::es) [] cpos) (fE K (b_ be fo fs)):=by
  subst hK;exact xD PySem.F.slot_list_append PySem.F.type_list_append il rW ho ha hbase hfew hline hs hplain
theorem mN(hK:X.K=K)(ho:PE X o (fE K fo))(ha:PA X (a::es) (fA K fs))(hbase:attributeBase o "pop" X.env (eval o X.env)=eval o X.env)
    (hfew:((backTo cpos (starEach (a::es) X.env)).all (fun x=> !x.1)&&(backToKw cpos (keywordEach [] X.env)).all (fun x=>x.1.isSome)
      &&decide ((a::es).length+([]:List Keyword).length+(if ([]:List Keyword).isEmpty then 0 else 1) < 30))=true)
    (hline:(apos.endLine==cpos.line)=true)(hs:starEach (a::es) X.env=(false,eval a X.env)::starEach es X.env)(hplain:(backTo cpos (starEach es X.env)).any (·.1)=false):
    PE X (.Call (.Attribute o "pop" apos) (a::es) [] cpos) (fE K (b_ gU fo fs)):=by
  subst hK;exact xD PySem.F.slot_list_pop PySem.F.type_list_pop tu v_ ho ha hbase hfew hline hs hplain
end
end L2
namespace L2
open PySem PySem.Spec PyProof.Rows
theorem pG{K:PySem.W.Frag}{H:Hp}{a:Addr}{ns:List Int}{m:FM}{as':List Sv}{Q:VK}{E:XK}(hS:em K H a (ns.map V.int))(hm:m [.d (.list (ns.map .int))]=some (.d (.bool true),as'))(q:∀H',Q (.bl true) H'):dI K 1 m [.ref a] H Q E:=by
  refine⟨rfl,H,[.d (.list (ns.map .int))],_,as',?_,?_,hm,trivial,fun F' H' v X' R' A'=>?_⟩
  · refine⟨av.refl _,rfl,fun i x h=>?_,fun i xs h=>?_,fun i xss h=>?_,fun i j l f1 _=>?_⟩
    · match i,h with
      | 0,h=>
        simp at h;subst h
        exact⟨.ref a,rfl,et.mpr ⟨a,_,rfl,hS,ax.ints.mpr rfl⟩⟩
      | i+1,h=>simp at h
    · match i,h with
      | 0,h=>simp at h
      | i+1,h=>simp at h
    · match i,h with
      | 0,h=>simp at h
      | i+1,h=>simp at h
    · rcases f1 with ⟨_,h,_⟩ | ⟨_,_,_,h,_⟩
      · match i,h with
        | 0,h=>simp at h
        | i+1,h=>simp at h
      · match i,h with
        | 0,h=>simp at h
        | i+1,h=>simp at h
  · intro i xss h
    match i,h with
    | 0,h=>simp at h
    | i+1,h=>simp at h
  · rw [cG.mp (show DA K F' (.bool true) v from A')];exact q H'
end L2
namespace L2
open PySem PySem.Spec PyProof.Rows
section
variable{K:PySem.W.Frag}{σ:L2.St}{H0 F H F' H':Hp}{e e':En}
end
section
variable{X:Cx}{K:PySem.W.Frag}{a b:Expr}{es:List Expr}{fa fb:FE}{fs:FA}{pos p p2 p3 pos':Pos}{x:Str}{i:Nat}
def nC(k:Int):En→Option Int:=fun _=>some k
end
end L2
namespace L2
open PySem PySem.Spec PyProof.Rows
theorem jA{C:Int→Int→Bool}{f:Int→Int→PyData}{e:En}{i j:Int}(h:C i j=true):gI C f e (.d (.int i)) (.d (.int j))=some (.d (f i j)):=by simp [gI,bL,h]
theorem a8{e:En}{i j:Int}:aK e (.d (.int i)) (.d (.int j))=some (.d (.int (i+j))):=rfl
theorem kr{e:En}{i j:Int}:eT e (.d (.int i)) (.d (.int j))=some (.d (.int (i - j))):=rfl
theorem nH{e:En}{i j:Int}(h:jG i j=true):jB e (.d (.int i)) (.d (.int j))=some (.d (.int (i*j))):=by
  unfold jB sN nG;rw [jA h];rfl
theorem tw{i j:Int}(h1: -(2 ^ 64) < i)(h2:i < 2 ^ 64):jG i j=true:=by
  have:gu i=true:=by unfold gu;rw [decide_eq_true h1,decide_eq_true h2];rfl
  unfold jG;rw [this];simp
theorem pe{i j:Int}(h1: -(2 ^ 64) < j)(h2:j < 2 ^ 64):jG i j=true:=by
  have:gu j=true:=by unfold gu;rw [decide_eq_true h1,decide_eq_true h2];rfl
  unfold jG;rw [this];simp
theorem az{e:En}{i j:Int}(h:0 < j):aZ e (.d (.int i)) (.d (.int j))=some (.d (.int (i % j))):=by
  unfold aZ;rw [jA (by simp;lia)]
  rw [Int.fmod_eq_emod_of_nonneg i (by lia)]
theorem ig{e:En}{i j:Int}(h:0 < j)(h2:Bt 8000 j):fQ e (.d (.int i)) (.d (.int j))=some (.d (.int (i / j))):=by
  unfold fQ;rw [jA (by simp [iV.mpr h2];lia)]
  rw [Int.fdiv_eq_ediv_of_nonneg i (by lia)]
theorem eF{e:En}{i j:Int}{neg:Bool}:cv neg e (.d (.int i)) (.d (.int j))=some (.d (.bool (if neg then !(i==j) else i==j))):=by
  unfold cv;simp [i4,SeqAt.shaped,PyData.canLay0,PyData.depth,PyData.eqv]
theorem qd{e:En}{i j:Int}:uM e (.d (.int i)) (.d (.int j))=some (.d (.bool (decide (i < j)))):=rfl
theorem qb{e:En}{i j:Int}:zN e (.d (.int i)) (.d (.int j))=some (.d (.bool (decide (i≤j)))):=rfl
theorem p9{e:En}{i j:Int}:Aj e (.d (.int i)) (.d (.int j))=some (.d (.bool (decide (j < i)))):=rfl
theorem p8{e:En}{i j:Int}:xm e (.d (.int i)) (.d (.int j))=some (.d (.bool (decide (j≤i)))):=rfl
theorem nF{e:En}{i j:Int}:g2 mx e [.d (.int i),.d (.int j)]=some (.d (.int (min i j))):=by
  show some (Rv.d (.int (if j < i then j else i)))=_
  congr 3
  split<;>lia
theorem nE{e:En}{i j:Int}:g2 qX e [.d (.int i),.d (.int j)]=some (.d (.int (max i j))):=by
  show some (Rv.d (.int (if j > i then j else i)))=_
  congr 3
  split<;>lia
theorem nI{e:En}{i:Int}:i8 e (.d (.int i))=some (.d (.int (-i))):=rfl
theorem lJ{e:En}{b:Bool}:g1 vh e [.d (.bool b)]=some (.d (.int (if b then 1 else 0))):=rfl
theorem ny{e:En}{i:Int}:g1 qV e [.d (.int i)]=some (.d (.int i.natAbs)):=by
  show some (Rv.d (.int (if i < 0 then -i else i)))=_
  congr 3
  split<;>lia
theorem ma{j:Int}(h1:0 < j)(h2:j < 2 ^ 64):Bt 8000 j:=Bt.mono (m:=64) (by unfold Bt;lia) (by decide)
theorem gG{α:Type}{xs:List α}{i:Int}(h0:0≤i)(h:i < xs.length):atI xs i=xs[i.toNat]?:=by
  unfold atI nR
  rw [if_pos h0,if_pos h];rfl
theorem nD{e:En}{i:Nat}{xs:List PyData}{neg:Bool}(h:e[i]?=some (some (.l xs)))(hs:SeqAt.shaped (.list xs)=true):cv neg e (.s i) (.l [])=some (.d (.bool (if neg then !xs.isEmpty else xs.isEmpty))):=by
  unfold cv
  simp only [i4,h,Option.bind_some,hs]
  have h0:SeqAt.shaped (.list [])=true:=by simp [SeqAt.shaped,PyData.canLay0,PyData.canLayAll0,PyData.depth,PyData.depthAll]
  rw [h0]
  cases xs<;>simp [PyData.eqv,PyData.eqvAll]
theorem oy(ns:List Int):SeqAt.shaped (.list (ns.map .int))=true∧SeqAt.shaped (.tuple (ns.map .int))=true:=by
  have h1:PyData.canLayAll0 (ns.map PyData.int)=true:=by
    induction ns with
    | nil=>rfl
    | cons n r ih=>simp [PyData.canLayAll0,PyData.canLay0,ih]
  have h2:PyData.depthAll (ns.map PyData.int)=0:=by
    clear h1
    induction ns with
    | nil=>rfl
    | cons n r ih=>simp [PyData.depthAll,PyData.depth,ih]
  constructor<;>simp [SeqAt.shaped,PyData.canLay0,PyData.depth,h1,h2]
theorem cU{own:fM}{g:FG}{f:FS}(P:Nat→En→Prop):∀(items:List PyData) (k:Nat) (e:En),(∀i x e,items[i]?=some x→P (k+i) e→∃e1 e2,g x e=some e1∧f e1=some (.nx e2)∧keeps own e2∧P (k+i+1) e2)→P k e→∃e',iI own g f items e=some (.nx e')∧P (k+items.length) e'
  | [],k,e,_,h=>⟨e,rfl,h⟩
  | x::r,k,e,hs,h=>by
    obtain⟨e1,e2,h1,h2,h3,h4⟩:=hs 0 x e rfl h
    obtain⟨e',h5,h6⟩:=cU P r (k+1) e2 (fun i y e hy hp=>by
      have:=hs (i+1) y e (by simpa using hy) (by rw [show k+(i+1)=k+1+i by lia];exact hp)
      rw [show k+(i+1)+1=k+1+i+1 by lia] at this
      exact this) h4
    refine⟨e',?_,by rw [List.length_cons,show k+(r.length+1)=k+1+r.length by lia];exact h6⟩
    unfold iI
    simp only [h1,h2,Option.bind_some,if_pos h3]
    exact h5
theorem dq{e:En}:keeps [] e:=fun _ h=>by cases h
theorem fD{W:List Nat}{fi:FI}{g:FG}{f:FS}{e e1:En}{items:List PyData}(h:fi e=some (items,[],e1)):dS W fi g f e=iI [] g f items e1:=by
  unfold dS;rw [h];rfl
theorem gk{lo:Int}{n i:Nat}{x:PyData}(h:(bK lo n)[i]?=some x):x=.int (lo+i)∧i < n:=by
  unfold bK at h
  rw [List.getElem?_map] at h
  obtain⟨k,h1,rfl⟩:=Option.map_eq_some_iff.mp h
  obtain⟨h2,h3⟩:=List.getElem?_eq_some_iff.mp h1
  simp at h2 h3
  subst h3
  exact⟨rfl,h2⟩
theorem e_{lo:Int}{n:Nat}:(bK lo n).length=n:=by simp [bK]
theorem dY{fs:FA}{e e1:En}{n:Int}(h:fs e=some ([.d (.int n)],e1))(h1: -1000000≤n)(h2:n≤1000000):ee fs e=some (bK 0 n.toNat,[],e1):=by
  unfold ee;rw [h]
  have:uo n=true:=by unfold uo;rw [decide_eq_true h1,decide_eq_true h2];rfl
  simp [bL,this]
theorem k9{ft:FT}{f:FS}(P:En→Prop)(μ:En→Nat)(hs:∀e,P e→(∃e1,ft e=some (false,e1)∧True)∨∃e1 e2,ft e=some (true,e1)∧f e1=some (.nx e2)∧P e2∧μ e2 < μ e):
    ∀(n:Nat) (e:En),P e→μ e < n→∃e0 e',gv ft f n e=some (.nx e')∧P e0∧ft e0=some (false,e'):=by
  intro n
  induction n with
  | zero=>intro e _ h;lia
  | succ n ih=>
    intro e hp hm
    rcases hs e hp with ⟨e1,h1,_⟩ | ⟨e1,e2,h1,h2,h3,h4⟩
    · exact⟨e,e1,by unfold gv;rw [h1];rfl,hp,h1⟩
    · obtain⟨e0,e',g1,g2⟩:=ih e2 h3 (by lia)
      exact⟨e0,e',by unfold gv;rw [h1];simp only [Option.bind_some,if_true,h2];exact g1,g2⟩
theorem cF{cs:En}{ft:FT}{fe:FE}{b:PyData→Bool}{y:PyData→PyData}:∀(items:List PyData) (t:Option Sv) (acc:List PyData),(∀x∈items,ft (cs++[some (.d x)])=some (b x,cs++[some (.d x)]))→(∀x∈items,b x=true→fe (cs++[some (.d x)])=some (.d (y x),cs++[some (.d x)]))→
    acc.length+items.length≤1000000→∃t',cN (ah cs.length) ft fe items (cs++[t]) acc=some (acc++(items.filter b).map y,cs++[t'])
  | [],t,acc,_,_,_=>⟨t,by simp [cN]⟩
  | x::r,t,acc,h1,h2,hl=>by
    have hg:ah cs.length x (cs++[t])=some (cs++[some (.d x)]):=by simp [ah]
    have h1x:=h1 x (by simp)
    unfold cN
    rw [hg]
    simp only [Option.bind_some,h1x]
    cases hb:b x with
    | true=>
      simp only [if_true,h2 x (by simp) hb,Option.bind_some,km]
      rw [if_pos (by simp at hl;lia)]
      obtain⟨t',ih⟩:=cF (b:=b) (y:=y) r (some (.d x)) (acc++[y x]) (fun z hz=>h1 z (by simp [hz])) (fun z hz=>h2 z (by simp [hz])) (by simp at hl ⊢;lia)
      exact⟨t',by rw [ih];simp [hb]⟩
    | false=>
      simp only [Bool.false_eq_true,if_false]
      obtain⟨t',ih⟩:=cF (b:=b) (y:=y) r (some (.d x)) acc (fun z hz=>h1 z (by simp [hz])) (fun z hz=>h2 z (by simp [hz])) (by simp at hl;lia)
      exact⟨t',by rw [ih];simp [hb]⟩
theorem jD{fa:FE}{e e1:En}{xs:List PyData}(h:fa e=some (.d (.tuple xs),e1)):ej fa e=some (xs,[],e1):=by
  unfold ej;rw [h];rfl
theorem o8{fa:FE}{e e1:En}{xs:List PyData}(h:fa e=some (.l xs,e1)):ej fa e=some (xs,[],e1):=by
  unfold ej;rw [h];rfl
theorem dM{cp:List (Nat × Str)}{nT:Nat}{fi:FI}{g:FG}{ft:FT}{fe:FE}{e e1 cs:En}{t t':En}{items out:List PyData}(h1:fi e=some (items,[],e1))(hc:iR cp nT e1=cs++t)(hl:cs.length=cp.length)(h3:cN g ft fe items (iR cp nT e1) []=some (out,cs++t')):dJ cp nT fi g ft fe e=some (.l out,e1):=by
  have key:∀i x,e1[i]?=some (some (.l x))→∀k,fL cp i=some k→(cs++t')[k]?=some (some (.l x)):=by
    intro i x hi k hk
    obtain⟨s,hs⟩:=ce hk
    have hk2:k < cp.length:=(List.getElem?_eq_some_iff.mp hs).1
    have:(iR cp nT e1)[k]?=some (some (.l x)):=by
      unfold iR
      rw [List.getElem?_append_left (by simpa using hk2),List.getElem?_map,hs]
      simp [hi,Av]
    rw [hc,List.getElem?_append_left (by lia)] at this
    rw [List.getElem?_append_left (by lia)]
    exact this
  unfold dJ
  rw [h1]
  simp only [Option.bind_some,List.all_nil,if_true,h3]
  have hb:fJ cp (cs++t') e1=true:=by
    unfold fJ
    rw [List.all_eq_true]
    intro p hp
    match hi:e1[p.1]? with
    | none=>simp [rT]
    | some none=>simp [rT]
    | some (some (.d x))=>simp [rT]
    | some (some (.n x))=>simp [rT]
    | some (some (.l x))=>
      cases hq:fL cp p.1 with
      | none=>
        unfold fL at hq
        rw [List.findIdx?_eq_none_iff] at hq
        have:=hq p hp
        simp at this
      | some k=>simp [key p.1 x hi k hq,rT]
  rw [if_pos hb]
  congr 2
  refine List.ext_getElem? fun i=>?_
  rw [b7]
  match hi:e1[i]? with
  | none=>rfl
  | some none=>rfl
  | some (some (.d x))=>rfl
  | some (some (.n x))=>rfl
  | some (some (.l x))=>
    cases hp:fL cp i with
    | none=>simp [hp]
    | some k=>simp [hp,key i x hi k hp]
theorem l8{α:Type}{xs:List α}{i:Int}(h0:0≤i)(h1:i < xs.length):∃x∈xs,atI xs i=some x:=by
  rw [gG h0 h1]
  exact⟨xs[i.toNat]'(by lia),List.getElem_mem _,List.getElem?_eq_getElem _⟩
theorem xo{e:En}{xs:List PyData}{i:Int}:cO e (.l xs) (.d (.int i))=(atI xs i).map .d:=rfl
theorem qa{e:En}{xs:List PyData}{i:Int}:cO e (.d (.tuple xs)) (.d (.int i))=(atI xs i).map .d:=rfl
theorem sI{e:En}{xs:List PyData}{i:Int}:cO e (.d (.list xs)) (.d (.int i))=(atI xs i).map .d:=rfl
theorem xp{e:En}{j:Nat}{xs:List PyData}{i:Int}(h:e[j]?=some (some (.l xs))):cO e (.s j) (.d (.int i))=(atI xs i).map .d:=by
  simp [cO,bP,h,bL]
theorem sM{e:En}{xs:List PyData}:g1 eu e [.d (.tuple xs)]=some (.d (.int xs.length)):=rfl
theorem qc{e:En}{xs:List PyData}:g1 eu e [.d (.list xs)]=some (.d (.int xs.length)):=rfl
theorem sJ{e:En}{xs:List PyData}:g1 eu e [.l xs]=some (.d (.int xs.length)):=rfl
theorem sL{e:En}{j:Nat}{xs:List PyData}(h:e[j]?=some (some (.l xs))):g1 eu e [.s j]=some (.d (.int xs.length)):=by
  simp [g1,eu,bP,h]
theorem nO{e:En}{j:Nat}{xs:List PyData}(h:e[j]?=some (some (.l xs))):g1 dW e [.s j]=some (.d (.tuple xs)):=by
  simp [g1,dW,bP,h]
theorem nM{e:En}{xs:List PyData}:g1 dW e [.l xs]=some (.d (.tuple xs)):=rfl
theorem lK{e:En}{xs:List PyData}:g1 dW e [.d (.list xs)]=some (.d (.tuple xs)):=rfl
theorem nP{e:En}{xs:List PyData}:g1 dW e [.d (.tuple xs)]=some (.d (.tuple xs)):=rfl
theorem xq{e:En}{xs:List PyData}{lo hi:Option Int}:B9 e (.d (.tuple xs)) lo hi=some (.d (.tuple (cutD xs lo hi))):=rfl
theorem ko{e:En}{xs ys:List PyData}(h:xs.length+ys.length≤1000000):aK e (.d (.tuple xs)) (.d (.tuple ys))=some (.d (.tuple (xs++ys))):=by
  simp [aK,sN,sC,gI,bL,nB,bP,h]
theorem xZ{e:En}{i j:Int}(h:j≠0):aZ e (.d (.int i)) (.d (.int j))=some (.d (.int (i.fmod j))):=by
  unfold aZ;rw [jA (by simpa using h)]
theorem vg{e:En}{i j:Int}(h:j≠0)(h2:Bt 8000 j):fQ e (.d (.int i)) (.d (.int j))=some (.d (.int (i.fdiv j))):=by
  unfold fQ;rw [jA (by simp [iV.mpr h2,h])]
theorem gQ{e:En}{i j:Int}(h:tW i j=true):my e (.d (.int i)) (.d (.int j))=some (.d (.int (i ^ j.toNat))):=by
  unfold my;rw [jA h]
theorem je:tW 10 18=true:=by decide
theorem aC{f g:FS}{e e1:En}(h:f e=some (.nx e1)):aw f g e=g e1:=by unfold aw;rw [h];rfl
theorem Bh{ft:FT}{f g:FS}{e e1:En}(h:ft e=some (true,e1)):gD ft f g e=f e1:=by unfold gD;rw [h];rfl
theorem Bg{ft:FT}{f g:FS}{e e1:En}(h:ft e=some (false,e1)):gD ft f g e=g e1:=by unfold gD;rw [h];rfl
def xw(i:Nat)(e:En):Nat:=match e[i]? with
  | some (some (.l xs))=>xs.length
  | _=>0
def tD(i:Nat)(e:En):Nat:=match e[i]? with
  | some (some (.d (.int k)))=>k.natAbs
  | _=>0
theorem qm{n m:Nat}(h:n < 2 ^ m)(hm:m≤4200):n < 2 ^ 4200:=Nat.lt_of_lt_of_le h (Nat.pow_le_pow_right (by decide) hm)
theorem l5{α:Type}{a:α}{r:List α}:atI (a::r) 0=some a:=by
  rw [gG (by decide) (by simp)];rfl
theorem l6{α:Type}{a b:α}{r:List α}:atI (a::b::r) 1=some b:=by
  rw [gG (by decide) (by simp;lia)];rfl
theorem rX{α:Type}{a b c:α}{r:List α}:atI (a::b::c::r) 2=some c:=by
  rw [gG (by decide) (by simp;lia)];rfl
theorem rY{α:Type}{a b c d:α}{r:List α}:atI (a::b::c::d::r) 3=some d:=by
  rw [gG (by decide) (by simp;lia)];rfl
theorem iU{W:cf}{k:Int}(h:pO W k):atI (W.ties.map aY) k=some (aY (W.tie k)):=by
  rw [gG h.1 (by rw [List.length_map];exact h.2),List.getElem?_map,h.get];rfl
theorem cT{ns:List Int}{k:Int}(h0:0≤k)(h1:k < (ns.length:Int)):atI (ns.map PyData.int) k=some (.int (ns.getD k.toNat 0)):=by
  rw [gG h0 (by rw [List.length_map];exact h1),List.getElem?_map]
  have:k.toNat < ns.length:=by lia
  simp [this]
theorem wZ{a b c d:PyData}:cutD [a,b,c,d] none (some 2)=[a,b]:=rfl
theorem lF{a b c d:PyData}:cutD [a,b,c,d] (some 2) none=[c,d]:=rfl
theorem lE{a b c:PyData}:cutD [a,b,c] (some 1) none=[b,c]:=rfl
theorem m7(ns:List Int):PyData.canLayAll0 (ns.map PyData.int)=true:=by
  induction ns with
  | nil=>rfl
  | cons n r ih=>simp [PyData.canLayAll0,PyData.canLay0,ih]
theorem m5{x:Int}:∀(ns:List Int),((ns.map PyData.int).any fun y=>PyData.eqv y (.int x))=ns.contains x
  | []=>rfl
  | n::r=>by
    rw [List.map_cons,List.any_cons,m5 r,List.contains_cons]
    show(n==x || _)=_
    rw [show(n==x)=(x==n) by rw [Bool.eq_iff_iff];simp;exact eq_comm]
theorem gO{e:En}{x:Int}{ns:List Int}{neg:Bool}:sG neg e (.d (.int x)) (.d (.tuple (ns.map .int)))=some (.d (.bool (if neg then !ns.contains x else ns.contains x))):=by
  unfold sG
  simp only [i4,bP,Option.bind_some,m7,m5]
  simp [PyData.canLay0,PyData.depth]
theorem p_{e:En}{x a b:Int}{neg:Bool}:sG neg e (.d (.int x)) (.d (.tuple [.int a,.int b]))=some (.d (.bool (if neg then !(a==x || b==x) else(a==x || b==x)))):=by
  have h:=gO (e:=e) (x:=x) (ns:=[a,b]) (neg:=neg)
  simp only [List.map_cons,List.map_nil] at h
  rw [h]
  have:[a,b].contains x=(a==x || b==x):=by
    simp only [List.contains_cons,List.contains_nil,Bool.or_false]
    rw [show(x==a)=(a==x) by rw [Bool.eq_iff_iff];simp;exact eq_comm,show(x==b)=(b==x) by rw [Bool.eq_iff_iff];simp;exact eq_comm]
  rw [this]
theorem i3(W:cf):aU W=.tuple [.int W.things,.tuple (W.ties.map aY),.tuple (W.pat.map .int),.int W.asks]:=rfl
end L2
namespace L2
open PySem PySem.Spec PyProof.Rows
theorem oa:∀(n:Nat) (l:List Int),l.Nodup→(∀k∈l,0≤k∧k < (n:Int))→l.length≤n
  | 0,l,_,h=>by
    cases l with
    | nil=>simp
    | cons a r=>have:=h a (by simp);lia
  | n+1,l,hd,h=>by
    have ih:=oa n (l.erase (n:Int)) (hd.erase _) fun k hk=>by
      obtain⟨h1,h2⟩:=hd.mem_erase_iff.mp hk
      have:=h k h2
      lia
    by_cases c:(n:Int)∈l
    · rw [List.length_erase_of_mem c] at ih;lia
    · rw [List.erase_of_not_mem c] at ih;lia
abbrev Std:=List Int × List Int
structure zX (W:cf) (s:Std):Prop where
  inw:∀k∈s.1,pO W k
  nd:s.1.Nodup
  tk:s.2.length≤2*s.1.length
  th:∀t∈s.2,0≤t∧t < W.things
def nxt(W:cf)(s:Std)(k:Int)(b:Bool):Std:=(cf.askd s.1 k,W.took s.2 k b)
structure Nd where
  tie:Int
  yes:Int
  no:Int
def zS(W:cf)(n:Nat)(S:Nat→Std)(i:Nat)(k:Int)(b:Bool)(l:Int):Prop:=l= -1∨(0≤l∧l < (n:Int)∧S l.toNat=nxt W (S i) k b)
structure B0 (W:cf) (n:Nat) (S:Nat→Std) (i:Nat) (x:Nd):Prop where
  tie:pO W x.tie
  st:zX W (S i)
  may:W.may (S i).1 (S i).2 x.tie=true
  yes:zS W n S i x.tie true x.yes
  no:zS W n S i x.tie false x.no
def B1(W:cf)(T:List Nd)(S:Nat→Std):Prop:=∀(i:Nat) (x:Nd),T[i]?=some x→B0 W T.length S i x
structure Wt where
  st:Std
  par:Int
  side:Int
def BU(S:Nat→Std)(n:Nat)(s:Std):Nat→Std:=fun i=>if i=n then s else S i
structure C7 (W:cf) (T:List Nd) (S:Nat→Std) (ws:List Wt):Prop where
  tr:B1 W T S
  wt:∀w∈ws,zX W w.st∧(w.par= -1∨∃(p:Nat) (x:Nd),w.par=(p:Int)∧T[p]?=some x∧((w.side=0∧w.st=L2.nxt W (S p) x.tie true)∨(w.side=1∧w.st=L2.nxt W (S p) x.tie false)))
  side:∀w∈ws,w.side=0∨w.side=1
end L2
namespace L2
open PySem PySem.Spec PyProof.Rows
theorem qM{α:Type}{xs:List α}{x:α}:atI (xs++[x]) (-1)=some x:=by
  unfold atI nR
  rw [if_neg (by decide),if_pos (by simp;lia)]
  simp
  rw [show(-1+((xs.length:Int)+1)).toNat=xs.length by lia]
  simp
def nm(nums:List Int)(l:Int):Int:=(atI nums l).getD (-1)
structure CG (order:List Int) (n:Nat) (nums:List Int):Prop where
  len:nums.length=n+1
  top:nums[n]?=some (-1)
  at':∀(j:Nat) (v:Int),j < n→nums[j]?=some v→v= -1∨∃p:Nat,v=(p:Int)∧order[p]?=some (j:Int)
def tE(T:List Nd)(w:Int):Nd:=T.getD w.toNat ⟨0,0,0⟩
theorem lH{α β:Type}{f:α→β}:∀{xs:List α} {i:Nat},(xs.map f).eraseIdx i=(xs.eraseIdx i).map f
  | [],_=>by simp
  | x::r,0=>by simp
  | x::r,i+1=>by simp [lH (xs:=r) (i:=i)]
end L2
namespace L2
open PySem PySem.Spec PyProof.Rows
def uQ(W:cf)(ss:List Std)(i:Nat)(k:Int)(b:Bool)(l:Int):List Std:=if l= -1 then ss else ss.set l.toNat (nxt W (ss.getD i ([],[])) k b)
structure Dd (S:Nat→Std) (n:Nat) (ss:List Std):Prop where
  len:ss.length=n
  at':∀(j:Nat) (s:Std),ss[j]?=some s→s.1.length≤(S j).1.length∧s.2.length≤2*s.1.length∧(∀k∈s.1,0≤k∧k < 16)∧∀t∈s.2,0≤t∧t < 12
end L2
namespace L2
open PySem PySem.Spec PyProof.Rows
structure Sz (n dep:Nat) (d:PyData):Prop where
  fl:xl d=true
  sh:d.showable=true
  dp:d.depth≤dep
  ln:d.shown.length≤n
  so:PyData.strOk d.shown=true
end L2
namespace L2
open PySem PySem.Spec PyProof.Rows
theorem mv{e:En}{i:Nat}{xs ys:List PyData}(h:e[i]?=some (some (.l xs)))(hl:xs.length+ys.length≤1000000):aK e (.s i) (.l ys)=some (.l (xs++ys)):=by
  simp [aK,sN,sC,gI,bL,nB,bP,pZ,rg,h,hl]
theorem x4{e:En}{d:PyData}{n:Int}(h0:0≤n)(h1:n≤100000):jB e (.d (.tuple [d])) (.d (.int n))=some (.d (.tuple (List.replicate n.toNat d))):=by
  have a:nJ e (.d (.tuple [d])) (.d (.int n))=some (.d (.tuple (List.replicate n.toNat d))):=by
    simp [nJ,bP,bL,h0,h1]
  have b:nG e (.d (.tuple [d])) (.d (.int n))=none:=by simp [nG,gI,bL]
  unfold jB sN
  rw [b,a]
  rfl
def rn(T:List Nd)(ans:List Bool):Nat→Int→List (Int × Bool)
  | 0,_=>[]
  | f+1,at'=>if at' < 0 then [] else((tE T at').tie,ans.getD (tE T at').tie.toNat false)::rn T ans f (if ans.getD (tE T at').tie.toNat false=true then(tE T at').yes else(tE T at').no)
def rt(T:List Nd):Int:=if T.length=0 then -1 else 0
structure CK (W:cf) (T:List Nd) (S:Nat→Std) (ans:List Bool) (r:List (Int × Bool)) (a:Int):Prop where
  at':a= -1∨(0≤a∧a < (T.length:Int)∧r.length≤(S a.toNat).1.length)
  eq:r++rn T ans (17 - r.length) a=rn T ans 17 (rt T)
  len:r.length≤16
  inw:∀p∈r,pO W p.1
end L2
namespace L2
open PySem PySem.Spec PyProof.Rows
abbrev Fr:=Int × Int
def tm(a b:Fr):Fr:=eA (a.1*b.1) (a.2*b.2)
def pl(a b:Fr):Fr:=eA (a.1*b.2+b.1*a.2) (a.2*b.2)
structure C' (M:Int) (f:Fr):Prop where
  pos:0 < f.2
  lo:0≤f.1
  hi:f.1≤f.2
  dv:f.2 ∣ M
structure BJ (M i:Int) (f:Fr):Prop where
  pos:0 < f.2
  lo:0≤f.1
  hi:f.1≤i*f.2
  dv:f.2 ∣ M
def bp(W:cf):List Int→Int
  | []=>1
  | k::r=>(W.tie k).bot*bp W r
def z_(W:cf):Int:=bp W W.rng
def ch(W:cf)(k:Int)(b:Bool):Fr:=if b then((W.tie k).top,(W.tie k).bot) else((W.tie k).bot - (W.tie k).top,(W.tie k).bot)
structure Dc (W:cf) (S:Nat→Std) (n:Nat) (rs:List Fr):Prop where
  len:rs.length=n
  at':∀(j:Nat) (f:Fr),rs[j]?=some f→C' (bp W (S j).1) f
structure C8 (W:cf) (i:Nat) (ss:List Fr):Prop where
  len:ss.length=W.ties.length
  at':∀(j:Nat) (f:Fr),ss[j]?=some f→BJ (z_ W) (i:Int) f
end L2
namespace L2
open PySem PySem.Spec PyProof.Rows
def zK(sc:Scope)(x:Str):Bool:=match sc.names.lookup x with
  | some .local=>true
  | some .cell=>true
  | some .free=>true
  | _=>false
theorem wL{sc:Scope}{x:Str}(h:zK sc x=true):zZ sc x:=by
  unfold zK at h
  unfold zZ
  split at h
  · rename_i e;exact .inl e
  · rename_i e;exact .inr (.inl e)
  · rename_i e;exact .inr (.inr e)
  · cases h
section
variable{X:Cx}{K:PySem.W.Frag}
theorem qw(i:Nat){x:Str}{pos:Pos}(hN:X.N[i]?=some x)(hv:zK X.env.scope x=true)(hd:((x==("__debug__":Str)) || (x==("__classdict__":Str)))=false):PE X (.Name x pos) (fE K (ac i)):=qv i hN (wL hv) (Bool.or_eq_false_iff.mp hd).1 (Bool.or_eq_false_iff.mp hd).2
end
end L2
namespace L2
open PySem PySem.Spec PyProof.Rows
section
variable{X:Cx}{tg a b c:Expr}{ta:TA}{p pos p2 pos2:Pos}
end
section
variable{K:PySem.W.Frag}{σ:L2.St}
end
section
variable{X:Cx}{K:PySem.W.Frag}{tg a b c:Expr}{fs:FA}{pos p p2 pos2:Pos}
end
end L2
namespace L2
open PySem PySem.Spec PyProof.Rows
end L2
namespace L2
open PySem PySem.Spec PyProof.Rows
section
variable(P:Program)(w:World)
end
section
variable{P:Program}{w:World}{H H':Hp}{h h':Heap}{a:Addr}{o:HO}
end
section
variable{P:Program}{w:World}{H:Hp}{h h':Heap}{x e:Addr}{o':HO}
end
section
variable{fs fs' ex ex':List Addr}{H H1 H2:Hp}{h h1 h2 h':Heap}{a x e:Addr}{o:HO}
end
end L2
namespace L2
open PySem PySem.Spec PyProof.Rows
section
variable{X:Cx}{pins:List (Addr × Obj)}{σ:List (Option V)}{H H':Hp}{s:Shared}{h':Heap}
end
end L2
namespace L2
open PySem PySem.Spec PyProof.Rows
section
variable{X:Cx}
variable{a b:Expr}{ta tb:TE}{pos:Pos}
variable{tA tB':TT}{dR:List Expr}
end
end L2
namespace L2
open PySem PySem.Spec PyProof.Rows
section
variable{X:Cx}{pins:List (Addr × Obj)}{σ:St}{H:Hp}{s:Shared}{a:Addr}{xs ys:List V}
end
section
variable{X:Cx}{pins:List (Addr × Obj)}{σ:St}{H:Hp}{s:Shared}{E:Value→Shared→Prop}
end
section
variable{X:Cx}{st:Stmt}{dR:List Stmt}{t u:TS}{e:Expr}{te:TE}{pos:Pos}
end
section
variable{X:Cx}{pos:Pos}
end
section
variable{X:Cx}{pos:Pos}
end
end L2
namespace L2
open PySem PySem.Spec PyProof.Rows
section
variable{X:Cx}{tg:Expr}
end
end L2
namespace L2
open PySem PySem.Spec PyProof.Rows
section
variable{X:Cx}{a b c:Expr}{ta tb tc:TE}{pos:Pos}
end
section
variable{X:Cx}{a b c:Expr}{ta tb tc:TE}{pos:Pos}
end
end L2
namespace L2
open PySem PySem.Spec PyProof.Rows
section
variable{prog:Program}{w:World}{A:Around}{E:Value→Shared→Prop}{s:Shared}{K:PySem.W.Frag}{x dx C f:Addr}{mA:Str→Option Value}{name:Str}{v:Value}
end
section
variable{P:Program}{w:World}{H H':Hp}{h h':Heap}{a C dx:Addr}{fs fs':List (Str × V)}
end
section
variable{X:Cx}{pins:List (Addr × Obj)}{σ:St}{H:Hp}{s:Shared}{a C dx:Addr}{fs:List (Str × V)}{f:Str}{v:V}{A:Around}{E:Value→Shared→Prop}
end
section
variable{X:Cx}{o e value:Expr}{f:Str}{pos pos' tpos:Pos}{ta tv:TE}
end
section
variable{X:Cx}{pins:List (Addr × Obj)}{σ:St}{H:Hp}{s:Shared}{A:Around}{E:Value→Shared→Prop}{Q:Value→Shared→Prop}{c:Value}{b:Bool}
end
end L2
namespace L2
open PySem PySem.Spec PyProof.Rows
section
variable{X:Cx}{e:Expr}{es:List Expr}{te:TE}{t:TA}{pos:Pos}
end
section
variable{X:Cx}{pins:List (Addr × Obj)}{σ:St}{H:Hp}{s s':Shared}
end
section
variable{X:Cx}{CX:qL}{k:Nat}{f C:Addr}{fd:FuncData}{ps:List Str}{sp:Sp}{dvs:List V}{ds:List Value}{E:XK}{x m:Str}{p pos apos:Pos}{e o:Expr}{es:List Expr}{ta:TE}{t:TA}
end
section
variable{X:Cx}{CX:qL}{k:Nat}{f C:Addr}{fd:FuncData}{ps ks:List Str}{sp:Sp}{E:XK}{x m:Str}{p pos apos kpos:Pos}{e o:Expr}{es:List Expr}{kws:List Keyword}{te ta:TE}{t tk:TA}{nm:Option Str}
variable{g:List Value→List Value→List Value}{gV:List V→List V→List V}
end
end L2
namespace L2
open PySem PySem.Spec PyProof.Rows
section
variable{X:Cx}{x:Str}{p pos:Pos}{e:Expr}{es:List Expr}{t:TA}{id T:String}{r:List V→Hp→VK→Prop}
end
end L2
namespace L2
open PySem PySem.Spec PyProof.Rows
section
variable{κ:Type}[DecidableEq κ]
def oh(kvs:List (κ × V))(k:κ)(v:V):List (κ × V):=
  if (kvs.any fun kv=>decide (kv.1=k))=true then kvs.map (fun kv=>if kv.1=k then(kv.1,v) else kv) else kvs++[(k,v)]
theorem nU(kvs:List (κ × V))(k:κ)(v:V):(oh kvs k v).length≤kvs.length+1:=by
  unfold oh
  split
  · rw [List.length_map];lia
  · rw [List.length_append,List.length_cons,List.length_nil];lia
theorem KV.any{kvs:List (κ × V)}{vs:List (κ × Value)}(r:KV kvs vs)(k:κ):(kvs.any fun kv=>decide (kv.1=k))=vs.any fun kv=>decide (kv.1=k):=by
  unfold KV at r
  induction r with
  | nil=>rfl
  | cons h t ih=>rw [List.any_cons,List.any_cons,ih,h.1]
theorem KV.repl{kvs:List (κ × V)}{vs:List (κ × Value)}(r:KV kvs vs)(k:κ){y:V}{u:Value}(ry:bf y u):
    KV (kvs.map fun kv=>if kv.1=k then(kv.1,y) else kv) (vs.map fun kv=>if kv.1=k then(kv.1,u) else kv):=by
  unfold KV at r ⊢
  induction r with
  | nil=>exact .nil
  | @cons p q ps qs h t ih=>
    rw [List.map_cons,List.map_cons]
    refine .cons ?_ ih
    obtain⟨h1,h2⟩:=h
    by_cases e:p.1=k
    · rw [if_pos e,if_pos (h1.symm.trans e)];exact⟨h1,ry⟩
    · rw [if_neg e,if_neg (fun z=>e (h1.trans z))];exact⟨h1,h2⟩
theorem KV.put{kvs:List (κ × V)}{vs:List (κ × Value)}(r:KV kvs vs)(k:κ){y:V}{u:Value}(ry:bf y u):KV (oh kvs k y) (stored vs k u):=by
  unfold oh stored
  rw [r.any k]
  by_cases e:(vs.any fun kv=>decide (kv.1=k))=true
  · rw [if_pos e,if_pos e];exact r.repl k ry
  · rw [if_neg e,if_neg e];exact Paired.snoc r ⟨rfl,ry⟩
end
theorem As{P:Program}{w:World}{k:fX}{u:Value}(r:bf (kV k) u):(ef P w).is k u=true:=by
  cases k with
  | inl i=>obtain⟨t,e⟩:=(show ∃t,u=Value.int i t from r);subst e;exact nW P w i t
  | inr x=>obtain⟨t,e⟩:=(show ∃t,u=Value.str x t from r);subst e;exact nX P w x t
section
variable{P:Program}{w:World}{H:Hp}{h:Heap}{a:Addr}
theorem Bf{u:HO}(ok:jT P w H h)(e:Rd H a u):cR P w H h a u:=e.ok ok
theorem Af{kvs:List (fX × V)}(ok:jT P w H h)(e:Rd H a (.dK kvs)):kvs.length≤sizeLine∧(a==sysModules)=false∧∃vs,KV kvs vs∧h.DictOf (ef P w) a vs:=
  show cR P w H h a (.dK kvs) from Bf ok e
theorem Ae{kvs:List (fX × V)}(ok:jT P w H h)(e:H a=some (.dK kvs)):kvs.length≤sizeLine∧(a==sysModules)=false∧∃vs,KV kvs vs∧h.DictOf (ef P w) a vs:=Af ok (.inl e)
end
section
variable{X:Cx}{pins:List (Addr × Obj)}{σ:St}{H:Hp}{s:Shared}{a:Addr}{y v:V}{u r:Value}{o:Option V}{A:Around}{E:Value→Shared→Prop}
theorem au.big(I:au X pins σ H s):sysModules < s.heap.objs.size:=by
  have h:mainGlobals < s.heap.objs.size:=(I.mod.glob.keeps I.bk).lt
  exact Nat.lt_trans (by decide) h
theorem va{h':Heap}{t':Nat}{ob:HO}(I:au X pins σ H s)(mu:zU (H a))(hs:Heap.SameBut a s.heap h')(he:∃q,h'.get? a=some q)(new:cR X.prog X.w (aX H a ob) h' a ob):
    au X pins σ (aX H a ob) {s with heap:=h',toks:=t'}:=
  I.write (x:=a) (e:=a) mu (.inl rfl) (fun b q hb z=>(hs.2 b hb).trans z) he new
theorem xT{P:Program}{w:World}{H':Hp}{h':Heap}{kvs:List (fX × V)}{vs:List (fX × Value)}(z:kvs.length≤sizeLine)(hd:(a==sysModules)=false)(rel:KV kvs vs)(dd:h'.DictOf (ef P w) a vs):
    cR P w H' h' a (.dK kvs):=⟨z,hd,vs,rel,dd⟩
end
section
variable{X:Cx}{pins:List (Addr × Obj)}{σ:St}{H:Hp}{s:Shared}{a:Addr}{kvs:List (fX × V)}{k:fX}{u:Value}{A:Around}{E:Value→Shared→Prop}
end
section
variable{X:Cx}{o i e value:Expr}{pos pos' tpos:Pos}{td ty tv:TE}
end
theorem nq{P:Program}{w:World}{H:Hp}(h:Heap)(hb:sysModules < h.objs.size):cR P w H (h.push {cls:=.type "dict",data:=.dict #[]}) h.objs.size (.dK []):=
  ⟨Nat.zero_le _,beq_eq_false_iff_ne.mpr (Ne.symm (Nat.ne_of_lt hb)),[],.nil,Heap.DictOf.new h⟩
def zA:TE:=fun _ H Q=>∀p,H p=none→Q (.ref p) (aX H p (.dK []))
section
variable{X:Cx}{pos:Pos}
theorem tN:PE X (.Dict [] [] pos) zA:=fun pins s σ H Q I h=>
  wpAny_Dict_empty ⟨.ref s.heap.objs.size,_,I.laid (a:=s.heap.objs.size) (o:=.dK []) (t':=s.toks) (fun _ _ q=>Heap.get?_push_of_some _ q) (Nat.le_refl _) (nq s.heap I.big),rfl,h _ (I.hok.fresh (Nat.le_refl _))⟩
end
def mU:List (TE × TE)→St→Hp→(List (V × V)→Hp→Prop)→Prop
  | [],_,H,Q=>Q [] H
  | (tk,tv)::r,σ,H,Q=>tk σ H fun x H1=>tv σ H1 fun y H2=>mU r σ H2 fun ps H3=>Q ((x,y)::ps) H3
abbrev VV:List (V × V)→List (Value × Value)→Prop:=Paired fun p q=>bf p.1 q.1∧bf p.2 q.2
def BH(X:Cx)(pos:Pos)(keys:List (Option Expr))(values:List Expr)(trs:List (TE × TE)):Prop:=
  ∀(pins:List (Addr × Obj)) (s:Shared) (σ:St) (H:Hp) (Q:List (V × V)→Hp→Prop),au X pins σ H s→mU trs σ H Q→
    wpAny (model X.prog X.w) X.A (evalPairs (pairTrees keys values X.env pos)) (fun vs s'=>∃ps H',au X pins σ H' s'∧VV ps vs∧Q ps H') X.xe s
theorem wb{X:Cx}{pos:Pos}:BH X pos [] [] []:=fun pins s σ H Q I h=>pairTrees_nil_walk ⟨[],H,I,.nil,h⟩
theorem tX{X:Cx}{pos:Pos}{k v:Expr}{ks:List (Option Expr)}{vs:List Expr}{tk tv:TE}{trs:List (TE × TE)}(hk:PE X k tk)(hv:PE X v tv)(hr:BH X pos ks vs trs):
    BH X pos (some k::ks) (v::vs) ((tk,tv)::trs):=fun pins s σ H Q I h=>
  pairTrees_cons_walk (bz (hk pins s σ H _ I h) fun u s1 ⟨x,H1,I1,rx,q1⟩=>bz (hv pins s1 σ H1 _ I1 q1) fun w2 s2 ⟨y,H2,I2,ry,q2⟩=>
    bz (hr pins s2 σ H2 _ I2 q2) fun ws s3 ⟨ps,H3,I3,rel,q3⟩=>⟨(x,y)::ps,H3,I3,.cons ⟨rx,ry⟩ rel,q3⟩)
def gW(kvs more:List (fX × V)):List (fX × V):=more.foldl (fun acc kv=>oh acc kv.1 kv.2) kvs
theorem KV.merge:∀{more:List (fX × V)} {rs:List (fX × Value)} {kvs:List (fX × V)} {vs:List (fX × Value)},KV more rs→KV kvs vs→KV (gW kvs more) (merged vs rs):=by
  intro more rs kvs vs r
  unfold KV at r
  induction r generalizing kvs vs with
  | nil=>intro q;exact q
  | @cons p q ps qs h t ih=>
    intro r0
    have e:KV (oh kvs p.1 p.2) (stored vs q.1 q.2):=by
      have:=r0.put p.1 h.2
      rw [←h.1];exact this
    exact ih e
theorem iz:∀(more kvs:List (fX × V)),(gW kvs more).length≤kvs.length+more.length
  | [],kvs=>by show kvs.length≤kvs.length+0;lia
  | p::r,kvs=>by
    have h1:=iz r (oh kvs p.1 p.2)
    have h2:=nU kvs p.1 p.2
    show(gW (oh kvs p.1 p.2) r).length≤_
    rw [List.length_cons];lia
theorem ki{P:Program}{w:World}:∀{kvs:List (fX × V)} {ws:List (Value × Value)},VV (kvs.map fun kv=>(kV kv.1,kv.2)) ws→∃rs,Carries (ef P w) ws rs∧KV kvs rs
  | [],_,r=>by rw [List.map_nil] at r;cases r;exact⟨[],True.intro,.nil⟩
  | p::kvs,_,r=>by
    rw [List.map_cons] at r
    cases r with
    | @cons a b as bs h t=>
      obtain⟨rs,c,q⟩:=ki (P:=P) (w:=w) t
      obtain⟨b1,b2⟩:=b
      exact⟨(p.1,b2)::rs,⟨As h.1,rfl,c⟩,.cons ⟨rfl,h.2⟩ q⟩
def Bn(trs:List (TE × TE)):TE:=fun σ H Q=>∀p,H p=none→mU trs σ (aX H p (.dK [])) fun ps H2=>H2 p=some (.dK [])∧∃kvs:List (fX × V),ps=kvs.map (fun kv=>(kV kv.1,kv.2))∧kvs.length≤15∧Q (.ref p) (aX H2 p (.dK (gW [] kvs)))
theorem vS{X:Cx}{pos:Pos}{keys:List (Option Expr)}{values:List Expr}{trs:List (TE × TE)}(h:BH X pos keys values trs)(hall:keys.all (·.isSome)=true)(hl:keys.length=values.length)(h0:keys≠[])
    (h15:keys.length≤15):PE X (.Dict keys values pos) (Bn trs):=by
  intro pins s σ H Q I q
  have hn:=I.hok.fresh (Nat.le_refl s.heap.objs.size)
  have I1:=I.laid (a:=s.heap.objs.size) (o:=.dK []) (h':=s.heap.push {cls:=.type "dict",data:=.dict #[]}) (t':=s.toks) (fun _ _ q=>Heap.get?_push_of_some _ q) (Nat.le_refl _) (nq s.heap I.big)
  refine wpAny_Dict_walk (knd:=ef X.prog X.w) hall hl h0 h15 (bz (h pins _ σ _ _ I1 (q _ hn)) fun ws s2 ⟨ps,H2,I2,rel,e,kvs,ep,lk,q2⟩=>?_)
  subst ep
  obtain⟨rs,c,rk⟩:=ki (P:=X.prog) (w:=X.w) rel
  obtain⟨z,hd,vs0,r0,dd⟩:=Ae I2.hok e
  cases r0
  refine⟨rs,c,dd,fun h' dd' hs=>⟨.ref s.heap.objs.size,_,?_,rfl,q2⟩⟩
  have hz:(gW [] kvs).length≤sizeLine:=by
    have h1:=iz kvs []
    rw [List.length_nil] at h1
    rw [sizeLine_eq];lia
  have he:∃q,h'.get? s.heap.objs.size=some q:=let ⟨q,_,_,hq,_⟩:=dd';⟨q,hq⟩
  exact va I2 (by rw [e];exact True.intro) hs he (xT hz hd (rk.merge .nil) dd')
section
variable{X:Cx}{pins:List (Addr × Obj)}{σ:St}{H:Hp}{s:Shared}{a:Addr}{y d:V}{u r:Value}{o:Option V}{A:Around}{E:Value→Shared→Prop}
end
section
variable{X:Cx}{o e f:Expr}{apos cpos:Pos}{td ty tx:TE}
end
section
variable{X:Cx}{pins:List (Addr × Obj)}{σ:St}{H:Hp}{s:Shared}{a:Addr}{kvs:List (fX × V)}{A:Around}{E:Value→Shared→Prop}
end
section
variable{X:Cx}{pins:List (Addr × Obj)}{σ:St}{H:Hp}{s:Shared}{a:Addr}{y:V}{u:Value}{A:Around}{E:Value→Shared→Prop}
end
end L2
namespace Att
open PySem PySem.W PySem.Calls PyProof.Rows
section
variable{prog:Program}{w:World}{A:Around}{E:Value→Shared→Prop}{s:Shared}{K:Frag}
end
end Att
namespace L2
open PySem PySem.Spec PyProof.Rows
end L2
namespace L2
open PySem PySem.Spec PyProof.Rows
end L2
namespace L2
open PySem PySem.Spec PyProof.Rows
section
variable{P:Program}{w:World}{K:PySem.W.Frag}{mg:Str→Option Value}{base:Heap}
end
section
variable{X:Cx}
end
section
variable{κ:Type}[DecidableEq κ]
end
end L2
namespace L2
open PySem PySem.Spec PyProof.Rows
def BA:PyData→String
  | .none=>"NoneType"
  | .bool _=>"bool"
  | .int _=>"int"
  | .str _=>"str"
  | .tuple _=>"tuple"
  | .list _=>"list"
  | .dict _=>"dict"
def zy(t T:String):Bool:=t==T || (t=="bool"&&T=="int")
def Aq(T:String)(d:PyData):Bool:=zy (BA d) T
def iJ(T:String):En→Rv→Option Rv:=fun _ r=>match r with
  | .d x=>some (.d (.bool (Aq T x)))
  | _=>some (.d (.bool (Aq T (.list []))))
section
variable{X:Cx}{K:PySem.W.Frag}{a:Expr}{fa:FE}{pos p p2:Pos}
def B2(K:PySem.W.Frag)(H:Hp):V→String→Prop
  | .non,t=>t="NoneType"
  | .bl _,t=>t="bool"
  | .int _,t=>t="int"
  | .str _,t=>t="str"
  | .ref a,t=>(t="tuple"∧∃xs,dQ K H a xs)∨(t="list"∧∃xs,em K H a xs)∨(t="dict"∧∃m,H a=some (.dK m))
  | _,_=>False
theorem sk{T:String}:cQ X (.builtin "isinstance") (fun xs H Q=>∃x t b,xs=[x,.ty T]∧B2 X.K H x t∧PySem.W.kitOne X.K (.type t) (.type T)=some b∧Q (.bl b) H):=by
  intro pins s σ H xs us Q I r h
  obtain⟨x,t,b,rfl,ht,hk,q⟩:=h
  obtain⟨u1,u2,rfl,r1,r2⟩:∃u1 u2,us=[u1,u2]∧bf x u1∧bf (.ty T) u2:=by
    cases r with
    | cons p q=>cases q with
      | cons p' q'=>cases q';exact⟨_,_,rfl,p,p'⟩
  cases r2
  have q':∀tk,EP X pins σ Q (.bool b) {s with toks:=tk}:=fun tk=>⟨.bl b,H,I.tok _,rfl,q⟩
  cases x with
  | non=>cases (show u1=Value.none from r1);cases (show t=_ from ht);exact PySem.W.kia_one PySem.W.kitx_none I.kIn True.intro hk (fun z=>nomatch z) q'
  | bl y=>cases (show u1=Value.bool y from r1);cases (show t=_ from ht);exact PySem.W.kia_one PySem.W.kitx_bool I.kIn True.intro hk (fun z=>nomatch z) q'
  | int i=>obtain⟨tt,rfl⟩:=r1;cases (show t=_ from ht);exact PySem.W.kia_one PySem.W.kitx_int I.kIn True.intro hk (fun z=>nomatch z) q'
  | str y=>obtain⟨tt,rfl⟩:=r1;cases (show t=_ from ht);exact PySem.W.kia_one PySem.W.kitx_str I.kIn True.intro hk (fun z=>nomatch z) q'
  | ref a=>
    cases (show u1=Value.ref a from r1)
    rcases ht with ⟨rfl,xs,hs⟩ | ⟨rfl,xs,hs⟩ | ⟨rfl,m,hs⟩
    · obtain⟨its,rv,pl,hz⟩:=I.tuple hs
      obtain⟨o,h1,h2⟩:=pl.typeIs
      exact PySem.W.kia_one PySem.W.kitx_tuple I.kIn ⟨o,h1,h2⟩ hk (fun z=>nomatch z) q'
    · obtain⟨its,rv,pl,hz⟩:=I.list hs
      obtain⟨o,h1,h2⟩:=pl.isList.typeIs
      exact PySem.W.kia_one PySem.W.kitx_list I.kIn ⟨o,h1,h2⟩ hk (fun z=>nomatch z) q'
    · obtain⟨_,_,vs,_,pp⟩:=(show cR X.prog X.w H s.heap a (.dK m) from I.hok a _ hs)
      obtain⟨o,es,ep,h1,h2,_⟩:=pp
      exact PySem.W.kia_one PySem.W.kitx_dict I.kIn ⟨o,h1,h2.1⟩ hk (fun z=>nomatch z) q'
  | _=>exact False.elim ht
theorem tP{x:Str}{T:String}(hg:Gl X x)(hm:X.mg x=none)(hv:bootBuiltins x=some (.type T))(hn:x≠"__name__")(hd:(x==("__debug__":Str))=false):PE X (.Name x pos) (tC (.ty T)):=fun pins s σ H Q I h=>
  jE I hg hm hv ⟨.ty T,H,I,rfl,h⟩ hn hd
theorem yg{t T:String}(ht:t∈["NoneType","bool","int","str","tuple","list","dict"])(hT:T∈["int","bool","tuple","str"]):PySem.W.kitOne K (.type t) (.type T)=some (zy t T):=by
  simp only [List.mem_cons,List.not_mem_nil,or_false] at ht hT
  rcases ht with rfl | rfl | rfl | rfl | rfl | rfl | rfl<;>rcases hT with rfl | rfl | rfl | rfl<;>rfl
theorem wG(d:PyData):BA d∈["NoneType","bool","int","str","tuple","list","dict"]:=by cases d<;>simp [BA]
theorem zG{F H:Hp}{d:PyData}{v:V}(h:DA K F d v)(s:av F H):B2 K H v (BA d):=by
  have h:=DA.mono s h
  cases d with
  | none=>rw [ic.mp h];rfl
  | bool b=>rw [cG.mp h];rfl
  | int b=>rw [cm.mp h];rfl
  | str b=>rw [kl.mp h];rfl
  | tuple ds=>obtain⟨a,xs,rfl,h1,_⟩:=dz.mp h;exact .inl ⟨rfl,xs,h1⟩
  | list ds=>obtain⟨a,xs,rfl,h1,_⟩:=et.mp h;exact .inr (.inl ⟨rfl,xs,h1⟩)
  | dict m=>simp only [DA] at h;obtain⟨a,m,rfl,h1,_⟩:=h;exact .inr (.inr ⟨rfl,_,h1⟩)
theorem pX{f:FE}{σ:L2.St}{H:Hp}{Q Q':VK}(h:fE K f σ H Q)(m:∀v H1,Q v H1→Q' v H1):fE K f σ H Q':=by
  obtain⟨F,e,r,e',R,hf,q⟩:=h
  exact⟨F,e,r,e',R,hf,fun F' H' v x R' A=>m _ _ (q F' H' v x R' A)⟩
theorem Ar{T:String}:xN K (fun v H Q=>∃t,t∈["NoneType","bool","int","str","tuple","list","dict"]∧B2 K H v t∧Q (.bl (zy t T)) H) (iJ T):=by
  intro σ H0 F H e x z v Q R A hg q
  unfold iJ at hg
  cases x with
  | d d=>
    cases hg
    exact⟨BA d,wG d,zG A R.sm,q F H _ (dP.refl _ _ _ _) R dH⟩
  | l xs=>
    cases hg
    obtain⟨l,vs,rfl,h1,h2,h3,h4⟩:=A
    exact⟨"list",by simp,.inr (.inl ⟨rfl,vs,em.of h3⟩),q F H _ (dP.refl _ _ _ _) R dH⟩
  | s i=>
    cases hg
    obtain⟨h1,xs,h2⟩:=A
    obtain⟨l,vs,h3,h4,h5,h6⟩:=R.own i xs h2
    rw [h1] at h3;cases h3
    exact⟨"list",by simp,.inr (.inl ⟨rfl,vs,em.of h5⟩),q F H _ (dP.refl _ _ _ _) R dH⟩
theorem jf{x:Str}{T:String}(hK:X.K=K)(hT:T∈["int","bool","tuple","str"])(hg:Gl X "isinstance")(hm:X.mg "isinstance"=none)(hgT:Gl X x)(hmT:X.mg x=none)(CN:bootBuiltins x=some (.type T))(hn:x≠"__name__")(hd:(x==("__debug__":Str))=false)
    (ha:PE X a (fE K fa))(he:starEach [a,.Name x p2] X.env=(false,eval a X.env)::starEach [.Name x p2] X.env)(hpl:(backTo pos (starEach [.Name x p2] X.env)).any (·.1)=false):
    PE X (.Call (.Name "isinstance" p) [a,.Name x p2] [] pos) (fE K (js (iJ T) fa)):=
  (kP (sk (T:=T)) hg hm boot_isinstance (io ha (io (tP hgT hmT CN hn hd) kO) he) (by decide) (by decide) he hpl).mono fun σ H Q h=>by
    subst hK
    have h1:=pM (Ar (T:=T)) h
    refine pX h1 fun v H1 ⟨t,ht,k,q⟩=>?_
    exact⟨v,t,_,rfl,k,yg ht hT,q⟩
end
end L2
namespace L2
open PySem PySem.Spec PyProof.Rows
section
variable{X:Cx}{K:PySem.W.Frag}
end
end L2
namespace L2
open PySem PySem.Spec PyProof.Rows
section
variable{X:Cx}{K:PySem.W.Frag}{σ:L2.St}{F H:Hp}{e:En}{pos p1 p2:Pos}
theorem a7.newD(R:a7 K F H σ e){p:Addr}{m:List (fX × V)}(hp:H p=none):a7 K (aX F p (.dK m)) (aX H p (.dK m)) σ e∧dP σ F H e (aX F p (.dK m)) (aX H p (.dK m)) e:=by
  have hF:=R.freeF hp
  obtain⟨R1,X1⟩:=R.same (av.new hp (o:=.dK m))
  obtain⟨R2,s2⟩:=R1.freeze (p:=p) hF aq (R1.notOwn aq (fun _ z=>nomatch z))
  refine⟨R2,⟨s2,X1.dom,fun a ws h n _=>?_,X1.lst,X1.tmp,X1.shp,X1.ow⟩⟩
  have z:a≠p:=fun z=>by rw [z,hp] at n;cases n
  rw [aJ z];exact h
def jr(m:List (Int × Int)):FE:=fun e=>some (.d (.dict (m.map fun p=>(PyData.int p.1,PyData.int p.2))),e)
theorem ue:PE X (.Dict [] [] pos) (fE K (jr [])):=tN.mono fun σ H Q h=>by
  obtain⟨F,e,z,e2,R,hf,q⟩:=h
  cases hf
  intro p hp
  obtain⟨R3,X3⟩:=R.newD (m:=[]) hp
  exact q _ _ _ X3 R3 (by simp only [bY,DA];exact⟨p,[],rfl,aq,rfl⟩)
theorem kQ{i j:Int}{k1 k2}:PE X (.Dict [some (.Constant (.int i) k1 p1)] [.Constant (.int j) k2 p2] pos) (fE K (jr [(i,j)])):=
  (vS (tX (@ph X i k1 p1) (@ph X j k2 p2) wb) rfl rfl (by simp) (by simp)).mono fun σ H Q h=>by
  obtain⟨F,e,z,e2,R,hf,q⟩:=h
  cases hf
  intro p hp
  refine⟨aq,[(Sum.inl i,.int j)],rfl,by simp,?_⟩
  have e1:aX (aX H p (.dK [])) p (.dK (gW [] [((Sum.inl i:fX),V.int j)]))=aX H p (.dK (gW [] [((Sum.inl i:fX),V.int j)])):=by
    funext a;by_cases h:a=p
    · subst h;rw [aq,aq]
    · rw [aJ h,aJ h,aJ h]
  rw [e1]
  obtain⟨R3,X3⟩:=R.newD (m:=gW [] [((Sum.inl i:fX),V.int j)]) hp
  exact q _ _ _ X3 R3 (by simp only [bY,DA];exact⟨p,[(i,j)],rfl,aq,rfl⟩)
end
end L2
namespace L2
open PySem PySem.Spec PyProof.Rows
section
variable{X:Cx}{K:PySem.W.Frag}{a b c d:Expr}{ta tb tc td:TE}{fa fb fc fd:FE}{pos:Pos}
end
end L2
namespace L2
open PySem PySem.Spec PyProof.Rows
section
variable{X:Cx}{K:PySem.W.Frag}{a b:Expr}{es:List Expr}{fa fb:FE}{fs:FA}{pos p apos:Pos}
theorem ut{σ:L2.St}{H0 F H:Hp}{e:En}{x:Str}:bY K σ H0 F H e (.d (.str x)) (.str x):=(show DA K F (.str x) (.str x) from kl.mpr rfl)
def nK:En→Rv→Option Rv:=fun _ x=>match x with
  | .d (.int i)=>if i.natAbs.log2 < 1900 then some (.d (.str (toString i:String))) else none
  | .d (.str x)=>some (.d (.str x))
  | _=>none
def ul:V→Hp→VK→Prop:=fun v H Q=>(∃i:Int,v=.int i∧i.natAbs.log2 < 1900∧Q (.str (toString i:String)) H)∨∃x,v=.str x∧Q (.str x) H
theorem qS:cQ X (.type "str") (fun xs H Q=>∃v,xs=[v]∧ul v H Q):=by
  intro pins s σ H xs us Q I r h
  obtain⟨v,rfl,h⟩:=h
  obtain⟨u,rfl,ru⟩:=fK r
  rcases h with ⟨i,rfl,hi,q⟩ | ⟨x,rfl,q⟩
  · obtain⟨t,rfl⟩:=ru
    exact PySem.P.str_of_int (by lia) ⟨.str _,H,I.tok _,⟨_,rfl⟩,q⟩
  · obtain⟨t,rfl⟩:=ru
    exact PySem.P.str_of_str ⟨.str _,H,I,⟨_,rfl⟩,q⟩
theorem zx:xN K ul nK:=by
  intro σ H0 F H e x z v Q R A hg q
  unfold nK at hg
  split at hg
  · split at hg
    case isFalse=>cases hg
    case isTrue hi=>
    cases hg
    exact .inl ⟨_,cm.mp (show DA K F (.int _) v from A),hi,q F H _ (dP.refl _ _ _ _) R ut⟩
  · cases hg
    exact .inr ⟨_,kl.mp (show DA K F (.str _) v from A),q F H _ (dP.refl _ _ _ _) R ut⟩
  · cases hg
theorem zw:dn K (fun xs H Q=>∃v,xs=[v]∧ul v H Q) (g1 nK):=fv fun σ H0 F H e x z v Q R A hg q=>⟨v,rfl,zx σ H0 F H e x z v Q R A hg q⟩
theorem b_str:jt X K "str" (g1 nK):=⟨.inr ⟨_,_,qS,zw,PyProof.Rows.boot_str⟩⟩
end
end L2
namespace L2
open PySem PySem.Spec PyProof.Rows
section
variable{X:Cx}{K:PySem.W.Frag}{a b:Expr}{fa fb:FE}{fs:FA}{pos p p2 p3:Pos}
end
end L2
namespace L2
open PySem PySem.Spec PyProof.Rows
def bq(W:cf)(as:List Int):Int:=bp W (W.rng.filter fun k=> !as.contains k)
def wI(l:Nat):Int:=1000*(2 ^ (16 - l) - 1)
structure C5 (W:cf) (k:Int) (as:List Int) (y n:Fr):Prop where
  y:BJ (bq W (cf.askd as k)) (wI (as.length+1)) y
  n:BJ (bq W (cf.askd as k)) (wI (as.length+1)) n
  len:as.length≤15
  inw:pO W k
  new:k∉as
def lk(ws:List Fr)(l:Int):Fr:=if l= -1 then(0,1) else ws.getD l.toNat (0,1)
structure De (W:cf) (S:Nat→Std) (n:Nat) (ws:List Fr):Prop where
  len:ws.length=n
  at':∀(j:Nat) (f:Fr),ws[j]?=some f→BJ (bq W (S j).1) (wI (S j).1.length) f
end L2
namespace L2
open PySem PySem.Spec PyProof.Rows
theorem iG{cs:En}{g:FG}{ft:FT}{fe:FE}{b:PyData→Bool}{y:PyData→PyData}{u:PyData→En}(n:Nat):∀(items:List PyData) (t:En) (acc:List PyData),t.length=n→(∀x∈items,∀t:En,t.length=n→g x (cs++t)=some (cs++u x))→(∀x∈items,(u x).length=n)→
    (∀x∈items,ft (cs++u x)=some (b x,cs++u x))→(∀x∈items,b x=true→fe (cs++u x)=some (.d (y x),cs++u x))→acc.length+items.length≤1000000→
    ∃t',t'.length=n∧cN g ft fe items (cs++t) acc=some (acc++(items.filter b).map y,cs++t')
  | [],t,acc,h,_,_,_,_,_=>⟨t,h,by simp [cN]⟩
  | x::r,t,acc,h,hg,hu,h1,h2,hl=>by
    have h1x:=h1 x (by simp)
    unfold cN
    rw [hg x (by simp) t h]
    simp only [Option.bind_some,h1x]
    cases hb:b x with
    | true=>
      simp only [if_true,h2 x (by simp) hb,Option.bind_some,km]
      rw [if_pos (by simp at hl;lia)]
      obtain⟨t',e1,ih⟩:=iG (b:=b) (y:=y) (u:=u) n r (u x) (acc++[y x]) (hu x (by simp)) (fun z hz=>hg z (by simp [hz])) (fun z hz=>hu z (by simp [hz])) (fun z hz=>h1 z (by simp [hz])) (fun z hz=>h2 z (by simp [hz])) (by simp at hl ⊢;lia)
      exact⟨t',e1,by rw [ih];simp [hb]⟩
    | false=>
      simp only [Bool.false_eq_true,if_false]
      obtain⟨t',e1,ih⟩:=iG (b:=b) (y:=y) (u:=u) n r (u x) acc (hu x (by simp)) (fun z hz=>hg z (by simp [hz])) (fun z hz=>hu z (by simp [hz])) (fun z hz=>h1 z (by simp [hz])) (fun z hz=>h2 z (by simp [hz])) (by simp at hl;lia)
      exact⟨t',e1,by rw [ih];simp [hb]⟩
noncomputable def nS(n:Int):Str:=Str.ofString (toString n)
theorem yk{n:Int}(h0:0≤n)(h1:n≤1000):n.natAbs.log2 < 1900:=by
  have:=Nat.log2_le_self n.natAbs
  lia
theorem sP{e:En}{i:Int}(h0:0≤i)(h1:i≤1000):g1 nK e [.d (.int i)]=some (.d (.str (nS i))):=by
  simp only [g1,nK]
  rw [if_pos (yk h0 h1)];rfl
end L2
namespace L2
open PySem PySem.Spec PyProof.Rows
section
variable{X:Cx}{K:PySem.W.Frag}{a:Expr}{fa:FE}{pos p pos2 p2:Pos}
def pW(ns:List Int):List Int:=ns.foldl step_dedup []
theorem gN(ns:List Int):firstMet (fun i=>ns.getD i 0) ns.length=pW ns:=by
  unfold firstMet pW
  congr 1
  refine List.ext_getElem (by simp) fun i h1 h2=>?_
  simp at h1
  simp [h1]
theorem oB:isSubtype (.type "tuple") (.type "set")=pure false:=by rw [isSubtype_type];kernel_rfl
theorem kZ:isSubtype (.type "tuple") (.type "frozenset")=pure false:=by rw [isSubtype_type];kernel_rfl
theorem mh{prog:Program}{w:World}{A:Around}{E:Value→Shared→Prop}{s:Shared}{l:Addr}{items:Array Value}{ns:List Int}{Q:Value→Shared→Prop}(hh:A.handled=none)(hl:s.heap.IsTuple l items)(hi:IntsAre items.toList ns)(hb:items.size+1 < scanBound)
    (h:∀(h':Heap) (tk:Nat),h'.SetOf (intKind prog w) s.heap.objs.size (fun k'=>(firstMet (fun i=>ns.getD i 0) items.size).any (· ==k')) (firstMet (fun i=>ns.getD i 0) items.size).length→(∀b o,b < s.heap.objs.size→s.heap.get? b=some o→h'.get? b=some o)→Q (.ref s.heap.objs.size) {s with heap:=h',toks:=tk}):
    wpAny (model prog w) A (call (.type "set") [.ref l]) Q E s:=by
  obtain⟨c,tl,hmro⟩:=F.called_set.mro;have hmade:=F.called_set.made;have hsub:=F.called_set.sub
  refine wpAny_call (codeAny_of_tree ?_);show wpAny _ _ (callAny (.type "set") _) _ _ _
  refine wpAny_pure ⟨Code.quiet_builtin _ (by decide+kernel),codeAny_builtin F.entry_type_call ?_⟩;rw [Around.under_plain (weight_type_call_type "set" [.ref l] []) rfl]
  have h1:=F.called_set.notType;have h2:=F.called_set.canCreate;have hct:=F.typeCall_set_1 (.ref l);repeat (any_goals (first | assumption | wp_step))
  let nw:Bool→Obj:=fun led=>{cls:=.type "set",dict:=none,data:=.set #[] 0 (.fresh 0 0 led)}
  refine codeAny_mono (code_set_new_1 (.ref l) (E:=E) (Q₁:=fun obj s₁=>∃led:Bool,obj=.ref s.heap.objs.size∧s₁={s with heap:=s.heap.push (nw led)}) fun led=>⟨led,rfl,rfl⟩) fun r s₁ hr=>?_
  cases r with
  | error e=>exact hr
  | ok fl=>
    cases fl with
    | ret obj=>
      obtain⟨led,rfl,rfl⟩:=hr;have hS:(s.heap.push (nw led)).get? s.heap.objs.size=some (nw led):=Heap.get?_push_size _ rfl
      have hT:Shared.TypeIs {s with heap:=s.heap.push (nw led)} (.ref s.heap.objs.size) "set":=⟨_,hS,rfl⟩
      have hli:=F.called_set.init.lookup;have hbi:=F.called_set.init.bind (.ref s.heap.objs.size);repeat (any_goals (first | assumption | wp_step))
      refine codeAny_mono (codeAny_call_builtin (R:=wants (fun r s₂=>r=.none∧∃h' tk,s₂={s with heap:=h',toks:=tk}∧h'.SetOf (intKind prog w) s.heap.objs.size (fun k'=>(firstMet (fun i=>ns.getD i 0) items.size).any (· ==k')) (firstMet (fun i=>ns.getD i 0) items.size).length∧(∀b o,b < s.heap.objs.size→s.heap.get? b=some o→h'.get? b=some o)) E) F.called_set.init.plain F.entry_set_init (check_set_init_1 hT ?_)) fun r₂ s₂ hr₂=>?_
      · obtain⟨ol,hol,hcl,nl,hdl⟩:=hl;obtain⟨ocls,odict,odata,oslots⟩:=ol;simp only at hcl hdl;subst hcl;subst hdl
        have hol':(s.heap.push (nw led)).get? l=some {cls:=.type "tuple",dict:=odict,data:=.seq items nl,slots:=oslots}:=Heap.get?_push_of_some _ hol
        have hsls:=oB;have hslf:=kZ;have hne:(Value.type "tuple"==Value.type "dict")=false:=by decide
        have hl1:(s.heap.push (nw led)).IsTuple l items:=⟨_,hol',rfl,nl,rfl⟩
        unfold Builtin.«set.__init__» noKeywords Builtin.Frozenset.updateFrom;generalize hPI:pyIter=PI
        wp_walk
        subst hPI
        refine wpAny_pyIter_tuple hl1 ?_;refine wpAny_bind (wpAny_runValue ?_);have hlS:l < s.heap.objs.size:=Heap.lt_size hol
        have hh3:A.in1.in1.in1.handled=none:=by simp [hh]
        have hneI:l≠(s.heap.push (nw led)).objs.size:=by rw [Heap.size_push];exact Nat.ne_of_lt (Nat.lt_succ_of_lt hlS)
        have hSf:s.heap.objs.size∉[(s.heap.push (nw led)).objs.size,l]:=by
          rw [Heap.size_push];simp only [List.mem_cons,List.mem_singleton,List.not_mem_nil,or_false,not_or];exact⟨Nat.ne_of_lt (Nat.lt_succ_self _),Nat.ne_of_gt hlS⟩
        have hval:∀(i:Nat) (v:Value),items[i]?=some v→∃t,v=.int ((fun i=>ns.getD i 0) i) t:=fun i v hv=>IntsAre.int_at hi i v (by rw [Array.getElem?_toList];exact hv)
        refine codeAny_set_update_loopS ((Walks.tuple hh3 _ l hneI items).toS) s.heap.objs.size hSf (fun i=>ns.getD i 0) hval hb (items.size - 0) 0 _ (by lia) (Nat.zero_le _) ⟨⟨_,Heap.get?_push_size _ rfl,rfl,rfl⟩,(hl1.at fun o e=>Heap.get?_push_of_some _ e)⟩ ?hS0 ?hR
        case hS0=>exact SetOf_congr ((setObjOf_fresh (knd:=intKind prog w) led).setOf (Heap.get?_push_of_some _ hS) (by unfold scanBound;lia)) (fun _=>rfl) rfl
        case hR=>
          intro s' hm hS';obtain⟨h',g',d',tk',os'⟩:=s';have eg:g'=s.gens:=hm.gens;have ed:d'=s.drawn:=hm.drawn;have eo:os'=s.os:=hm.os
          subst eg;subst ed;subst eo;show wpAny _ _ _ _ _ _
          refine wpAny_pure ?_;show wpAny _ _ (ret Value.none) _ _ _;refine wpAny_pure ⟨rfl,h',tk',rfl,hS',fun b o hb e=>?_⟩
          have hb1:b≠s.heap.objs.size:=Nat.ne_of_lt hb;have hb2:b≠(s.heap.push (nw led)).objs.size:=by rw [Heap.size_push];exact Nat.ne_of_lt (Nat.lt_succ_of_lt hb)
          exact hm.heap b o (by simp only [List.mem_cons,List.mem_singleton,List.not_mem_nil,or_false,not_or];exact⟨hb1,hb2⟩) (Heap.get?_push_of_some _ (Heap.get?_push_of_some _ e))
      · cases r₂ with
        | error e=>exact hr₂
        | ok fl₂=>
          cases fl₂ with
          | ret r=>obtain⟨rfl,h',tk,rfl,hS',hk'⟩:=hr₂;(repeat (any_goals (first | assumption | wp_step)));exact h _ _ hS' hk'
          | next=>exact hr₂.elim
          | brk=>exact hr₂.elim
          | cont=>exact hr₂.elim
    | next=>exact hr.elim
    | brk=>exact hr.elim
    | cont=>exact hr.elim
def Ba(K:PySem.W.Frag):List V→Hp→VK→Prop:=fun xs H Q=>∃(l:Addr) (ns:List Int),xs=[.ref l]∧(em K H l (ns.map V.int)∨dQ K H l (ns.map V.int))∧ns.length≤1000∧∀q S,H q=none→Q (.ref q) (aX H q (.set S (pW ns).length))
theorem qR(hc:X.calm=true):cQ X (.type "set") (Ba X.K):=by
  intro pins s σ H xs us Q I r h
  obtain⟨l,ns,rfl,hs,hn,q⟩:=h
  obtain⟨u,rfl,ru⟩:=fK r
  cases ru
  have hf:H s.heap.objs.size=none:=I.hok.fresh (Nat.le_refl _)
  rcases hs with hs | hs
  · obtain⟨its,rv,pl,hz⟩:=I.list hs
    have hl:=rv.length
    rw [List.length_map] at hl
    have e1:its.toArray.size=ns.length:=by simp [hl]
    refine call_set_list (ns:=ns) (I.ok.hd hc) pl.isList (dZ rv) (by rw [e1];unfold scanBound;lia) fun h' tk hS hk=>?_
    rw [e1,gN] at hS
    exact⟨.ref s.heap.objs.size,_,I.laid (o:=.set _ _) (fun b o e=>hk b o (Heap.lt_size e) e) (Nat.le_refl _) hS,rfl,q _ _ hf⟩
  · obtain⟨its,rv,pl,hz⟩:=I.tuple hs
    have hl:=rv.length
    rw [List.length_map] at hl
    have e1:its.toArray.size=ns.length:=by simp [hl]
    refine mh (ns:=ns) (I.ok.hd hc) pl (dZ rv) (by rw [e1];unfold scanBound;lia) fun h' tk hS hk=>?_
    rw [e1,gN] at hS
    exact⟨.ref s.heap.objs.size,_,I.laid (o:=.set _ _) (fun b o e=>hk b o (Heap.lt_size e) e) (Nat.le_refl _) hS,rfl,q _ _ hf⟩
theorem qO:cQ X (.builtin "len") (fun xs H Q=>∃q S n,xs=[.ref q]∧H q=some (.set S n)∧n≤1000∧Q (.int n) H):=by
  intro pins s σ H xs us Q I r h
  obtain⟨p,S,n,rfl,hs,hn,q⟩:=h
  obtain⟨u,rfl,ru⟩:=fK r
  cases ru
  obtain⟨o,es,ep,t,ho,hex,hd,_,_,_,hfit,rfl⟩:=(show cR X.prog X.w H s.heap p (.set S n) from I.hok p _ hs)
  exact call_len_set ho hex hd hfit (by lia) ⟨.int es.size,H,I.tok _,⟨_,rfl⟩,q⟩
def gb:En→Rv→Option Rv:=fun e x=>(bP e x).bind fun z=>(j2 z.2).bind fun ns=>if ns.length≤1000 then some (.d (.int (pW ns).length)) else none
theorem oX(ns:List Int):(pW ns).length≤ns.length:=by
  have:=firstMet_length_le (fun i=>ns.getD i 0) ns.length
  rw [gN] at this
  exact this
theorem tj:xN K (fun v H Q=>Ba K [v] H fun w H1=>∃q S n,w=.ref q∧H1 q=some (.set S n)∧n≤1000∧Q (.int n) H1) gb:=by
  intro σ H0 F H e x z v Q R A hg q
  unfold gb at hg
  obtain⟨⟨b,ds⟩,h1,hg⟩:=Option.bind_eq_some_iff.mp hg
  obtain⟨ns,h2,hg⟩:=Option.bind_eq_some_iff.mp hg
  split at hg
  case isFalse=>cases hg
  case isTrue hl=>
  cases hg
  obtain⟨l,ws,rfl,d1,s1⟩:=bw R A h1
  have e1:ds=ns.map .int:=gT h2
  subst e1
  have e2:=ax.ints.mp d1
  subst e2
  refine⟨l,ns,rfl,?_,hl,fun p S hp=>?_⟩
  · cases b with
    | true=>exact .inl s1
    | false=>exact .inr s1
  · obtain⟨R1,X1⟩:=R.same (av.new hp (o:=.set S (pW ns).length))
    exact⟨p,S,_,rfl,aq,Nat.le_trans (oX ns) hl,q F _ _ X1 R1 hE⟩
theorem t_(hc:X.calm=true)(hK:X.K=K)(hg:Gl X "len")(hm:X.mg "len"=none)(hgs:Gl X "set")(hms:X.mg "set"=none)(ha:PE X a (fE K fa))(hs:starEach [a] X.env=(false,eval a X.env)::starEach [] X.env)(hpl:(backTo pos2 (starEach [] X.env)).any (·.1)=false)
    (hs2:starEach [.Call (.Name "set" p2) [a] [] pos2] X.env=(false,eval (.Call (.Name "set" p2) [a] [] pos2) X.env)::starEach [] X.env)(hpl2:(backTo pos (starEach [] X.env)).any (·.1)=false):
    PE X (.Call (.Name "len" p) [.Call (.Name "set" p2) [a] [] pos2] [] pos) (fE K (js gb fa)):=
  (kP qO hg hm PySem.boot_len (io (lP (qR hc) hgs hms PyProof.Rows.boot_set (io ha kO hs) (by decide) (by decide) hs hpl) kO hs2) (by decide) (by decide) hs2 hpl2).mono fun σ H Q h=>by
    subst hK
    refine pX (pM tj h) fun v H1 ⟨l,ns,e,h1,h2,h3⟩=>?_
    refine⟨l,ns,e,h1,h2,fun q S hq=>?_⟩
    obtain⟨q',S',n,e1,e2,e3,e4⟩:=h3 q S hq
    exact⟨q',S',n,by rw [e1],e2,e3,e4⟩
end
end L2
namespace L2
open PySem PySem.Spec PyProof.Rows
section
variable{X:Cx}{K:PySem.W.Frag}{a:Expr}{fa:FE}
end
end L2
namespace L2
open PySem PySem.Spec PyProof.Rows
abbrev Rn:=List (Int × Bool)
def vf(R:Rn):List Int:=R.map (·.1)
def w9(W:cf)(R:Rn):List Int:=(R.filter (·.2)).flatMap fun r=>[(W.tie r.1).one,(W.tie r.1).other]
structure Da (W:cf) (R:Rn) (asked taken:List Int):Prop where
  pa:asked.Perm (vf R)
  pt:taken.Perm (w9 W R)
  inw:∀k∈vf R,pO W k
  nd:(vf R).Nodup
  nk:(w9 W R).Nodup
  bd:∀t:Int,0≤t→t < W.things→W.many (vf R) t≤W.pat.getD t.toNat 0
  ak:(R.length:Int)≤W.asks
  sa:asked.Pairwise (· ≤·)
  st:taken.Pairwise (· ≤·)
theorem lG:∀(ns acc:List Int),ns.Nodup→(∀x∈ns,x∉acc)→(ns.foldl step_dedup acc).length=acc.length+ns.length
  | [],acc,_,_=>by simp
  | x::r,acc,h1,h2=>by
    have c:acc.any (· ==x)=false:=by
      rw [List.any_eq_false]
      intro y hy z
      have:y=x:=by simpa using z
      exact h2 x (by simp) (this ▸ hy)
    simp only [List.foldl_cons]
    rw [show step_dedup acc x=acc++[x] by unfold step_dedup;rw [c];rfl,lG r (acc++[x]) (List.nodup_cons.mp h1).2 fun y hy z=>?_]
    · simp;lia
    · rcases List.mem_append.mp z with z | z
      · exact h2 y (by simp [hy]) z
      · simp at z;exact(List.nodup_cons.mp h1).1 (z ▸ hy)
theorem vc{ns:List Int}(h:ns.Nodup):(pW ns).length=ns.length:=by
  have:=lG ns [] h (fun x _ z=>by cases z)
  simpa [pW] using this
end L2
namespace L2
open PySem PySem.Spec PyProof.Rows
section
variable{prog:Program}{w:World}{A:Around}{R:Result→Shared→Prop}
def ja(elt tg iter tg2 iter2:Expr)(ifs ifs2:List Expr)(scope:Scope)(pos:Pos)(acc:Value)(env:Env)(k:Sem PySem.Fin):Sem PySem.Fin:=do
  let x ←eval iter2 env
  standAt iter2.pos
  let x ←foldedSetIterable iter2 env x
  let _ ←runOwn (.compStart (.ListComp elt [⟨tg,iter,ifs,0⟩,⟨tg2,iter2,ifs2,0⟩] scope pos) 1 (←holding [x] (pyIter x)) acc env) env
  k
theorem ml(elt tg iter tg2 iter2:Expr)(ifs ifs2:List Expr)(scope:Scope)(pos:Pos)(it acc:Value)(env:Env):
    compTurn (.ListComp elt [⟨tg,iter,ifs,0⟩,⟨tg2,iter2,ifs2,0⟩] scope pos) 0 it acc env=(do
      standAt iter.pos
      match ←pyNext it with
      | none=>pure (.done .next)
      | some v=>
        letOwnedTupleGo tg it v
        assign tg env v
        let mut ok:=true
        for c in ifs do
          if ok then ok ←isTrue c env (eval c env)
        if ok then ja elt tg iter tg2 iter2 ifs ifs2 scope pos acc env (again (.compLoop (.ListComp elt [⟨tg,iter,ifs,0⟩,⟨tg2,iter2,ifs2,0⟩] scope pos) 0 it acc env))
        else again (.compLoop (.ListComp elt [⟨tg,iter,ifs,0⟩,⟨tg2,iter2,ifs2,0⟩] scope pos) 0 it acc env)):=by rfl
theorem ni(elt tg iter tg2 iter2:Expr)(ifs ifs2:List Expr)(scope:Scope)(pos:Pos)(it acc:Value)(env:Env):
    compTurn (.ListComp elt [⟨tg,iter,ifs,0⟩,⟨tg2,iter2,ifs2,0⟩] scope pos) 1 it acc env=(do
      standAt iter2.pos
      match ←pyNext it with
      | none=>pure (.done .next)
      | some v=>
        letOwnedTupleGo tg2 it v
        assign tg2 env v
        let mut ok:=true
        for c in ifs2 do
          if ok then ok ←isTrue c env (eval c env)
        if ok then
          (do let _ ←call (.builtin "list.append") [acc,←eval elt env])
        again (.compLoop (.ListComp elt [⟨tg,iter,ifs,0⟩,⟨tg2,iter2,ifs2,0⟩] scope pos) 1 it acc env)):=by rfl
def u9(prog:Program)(w:World)(A:Around)(B:Sem PySem.Fin→Sem PySem.Fin)(tg:Expr)(ifs:List Expr)(env:Env)(it:Value)(onward:Shared→Prop)(v:Value)(u:Shared):Prop:=
  wpAny (model prog w) A (letOwnedTupleGo tg it v) (fun _ u1=>wpAny (model prog w) A (assign tg env v) (fun _ u2=>wpAny (model prog w) A
    (forIn ifs true fun c r=>if r=true then do let ok ←isTrue c env (eval c env);pure (ForInStep.yield ok) else pure (ForInStep.yield r)) (fun ok u3=>if ok=true then(∀(k:Sem PySem.Fin) (Q:PySem.Fin→Shared→Prop) (E:Value→Shared→Prop),(∀u5,onward u5→wpAny (model prog w) A k Q E u5)→wpAny (model prog w) A (B k) Q E u3) else onward u3) qo u2) qo u1) qo u
theorem mi{elt tg iter tg2 iter2:Expr}{ifs ifs2:List Expr}{scope:Scope}{pos:Pos}{it acc:Value}{env:Env}(J:Nat→Shared→Prop)
    (turn:∀n u,J n u→wpAny (model prog w) A (pyNext it) (fun r u1=>(r=none→R (.ok .next) u1)∧∀v,r=some v→u9 prog w A (ja elt tg iter tg2 iter2 ifs ifs2 scope pos acc env) tg ifs env it (fun u2=>∃m,m < n∧J m u2) v u1) qo u){n0:Nat}{u0:Shared}(start:J n0 u0):
    codeAny (model prog w) A (.compLoop (.ListComp elt [⟨tg,iter,ifs,0⟩,⟨tg2,iter2,ifs2,0⟩] scope pos) 0 it acc env) R u0:=by
  refine codeAny_loop rfl J (fun n u ju=>?_) n0 start
  show wpAny _ A ((compTurn (.ListComp elt [⟨tg,iter,ifs,0⟩,⟨tg2,iter2,ifs2,0⟩] scope pos) 0 it acc env).onRaise _) _ _ u;refine wpAny_noted ?_;rw [ml]
  refine wpAny_bind (wpAny_standAt (wpAny_bind (wpAny_mono (turn n u ju) (fun r u1 k1=>?_) fun _ _ z=>z.elim)))
  cases r with
  | none=>exact wpAny_pure (k1.1 rfl)
  | some v=>
    refine wpAny_bind (wpAny_mono (k1.2 v rfl) (fun _ u2 k2=>wpAny_bind (wpAny_mono k2 (fun _ u3 k3=>wpAny_bind (wpAny_mono k3 (fun ok u4 k4=>?_) fun _ _ z=>z.elim)) fun _ _ z=>z.elim)) fun _ _ z=>z.elim)
    cases ok with
    | false=>rw [if_neg Bool.false_ne_true] at k4;exact wpAny_pure ⟨rfl,k4⟩
    | true=>
      rw [if_pos rfl] at k4
      exact k4 _ _ _ fun u6 k6=>wpAny_pure ⟨rfl,k6⟩
theorem nh{elt tg iter tg2 iter2:Expr}{ifs ifs2:List Expr}{scope:Scope}{pos:Pos}{it acc:Value}{env:Env}(J:Nat→Shared→Prop)
    (turn:∀n u,J n u→wpAny (model prog w) A (pyNext it) (fun r u1=>(r=none→R (.ok .next) u1)∧∀v,r=some v→sr prog w A elt tg2 ifs2 env it acc (fun u2=>∃m,m < n∧J m u2) v u1) qo u){n0:Nat}{u0:Shared}(start:J n0 u0):
    codeAny (model prog w) A (.compLoop (.ListComp elt [⟨tg,iter,ifs,0⟩,⟨tg2,iter2,ifs2,0⟩] scope pos) 1 it acc env) R u0:=by
  refine codeAny_loop rfl J (fun n u ju=>?_) n0 start
  show wpAny _ A ((compTurn (.ListComp elt [⟨tg,iter,ifs,0⟩,⟨tg2,iter2,ifs2,0⟩] scope pos) 1 it acc env).onRaise _) _ _ u;refine wpAny_noted ?_;rw [ni]
  refine wpAny_bind (wpAny_standAt (wpAny_bind (wpAny_mono (turn n u ju) (fun r u1 k1=>?_) fun _ _ z=>z.elim)))
  cases r with
  | none=>exact wpAny_pure (k1.1 rfl)
  | some v=>
    refine wpAny_bind (wpAny_mono (k1.2 v rfl) (fun _ u2 k2=>wpAny_bind (wpAny_mono k2 (fun _ u3 k3=>wpAny_bind (wpAny_mono k3 (fun ok u4 k4=>?_) fun _ _ z=>z.elim)) fun _ _ z=>z.elim)) fun _ _ z=>z.elim)
    cases ok with
    | false=>rw [if_neg Bool.false_ne_true] at k4;exact wpAny_pure ⟨rfl,k4⟩
    | true=>
      rw [if_pos rfl] at k4
      refine wpAny_bind (wpAny_bind (wpAny_mono k4 (fun x u5 k5=>wpAny_bind (wpAny_mono k5 (fun _ u6 k6=>?_) fun _ _ z=>z.elim)) fun _ _ z=>z.elim));exact wpAny_pure (wpAny_pure ⟨rfl,k6⟩)
theorem mj{elt tg iter tg2 iter2:Expr}{ifs ifs2:List Expr}{scope:Scope}{pos:Pos}{it acc:Value}{env:Env}{s:Shared}
    (h0:codeAny (model prog w) A (.compLoop (.ListComp elt [⟨tg,iter,ifs,0⟩,⟨tg2,iter2,ifs2,0⟩] scope pos) 1 it acc env) R s)
    (h:wpAny (model prog w) A (pyIter it) (fun it' s'=>codeAny (model prog w) A (.compLoop (.ListComp elt [⟨tg,iter,ifs,0⟩,⟨tg2,iter2,ifs2,0⟩] scope pos) 1 it' acc env) R s') (notedBy (model prog w) A env fun x s'=>R (.error x) s') s):
    codeAny (model prog w) A (.compStart (.ListComp elt [⟨tg,iter,ifs,0⟩,⟨tg2,iter2,ifs2,0⟩] scope pos) 1 it acc env) R s:=by
  refine codeAny_of_tree ?_;show wpAny _ _ ((compStart (.ListComp elt [⟨tg,iter,ifs,0⟩,⟨tg2,iter2,ifs2,0⟩] scope pos) 1 it acc env).onRaise (fun x=>do noteFrame x env;standAt theWindowsPlace)) _ _ s
  refine wpAny_notedAt ?_;unfold compStart
  show wpAny _ _ (ask >>= _) _ _ s
  refine wpAny_bind (wpAny_askSetting (wpAny_ite ?_));split
  · first | exact wpAny_bind (wpAny_pure (wpAny_pure (And.intro rfl h0))) | exact wpAny_pure (And.intro rfl h0)
  · first | exact wpAny_bind (wpAny_rule (wpAny_bind (wpAny_standAt (wpAny_bind (wpAny_mono h (fun it' s' h'=>wpAny_pure (And.intro rfl h')) fun _ _ x=>x))))) | (refine wpAny_bind (wpAny_rule ?_);show wpAny _ _ (standAt iter2.pos >>= _) _ _ s;exact wpAny_bind (wpAny_standAt (wpAny_bind (wpAny_mono h (fun it' s' h'=>wpAny_pure (And.intro rfl h')) fun _ _ x=>x))))
end
def uE(l:Addr)(wi:TI)(g:TG)(tc:TT)(te:TE)(σ:L2.St)(H:Hp)(N:L2.St→Hp→Prop):Prop:=
  wi σ H fun J H1=>∃W:Nat→Nat→L2.St→Hp→Prop,(∃m,W 0 m σ H1)∧∀i m σ' H',W i m σ' H'→
    (J.stop i H'∧N σ' H')∨(J.go i H'∧∃N2:L2.St→Hp→Prop,(∀σ2 H2,N2 σ2 H2→∃m',m' < m∧W (i+1) m' σ2 H2)∧
      ∀x H2,J.yld i H' x H2→g x σ' H2 fun σ2 H3=>tc σ2 H3 fun b H4=>if b=true then te σ2 H4 fun v H5=>∃ys,H5 l=some (.lst ys)∧ys.length < sizeLine∧N2 σ2 (aX H5 l (.lst (ys++[v]))) else N2 σ2 H4)
theorem sT{Y:Cx}{elt tg iter tg2 iter2:Expr}{ifs ifs2:List Expr}{scope:Scope}{pos:Pos}{wi:TI}{g:TG}{tc:TT}{te:TE}(hc:Y.calm=true)(hxe:Y.xe=qo)(hi:PI Y tg2 iter2 wi)(hg:PG Y tg2 g)(ht:mZ Y ifs2 tc)(he:PE Y elt te)
    (hs:∀x,foldedSetIterable iter2 Y.env x=pure x){pins:List (Addr × Obj)}{s:Shared}{σ:L2.St}{H:Hp}{D:Addr}{N:L2.St→Hp→Prop}(I:au Y pins σ H s)(h:uE D wi g tc te σ H N)(k:Sem PySem.Fin)(Q:PySem.Fin→Shared→Prop)(E:Value→Shared→Prop)(hk:∀s',(∃σ' H',au Y pins σ' H' s'∧N σ' H')→wpAny (model Y.prog Y.w) Y.A k Q E s'):
    wpAny (model Y.prog Y.w) Y.A (ja elt tg iter tg2 iter2 ifs ifs2 scope pos (.ref D) Y.env k) Q E s:=by
  unfold ja
  have hi':=hi pins s σ H _ I h
  rw [hxe] at hi'
  refine wpAny_bind (wpAny_mono hi' (fun v s1 h1=>wpAny_bind (wpAny_standAt (wpAny_bind (wpAny_of_eq (hs v) (wpAny_bind (wpAny_holding (wpAny_mono h1 (fun itv s2 h2=>?_) fun _ _ z=>z.elim))))))) fun _ _ z=>z.elim)
  obtain⟨it,fp,tn,J,H2,rfl,I2,T,st2,f2,W,⟨m0,w0⟩,turn⟩:=h2
  have stat:∀{H':Hp},(∀b∈fp,H' b=none)→∀b∈fp,ir Y pins H' b:=fun hn b hb=>⟨hn b hb,(f2 b hb).2⟩
  have loop:codeAny (model Y.prog Y.w) Y.A (.compLoop (.ListComp elt [⟨tg,iter,ifs,0⟩,⟨tg2,iter2,ifs2,0⟩] scope pos) 1 (.ref it) (.ref D) Y.env) (fun r s'=>match r with | .ok f=>wpAny (model Y.prog Y.w) Y.A k Q E s' | .error e=>cameBackBy (model Y.prog Y.w) Y.A Y.env E e s') s2:=by
    refine nh (fun n s'=>∃i σ' H',au Y pins σ' H' s'∧tn i s'.heap∧(∀b∈fp,H' b=none)∧W i n σ' H') ?_ (n0:=m0) ⟨0,σ,H2,I2,st2,fun b hb=>(f2 b hb).1,w0⟩
    rintro n s3 ⟨i,σ3,H3,I3,st3,fr3,w3⟩
    rcases turn i n σ3 H3 w3 with ⟨stop,qn⟩ | ⟨go,N2,hN,step⟩
    · refine bz (T.done Y rfl rfl rfl hc i pins s3 σ3 H3 qo I3 (stat fr3) st3 stop) fun r s4 ⟨hr,I4⟩=>?_
      subst hr
      exact⟨fun _=>hk _ ⟨σ3,H3,I4,qn⟩,fun v z=>by cases z⟩
    · refine bz (T.item Y rfl rfl rfl hc i pins s3 σ3 H3 qo I3 (stat fr3) st3 go) fun r s4 ⟨u,hr,h4⟩=>?_
      subst hr
      refine⟨fun z=>(by cases z),fun v z=>?_⟩
      cases z
      refine bz h4 fun _ s5 ⟨x,H5,I5,r5,y5,st5,fr5⟩=>?_
      have I5':=I5.pinned (stat fr5) (T.obj _ _ st5)
      have again:∀{σ8:L2.St} {H8:Hp} {s8:Shared},au Y (pins++gZ fp s5.heap) σ8 H8 s8→N2 σ8 H8→∃m,m < n∧∃i σ' H',au Y pins σ' H' s8∧tn i s8.heap∧(∀b∈fp,H' b=none)∧W i m σ' H':=fun{σ8 H8 s8} I8 n8=>by
        obtain⟨m',hm,w8⟩:=hN σ8 H8 n8
        refine⟨m',hm,i+1,σ8,H8,I8.unpinned,T.keep _ _ _ st5 fun b hb o e=>(I8.pin (b,o) (List.mem_append_right _ (List.mem_append_right _ (bJ hb e)))).1,fun b hb=>?_,w8⟩
        obtain⟨o,e,d⟩:=T.obj _ _ st5 b hb
        exact(I8.pin (b,o) (List.mem_append_right _ (List.mem_append_right _ (bJ hb e)))).2.1
      have hg':=hg _ s5 σ3 H5 x u _ I5' r5 (step x H5 y5)
      rw [hxe] at hg'
      refine bz hg' fun _ s8 ⟨σ8,H8,I8,q8⟩=>?_
      have ht':=ht _ s8 σ8 H8 _ I8 q8
      rw [hxe] at ht'
      refine bz ht' fun ok s9 ⟨H9,I9,q9⟩=>?_
      cases ok with
      | false=>
        rw [if_neg Bool.false_ne_true] at q9 ⊢
        exact again I9 q9
      | true=>
        rw [if_pos rfl] at q9 ⊢
        have he':=he _ s9 σ8 H9 _ I9 q9
        rw [hxe] at he'
        refine bz he' fun v s10 ⟨xv,H10,I10,r10,ys,hl,hz,n10⟩=>?_
        have ha:=il _ s10 σ8 H10 (.ref D) [xv] (.ref D) [v] (fun _ H=>N2 σ8 H) I10 rfl (.cons r10 .nil) ⟨D,ys,xv,rfl,rfl,hl,hz,n10⟩
        rw [hxe] at ha
        refine bz ha fun _ s11 ⟨_,H11,I11,_,q11⟩=>?_
        exact again I11 q11
  exact wpAny_bind (wpAny_runOwn (mj loop (T.self Y.A 0 _ _ _ st2 loop)))
structure pI (cp:List (Nat × Str)) (nT:Nat) (wi:TI) (g:TG) (tc:TT) (wi2:TI) (g2:TG) (tc2:TT) (te:TE) (σ:L2.St) (H:Hp) (Q:VK):Prop where
  go:wi σ H fun J H1=>∀l,H1 l=none→
  ∃W:Nat→Nat→L2.St→Hp→Prop,(∃m,W 0 m (c9 cp nT σ) (aX H1 l (.lst [])))∧∀i m σ' H',W i m σ' H'→
    (J.stop i H'∧Q (.ref l) H')∨(J.go i H'∧∃N:L2.St→Hp→Prop,(∀σ2 H2,N σ2 H2→∃m',m' < m∧W (i+1) m' σ2 H2)∧
      ∀x H2,J.yld i H' x H2→g x σ' H2 fun σ2 H3=>tc σ2 H3 fun b H4=>if b=true then uE l wi2 g2 tc2 te σ2 H4 N else N σ2 H4)
def f_(g:FG)(ft:FT)(fi2:FI)(g2:FG)(ft2:FT)(fe:FE):List PyData→En→List PyData→Option (List PyData × En)
  | [],e,acc=>some (acc,e)
  | x::r,e,acc=>(g x e).bind fun e1=>(ft e1).bind fun b=>if b.1=true then(fi2 b.2).bind fun p=>if p.2.1=[] then(cN g2 ft2 fe p.1 p.2.2 acc).bind fun z=>f_ g ft fi2 g2 ft2 fe r z.2 z.1 else none else f_ g ft fi2 g2 ft2 fe r b.2 acc
def jS(cp:List (Nat × Str))(nT:Nat)(fi:FI)(g:FG)(ft:FT)(fi2:FI)(g2:FG)(ft2:FT)(fe:FE):FE:=fun e=>(fi e).bind fun p=>if (p.2.1.all fun q=> !(cp.any fun c=>c.1==q.1))=true then(f_ g ft fi2 g2 ft2 fe p.1 (iR cp nT p.2.2) []).bind fun z=>if fJ cp z.2 p.2.2=true then some (.l z.1,h_ (fL cp) z.2 p.2.2) else none else none
section
variable{K:PySem.W.Frag}{F H:Hp}{σ:L2.St}{e:En}{cp:List (Nat × Str)}{nT:Nat}
theorem rO{Q:VK}{fi fi2:FI}{g g2:FG}{W:List Nat}{ft ft2:FT}{fe:FE}(hn:(cp.map (·.1)).Nodup)(hW:∀j∈W,cp.length≤j)(h:fE K (jS cp nT fi g ft fi2 g2 ft2 fe) σ H Q):pI cp nT (fI K fi) (fG K g W) (fT K ft) (fI K fi2) (fG K g2 W) (fT K ft2) (fE K fe) σ H Q:=by
  obtain⟨F0,e0,z,e',R0,hf,q⟩:=h
  unfold jS at hf
  obtain⟨⟨items,own,e1⟩,h1,hf⟩:=Option.bind_eq_some_iff.mp hf
  dsimp only at hf
  split at hf
  case isFalse=>cases hf
  case isTrue hO=>
  obtain⟨⟨out,eo⟩,h2,hf⟩:=Option.bind_eq_some_iff.mp hf
  dsimp only at hf
  split at hf
  case isFalse=>cases hf
  case isTrue hB=>
  cases hf
  refine⟨⟨F0,e0,items,own,e1,R0,h1,fun J F1 H1 X1 R1 kp ok=>?_⟩⟩
  intro l hl
  obtain⟨Ri,sub⟩:=R1.inn (nT:=nT) hn
  have hFl:F1 l=none:=R1.freeF hl
  let Iv:Nat→L2.St→Hp→Prop:=fun i=>CI K W (c9 cp nT σ) F1 H1 (iR cp nT e1) l fun _ ei acc=>f_ g ft fi2 g2 ft2 fe (items.drop i) ei acc=some (out,eo)
  have notown:∀p∈own,∀a,σ[p.1]?=some (some (.ref a))→¬cD (c9 cp nT σ) (iR cp nT e1) H1 a:=by
    rintro p hp a ha ⟨k,zf⟩
    obtain⟨xs,c1,c2⟩:=zf.resolve_right fun⟨xss,_,_,z,_⟩=>eH k xss z
    obtain⟨i,s,d1,d2⟩:=fy c1
    have e2:=hZ d1 c2
    have:p.1=i:=R1.inj p.1 i p.2 xs a (kp p hp) d2 ha e2
    have hh:=List.all_eq_true.mp hO p hp
    simp only [Bool.not_eq_true',List.any_eq_false,beq_iff_eq] at hh
    exact hh (i,s) (List.mem_of_getElem? d1) this.symm
  refine⟨fun i m σ' H'=>m=items.length - i∧i≤items.length∧Iv i σ' H',⟨items.length,by simp,Nat.zero_le _,.mk (Ri.putT hFl (fun z=>(Ri.ownH l z) hl)).1 (cP.refl.putT hl (Ri.putT hFl (fun z=>(Ri.ownH l z) hl)).2) hFl (fun z=>(Ri.ownH l (((Ri.putT hFl (fun z=>(Ri.ownH l z) hl)).2 l).mp z)) hl) aq ax.nil h2⟩,?_⟩
  rintro i m σ' H' ⟨rfl,hi,⟨R',X',fl,no,hl',da,hc⟩⟩
  rename_i F' ei acc vs
  have held:oQ K σ F' H' own:=fun p hp=>by
    obtain⟨a,us,c1,c2,c3,c4⟩:=R1.own p.1 p.2 (kp p hp)
    exact⟨a,us,c1,X'.tmp a _ c3 (notown p hp a c1),c4.mono X'.sf⟩
  obtain⟨go,stop,yld⟩:=ok F' H' X'.sf R'.sm held
  by_cases hlt:i < items.length
  · have hd:items.drop i=items[i]::items.drop (i+1):=List.drop_eq_getElem_cons hlt
    rw [hd] at hc
    unfold f_ at hc
    obtain⟨e2,c2,hc⟩:=Option.bind_eq_some_iff.mp hc
    obtain⟨⟨b,e3⟩,c3,hc⟩:=Option.bind_eq_some_iff.mp hc
    refine .inr ⟨go i hlt,Iv (i+1),fun σ2 H2 r=>⟨items.length - (i+1),by lia,rfl,hlt,r⟩,fun x H2 hy=>?_⟩
    obtain⟨F2,sH,sF2,sm2,fz,hx⟩:=yld i items[i] x H2 (List.getElem?_eq_getElem hlt) hy
    obtain⟨R2,X2⟩:=R'.step sH sF2 sm2 fz
    refine⟨F2,ei,items[i],e2,R2,hx,c2,fun σ3 X3 R3=>⟨F2,e2,b,e3,R3,c3,fun F4 H4 X4 R4=>?_⟩⟩
    have hlH2:H2 l=some (.lst vs):=sH _ _ hl'
    have no2:¬cD σ' ei H2 l:=fun z=>by
      rcases X2.ow l z with z | z
      · exact no z
      · rw [hl'] at z;cases z
    have no3:¬cD σ3 e2 H2 l:=fun z=>by
      rcases X3.own l z with z | z
      · exact no2 z
      · rw [hlH2] at z;cases z
    have fl2:F2 l=none:=fz l fl (by rw [hl'];simp)
    have hlH4:H4 l=some (.lst vs):=X4.tmp l _ hlH2 no3
    have fl4:F4 l=none:=X4.fr l vs fl2 hlH2 no3
    have no4:¬cD σ3 e3 H4 l:=fun z=>by
      rcases X4.ow l z with z | z
      · exact no3 z
      · rw [hlH2] at z;cases z
    have E4:cP W (c9 cp nT σ) F1 H1 (iR cp nT e1) σ3 F4 H4 e3:=((X'.trans X2.s).trans X3).trans X4.s
    have da4:=da.mono (sF2.trans X4.sf)
    cases b with
    | false=>
      rw [if_neg (by simp)] at hc
      exact sX (.mk R4 E4 fl4 no4 hlH4 da4 hc)
    | true=>
      rw [if_pos rfl] at hc
      obtain⟨⟨its2,own2,e5⟩,c5,hc⟩:=Option.bind_eq_some_iff.mp hc
      dsimp only at hc
      split at hc
      case isFalse=>cases hc
      case isTrue ho2=>
      subst ho2
      obtain⟨⟨acc2,e6⟩,c6,hc⟩:=Option.bind_eq_some_iff.mp hc
      refine sY ⟨F4,e3,its2,[],e5,R4,c5,fun J2 F5 H5 X5 R5 _ ok2=>?_⟩
      have hlH5:H5 l=some (.lst vs):=X5.tmp l _ hlH4 no4
      have fl5:F5 l=none:=X5.fr l vs fl4 hlH4 no4
      have no5:¬cD σ3 e5 H5 l:=fun z=>by
        rcases X5.ow l z with z | z
        · exact no4 z
        · rw [hlH4] at z;cases z
      let Iv2:Nat→L2.St→Hp→Prop:=fun j=>CI K W (c9 cp nT σ) F1 H1 (iR cp nT e1) l fun F' ei acc=>av F5 F'∧cN g2 ft2 fe (its2.drop j) ei acc=some (acc2,e6)
      refine⟨fun j m σ' H'=>m=its2.length - j∧j≤its2.length∧Iv2 j σ' H',⟨its2.length,by simp,Nat.zero_le _,.mk R5 (E4.trans X5.s) fl5 no5 hlH5 (da4.mono X5.sf) ⟨av.refl _,c6⟩⟩,?_⟩
      rintro j m σ6 H6 ⟨rfl,hj,⟨R6,X6,fl6,no6,hl6,da6,s6,hc6⟩⟩
      rename_i F6 ei6 acc6 vs6
      obtain⟨go2,stop2,yld2⟩:=ok2 F6 H6 s6 R6.sm (fun p hp=>by cases hp)
      by_cases hjt:j < its2.length
      · have hd2:its2.drop j=its2[j]::its2.drop (j+1):=List.drop_eq_getElem_cons hjt
        rw [hd2] at hc6
        unfold cN at hc6
        obtain⟨e7,c7,hc6⟩:=Option.bind_eq_some_iff.mp hc6
        obtain⟨⟨b8,e8⟩,c8,hc6⟩:=Option.bind_eq_some_iff.mp hc6
        refine .inr ⟨go2 j hjt,Iv2 (j+1),fun σ2 H2 r=>⟨its2.length - (j+1),by lia,rfl,hjt,r⟩,fun x7 H7 hy7=>?_⟩
        obtain⟨F7,sH7,sF7,sm7,fz7,hx7⟩:=yld2 j its2[j] x7 H7 (List.getElem?_eq_getElem hjt) hy7
        obtain⟨R7,X7⟩:=R6.step sH7 sF7 sm7 fz7
        refine⟨F7,ei6,its2[j],e7,R7,hx7,c7,fun σ8 X8 R8=>⟨F7,e7,b8,e8,R8,c8,fun F9 H9 X9 R9=>?_⟩⟩
        have hlH7:H7 l=some (.lst vs6):=sH7 _ _ hl6
        have no7:¬cD σ6 ei6 H7 l:=fun z=>by
          rcases X7.ow l z with z | z
          · exact no6 z
          · rw [hl6] at z;cases z
        have no8:¬cD σ8 e7 H7 l:=fun z=>by
          rcases X8.own l z with z | z
          · exact no7 z
          · rw [hlH7] at z;cases z
        have fl7:F7 l=none:=fz7 l fl6 (by rw [hl6];simp)
        have hlH9:H9 l=some (.lst vs6):=X9.tmp l _ hlH7 no8
        have fl9:F9 l=none:=X9.fr l vs6 fl7 hlH7 no8
        have no9:¬cD σ8 e8 H9 l:=fun z=>by
          rcases X9.ow l z with z | z
          · exact no8 z
          · rw [hlH7] at z;cases z
        have E9:cP W (c9 cp nT σ) F1 H1 (iR cp nT e1) σ8 F9 H9 e8:=((X6.trans X7.s).trans X8).trans X9.s
        have s9:av F5 F9:=(s6.trans sF7).trans X9.sf
        cases b8 with
        | false=>
          rw [if_neg (by simp)] at hc6
          exact sX (.mk R9 E9 fl9 no9 hlH9 (da6.mono (sF7.trans X9.sf)) ⟨s9,hc6⟩)
        | true=>
          rw [if_pos rfl] at hc6
          obtain⟨⟨r,e10⟩,c10,hc6⟩:=Option.bind_eq_some_iff.mp hc6
          obtain⟨d,c11,hc6⟩:=Option.bind_eq_some_iff.mp hc6
          split at hc6
          case isFalse=>cases hc6
          case isTrue hlen=>
          refine sY ⟨F9,e8,r,e10,R9,c10,fun Fa Ha v Xa Ra Aa=>?_⟩
          have hlHa:Ha l=some (.lst vs6):=Xa.tmp l _ hlH9 no9
          have fla:Fa l=none:=Xa.fr l vs6 fl9 hlH9 no9
          have noa:¬cD σ8 e10 Ha l:=fun z=>by
            rcases Xa.ow l z with z | z
            · exact no9 z
            · rw [hlH9] at z;cases z
          obtain⟨Fb,Rb,sb,db,fb⟩:=cS.frozen Ra (rs:=[r]) (vs:=[v]) ⟨v,[],rfl,Aa,rfl⟩ (ie c11)
          have flb:Fb l=none:=fb l fla (by rw [hlH9];simp)
          have Xb:=Xa.frz sb fb
          have ll:=da6.len
          have sl:sizeLine=16777216:=sizeLine_eq
          have dv:DA K Fb d v:=by
            simp only [ax] at db
            obtain⟨v',r',e',hv,_⟩:=db
            cases e';exact hv
          obtain⟨Rc,oc⟩:=Rb.putT (ws:=vs6++[v]) flb noa
          exact⟨vs6,hlHa,by lia,.mk Rc ((E9.trans Xb.s).putT hl oc) flb (fun z=>noa ((oc l).mp z)) aq ((da6.mono (sF7.trans (X9.sf.trans (Xa.sf.trans sb)))).append (ax.one dv)) ⟨s9.trans (Xa.sf.trans sb),hc6⟩⟩
      · have hd2:its2.drop j=[]:=List.drop_eq_nil_of_le (by lia)
        rw [hd2] at hc6
        cases hc6
        exact .inl ⟨stop2 j (by lia),.mk R6 X6 fl6 no6 hl6 da6 hc⟩
  · have hd:items.drop i=[]:=List.drop_eq_nil_of_le (by lia)
    rw [hd] at hc
    cases hc
    refine .inl ⟨stop i (by lia),?_⟩
    obtain⟨R9,X9,o9⟩:=jq R1 sub eH X'.sf X'.dom X'.fr X'.lst X'.tmp R' (fun i k xs g1 g2=>X'.wr k fun z=>by
      obtain⟨s,g⟩:=ce g2
      have:=(List.getElem?_eq_some_iff.mp g).1
      have:=hW k z
      lia) fun i k xs g1 g2=>by
        obtain⟨s,g⟩:=ce g2
        unfold fJ at hB
        have hb:=List.all_eq_true.mp hB _ (List.mem_of_getElem? g)
        simp only [g1,g2,Option.getD_some,rT,Bool.not_true,Bool.false_or] at hb
        exact mC.mp hb
    exact q F' H' (.ref l) (X1.trans X9) R9 ⟨l,vs,rfl,X1.dom l hl,fl,hl',da,fun z=>R1.ownH l (o9 l z) hl⟩
end
theorem PG.wide{X:Cx}{K:PySem.W.Frag}{tg:Expr}{g:FG}{W W':List Nat}(h:PG X tg (fG K g W))(hw:∀j,j∈W→j∈W'):PG X tg (fG K g W'):=h.mono fun v σ H Q ⟨F,e,x,e',R,d,hg,q⟩=>⟨F,e,x,e',R,d,hg,fun σ' x=>q σ' (x.mono hw)⟩
section
variable{X:Cx}{K:PySem.W.Frag}{pos:Pos}
end
theorem og{X:Cx}{ix:Nat}{nm:Str}{posn poss:Pos}{elt iter tg iter2 tg2:Expr}{ifs ifs2:List Expr}{scope:Scope}{pos:Pos}{wi wi2:TI}{g g2:TG}{tc tc2:TT}{te:TE}(sc0:Scope)(N0:List Str)(cp:List (Nat × Str))(tgN:List Str)
    (hc:X.calm=true)(hsc:X.env.scope=sc0)(hN0:X.N=N0)(hi:PI X tg iter wi)
    (hg:∀C s0 H0 fp,PG (ao X scope cp tgN C s0 H0 fp) tg g)
    (ht:∀C s0 H0 fp,mZ (ao X scope cp tgN C s0 H0 fp) ifs tc)
    (hi2:∀C s0 H0 fp,PI (ao X scope cp tgN C s0 H0 fp) tg2 iter2 wi2)
    (hg2:∀C s0 H0 fp,PG (ao X scope cp tgN C s0 H0 fp) tg2 g2)
    (ht2:∀C s0 H0 fp,mZ (ao X scope cp tgN C s0 H0 fp) ifs2 tc2)
    (he:∀C s0 H0 fp,PE (ao X scope cp tgN C s0 H0 fp) elt te)
    (hk:scope.kind=.function)(hcell:∀y∈scope.names,y.2≠.cell)(hnames:∀y∈scope.names,y.2=.local→scope.names.lookup y.1=some .local)
    (hfr:∀y∈scope.names,y.2=.free→scope.names.lookup y.1=some .free∧sc0.names.lookup y.1=some .cell)
    (hcp:∀p∈cp,N0[p.1]?=some p.2)(hcq:∀p∈cp,sc0.names.lookup p.2=some .cell∧scope.names.lookup p.2=some .free)
    (hNd:X.N.Nodup)(hix:X.N[ix]?=some nm)(hlc:X.env.scope.names.lookup nm=some .local)(hsw:swapsWith (.ListComp elt [⟨tg,iter,ifs,0⟩,⟨tg2,iter2,ifs2,0⟩] scope pos) (some (.Name nm posn)) poss.line X.env=pure true)
    (hs2:∀C s0 H0 fp x,foldedSetIterable iter2 (ao X scope cp tgN C s0 H0 fp).env x=pure x)(hs:∀x,foldedSetIterable iter X.env x=pure x:=by intro _;rfl):
    PS X (.Assign [.Name nm posn] (.ListComp elt [⟨tg,iter,ifs,0⟩,⟨tg2,iter2,ifs2,0⟩] scope pos) poss) (wB (pI cp tgN.length wi g tc wi2 g2 tc2 te) (qf ix)):=by
  intro pins s σ H D0 I h
  let Q:VK:=fun x H1=>D0.nx (σ.set ix (some x)) H1
  have h:pI cp tgN.length wi g tc wi2 g2 tc2 te σ H Q:=h
  have hkind:∀x,X.env.kindOf x=sc0.names.lookup x:=fun x=>by unfold Env.kindOf;rw [hsc]
  have hfree:∀y∈scope.names,y.2=.free→∃c,X.env.cells.lookup y.1=some c:=fun y hy e=>I.ok.has y.1 (.inl (by rw [hkind];exact(hfr y hy e).2))
  rw [exec_Assign_Name_used _ _ _ _ hsw]
  refine wpAny_bind (wpAny_standAt (wpAny_bind ?_))
  unfold evalThenUse
  refine wpAny_bind ?_
  refine wpAny_comprehension_free (use:=some (assign (.Name nm posn) X.env)) rfl hs (iE hfree) hk hnames (wpAny_mono (hi pins s σ H _ I h.go) (fun xv s₁ h₁=>wpAny_mono h₁ (fun itv s₂ h₂=>?_) fun _ _ e=>e) fun _ _ e=>e)
  obtain⟨it,fp,tn,J,H2,rfl,I2,T,st2,f2,hq⟩:=h₂
  refine wpAny_newObj_type ?_
  have hlF:H2 s₂.heap.objs.size=none:=I2.hok.fresh (Nat.le_refl _)
  have I3:au X pins σ (aX H2 s₂.heap.objs.size (.lst [])) {s₂ with heap:=s₂.heap.push {cls:=.type "list",data:=.seq ([]:List Value).toArray}}:=I2.lnew (t':=s₂.toks) .nil (Nat.zero_le _)
  obtain⟨W,⟨m0,w0⟩,turn⟩:=hq _ hlF
  have f3:∀b∈fp,ir X pins (aX H2 s₂.heap.objs.size (.lst [])) b:=fun b hb=>by
    obtain⟨f0,fr⟩:=f2 b hb
    obtain⟨o,ho,_⟩:=T.obj _ _ st2 b hb
    exact⟨by rw [aJ (Nat.ne_of_lt (Heap.lt_size ho))];exact f0,fr⟩
  have st3:tn 0 (s₂.heap.push {cls:=.type "list",data:=.seq ([]:List Value).toArray}):=T.keep _ _ _ st2 fun b _ o e=>Heap.get?_push_of_some _ e
  generalize hD:s₂.heap.objs.size=D at*
  generalize hs3:({s₂ with heap:=s₂.heap.push {cls:=.type "list",data:=.seq ([]:List Value).toArray}}:Shared)=s₃ at*
  have hst3:tn 0 s₃.heap:=by rw [←hs3];exact st3
  refine wpAny_newFunctionEnv hcell (by intro y hy;simp at hy) (fun h₁ hns₁ hsb₁=>?_) hk
  generalize hC:s₃.heap.objs.size=C at*
  have old:∀b o,s₃.heap.get? b=some o→h₁.get? b=some o:=fun b o e=>hsb₁.extBut b o (by rw [←hC];exact Nat.ne_of_lt (Heap.lt_size e)) (Heap.get?_push_of_some _ e)
  have nC:∀b o,s₃.heap.get? b=some o→b≠C:=fun b o e=>by rw [←hC];exact Nat.ne_of_lt (Heap.lt_size e)
  have hHC:(aX H2 D (.lst [])) C=none:=I3.hok.fresh (by rw [hC];exact Nat.le_refl _)
  have clS:∀x c,(eS X.env scope.names []).lookup x=some c→X.env.cells.lookup x=some c:=fun x c e=>f9 _ _ x c hfree (fun _ _ z=>by simp at z) e
  have clH:∀x,(∃y∈scope.names,y.1=x∧y.2=.free)→∃c,(eS X.env scope.names []).lookup x=some c:=fun x e=>iX _ _ x (.inl e)
  have ok':(ao X scope cp tgN C s₃ (aX H2 D (.lst [])) fp).Ok:=by
    refine⟨I.ok.mod,hk,I.ok.glob,I.ok.blt,by rw [←hC];exact Nat.le_refl _,fun x y c e1 e2=>I.ok.inj x y c (clS _ _ e1) (clS _ _ e2),fun x e=>clH x (bW hcell e),fun x c e1 e2=>?_,I.ok.hd,I.ok.frames,.inl rfl,fun b hb=>?_,fun b o e=>I3.bs b o e,?_,fun b o e hb=>?_,fun b hb z=>?_,I3.stack,fun b hb=>I3.stkFree b hb⟩
    · exfalso
      have e1':scope.names.lookup x=some .local:=by simpa [ao] using e1
      have e2':=clS x c e2
      obtain⟨c',hc'⟩:∃y∈scope.names,y.1=x∧y.2=.free:=by
        by_cases q:∃y∈scope.names,y.1=x∧y.2=.free
        · exact q
        · exfalso
          have:∀(names:List (Str × NameKind)) (cs:List (Str × Addr)),(¬∃y∈names,y.1=x∧y.2=.free)→cs.lookup x=none→(eS X.env names cs).lookup x=none:=by
            intro names
            induction names with
            | nil=>intro cs _ h;exact h
            | cons y r ih=>
              intro cs hn hcs
              obtain⟨n,k⟩:=y
              refine ih _ (fun⟨y,hy,z⟩=>hn ⟨y,List.mem_cons_of_mem _ hy,z⟩) ?_
              by_cases hk:(k==NameKind.free)=true
              · rw [if_pos hk,List.lookup_cons]
                cases hx:x==n with
                | true=>exact absurd ⟨(n,k),List.mem_cons_self,(by simpa using hx:x=n).symm,by simpa using hk⟩ hn
                | false=>exact hcs
              · rw [if_neg hk];exact hcs
          have z:=this scope.names [] q rfl
          have e2'':(eS X.env scope.names []).lookup x=some c:=e2
          rw [z] at e2'';cases e2''
      have z:=(hfr c' hc'.1 hc'.2.2).1
      rw [hc'.2.1,e1'] at z;cases z
    · obtain⟨f0,f1,f4,f5,f6,f7⟩:=f3 b hb
      obtain⟨o,ho,_⟩:=T.obj _ _ hst3 b hb
      exact⟨nC b o ho,fun x c e=>f6 x c (clS x c e)⟩
    · exact Nat.le_trans I.ok.bsz I3.sz
    · obtain⟨f0,f1,f4,f5,f6,f7⟩:=f3 b hb
      rcases f5 with z | z
      · exact I.ok.noex b o e z
      · have:=(I.ok.bs b o e).1
        exact absurd (Nat.lt_of_lt_of_le (Heap.lt_size this) z) (Nat.lt_irrefl _)
    · obtain⟨f0,f1,f4,f5,f6,f7⟩:=f3 b hb
      rcases List.mem_cons.mp (I3.stkSub b z) with z | z
      · exact f1 z
      · exact f4 z
  have I4:au (ao X scope cp tgN C s₃ (aX H2 D (.lst [])) fp) [] (c9 cp tgN.length σ) (aX H2 D (.lst [])) {s₃ with heap:=h₁,toks:=s₃.toks+([]:List (Str × Value)).length}:=by
    refine⟨ok',rfl,I3.bare,Un.kept old,⟨_,hns₁,fun i x v e1 e2 e3=>?_⟩,fun x c e=>?_,hHC,fun x c e=>I3.freeC x c (clS x c e),fun p hp=>by simp [ao] at hp,I3.hok.kept old,by simp [c9,ao]⟩
    · have hlt:i < cp.length:=by
        by_cases q:i < cp.length
        · exact q
        · exfalso
          unfold c9 at e2
          rw [List.getElem?_append_right (by simp;lia)] at e2
          rw [List.getElem?_replicate] at e2
          split at e2<;>cases e2
      have e1':(cp.map (·.2))[i]?=some x:=by
        have e1'':(cp.map (·.2)++tgN)[i]?=some x:=e1
        rwa [List.getElem?_append_left (by simp;exact hlt)] at e1''
      have e2':(cp.map (fun p=>(σ[p.1]?).join))[i]?=some (some v):=by
        unfold c9 at e2
        rwa [List.getElem?_append_left (by simp;exact hlt)] at e2
      rw [List.getElem?_map,List.getElem?_eq_getElem hlt] at e1' e2'
      have ex:(cp[i]).2=x:=by simpa using e1'
      have ev:(σ[(cp[i]).1]?).join=some v:=by simpa using e2'
      have ev':σ[(cp[i]).1]?=some (some v):=by
        cases q:σ[(cp[i]).1]? with
        | none=>rw [q] at ev;cases ev
        | some z=>rw [q] at ev;simp only [Option.join_some] at ev;rw [ev]
      have hN:=hcp cp[i] (List.getElem_mem hlt)
      rw [←hN0] at hN
      obtain⟨hcl,hcf⟩:=hcq cp[i] (List.getElem_mem hlt)
      rw [ex] at hN hcl hcf
      obtain⟨m,hn,hl⟩:=I3.loc
      obtain⟨u,r,l⟩:=hl _ x v hN ev' (.inr (.inl (by rw [hsc];exact hcl)))
      refine⟨u,r,.inr ?_⟩
      rcases l with ⟨k1,_⟩ | ⟨k1,c,hcc,o,ho,hd⟩
      · rw [hkind,hcl] at k1;cases k1
      · have e3':(relabel scope X.env).names.lookup x=some .local∨(relabel scope X.env).names.lookup x=some .cell∨(relabel scope X.env).names.lookup x=some .free:=e3
        have nl:(relabel scope X.env).names.lookup x=some .cell∨(relabel scope X.env).names.lookup x=some .free:=by
          rcases e3' with z | z | z
          · exact absurd z (dj hcf)
          · exact .inl z
          · exact .inr z
        obtain⟨c',hc'⟩:=clH x (bW hcell nl)
        have:=clS x c' hc'
        rw [hcc] at this;cases this
        exact⟨nl,c,hc',o,old c o ho,hd⟩
    · obtain⟨v,o,ho,hd⟩:=I3.cell x c (clS x c e)
      exact⟨v,o,old c o ho,hd⟩
  have hst4:tn 0 h₁:=T.keep _ _ _ hst3 fun b _ o e=>old b o e
  have loop:codeAny (model X.prog X.w) X.A (.compLoop (.ListComp elt [⟨tg,iter,ifs,0⟩,⟨tg2,iter2,ifs2,0⟩] scope pos) 0 (.ref it) (.ref D) (compEnvC scope (eS X.env scope.names []) C X.env))
      (compPost (model X.prog X.w) X.A X.xe (some (assign (.Name nm posn) X.env)) (fun _ s'=>wpAny (model X.prog X.w) X.A (pure ()) (fun _ s''=>wpAny (model X.prog X.w) X.A (pure Flow.next) (SP X pins D0) X.xe s'') X.xe s') (.ref D) C) {s₃ with heap:=h₁,toks:=s₃.toks+([]:List (Str × Value)).length}:=by
    refine mi (fun n s'=>∃i σ' H',au (ao X scope cp tgN C s₃ (aX H2 D (.lst [])) fp) [] σ' H' s'∧tn i s'.heap∧(∀b∈fp,H' b=none)∧W i n σ' H') ?_ (n0:=m0) ⟨0,_,_,I4,hst4,fun b hb=>(f3 b hb).1,w0⟩
    rintro n s5 ⟨i,σ5,H5,I5,st5,fr5,w5⟩
    have stat:∀{H':Hp},(∀b∈fp,H' b=none)→∀b∈fp,ir (ao X scope cp tgN C s₃ (aX H2 D (.lst [])) fp) [] H' b:=fun hn b hb=>
      ⟨hn b hb,(ok'.exf b hb).1,ok'.exfs b hb,.inl hb,(ok'.exf b hb).2,fun p hp=>by simp [ao] at hp⟩
    rcases turn i n σ5 H5 w5 with ⟨stop,qn⟩ | ⟨go,N,hN,step⟩
    · refine bz (T.done (ao X scope cp tgN C s₃ (aX H2 D (.lst [])) fp) rfl rfl rfl hc i [] s5 σ5 H5 (fun _ _=>False) I5 (stat fr5) st5 stop) fun r s6 ⟨hr,I6⟩=>?_
      subst hr
      refine⟨fun _=>?_,fun v z=>by cases z⟩
      obtain⟨m,hn,_⟩:=I6.loc
      have I7:au X pins σ H5 s6:=by
        have key:∀h':Heap,Heap.SameBut C s6.heap h'→au X pins σ H5 {s6 with heap:=h'}:=fun h' sb=>by
          have ub:=I6.base
          have kp:∀b u,b≠C→s6.heap.get? b=some u→h'.get? b=some u:=fun b u ne e=>sb.extBut b u ne e
          have nit:∀b u,H5 b=some u→b≠C:=fun b u e z=>by
            have:=I6.free
            rw [z] at e
            rw [show H5 C=none from this] at e;cases e
          refine I3.call' (s':={s6 with heap:=h'}) (ch:=fp) I6.os ⟨fun b o e n hb hx=>kp b o (nC b o e) (ub.keep b o e n hb hx),fun b o e n hb hx=>?_,ub.free,fun b o e hx=>?_,ub.tups,ub.frzs,ub.tbls⟩ (fun b u e=>?_) I6.bare (fun b hb=>?_)
          · obtain⟨sl,q⟩:=ub.slot b o e n hb hx
            exact⟨sl,kp b _ (nC b o e) q⟩
          · obtain⟨o',q⟩:=ub.there b o e hx
            exact⟨o',kp b _ (nC b o e) q⟩
          · refine(I6.hok b u e).stay (fun c v hc q=>kp c v ?_ q) (fun _ q=>q) fun _ _ q=>q
            rcases hc with z | z
            · rw [z];exact nit b u e
            · exact nit c _ z
          · obtain⟨f0,f1,f4,f5,f6,f7⟩:=f3 b hb
            exact⟨f5,f1,f6,f7⟩
        exact key s6.heap ⟨rfl,fun _ _=>rfl⟩
      have fC:ir X pins H5 C:=I3.fpOk (by rw [hC];exact Nat.le_refl _) I6.free
      show wpAny (model X.prog X.w) X.A (assign (.Name nm posn) X.env (.ref D)) _ X.xe s6
      refine wpAny_assign_Name (jR (v:=.ref D) I7 hNd hix (Or.inl hlc) rfl (fun s' I' hsb=>?_) (Or.inr hlc))
      obtain⟨a,sb,ha⟩:=hsb
      have nCa:C≠a:=by
        rcases ha with z | z
        · rw [z];exact fC.2.1
        · exact fun e=>fC.2.2.2.2.1 _ _ z e.symm
      obtain⟨oN,esN,epN,hoN,rN⟩:=hn
      refine⟨m,⟨oN,esN,epN,(sb.2 C nCa).trans hoN,rN⟩,fun h' sb'=>wpAny_pure (wpAny_pure ?_)⟩
      have I8:au X pins (σ.set ix (some (.ref D))) H5 {s' with heap:=h',toks:=s'.toks}:=I'.turnedL (t':=s'.toks) (fp:=[C]) (fun b hb=>by rw [List.mem_singleton.mp hb];exact fC) fun b o nb e=>sb'.extBut b o (by simpa using nb) e
      exact⟨_,H5,I8,qn⟩
    · refine bz (T.item (ao X scope cp tgN C s₃ (aX H2 D (.lst [])) fp) rfl rfl rfl hc i [] s5 σ5 H5 (fun _ _=>False) I5 (stat fr5) st5 go) fun r s6 ⟨u,hr,h6⟩=>?_
      subst hr
      refine⟨fun z=>(by cases z),fun v z=>?_⟩
      cases z
      refine bz h6 fun _ s7 ⟨x,H7,I7,r7,y7,st7,fr7⟩=>?_
      have I7':=I7.pinned (stat fr7) (T.obj _ _ st7)
      have again:∀{σ8:L2.St} {H8:Hp} {s8:Shared},au (ao X scope cp tgN C s₃ (aX H2 D (.lst [])) fp) ([]++gZ fp s7.heap) σ8 H8 s8→N σ8 H8→∃m,m < n∧∃i σ' H',au (ao X scope cp tgN C s₃ (aX H2 D (.lst [])) fp) [] σ' H' s8∧tn i s8.heap∧(∀b∈fp,H' b=none)∧W i m σ' H':=fun{σ8 H8 s8} I8 n8=>by
        obtain⟨m',hm,w8⟩:=hN σ8 H8 n8
        refine⟨m',hm,i+1,σ8,H8,I8.unpinned,T.keep _ _ _ st7 fun b hb o e=>(I8.pin (b,o) (List.mem_append_right _ (List.mem_append_right _ (bJ hb e)))).1,fun b hb=>?_,w8⟩
        obtain⟨o,e,d⟩:=T.obj _ _ st7 b hb
        exact(I8.pin (b,o) (List.mem_append_right _ (List.mem_append_right _ (bJ hb e)))).2.1
      refine bz (hg C s₃ (aX H2 D (.lst [])) fp _ s7 σ5 H7 x u _ I7' r7 (step x H7 y7)) fun _ s8 ⟨σ8,H8,I8,q8⟩=>?_
      refine bz (ht C s₃ (aX H2 D (.lst [])) fp _ s8 σ8 H8 _ I8 q8) fun ok s9 ⟨H9,I9,q9⟩=>?_
      cases ok with
      | false=>
        rw [if_neg Bool.false_ne_true] at q9 ⊢
        exact again I9 q9
      | true=>
        rw [if_pos rfl] at q9 ⊢
        exact fun k Q' E' hk=>sT (Y:=ao X scope cp tgN C s₃ (aX H2 D (.lst [])) fp) hc rfl (hi2 C s₃ _ fp) (hg2 C s₃ _ fp) (ht2 C s₃ _ fp) (he C s₃ _ fp) (hs2 C s₃ _ fp) I9 q9 k Q' E' fun s' ⟨σ11,H11,I11,q11⟩=>hk s' (again I11 q11)
  exact codeAny_compStart_list loop (T.self X.A 0 _ _ _ hst4 loop)
section
variable{X:Cx}{K:PySem.W.Frag}{pos:Pos}
theorem pz{ix:Nat}{nm:Str}{posn poss:Pos}{elt iter tg iter2 tg2:Expr}{ifs ifs2:List Expr}{scope:Scope}{fi fi2:FI}{g g2:FG}{ft ft2:FT}{fe:FE}{W W2:List Nat}(sc0:Scope)(N0:List Str)(cp:List (Nat × Str))(tgN:List Str)
    (hc:X.calm=true)(hsc:X.env.scope=sc0)(hN0:X.N=N0)(hi:PI X tg iter (fI K fi))
    (hg:∀C s0 H0 fp,PG (ao X scope cp tgN C s0 H0 fp) tg (fG K g W))
    (ht:∀C s0 H0 fp,mZ (ao X scope cp tgN C s0 H0 fp) ifs (fT K ft))
    (hi2:∀C s0 H0 fp,PI (ao X scope cp tgN C s0 H0 fp) tg2 iter2 (fI K fi2))
    (hg2:∀C s0 H0 fp,PG (ao X scope cp tgN C s0 H0 fp) tg2 (fG K g2 W2))
    (ht2:∀C s0 H0 fp,mZ (ao X scope cp tgN C s0 H0 fp) ifs2 (fT K ft2))
    (he:∀C s0 H0 fp,PE (ao X scope cp tgN C s0 H0 fp) elt (fE K fe))
    (hk:scope.kind=.function)(hcell:∀y∈scope.names,y.2≠.cell)(hnames:∀y∈scope.names,y.2=.local→scope.names.lookup y.1=some .local)
    (hfr:∀y∈scope.names,y.2=.free→scope.names.lookup y.1=some .free∧sc0.names.lookup y.1=some .cell)
    (hcp:∀p∈cp,N0[p.1]?=some p.2)(hcq:∀p∈cp,sc0.names.lookup p.2=some .cell∧scope.names.lookup p.2=some .free)(hnd:(cp.map (·.1)).Nodup)(hW:∀j∈W++W2,cp.length≤j)
    (hNd:X.N.Nodup)(hix:X.N[ix]?=some nm)(hlc:X.env.scope.names.lookup nm=some .local)(hsw:swapsWith (.ListComp elt [⟨tg,iter,ifs,0⟩,⟨tg2,iter2,ifs2,0⟩] scope pos) (some (.Name nm posn)) poss.line X.env=pure true)
    (hs2:∀C s0 H0 fp x,foldedSetIterable iter2 (ao X scope cp tgN C s0 H0 fp).env x=pure x)(hs:∀x,foldedSetIterable iter X.env x=pure x):
    PS X (.Assign [.Name nm posn] (.ListComp elt [⟨tg,iter,ifs,0⟩,⟨tg2,iter2,ifs2,0⟩] scope pos) poss) (fS K (ba ix (jS cp tgN.length fi g ft fi2 g2 ft2 fe)) [ix]):=(og sc0 N0 cp tgN hc hsc hN0 hi (fun C s0 H0 fp=>(hg C s0 H0 fp).wide fun j hj=>List.mem_append_left W2 hj) ht hi2 (fun C s0 H0 fp=>(hg2 C s0 H0 fp).wide fun j hj=>List.mem_append_right W hj) ht2 he hk hcell hnames hfr hcp hcq hNd hix hlc hsw hs2 hs).mono fun D σ H h=>by
  obtain⟨F,e,fl,R,hf,q⟩:=h
  unfold ba at hf
  obtain⟨⟨r,e1⟩,h1,hf⟩:=Option.bind_eq_some_iff.mp hf
  obtain⟨e2,h2,hf⟩:=Option.map_eq_some_iff.mp hf
  cases hf
  refine rO hnd hW ⟨F,e,r,e1,R,h1,fun F1 H1 v X1 R1 A1=>?_⟩
  obtain⟨x,R2⟩:=pw R X1 R1 A1 h2
  exact q F1 H1 _ x R2
variable{o:Expr}{fo:FE}{apos cpos:Pos}
end
end L2
namespace L2
open PySem PySem.Spec PyProof.Rows
section
variable{X:Cx}{K:PySem.W.Frag}
def Dg:List Int→Int
  | []=>0
  | x::r=>r.foldl max x
end
end L2
namespace L2
open PySem PySem.Spec PyProof.Rows
structure Ds (f:Fr):Prop where
  pos:0 < f.2
  cop:Int.gcd f.1 f.2=1
abbrev Pg:=List Int × Int
def Dh(t:lc)(p:Pg):Bool:= !p.1.contains t.one&& !p.1.contains t.other
def B5(t:lc)(p:Pg):Pg:=(p.1++[t.one,t.other],p.2+t.worth)
def Dj(ps:List Pg)(t:lc):List Pg:=ps++(ps.filter (Dh t)).map (B5 t)
def Di(ts:List lc):List Pg:=ts.foldl Dj [([],0)]
structure CJ (k:Nat) (ps:List Pg):Prop where
  ne:ps≠[]
  len:ps.length≤2 ^ k
  pt:∀p∈ps,p.1.length≤2*k∧0≤p.2∧p.2≤1000*(k:Int)
def CN(ts:List lc):Int:=Dg ((Di ts).map (·.2))
end L2
namespace L2
open PySem PySem.Spec PyProof.Rows
end L2
namespace L2
open PySem PySem.Spec PyProof.Rows
section
variable{prog:Program}{w:World}{A:Around}{E:Value→Shared→Prop}{s:Shared}
end
section
variable{X:Cx}{a:Expr}{ta:TA}{p p2 pos pos2:Pos}
variable{K:PySem.W.Frag}{fs:FA}{p3:Pos}
end
end L2
namespace L2
open PySem PySem.Spec PyProof.Rows
def sU:PyData→Bool
  | .int _=>true
  | _=>false
def fB(lo hi:Int):PyData→Bool
  | .int i=>decide (lo≤i)&&decide (i≤hi)
  | _=>false
theorem sv:∀(ns acc:List Int),(ns.foldl step_dedup acc).length≤acc.length+ns.length
  | [],acc=>by simp
  | x::r,acc=>by
    have:=sv r (step_dedup acc x)
    have h2:(step_dedup acc x).length≤acc.length+1:=by unfold step_dedup;split<;>simp
    simp only [List.foldl_cons,List.length_cons]
    lia
theorem nj:∀(ns acc:List Int),(ns.foldl step_dedup acc).length=acc.length+ns.length→ns.Nodup∧∀x∈ns,x∉acc
  | [],acc,_=>⟨List.nodup_nil,fun x h=>by cases h⟩
  | x::r,acc,h=>by
    simp only [List.foldl_cons,List.length_cons] at h
    have hl:=sv r (step_dedup acc x)
    by_cases c:(acc.any fun y=>y==x)=true
    · have:step_dedup acc x=acc:=by unfold step_dedup;rw [if_pos c]
      rw [this] at h hl
      lia
    · have e:step_dedup acc x=acc++[x]:=by unfold step_dedup;rw [if_neg c]
      rw [e] at h
      obtain⟨h1,h2⟩:=nj r (acc++[x]) (by rw [h];simp;lia)
      have hx:x∉r:=fun z=>h2 x z (by simp)
      refine⟨List.nodup_cons.mpr ⟨hx,h1⟩,fun y hy=>?_⟩
      rcases List.mem_cons.mp hy with rfl | hy
      · simpa using c
      · exact fun z=>h2 y hy (by simp [z])
theorem vb{ns:List Int}:(pW ns).length=ns.length↔ ns.Nodup:=⟨fun h=>(nj ns [] (by simpa [pW] using h)).1,vc⟩
theorem jy{α:Type}(p:α→Bool):∀(ds:List α),jv (ds.map fun d=>PyData.bool (p d))=some (ds.map p)
  | []=>rfl
  | d::r=>by simp [jv,jy p r]
theorem sD{α:Type}{e:En}(p:α→Bool)(ds:List α):g1 (fw nz) e [.l (ds.map fun d=>.bool (p d))]=some (.d (.bool (ds.all p))):=by
  simp [g1,fw,bP,nz,jy p,List.all_map]
theorem sE{α:Type}{e:En}(p:α→Bool)(ds:List α):g1 (fw nA) e [.l (ds.map fun d=>.bool (p d))]=some (.d (.bool (ds.any p))):=by
  simp [g1,fw,bP,nA,jy p,List.any_map]
theorem kj{α:Type}:∀(l:List α) (i:Nat) (h:i < l.length),(l[i]::l.eraseIdx i).Perm l
  | x::r,0,_=>.refl _
  | x::r,i+1,h=>(List.Perm.swap x _ _).trans ((kj r i (by simpa using h)).cons x)
  | [],_,h=>by simp at h
theorem cut_len{xs:List PyData}{lo hi:Option Int}:(cutD xs lo hi).length≤xs.length:=by
  unfold cutD
  rw [List.length_take,List.length_drop]
  lia
theorem lD{g:FG}{ft:FT}{fe:FE}(P:Nat→En→Prop)(R:PyData→Prop):∀(items:List PyData) (k:Nat) (e:En) (acc:List PyData),(∀i x e,items[i]?=some x→P (k+i) e→∃e1 r d e2,g x e=some e1∧ft e1=some (true,e1)∧fe e1=some (r,e2)∧km r=some d∧R d∧P (k+i+1) e2)→P k e→acc.length+items.length≤1000000→
    ∃out e',cN g ft fe items e acc=some (acc++out,e')∧out.length=items.length∧(∀d∈out,R d)∧P (k+items.length) e'
  | [],k,e,acc,_,h,_=>⟨[],e,by simp [cN],rfl,(fun _ h=>by cases h),h⟩
  | x::r,k,e,acc,hs,h,hl=>by
    obtain⟨e1,v,d,e2,h1,h2,h3,h3',h4,h5⟩:=hs 0 x e rfl h
    simp only [List.length_cons] at hl
    obtain⟨out,e',h6,h7,h8,h9⟩:=lD P R r (k+1) e2 (acc++[d]) (fun i y e hy hp=>by
      have:=hs (i+1) y e (by simpa using hy) (by rw [show k+(i+1)=k+1+i by lia];exact hp)
      rw [show k+(i+1)+1=k+1+i+1 by lia] at this
      exact this) (by simpa using h5) (by simp;lia)
    refine⟨d::out,e',?_,by simp [h7],fun y hy=>?_,by rw [List.length_cons,show k+(r.length+1)=k+1+r.length by lia];exact h9⟩
    · unfold cN
      simp only [h1,h2,h3,h3',Option.bind_some,if_true]
      rw [if_pos (by lia),h6]
      simp
    · rcases List.mem_cons.mp hy with rfl | hy
      · exact h4
      · exact h8 y hy
theorem rR{cp:List (Nat × Str)}{nT:Nat}{fi:FI}{g:FG}{ft:FT}{fe:FE}{e e1 eo:En}{items out:List PyData}(h1:fi e=some (items,[],e1))(h3:cN g ft fe items (iR cp nT e1) []=some (out,eo))(hb:fJ cp eo e1=true):dJ cp nT fi g ft fe e=some (.l out,h_ (fL cp) eo e1):=by
  unfold dJ
  rw [h1]
  simp only [Option.bind_some,List.all_nil,if_true,h3]
  rw [if_pos hb]
end L2
namespace L2
open PySem PySem.Spec PyProof.Rows
mutual
def wt:PyData→Nat
  | .list xs=>uK xs+1
  | .tuple xs=>uK xs+1
  | .dict _=>1
  | .none=>1
  | .bool _=>1
  | .int _=>1
  | .str _=>1
def uK:List PyData→Nat
  | []=>0
  | x::r=>wt x+uK r
end
structure Dp (d:PyData) (k:Nat):Prop where
  lay:d.canLay0=true
  sh:d.showable=true
  dp:d.depth≤k
  ln:d.shown.length+2≤104*wt d
  so:PyData.strOk d.shown=true
def iM(n:Int):PyData→Bool
  | .tuple ds=>(ds.length:Int)==n
  | _=>false
theorem ij{lo hi:Int}{d:PyData}(h:fB lo hi d=true):∃i,d=.int i∧lo≤i∧i≤hi:=by
  cases d with
  | int i=>exact⟨i,rfl,by simpa [fB] using h⟩
  | _=>simp [fB] at h
end L2
namespace L2
open PySem PySem.Spec PyProof.Rows
section
variable{X:Cx}{K:PySem.W.Frag}
variable{a b:Expr}{fa fb:FE}{pos:Pos}
end
end L2
namespace L2
open PySem PySem.Spec PyProof.Rows
def tx(s:Str):List Nat:=s.cps.toList
end L2
namespace L2
open PySem PySem.Spec PyProof.Rows
end L2
namespace L2
open PySem PySem.Spec PyProof.Rows
end L2
namespace L2
open PySem PySem.Spec PyProof.Rows
section
variable{X:Cx}{K:PySem.W.Frag}{es:List Expr}{k0:Nat}{tp:Pos}{a b:Expr}{fs:FA}{p pos:Pos}
end
end L2
namespace L2
open PySem PySem.Spec PyProof.Rows
def Df(x:Nd)(b:Bool):Int:=if b=true then x.yes else x.no
def xx(T:List Nd)(i:Nat)(b:Bool):Int:=match T[i]? with
  | some x=>Df x b
  | none=> -1
def B3(T:List Nd):Prop:=∀(i j:Nat) (a b:Bool),xx T i a=xx T j b→xx T i a≠ -1→i=j∧a=b
def CC(w:Wt):Int × Int:=(w.par,w.side)
structure Dr (T:List Nd) (ws:List Wt):Prop where
  unq:B3 T
  rng:∀i a,xx T i a= -1∨(0 < xx T i a∧xx T i a < (T.length:Int))
  free:∀w∈ws,w.par= -1∨(0≤w.par∧w.par < (T.length:Int)∧xx T w.par.toNat (w.side==0)= -1)
  dst:(ws.map CC).Nodup
  side:∀w∈ws,w.side=0∨w.side=1
structure Dt (T:List Nd) (w0 ws order:List Int):Prop where
  nd:(order++ws).Nodup
  par:∀v∈order++ws,v=0∨∃u∈order,∃b,xx T u.toNat b=v∧v≠ -1
  fst:(order=[]∧ws=w0)∨order[0]?=some 0
theorem jX{cs:En}{g g2:FG}{ft ft2:FT}{fi2:FI}{fe:FE}{f:PyData→List PyData}(n:Nat):∀(items:List PyData) (t:En) (acc:List PyData),t.length=n→(∀x∈items,(f x).length≤2)→(∀x∈items,∀(t:En) (acc:List PyData),t.length=n→acc.length+2≤1000000→∃e1 e2 its e3 t',g x (cs++t)=some e1∧ft e1=some (true,e2)∧fi2 e2=some (its,[],e3)∧cN g2 ft2 fe its e3 acc=some (acc++f x,cs++t')∧t'.length=n)→acc.length+2*items.length≤1000000→
    ∃t',t'.length=n∧f_ g ft fi2 g2 ft2 fe items (cs++t) acc=some (acc++items.flatMap f,cs++t')
  | [],t,acc,h,_,_,_=>⟨t,h,by simp [f_]⟩
  | x::r,t,acc,h,hf,hs,hl=>by
    simp only [List.length_cons] at hl
    obtain⟨e1,e2,its,e3,t1,a1,a2,a3,a4,a5⟩:=hs x (by simp) t acc h (by lia)
    have:=hf x (by simp)
    obtain⟨t',b1,b2⟩:=jX n r t1 (acc++f x) a5 (fun y hy=>hf y (by simp [hy])) (fun y hy=>hs y (by simp [hy])) (by rw [List.length_append];lia)
    refine⟨t',b1,?_⟩
    unfold f_
    simp only [a1,a2,a3,a4,b2,Option.bind_some,if_true,List.flatMap_cons,List.append_assoc]
theorem rM{cp:List (Nat × Str)}{nT:Nat}{fi fi2:FI}{g g2:FG}{ft ft2:FT}{fe:FE}{e e1 cs:En}{t t':En}{items out:List PyData}(h1:fi e=some (items,[],e1))(hc:iR cp nT e1=cs++t)(hl:cs.length=cp.length)(h3:f_ g ft fi2 g2 ft2 fe items (iR cp nT e1) []=some (out,cs++t')):jS cp nT fi g ft fi2 g2 ft2 fe e=some (.l out,e1):=by
  have key:=dM (cp:=cp) (nT:=nT) (fi:=fun _=>some ([.none],[],e1)) (g:=fun _ _=>some (cs++t')) (ft:=fun e=>some (false,e)) (fe:=fe) (e:=e) (cs:=cs) (t:=t) (t':=t') (out:=[]) rfl hc hl rfl
  have c0:cN (fun _ _=>some (cs++t')) (fun e=>some (false,e)) fe [.none] (iR cp nT e1) []=some ([],cs++t'):=rfl
  unfold dJ at key
  unfold jS
  rw [h1]
  simp only [Option.bind_some,List.all_nil,if_true,h3,c0] at key ⊢
  split at key
  · rename_i q
    rw [if_pos q]
    have:=Option.some.inj key
    have e2:h_ (fL cp) (cs++t') e1=e1:=(Prod.ext_iff.mp this).2
    rw [e2]
  · cases key
end L2
namespace L2
open PySem PySem.Spec PyProof.Rows
section
variable{prog:Program}{w:World}{A:Around}{E:Value→Shared→Prop}{s:Shared}
end
section
variable{X:Cx}{tg a:Expr}{ta:TA}{p pos:Pos}
end
section
variable{X:Cx}{K:PySem.W.Frag}{σ:L2.St}{tg a:Expr}{fs:FA}{p pos:Pos}
end
end L2
namespace L2
open PySem PySem.Spec PyProof.Rows
section
variable{X:Cx}{a k:Expr}{p2 pos:Pos}{fa fk:FE}{K:PySem.W.Frag}
theorem pq(n:Nat):Builtin.Slice.slicePlaces ((n:Int) - 1) (-1) (-1)=n:=by
  unfold Builtin.Slice.slicePlaces
  rw [if_neg (by decide),show(- -1:Int)=1 from rfl]
  split<;>lia
theorem nv{α β:Type}{f g:α→Option β}:∀{l:List α},(∀x∈l,f x=g x)→l.filterMap f=l.filterMap g
  | [],_=>rfl
  | x::r,h=>by rw [List.filterMap_cons,List.filterMap_cons,h x (by simp),nv fun y hy=>h y (by simp [hy])]
theorem tT(xs:Array Value):((List.range xs.size).filterMap fun(m:Nat)=>xs[((xs.size:Int) - 1+(m:Int)*(-1)).toNat]?).toArray=xs.toList.reverse.toArray:=by
  have e:(List.range xs.size).filterMap (fun(m:Nat)=>xs[((xs.size:Int) - 1+(m:Int)*(-1)).toNat]?)=((List.range xs.size).map fun k=>xs.size - 1 - k).filterMap (xs[·]?):=by
    rw [List.filterMap_map]
    refine nv fun m hm=>?_
    have:=List.mem_range.mp hm
    show xs[_]?=xs[xs.size - 1 - m]?
    congr 1
    lia
  rw [e,PySem.W.krv_range,List.filterMap_reverse,PySem.W.krv_all]
section
variable{prog:Program}{w:World}{A:Around}{E:Value→Shared→Prop}{s:Shared}
theorem jQ{sl:Addr}{t:Tok}{n:Nat}{Q:Int × Int × Nat→Shared→Prop}(hs:s.heap.IsSliceOf sl .none .none (.int (-1) t))(h:Q ((n:Int) - 1, -1,n) s):wpAny (model prog w) A (Builtin.Slice.sliceApplied (.ref sl) (pure (n:Int))) Q E s:=by
  obtain⟨os,hos,hcs,hds⟩:=id hs
  unfold Builtin.Slice.sliceApplied Builtin.Slice.sliceFields
  refine wpAny_bind (wpAny_bind (wpAny_field hos hds (x:=.none) rfl (wpAny_bind (wpAny_field hos hds (x:=.none) rfl (wpAny_bind (wpAny_field hos hds (x:=.int (-1) t) rfl (wpAny_pure ?_)))))))
  refine wpAny_bind (HT.slicePart_ (.int (-1) t) ?_)
  show wpAny _ _ (if ((-1:Int)==0)=true then _ else _) _ _ s
  rw [if_neg (by decide)]
  refine wpAny_bind (HT.slicePart_ .none (wpAny_bind (HT.slicePart_ .none (wpAny_bind (wpAny_pure ?_)))))
  show wpAny _ _ (pure ((n:Int) - 1,(-1:Int),Builtin.Slice.slicePlaces ((n:Int) - 1) (-1) (-1))) _ _ s
  rw [pq]
  exact wpAny_pure h
theorem i9{t sl:Addr}{items:Array Value}{tk:Tok}{Q:Value→Shared→Prop}(ht:IsTup s.heap t items)(hs:s.heap.IsSliceOf sl .none .none (.int (-1) tk))
    (h:Q (.ref s.heap.objs.size) {s with heap:=s.heap.push {cls:=.type "tuple",data:=.seq items.toList.reverse.toArray}})(hsz:items.size≤sizeLine):wpAny (model prog w) A (getItem (.ref t) (.ref sl)) Q E s:=by
  have htake:sizeOk (.seq items.toList.reverse.toArray):=by
    show items.toList.reverse.toArray.size≤sizeLine
    rw [List.size_toArray,List.length_reverse,Array.length_toList]
    exact hsz
  obtain⟨os,hos,hcs,hds⟩:=id hs
  have hTs:s.TypeIs (.ref sl) "slice":=⟨os,hos,hcs⟩
  unfold getItem
  try with_reducible refine wpAny_holding ?_
  first | refine wpAny_bind (wpAny_pure ?_) | skip
  refine wpAny_bind (wpAny_sequenceKey ht.typeIs (by decide) ?_)
  refine wpAny_bind (wpAny_callSpecial?_slot (name:=Str.ofString "__getitem__") ht.typeIs PyProof.Rows.slot_tuple_getitem
    (wpAny_call_entry PyProof.Rows.slot_tuple_getitem ht.typeIs entry_tuple_getitem ?_ (args_tuple_getitem _ _)))
  show wpAny _ _ (Builtin.Tuple.tupleItemsOf (.ref t) >>= _) _ _ s
  refine wpAny_bind (tupleItemsOf_ ht ?_)
  refine wpAny_bind (wpAny_typeOf hTs ?_)
  rw [if_pos (by decide)]
  refine wpAny_bind (jQ hs ?_)
  have hno:¬((((items.size:Int) - 1)==0&&(-1:Int)==1&&items.size==items.size)=true):=by
    intro q
    rw [Bool.and_eq_true,Bool.and_eq_true] at q
    have q1:((-1:Int)==1)=true:=q.1.2
    exact absurd q1 (by decide)
  show wpAny _ _ (if (((items.size:Int) - 1)==0&&(-1:Int)==1&&items.size==items.size)=true then _ else _) _ _ s
  rw [if_neg hno,tT]
  first
    | exact wpAny_bind (m:=Builtin.Tuple.tupleExact _) (wpAny_newObj_type (wpAny_pure ⟨_,rfl,wpAny_pure h⟩) htake)
    | exact wpAny_bind (m:=Builtin.Tuple.tupleExact _) (wpAny_newObj_type (wpAny_bind (wpAny_pure (wpAny_pure ⟨_,rfl,wpAny_pure h⟩))) htake)
    | exact wpAny_bind (wpAny_bind (m:=Builtin.Tuple.tupleExact _) (wpAny_newObj_type (wpAny_pure (wpAny_pure ⟨_,rfl,wpAny_pure h⟩)) htake))
    | exact wpAny_bind (wpAny_bind (m:=Builtin.Tuple.tupleExact _) (wpAny_newObj_type (wpAny_pure ⟨_,rfl,wpAny_pure h⟩) htake))
end
def Dm(K:PySem.W.Frag)(te tk:TE):TE:=fun σ H Q=>te σ H fun x H1=>tk σ H1 fun y H2=>y=.int (-1)∧((∃a xs,x=.ref a∧em K H2 a xs∧∀p,H2 p=none→Q (.ref p) (aX H2 p (.lst xs.reverse)))∨∃a xs,x=.ref a∧dQ K H2 a xs∧∀p,H2 p=none→Q (.ref p) (aX H2 p (.tup xs.reverse)))
theorem AQ{te tk:TE}(he:PE X a te)(hk:PE X k tk):PE X (.Subscript a (.Slice none none (some k) p2) pos) (Dm X.K te tk):=by
  intro pins s σ H Q I h
  refine Subscript_ (bz (he pins s σ H _ I h) fun v s1 ⟨x,H1,I1,r1,q1⟩=>?_)
  refine wpAny_Slice ?_
  rw [evalPart_none]
  refine wpAny_pure (wpAny_pure ?_)
  refine bz (hk pins s1 σ H1 _ I1 q1) fun vk s3 ⟨y,H3,I3,rk,e,q⟩=>?_
  subst e
  obtain⟨t,rfl⟩:∃t,vk=.int (-1) t:=rk
  have I4:au X pins σ H3 {s3 with heap:=s3.heap.push {cls:=.type "slice",data:=.fields #[.none,.none,.int (-1) t]}}:=I3.kept (t':=s3.toks) fun b ob q=>Heap.get?_push_of_some _ q
  rcases q with ⟨b,xs,ex,hx,q⟩ | ⟨b,xs,ex,hx,q⟩
  · subst ex
    cases r1
    obtain⟨its,r,ht,hz⟩:=I4.list hx
    have hlen:=r.length
    show wpAny (model X.prog X.w) X.A (subscriptTail a (.Slice none none (some k) p2) (.ref b) (.ref s3.heap.objs.size)) (EP X pins σ Q) X.xe {s3 with heap:=s3.heap.push {cls:=.type "slice",data:=.fields #[.none,.none,.int (-1) t]}}
    refine tail_any (T:="list") ht.isList.typeIs slot_list_getitem.lookup ?_ (by with_unfolding_all rfl)
    refine wpAny_getItem_list_slice ht.isList (Heap.IsSliceOf.new ..) .none .none (.int (-1) t) (by decide) ?_ (by rw [List.size_toArray]<;>lia)
    rw [PySem.W.krv_pick]
    refine⟨.ref _,_,I4.laid (t':=s3.toks) (o:=.lst xs.reverse) (fun b ob q=>Heap.get?_push_of_some _ q) (Nat.le_refl _) ?_,rfl,q _ (I4.hok.fresh (Nat.le_refl _))⟩
    exact⟨by rw [List.length_reverse];exact hz,_,0,r.reverse,Heap.get?_push_size _ rfl⟩
  · subst ex
    cases r1
    obtain⟨its,r,ht,hz⟩:=I4.tuple hx
    have hlen:=r.length
    show wpAny (model X.prog X.w) X.A (subscriptTail a (.Slice none none (some k) p2) (.ref b) (.ref s3.heap.objs.size)) (EP X pins σ Q) X.xe {s3 with heap:=s3.heap.push {cls:=.type "slice",data:=.fields #[.none,.none,.int (-1) t]}}
    refine tail_any (T:="tuple") ht.typeIs slot_tuple_getitem.lookup ?_ (by with_unfolding_all rfl)
    refine i9 ht (Heap.IsSliceOf.new ..) ?_ (by rw [List.size_toArray]<;>lia)
    refine⟨.ref _,_,I4.laid (t':=s3.toks) (o:=.tup xs.reverse) (fun b ob q=>Heap.get?_push_of_some _ q) (Nat.le_refl _) ?_,rfl,q _ (I4.hok.fresh (Nat.le_refl _))⟩
    exact⟨by rw [List.length_reverse];exact hz,_,r.reverse,k_.new _ _⟩
def B8(e:En)(x y:Rv):Option Rv:=match y with
  | .d (.int i)=>if i= -1 then(bP e x).bind fun p=>some (if p.1=true then .l p.2.reverse else .d (.tuple p.2.reverse)) else none
  | _=>none
def zR(fa fk:FE):FE:=fun e=>(fa e).bind fun p=>(fk p.2).bind fun k=>(B8 k.2 p.1 k.1).map fun z=>(z,k.2)
theorem mq:∀{F:Hp} {ds:List PyData} {vs:List V},ax K F ds vs→ax K F ds.reverse vs.reverse
  | F,[],vs,h=>by simp only [ax] at h;subst h;exact ax.nil
  | F,d::ds,vs,h=>by
    simp only [ax] at h
    obtain⟨v,ws,rfl,h1,h2⟩:=h
    rw [List.reverse_cons,List.reverse_cons]
    exact(mq h2).append (ax.one h1)
theorem AY(he:PE X a (fE X.K fa))(hk:PE X k (fE X.K fk)):PE X (.Subscript a (.Slice none none (some k) p2) pos) (fE X.K (zR fa fk)):=(AQ he hk).mono fun σ H Q h=>by
  obtain⟨F,e,z,e',R,hf,q⟩:=h
  unfold zR at hf
  obtain⟨⟨x,e1⟩,h1,hf⟩:=Option.bind_eq_some_iff.mp hf
  obtain⟨⟨y,e2⟩,h2,hf⟩:=Option.bind_eq_some_iff.mp hf
  obtain⟨z',h4,hf⟩:=Option.map_eq_some_iff.mp hf
  cases hf
  refine⟨F,e,x,e1,R,h1,fun F1 H1 v X1 R1 A1=>⟨F1,e1,y,_,R1,h2,fun F2 H2 u X2 R2 A2=>?_⟩⟩
  unfold B8 at h4
  split at h4
  · rename_i i hy
    have hy:y=.d (.int i):=hy
    subst hy
    by_cases hi:i= -1
    case neg=>rw [if_neg hi] at h4;cases h4
    rw [if_pos hi] at h4
    subst hi
    obtain⟨⟨b,xs⟩,h5,h4⟩:=Option.bind_eq_some_iff.mp h4
    cases b with
    | false=>
      cases h4
      obtain⟨p,vs,rfl,d1,s1⟩:=bw R2 (A1.ext X2) h5
      refine⟨by first | exact A2 | cases A2;rfl,.inr ⟨p,vs,rfl,s1,fun t ht=>?_⟩⟩
      obtain⟨R4,X4⟩:=R2.newT (vs:=vs.reverse) ht
      exact q _ _ _ ((X1.trans X2).trans X4) R4 (dz.mpr ⟨t,_,rfl,.inl (.inl aq),(mq d1).mono X4.sf⟩)
    | true=>
      cases h4
      obtain⟨p,vs,rfl,d1,s1⟩:=bw R2 (A1.ext X2) h5
      refine⟨by first | exact A2 | cases A2;rfl,.inl ⟨p,vs,rfl,s1,fun t ht=>?_⟩⟩
      obtain⟨R4,X4,hF,no⟩:=R2.newL (vs:=vs.reverse) ht
      exact q _ _ _ ((X1.trans X2).trans X4) R4 ⟨t,_,rfl,(X1.trans X2).dom _ ht,hF,aq,mq d1,no⟩
  · cases h4
theorem Cn(hK:X.K=K)(he:PE X a (fE K fa))(hk:PE X k (fE K fk)):PE X (.Subscript a (.Slice none none (some k) p2) pos) (fE K (zR fa fk)):=by subst hK;exact AY he hk
end
end L2
namespace L2
open PySem PySem.Spec PyProof.Rows
section
variable{X:Cx}{a b:Expr}{ta:TA}{p p2 pos pos2:Pos}{K:PySem.W.Frag}{fs:FA}
end
section
variable{X:Cx}{o i e:Expr}{fo fi:FE}{tpos pos:Pos}{K:PySem.W.Frag}
end
end L2
namespace L2
open PySem PySem.Spec PyProof.Rows
section
variable{X:Cx}{K:PySem.W.Frag}
def zl(K:PySem.W.Frag)(neg:Bool):R2:=fun x y H Q=>∃a b xs,x=.ref a∧y=.ref b∧em K H a xs∧em K H b []∧Q (.bl (if neg then !xs.isEmpty else xs.isEmpty)) H
theorem yC(hu:X.A.units < cLine):fg X (compareOp .Eq) (zl X.K false):=by
  intro pins s σ H x y v u Q I rx ry h
  exact yB hu pins s σ H x y v u Q I rx ry h
theorem yJ(hu:X.A.units < cLine):fg X (compareOp .NotEq) (zl X.K true):=by
  intro pins s σ H x y v u Q I rx ry h
  obtain⟨a,b,xs,rfl,rfl,ha,hb,q⟩:=h
  cases rx
  cases ry
  obtain⟨its,r,p,hz⟩:=I.list ha
  obtain⟨its2,r2,p2,hz2⟩:=I.list hb
  cases r2
  cases r with
  | nil=>
    refine SeqAt.RcNeAt.lists (e:=fun _=>true) p.isList p2.isList rfl hu (fun j h1 h2=>by simp at h1) X.prog X.w X.xe _ ?_
    exact⟨.bl false,H,I,rfl,q⟩
  | cons r rr=>
    refine SeqAt.RcNeAt.lists_lengths p.isList p2.isList (by simp) hu X.prog X.w X.xe _ ?_
    exact⟨.bl true,H,I,rfl,q⟩
def mw(neg:Bool):En→Rv→Rv→Option Rv:=fun e x y=>(bP e x).bind fun a=>(bP e y).bind fun b=>if a.1=true∧b.1=true∧b.2.isEmpty=true then some (.d (.bool (if neg then !a.2.isEmpty else a.2.isEmpty))) else none
theorem xa{neg:Bool}:fm K (zl K neg) (mw neg):=by
  intro σ H0 F H e x y z v u Q R A B hg q
  unfold mw at hg
  obtain⟨⟨b1,xs⟩,h1,hg⟩:=Option.bind_eq_some_iff.mp hg
  obtain⟨⟨b2,ys⟩,h2,hg⟩:=Option.bind_eq_some_iff.mp hg
  split at hg
  case isFalse=>cases hg
  case isTrue hl=>
  cases hg
  obtain⟨z1,z2,z3⟩:=hl
  dsimp only at z1 z2 z3
  subst z1 z2
  have z4:ys=[]:=List.isEmpty_iff.mp z3
  subst z4
  obtain⟨p,vs,rfl,d1,s1⟩:=bw R A h1
  obtain⟨p',vs',rfl,d2,s2⟩:=bw R B h2
  have e2:vs'=[]:=by simpa only [ax] using d2
  subst e2
  rw [if_pos rfl] at s1 s2
  refine⟨p,p',vs,rfl,rfl,s1,s2,?_⟩
  have e1:vs.isEmpty=xs.isEmpty:=by
    have:=d1.len
    cases xs with
    | nil=>cases vs with
      | nil=>rfl
      | cons=>simp at this
    | cons=>cases vs with
      | nil=>simp at this
      | cons=>rfl
  rw [e1]
  exact q F H _ (dP.refl _ _ _ _) R dH
theorem Ac{k:Nat}(hK:X.K=K)(hr:bX k X.A):iS X K .Eq (mw false):=⟨_,hK ▸ yC hr.units0,xa⟩
theorem wY{k:Nat}(hK:X.K=K)(hr:bX k X.A):iS X K .NotEq (mw true):=⟨_,hK ▸ yJ hr.units0,xa⟩
theorem oY{e:En}{xs:List PyData}{neg:Bool}:mw neg e (.l xs) (.l [])=some (.d (.bool (if neg then !xs.isEmpty else xs.isEmpty))):=by
  simp [mw,bP]
end
end L2
namespace L2
open PySem PySem.Spec PyProof.Rows
section
open PySem.MeetsSeq2 PySem.AutoSeq1 PySem.SeqAt
theorem mr{M:Model}{A:Around}{E:Value→Shared→Prop}{s:Shared}{β:Type}(f:Nat→β→Sem (ForInStep β))(I:List Nat→β→Shared→Prop)(Q:β→Shared→Prop)
    (turn:∀x dR b s,I (x::dR) b s→wpAny M A (f x b) (fun r s'=>match r with | .yield b'=>I dR b' s' | .done b'=>Q b' s') E s)
    (fin:∀b s,I [] b s→Q b s)(n:Nat)(b:β)(h:I (List.range n) b s):wpAny M A (forIn [0:n] b f) Q E s:=by
  rw [Std.Legacy.Range.forIn_eq_forIn_range']
  have e:List.range' (Std.Legacy.Range.start [0:n]) (Std.Legacy.Range.size [0:n]) (Std.Legacy.Range.step [0:n])=List.range n:=by
    simp [Std.Legacy.Range.size,List.range_eq_range']
  rw [e]
  exact wpAny_forIn_list f I Q turn fin _ b h
theorem lu(l:Addr)(items:Array Value)(n:Nat)(dd:Option Addr)(sl:Array (Option Value))(x:Value)(e:Value→Bool)(j:Nat)(hj:j < items.size)
    (hit:e items[j]=true)(hno:∀m (hm:m < items.size),m < j→e items[m]=false):
    Meets (Builtin.«tuple.index» ⟨[.ref l,x],[]⟩)
      (fun A R s=>s.heap.get? l=some {cls:=.type "tuple",dict:=dd,data:=.seq items n,slots:=sl}∧(∀y,y∈items→EqAt A.in1 s y x (e y))∧R (.ok (.ret (.int j s.toks))) {s with toks:=s.toks+1}):=
  .of_wp fun prog w A R s h=>by
    obtain⟨hp,g,d,tk,os⟩:=s;obtain⟨hl,he,h⟩:=h
    have e0:List.range (min items.size items.size)=List.range' 0 (items.size - 0):=by rw [Nat.min_self,List.range_eq_range',Nat.sub_zero]
    wp_walk using wpAny_loadPart' hl,mr _ (fun dR b s'=>b.1=none∧s'=⟨hp,g,d,tk,os⟩∧∃m,dR=List.range' m (items.size - m)∧m≤j) _
    case turn=>
      rintro i dR b s' ⟨hb,rfl,m,hr,hm⟩
      have hms:m < items.size:=by lia
      have e1:items.size - m=items.size - (m+1)+1:=by lia
      rw [e1,List.range'_succ] at hr
      obtain⟨rfl,rfl⟩:=List.cons.inj hr
      have e2:items[i]?=some items[i]:=Array.getElem?_eq_getElem hms
      simp only [e2]
      refine wpAny_bind (he _ (Array.getElem_mem hms) prog w _ _ ?_)
      by_cases hij:i=j
      · subst hij
        rw [hit]
        wp_walk
        exact⟨_,rfl,h⟩
      · rw [hno i hms (by lia)]
        wp_walk
        exact⟨rfl,rfl,i+1,rfl,by lia⟩
    case fin=>
      rintro b s' ⟨hb,rfl,m,hr,hm⟩
      have:=congrArg List.length hr
      rw [List.length_range',List.length_nil] at this
      lia
    case h=>
      exact⟨rfl,rfl,0,e0,Nat.zero_le _⟩
end
section
variable{X:Cx}{K:PySem.W.Frag}{o a:Expr}{to te:TE}{name:Str}{apos cpos:Pos}{T id:String}{r:V→List V→Hp→VK→Prop}{fo fa:FE}
def CS(K:PySem.W.Frag)(H:Hp)(b:Bool)(x:V):Prop:=∃p xs,x=.ref p∧(if b=true then em K H p xs else dQ K H p xs)
theorem x_{pins:List (Addr × Obj)}{σ:L2.St}{H:Hp}{s:Shared}{x:V}{v:Value}{b:Bool}(hT:T=if b=true then "list" else "tuple")(I:au X pins σ H s)(r:bf x v)(ty:CS X.K H b x):
    s.TypeIs v T∧∀a,v=.ref a→∃ob,s.heap.get? a=some ob∧ob.dict=none:=by
  obtain⟨p,xs,rfl,hq⟩:=ty
  cases b with
  | true=>subst hT;exact uH I r (.inl ⟨rfl,xs,hq⟩)
  | false=>
    subst hT
    cases r
    obtain⟨its,_,pl,_⟩:=I.tuple hq
    exact⟨pl.typeIs,fun a e=>by cases e;exact I.tupD hq⟩
def CZ(K:PySem.W.Frag)(b:Bool)(r:V→List V→Hp→VK→Prop)(to te:TE):TE:=fun σ H Q=>to σ H fun x H1=>CS K H1 b x∧te σ H1 fun y H2=>r x [y] H2 Q
theorem xC{b:Bool}(hT:T=if b=true then "list" else "tuple")(pa:PlainAttrs T)(slot:Slot T name id)(hty:typeOf (.builtin id)=pure (.type "method_descriptor"))(hm:zT X id r)(ho:PE X o to)(ha:PE X a te)
    (hbase:attributeBase o name X.env (eval o X.env)=eval o X.env)
    (hfew:((backTo cpos (starEach [a] X.env)).all (fun x=> !x.1)&&(backToKw cpos (keywordEach [] X.env)).all (fun x=>x.1.isSome)
      &&decide (([a]:List Expr).length+([]:List Keyword).length+(if ([]:List Keyword).isEmpty then 0 else 1) < 30))=true)
    (hline:(apos.endLine==cpos.line)=true)(hs:starEach [a] X.env=(false,eval a X.env)::starEach [] X.env)(hplain:(backTo cpos (starEach [] X.env)).any (·.1)=false):
    PE X (.Call (.Attribute o name apos) [a] [] cpos) (CZ X.K b r to te):=by
  intro pins s σ H Q I h
  refine wpAny_Call_method_late hbase hfew hline rfl (bz (ho pins s σ H _ I h) fun v s1 ⟨x,H1,I1,r1,ty,q1⟩=>?_)
  obtain⟨h1,h2⟩:=x_ hT I1 r1 ty
  refine⟨T,id,pa,slot,hty,h1,h2,?_⟩
  have hA:=(io ha kO hs) cpos pins s1 σ H1 (fun xs H2=>r x xs H2 Q) I1 q1
  rw [hs] at hA ⊢
  refine Calls.callWith_builtin (by show(false || (backTo cpos (starEach [] X.env)).any (·.1))=false;rw [hplain]<;>rfl) (Calls.evalArgs_plain ?_)
  exact bz hA fun us s2 ⟨vs,H2,I2,r2,q2⟩=>hm pins s2 σ H2 x vs v us Q I2 r1 r2 q2
def Cr(K:PySem.W.Frag)(b:Bool)(g:List Int→Int→Option Nat):V→List V→Hp→VK→Prop:=fun x vs H Q=>∃p ns k i,x=.ref p∧vs=[.int k]∧(if b=true then em K H p (ns.map V.int) else dQ K H p (ns.map V.int))∧g ns k=some i∧Q (.int (i:Nat)) H
def gC(ns:List Int)(k:Int):Option Nat:=some (ns.count k)
def gX(ns:List Int)(k:Int):Option Nat:=if k∈ns then some (ns.idxOf k) else none
def zv(b:Bool)(e:En)(x:Rv):Option (List PyData):=(bP e x).bind fun z=>if z.1=b then some z.2 else none
theorem uB{b:Bool}{e:En}{x:Rv}{ds:List PyData}(h:zv b e x=some ds):bP e x=some (b,ds):=by
  unfold zv at h
  obtain⟨⟨c,zs⟩,h1,h2⟩:=Option.bind_eq_some_iff.mp h
  by_cases hb:c=b
  · subst hb;rw [if_pos rfl] at h2;cases h2;exact h1
  · rw [if_neg hb] at h2;cases h2
def oJ(b:Bool)(g:List Int→Int→Option Nat)(fo fa:FE):FE:=fun e=>(fo e).bind fun p=>(zv b p.2 p.1).bind fun _=>(fa p.2).bind fun q=>(zv b q.2 p.1).bind fun ds=>
  (j2 ds).bind fun ns=>(bL q.1).bind fun k=>(g ns k).map fun i=>(.d (.int (i:Nat)),q.2)
theorem uJ{b:Bool}{g:List Int→Int→Option Nat}{σ:L2.St}{H:Hp}{Q:VK}(h:fE K (oJ b g fo fa) σ H Q):CZ K b (Cr K b g) (fE K fo) (fE K fa) σ H Q:=by
  obtain⟨F,e,z,e2,R,hf,q⟩:=h
  unfold oJ at hf
  obtain⟨⟨x,e1⟩,h1,hf⟩:=Option.bind_eq_some_iff.mp hf
  obtain⟨ds,h3,hf⟩:=Option.bind_eq_some_iff.mp hf
  obtain⟨⟨y,e2'⟩,h2,hf⟩:=Option.bind_eq_some_iff.mp hf
  obtain⟨ds',h4,hf⟩:=Option.bind_eq_some_iff.mp hf
  obtain⟨ns,h5,hf⟩:=Option.bind_eq_some_iff.mp hf
  obtain⟨k,h6,hf⟩:=Option.bind_eq_some_iff.mp hf
  obtain⟨i,h7,hf⟩:=Option.map_eq_some_iff.mp hf
  cases hf
  refine⟨F,e,x,e1,R,h1,fun F1 H1 v X1 R1 A1=>?_⟩
  obtain⟨p,vs,rfl,d1,s1⟩:=bw R1 A1 (uB h3)
  refine⟨⟨p,vs,rfl,s1⟩,F1,e1,y,_,R1,h2,fun F2 H2 u X2 R2 A2=>?_⟩
  obtain⟨p',vs',e3,d2,s2⟩:=bw R2 (A1.ext X2) (uB h4)
  cases e3
  have e4:ds'=ns.map .int:=gT h5
  subst e4
  have e5:=ax.ints.mp d2
  subst e5
  exact⟨p,ns,k,i,rfl,by rw [bM A2 h6],s2,h7,q F2 H2 _ (X1.trans X2) R2 hE⟩
theorem vw:zT X "tuple.index" (Cr X.K false gX):=by
  intro pins s σ H x vs v us Q I rx rv h
  obtain⟨p,ns,k,i,rfl,rfl,hs,hg,q⟩:=h
  unfold gX at hg
  split at hg
  case isFalse=>cases hg
  case isTrue hk=>
  cases hg
  cases rx
  obtain⟨u,rfl,⟨t,rfl⟩⟩:=fK rv
  obtain⟨its,r,pl,hz⟩:=I.tuple hs
  have hi:=dZ r
  have hlen:=hi.length
  have hj:ns.idxOf k < ns.length:=List.idxOf_lt_length_iff.mpr hk
  obtain⟨⟨cls,dd,data,sl⟩,ho,hc,n,hd⟩:=id pl
  simp only at hc hd
  subst hc hd
  refine call_meets PySem.F.slot_tuple_index ⟨_,ho,rfl⟩ PySem.F.entry_tuple_index (PySem.F.args_tuple_index_2 _ _)
    (lu p its.toArray n dd sl (.int k t) (isInt k) (ns.idxOf k) (by simpa [hlen] using hj) ?_ ?_) ⟨ho,fun y hy=>(eq_isInt k t hi y (by simpa using hy)).at _ _,⟨.int _,H,I.tok _,⟨_,rfl⟩,q⟩⟩
  · show isInt k its[ns.idxOf k]=true
    rw [isInt_at k hi _ (by lia) hj]
    simpa using List.getElem_idxOf hj
  · intro j hjs hlt
    show isInt k its[j]=false
    rw [isInt_at k hi j (by simpa using hjs) (by lia)]
    exact ne_of_lt_idxOf hlt _
theorem mM(hK:X.K=K)(ho:PE X o (fE K fo))(ha:PE X a (fE K fa))(hbase:attributeBase o "index" X.env (eval o X.env)=eval o X.env)
    (hfew:((backTo cpos (starEach [a] X.env)).all (fun x=> !x.1)&&(backToKw cpos (keywordEach [] X.env)).all (fun x=>x.1.isSome)
      &&decide (([a]:List Expr).length+([]:List Keyword).length+(if ([]:List Keyword).isEmpty then 0 else 1) < 30))=true)
    (hline:(apos.endLine==cpos.line)=true)(hs:starEach [a] X.env=(false,eval a X.env)::starEach [] X.env)(hplain:(backTo cpos (starEach [] X.env)).any (·.1)=false):
    PE X (.Call (.Attribute o "index" apos) [a] [] cpos) (fE K (oJ false gX fo fa)):=by
  subst hK
  exact(xC (b:=false) rfl PySem.F.plainAttrs_tuple PySem.F.slot_tuple_index PySem.F.type_tuple_index vw ho ha hbase hfew hline hs hplain).mono fun σ H Q h=>uJ h
end
end L2
namespace L2
open PySem PySem.Spec PyProof.Rows
section
variable{X:Cx}{K:PySem.W.Frag}{o a:Expr}{apos cpos:Pos}{fo fa:FE}
theorem vt:zT X "list.count" (Cr X.K true gC):=by
  intro pins s σ H x vs v us Q I rx rv h
  obtain⟨p,ns,k,i,rfl,rfl,hs,hg,q⟩:=h
  cases hg
  cases rx
  obtain⟨u,rfl,⟨t,rfl⟩⟩:=fK rv
  obtain⟨its,r,pl,hz⟩:=I.list hs
  exact count_list_ints pl.isList (dZ r) ⟨.int _,H,I.tok _,⟨_,rfl⟩,q⟩
theorem zb(hK:X.K=K)(ho:PE X o (fE K fo))(ha:PE X a (fE K fa))(hbase:attributeBase o "count" X.env (eval o X.env)=eval o X.env)
    (hfew:((backTo cpos (starEach [a] X.env)).all (fun x=> !x.1)&&(backToKw cpos (keywordEach [] X.env)).all (fun x=>x.1.isSome)
      &&decide (([a]:List Expr).length+([]:List Keyword).length+(if ([]:List Keyword).isEmpty then 0 else 1) < 30))=true)
    (hline:(apos.endLine==cpos.line)=true)(hs:starEach [a] X.env=(false,eval a X.env)::starEach [] X.env)(hplain:(backTo cpos (starEach [] X.env)).any (·.1)=false):
    PE X (.Call (.Attribute o "count" apos) [a] [] cpos) (fE K (oJ true gC fo fa)):=by
  subst hK
  exact(xC (b:=true) rfl PySem.F.plainAttrs_list PySem.F.slot_list_count PySem.F.type_list_count vt ho ha hbase hfew hline hs hplain).mono fun σ H Q h=>uJ h
end
end L2
namespace L2
open PySem PySem.Spec PyProof.Rows
def yN(cp:List (Nat × Str))(own:fM):fM:=own.filterMap fun q=>(fL cp q.1).map fun k=>(k,q.2)
open Classical in
noncomputable def fP(own:fM)(g:FG)(ft:FT)(fe:FE):List PyData→En→List PyData→Option (List PyData × En)
  | [],e,acc=>if keeps own e then some (acc,e) else none
  | x::r,e,acc=>if keeps own e then(g x e).bind fun e1=>(ft e1).bind fun b=>if b.1=true then(fe b.2).bind fun v=>(km v.1).bind fun d=>if acc.length < 1000000 then fP own g ft fe r v.2 (acc++[d]) else none else fP own g ft fe r b.2 acc else none
theorem ng{own:fM}{g:FG}{ft:FT}{fe:FE}:∀{items:List PyData} {e:En} {acc:List PyData} {z:List PyData × En},fP own g ft fe items e acc=some z→keeps own e
  | [],e,acc,z,h=>by
    unfold fP at h
    by_cases c:keeps own e
    · exact c
    · rw [if_neg c] at h;cases h
  | x::r,e,acc,z,h=>by
    unfold fP at h
    by_cases c:keeps own e
    · exact c
    · rw [if_neg c] at h;cases h
noncomputable def iQ(cp:List (Nat × Str))(nT:Nat)(fi:FI)(g:FG)(ft:FT)(fe:FE):FE:=fun e=>(fi e).bind fun p=>(fP (yN cp p.2.1) g ft fe p.1 (iR cp nT p.2.2) []).bind fun z=>if fJ cp z.2 p.2.2=true then some (.l z.1,h_ (fL cp) z.2 p.2.2) else none
section
variable{K:PySem.W.Frag}{F H:Hp}{σ:L2.St}{e:En}{cp:List (Nat × Str)}{nT:Nat}
theorem rQ{Q:VK}{fi:FI}{g:FG}{W:List Nat}{ft:FT}{fe:FE}(hn:(cp.map (·.1)).Nodup)(hW:∀j∈W,cp.length≤j)(h:fE K (iQ cp nT fi g ft fe) σ H Q):oC cp nT (fI K fi) (fG K g W) (fT K ft) (fE K fe) σ H Q:=by
  obtain⟨F0,e0,z,e',R0,hf,q⟩:=h
  unfold iQ at hf
  obtain⟨⟨items,own,e1⟩,h1,hf⟩:=Option.bind_eq_some_iff.mp hf
  dsimp only at hf
  obtain⟨⟨out,eo⟩,h2,hf⟩:=Option.bind_eq_some_iff.mp hf
  dsimp only at hf
  split at hf
  case isFalse=>cases hf
  case isTrue hB=>
  cases hf
  refine⟨⟨F0,e0,items,own,e1,R0,h1,fun J F1 H1 X1 R1 kp ok=>?_⟩⟩
  intro l hl
  obtain⟨Ri,sub⟩:=R1.inn (nT:=nT) hn
  have hFl:F1 l=none:=R1.freeF hl
  let Iv:Nat→L2.St→Hp→Prop:=fun i=>CI K W (c9 cp nT σ) F1 H1 (iR cp nT e1) l fun _ ei acc=>fP (yN cp own) g ft fe (items.drop i) ei acc=some (out,eo)
  have notown:∀p∈own,fL cp p.1=none→∀a,σ[p.1]?=some (some (.ref a))→¬cD (c9 cp nT σ) (iR cp nT e1) H1 a:=by
    rintro p hp hO a ha ⟨k,zf⟩
    obtain⟨xs,c1,c2⟩:=zf.resolve_right fun⟨xss,_,_,z,_⟩=>eH k xss z
    obtain⟨i,s,d1,d2⟩:=fy c1
    have e2:=hZ d1 c2
    have:p.1=i:=R1.inj p.1 i p.2 xs a (kp p hp) d2 ha e2
    unfold fL at hO
    rw [List.findIdx?_eq_none_iff] at hO
    have hh:=hO _ (List.mem_of_getElem? d1)
    simp [this] at hh
  refine⟨fun i m σ' H'=>m=items.length - i∧i≤items.length∧Iv i σ' H',⟨items.length,by simp,Nat.zero_le _,.mk (Ri.putT hFl (fun z=>(Ri.ownH l z) hl)).1 (cP.refl.putT hl (Ri.putT hFl (fun z=>(Ri.ownH l z) hl)).2) hFl (fun z=>(Ri.ownH l (((Ri.putT hFl (fun z=>(Ri.ownH l z) hl)).2 l).mp z)) hl) aq ax.nil h2⟩,?_⟩
  rintro i m σ' H' ⟨rfl,hi,⟨R',X',fl,no,hl',da,hc⟩⟩
  rename_i F' ei acc vs
  have kI:=ng hc
  have held:oQ K σ F' H' own:=fun p hp=>by
    obtain⟨a,us,c1,c2,c3,c4⟩:=R1.own p.1 p.2 (kp p hp)
    cases qk:fL cp p.1 with
    | none=>exact⟨a,us,c1,X'.tmp a _ c3 (notown p hp qk a c1),c4.mono X'.sf⟩
    | some k=>
      obtain⟨s,hs⟩:=ce qk
      have hk:k < cp.length:=(List.getElem?_eq_some_iff.mp hs).1
      obtain⟨a',us',d1,d2,d3,d4⟩:=R'.own k p.2 (kI (k,p.2) (List.mem_filterMap.mpr ⟨p,hp,by rw [qk];rfl⟩))
      rw [X'.wr k (fun z=>by have:=hW k z;lia),jo hs c1] at d1
      cases d1
      exact⟨a,us',c1,d3,d4⟩
  obtain⟨go,stop,yld⟩:=ok F' H' X'.sf R'.sm held
  by_cases hlt:i < items.length
  · have hd:items.drop i=items[i]::items.drop (i+1):=List.drop_eq_getElem_cons hlt
    rw [hd] at hc
    unfold fP at hc
    rw [if_pos kI] at hc
    obtain⟨e2,c2,hc⟩:=Option.bind_eq_some_iff.mp hc
    obtain⟨⟨b,e3⟩,c3,hc⟩:=Option.bind_eq_some_iff.mp hc
    refine .inr ⟨go i hlt,Iv (i+1),fun σ2 H2 r=>⟨items.length - (i+1),by lia,rfl,hlt,r⟩,fun x H2 hy=>?_⟩
    obtain⟨F2,sH,sF2,sm2,fz,hx⟩:=yld i items[i] x H2 (List.getElem?_eq_getElem hlt) hy
    obtain⟨R2,X2⟩:=R'.step sH sF2 sm2 fz
    refine⟨F2,ei,items[i],e2,R2,hx,c2,fun σ3 X3 R3=>⟨F2,e2,b,e3,R3,c3,fun F4 H4 X4 R4=>?_⟩⟩
    have hlH2:H2 l=some (.lst vs):=sH _ _ hl'
    have no2:¬cD σ' ei H2 l:=fun z=>by
      rcases X2.ow l z with z | z
      · exact no z
      · rw [hl'] at z;cases z
    have no3:¬cD σ3 e2 H2 l:=fun z=>by
      rcases X3.own l z with z | z
      · exact no2 z
      · rw [hlH2] at z;cases z
    have fl2:F2 l=none:=fz l fl (by rw [hl'];simp)
    have hlH4:H4 l=some (.lst vs):=X4.tmp l _ hlH2 no3
    have fl4:F4 l=none:=X4.fr l vs fl2 hlH2 no3
    have no4:¬cD σ3 e3 H4 l:=fun z=>by
      rcases X4.ow l z with z | z
      · exact no3 z
      · rw [hlH2] at z;cases z
    have E4:cP W (c9 cp nT σ) F1 H1 (iR cp nT e1) σ3 F4 H4 e3:=((X'.trans X2.s).trans X3).trans X4.s
    cases b with
    | false=>
      rw [if_neg (by simp)] at hc
      exact sX (.mk R4 E4 fl4 no4 hlH4 (da.mono (sF2.trans X4.sf)) hc)
    | true=>
      rw [if_pos rfl] at hc
      obtain⟨⟨r,e5⟩,c5,hc⟩:=Option.bind_eq_some_iff.mp hc
      obtain⟨d,c6,hc⟩:=Option.bind_eq_some_iff.mp hc
      split at hc
      case isFalse=>cases hc
      case isTrue hlen=>
      refine sY ⟨F4,e3,r,e5,R4,c5,fun F5 H5 v X5 R5 A5=>?_⟩
      have hlH5:H5 l=some (.lst vs):=X5.tmp l _ hlH4 no4
      have fl5:F5 l=none:=X5.fr l vs fl4 hlH4 no4
      have no5:¬cD σ3 e5 H5 l:=fun z=>by
        rcases X5.ow l z with z | z
        · exact no4 z
        · rw [hlH4] at z;cases z
      obtain⟨F6,R6,s6,d6,f6⟩:=cS.frozen R5 (rs:=[r]) (vs:=[v]) ⟨v,[],rfl,A5,rfl⟩ (ie c6)
      have fl6:F6 l=none:=f6 l fl5 (by rw [hlH4];simp)
      have X6:=X5.frz s6 f6
      have ll:=da.len
      have sl:sizeLine=16777216:=sizeLine_eq
      have dv:DA K F6 d v:=by
        simp only [ax] at d6
        obtain⟨v',r',e',hv,_⟩:=d6
        cases e';exact hv
      obtain⟨R7,o7⟩:=R6.putT (ws:=vs++[v]) fl6 no5
      exact⟨vs,hlH5,by lia,.mk R7 ((E4.trans X6.s).putT hl o7) fl6 (fun z=>no5 ((o7 l).mp z)) aq ((da.mono (sF2.trans (X4.sf.trans (X5.sf.trans s6)))).append (ax.one dv)) hc⟩
  · have hd:items.drop i=[]:=List.drop_eq_nil_of_le (by lia)
    rw [hd] at hc
    unfold fP at hc
    rw [if_pos kI] at hc
    cases hc
    refine .inl ⟨stop i (by lia),?_⟩
    obtain⟨R9,X9,o9⟩:=jq R1 sub eH X'.sf X'.dom X'.fr X'.lst X'.tmp R' (fun i k xs g1 g2=>X'.wr k fun z=>by
      obtain⟨s,g⟩:=ce g2
      have:=(List.getElem?_eq_some_iff.mp g).1
      have:=hW k z
      lia) fun i k xs g1 g2=>by
        obtain⟨s,g⟩:=ce g2
        unfold fJ at hB
        have hb:=List.all_eq_true.mp hB _ (List.mem_of_getElem? g)
        simp only [g1,g2,Option.getD_some,rT,Bool.not_true,Bool.false_or] at hb
        exact mC.mp hb
    exact q F' H' (.ref l) (X1.trans X9) R9 ⟨l,vs,rfl,X1.dom l hl,fl,hl',da,fun z=>R1.ownH l (o9 l z) hl⟩
end
section
variable{X:Cx}{K:PySem.W.Frag}{a b:Expr}{es:List Expr}{fa fb:FE}{fs:FA}{pos p p2 p3:Pos}{lo hi:Option Expr}
theorem wo{elt iter tg:Expr}{ifs:List Expr}{scope:Scope}{fi:FI}{g:FG}{ft:FT}{fe:FE}{W:List Nat}(sc0:Scope)(N0:List Str)(cp:List (Nat × Str))(tgN:List Str)
    (hc:X.calm=true)(hsc:X.env.scope=sc0)(hN0:X.N=N0)(hi:PI X tg iter (fI K fi))
    (hg:∀C s0 H0 fp,PG (ao X scope cp tgN C s0 H0 fp) tg (fG K g W))
    (ht:∀C s0 H0 fp,mZ (ao X scope cp tgN C s0 H0 fp) ifs (fT K ft))
    (he:∀C s0 H0 fp,PE (ao X scope cp tgN C s0 H0 fp) elt (fE K fe))
    (hk:scope.kind=.function)(hcell:∀y∈scope.names,y.2≠.cell)(hnames:∀y∈scope.names,y.2=.local→scope.names.lookup y.1=some .local)
    (hfr:∀y∈scope.names,y.2=.free→scope.names.lookup y.1=some .free∧sc0.names.lookup y.1=some .cell)
    (hcp:∀p∈cp,N0[p.1]?=some p.2)(hcq:∀p∈cp,sc0.names.lookup p.2=some .cell∧scope.names.lookup p.2=some .free)(hnd:(cp.map (·.1)).Nodup)(hW:∀j∈W,cp.length≤j)
    (hs:∀x,foldedSetIterable iter X.env x=pure x):
    PE X (.ListComp elt [⟨tg,iter,ifs,0⟩] scope pos) (fE K (iQ cp tgN.length fi g ft fe)):=(qp sc0 N0 cp tgN hc hsc hN0 hi hg ht he hk hcell hnames hfr hcp hcq hs).mono fun _ _ _ h=>rQ hnd hW h
end
theorem jz{cs:En}{ft:FT}{fe:FE}{b:PyData→Bool}{y:PyData→PyData}{own:fM}(hk:∀t,keeps own (cs++[t])):∀(items:List PyData) (t:Option Sv) (acc:List PyData),(∀x∈items,ft (cs++[some (.d x)])=some (b x,cs++[some (.d x)]))→(∀x∈items,b x=true→fe (cs++[some (.d x)])=some (.d (y x),cs++[some (.d x)]))→
    acc.length+items.length≤1000000→∃t',fP own (ah cs.length) ft fe items (cs++[t]) acc=some (acc++(items.filter b).map y,cs++[t'])
  | [],t,acc,_,_,_=>⟨t,by unfold fP;rw [if_pos (hk t)];simp⟩
  | x::r,t,acc,h1,h2,hl=>by
    have hg:ah cs.length x (cs++[t])=some (cs++[some (.d x)]):=by simp [ah]
    have h1x:=h1 x (by simp)
    unfold fP
    rw [if_pos (hk t),hg]
    simp only [Option.bind_some,h1x]
    cases hb:b x with
    | true=>
      simp only [if_true,h2 x (by simp) hb,Option.bind_some,km]
      rw [if_pos (by simp at hl;lia)]
      obtain⟨t',ih⟩:=jz hk (b:=b) (y:=y) r (some (.d x)) (acc++[y x]) (fun z hz=>h1 z (by simp [hz])) (fun z hz=>h2 z (by simp [hz])) (by simp at hl ⊢;lia)
      exact⟨t',by rw [ih];simp [hb]⟩
    | false=>
      simp only [Bool.false_eq_true,if_false]
      obtain⟨t',ih⟩:=jz hk (b:=b) (y:=y) r (some (.d x)) acc (fun z hz=>h1 z (by simp [hz])) (fun z hz=>h2 z (by simp [hz])) (by simp at hl;lia)
      exact⟨t',by rw [ih];simp [hb]⟩
theorem rP{cp:List (Nat × Str)}{nT i:Nat}{g:FG}{ft:FT}{fe:FE}{e eo:En}{xs out:List PyData}(hi:e[i]?=some (some (.l xs)))(h3:fP (yN cp [(i,xs)]) g ft fe xs (iR cp nT e) []=some (out,eo))(hb:fJ cp eo e=true):iQ cp nT (ej (ac i)) g ft fe e=some (.l out,h_ (fL cp) eo e):=by
  have h1:ej (ac i) e=some (xs,[(i,xs)],e):=by simp [ej,ac,hi,wA]
  unfold iQ
  rw [h1]
  simp only [Option.bind_some,h3]
  rw [if_pos hb]
end L2
namespace L2
open PySem PySem.Spec PyProof.Rows
section
variable{X:Cx}{K:PySem.W.Frag}
theorem j3(ns:List Int):∀n,preSum (fun i=>ns.getD i 0) n=(ns.take n).sum
  | 0=>rfl
  | n+1=>by
    show preSum (fun i=>ns.getD i 0) n+ns.getD n 0=_
    rw [j3 ns n,List.take_succ,List.sum_append,List.getD_eq_getElem?_getD]
    cases ns[n]?<;>simp
theorem pH{prog:Program}{w:World}{A:Around}{E:Value→Shared→Prop}{s:Shared}{l:Addr}{items:Array Value}{ns:List Int}{Q:Value→Shared→Prop}(hh:A.handled=none)(hl:s.heap.IsTuple l items)(hi:IntsAre items.toList ns)
    (h:∀h' tk t',(∀b o,s.heap.get? b=some o→h'.get? b=some o)→Q (.int ns.sum t') {s with heap:=h',toks:=tk}):wpAny (model prog w) A (call (.builtin "sum") [.ref l]) Q E s:=by
  have hlt:l < s.heap.objs.size:=by obtain⟨o,ho,_⟩:=id hl;exact Heap.lt_size ho
  refine call_sum_walkG (wpAny_pyIter_tuple hl ?_)
  refine⟨s.heap.objs.size,[s.heap.objs.size,l],[s.heap.objs.size],items.size,_,_,fun i=>ns.getD i 0,rfl,Walks.tuple (A:=A.in1) hh _ l (Nat.ne_of_lt hlt) items,⟨⟨_,Heap.get?_push_size _ rfl,rfl,rfl⟩,hl.at fun o e=>Heap.get?_push_of_some _ e⟩,fun b hb=>?_,fun i v hv=>IntsAre.int_at hi i v (by rw [Array.getElem?_toList];exact hv),fun h' tk t' hk=>?_⟩
  · rw [Heap.size_push]
    simp only [List.mem_cons,List.not_mem_nil,or_false] at hb
    rcases hb with rfl | rfl
    · exact Nat.lt_succ_self _
    · exact Nat.lt_succ_of_lt hlt
  · have e:preSum (fun i=>ns.getD i 0) items.size=ns.sum:=by
      have:=hi.length
      rw [j3,List.take_of_length_le (by rw [←this,Array.length_toList];exact Nat.le_refl _)]
    rw [e]
    refine h h' tk t' fun b o q=>hk b o (fun z=>?_) (Heap.get?_push_of_some _ q)
    simp only [List.mem_cons,List.not_mem_nil,or_false] at z
    rw [z] at q
    exact absurd (Heap.lt_size q) (Nat.lt_irrefl _)
theorem qT{k:Nat}(hr:bX k X.A):cQ X (.builtin "sum") (fun xs H Q=>∃(l:Addr) (ns:List Int),xs=[.ref l]∧(em X.K H l (ns.map V.int)∨dQ X.K H l (ns.map V.int))∧Q (.int ns.sum) H):=by
  intro pins s σ H xs us Q I r h
  obtain⟨l,ns,rfl,hs,q⟩:=h
  rcases hs with hs | hs
  · exact m6 hr pins s σ H _ us Q I r ⟨l,ns,rfl,hs,q⟩
  · obtain⟨u,rfl,ru⟩:=fK r
    cases ru
    obtain⟨its,rv,p,hz⟩:=I.tuple hs
    exact pH hr.hd p (dZ rv) fun h' tk t' hk=>⟨.int ns.sum,H,I.kept hk,⟨t',rfl⟩,q⟩
def eU:En→Rv→Option Rv:=fun e x=>(bP e x).bind fun z=>(j2 z.2).map fun ns=>.d (.int ns.sum)
theorem zz:dn K (fun xs H Q=>∃(l:Addr) (ns:List Int),xs=[.ref l]∧(em K H l (ns.map V.int)∨dQ K H l (ns.map V.int))∧Q (.int ns.sum) H) (g1 eU):=fv fun σ H0 F H e x z v Q R A hg q=>by
  unfold eU at hg
  obtain⟨⟨b,ds⟩,h1,hg⟩:=Option.bind_eq_some_iff.mp hg
  obtain⟨ns,h2,hg⟩:=Option.map_eq_some_iff.mp hg
  cases hg
  obtain⟨l,ws,rfl,d1,s1⟩:=bw R A h1
  have e1:ds=ns.map .int:=gT h2
  subst e1
  have e2:=ax.ints.mp d1
  subst e2
  refine⟨l,ns,rfl,?_,q F H _ (dP.refl _ _ _ _) R hE⟩
  cases b with
  | true=>exact .inl s1
  | false=>exact .inr s1
theorem l_{k:Nat}(hK:X.K=K)(hr:bX k X.A):jt X K "sum" (g1 eU):=⟨.inl ⟨_,_,hK ▸ qT hr,zz,PyProof.Rows.boot_sum⟩⟩
theorem vj{e:En}{ns:List Int}:g1 eU e [.d (.tuple (ns.map .int))]=some (.d (.int ns.sum)):=by
  simp [g1,eU,bP,cI]
theorem vi{e:En}{ns:List Int}:g1 eU e [.l (ns.map .int)]=some (.d (.int ns.sum)):=by
  simp [g1,eU,bP,cI]
end
end L2
namespace V64
open PySem PySem.Spec PyProof.Rows L2
variable{P:Program}{w:World}{K:W.Frag}{mg:Str→Option Value}{base:Heap}{f:Addr}{fd:FuncData}
local macro_rules|`(tactic|trivial)=>`(tactic|first|exact .inl rfl|exact .inr rfl|assumption)
local macro_rules|`(¬$n:num)=>`(@qw _ _ $n _ _ (by rfl) (by rfl) (by decide))
local macro_rules|`($a∘$b)=>`(@Co _ _ _ _ _ _ $a $b (by rfl))
def top(i:Nat):Stmt:=PySem.Challenge.pw_askedpairs_k64_heaviest_of_anything.main.body.getD i (.Pass ⟨0,0,0,0⟩)
theorem xj{α:Type u}{β:Type v}{f:α→β}:List.map f []=[]:=rfl
theorem xi{α:Type u}{β:Type v}{f:α→β}{a:α}{l:List α}:List.map f (a::l)=f a::List.map f l:=rfl
theorem xc{α:Type u}{l:List α}:[]++l=l:=rfl
theorem xb{α:Type u}{a:α}{l m:List α}:(a::l)++m=a::(l++m):=rfl
theorem xg{α:Type u}{a:α}{l:List α}:(a::l)[0]?=some a:=rfl
theorem xh{α:Type u}{a:α}{l:List α}{i:Nat}:(a::l)[i+1]?=l[i]?:=rfl
theorem xf{α:Type u}{β:Type v}{a:α}{f:α→Option β}:Option.bind (some a) f=f a:=rfl
theorem xk{α:Type u}{β:Type v}{a:α}{f:α→β}:Option.map f (some a)=some (f a):=rfl
abbrev dr:Stmt:=top 1
abbrev bv:Stmt:=top 2
abbrev dt:Stmt:=top 3
abbrev b6:Stmt:=top 4
abbrev el:Stmt:=top 6
abbrev cM:Stmt:=top 8
abbrev bB:Stmt:=top 10
abbrev a9:Stmt:=top 11
abbrev ji:Stmt:=top 13
abbrev jh:Stmt:=top 14
abbrev hJ:Stmt:=top 15
abbrev oj:Stmt:=top 16
abbrev om:Stmt:=top 17
abbrev kW:Stmt:=top 18
abbrev hG:Stmt:=top 19
abbrev oo:Stmt:=top 20
abbrev ip:Stmt:=top 21
abbrev cL:Stmt:=top 22
abbrev br:Stmt:=top 23
abbrev jP:Stmt:=top 24
abbrev cZ:Stmt:=top 25
abbrev cz:Stmt:=top 26
abbrev jj:Stmt:=top 27
structure j' (mg:Str→Option Value):Prop where
  b_abs:mg "abs"=none
  b_len:mg "len"=none
  b_min:mg "min"=none
  b_max:mg "max"=none
  b_range:mg "range"=none
  b_tuple:mg "tuple"=none
  b_int:mg "int"=none
  b_isinstance:mg "isinstance"=none
  b_bool:mg "bool"=none
  b_set:mg "set"=none
  b_sum:mg "sum"=none
  b_any:mg "any"=none
  b_all:mg "all"=none
  b_list:mg "list"=none
  b_str:mg "str"=none
noncomputable def jV:FS:=(bH (iD (js (iJ "int") (ac 0)) (lX (js (iJ "bool") (ac 0)))))
noncomputable def cw:FM:=jF 1 0 [] jV
theorem jk:aM ["thing"] ["thing"] (aj dr):=⟨rfl,rfl,rfl,by decide+kernel,rfl,by decide+kernel,by decide+kernel⟩
theorem mH(h:bQ K mg "is_number" dr f fd ["thing"])(T:j' mg):aS P w K mg base du 1 f fd ["thing"] (dI K 1 cw):=by
  have nd:=jk.nd
  exact h.fn jk rfl rfl (fun cdv A outer s H E hr=>(@am _ _ _ _ _ (@aA _ _ _ _ _ (@jM _ _ _ _ _ _ _ _ (@jf _ _ _ _ _ _ _ _ "int" rfl (by decide) rfl T.b_isinstance rfl T.b_int PyProof.Rows.boot_int (by decide) (by decide) (¬0) (by rfl) (by rfl)) (@jO _ _ _ _ _ _ (@uf _ _ _ _ _ (@jf _ _ _ _ _ _ _ _ "bool" rfl (by decide) rfl T.b_isinstance rfl T.b_bool PyProof.Rows.boot_bool (by decide) (by decide) (¬0) (by rfl) (by rfl))))))))
noncomputable def bS:FS:=(bH (iD (dO 1 cw (aa (ac 0) ag)) (ia zN zN (ac 1) (ac 0) (ac 2))))
noncomputable def aQ:FM:=jF 3 0 [] bS
theorem eB:aM ["thing","low","high"] ["thing","low","high"] (aj bv):=⟨rfl,rfl,rfl,by decide+kernel,rfl,by decide+kernel,by decide+kernel⟩
theorem iu(h:bQ K mg "is_number_within" bv f fd ["thing","low","high"])(T:j' mg){f_is_number:Addr}{e_is_number:FuncData}(h_is_number:bQ K mg "is_number" dr f_is_number e_is_number ["thing"])(G_is_number:aS P w K mg base du 1 f_is_number e_is_number ["thing"] (dI K 1 cw)):aS P w K mg base du 2 f fd ["thing","low","high"] (dI K 3 aQ):=by
  have nd:=eB.nd
  exact h.fn eB rfl rfl (fun cdv A outer s H E hr=>(@am _ _ _ _ _ (@aA _ _ _ _ _ (@jM _ _ _ _ _ _ _ _ (@bc _ _ _ _ _ _ _ _ _ _ _ _ _ _ _ h_is_number G_is_number (hr.mono (by decide)) ((¬0)∘ab) (by rfl) (by decide) (by rfl) (by rfl)) (@jO _ _ _ _ _ _ (@wn _ _ _ _ _ _ _ _ _ _ _ _ _ (@xQ _ _) (@xQ _ _) (¬1) (¬0) (¬2) (by with_unfolding_all rfl)))))))
noncomputable def gM:FS:=(bH (iD (js (iJ "tuple") (ac 0)) (ar (cv false) (ay (g1 eu) (aa (ac 0) ag)) (ac 1))))
noncomputable def bR:FM:=jF 2 0 [] gM
theorem jl:aM ["thing","many"] ["thing","many"] (aj dt):=⟨rfl,rfl,rfl,by decide+kernel,rfl,by decide+kernel,by decide+kernel⟩
theorem mI(h:bQ K mg "is_row_of" dt f fd ["thing","many"])(T:j' mg):aS P w K mg base du 1 f fd ["thing","many"] (dI K 2 bR):=by
  have nd:=jl.nd
  exact h.fn jl rfl rfl (fun cdv A outer s H E hr=>(@am _ _ _ _ _ (@aA _ _ _ _ _ (@jM _ _ _ _ _ _ _ _ (@jf _ _ _ _ _ _ _ _ "tuple" rfl (by decide) rfl T.b_isinstance rfl T.b_tuple PyProof.Rows.boot_tuple (by decide) (by decide) (¬0) (by rfl) (by rfl)) (@jO _ _ _ _ _ _ (@iA _ _ _ _ _ _ _ _ _ (@md _ _ _ rfl hr) (@aO _ _ _ _ _ _ _ _ _ (@b_len _ _ rfl) (by rfl) T.b_len ((¬0)∘ab) (by decide) (by decide) (by rfl) (by rfl)) (¬1) (aR _)))))))
noncomputable def dD:FI:=(ej (ac 0))
noncomputable def aW:FS:=(aw (gD (gF (aG (dO 3 aQ (aa (ac 3) (aa (ac 2) (aa (ar eT (ac 1) (vC (.int 1))) ag))))))
    (bH (vC (.bool false)))
    dm)
    (ba 2 (ar aK (ac 3) (vC (.int 1)))))
noncomputable def dc:FS:=(aw (gD (gF (aG (js (iJ "tuple") (ac 0))))
    (bH (vC (.bool false)))
    dm)
    (aw (ba 2 (vC (.int 0)))
    (aw (dS ([3]++(([]++[])++[2])) dD (ah 3) aW)
    (bH (vC (.bool true))))))
noncomputable def bg:FM:=jF 2 2 (([]++[])++([2]++(([3]++(([]++[])++[2]))++[]))) dc
theorem fV:aM ["thing","many","least","part"] ["thing","many"] (aj b6):=⟨rfl,rfl,rfl,by decide+kernel,rfl,by decide+kernel,by decide+kernel⟩
theorem jI(h:bQ K mg "is_rising_row" b6 f fd ["thing","many"])(T:j' mg){f_is_number_within:Addr}{e_is_number_within:FuncData}(h_is_number_within:bQ K mg "is_number_within" bv f_is_number_within e_is_number_within ["thing","low","high"])(G_is_number_within:aS P w K mg base du 2 f_is_number_within e_is_number_within ["thing","low","high"] (dI K 3 aQ)):aS P w K mg base du 3 f fd ["thing","many"] (dI K 2 bg):=by
  have nd:=fV.nd
  exact h.fn fV rfl rfl (fun cdv A outer s H E hr=>(@af _ _ _ _ _ _ _ _ (@ci _ _ _ _ _ _ _ _ _ _ _ (@d8 _ _ _ _ _ (@dk _ _ _ _ (@jf _ _ _ _ _ _ _ _ "tuple" rfl (by decide) rfl T.b_isinstance rfl T.b_tuple PyProof.Rows.boot_tuple (by decide) (by decide) (¬0) (by rfl) (by rfl)) (by intro _;rfl)))
      (@am _ _ _ _ _ (@aA _ _ _ _ _ (@bO _ _ _ _ _)))
      (@aT _ _))
      (@af _ _ _ _ _ _ _ _ (@aD _ _ _ _ _ 2 _ _ nd rfl (Or.inl rfl) ae (by rfl) (by trivial))
      (@af _ _ _ _ _ _ _ _ (@eZ _ _ _ _ _ _ _ _ _ _ _ PassesOwn.never rfl (@cy _ _ _ _ _ rfl (¬0)) (@aB _ _ _ 3 _ nd rfl (Or.inl rfl) (by trivial))
      (@af _ _ _ _ _ _ _ _ (@ci _ _ _ _ _ _ _ _ _ _ _ (@d8 _ _ _ _ _ (@dk _ _ _ _ (@bc _ _ _ _ _ _ _ _ _ _ _ _ _ _ _ h_is_number_within G_is_number_within (hr.mono (by decide)) ((¬3)∘((¬2)∘((@lR _ _ _ _ _ _ _ (¬1) ae)∘ab))) (by rfl) (by decide) (by rfl) (by rfl)) (by intro _;rfl)))
      (@am _ _ _ _ _ (@aA _ _ _ _ _ (@bO _ _ _ _ _)))
      (@aT _ _))
      (@am _ _ _ _ _ (@aD _ _ _ _ _ 2 _ _ nd rfl (Or.inl rfl) (@aF _ _ _ _ _ _ _ rfl (¬3) ae) (by rfl) (by trivial)))) (by intro _;rfl))
      (@am _ _ _ _ _ (@aA _ _ _ _ _ (@bO _ _ _ _ _)))))))
noncomputable def jW:FS:=(bH (j_ (ar cO (ar cO (ac 0) (vC (.int 1))) (ac 1)) cx (cg (vC (.int 2)))))
noncomputable def ek:FM:=jF 2 0 [] jW
theorem jm:aM ["web","tie"] ["web","tie"] (aj el):=⟨rfl,rfl,rfl,by decide+kernel,rfl,by decide+kernel,by decide+kernel⟩
theorem mJ(h:bQ K mg "things_of" el f fd ["web","tie"])(T:j' mg):aS P w K mg base du 1 f fd ["web","tie"] (dI K 2 ek):=by
  have nd:=jm.nd
  exact h.fn jm rfl rfl (fun cdv A outer s H E hr=>(@am _ _ _ _ _ (@aA _ _ _ _ _ (@bE _ _ _ _ _ _ _ _ _ _ rfl (@bh _ _ _ _ _ _ _ rfl (@bh _ _ _ _ _ _ _ rfl (¬0) ae (fun _ _=>rfl)) (¬1) (fun _ _=>rfl)) (@bF _ _) (@bG _ _ _ _ ae)))))
noncomputable def gS:FI:=(ej (ac 1))
noncomputable def dC:FI:=(ej (dO 2 ek (aa (ac 0) (aa (ac 1) ag))))
noncomputable def dB:FE:=(ac 2)
noncomputable def fZ:FS:=(aw (gD (gF (aG (dO 2 bg (aa (ac 1) (aa (ay (g1 eu) (aa (ar cO (ac 0) (vC (.int 1))) ag)) ag)))))
    (bH (vC (.bool false)))
    dm)
    (aw (ba 2 (jS [(0,"web")] 2 gS (ah 1) bI dC (ah 2) bI dB))
    (bH (ar (cv false) (js gb (ac 2)) (ay (g1 eu) (aa (ac 2) ag))))))
noncomputable def cJ:FM:=jF 2 1 (([]++[])++([2]++[])) fZ
theorem iC:aM ["web","thing","things"] ["web","thing"] (aj cM):=⟨rfl,rfl,rfl,by decide+kernel,rfl,by decide+kernel,by decide+kernel⟩
theorem lm(h:bQ K mg "is_pairing" cM f fd ["web","thing"])(T:j' mg){f_is_rising_row:Addr}{e_is_rising_row:FuncData}(h_is_rising_row:bQ K mg "is_rising_row" b6 f_is_rising_row e_is_rising_row ["thing","many"])(G_is_rising_row:aS P w K mg base du 3 f_is_rising_row e_is_rising_row ["thing","many"] (dI K 2 bg)){f_things_of:Addr}{e_things_of:FuncData}(h_things_of:bQ K mg "things_of" el f_things_of e_things_of ["web","tie"])(G_things_of:aS P w K mg base du 1 f_things_of e_things_of ["web","tie"] (dI K 2 ek)):aS P w K mg base du 4 f fd ["web","thing"] (dI K 2 cJ):=by
  have nd:=iC.nd
  exact h.fn iC rfl rfl (fun cdv A outer s H E hr=>(@af _ _ _ _ _ _ _ _ (@ci _ _ _ _ _ _ _ _ _ _ _ (@d8 _ _ _ _ _ (@dk _ _ _ _ (@bc _ _ _ _ _ _ _ _ _ _ _ _ _ _ _ h_is_rising_row G_is_rising_row (hr.mono (by decide)) ((¬1)∘((@aO _ _ _ _ _ _ _ _ _ (@b_len _ _ rfl) (by rfl) T.b_len ((@bh _ _ _ _ _ _ _ rfl (¬0) ae (fun _ _=>rfl))∘ab) (by decide) (by decide) (by rfl) (by rfl))∘ab)) (by rfl) (by decide) (by rfl) (by rfl)) (by intro _;rfl)))
      (@am _ _ _ _ _ (@aA _ _ _ _ _ (@bO _ _ _ _ _)))
      (@aT _ _))
      (@af _ _ _ _ _ _ _ _ (@pz _ _ _ (2) _ _ _ _ _ _ _ _ _ _ _ _ _ _ _ _ _ _ _ _ (aj cM) ["web","thing","things"] [(0,"web")] ["tie","part"] rfl rfl rfl (@cy _ _ _ _ _ rfl (¬1))
        (fun C s0 H0 fp=>(@aB _ _ _ 1 _ (show List.Nodup (["web","tie","part"]:List Str) by decide+kernel) rfl (Or.inl rfl) (by trivial))) (fun C s0 H0 fp=>(@eJ _ _)) (fun C s0 H0 fp=>(@cy _ _ _ _ _ rfl (@bc _ _ _ _ _ _ _ _ _ _ _ _ _ _ _ h_things_of G_things_of (hr.mono (by decide)) ((¬0)∘((¬1)∘ab)) (by rfl) (by decide) (by rfl) (by rfl)))) (fun C s0 H0 fp=>(@aB _ _ _ 2 _ (show List.Nodup (["web","tie","part"]:List Str) by decide+kernel) rfl (Or.inl rfl) (by trivial))) (fun C s0 H0 fp=>(@eJ _ _))
        (fun C s0 H0 fp=>(¬2)) rfl (by decide+kernel) (by decide+kernel) (by decide+kernel) (by decide+kernel) (by decide+kernel) (by decide+kernel) (by decide+kernel) nd rfl rfl (by rfl) (by intro _ _ _ _ _;rfl) (by intro _;rfl))
      (@am _ _ _ _ _ (@aA _ _ _ _ _ (@iA _ _ _ _ _ _ _ _ _ (@md _ _ _ rfl hr) (@t_ _ _ _ _ _ _ _ _ rfl rfl rfl T.b_len rfl T.b_set (¬2) (by rfl) (by rfl) (by rfl) (by rfl)) (@aO _ _ _ _ _ _ _ _ _ (@b_len _ _ rfl) (by rfl) T.b_len ((¬2)∘ab) (by decide) (by decide) (by rfl) (by rfl)) (aR _)))))))
noncomputable def fx:FI:=(ej (ac 0))
noncomputable def bC:FE:=(iD (dO 1 cw (aa (ac 0) ag)) (ar xm (ac 0) (vC (.int 0))))
noncomputable def er:FS:=(bH (iD (dO 2 bR (aa (ac 0) (aa (ac 1) ag))) (ay (g1 (fw nz)) (aa (dJ [] 1 fx (ah 0) bI bC) ag))))
noncomputable def bA:FM:=jF 2 0 [] er
theorem fU:aM ["thing","many"] ["thing","many"] (aj bB):=⟨rfl,rfl,rfl,by decide+kernel,rfl,by decide+kernel,by decide+kernel⟩
theorem jH(h:bQ K mg "is_number_row" bB f fd ["thing","many"])(T:j' mg){f_is_row_of:Addr}{e_is_row_of:FuncData}(h_is_row_of:bQ K mg "is_row_of" dt f_is_row_of e_is_row_of ["thing","many"])(G_is_row_of:aS P w K mg base du 1 f_is_row_of e_is_row_of ["thing","many"] (dI K 2 bR)){f_is_number:Addr}{e_is_number:FuncData}(h_is_number:bQ K mg "is_number" dr f_is_number e_is_number ["thing"])(G_is_number:aS P w K mg base du 1 f_is_number e_is_number ["thing"] (dI K 1 cw)):aS P w K mg base du 2 f fd ["thing","many"] (dI K 2 bA):=by
  have nd:=fU.nd
  exact h.fn fU rfl rfl (fun cdv A outer s H E hr=>(@am _ _ _ _ _ (@aA _ _ _ _ _ (@jM _ _ _ _ _ _ _ _ (@bc _ _ _ _ _ _ _ _ _ _ _ _ _ _ _ h_is_row_of G_is_row_of (hr.mono (by decide)) ((¬0)∘((¬1)∘ab)) (by rfl) (by decide) (by rfl) (by rfl)) (@jO _ _ _ _ _ _ (@aO _ _ _ _ _ _ _ _ _ (@b_all _ _ _ rfl hr) (by rfl) T.b_all ((@g_ _ _ _ _ _ _ _ _ _ _ _ _ _ (aj bB) ["thing","many"] [] ["part"] rfl rfl rfl (@cy _ _ _ _ _ rfl (¬0))
        (fun C s0 H0 fp=>(@aB _ _ _ 0 _ (show List.Nodup (["part"]:List Str) by decide+kernel) rfl (Or.inl rfl) (by trivial))) (fun C s0 H0 fp=>(@eJ _ _))
        (fun C s0 H0 fp=>(@jM _ _ _ _ _ _ _ _ (@bc _ _ _ _ _ _ _ _ _ _ _ _ _ _ _ h_is_number G_is_number (hr.mono (by decide)) ((¬0)∘ab) (by rfl) (by decide) (by rfl) (by rfl)) (@jO _ _ _ _ _ _ (@iA _ _ _ _ _ _ _ _ _ (@uZ _ _) (¬0) ae (aR _))))) rfl (by decide+kernel) (by decide+kernel) (by decide+kernel) (by decide+kernel) (by decide+kernel) (by decide+kernel) (by decide+kernel) (by intro _;rfl))∘ab) (by decide) (by decide) (by rfl) (by rfl)))))))
noncomputable def eW:FI:=(ej (ac 2))
noncomputable def bT:FE:=(ar cO (ar cO (ar cO (ac 0) (vC (.int 1))) (ac 1)) (vC (.int 3)))
noncomputable def eX:FI:=(ej (ar cO (ac 0) (vC (.int 1))))
noncomputable def bU:FE:=(ar uM (ar aK (ar cO (ac 0) (ac 1)) (ar cO (ac 0) (ac 2))) (ac 4))
noncomputable def bt:FS:=(aw (gD (gF (aG (dO 2 bR (aa (ac 1) (aa (vC (.int 2)) ag)))))
    (bH (vC (.bool false)))
    dm)
    (aw (pD (ac 1) (iw (bi (ah 2) (bi (ah 3) gx))))
    (aw (gD (rV (gF (aG (dO 2 cJ (aa (ac 0) (aa (ac 2) ag))))) (gF (aG (dO 2 bA (aa (ac 3) (aa (ar cO (ac 0) (vC (.int 0))) ag))))))
    (bH (vC (.bool false)))
    dm)
    (aw (gD (aG (ay (g1 (fw nA)) (aa (dJ [(3,"prices")] 4 eX (iw (bi (ah 1) (bi (ah 2) (bi (ah 3) (bi (ah 4) gx))))) bI bU) ag)))
    (bH (vC (.bool false)))
    dm)
    (bH (ar (cv false) (ay (g1 eU) (aa (ac 3) ag)) (ay (g1 eU) (aa (dJ [(0,"web")] 1 eW (ah 1) bI bT) ag))))))))
noncomputable def aI:FM:=jF 2 2 (([]++[])++(([2]++([3]++[]))++(([]++[])++(([]++[])++[])))) bt
theorem fF:aM ["web","thing","pairing","prices"] ["web","thing"] (aj a9):=⟨rfl,rfl,rfl,by decide+kernel,rfl,by decide+kernel,by decide+kernel⟩
theorem jd(h:bQ K mg "heaviest_holds" a9 f fd ["web","thing"])(T:j' mg){f_is_row_of:Addr}{e_is_row_of:FuncData}(h_is_row_of:bQ K mg "is_row_of" dt f_is_row_of e_is_row_of ["thing","many"])(G_is_row_of:aS P w K mg base du 1 f_is_row_of e_is_row_of ["thing","many"] (dI K 2 bR)){f_is_pairing:Addr}{e_is_pairing:FuncData}(h_is_pairing:bQ K mg "is_pairing" cM f_is_pairing e_is_pairing ["web","thing"])(G_is_pairing:aS P w K mg base du 4 f_is_pairing e_is_pairing ["web","thing"] (dI K 2 cJ)){f_is_number_row:Addr}{e_is_number_row:FuncData}(h_is_number_row:bQ K mg "is_number_row" bB f_is_number_row e_is_number_row ["thing","many"])(G_is_number_row:aS P w K mg base du 2 f_is_number_row e_is_number_row ["thing","many"] (dI K 2 bA)):aS P w K mg base du 5 f fd ["web","thing"] (dI K 2 aI):=by
  have nd:=fF.nd
  exact h.fn fF rfl rfl (fun cdv A outer s H E hr=>(@af _ _ _ _ _ _ _ _ (@ci _ _ _ _ _ _ _ _ _ _ _ (@d8 _ _ _ _ _ (@dk _ _ _ _ (@bc _ _ _ _ _ _ _ _ _ _ _ _ _ _ _ h_is_row_of G_is_row_of (hr.mono (by decide)) ((¬1)∘(ae∘ab)) (by rfl) (by decide) (by rfl) (by rfl)) (by intro _;rfl)))
      (@am _ _ _ _ _ (@aA _ _ _ _ _ (@bO _ _ _ _ _)))
      (@aT _ _))
      (@af _ _ _ _ _ _ _ _ (@pA _ _ _ _ _ _ _ _ (¬1) (@mO _ _ _ _ _ _ _ _ rfl rfl (@cW _ _ _ _ _ _ _ _ (@aB _ _ _ 2 _ nd rfl (Or.inl rfl) (by trivial)) (@cW _ _ _ _ _ _ _ _ (@aB _ _ _ 3 _ nd rfl (Or.inr rfl) (by trivial)) (@kd _ _) (by rfl)) (by rfl)) (ec (ec mz)) (by rfl) (by rfl)) (by rfl) (by rfl) (by rfl))
      (@af _ _ _ _ _ _ _ _ (@ci _ _ _ _ _ _ _ _ _ _ _ (@pB _ _ _ _ (@kS _ _ _ _ _ _ _ _ (@d8 _ _ _ _ _ (@dk _ _ _ _ (@bc _ _ _ _ _ _ _ _ _ _ _ _ _ _ _ h_is_pairing G_is_pairing (hr.mono (by decide)) ((¬0)∘((¬2)∘ab)) (by rfl) (by decide) (by rfl) (by rfl)) (by intro _;rfl))) (@kT _ _ _ _ _ (@d8 _ _ _ _ _ (@dk _ _ _ _ (@bc _ _ _ _ _ _ _ _ _ _ _ _ _ _ _ h_is_number_row G_is_number_row (hr.mono (by decide)) ((¬3)∘((@bh _ _ _ _ _ _ _ rfl (¬0) ae (fun _ _=>rfl))∘ab)) (by rfl) (by decide) (by rfl) (by rfl)) (by intro _;rfl))))))
      (@am _ _ _ _ _ (@aA _ _ _ _ _ (@bO _ _ _ _ _)))
      (@aT _ _))
      (@af _ _ _ _ _ _ _ _ (@ci _ _ _ _ _ _ _ _ _ _ _ (@dk _ _ _ _ (@aO _ _ _ _ _ _ _ _ _ (@b_any _ _ _ rfl hr) (by rfl) T.b_any ((@g_ _ _ _ _ _ _ _ _ _ _ _ _ _ (aj a9) ["web","thing","pairing","prices"] [(3,"prices")] ["one","other","chance","worth"] rfl rfl rfl (@cy _ _ _ _ _ rfl (@bh _ _ _ _ _ _ _ rfl (¬0) ae (fun _ _=>rfl)))
        (fun C s0 H0 fp=>(@mO _ _ _ _ _ _ _ _ rfl rfl (@cW _ _ _ _ _ _ _ _ (@aB _ _ _ 1 _ (show List.Nodup (["prices","one","other","chance","worth"]:List Str) by decide+kernel) rfl (Or.inl rfl) (by trivial)) (@cW _ _ _ _ _ _ _ _ (@aB _ _ _ 2 _ (show List.Nodup (["prices","one","other","chance","worth"]:List Str) by decide+kernel) rfl (Or.inl rfl) (by trivial)) (@cW _ _ _ _ _ _ _ _ (@aB _ _ _ 3 _ (show List.Nodup (["prices","one","other","chance","worth"]:List Str) by decide+kernel) rfl (Or.inl rfl) (by trivial)) (@cW _ _ _ _ _ _ _ _ (@aB _ _ _ 4 _ (show List.Nodup (["prices","one","other","chance","worth"]:List Str) by decide+kernel) rfl (Or.inl rfl) (by trivial)) (@kd _ _) (by rfl)) (by rfl)) (by rfl)) (by rfl)) (ec (ec (ec (ec mz)))) (by rfl) (by rfl))) (fun C s0 H0 fp=>(@eJ _ _))
        (fun C s0 H0 fp=>(@iA _ _ _ _ _ _ _ _ _ (@r_ _ _) (@aF _ _ _ _ _ _ _ rfl (@bh _ _ _ _ _ _ _ rfl (¬0) (¬1) (fun _ _=>rfl)) (@bh _ _ _ _ _ _ _ rfl (¬0) (¬2) (fun _ _=>rfl))) (¬4) (aR _))) rfl (by decide+kernel) (by decide+kernel) (by decide+kernel) (by decide+kernel) (by decide+kernel) (by decide+kernel) (by decide+kernel) (by intro _;rfl))∘ab) (by decide) (by decide) (by rfl) (by rfl)) (by intro _;rfl))
      (@am _ _ _ _ _ (@aA _ _ _ _ _ (@bO _ _ _ _ _)))
      (@aT _ _))
      (@am _ _ _ _ _ (@aA _ _ _ _ _ (@iA _ _ _ _ _ _ _ _ _ (@md _ _ _ rfl hr) (@aO _ _ _ _ _ _ _ _ _ (@l_ _ _ _ rfl hr) (by rfl) T.b_sum ((¬3)∘ab) (by decide) (by decide) (by rfl) (by rfl)) (@aO _ _ _ _ _ _ _ _ _ (@l_ _ _ _ rfl hr) (by rfl) T.b_sum ((@g_ _ _ _ _ _ _ _ _ _ _ _ _ _ (aj a9) ["web","thing","pairing","prices"] [(0,"web")] ["tie"] rfl rfl rfl (@cy _ _ _ _ _ rfl (¬2))
        (fun C s0 H0 fp=>(@aB _ _ _ 1 _ (show List.Nodup (["web","tie"]:List Str) by decide+kernel) rfl (Or.inl rfl) (by trivial))) (fun C s0 H0 fp=>(@eJ _ _))
        (fun C s0 H0 fp=>(@bh _ _ _ _ _ _ _ rfl (@bh _ _ _ _ _ _ _ rfl (@bh _ _ _ _ _ _ _ rfl (¬0) ae (fun _ _=>rfl)) (¬1) (fun _ _=>rfl)) ae (fun _ _=>rfl))) rfl (by decide+kernel) (by decide+kernel) (by decide+kernel) (by decide+kernel) (by decide+kernel) (by decide+kernel) (by decide+kernel) (by intro _;rfl))∘ab) (by decide) (by decide) (by rfl) (by rfl)) (aR _)))))))))
noncomputable def pS:FS:=(aw (ba 2 (ar aZ (ar aK (ar aK (ar jB (ar aZ (ac 0) (vC (.int 2147483647))) (vC (.int 48271))) (ar jB (ar jB (vC (.int 7919)) (ac 1)) (ac 1))) (vC (.int 104729))) (vC (.int 2147483647))))
    (bH (ar aZ (ar jB (ac 2) (ac 2)) (vC (.int 2147483629)))))
noncomputable def ik:FM:=jF 2 1 ([2]++[]) pS
theorem ou:aM ["_law_cell","_law_k","_law_number"] ["_law_cell","_law_k"] (aj ji):=⟨rfl,rfl,rfl,by decide+kernel,rfl,by decide+kernel,by decide+kernel⟩
theorem tJ(h:bQ K mg "_law_mixed" ji f fd ["_law_cell","_law_k"])(T:j' mg):aS P w K mg base du 1 f fd ["_law_cell","_law_k"] (dI K 2 ik):=by
  have nd:=ou.nd
  exact h.fn ou rfl rfl (fun cdv A outer s H E hr=>(@af _ _ _ _ _ _ _ _ (@aD _ _ _ _ _ 2 _ _ nd rfl (Or.inl rfl) (@bx _ _ _ _ _ _ _ (@aF _ _ _ _ _ _ _ rfl (@aF _ _ _ _ _ _ _ rfl (@lQ _ _ _ _ _ _ _ rfl (@bx _ _ _ _ _ _ _ (¬0) ae) ae) (@lQ _ _ _ _ _ _ _ rfl (@lQ _ _ _ _ _ _ _ rfl ae (¬1)) (¬1))) ae) ae) (by rfl) (by trivial))
      (@am _ _ _ _ _ (@aA _ _ _ _ _ (@bx _ _ _ _ _ _ _ (@lQ _ _ _ _ _ _ _ rfl (¬2) (¬2)) ae)))))
noncomputable def eM:FT:=(oG (aG (ar xm (ac 3) (ar my (vC (.int 10)) (vC (.int 18))))) (aG (ar uM (ay (g1 eu) (aa (ac 1) ag)) (vC (.int 900)))))
noncomputable def ib:FS:=(aw (dU (b_ be (ac 1) (aa (ar aZ (ac 3) (vC (.int 2147483629))) ag)))
    (ba 3 (ar fQ (ac 3) (vC (.int 2147483629)))))
noncomputable def ii:FI:=(ee (aa (vC (.int 12)) ag))
noncomputable def fN:FS:=(dU (b_ be (ac 1) (aa (dO 2 ik (aa (dO 2 ik (aa (ac 3) (aa (ar aK (ar jB (vC (.int 3)) (ac 4)) (vC (.int 1))) ag))) (aa (ar aK (ar aK (ac 4) (ac 2)) (vC (.int 2))) ag))) ag)))
noncomputable def jC:FI:=(ee (aa (ay (g2 mx) (aa (ay (g1 eu) (aa (ac 0) ag)) (aa (vC (.int 63)) ag))) ag))
noncomputable def eK:FS:=(aw (ba 3 (ay (g1 qV) (aa (ar cO (ac 0) (ac 2)) ag)))
    (aw (gD (aG (ar uM (ac 3) (ar my (vC (.int 10)) (vC (.int 18)))))
    (dS ([4]++[]) ii (ah 4) fN)
    dm)
    (aw (kX (2 ^ 4200) eM ib)
    (gD (aG (ar xm (ac 3) (vC (.int 2147483629))))
    (dU (b_ be (ac 1) (aa (ar aZ (ac 3) (vC (.int 2147483629))) ag)))
    dm))))
noncomputable def pR:FS:=(aw (ba 1 (dN ag))
    (aw (dS ([2]++([3]++((([4]++[])++[])++(([]++[3])++([]++[]))))) jC (ah 2) eK)
    (bH (ac 1))))
noncomputable def jc:FM:=jF 1 4 ([1]++(([2]++([3]++((([4]++[])++[])++(([]++[3])++([]++[])))))++[])) pR
theorem oq:aM ["_law_script","_law_drawn","_law_k","_law_cell","_law_j"] ["_law_script"] (aj jh):=⟨rfl,rfl,rfl,by decide+kernel,rfl,by decide+kernel,by decide+kernel⟩
theorem tI(h:bQ K mg "_law_draws" jh f fd ["_law_script"])(T:j' mg){fLmixed:Addr}{eLmixed:FuncData}(hLmixed:bQ K mg "_law_mixed" ji fLmixed eLmixed ["_law_cell","_law_k"])(GLmixed:aS P w K mg base du 1 fLmixed eLmixed ["_law_cell","_law_k"] (dI K 2 ik)):aS P w K mg base du 2 f fd ["_law_script"] (dI K 1 jc):=by
  have nd:=oq.nd
  exact h.fn oq rfl rfl (fun cdv A outer s H E hr=>(@af _ _ _ _ _ _ _ _ (@aD _ _ _ _ _ 1 _ _ nd rfl (Or.inl rfl) (@bo _ _ _ _ _ ab) (by rfl) (by trivial))
      (@af _ _ _ _ _ _ _ _ (@eZ _ _ _ _ _ _ _ _ _ _ _ PassesOwn.never rfl (@eP _ _ _ _ _ _ _ rfl T.b_range ((@aO _ _ _ _ _ _ _ _ _ (@b_min _ _ rfl) (by rfl) T.b_min ((@aO _ _ _ _ _ _ _ _ _ (@b_len _ _ rfl) (by rfl) T.b_len ((¬0)∘ab) (by decide) (by decide) (by rfl) (by rfl))∘(ae∘ab)) (by decide) (by decide) (by rfl) (by rfl))∘ab) (by rfl)) (@aB _ _ _ 2 _ nd rfl (Or.inl rfl) (by trivial))
      (@af _ _ _ _ _ _ _ _ (@aD _ _ _ _ _ 3 _ _ nd rfl (Or.inl rfl) (@aO _ _ _ _ _ _ _ _ _ (@b_abs _ _) (by rfl) T.b_abs ((@bh _ _ _ _ _ _ _ rfl (¬0) (¬2) (fun _ _=>rfl))∘ab) (by decide) (by decide) (by rfl) (by rfl)) (by rfl) (by trivial))
      (@af _ _ _ _ _ _ _ _ (@ci _ _ _ _ _ _ _ _ _ _ _ (@bu _ _ _ _ _ _ _ _ _ (@r_ _ _) (¬3) (@ua _ _ _ _ _ _ _ ae ae) (aR _))
      (@am _ _ _ _ _ (@eZ _ _ _ _ _ _ _ _ _ _ _ PassesOwn.never rfl (@eP _ _ _ _ _ _ _ rfl T.b_range (ae∘ab) (by rfl)) (@aB _ _ _ 4 _ nd rfl (Or.inl rfl) (by trivial))
      (@am _ _ _ _ _ (@di _ _ _ _ _ (@b5 _ _ _ _ _ _ _ _ _ rfl (¬1) ((@bc _ _ _ _ _ _ _ _ _ _ _ _ _ _ _ hLmixed GLmixed (hr.mono (by decide)) ((@bc _ _ _ _ _ _ _ _ _ _ _ _ _ _ _ hLmixed GLmixed (hr.mono (by decide)) ((¬3)∘((@aF _ _ _ _ _ _ _ rfl (@lQ _ _ _ _ _ _ _ rfl ae (¬4)) ae)∘ab)) (by rfl) (by decide) (by rfl) (by rfl))∘((@aF _ _ _ _ _ _ _ rfl (@aF _ _ _ _ _ _ _ rfl (¬4) (¬2)) ae)∘ab)) (by rfl) (by decide) (by rfl) (by rfl))∘ab) (by rfl) (by rfl) (by rfl) (by rfl) (by rfl)) (by rfl))) (by intro _;rfl)))
      (@aT _ _))
      (@af _ _ _ _ _ _ _ _ (@oi _ _ _ _ _ _ _ _ _ PassesOwn.never (@pB _ _ _ _ (@uh _ _ _ _ _ _ _ _ (@bu _ _ _ _ _ _ _ _ _ (@uZ _ _) (¬3) (@ua _ _ _ _ _ _ _ ae ae) (aR _)) (@qq _ _ _ _ _ (@bu _ _ _ _ _ _ _ _ _ (@r_ _ _) (@aO _ _ _ _ _ _ _ _ _ (@b_len _ _ rfl) (by rfl) T.b_len ((¬1)∘ab) (by decide) (by decide) (by rfl) (by rfl)) ae (aR _)))))
      (@af _ _ _ _ _ _ _ _ (@di _ _ _ _ _ (@b5 _ _ _ _ _ _ _ _ _ rfl (¬1) ((@bx _ _ _ _ _ _ _ (¬3) ae)∘ab) (by rfl) (by rfl) (by rfl) (by rfl) (by rfl)) (by rfl))
      (@am _ _ _ _ _ (@aD _ _ _ _ _ 3 _ _ nd rfl (Or.inl rfl) (@jL _ _ _ _ _ _ _ (¬3) ae) (by rfl) (by trivial)))))
      (@am _ _ _ _ _ (@ci _ _ _ _ _ _ _ _ _ _ _ (@bu _ _ _ _ _ _ _ _ _ (@uZ _ _) (¬3) ae (aR _))
      (@am _ _ _ _ _ (@di _ _ _ _ _ (@b5 _ _ _ _ _ _ _ _ _ rfl (¬1) ((@bx _ _ _ _ _ _ _ (¬3) ae)∘ab) (by rfl) (by rfl) (by rfl) (by rfl) (by rfl)) (by rfl)))
      (@aT _ _)))))) (by intro _;rfl))
      (@am _ _ _ _ _ (@aA _ _ _ _ _ (¬1))))))
noncomputable def oU:FS:=(aw (gD (aG (ar (cv false) (ac 0) (dN ag)))
    (bH (vC (.int 0)))
    dm)
    (bH (b_ gU (ac 0) (aa (vC (.int 0)) ag))))
noncomputable def aN:FM:=jF 1 0 (([]++[])++[]) oU
theorem qB:aM ["_law_drawn"] ["_law_drawn"] (aj hJ):=⟨rfl,rfl,rfl,by decide+kernel,rfl,by decide+kernel,by decide+kernel⟩
theorem vF(h:bQ K mg "_law_next" hJ f fd ["_law_drawn"])(T:j' mg):aS P w K mg base du 1 f fd ["_law_drawn"] (dI K 1 aN):=by
  have nd:=qB.nd
  exact h.fn qB rfl rfl (fun cdv A outer s H E hr=>(@af _ _ _ _ _ _ _ _ (@ci _ _ _ _ _ _ _ _ _ _ _ (@bu _ _ _ _ _ _ _ _ _ (@md _ _ _ rfl hr) (¬0) (@bo _ _ _ _ _ ab) (aR _))
      (@am _ _ _ _ _ (@aA _ _ _ _ _ ae))
      (@aT _ _))
      (@am _ _ _ _ _ (@aA _ _ _ _ _ (@mN _ _ _ _ _ _ _ _ _ rfl (¬0) (ae∘ab) (by rfl) (by rfl) (by rfl) (by rfl) (by rfl))))))
noncomputable def iW:FT:=(aG (ar (cv true) (ac 1) (vC (.int 0))))
noncomputable def kb:FS:=(uu 0 1 (aa (ac 1) (aa (ar aZ (ac 0) (ac 1)) ag)))
noncomputable def wR:FS:=(aw (kX (2 ^ 4200) iW kb)
    (bH (ay (g1 qV) (aa (ac 0) ag))))
noncomputable def nV:FM:=jF 2 0 ([0,1]++[]) wR
theorem uv:aM ["_law_one","_law_other"] ["_law_one","_law_other"] (aj oj):=⟨rfl,rfl,rfl,by decide+kernel,rfl,by decide+kernel,by decide+kernel⟩
theorem yu(h:bQ K mg "_law_gcd" oj f fd ["_law_one","_law_other"])(T:j' mg):aS P w K mg base du 1 f fd ["_law_one","_law_other"] (dI K 2 nV):=by
  have nd:=uv.nd
  exact h.fn uv rfl rfl (fun cdv A outer s H E hr=>(@af _ _ _ _ _ _ _ _ (@oi _ _ _ _ _ _ _ _ _ PassesOwn.never (@bu _ _ _ _ _ _ _ _ _ (@sd _ _ _ rfl hr) (¬1) ae (aR _))
      (@am _ _ _ _ _ (@ze _ _ _ _ _ 0 1 _ _ _ _ _ _ _ _ _ rfl nd rfl rfl (by decide) rfl rfl ((¬1)∘((@bx _ _ _ _ _ _ _ (¬0) (¬1))∘ab)) (by rfl) (by rfl))))
      (@am _ _ _ _ _ (@aA _ _ _ _ _ (@aO _ _ _ _ _ _ _ _ _ (@b_abs _ _) (by rfl) T.b_abs ((¬0)∘ab) (by decide) (by decide) (by rfl) (by rfl))))))
noncomputable def wU:FS:=(aw (ba 2 (dO 2 nV (aa (ac 0) (aa (ac 1) ag))))
    (bH (aP (aa (ar fQ (ac 0) (ac 2)) (aa (ar fQ (ac 1) (ac 2)) ag)))))
noncomputable def lO:FM:=jF 2 1 ([2]++[]) wU
theorem uw:aM ["_law_top","_law_bottom","_law_common"] ["_law_top","_law_bottom"] (aj om):=⟨rfl,rfl,rfl,by decide+kernel,rfl,by decide+kernel,by decide+kernel⟩
theorem yv(h:bQ K mg "_law_low" om f fd ["_law_top","_law_bottom"])(T:j' mg){fLgcd:Addr}{eLgcd:FuncData}(hLgcd:bQ K mg "_law_gcd" oj fLgcd eLgcd ["_law_one","_law_other"])(GLgcd:aS P w K mg base du 1 fLgcd eLgcd ["_law_one","_law_other"] (dI K 2 nV)):aS P w K mg base du 2 f fd ["_law_top","_law_bottom"] (dI K 2 lO):=by
  have nd:=uw.nd
  exact h.fn uw rfl rfl (fun cdv A outer s H E hr=>(@af _ _ _ _ _ _ _ _ (@aD _ _ _ _ _ 2 _ _ nd rfl (Or.inl rfl) (@bc _ _ _ _ _ _ _ _ _ _ _ _ _ _ _ hLgcd GLgcd (hr.mono (by decide)) ((¬0)∘((¬1)∘ab)) (by rfl) (by decide) (by rfl) (by rfl)) (by rfl) (by trivial))
      (@am _ _ _ _ _ (@aA _ _ _ _ _ (@ap _ _ _ _ _ _ ((@jL _ _ _ _ _ _ _ (¬0) (¬2))∘((@jL _ _ _ _ _ _ _ (¬1) (¬2))∘ab)))))))
noncomputable def rZ:FS:=(aw (gD (aG (ac 1))
    (bH (ar xW (ac 0) (vC (.bool true))))
    dm)
    (bH (ar xW (ac 0) (vC (.bool false)))))
noncomputable def kD:FM:=jF 2 0 (([]++[])++[]) rZ
theorem qD:aM ["_law_found","_law_due"] ["_law_found","_law_due"] (aj kW):=⟨rfl,rfl,rfl,by decide+kernel,rfl,by decide+kernel,by decide+kernel⟩
theorem vG(h:bQ K mg "_law_says" kW f fd ["_law_found","_law_due"])(T:j' mg):aS P w K mg base du 1 f fd ["_law_found","_law_due"] (dI K 2 kD):=by
  have nd:=qD.nd
  exact h.fn qD rfl rfl (fun cdv A outer s H E hr=>(@af _ _ _ _ _ _ _ _ (@ci _ _ _ _ _ _ _ _ _ _ _ (@dk _ _ _ _ (¬1) (by intro _;rfl))
      (@am _ _ _ _ _ (@aA _ _ _ _ _ (@iA _ _ _ _ _ _ _ _ _ (@xP _ _) (¬0) (@bO _ _ _ _ _) (aR _))))
      (@aT _ _))
      (@am _ _ _ _ _ (@aA _ _ _ _ _ (@iA _ _ _ _ _ _ _ _ _ (@xP _ _) (¬0) (@bO _ _ _ _ _) (aR _))))))
noncomputable def gH:FS:=(aw (gD (aG (ar (cv false) (ac 1) (vC (.int 0))))
    (bH (ar cO (dN (aa (aP (aa (vC (.int 1)) (aa (vC (.int 2)) ag))) (aa (aP (aa (vC (.int 1)) (aa (vC (.int 3)) ag))) (aa (aP (aa (vC (.int 2)) (aa (vC (.int 3)) ag))) (aa (aP (aa (vC (.int 1)) (aa (vC (.int 1)) ag))) (aa (aP (aa (vC (.int 0)) (aa (vC (.int 1)) ag))) (aa (aP (aa (vC (.int 3)) (aa (vC (.int 4)) ag))) ag))))))) (ar aZ (ac 0) (vC (.int 6)))))
    dm)
    (aw (gD (aG (ar (cv false) (ac 1) (vC (.int 1))))
    (aw (ba 2 (ar aK (vC (.int 2)) (ar aZ (ac 0) (vC (.int 9)))))
    (bH (dO 2 lO (aa (ar aK (vC (.int 1)) (ar aZ (ar fQ (ac 0) (vC (.int 9))) (ar eT (ac 2) (vC (.int 1))))) (aa (ac 2) ag)))))
    dm)
    (aw (gD (aG (ar (cv false) (ac 1) (vC (.int 2))))
    (aw (ba 2 (ar aK (vC (.int 1)) (ar aZ (ac 0) (vC (.int 100)))))
    (bH (dO 2 lO (aa (ar aZ (ar fQ (ac 0) (vC (.int 100))) (ar aK (ac 2) (vC (.int 1)))) (aa (ac 2) ag)))))
    dm)
    (bH (aP (aa (vC (.int 1)) (aa (vC (.int 1)) ag)))))))
noncomputable def dG:FM:=jF 2 1 (([]++[])++((([2]++[])++[])++((([2]++[])++[])++[]))) gH
theorem lT:aM ["_law_number","_law_kind","_law_bottom"] ["_law_number","_law_kind"] (aj hG):=⟨rfl,rfl,rfl,by decide+kernel,rfl,by decide+kernel,by decide+kernel⟩
theorem rl(h:bQ K mg "_law_chance" hG f fd ["_law_number","_law_kind"])(T:j' mg){fLlow:Addr}{eLlow:FuncData}(hLlow:bQ K mg "_law_low" om fLlow eLlow ["_law_top","_law_bottom"])(GLlow:aS P w K mg base du 2 fLlow eLlow ["_law_top","_law_bottom"] (dI K 2 lO)):aS P w K mg base du 3 f fd ["_law_number","_law_kind"] (dI K 2 dG):=by
  have nd:=lT.nd
  exact h.fn lT rfl rfl (fun cdv A outer s H E hr=>(@af _ _ _ _ _ _ _ _ (@ci _ _ _ _ _ _ _ _ _ _ _ (@bu _ _ _ _ _ _ _ _ _ (@md _ _ _ rfl hr) (¬1) ae (aR _))
      (@am _ _ _ _ _ (@aA _ _ _ _ _ (@bh _ _ _ _ _ _ _ rfl (@bo _ _ _ _ _ ((@ap _ _ _ _ _ _ (ae∘(ae∘ab)))∘((@ap _ _ _ _ _ _ (ae∘(ae∘ab)))∘((@ap _ _ _ _ _ _ (ae∘(ae∘ab)))∘((@ap _ _ _ _ _ _ (ae∘(ae∘ab)))∘((@ap _ _ _ _ _ _ (ae∘(ae∘ab)))∘((@ap _ _ _ _ _ _ (ae∘(ae∘ab)))∘ab))))))) (@bx _ _ _ _ _ _ _ (¬0) ae) (fun _ _=>rfl))))
      (@aT _ _))
      (@af _ _ _ _ _ _ _ _ (@ci _ _ _ _ _ _ _ _ _ _ _ (@bu _ _ _ _ _ _ _ _ _ (@md _ _ _ rfl hr) (¬1) ae (aR _))
      (@af _ _ _ _ _ _ _ _ (@aD _ _ _ _ _ 2 _ _ nd rfl (Or.inl rfl) (@aF _ _ _ _ _ _ _ rfl ae (@bx _ _ _ _ _ _ _ (¬0) ae)) (by rfl) (by trivial))
      (@am _ _ _ _ _ (@aA _ _ _ _ _ (@bc _ _ _ _ _ _ _ _ _ _ _ _ _ _ _ hLlow GLlow (hr.mono (by decide)) ((@aF _ _ _ _ _ _ _ rfl ae (@bx _ _ _ _ _ _ _ (@jL _ _ _ _ _ _ _ (¬0) ae) (@lR _ _ _ _ _ _ _ (¬2) ae)))∘((¬2)∘ab)) (by rfl) (by decide) (by rfl) (by rfl)))))
      (@aT _ _))
      (@af _ _ _ _ _ _ _ _ (@ci _ _ _ _ _ _ _ _ _ _ _ (@bu _ _ _ _ _ _ _ _ _ (@md _ _ _ rfl hr) (¬1) ae (aR _))
      (@af _ _ _ _ _ _ _ _ (@aD _ _ _ _ _ 2 _ _ nd rfl (Or.inl rfl) (@aF _ _ _ _ _ _ _ rfl ae (@bx _ _ _ _ _ _ _ (¬0) ae)) (by rfl) (by trivial))
      (@am _ _ _ _ _ (@aA _ _ _ _ _ (@bc _ _ _ _ _ _ _ _ _ _ _ _ _ _ _ hLlow GLlow (hr.mono (by decide)) ((@bx _ _ _ _ _ _ _ (@jL _ _ _ _ _ _ _ (¬0) ae) (@aF _ _ _ _ _ _ _ rfl (¬2) ae))∘((¬2)∘ab)) (by rfl) (by decide) (by rfl) (by rfl)))))
      (@aT _ _))
      (@am _ _ _ _ _ (@aA _ _ _ _ _ (@ap _ _ _ _ _ _ (ae∘(ae∘ab)))))))))
noncomputable def wV:FS:=(aw (ba 1 (dN (aa (vC .none) (aa (vC (.bool true)) (aa (vC (.bool false)) (aa (vC (.int 0)) (aa (vC (.int 1)) (aa (js i8 (vC (.int 1))) (aa (vC (.int 5)) (aa (vC (.str ("":Str))) (aa (vC (.str ("a":Str))) (aa (vC (.str ("0":Str))) (aa (aP ag) (aa (aP (aa (vC (.int 0)) ag)) (aa (aP (aa (vC (.int 0)) (aa (vC (.int 1)) ag))) (aa (aP (aa (aP ag) (aa (aP ag) ag))) (aa (dN ag) (aa (dN (aa (vC (.int 0)) ag)) (aa (jr []) (aa (jr [(0,1)]) ag))))))))))))))))))))
    (aw (ba 1 (ar aK (ac 1) (dN (aa (aP (aa (vC .none) ag)) (aa (aP (aa (aP ag) ag)) (aa (dN (aa (aP ag) ag)) (aa (aP (aa (vC (.bool true)) (aa (vC (.bool false)) ag))) (aa (aP (aa (aP (aa (vC (.int 0)) (aa (vC (.int 1)) ag))) (aa (aP (aa (vC (.int 1)) (aa (vC (.int 2)) ag))) ag))) (aa (aP (aa (aP (aa (aP ag) (aa (aP ag) ag))) ag)) (aa (aP (aa (vC (.str ("a":Str))) (aa (vC (.int 1)) ag))) (aa (aP (aa (aP (aa (vC (.int 0)) (aa (vC (.int 1)) ag))) ag)) (aa (ar my (vC (.int 10)) (vC (.int 30))) ag))))))))))))
    (bH (ar cO (ac 1) (ar aZ (ac 0) (ay (g1 eu) (aa (ac 1) ag)))))))
noncomputable def kB:FM:=jF 1 1 ([1]++([1]++[])) wV
theorem ux:aM ["_law_number","_law_odd_here"] ["_law_number"] (aj oo):=⟨rfl,rfl,rfl,by decide+kernel,rfl,by decide+kernel,by decide+kernel⟩
theorem yw(h:bQ K mg "_law_odd" oo f fd ["_law_number"])(T:j' mg):aS P w K mg base du 1 f fd ["_law_number"] (dI K 1 kB):=by
  have nd:=ux.nd
  exact h.fn ux rfl rfl (fun cdv A outer s H E hr=>(@af _ _ _ _ _ _ _ _ (@aD _ _ _ _ _ 1 _ _ nd rfl (Or.inl rfl) (@bo _ _ _ _ _ ((@jN _ _ _ _)∘((@bO _ _ _ _ _)∘((@bO _ _ _ _ _)∘(ae∘(ae∘((@j5 _ _ _ _ _ ae)∘(ae∘((@kR _ _ _ _ _)∘((@kR _ _ _ _ _)∘((@kR _ _ _ _ _)∘((@ap _ _ _ _ _ _ ab)∘((@ap _ _ _ _ _ _ (ae∘ab))∘((@ap _ _ _ _ _ _ (ae∘(ae∘ab)))∘((@ap _ _ _ _ _ _ ((@ap _ _ _ _ _ _ ab)∘((@ap _ _ _ _ _ _ ab)∘ab)))∘((@bo _ _ _ _ _ ab)∘((@bo _ _ _ _ _ (ae∘ab))∘((@ue _ _ _)∘((@kQ _ _ _ _ _ _ _ _ _)∘ab))))))))))))))))))) (by rfl) (by trivial))
      (@af _ _ _ _ _ _ _ _ (@aD _ _ _ _ _ 1 _ _ nd rfl (Or.inl rfl) (@aF _ _ _ _ _ _ _ rfl (¬1) (@bo _ _ _ _ _ ((@ap _ _ _ _ _ _ ((@jN _ _ _ _)∘ab))∘((@ap _ _ _ _ _ _ ((@ap _ _ _ _ _ _ ab)∘ab))∘((@bo _ _ _ _ _ ((@ap _ _ _ _ _ _ ab)∘ab))∘((@ap _ _ _ _ _ _ ((@bO _ _ _ _ _)∘((@bO _ _ _ _ _)∘ab)))∘((@ap _ _ _ _ _ _ ((@ap _ _ _ _ _ _ (ae∘(ae∘ab)))∘((@ap _ _ _ _ _ _ (ae∘(ae∘ab)))∘ab)))∘((@ap _ _ _ _ _ _ ((@ap _ _ _ _ _ _ ((@ap _ _ _ _ _ _ ab)∘((@ap _ _ _ _ _ _ ab)∘ab)))∘ab))∘((@ap _ _ _ _ _ _ ((@kR _ _ _ _ _)∘(ae∘ab)))∘((@ap _ _ _ _ _ _ ((@ap _ _ _ _ _ _ (ae∘(ae∘ab)))∘ab))∘((@ua _ _ _ _ _ _ _ ae ae)∘ab))))))))))) (by rfl) (by trivial))
      (@am _ _ _ _ _ (@aA _ _ _ _ _ (@bh _ _ _ _ _ _ _ rfl (¬1) (@bx _ _ _ _ _ _ _ (¬0) (@aO _ _ _ _ _ _ _ _ _ (@b_len _ _ rfl) (by rfl) T.b_len ((¬1)∘ab) (by decide) (by decide) (by rfl) (by rfl))) (fun _ _=>rfl)))))))
noncomputable def pT:FS:=(bH (iD (js (iJ "int") (ac 0)) (lX (js (iJ "bool") (ac 0)))))
noncomputable def gj:FM:=jF 1 0 [] pT
theorem ox:aM ["_law_thing"] ["_law_thing"] (aj ip):=⟨rfl,rfl,rfl,by decide+kernel,rfl,by decide+kernel,by decide+kernel⟩
theorem tK(h:bQ K mg "_law_whole" ip f fd ["_law_thing"])(T:j' mg):aS P w K mg base du 1 f fd ["_law_thing"] (dI K 1 gj):=by
  have nd:=ox.nd
  exact h.fn ox rfl rfl (fun cdv A outer s H E hr=>(@am _ _ _ _ _ (@aA _ _ _ _ _ (@jM _ _ _ _ _ _ _ _ (@jf _ _ _ _ _ _ _ _ "int" rfl (by decide) rfl T.b_isinstance rfl T.b_int PyProof.Rows.boot_int (by decide) (by decide) (¬0) (by rfl) (by rfl)) (@jO _ _ _ _ _ _ (@uf _ _ _ _ _ (@jf _ _ _ _ _ _ _ _ "bool" rfl (by decide) rfl T.b_isinstance rfl T.b_bool PyProof.Rows.boot_bool (by decide) (by decide) (¬0) (by rfl) (by rfl))))))))
noncomputable def gR:FI:=(ej (ac 2))
noncomputable def ck:FT:=(aG (ar Aj (oJ true gC (ac 0) (ac 1)) (vC (.int 1))))
noncomputable def cn:FE:=(ac 1)
noncomputable def eV:FI:=(ej (ac 1))
noncomputable def aV:FS:=(aw (gD (rV (gF (aG (dO 1 gj (aa (ac 4) ag)))) (rV (aG (ar zN (ac 4) (ac 3))) (aG (ar xm (ac 4) (ay (g1 eu) (aa (ar cO (ac 0) (vC (.int 1))) ag))))))
    (bH (vC (.bool false)))
    dm)
    (aw (ba 3 (ac 4))
    (ba 2 (ar aK (ac 2) (dN (aa (ar cO (ar cO (ar cO (ac 0) (vC (.int 1))) (ac 4)) (vC (.int 0))) (aa (ar cO (ar cO (ar cO (ac 0) (vC (.int 1))) (ac 4)) (vC (.int 1))) ag)))))))
noncomputable def eD:FS:=(aw (gD (gF (aG (js (iJ "tuple") (ac 1))))
    (bH (vC (.bool false)))
    dm)
    (aw (ba 2 (dN ag))
    (aw (ba 3 (js i8 (vC (.int 1))))
    (aw (dS ([4]++(([]++[])++([3]++[2]))) eV (ah 4) aV)
    (bH (ar (mw false) (iQ [(2,"_law_taken")] 1 gR (ah 1) ck cn) (dN ag)))))))
noncomputable def bV:FM:=jF 2 3 (([]++[])++([2]++([3]++(([4]++(([]++[])++([3]++[2])))++[])))) eD
theorem iB:aM ["_law_web","_law_thing","_law_taken","_law_last","_law_one"] ["_law_web","_law_thing"] (aj cL):=⟨rfl,rfl,rfl,by decide+kernel,rfl,by decide+kernel,by decide+kernel⟩
theorem lj(h:bQ K mg "_law_is_pairing" cL f fd ["_law_web","_law_thing"])(T:j' mg){fLwhole:Addr}{eLwhole:FuncData}(hLwhole:bQ K mg "_law_whole" ip fLwhole eLwhole ["_law_thing"])(GLwhole:aS P w K mg base du 1 fLwhole eLwhole ["_law_thing"] (dI K 1 gj)):aS P w K mg base du 2 f fd ["_law_web","_law_thing"] (dI K 2 bV):=by
  have nd:=iB.nd
  exact h.fn iB rfl rfl (fun cdv A outer s H E hr=>(@af _ _ _ _ _ _ _ _ (@ci _ _ _ _ _ _ _ _ _ _ _ (@d8 _ _ _ _ _ (@dk _ _ _ _ (@jf _ _ _ _ _ _ _ _ "tuple" rfl (by decide) rfl T.b_isinstance rfl T.b_tuple PyProof.Rows.boot_tuple (by decide) (by decide) (¬1) (by rfl) (by rfl)) (by intro _;rfl)))
      (@am _ _ _ _ _ (@aA _ _ _ _ _ (@bO _ _ _ _ _)))
      (@aT _ _))
      (@af _ _ _ _ _ _ _ _ (@aD _ _ _ _ _ 2 _ _ nd rfl (Or.inr rfl) (@bo _ _ _ _ _ ab) (by rfl) (by trivial))
      (@af _ _ _ _ _ _ _ _ (@aD _ _ _ _ _ 3 _ _ nd rfl (Or.inl rfl) (@j5 _ _ _ _ _ ae) (by rfl) (by trivial))
      (@af _ _ _ _ _ _ _ _ (@eZ _ _ _ _ _ _ _ _ _ _ _ PassesOwn.never rfl (@cy _ _ _ _ _ rfl (¬1)) (@aB _ _ _ 4 _ nd rfl (Or.inl rfl) (by trivial))
      (@af _ _ _ _ _ _ _ _ (@ci _ _ _ _ _ _ _ _ _ _ _ (@pB _ _ _ _ (@kS _ _ _ _ _ _ _ _ (@d8 _ _ _ _ _ (@dk _ _ _ _ (@bc _ _ _ _ _ _ _ _ _ _ _ _ _ _ _ hLwhole GLwhole (hr.mono (by decide)) ((¬4)∘ab) (by rfl) (by decide) (by rfl) (by rfl)) (by intro _;rfl))) (@kS _ _ _ _ _ _ _ _ (@bu _ _ _ _ _ _ _ _ _ (@xQ _ _) (¬4) (¬3) (aR _)) (@kT _ _ _ _ _ (@bu _ _ _ _ _ _ _ _ _ (@uZ _ _) (¬4) (@aO _ _ _ _ _ _ _ _ _ (@b_len _ _ rfl) (by rfl) T.b_len ((@bh _ _ _ _ _ _ _ rfl (¬0) ae (fun _ _=>rfl))∘ab) (by decide) (by decide) (by rfl) (by rfl)) (aR _))))))
      (@am _ _ _ _ _ (@aA _ _ _ _ _ (@bO _ _ _ _ _)))
      (@aT _ _))
      (@af _ _ _ _ _ _ _ _ (@aD _ _ _ _ _ 3 _ _ nd rfl (Or.inl rfl) (¬4) (by rfl) (by trivial))
      (@am _ _ _ _ _ (@aD _ _ _ _ _ 2 _ _ nd rfl (Or.inr rfl) (@aF _ _ _ _ _ _ _ rfl (¬2) (@bo _ _ _ _ _ ((@bh _ _ _ _ _ _ _ rfl (@bh _ _ _ _ _ _ _ rfl (@bh _ _ _ _ _ _ _ rfl (¬0) ae (fun _ _=>rfl)) (¬4) (fun _ _=>rfl)) ae (fun _ _=>rfl))∘((@bh _ _ _ _ _ _ _ rfl (@bh _ _ _ _ _ _ _ rfl (@bh _ _ _ _ _ _ _ rfl (¬0) ae (fun _ _=>rfl)) (¬4) (fun _ _=>rfl)) ae (fun _ _=>rfl))∘ab)))) (by rfl) (by trivial))))) (by intro _;rfl))
      (@am _ _ _ _ _ (@aA _ _ _ _ _ (@iA _ _ _ _ _ _ _ _ _ (@Ac _ _ _ rfl hr) (@wo _ _ _ _ _ _ _ _ _ _ _ _ _ (aj cL) ["_law_web","_law_thing","_law_taken","_law_last","_law_one"] [(2,"_law_taken")] ["_law_one"] rfl rfl rfl (@cy _ _ _ _ _ rfl (¬2))
        (fun C s0 H0 fp=>(@aB _ _ _ 1 _ (show List.Nodup (["_law_taken","_law_one"]:List Str) by decide+kernel) rfl (Or.inl rfl) (by trivial))) (fun C s0 H0 fp=>(@mQ _ _ _ _ (@bu _ _ _ _ _ _ _ _ _ (@B6 _ _) (@zb _ _ _ _ _ _ _ _ rfl (¬0) (¬1) (by rfl) (by rfl) (by rfl) (by rfl) (by rfl)) ae (aR _))))
        (fun C s0 H0 fp=>(¬1)) rfl (by decide+kernel) (by decide+kernel) (by decide+kernel) (by decide+kernel) (by decide+kernel) (by decide+kernel) (by decide+kernel) (by intro _;rfl)) (@bo _ _ _ _ _ ab) (aR _)))))))))
noncomputable def gy:FI:=(ej (ar cO (ac 1) (vC (.int 0))))
noncomputable def df:FE:=(ar cO (ar cO (ar cO (ac 0) (vC (.int 1))) (ac 1)) (vC (.int 3)))
noncomputable def gA:FI:=(ej (ar cO (ac 0) (vC (.int 1))))
noncomputable def de:FT:=(aG (ar uM (ar aK (ar cO (ac 0) (ar cO (ac 1) (vC (.int 0)))) (ar cO (ac 0) (ar cO (ac 1) (vC (.int 1))))) (ar cO (ac 1) (vC (.int 3)))))
noncomputable def dg:FE:=(ac 1)
noncomputable def gB:FI:=(ej (ac 2))
noncomputable def bZ:FT:=(rV (gF (aG (dO 1 gj (aa (ac 0) ag)))) (aG (ar uM (ac 0) (vC (.int 0)))))
noncomputable def dh:FE:=(ac 0)
noncomputable def a_:FS:=(aw (gD (rV (gF (aG (js (iJ "tuple") (ac 1)))) (rV (aG (ar (cv true) (ay (g1 eu) (aa (ac 1) ag)) (vC (.int 2)))) (gF (aG (dO 2 bV (aa (ac 0) (aa (ar cO (ac 1) (vC (.int 0))) ag)))))))
    (bH (vC (.bool false)))
    dm)
    (aw (ba 2 (ar cO (ac 1) (vC (.int 1))))
    (aw (gD (rV (gF (aG (js (iJ "tuple") (ac 2)))) (aG (ar (cv true) (ay (g1 eu) (aa (ac 2) ag)) (ar cO (ac 0) (vC (.int 0))))))
    (bH (vC (.bool false)))
    dm)
    (aw (gD (aG (ar (mw true) (dJ [] 1 gB (ah 0) bZ dh) (dN ag)))
    (bH (vC (.bool false)))
    dm)
    (aw (gD (aG (ar (mw true) (dJ [(2,"_law_prices")] 1 gA (ah 1) de dg) (dN ag)))
    (bH (vC (.bool false)))
    dm)
    (bH (ar (cv false) (ay (g1 eU) (aa (ac 2) ag)) (ay (g1 eU) (aa (dJ [(0,"_law_web")] 1 gy (ah 1) bI df) ag)))))))))
noncomputable def aL:FM:=jF 2 1 (([]++[])++([2]++(([]++[])++(([]++[])++(([]++[])++[]))))) a_
theorem hV:aM ["_law_web","_law_thing","_law_prices"] ["_law_web","_law_thing"] (aj br):=⟨rfl,rfl,rfl,by decide+kernel,rfl,by decide+kernel,by decide+kernel⟩
theorem kN(h:bQ K mg "_law_is_heaviest" br f fd ["_law_web","_law_thing"])(T:j' mg){fLis_pairing:Addr}{eLis_pairing:FuncData}(hLis_pairing:bQ K mg "_law_is_pairing" cL fLis_pairing eLis_pairing ["_law_web","_law_thing"])(GLis_pairing:aS P w K mg base du 2 fLis_pairing eLis_pairing ["_law_web","_law_thing"] (dI K 2 bV)){fLwhole:Addr}{eLwhole:FuncData}(hLwhole:bQ K mg "_law_whole" ip fLwhole eLwhole ["_law_thing"])(GLwhole:aS P w K mg base du 1 fLwhole eLwhole ["_law_thing"] (dI K 1 gj)):aS P w K mg base du 3 f fd ["_law_web","_law_thing"] (dI K 2 aL):=by
  have nd:=hV.nd
  exact h.fn hV rfl rfl (fun cdv A outer s H E hr=>(@af _ _ _ _ _ _ _ _ (@ci _ _ _ _ _ _ _ _ _ _ _ (@pB _ _ _ _ (@kS _ _ _ _ _ _ _ _ (@d8 _ _ _ _ _ (@dk _ _ _ _ (@jf _ _ _ _ _ _ _ _ "tuple" rfl (by decide) rfl T.b_isinstance rfl T.b_tuple PyProof.Rows.boot_tuple (by decide) (by decide) (¬1) (by rfl) (by rfl)) (by intro _;rfl))) (@kS _ _ _ _ _ _ _ _ (@bu _ _ _ _ _ _ _ _ _ (@sd _ _ _ rfl hr) (@aO _ _ _ _ _ _ _ _ _ (@b_len _ _ rfl) (by rfl) T.b_len ((¬1)∘ab) (by decide) (by decide) (by rfl) (by rfl)) ae (aR _)) (@kT _ _ _ _ _ (@d8 _ _ _ _ _ (@dk _ _ _ _ (@bc _ _ _ _ _ _ _ _ _ _ _ _ _ _ _ hLis_pairing GLis_pairing (hr.mono (by decide)) ((¬0)∘((@bh _ _ _ _ _ _ _ rfl (¬1) ae (fun _ _=>rfl))∘ab)) (by rfl) (by decide) (by rfl) (by rfl)) (by intro _;rfl)))))))
      (@am _ _ _ _ _ (@aA _ _ _ _ _ (@bO _ _ _ _ _)))
      (@aT _ _))
      (@af _ _ _ _ _ _ _ _ (@aD _ _ _ _ _ 2 _ _ nd rfl (Or.inr rfl) (@bh _ _ _ _ _ _ _ rfl (¬1) ae (fun _ _=>rfl)) (by rfl) (by trivial))
      (@af _ _ _ _ _ _ _ _ (@ci _ _ _ _ _ _ _ _ _ _ _ (@pB _ _ _ _ (@kS _ _ _ _ _ _ _ _ (@d8 _ _ _ _ _ (@dk _ _ _ _ (@jf _ _ _ _ _ _ _ _ "tuple" rfl (by decide) rfl T.b_isinstance rfl T.b_tuple PyProof.Rows.boot_tuple (by decide) (by decide) (¬2) (by rfl) (by rfl)) (by intro _;rfl))) (@kT _ _ _ _ _ (@bu _ _ _ _ _ _ _ _ _ (@sd _ _ _ rfl hr) (@aO _ _ _ _ _ _ _ _ _ (@b_len _ _ rfl) (by rfl) T.b_len ((¬2)∘ab) (by decide) (by decide) (by rfl) (by rfl)) (@bh _ _ _ _ _ _ _ rfl (¬0) ae (fun _ _=>rfl)) (aR _)))))
      (@am _ _ _ _ _ (@aA _ _ _ _ _ (@bO _ _ _ _ _)))
      (@aT _ _))
      (@af _ _ _ _ _ _ _ _ (@ci _ _ _ _ _ _ _ _ _ _ _ (@bu _ _ _ _ _ _ _ _ _ (@wY _ _ _ rfl hr) (@g_ _ _ _ _ _ _ _ _ _ _ _ _ _ (aj br) ["_law_web","_law_thing","_law_prices"] [] ["_law_one"] rfl rfl rfl (@cy _ _ _ _ _ rfl (¬2))
        (fun C s0 H0 fp=>(@aB _ _ _ 0 _ (show List.Nodup (["_law_one"]:List Str) by decide+kernel) rfl (Or.inl rfl) (by trivial))) (fun C s0 H0 fp=>(@mQ _ _ _ _ (@pB _ _ _ _ (@kS _ _ _ _ _ _ _ _ (@d8 _ _ _ _ _ (@dk _ _ _ _ (@bc _ _ _ _ _ _ _ _ _ _ _ _ _ _ _ hLwhole GLwhole (hr.mono (by decide)) ((¬0)∘ab) (by rfl) (by decide) (by rfl) (by rfl)) (by intro _;rfl))) (@kT _ _ _ _ _ (@bu _ _ _ _ _ _ _ _ _ (@r_ _ _) (¬0) ae (aR _)))))))
        (fun C s0 H0 fp=>(¬0)) rfl (by decide+kernel) (by decide+kernel) (by decide+kernel) (by decide+kernel) (by decide+kernel) (by decide+kernel) (by decide+kernel) (by intro _;rfl)) (@bo _ _ _ _ _ ab) (aR _))
      (@am _ _ _ _ _ (@aA _ _ _ _ _ (@bO _ _ _ _ _)))
      (@aT _ _))
      (@af _ _ _ _ _ _ _ _ (@ci _ _ _ _ _ _ _ _ _ _ _ (@bu _ _ _ _ _ _ _ _ _ (@wY _ _ _ rfl hr) (@g_ _ _ _ _ _ _ _ _ _ _ _ _ _ (aj br) ["_law_web","_law_thing","_law_prices"] [(2,"_law_prices")] ["_law_tie"] rfl rfl rfl (@cy _ _ _ _ _ rfl (@bh _ _ _ _ _ _ _ rfl (¬0) ae (fun _ _=>rfl)))
        (fun C s0 H0 fp=>(@aB _ _ _ 1 _ (show List.Nodup (["_law_prices","_law_tie"]:List Str) by decide+kernel) rfl (Or.inl rfl) (by trivial))) (fun C s0 H0 fp=>(@mQ _ _ _ _ (@bu _ _ _ _ _ _ _ _ _ (@r_ _ _) (@aF _ _ _ _ _ _ _ rfl (@bh _ _ _ _ _ _ _ rfl (¬0) (@bh _ _ _ _ _ _ _ rfl (¬1) ae (fun _ _=>rfl)) (fun _ _=>rfl)) (@bh _ _ _ _ _ _ _ rfl (¬0) (@bh _ _ _ _ _ _ _ rfl (¬1) ae (fun _ _=>rfl)) (fun _ _=>rfl))) (@bh _ _ _ _ _ _ _ rfl (¬1) ae (fun _ _=>rfl)) (aR _))))
        (fun C s0 H0 fp=>(¬1)) rfl (by decide+kernel) (by decide+kernel) (by decide+kernel) (by decide+kernel) (by decide+kernel) (by decide+kernel) (by decide+kernel) (by intro _;rfl)) (@bo _ _ _ _ _ ab) (aR _))
      (@am _ _ _ _ _ (@aA _ _ _ _ _ (@bO _ _ _ _ _)))
      (@aT _ _))
      (@am _ _ _ _ _ (@aA _ _ _ _ _ (@iA _ _ _ _ _ _ _ _ _ (@md _ _ _ rfl hr) (@aO _ _ _ _ _ _ _ _ _ (@l_ _ _ _ rfl hr) (by rfl) T.b_sum ((¬2)∘ab) (by decide) (by decide) (by rfl) (by rfl)) (@aO _ _ _ _ _ _ _ _ _ (@l_ _ _ _ rfl hr) (by rfl) T.b_sum ((@g_ _ _ _ _ _ _ _ _ _ _ _ _ _ (aj br) ["_law_web","_law_thing","_law_prices"] [(0,"_law_web")] ["_law_one"] rfl rfl rfl (@cy _ _ _ _ _ rfl (@bh _ _ _ _ _ _ _ rfl (¬1) ae (fun _ _=>rfl)))
        (fun C s0 H0 fp=>(@aB _ _ _ 1 _ (show List.Nodup (["_law_web","_law_one"]:List Str) by decide+kernel) rfl (Or.inl rfl) (by trivial))) (fun C s0 H0 fp=>(@eJ _ _))
        (fun C s0 H0 fp=>(@bh _ _ _ _ _ _ _ rfl (@bh _ _ _ _ _ _ _ rfl (@bh _ _ _ _ _ _ _ rfl (¬0) ae (fun _ _=>rfl)) (¬1) (fun _ _=>rfl)) ae (fun _ _=>rfl))) rfl (by decide+kernel) (by decide+kernel) (by decide+kernel) (by decide+kernel) (by decide+kernel) (by decide+kernel) (by decide+kernel) (by intro _;rfl))∘ab) (by decide) (by decide) (by rfl) (by rfl)) (aR _))))))))))
noncomputable def ku:FI:=(ee (aa (ar aZ (dO 1 aN (aa (ac 0) ag)) (vC (.int 7))) ag))
noncomputable def gJ:FS:=(aw (ba 7 (ar aZ (dO 1 aN (aa (ac 0) ag)) (ac 1)))
    (aw (ba 8 (ar aZ (ar aK (ar aK (ac 7) (vC (.int 1))) (ar aZ (dO 1 aN (aa (ac 0) ag)) (ar eT (ac 1) (vC (.int 1))))) (ac 1)))
    (aw (ba 11 (ar aK (ar cO (ac 3) (ac 7)) (ar cO (ac 3) (ac 8))))
    (aw (ba 12 (ay (g2 qX) (aa (vC (.int 0)) (aa (ar eT (ac 11) (ar cO (dN (aa (vC (.int 0)) (aa (vC (.int 0)) (aa (vC (.int 1)) (aa (ar aZ (dO 1 aN (aa (ac 0) ag)) (ar aK (ac 11) (vC (.int 1)))) ag))))) (ar aZ (dO 1 aN (aa (ac 0) ag)) (vC (.int 4))))) ag))))
    (dU (b_ be (ac 5) (aa (aP (aa (ay (g2 mx) (aa (ac 7) (aa (ac 8) ag))) (aa (ay (g2 qX) (aa (ac 7) (aa (ac 8) ag))) (aa (dO 2 dG (aa (dO 1 aN (aa (ac 0) ag)) (aa (vC (.int 2)) ag))) (aa (ac 12) ag))))) ag)))))))
noncomputable def kx:FI:=(ej (ac 4))
noncomputable def gK:FS:=(iN (vC (.int 0)) (ac 3) (ac 7))
noncomputable def ky:FI:=(ee (aa (ar aZ (dO 1 aN (aa (ac 0) ag)) (ar aK (ar fQ (ac 1) (vC (.int 2))) (vC (.int 1)))) ag))
noncomputable def gL:FS:=(aw (ba 7 (b_ gU (ac 4) (aa (ar aZ (dO 1 aN (aa (ac 0) ag)) (ay (g1 eu) (aa (ac 4) ag))) ag)))
    (aw (ba 8 (b_ gU (ac 4) (aa (ar aZ (dO 1 aN (aa (ac 0) ag)) (ay (g1 eu) (aa (ac 4) ag))) ag)))
    (aw (ba 9 (aP (aa (ay (g2 mx) (aa (ac 7) (aa (ac 8) ag))) (aa (ay (g2 qX) (aa (ac 7) (aa (ac 8) ag))) ag))))
    (dU (b_ be (ac 5) (aa (ar aK (ac 9) (aP (aa (dO 2 dG (aa (dO 1 aN (aa (ac 0) ag)) (aa (vC (.int 1)) ag))) (aa (ar aK (ar cO (ac 3) (ac 7)) (ar cO (ac 3) (ac 8))) ag)))) ag))))))
noncomputable def i_:FI:=(ee (aa (ac 1) ag))
noncomputable def i7:FE:=(ar aZ (dO 1 aN (aa (ac 0) ag)) (ar aK (ac 1) (vC (.int 1))))
noncomputable def oT:FS:=(aw (ba 1 (ar aK (vC (.int 2)) (ar aZ (dO 1 aN (aa (ac 0) ag)) (vC (.int 8)))))
    (aw (ba 2 (ar cO (dN (aa (vC (.int 3)) (aa (vC (.int 20)) (aa (vC (.int 500)) ag)))) (ar aZ (dO 1 aN (aa (ac 0) ag)) (vC (.int 3)))))
    (aw (ba 3 (dJ [(0,"_law_numbers"),(2,"_law_top")] 1 i_ (ah 2) bI i7))
    (aw (ba 4 (iq (aa (ac 1) ag)))
    (aw (ba 5 (dN ag))
    (aw (dS ([6]++([7]++([8]++([9]++[])))) ky (ah 6) gL)
    (aw (ba 10 (iq (aa (ay (g1 eu) (aa (ac 5) ag)) ag)))
    (aw (dS ([7]++[]) kx (ah 7) gK)
    (aw (dS ([6]++([7]++([8]++([11]++([12]++[]))))) ku (ah 6) gJ)
    (aw (gD (oG (aG (ar (cv true) (ac 5) (dN ag))) (aG (ar (cv false) (ar aZ (dO 1 aN (aa (ac 0) ag)) (vC (.int 6))) (vC (.int 0)))))
    (iN (ar aK (j_ (ar cO (ac 5) (js i8 (vC (.int 1)))) cx (cg (vC (.int 3)))) (aP (aa (ay (g2 mx) (aa (vC (.int 1000)) (aa (ar aK (ar cO (ar cO (ac 5) (js i8 (vC (.int 1)))) (vC (.int 3))) (vC (.int 1))) ag))) ag))) (ac 5) (js i8 (vC (.int 1))))
    dm)
    (aw (ba 13 (aP (aa (ac 1) (aa (ay (g1 dW) (aa (ac 5) ag)) (aa (ar jB (aP (aa (vC (.int 1)) ag)) (ac 1)) (aa (ar aZ (dO 1 aN (aa (ac 0) ag)) (vC (.int 41))) ag))))))
    (bH (aP (aa (ac 13) (aa (aP (aa (ay (g1 dW) (aa (ac 10) ag)) (aa (ay (g1 dW) (aa (ac 3) ag)) ag))) ag)))))))))))))))
noncomputable def kz:FM:=jF 1 13 ([1]++([2]++([3]++([4]++([5]++(([6]++([7]++([8]++([9]++[]))))++([10]++(([7]++[])++(([6]++([7]++([8]++([11]++([12]++[])))))++(([]++[])++([13]++[]))))))))))) oT
theorem qA:aM ["_law_numbers","_law_things","_law_top","_law_prices","_law_left","_law_ties","_law_k","_law_one","_law_other","_law_ends","_law_pairing","_law_both","_law_worth","_law_web"] ["_law_numbers"] (aj jP):=⟨rfl,rfl,rfl,by decide+kernel,rfl,by decide+kernel,by decide+kernel⟩
theorem vE(h:bQ K mg "_law_made" jP f fd ["_law_numbers"])(T:j' mg){fLnext:Addr}{eLnext:FuncData}(hLnext:bQ K mg "_law_next" hJ fLnext eLnext ["_law_drawn"])(GLnext:aS P w K mg base du 1 fLnext eLnext ["_law_drawn"] (dI K 1 aN)){fLchance:Addr}{eLchance:FuncData}(hLchance:bQ K mg "_law_chance" hG fLchance eLchance ["_law_number","_law_kind"])(GLchance:aS P w K mg base du 3 fLchance eLchance ["_law_number","_law_kind"] (dI K 2 dG)):aS P w K mg base du 4 f fd ["_law_numbers"] (dI K 1 kz):=by
  have nd:=qA.nd
  exact h.fn qA rfl rfl (fun cdv A outer s H E hr=>(@af _ _ _ _ _ _ _ _ (@aD _ _ _ _ _ 1 _ _ nd rfl (Or.inl rfl) (@aF _ _ _ _ _ _ _ rfl ae (@bx _ _ _ _ _ _ _ (@bc _ _ _ _ _ _ _ _ _ _ _ _ _ _ _ hLnext GLnext (hr.mono (by decide)) ((¬0)∘ab) (by rfl) (by decide) (by rfl) (by rfl)) ae)) (by rfl) (by trivial))
      (@af _ _ _ _ _ _ _ _ (@aD _ _ _ _ _ 2 _ _ nd rfl (Or.inr rfl) (@bh _ _ _ _ _ _ _ rfl (@bo _ _ _ _ _ (ae∘(ae∘(ae∘ab)))) (@bx _ _ _ _ _ _ _ (@bc _ _ _ _ _ _ _ _ _ _ _ _ _ _ _ hLnext GLnext (hr.mono (by decide)) ((¬0)∘ab) (by rfl) (by decide) (by rfl) (by rfl)) ae) (fun _ _=>rfl)) (by rfl) (by trivial))
      (@af _ _ _ _ _ _ _ _ (@rq _ _ _ (3) _ _ _ _ _ _ _ _ _ _ _ _ _ (aj jP) ["_law_numbers","_law_things","_law_top","_law_prices","_law_left","_law_ties","_law_k","_law_one","_law_other","_law_ends","_law_pairing","_law_both","_law_worth","_law_web"] [(0,"_law_numbers"),(2,"_law_top")] ["_law_k"] rfl rfl rfl (@eP _ _ _ _ _ _ _ rfl T.b_range ((¬1)∘ab) (by rfl))
        (fun C s0 H0 fp=>(@aB _ _ _ 2 _ (show List.Nodup (["_law_numbers","_law_top","_law_k"]:List Str) by decide+kernel) rfl (Or.inl rfl) (by trivial))) (fun C s0 H0 fp=>(@eJ _ _))
        (fun C s0 H0 fp=>(@bx _ _ _ _ _ _ _ (@bc _ _ _ _ _ _ _ _ _ _ _ _ _ _ _ hLnext GLnext (hr.mono (by decide)) ((¬0)∘ab) (by rfl) (by decide) (by rfl) (by rfl)) (@aF _ _ _ _ _ _ _ rfl (¬1) ae))) rfl (by decide+kernel) (by decide+kernel) (by decide+kernel) (by decide+kernel) (by decide+kernel) (by decide+kernel) (by decide+kernel) nd rfl rfl (by rfl) (by intro _;rfl))
      (@af _ _ _ _ _ _ _ _ (@aD _ _ _ _ _ 4 _ _ nd rfl (Or.inl rfl) (@j4 _ _ _ _ _ _ _ _ rfl rfl T.b_list rfl T.b_range ((¬1)∘ab) (by rfl) (by rfl)) (by rfl) (by trivial))
      (@af _ _ _ _ _ _ _ _ (@aD _ _ _ _ _ 5 _ _ nd rfl (Or.inl rfl) (@bo _ _ _ _ _ ab) (by rfl) (by trivial))
      (@af _ _ _ _ _ _ _ _ (@eZ _ _ _ _ _ _ _ _ _ _ _ PassesOwn.never rfl (@eP _ _ _ _ _ _ _ rfl T.b_range ((@bx _ _ _ _ _ _ _ (@bc _ _ _ _ _ _ _ _ _ _ _ _ _ _ _ hLnext GLnext (hr.mono (by decide)) ((¬0)∘ab) (by rfl) (by decide) (by rfl) (by rfl)) (@aF _ _ _ _ _ _ _ rfl (@jL _ _ _ _ _ _ _ (¬1) ae) ae))∘ab) (by rfl)) (@aB _ _ _ 6 _ nd rfl (Or.inl rfl) (by trivial))
      (@af _ _ _ _ _ _ _ _ (@aD _ _ _ _ _ 7 _ _ nd rfl (Or.inl rfl) (@mN _ _ _ _ _ _ _ _ _ rfl (¬4) ((@bx _ _ _ _ _ _ _ (@bc _ _ _ _ _ _ _ _ _ _ _ _ _ _ _ hLnext GLnext (hr.mono (by decide)) ((¬0)∘ab) (by rfl) (by decide) (by rfl) (by rfl)) (@aO _ _ _ _ _ _ _ _ _ (@b_len _ _ rfl) (by rfl) T.b_len ((¬4)∘ab) (by decide) (by decide) (by rfl) (by rfl)))∘ab) (by rfl) (by rfl) (by rfl) (by rfl) (by rfl)) (by rfl) (by trivial))
      (@af _ _ _ _ _ _ _ _ (@aD _ _ _ _ _ 8 _ _ nd rfl (Or.inl rfl) (@mN _ _ _ _ _ _ _ _ _ rfl (¬4) ((@bx _ _ _ _ _ _ _ (@bc _ _ _ _ _ _ _ _ _ _ _ _ _ _ _ hLnext GLnext (hr.mono (by decide)) ((¬0)∘ab) (by rfl) (by decide) (by rfl) (by rfl)) (@aO _ _ _ _ _ _ _ _ _ (@b_len _ _ rfl) (by rfl) T.b_len ((¬4)∘ab) (by decide) (by decide) (by rfl) (by rfl)))∘ab) (by rfl) (by rfl) (by rfl) (by rfl) (by rfl)) (by rfl) (by trivial))
      (@af _ _ _ _ _ _ _ _ (@aD _ _ _ _ _ 9 _ _ nd rfl (Or.inl rfl) (@ap _ _ _ _ _ _ ((@aO _ _ _ _ _ _ _ _ _ (@b_min _ _ rfl) (by rfl) T.b_min ((¬7)∘((¬8)∘ab)) (by decide) (by decide) (by rfl) (by rfl))∘((@aO _ _ _ _ _ _ _ _ _ (@b_max _ _ rfl) (by rfl) T.b_max ((¬7)∘((¬8)∘ab)) (by decide) (by decide) (by rfl) (by rfl))∘ab))) (by rfl) (by trivial))
      (@am _ _ _ _ _ (@di _ _ _ _ _ (@b5 _ _ _ _ _ _ _ _ _ rfl (¬5) ((@aF _ _ _ _ _ _ _ rfl (¬9) (@ap _ _ _ _ _ _ ((@bc _ _ _ _ _ _ _ _ _ _ _ _ _ _ _ hLchance GLchance (hr.mono (by decide)) ((@bc _ _ _ _ _ _ _ _ _ _ _ _ _ _ _ hLnext GLnext (hr.mono (by decide)) ((¬0)∘ab) (by rfl) (by decide) (by rfl) (by rfl))∘(ae∘ab)) (by rfl) (by decide) (by rfl) (by rfl))∘((@aF _ _ _ _ _ _ _ rfl (@bh _ _ _ _ _ _ _ rfl (¬3) (¬7) (fun _ _=>rfl)) (@bh _ _ _ _ _ _ _ rfl (¬3) (¬8) (fun _ _=>rfl)))∘ab))))∘ab) (by rfl) (by rfl) (by rfl) (by rfl) (by rfl)) (by rfl)))))) (by intro _;rfl))
      (@af _ _ _ _ _ _ _ _ (@aD _ _ _ _ _ 10 _ _ nd rfl (Or.inl rfl) (@j4 _ _ _ _ _ _ _ _ rfl rfl T.b_list rfl T.b_range ((@aO _ _ _ _ _ _ _ _ _ (@b_len _ _ rfl) (by rfl) T.b_len ((¬5)∘ab) (by decide) (by decide) (by rfl) (by rfl))∘ab) (by rfl) (by rfl)) (by rfl) (by trivial))
      (@af _ _ _ _ _ _ _ _ (@eZ _ _ _ _ _ _ _ _ _ _ _ PassesOwn.never rfl (@cy _ _ _ _ _ rfl (¬4)) (@aB _ _ _ 7 _ nd rfl (Or.inl rfl) (by trivial))
      (@am _ _ _ _ _ (@mP _ _ _ _ _ _ _ _ _ _ ae (¬3) (¬7) (by intro _;rfl) (by rfl) (by rfl) (by rfl))) (by intro _;rfl))
      (@af _ _ _ _ _ _ _ _ (@eZ _ _ _ _ _ _ _ _ _ _ _ PassesOwn.never rfl (@eP _ _ _ _ _ _ _ rfl T.b_range ((@bx _ _ _ _ _ _ _ (@bc _ _ _ _ _ _ _ _ _ _ _ _ _ _ _ hLnext GLnext (hr.mono (by decide)) ((¬0)∘ab) (by rfl) (by decide) (by rfl) (by rfl)) ae)∘ab) (by rfl)) (@aB _ _ _ 6 _ nd rfl (Or.inl rfl) (by trivial))
      (@af _ _ _ _ _ _ _ _ (@aD _ _ _ _ _ 7 _ _ nd rfl (Or.inl rfl) (@bx _ _ _ _ _ _ _ (@bc _ _ _ _ _ _ _ _ _ _ _ _ _ _ _ hLnext GLnext (hr.mono (by decide)) ((¬0)∘ab) (by rfl) (by decide) (by rfl) (by rfl)) (¬1)) (by rfl) (by trivial))
      (@af _ _ _ _ _ _ _ _ (@aD _ _ _ _ _ 8 _ _ nd rfl (Or.inl rfl) (@bx _ _ _ _ _ _ _ (@aF _ _ _ _ _ _ _ rfl (@aF _ _ _ _ _ _ _ rfl (¬7) ae) (@bx _ _ _ _ _ _ _ (@bc _ _ _ _ _ _ _ _ _ _ _ _ _ _ _ hLnext GLnext (hr.mono (by decide)) ((¬0)∘ab) (by rfl) (by decide) (by rfl) (by rfl)) (@lR _ _ _ _ _ _ _ (¬1) ae))) (¬1)) (by rfl) (by trivial))
      (@af _ _ _ _ _ _ _ _ (@aD _ _ _ _ _ 11 _ _ nd rfl (Or.inl rfl) (@aF _ _ _ _ _ _ _ rfl (@bh _ _ _ _ _ _ _ rfl (¬3) (¬7) (fun _ _=>rfl)) (@bh _ _ _ _ _ _ _ rfl (¬3) (¬8) (fun _ _=>rfl))) (by rfl) (by trivial))
      (@af _ _ _ _ _ _ _ _ (@aD _ _ _ _ _ 12 _ _ nd rfl (Or.inl rfl) (@aO _ _ _ _ _ _ _ _ _ (@b_max _ _ rfl) (by rfl) T.b_max (ae∘((@lR _ _ _ _ _ _ _ (¬11) (@bh _ _ _ _ _ _ _ rfl (@bo _ _ _ _ _ (ae∘(ae∘(ae∘((@bx _ _ _ _ _ _ _ (@bc _ _ _ _ _ _ _ _ _ _ _ _ _ _ _ hLnext GLnext (hr.mono (by decide)) ((¬0)∘ab) (by rfl) (by decide) (by rfl) (by rfl)) (@aF _ _ _ _ _ _ _ rfl (¬11) ae))∘ab))))) (@bx _ _ _ _ _ _ _ (@bc _ _ _ _ _ _ _ _ _ _ _ _ _ _ _ hLnext GLnext (hr.mono (by decide)) ((¬0)∘ab) (by rfl) (by decide) (by rfl) (by rfl)) ae) (fun _ _=>rfl)))∘ab)) (by decide) (by decide) (by rfl) (by rfl)) (by rfl) (by trivial))
      (@am _ _ _ _ _ (@di _ _ _ _ _ (@b5 _ _ _ _ _ _ _ _ _ rfl (¬5) ((@ap _ _ _ _ _ _ ((@aO _ _ _ _ _ _ _ _ _ (@b_min _ _ rfl) (by rfl) T.b_min ((¬7)∘((¬8)∘ab)) (by decide) (by decide) (by rfl) (by rfl))∘((@aO _ _ _ _ _ _ _ _ _ (@b_max _ _ rfl) (by rfl) T.b_max ((¬7)∘((¬8)∘ab)) (by decide) (by decide) (by rfl) (by rfl))∘((@bc _ _ _ _ _ _ _ _ _ _ _ _ _ _ _ hLchance GLchance (hr.mono (by decide)) ((@bc _ _ _ _ _ _ _ _ _ _ _ _ _ _ _ hLnext GLnext (hr.mono (by decide)) ((¬0)∘ab) (by rfl) (by decide) (by rfl) (by rfl))∘(ae∘ab)) (by rfl) (by decide) (by rfl) (by rfl))∘((¬12)∘ab)))))∘ab) (by rfl) (by rfl) (by rfl) (by rfl) (by rfl)) (by rfl))))))) (by intro _;rfl))
      (@af _ _ _ _ _ _ _ _ (@ci _ _ _ _ _ _ _ _ _ _ _ (@pB _ _ _ _ (@uh _ _ _ _ _ _ _ _ (@bu _ _ _ _ _ _ _ _ _ (@sd _ _ _ rfl hr) (¬5) (@bo _ _ _ _ _ ab) (aR _)) (@qq _ _ _ _ _ (@bu _ _ _ _ _ _ _ _ _ (@md _ _ _ rfl hr) (@bx _ _ _ _ _ _ _ (@bc _ _ _ _ _ _ _ _ _ _ _ _ _ _ _ hLnext GLnext (hr.mono (by decide)) ((¬0)∘ab) (by rfl) (by decide) (by rfl) (by rfl)) ae) ae (aR _)))))
      (@am _ _ _ _ _ (@mP _ _ _ _ _ _ _ _ _ _ (@aF _ _ _ _ _ _ _ rfl (@bE _ _ _ _ _ _ _ _ _ _ rfl (@bh _ _ _ _ _ _ _ rfl (¬5) (@j5 _ _ _ _ _ ae) (fun _ _=>rfl)) (@bF _ _) (@bG _ _ _ _ ae)) (@ap _ _ _ _ _ _ ((@aO _ _ _ _ _ _ _ _ _ (@b_min _ _ rfl) (by rfl) T.b_min (ae∘((@aF _ _ _ _ _ _ _ rfl (@bh _ _ _ _ _ _ _ rfl (@bh _ _ _ _ _ _ _ rfl (¬5) (@j5 _ _ _ _ _ ae) (fun _ _=>rfl)) ae (fun _ _=>rfl)) ae)∘ab)) (by decide) (by decide) (by rfl) (by rfl))∘ab))) (¬5) (@j5 _ _ _ _ _ ae) (by intro _;rfl) (by rfl) (by rfl) (by rfl)))
      (@aT _ _))
      (@af _ _ _ _ _ _ _ _ (@aD _ _ _ _ _ 13 _ _ nd rfl (Or.inl rfl) (@ap _ _ _ _ _ _ ((¬1)∘((@aO _ _ _ _ _ _ _ _ _ (@b_tuple _ _ rfl) (by rfl) T.b_tuple ((¬5)∘ab) (by decide) (by decide) (by rfl) (by rfl))∘((@lQ _ _ _ _ _ _ _ rfl (@ap _ _ _ _ _ _ (ae∘ab)) (¬1))∘((@bx _ _ _ _ _ _ _ (@bc _ _ _ _ _ _ _ _ _ _ _ _ _ _ _ hLnext GLnext (hr.mono (by decide)) ((¬0)∘ab) (by rfl) (by decide) (by rfl) (by rfl)) ae)∘ab))))) (by rfl) (by trivial))
      (@am _ _ _ _ _ (@aA _ _ _ _ _ (@ap _ _ _ _ _ _ ((¬13)∘((@ap _ _ _ _ _ _ ((@aO _ _ _ _ _ _ _ _ _ (@b_tuple _ _ rfl) (by rfl) T.b_tuple ((¬10)∘ab) (by decide) (by decide) (by rfl) (by rfl))∘((@aO _ _ _ _ _ _ _ _ _ (@b_tuple _ _ rfl) (by rfl) T.b_tuple ((¬3)∘ab) (by decide) (by decide) (by rfl) (by rfl))∘ab)))∘ab)))))))))))))))))
noncomputable def ez:FI:=(ej (ac 5))
noncomputable def c_:FS:=(dU (b_ be (ac 4) (aa (ar aK (ar aK (j_ (ac 1) cx (cg (ac 2))) (aP (aa (ac 6) ag))) (j_ (ac 1) (cg (ar aK (ac 2) (vC (.int 1)))) cx)) ag)))
noncomputable def fH:FS:=(aw (ba 2 (ar aZ (dO 1 aN (aa (ac 0) ag)) (ay (g1 eu) (aa (ac 1) ag))))
    (aw (ba 3 (ar aZ (dO 1 aN (aa (ac 0) ag)) (ay (g1 eu) (aa (ac 1) ag))))
    (aw (ba 4 (dN (aa (j_ (ac 1) (cg (vC (.int 1))) cx) (aa (ar aK (ac 1) (aP (aa (vC (.int 0)) ag))) (aa (ay (g1 gP) (aa (ac 1) ag)) (aa (vC .none) (aa (aP ag) ag)))))))
    (aw (ba 5 (dN (aa (ar aK (ar cO (ac 1) (ac 2)) (vC (.int 1))) (aa (ar eT (ar cO (ac 1) (ac 2)) (vC (.int 1))) (aa (js i8 (vC (.int 1))) (aa (vC (.int 0)) (aa (vC (.bool true)) (aa (vC (.bool false)) (aa (vC .none) (aa (ay (g1 nK) (aa (ar cO (ac 1) (ac 2)) ag)) (aa (aP (aa (ar cO (ac 1) (ac 2)) (aa (vC (.int 1)) ag))) (aa (dN (aa (vC (.int 0)) ag)) (aa (jr [(0,1)]) ag)))))))))))))
    (aw (dS ([6]++[]) ez (ah 6) c_)
    (aw (gD (aG (ar (cv true) (ac 2) (ac 3)))
    (aw (ba 7 (ay (g1 gP) (aa (ac 1) ag)))
    (aw (iN (ar aK (ar cO (ac 7) (ac 2)) (vC (.int 1))) (ac 7) (ac 2))
    (aw (iN (ar eT (ar cO (ac 7) (ac 3)) (vC (.int 1))) (ac 7) (ac 3))
    (dU (b_ be (ac 4) (aa (ay (g1 dW) (aa (ac 7) ag)) ag))))))
    dm)
    (aw (gD (aG (ar (sG false) (vC (.int 1)) (ac 1)))
    (dU (b_ be (ac 4) (aa (ar aK (ar aK (j_ (ac 1) cx (cg (oJ false gX (ac 1) (vC (.int 1))))) (aP (aa (vC (.bool true)) ag))) (j_ (ac 1) (cg (ar aK (oJ false gX (ac 1) (vC (.int 1))) (vC (.int 1)))) cx)) ag)))
    dm)
    (bH (ac 4)))))))))
noncomputable def cV:FM:=jF 2 6 ([2]++([3]++([4]++([5]++(([6]++[])++((([7]++([]++([]++[])))++[])++(([]++[])++[]))))))) fH
theorem hU:aM ["_law_numbers","_law_prices","_law_at","_law_other","_law_found","_law_some","_law_odd_here","_law_row"] ["_law_numbers","_law_prices"] (aj cZ):=⟨rfl,rfl,rfl,by decide+kernel,rfl,by decide+kernel,by decide+kernel⟩
theorem kM(h:bQ K mg "_law_bent_prices" cZ f fd ["_law_numbers","_law_prices"])(T:j' mg){fLnext:Addr}{eLnext:FuncData}(hLnext:bQ K mg "_law_next" hJ fLnext eLnext ["_law_drawn"])(GLnext:aS P w K mg base du 1 fLnext eLnext ["_law_drawn"] (dI K 1 aN)):aS P w K mg base du 2 f fd ["_law_numbers","_law_prices"] (dI K 2 cV):=by
  have nd:=hU.nd
  exact h.fn hU rfl rfl (fun cdv A outer s H E hr=>(@af _ _ _ _ _ _ _ _ (@aD _ _ _ _ _ 2 _ _ nd rfl (Or.inl rfl) (@bx _ _ _ _ _ _ _ (@bc _ _ _ _ _ _ _ _ _ _ _ _ _ _ _ hLnext GLnext (hr.mono (by decide)) ((¬0)∘ab) (by rfl) (by decide) (by rfl) (by rfl)) (@aO _ _ _ _ _ _ _ _ _ (@b_len _ _ rfl) (by rfl) T.b_len ((¬1)∘ab) (by decide) (by decide) (by rfl) (by rfl))) (by rfl) (by trivial))
      (@af _ _ _ _ _ _ _ _ (@aD _ _ _ _ _ 3 _ _ nd rfl (Or.inl rfl) (@bx _ _ _ _ _ _ _ (@bc _ _ _ _ _ _ _ _ _ _ _ _ _ _ _ hLnext GLnext (hr.mono (by decide)) ((¬0)∘ab) (by rfl) (by decide) (by rfl) (by rfl)) (@aO _ _ _ _ _ _ _ _ _ (@b_len _ _ rfl) (by rfl) T.b_len ((¬1)∘ab) (by decide) (by decide) (by rfl) (by rfl))) (by rfl) (by trivial))
      (@af _ _ _ _ _ _ _ _ (@aD _ _ _ _ _ 4 _ _ nd rfl (Or.inl rfl) (@bo _ _ _ _ _ ((@bE _ _ _ _ _ _ _ _ _ _ rfl (¬1) (@bG _ _ _ _ ae) (@bF _ _))∘((@aF _ _ _ _ _ _ _ rfl (¬1) (@ap _ _ _ _ _ _ (ae∘ab)))∘((@aO _ _ _ _ _ _ _ _ _ (@b_list _ _ rfl) (by rfl) T.b_list ((¬1)∘ab) (by decide) (by decide) (by rfl) (by rfl))∘((@jN _ _ _ _)∘((@ap _ _ _ _ _ _ ab)∘ab)))))) (by rfl) (by trivial))
      (@af _ _ _ _ _ _ _ _ (@aD _ _ _ _ _ 5 _ _ nd rfl (Or.inl rfl) (@bo _ _ _ _ _ ((@aF _ _ _ _ _ _ _ rfl (@bh _ _ _ _ _ _ _ rfl (¬1) (¬2) (fun _ _=>rfl)) ae)∘((@lR _ _ _ _ _ _ _ (@bh _ _ _ _ _ _ _ rfl (¬1) (¬2) (fun _ _=>rfl)) ae)∘((@j5 _ _ _ _ _ ae)∘(ae∘((@bO _ _ _ _ _)∘((@bO _ _ _ _ _)∘((@jN _ _ _ _)∘((@aO _ _ _ _ _ _ _ _ _ (@b_str _ _) (by rfl) T.b_str ((@bh _ _ _ _ _ _ _ rfl (¬1) (¬2) (fun _ _=>rfl))∘ab) (by decide) (by decide) (by rfl) (by rfl))∘((@ap _ _ _ _ _ _ ((@bh _ _ _ _ _ _ _ rfl (¬1) (¬2) (fun _ _=>rfl))∘(ae∘ab)))∘((@bo _ _ _ _ _ (ae∘ab))∘((@kQ _ _ _ _ _ _ _ _ _)∘ab)))))))))))) (by rfl) (by trivial))
      (@af _ _ _ _ _ _ _ _ (@eZ _ _ _ _ _ _ _ _ _ _ _ PassesOwn.never rfl (@cy _ _ _ _ _ rfl (¬5)) (@aB _ _ _ 6 _ nd rfl (Or.inl rfl) (by trivial))
      (@am _ _ _ _ _ (@di _ _ _ _ _ (@b5 _ _ _ _ _ _ _ _ _ rfl (¬4) ((@aF _ _ _ _ _ _ _ rfl (@aF _ _ _ _ _ _ _ rfl (@bE _ _ _ _ _ _ _ _ _ _ rfl (¬1) (@bF _ _) (@bG _ _ _ _ (¬2))) (@ap _ _ _ _ _ _ ((¬6)∘ab))) (@bE _ _ _ _ _ _ _ _ _ _ rfl (¬1) (@bG _ _ _ _ (@aF _ _ _ _ _ _ _ rfl (¬2) ae)) (@bF _ _)))∘ab) (by rfl) (by rfl) (by rfl) (by rfl) (by rfl)) (by rfl))) (by intro _;rfl))
      (@af _ _ _ _ _ _ _ _ (@ci _ _ _ _ _ _ _ _ _ _ _ (@bu _ _ _ _ _ _ _ _ _ (@sd _ _ _ rfl hr) (¬2) (¬3) (aR _))
      (@af _ _ _ _ _ _ _ _ (@aD _ _ _ _ _ 7 _ _ nd rfl (Or.inl rfl) (@aO _ _ _ _ _ _ _ _ _ (@b_list _ _ rfl) (by rfl) T.b_list ((¬1)∘ab) (by decide) (by decide) (by rfl) (by rfl)) (by rfl) (by trivial))
      (@af _ _ _ _ _ _ _ _ (@mP _ _ _ _ _ _ _ _ _ _ (@aF _ _ _ _ _ _ _ rfl (@bh _ _ _ _ _ _ _ rfl (¬7) (¬2) (fun _ _=>rfl)) ae) (¬7) (¬2) (by intro _;rfl) (by rfl) (by rfl) (by rfl))
      (@af _ _ _ _ _ _ _ _ (@mP _ _ _ _ _ _ _ _ _ _ (@lR _ _ _ _ _ _ _ (@bh _ _ _ _ _ _ _ rfl (¬7) (¬3) (fun _ _=>rfl)) ae) (¬7) (¬3) (by intro _;rfl) (by rfl) (by rfl) (by rfl))
      (@am _ _ _ _ _ (@di _ _ _ _ _ (@b5 _ _ _ _ _ _ _ _ _ rfl (¬4) ((@aO _ _ _ _ _ _ _ _ _ (@b_tuple _ _ rfl) (by rfl) T.b_tuple ((¬7)∘ab) (by decide) (by decide) (by rfl) (by rfl))∘ab) (by rfl) (by rfl) (by rfl) (by rfl) (by rfl)) (by rfl))))))
      (@aT _ _))
      (@af _ _ _ _ _ _ _ _ (@ci _ _ _ _ _ _ _ _ _ _ _ (@bu _ _ _ _ _ _ _ _ _ (@Ad _ _ _ rfl hr) ae (¬1) (by with_unfolding_all rfl))
      (@am _ _ _ _ _ (@di _ _ _ _ _ (@b5 _ _ _ _ _ _ _ _ _ rfl (¬4) ((@aF _ _ _ _ _ _ _ rfl (@aF _ _ _ _ _ _ _ rfl (@bE _ _ _ _ _ _ _ _ _ _ rfl (¬1) (@bF _ _) (@bG _ _ _ _ (@mM _ _ _ _ _ _ _ _ rfl (¬1) ae (by rfl) (by rfl) (by rfl) (by rfl) (by rfl)))) (@ap _ _ _ _ _ _ ((@bO _ _ _ _ _)∘ab))) (@bE _ _ _ _ _ _ _ _ _ _ rfl (¬1) (@bG _ _ _ _ (@aF _ _ _ _ _ _ _ rfl (@mM _ _ _ _ _ _ _ _ rfl (¬1) ae (by rfl) (by rfl) (by rfl) (by rfl) (by rfl)) ae)) (@bF _ _)))∘ab) (by rfl) (by rfl) (by rfl) (by rfl) (by rfl)) (by rfl)))
      (@aT _ _))
      (@am _ _ _ _ _ (@aA _ _ _ _ _ (¬4)))))))))))
noncomputable def dX:FI:=(ej (dN (aa (ar aZ (dO 1 aN (aa (ac 0) ag)) (ar aK (ay (g1 eu) (aa (ar cO (ac 1) (vC (.int 1))) ag)) (vC (.int 1)))) (aa (ay (g1 eu) (aa (ar cO (ac 1) (vC (.int 1))) ag)) (aa (js i8 (vC (.int 1))) (aa (vC (.bool true)) (aa (vC (.bool false)) (aa (vC .none) (aa (vC (.str ("0":Str))) (aa (aP (aa (vC (.int 0)) ag)) (aa (dN (aa (vC (.int 0)) ag)) (aa (jr [(0,1)]) ag))))))))))))
noncomputable def cE:FS:=(aw (dU (b_ be (ac 4) (aa (ar aK (ar aK (j_ (ac 2) cx (cg (ac 3))) (aP (aa (ac 5) ag))) (j_ (ac 2) (cg (ar aK (ac 3) (vC (.int 1)))) cx)) ag)))
    (dU (b_ be (ac 4) (aa (ar aK (ar aK (j_ (ac 2) cx (cg (ac 3))) (aP (aa (ac 5) ag))) (j_ (ac 2) (cg (ac 3)) cx)) ag))))
noncomputable def eQ:FS:=(aw (ba 3 (ar aZ (dO 1 aN (aa (ac 0) ag)) (ar aK (ay (g1 eu) (aa (ac 2) ag)) (vC (.int 1)))))
    (aw (ba 4 (dN (aa (ar aK (j_ (ac 2) cx (cg (ac 3))) (j_ (ac 2) (cg (ar aK (ac 3) (vC (.int 1)))) cx)) (aa (ar aK (ac 2) (j_ (ac 2) cx (cg (vC (.int 1))))) (aa (zR (ac 2) (js i8 (vC (.int 1)))) (aa (ay (g1 gP) (aa (ac 2) ag)) (aa (vC .none) (aa (aP (aa (ac 2) ag)) ag))))))))
    (aw (dS ([5]++([]++[])) dX (ah 5) cE)
    (aw (gD (aG (ar (sG false) (vC (.int 1)) (ac 2)))
    (dU (b_ be (ac 4) (aa (ar aK (ar aK (j_ (ac 2) cx (cg (oJ false gX (ac 2) (vC (.int 1))))) (aP (aa (vC (.bool true)) ag))) (j_ (ac 2) (cg (ar aK (oJ false gX (ac 2) (vC (.int 1))) (vC (.int 1)))) cx)) ag)))
    dm)
    (bH (ac 4))))))
noncomputable def bN:FM:=jF 3 3 ([3]++([4]++(([5]++([]++[]))++(([]++[])++[])))) eQ
theorem gE:aM ["_law_numbers","_law_web","_law_pairing","_law_at","_law_found","_law_odd_here"] ["_law_numbers","_law_web","_law_pairing"] (aj cz):=⟨rfl,rfl,rfl,by decide+kernel,rfl,by decide+kernel,by decide+kernel⟩
theorem j9(h:bQ K mg "_law_bent_pairing" cz f fd ["_law_numbers","_law_web","_law_pairing"])(T:j' mg){fLnext:Addr}{eLnext:FuncData}(hLnext:bQ K mg "_law_next" hJ fLnext eLnext ["_law_drawn"])(GLnext:aS P w K mg base du 1 fLnext eLnext ["_law_drawn"] (dI K 1 aN)):aS P w K mg base du 2 f fd ["_law_numbers","_law_web","_law_pairing"] (dI K 3 bN):=by
  have nd:=gE.nd
  exact h.fn gE rfl rfl (fun cdv A outer s H E hr=>(@af _ _ _ _ _ _ _ _ (@aD _ _ _ _ _ 3 _ _ nd rfl (Or.inl rfl) (@bx _ _ _ _ _ _ _ (@bc _ _ _ _ _ _ _ _ _ _ _ _ _ _ _ hLnext GLnext (hr.mono (by decide)) ((¬0)∘ab) (by rfl) (by decide) (by rfl) (by rfl)) (@aF _ _ _ _ _ _ _ rfl (@aO _ _ _ _ _ _ _ _ _ (@b_len _ _ rfl) (by rfl) T.b_len ((¬2)∘ab) (by decide) (by decide) (by rfl) (by rfl)) ae)) (by rfl) (by trivial))
      (@af _ _ _ _ _ _ _ _ (@aD _ _ _ _ _ 4 _ _ nd rfl (Or.inl rfl) (@bo _ _ _ _ _ ((@aF _ _ _ _ _ _ _ rfl (@bE _ _ _ _ _ _ _ _ _ _ rfl (¬2) (@bF _ _) (@bG _ _ _ _ (¬3))) (@bE _ _ _ _ _ _ _ _ _ _ rfl (¬2) (@bG _ _ _ _ (@aF _ _ _ _ _ _ _ rfl (¬3) ae)) (@bF _ _)))∘((@aF _ _ _ _ _ _ _ rfl (¬2) (@bE _ _ _ _ _ _ _ _ _ _ rfl (¬2) (@bF _ _) (@bG _ _ _ _ ae)))∘((@Cn _ _ _ _ _ _ _ _ rfl (¬2) (@j5 _ _ _ _ _ ae))∘((@aO _ _ _ _ _ _ _ _ _ (@b_list _ _ rfl) (by rfl) T.b_list ((¬2)∘ab) (by decide) (by decide) (by rfl) (by rfl))∘((@jN _ _ _ _)∘((@ap _ _ _ _ _ _ ((¬2)∘ab))∘ab))))))) (by rfl) (by trivial))
      (@af _ _ _ _ _ _ _ _ (@eZ _ _ _ _ _ _ _ _ _ _ _ PassesOwn.never rfl (@cy _ _ _ _ _ rfl (@bo _ _ _ _ _ ((@bx _ _ _ _ _ _ _ (@bc _ _ _ _ _ _ _ _ _ _ _ _ _ _ _ hLnext GLnext (hr.mono (by decide)) ((¬0)∘ab) (by rfl) (by decide) (by rfl) (by rfl)) (@aF _ _ _ _ _ _ _ rfl (@aO _ _ _ _ _ _ _ _ _ (@b_len _ _ rfl) (by rfl) T.b_len ((@bh _ _ _ _ _ _ _ rfl (¬1) ae (fun _ _=>rfl))∘ab) (by decide) (by decide) (by rfl) (by rfl)) ae))∘((@aO _ _ _ _ _ _ _ _ _ (@b_len _ _ rfl) (by rfl) T.b_len ((@bh _ _ _ _ _ _ _ rfl (¬1) ae (fun _ _=>rfl))∘ab) (by decide) (by decide) (by rfl) (by rfl))∘((@j5 _ _ _ _ _ ae)∘((@bO _ _ _ _ _)∘((@bO _ _ _ _ _)∘((@jN _ _ _ _)∘((@kR _ _ _ _ _)∘((@ap _ _ _ _ _ _ (ae∘ab))∘((@bo _ _ _ _ _ (ae∘ab))∘((@kQ _ _ _ _ _ _ _ _ _)∘ab)))))))))))) (@aB _ _ _ 5 _ nd rfl (Or.inl rfl) (by trivial))
      (@af _ _ _ _ _ _ _ _ (@di _ _ _ _ _ (@b5 _ _ _ _ _ _ _ _ _ rfl (¬4) ((@aF _ _ _ _ _ _ _ rfl (@aF _ _ _ _ _ _ _ rfl (@bE _ _ _ _ _ _ _ _ _ _ rfl (¬2) (@bF _ _) (@bG _ _ _ _ (¬3))) (@ap _ _ _ _ _ _ ((¬5)∘ab))) (@bE _ _ _ _ _ _ _ _ _ _ rfl (¬2) (@bG _ _ _ _ (@aF _ _ _ _ _ _ _ rfl (¬3) ae)) (@bF _ _)))∘ab) (by rfl) (by rfl) (by rfl) (by rfl) (by rfl)) (by rfl))
      (@am _ _ _ _ _ (@di _ _ _ _ _ (@b5 _ _ _ _ _ _ _ _ _ rfl (¬4) ((@aF _ _ _ _ _ _ _ rfl (@aF _ _ _ _ _ _ _ rfl (@bE _ _ _ _ _ _ _ _ _ _ rfl (¬2) (@bF _ _) (@bG _ _ _ _ (¬3))) (@ap _ _ _ _ _ _ ((¬5)∘ab))) (@bE _ _ _ _ _ _ _ _ _ _ rfl (¬2) (@bG _ _ _ _ (¬3)) (@bF _ _)))∘ab) (by rfl) (by rfl) (by rfl) (by rfl) (by rfl)) (by rfl)))) (by intro _;rfl))
      (@af _ _ _ _ _ _ _ _ (@ci _ _ _ _ _ _ _ _ _ _ _ (@bu _ _ _ _ _ _ _ _ _ (@Ad _ _ _ rfl hr) ae (¬2) (by with_unfolding_all rfl))
      (@am _ _ _ _ _ (@di _ _ _ _ _ (@b5 _ _ _ _ _ _ _ _ _ rfl (¬4) ((@aF _ _ _ _ _ _ _ rfl (@aF _ _ _ _ _ _ _ rfl (@bE _ _ _ _ _ _ _ _ _ _ rfl (¬2) (@bF _ _) (@bG _ _ _ _ (@mM _ _ _ _ _ _ _ _ rfl (¬2) ae (by rfl) (by rfl) (by rfl) (by rfl) (by rfl)))) (@ap _ _ _ _ _ _ ((@bO _ _ _ _ _)∘ab))) (@bE _ _ _ _ _ _ _ _ _ _ rfl (¬2) (@bG _ _ _ _ (@aF _ _ _ _ _ _ _ rfl (@mM _ _ _ _ _ _ _ _ rfl (¬2) ae (by rfl) (by rfl) (by rfl) (by rfl) (by rfl)) ae)) (@bF _ _)))∘ab) (by rfl) (by rfl) (by rfl) (by rfl) (by rfl)) (by rfl)))
      (@aT _ _))
      (@am _ _ _ _ _ (@aA _ _ _ _ _ (¬4))))))))
noncomputable def Cb:FI:=(ej (ac 7))
noncomputable def BL:FS:=(gD (gF (aG (dO 2 kD (aa (dO 2 aI (aa (ac 3) (aa (ac 8) ag))) (aa (dO 2 aL (aa (ac 3) (aa (ac 8) ag))) ag)))))
    (bH (vC (.bool false)))
    dm)
noncomputable def CO:FI:=(ej (dO 3 bN (aa (ac 1) (aa (ac 3) (aa (ac 5) ag)))))
noncomputable def BM:FE:=(aP (aa (ac 1) (aa (ac 0) ag)))
noncomputable def CP:FI:=(ej (dO 2 cV (aa (ac 1) (aa (ac 6) ag))))
noncomputable def BN:FE:=(aP (aa (ac 0) (aa (ac 1) ag)))
noncomputable def CQ:FI:=(ee (aa (ar aK (vC (.int 2)) (ay (g2 mx) (aa (vC (.int 5)) (aa (ay (g1 eu) (aa (ac 0) ag)) ag)))) ag))
noncomputable def z9:FS:=(aw (pD (dO 1 kz (aa (ac 1) ag)) (iw (bi (ah 3) (bi (ah 4) gx))))
    (aw (pD (ac 4) (iw (bi (ah 5) (bi (ah 6) gx))))
    (aw (ba 7 (dN (aa (ac 4) (aa (ay (g1 gP) (aa (ac 4) ag)) (aa (ar aK (ac 4) (aP (aa (aP ag) ag))) (aa (aP (aa (ac 6) (aa (ac 5) ag))) (aa (j_ (ac 4) cx (cg (vC (.int 1)))) (aa (dO 1 kB (aa (dO 1 aN (aa (ac 1) ag)) ag)) ag))))))))
    (aw (ba 7 (ar aK (ac 7) (dJ [(5,"_law_pairing")] 1 CP (ah 1) bI BN)))
    (aw (ba 7 (ar aK (ac 7) (dJ [(6,"_law_prices")] 1 CO (ah 1) bI BM)))
    (aw (dU (b_ be (ac 7) (aa (aP (aa (dO 1 kB (aa (dO 1 aN (aa (ac 1) ag)) ag)) (aa (dO 1 kB (aa (dO 1 aN (aa (ac 1) ag)) ag)) ag))) ag)))
    (dS ([8]++([]++[])) Cb (ah 8) BL)))))))
noncomputable def wW:FS:=(aw (ba 1 (dO 1 jc (aa (ac 0) ag)))
    (aw (dS ([2]++(([3]++([4]++[]))++(([5]++([6]++[]))++([7]++([7]++([7]++([]++([8]++([]++[]))))))))) CQ (ah 2) z9)
    (bH (ar xW (dO 2 aI (aa (aP (aa (vC (.int 0)) (aa (aP ag) (aa (aP ag) (aa (vC (.int 0)) ag))))) (aa (aP (aa (aP ag) (aa (aP ag) ag))) ag))) (vC (.bool true))))))
noncomputable def kG:FM:=jF 1 8 ([1]++(([2]++(([3]++([4]++[]))++(([5]++([6]++[]))++([7]++([7]++([7]++([]++([8]++([]++[])))))))))++[])) wW
theorem uy:aM ["_law_script","_law_numbers","_law_turn","_law_web","_law_paper","_law_pairing","_law_prices","_law_things","_law_thing"] ["_law_script"] (aj jj):=⟨rfl,rfl,rfl,by decide+kernel,rfl,by decide+kernel,by decide+kernel⟩
theorem yx(h:bQ K mg "law" jj f fd ["_law_script"])(T:j' mg){fLdraws:Addr}{eLdraws:FuncData}(hLdraws:bQ K mg "_law_draws" jh fLdraws eLdraws ["_law_script"])(GLdraws:aS P w K mg base du 2 fLdraws eLdraws ["_law_script"] (dI K 1 jc)){fLmade:Addr}{eLmade:FuncData}(hLmade:bQ K mg "_law_made" jP fLmade eLmade ["_law_numbers"])(GLmade:aS P w K mg base du 4 fLmade eLmade ["_law_numbers"] (dI K 1 kz)){f_heaviest_holds:Addr}{e_heaviest_holds:FuncData}(h_heaviest_holds:bQ K mg "heaviest_holds" a9 f_heaviest_holds e_heaviest_holds ["web","thing"])(G_heaviest_holds:aS P w K mg base du 5 f_heaviest_holds e_heaviest_holds ["web","thing"] (dI K 2 aI)){fLodd:Addr}{eLodd:FuncData}(hLodd:bQ K mg "_law_odd" oo fLodd eLodd ["_law_number"])(GLodd:aS P w K mg base du 1 fLodd eLodd ["_law_number"] (dI K 1 kB)){fLnext:Addr}{eLnext:FuncData}(hLnext:bQ K mg "_law_next" hJ fLnext eLnext ["_law_drawn"])(GLnext:aS P w K mg base du 1 fLnext eLnext ["_law_drawn"] (dI K 1 aN)){fLsays:Addr}{eLsays:FuncData}(hLsays:bQ K mg "_law_says" kW fLsays eLsays ["_law_found","_law_due"])(GLsays:aS P w K mg base du 1 fLsays eLsays ["_law_found","_law_due"] (dI K 2 kD)){fLbent_prices:Addr}{eLbent_prices:FuncData}(hLbent_prices:bQ K mg "_law_bent_prices" cZ fLbent_prices eLbent_prices ["_law_numbers","_law_prices"])(GLbent_prices:aS P w K mg base du 2 fLbent_prices eLbent_prices ["_law_numbers","_law_prices"] (dI K 2 cV)){fLbent_pairing:Addr}{eLbent_pairing:FuncData}(hLbent_pairing:bQ K mg "_law_bent_pairing" cz fLbent_pairing eLbent_pairing ["_law_numbers","_law_web","_law_pairing"])(GLbent_pairing:aS P w K mg base du 2 fLbent_pairing eLbent_pairing ["_law_numbers","_law_web","_law_pairing"] (dI K 3 bN)){fLis_heaviest:Addr}{eLis_heaviest:FuncData}(hLis_heaviest:bQ K mg "_law_is_heaviest" br fLis_heaviest eLis_heaviest ["_law_web","_law_thing"])(GLis_heaviest:aS P w K mg base du 3 fLis_heaviest eLis_heaviest ["_law_web","_law_thing"] (dI K 2 aL)):aS P w K mg base du 6 f fd ["_law_script"] (dI K 1 kG):=by
  have nd:=uy.nd
  exact h.fn uy rfl rfl (fun cdv A outer s H E hr=>(@af _ _ _ _ _ _ _ _ (@aD _ _ _ _ _ 1 _ _ nd rfl (Or.inl rfl) (@bc _ _ _ _ _ _ _ _ _ _ _ _ _ _ _ hLdraws GLdraws (hr.mono (by decide)) ((¬0)∘ab) (by rfl) (by decide) (by rfl) (by rfl)) (by rfl) (by trivial))
      (@af _ _ _ _ _ _ _ _ (@eZ _ _ _ _ _ _ _ _ _ _ _ PassesOwn.never rfl (@eP _ _ _ _ _ _ _ rfl T.b_range ((@aF _ _ _ _ _ _ _ rfl ae (@aO _ _ _ _ _ _ _ _ _ (@b_min _ _ rfl) (by rfl) T.b_min (ae∘((@aO _ _ _ _ _ _ _ _ _ (@b_len _ _ rfl) (by rfl) T.b_len ((¬0)∘ab) (by decide) (by decide) (by rfl) (by rfl))∘ab)) (by decide) (by decide) (by rfl) (by rfl)))∘ab) (by rfl)) (@aB _ _ _ 2 _ nd rfl (Or.inl rfl) (by trivial))
      (@af _ _ _ _ _ _ _ _ (@pA _ _ _ _ _ _ _ _ (@bc _ _ _ _ _ _ _ _ _ _ _ _ _ _ _ hLmade GLmade (hr.mono (by decide)) ((¬1)∘ab) (by rfl) (by decide) (by rfl) (by rfl)) (@mO _ _ _ _ _ _ _ _ rfl rfl (@cW _ _ _ _ _ _ _ _ (@aB _ _ _ 3 _ nd rfl (Or.inl rfl) (by trivial)) (@cW _ _ _ _ _ _ _ _ (@aB _ _ _ 4 _ nd rfl (Or.inl rfl) (by trivial)) (@kd _ _) (by rfl)) (by rfl)) (ec (ec mz)) (by rfl) (by rfl)) (by rfl) (by rfl) (by rfl))
      (@af _ _ _ _ _ _ _ _ (@pA _ _ _ _ _ _ _ _ (¬4) (@mO _ _ _ _ _ _ _ _ rfl rfl (@cW _ _ _ _ _ _ _ _ (@aB _ _ _ 5 _ nd rfl (Or.inr rfl) (by trivial)) (@cW _ _ _ _ _ _ _ _ (@aB _ _ _ 6 _ nd rfl (Or.inr rfl) (by trivial)) (@kd _ _) (by rfl)) (by rfl)) (ec (ec mz)) (by rfl) (by rfl)) (by rfl) (by rfl) (by rfl))
      (@af _ _ _ _ _ _ _ _ (@aD _ _ _ _ _ 7 _ _ nd rfl (Or.inl rfl) (@bo _ _ _ _ _ ((¬4)∘((@aO _ _ _ _ _ _ _ _ _ (@b_list _ _ rfl) (by rfl) T.b_list ((¬4)∘ab) (by decide) (by decide) (by rfl) (by rfl))∘((@aF _ _ _ _ _ _ _ rfl (¬4) (@ap _ _ _ _ _ _ ((@ap _ _ _ _ _ _ ab)∘ab)))∘((@ap _ _ _ _ _ _ ((¬6)∘((¬5)∘ab)))∘((@bE _ _ _ _ _ _ _ _ _ _ rfl (¬4) (@bF _ _) (@bG _ _ _ _ ae))∘((@bc _ _ _ _ _ _ _ _ _ _ _ _ _ _ _ hLodd GLodd (hr.mono (by decide)) ((@bc _ _ _ _ _ _ _ _ _ _ _ _ _ _ _ hLnext GLnext (hr.mono (by decide)) ((¬1)∘ab) (by rfl) (by decide) (by rfl) (by rfl))∘ab) (by rfl) (by decide) (by rfl) (by rfl))∘ab))))))) (by rfl) (by trivial))
      (@af _ _ _ _ _ _ _ _ (@aD _ _ _ _ _ 7 _ _ nd rfl (Or.inl rfl) (@aF _ _ _ _ _ _ _ rfl (¬7) (@g_ _ _ _ _ _ _ _ _ _ _ _ _ _ (aj jj) ["_law_script","_law_numbers","_law_turn","_law_web","_law_paper","_law_pairing","_law_prices","_law_things","_law_thing"] [(5,"_law_pairing")] ["_law_one"] rfl rfl rfl (@cy _ _ _ _ _ rfl (@bc _ _ _ _ _ _ _ _ _ _ _ _ _ _ _ hLbent_prices GLbent_prices (hr.mono (by decide)) ((¬1)∘((¬6)∘ab)) (by rfl) (by decide) (by rfl) (by rfl)))
        (fun C s0 H0 fp=>(@aB _ _ _ 1 _ (show List.Nodup (["_law_pairing","_law_one"]:List Str) by decide+kernel) rfl (Or.inl rfl) (by trivial))) (fun C s0 H0 fp=>(@eJ _ _))
        (fun C s0 H0 fp=>(@ap _ _ _ _ _ _ ((¬0)∘((¬1)∘ab)))) rfl (by decide+kernel) (by decide+kernel) (by decide+kernel) (by decide+kernel) (by decide+kernel) (by decide+kernel) (by decide+kernel) (by intro _;rfl))) (by rfl) (by trivial))
      (@af _ _ _ _ _ _ _ _ (@aD _ _ _ _ _ 7 _ _ nd rfl (Or.inl rfl) (@aF _ _ _ _ _ _ _ rfl (¬7) (@g_ _ _ _ _ _ _ _ _ _ _ _ _ _ (aj jj) ["_law_script","_law_numbers","_law_turn","_law_web","_law_paper","_law_pairing","_law_prices","_law_things","_law_thing"] [(6,"_law_prices")] ["_law_one"] rfl rfl rfl (@cy _ _ _ _ _ rfl (@bc _ _ _ _ _ _ _ _ _ _ _ _ _ _ _ hLbent_pairing GLbent_pairing (hr.mono (by decide)) ((¬1)∘((¬3)∘((¬5)∘ab))) (by rfl) (by decide) (by rfl) (by rfl)))
        (fun C s0 H0 fp=>(@aB _ _ _ 1 _ (show List.Nodup (["_law_prices","_law_one"]:List Str) by decide+kernel) rfl (Or.inl rfl) (by trivial))) (fun C s0 H0 fp=>(@eJ _ _))
        (fun C s0 H0 fp=>(@ap _ _ _ _ _ _ ((¬1)∘((¬0)∘ab)))) rfl (by decide+kernel) (by decide+kernel) (by decide+kernel) (by decide+kernel) (by decide+kernel) (by decide+kernel) (by decide+kernel) (by intro _;rfl))) (by rfl) (by trivial))
      (@af _ _ _ _ _ _ _ _ (@di _ _ _ _ _ (@b5 _ _ _ _ _ _ _ _ _ rfl (¬7) ((@ap _ _ _ _ _ _ ((@bc _ _ _ _ _ _ _ _ _ _ _ _ _ _ _ hLodd GLodd (hr.mono (by decide)) ((@bc _ _ _ _ _ _ _ _ _ _ _ _ _ _ _ hLnext GLnext (hr.mono (by decide)) ((¬1)∘ab) (by rfl) (by decide) (by rfl) (by rfl))∘ab) (by rfl) (by decide) (by rfl) (by rfl))∘((@bc _ _ _ _ _ _ _ _ _ _ _ _ _ _ _ hLodd GLodd (hr.mono (by decide)) ((@bc _ _ _ _ _ _ _ _ _ _ _ _ _ _ _ hLnext GLnext (hr.mono (by decide)) ((¬1)∘ab) (by rfl) (by decide) (by rfl) (by rfl))∘ab) (by rfl) (by decide) (by rfl) (by rfl))∘ab)))∘ab) (by rfl) (by rfl) (by rfl) (by rfl) (by rfl)) (by rfl))
      (@am _ _ _ _ _ (@eZ _ _ _ _ _ _ _ _ _ _ _ PassesOwn.never rfl (@cy _ _ _ _ _ rfl (¬7)) (@aB _ _ _ 8 _ nd rfl (Or.inl rfl) (by trivial))
      (@am _ _ _ _ _ (@ci _ _ _ _ _ _ _ _ _ _ _ (@d8 _ _ _ _ _ (@dk _ _ _ _ (@bc _ _ _ _ _ _ _ _ _ _ _ _ _ _ _ hLsays GLsays (hr.mono (by decide)) ((@bc _ _ _ _ _ _ _ _ _ _ _ _ _ _ _ h_heaviest_holds G_heaviest_holds (hr.mono (by decide)) ((¬3)∘((¬8)∘ab)) (by rfl) (by decide) (by rfl) (by rfl))∘((@bc _ _ _ _ _ _ _ _ _ _ _ _ _ _ _ hLis_heaviest GLis_heaviest (hr.mono (by decide)) ((¬3)∘((¬8)∘ab)) (by rfl) (by decide) (by rfl) (by rfl))∘ab)) (by rfl) (by decide) (by rfl) (by rfl)) (by intro _;rfl)))
      (@am _ _ _ _ _ (@aA _ _ _ _ _ (@bO _ _ _ _ _)))
      (@aT _ _))) (by intro _;rfl))))))))) (by intro _;rfl))
      (@am _ _ _ _ _ (@aA _ _ _ _ _ (@iA _ _ _ _ _ _ _ _ _ (@xP _ _) (@bc _ _ _ _ _ _ _ _ _ _ _ _ _ _ _ h_heaviest_holds G_heaviest_holds (hr.mono (by decide)) ((@ap _ _ _ _ _ _ (ae∘((@ap _ _ _ _ _ _ ab)∘((@ap _ _ _ _ _ _ ab)∘(ae∘ab)))))∘((@ap _ _ _ _ _ _ ((@ap _ _ _ _ _ _ ab)∘((@ap _ _ _ _ _ _ ab)∘ab)))∘ab)) (by rfl) (by decide) (by rfl) (by rfl)) (@bO _ _ _ _ _) (aR _)))))))
local macro_rules | `(tactic| simp? [$ts,*]) => `(tactic| simp [$ts,*, jF, nY, aw, gD, bH, dm, ba, dU, pD, uu, wk, aG, ar, js, ac, vC, dN, ag, aa, aP, ay, dO, oG, rV, gF, C4, iD, BC, lX, j_, cx, cg, b_, be, Aw, gU, i6, km, eR, bL, vd, rK, iw, bi, ah, gx, dy, aH, bj, yr, fq, a8, kr, eF, qd, qb, p9, p8, nF, nE, nI, lJ, ny, xo, qa, sI, xp, sM, qc, sJ, sL, nO, nM, lK, nP, xq, l5, l6, rX, rY, wZ, lF, lE, gO, p_, List.replicate, -List.map_nil, -List.map_cons, -List.nil_append, -List.cons_append, -Option.bind_some, -Option.map_some, -getElem?_pos, -List.append_nil, xj, xi, xc, xb, xg, xh, xf, xk])
theorem oM{n k:Int}(h:0 < k):0≤n % k:=Int.emod_nonneg _ (Int.ne_of_gt h)
theorem oO{n k:Int}(h:0 < k):n % k < k:=Int.emod_lt_of_pos _ h
def nx:List Int→Int
  | []=>0
  | d::_=>d
def iH(ds:List Int):Prop:=∀d∈ds,0≤d∧d < 2147483648
theorem xB{ds:List Int}(h:iH ds):0≤nx ds∧nx ds < 2147483648:=by
  cases ds with
  | nil=>exact⟨Int.le_refl 0,by show(0:Int) < 2147483648;decide⟩
  | cons d r=>exact h d (by simp)
theorem Bz{ds:List Int}(h:iH ds):iH ds.tail:=fun d hd=>h d (List.mem_of_mem_tail hd)
theorem zE(ds:List Int):aN [.l (ds.map .int)]=some (.d (.int (nx ds)),[.l (ds.tail.map .int)]):=by
  have hq:∀e:En,e[0]?=some (some (.l (ds.map .int)))→cv false e (.s 0) (.l [])=some (.d (.bool (ds.map PyData.int).isEmpty)):=fun e he=>nD he (oy ds).1
  cases ds with
  | nil=>simp? [aN,oU,hq,nx]
  | cons d r=>simp? [aN,oU,hq,nx]
theorem fj{ds:List Int}(hd:iH ds):∃(n:Int) (ds':List Int),aN [.l (ds.map .int)]=some (.d (.int n),[.l (ds'.map .int)])∧0≤n∧n < 2147483648∧iH ds':=⟨nx ds,ds.tail,zE ds,(xB hd).1,(xB hd).2,Bz hd⟩
theorem qH(cell k:Int)(h0:0≤k)(h1:k≤1000):∃r,ik [.d (.int cell),.d (.int k)]=some (.d (.int r),[.d (.int cell),.d (.int k)])∧0≤r∧r < 2147483648:=by
  have a1:jG (cell % 2147483647) 48271=true:=pe (by decide) (by decide)
  have a2:jG 7919 k=true:=tw (by decide) (by decide)
  have a3:jG (7919*k) k=true:=pe (by lia) (by lia)
  have a4:jG ((cell % 2147483647*48271+7919*k*k+104729) % 2147483647) ((cell % 2147483647*48271+7919*k*k+104729) % 2147483647)=true:=pe (by lia) (by lia)
  refine⟨_,by simp? [ik,pS,az,nH,a1,a2,a3,a4];rfl,?_,?_⟩
  · lia
  · lia
theorem mn{ds:List Int}(h:iH ds){r:Int}(h0:0≤r)(h1:r < 2147483648):iH (ds++[r]):=fun d hd=>by
  rcases List.mem_append.mp hd with hd | hd
  · exact h d hd
  · simp at hd;subst hd;exact⟨h0,h1⟩
abbrev dE(ns ds:List Int)(v2 v3 v4:Option Sv):En:=[some (.d (.list (ns.map .int))),some (.l (ds.map .int)),v2,v3,v4]
inductive DI (ns:List Int) (i:Nat):En→Prop
  | mk {ds v2 v3 v4} (hd:iH ds) (hl:ds.length≤1000*i):DI ns i (dE ns ds v2 v3 v4)
inductive DJ (ns:List Int) (k cell:Int) (n i:Nat):En→Prop
  | mk {ds v4} (hd:iH ds) (hl:ds.length=n+i):DJ ns k cell n i (dE ns ds (some (.d (.int k))) (some (.d (.int cell))) v4)
inductive DW (ns:List Int) (k:Int) (v4:Option Sv) (n:Nat):En→Prop
  | mk {cell ds} (hc:0≤cell) (hd:iH ds) (hl:ds.length≤max n 900):DW ns k v4 n (dE ns ds (some (.d (.int k))) (some (.d (.int cell))) v4)
theorem wD(ns:List Int)(hn:ns.length≤63):∃ds,jc [.d (.list (ns.map .int))]=some (.l (ds.map .int),[.d (.list (ns.map .int))])∧iH ds:=by
  have inner:∀(cell k:Int) (ds:List Int) (v4:Option Sv),0≤k→k≤63→iH ds→ds.length≤63000→∃ds' v4',(∀W,dS W ii (ah 4) fN (dE ns ds (some (.d (.int k))) (some (.d (.int cell))) v4)=some (.nx (dE ns ds' (some (.d (.int k))) (some (.d (.int cell))) v4')))∧iH ds'∧ds'.length=ds.length+12:=by
    intro cell k ds v4 k0 k1 hd hl
    obtain⟨e',h1,h2⟩:=cU (own:=[]) (g:=ah 4) (f:=fN) (DJ ns k cell ds.length) (bK 0 12) 0 (dE ns ds (some (.d (.int k))) (some (.d (.int cell))) v4) (fun i x e hx hI=>by
      obtain⟨rfl,hi⟩:=gk hx
      obtain⟨hd',hl'⟩:=hI
      rename_i ds' v4'
      obtain⟨r1,c1,_,_⟩:=qH cell (3*(0+(i:Int))+1) (by lia) (by lia)
      obtain⟨r2,c2,c3,c4⟩:=qH r1 (0+(i:Int)+k+2) (by lia) (by lia)
      have a1:jG 3 (0+(i:Int))=true:=tw (by decide) (by decide)
      refine⟨_,dE ns (ds'++[r2]) (some (.d (.int k))) (some (.d (.int cell))) (some (.d (.int (0+(i:Int))))),rfl,?_,dq,.mk (mn hd' c3 c4) (by simp;lia)⟩
      have hlen:ds'.length < 1000000:=by lia
      simp only [Int.zero_add] at a1 c1 c2
      simp? [dE,fN,c1,c2,nH,a1,hlen]) (.mk hd rfl)
    obtain⟨hd',hl'⟩:=h2
    rename_i ds' v4'
    rw [e_] at hl'
    refine⟨ds',v4',fun W=>?_,hd',by lia⟩
    rw [fD (show ii _=some (bK 0 12,[],_) from dY (n:=12) rfl (by decide) (by decide))]
    exact h1
  have wh:∀(cell k:Int) (ds:List Int) (v4:Option Sv),0≤cell→iH ds→ds.length≤63100→∃cell' ds',kX (2 ^ 4200) eM ib (dE ns ds (some (.d (.int k))) (some (.d (.int cell))) v4)=some (.nx (dE ns ds' (some (.d (.int k))) (some (.d (.int cell'))) v4))∧0≤cell'∧iH ds'∧ds'.length≤max ds.length 900:=by
    intro cell k ds v4 hc hd hl
    have tst:∀(cell:Int) (ds:List Int),eM (dE ns ds (some (.d (.int k))) (some (.d (.int cell))) v4)=some (decide (1000000000000000000≤cell)&&decide ((ds.length:Int) < 900),dE ns ds (some (.d (.int k))) (some (.d (.int cell))) v4):=by
      intro cell ds
      by_cases h:(1000000000000000000:Int)≤cell
      · simp? [dE,eM,gQ,je,h]
      · simp? [dE,eM,gQ,je,h]
    obtain⟨e0,e',h1,hI,h3⟩:=k9 (ft:=eM) (f:=ib) (DW ns k v4 ds.length)
      (fun e=>1000000 - xw 1 e) (fun e hI=>by
        obtain⟨hc',hd',hl'⟩:=hI
        rename_i cell' ds'
        rw [tst]
        by_cases c1:(1000000000000000000:Int)≤cell'
        · by_cases c2:(ds'.length:Int) < 900
          · refine .inr ⟨_,dE ns (ds'++[cell' % 2147483629]) (some (.d (.int k))) (some (.d (.int (cell' / 2147483629)))) v4,by rw [decide_eq_true c1,decide_eq_true c2];rfl,?_,.mk (by lia) (mn hd' (by lia) (by lia)) (by simp;lia),?_⟩
            · have hlen:ds'.length < 1000000:=by lia
              have b8:Bt 8000 2147483629:=ma (by decide) (by decide)
              simp? [dE,ib,az,ig,b8,hlen]
            · simp [xw,dE];lia
          · exact .inl ⟨_,by rw [decide_eq_true c1,decide_eq_false c2];rfl,trivial⟩
        · exact .inl ⟨_,by rw [decide_eq_false c1];rfl,trivial⟩) (2 ^ 4200) _ (.mk hc hd (by lia)) (qm (m:=20) (Nat.lt_of_le_of_lt (Nat.sub_le _ _) (by decide)) (by decide))
    obtain⟨hc',hd',hl'⟩:=hI
    rename_i cell' ds'
    rw [tst] at h3
    have h4:=(Prod.mk.inj (Option.some.inj h3)).2
    subst h4
    exact⟨cell',ds',h1,hc',hd',hl'⟩
  have turn:∀(i:Nat) (ds:List Int) (v3 v4:Option Sv) (hi:i < ns.length),iH ds→ds.length≤1000*i→∃ds2 v3' v4',eK (dE ns ds (some (.d (.int (i:Int)))) v3 v4)=some (.nx (dE ns ds2 (some (.d (.int (i:Int)))) v3' v4'))∧iH ds2∧ds2.length≤1000*(i+1):=by
    intro i ds v3 v4 hi hd hl
    have hcell:atI (ns.map PyData.int) (i:Int)=some (.int ns[i]):=by
      rw [gG (by lia) (by rw [List.length_map];lia)]
      simp [hi]
    have c0:(0:Int)≤(ns[i].natAbs:Int):=by lia
    have st:ba 3 (ay (g1 qV) (aa (ar cO (ac 0) (ac 2)) ag)) (dE ns ds (some (.d (.int (i:Int)))) v3 v4)=some (.nx (dE ns ds (some (.d (.int (i:Int)))) (some (.d (.int (ns[i].natAbs:Int)))) v4)):=by
      simp? [dE,hcell]
    generalize (ns[i].natAbs:Int)=cell at c0 st
    have mid:∃ds1 v4',gD (aG (ar uM (ac 3) (ar my (vC (.int 10)) (vC (.int 18))))) (dS ([4]++[]) ii (ah 4) fN) dm (dE ns ds (some (.d (.int (i:Int)))) (some (.d (.int cell))) v4)=some (.nx (dE ns ds1 (some (.d (.int (i:Int)))) (some (.d (.int cell))) v4'))∧iH ds1∧ds1.length≤ds.length+12:=by
      by_cases cb:cell < 1000000000000000000
      · obtain⟨ds1,v4',f1,f2,f3⟩:=inner cell (i:Int) ds v4 (by lia) (by lia) hd (by lia)
        refine⟨ds1,v4',?_,f2,by lia⟩
        rw [Bh (e1:=dE ns ds (some (.d (.int (i:Int)))) (some (.d (.int cell))) v4) (by simp? [dE,gQ,je,cb])]
        exact f1 _
      · refine⟨ds,v4,?_,hd,by lia⟩
        rw [Bg (e1:=dE ns ds (some (.d (.int (i:Int)))) (some (.d (.int cell))) v4) (by simp? [dE,gQ,je,cb])]
        rfl
    obtain⟨ds1,v4',m1,m2,m3⟩:=mid
    obtain⟨cell2,ds2,w1,w2,w3,w4⟩:=wh cell (i:Int) ds1 v4' c0 m2 (by lia)
    by_cases c2:(2147483629:Int)≤cell2
    · refine⟨ds2++[cell2 % 2147483629],some (.d (.int cell2)),v4',?_,mn w3 (by lia) (by lia),by simp;lia⟩
      have hlen:ds2.length < 1000000:=by lia
      unfold eK
      rw [aC st,aC m1,aC w1]
      simp? [dE,c2,az,hlen]
    · refine⟨ds2,some (.d (.int cell2)),v4',?_,w3,by lia⟩
      unfold eK
      rw [aC st,aC m1,aC w1]
      simp? [dE,c2]
  obtain⟨e',h1,hI⟩:=cU (own:=[]) (g:=ah 2) (f:=eK) (DI ns) (bK 0 (min (ns.length:Int) 63).toNat) 0 (dE ns [] none none none) (fun i x e hx hI=>by
    obtain⟨rfl,hi⟩:=gk hx
    obtain⟨hd,hl⟩:=hI
    rename_i ds v2 v3 v4
    rw [Nat.zero_add] at hl ⊢
    obtain⟨ds2,v3',v4',t1,t2,t3⟩:=turn i ds v3 v4 (by lia) hd hl
    exact⟨dE ns ds (some (.d (.int (i:Int)))) v3 v4,_,by simp [ah,dE],t1,dq,.mk t2 t3⟩) (.mk (fun d hd=>by cases hd) (by simp))
  obtain⟨hd,hl⟩:=hI
  rename_i ds v2 v3 v4
  refine⟨ds,?_,hd⟩
  have hf:∀W,dS W jC (ah 2) eK (dE ns [] none none none)=some (.nx (dE ns ds v2 v3 v4)):=fun W=>by
    rw [fD (show jC _=some (bK 0 (min (ns.length:Int) 63).toNat,[],dE ns [] none none none) from dY (n:=min (ns.length:Int) 63) (by simp? [dE]) (by lia) (by lia))]
    exact h1
  unfold dE at hf
  simp only [List.map_nil] at hf
  simp? [jc,pR,hf]
theorem By(a b:Int)(hb:Bt 4000 b):nV [.d (.int a),.d (.int b)]=some (.d (.int (Int.gcd a b)),[.d (.int a),.d (.int b)]):=by
  have tst:∀x y:Int,iW [some (.d (.int x)),some (.d (.int y))]=some (!(y==0),[some (.d (.int x)),some (.d (.int y))]):=fun x y=>by simp? [iW]
  obtain⟨e0,e',h1,⟨x,y,he,hg,hy⟩,h3⟩:=k9 (ft:=iW) (f:=kb) (fun e=>∃x y,e=[some (.d (.int x)),some (.d (.int y))]∧Int.gcd x y=Int.gcd a b∧Bt 4000 y) (tD 1) (fun e ⟨x,y,he,hg,hy⟩=>by
    subst he
    rw [tst]
    by_cases c:y=0
    · subst c;exact .inl ⟨_,rfl,trivial⟩
    · refine .inr ⟨_,[some (.d (.int y)),some (.d (.int (x.fmod y)))],by rw [beq_false_of_ne c];rfl,by simp? [kb,xZ c],⟨y,x.fmod y,rfl,by rw [sQ,hg],?_⟩,?_⟩
      · have:=jZ x c
        exact Bt.of_le hy (by lia)
      · have:=jZ x c
        simpa [tD] using this) (2 ^ 4200) _ ⟨a,b,rfl,rfl,hb⟩ (qm (m:=4000) (by simpa [tD,Bt] using hb) (by decide))
  subst he
  rw [tst] at h3
  have h4:=Prod.mk.inj (Option.some.inj h3)
  have hy0:y=0:=by simpa using h4.1
  subst hy0
  have h5:=h4.2
  subst h5
  have hs:kX (2 ^ 4200) iW kb [some (.d (.int a)),some (.d (.int b))]=some (.nx [some (.d (.int x)),some (.d (.int 0))]):=h1
  have hg':(x.natAbs:Int)=(Int.gcd a b:Int):=by rw [←hg];simp
  simp only [nV,wR,jF,nY,aw,gD,bH,dm,ba,dU,pD,uu,wk,aG,ar,js,ac,vC,dN,ag,aa,aP,ay,dO,oG,rV,gF,C4,iD,BC,lX,j_,cx,cg,b_,be,Aw,gU,i6,km,eR,bL,vd,rK,iw,bi,ah,gx,dy,aH,bj,yr,fq,a8,kr,eF,qd,qb,p9,p8,nF,nE,nI,lJ,ny,xo,qa,sI,xp,sM,qc,sJ,sL,nO,nM,lK,nP,xq,l5,l6,rX,rY,wZ,lF,lE,gO,p_,List.replicate, -List.map_nil, -List.map_cons, -List.nil_append, -List.cons_append, -Option.bind_some, -Option.map_some, -getElem?_pos, -List.append_nil,xj,xi,xc,xb,xg,xh,xf,xk]
  simp? [hs,hg']
theorem xG(t b:Int)(hb:0 < b)(h:Bt 4000 b):lO [.d (.int t),.d (.int b)]=some (.d (.tuple [.int (eA t b).1,.int (eA t b).2]),[.d (.int t),.d (.int b)]):=by
  have g0:=qg (t:=t) (b:=b) (by lia)
  have g1:(Int.gcd t b:Int)≠0:=by lia
  have g8:Bt 8000 (Int.gcd t b:Int):=(x8 (t:=t) (by lia) h).mono (by decide)
  have e:eA t b=(t.fdiv (Int.gcd t b:Int),b.fdiv (Int.gcd t b:Int)):=by unfold eA;rw [if_neg (by lia)]
  rw [e]
  simp? [lO,wU,By t b h,vg g1 g8]
theorem wX{i:Int}{n:Nat}(h1: -2147483648 < i)(h2:i < 2147483648)(hn:31≤n):Bt n i:=Bt.mono (m:=31) (by unfold Bt;lia) hn
def sq(t b:Int):Prop:=0≤t∧t≤b∧1≤b∧b≤100∧Int.gcd t b=1
theorem oE(n k:Int)(hn:0≤n):∃t b,dG [.d (.int n),.d (.int k)]=some (.d (.tuple [.int t,.int b]),[.d (.int n),.d (.int k)])∧sq t b:=by
  have b9:Bt 8000 9:=ma (by decide) (by decide)
  have b100:Bt 8000 100:=ma (by decide) (by decide)
  have low:∀t b:Int,0 < b→0≤t→t≤b→b≤100→sq (eA t b).1 (eA t b).2:=fun t b hb h0 h1 h2=>by
    obtain⟨r1,r2,r3,r4⟩:=pb hb h0 h1 h2
    exact⟨r1,r2,r3,r4,tq (by lia)⟩
  by_cases c0:k=0
  · subst c0
    obtain⟨x,hx,ha⟩:=l8 (xs:=[PyData.tuple [.int 1,.int 2],.tuple [.int 1,.int 3],.tuple [.int 2,.int 3],.tuple [.int 1,.int 1],.tuple [.int 0,.int 1],.tuple [.int 3,.int 4]]) (i:=n % 6) (by lia) (by simp;lia)
    obtain⟨t,b,rfl,hc⟩:∃t b,x=.tuple [.int t,.int b]∧sq t b:=by
      simp only [List.mem_cons,List.not_mem_nil,or_false] at hx
      rcases hx with rfl | rfl | rfl | rfl | rfl | rfl<;>exact⟨_,_,rfl,by unfold sq;decide⟩
    exact⟨t,b,by simp? [dG,gH,az,ha],hc⟩
  · by_cases c1:k=1
    · subst c1
      have hm:(n / 9) % (2+n % 9 - 1) < 2+n % 9 - 1:=Int.emod_lt_of_pos _ (by lia)
      have hm0:0≤(n / 9) % (2+n % 9 - 1):=Int.emod_nonneg _ (by lia)
      refine⟨_,_,?_,low (1+(n / 9) % (2+n % 9 - 1)) (2+n % 9) (by lia) (by lia) (by lia) (by lia)⟩
      have hpos:∀e:En,aZ e (.d (.int (n / 9))) (.d (.int (2+n % 9 - 1)))=_:=fun e=>az (by lia)
      have hl:=xG (1+(n / 9) % (2+n % 9 - 1)) (2+n % 9) (by lia) (wX (by lia) (by lia) (by decide))
      simp? [dG,gH,az,ig,b9,hpos,hl]
    · by_cases c2:k=2
      · subst c2
        have hm:(n / 100) % (1+n % 100+1) < 1+n % 100+1:=Int.emod_lt_of_pos _ (by lia)
        have hm0:0≤(n / 100) % (1+n % 100+1):=Int.emod_nonneg _ (by lia)
        refine⟨_,_,?_,low ((n / 100) % (1+n % 100+1)) (1+n % 100) (by lia) (by lia) (by lia) (by lia)⟩
        have hpos:∀e:En,aZ e (.d (.int (n / 100))) (.d (.int (1+n % 100+1)))=_:=fun e=>az (by lia)
        have hl:=xG ((n / 100) % (1+n % 100+1)) (1+n % 100) (by lia) (wX (by lia) (by lia) (by decide))
        simp? [dG,gH,az,ig,b100,hpos,hl]
      · refine⟨1,1,?_,by unfold sq;decide⟩
        simp? [dG,gH,c0,c1,c2]
def vn:PyData→Bool
  | .int _=>true
  | .bool _=>true
  | _=>false
def vm:PyData→Bool
  | .bool _=>true
  | _=>false
def nQ:PyData→Bool
  | .tuple _=>true
  | _=>false
theorem xn{e:En}{d:PyData}:iJ "int" e (.d d)=some (.d (.bool (vn d))):=by cases d<;>rfl
theorem Ah{e:En}{d:PyData}:iJ "bool" e (.d d)=some (.d (.bool (vm d))):=by cases d<;>rfl
theorem nL{e:En}{d:PyData}:iJ "tuple" e (.d d)=some (.d (.bool (nQ d))):=by cases d<;>rfl
theorem jb{d:PyData}(h:nQ d=true):∃ds,d=.tuple ds:=by cases d<;>first | exact⟨_,rfl⟩ | cases h
theorem sV(d:PyData):sU d=(vn d&& !vm d):=by cases d<;>rfl
theorem uF(d:PyData):cw [.d d]=some (.d (.bool (sU d)),[.d d]):=by
  rw [sV]
  have g1:=fun e=>xn (e:=e) (d:=d)
  have g2:=fun e=>Ah (e:=e) (d:=d)
  generalize vn d=a at*
  generalize vm d=b at*
  cases a<;>simp? [cw,jV,g1,g2]
def yt:List PyData:=[.none,.bool true,.bool false,.int 0,.int 1,.int (-1),.int 5,.str "",.str "a",.str "0",.tuple [],.tuple [.int 0],.tuple [.int 0,.int 1],.tuple [.tuple [],.tuple []],.list [],.list [.int 0],.dict [],.dict [(.int 0,.int 1)],.tuple [.none],.tuple [.tuple []],.list [.tuple []],.tuple [.bool true,.bool false],.tuple [.tuple [.int 0,.int 1],.tuple [.int 1,.int 2]],.tuple [.tuple [.tuple [],.tuple []]],.tuple [.str "a",.int 1],.tuple [.tuple [.int 0,.int 1]],.int (10 ^ 30)]
theorem uG(n:Int):∃d∈yt,kB [.d (.int n)]=some (.d d,[.d (.int n)]):=by
  have m0:0≤n % 27:=Int.emod_nonneg _ (by decide)
  have m1:n % 27 < 27:=Int.emod_lt_of_pos _ (by decide)
  obtain⟨d,hd,ha⟩:=l8 (xs:=yt) m0 (by show n % 27 < 27;exact m1)
  have gm:∀e,aZ e (.d (.int n)) (.d (.int 27))=some (.d (.int (n % 27))):=fun e=>az (by decide)
  have gp:∀e,my e (.d (.int 10)) (.d (.int 30))=some (.d (.int (10 ^ 30))):=fun e=>gQ (i:=10) (j:=30) (by decide)
  refine⟨d,hd,?_⟩
  generalize n % 27=k at*
  generalize hb:(10 ^ 30:Int)=big at*
  rw [show yt=[.none,.bool true,.bool false,.int 0,.int 1,.int (-1),.int 5,.str "",.str "a",.str "0",.tuple [],.tuple [.int 0],.tuple [.int 0,.int 1],.tuple [.tuple [],.tuple []],.list [],.list [.int 0],.dict [],.dict [(.int 0,.int 1)],.tuple [.none],.tuple [.tuple []],.list [.tuple []],.tuple [.bool true,.bool false],.tuple [.tuple [.int 0,.int 1],.tuple [.int 1,.int 2]],.tuple [.tuple [.tuple [],.tuple []]],.tuple [.str "a",.int 1],.tuple [.tuple [.int 0,.int 1]],.int big] by rw [←hb];rfl] at ha
  have gc:∀(e:En) (xs ys:List PyData),e[1]?=some (some (.l xs))→xs.length+ys.length≤1000000→aK e (.s 1) (.l ys)=some (.l (xs++ys)):=fun e xs ys he h=>mv he h
  simp? [kB,wV,gm,gp,gc,ha,jr]
theorem zF(a b:Bool):kD [.d (.bool a),.d (.bool b)]=some (.d (.bool (a==b)),[.d (.bool a),.d (.bool b)]):=by
  have gi:∀(e:En) (x y:Bool),xW e (.d (.bool x)) (.d (.bool y))=some (.d (.bool (x==y))):=fun e x y=>rfl
  cases a<;>cases b<;>simp? [kD,rZ,gi]
theorem rE(d:PyData)(lo hi:Int):aQ [.d d,.d (.int lo),.d (.int hi)]=some (.d (.bool (fB lo hi d)),[.d d,.d (.int lo),.d (.int hi)]):=by
  have t:=uF d
  cases d with
  | int i=>
    by_cases c:lo≤i
    · simp? [aQ,bS,t,sU,fB,ia,c]
    · simp? [aQ,bS,t,sU,fB,ia,c]
  | _=>simp? [aQ,bS,t,sU,fB,ia]
theorem lW(d:PyData)(n:Int):bR [.d d,.d (.int n)]=some (.d (.bool (iM n d)),[.d d,.d (.int n)]):=by
  have g:=fun e=>nL (e:=e) (d:=d)
  cases c:nQ d with
  | false=>
    rw [c] at g
    have e:iM n d=false:=by cases d<;>first | rfl | cases c
    rw [e]
    simp? [bR,gM,g]
  | true=>
    rw [c] at g
    obtain⟨ds,rfl⟩:=jb c
    simp? [bR,gM,g,iM]
theorem oF{W:cf}{k:Int}(hk:pO W k):ek [.d (aU W),.d (.int k)]=some (.d (.tuple [.int (W.tie k).one,.int (W.tie k).other]),[.d (aU W),.d (.int k)]):=by
  rw [i3]
  simp? [ek,jW,iU hk,aY]
theorem CM{W:cf}(e:En):cO e (.d (aU W)) (.d (.int 0))=some (.d (.int W.things)):=by rw [i3,qa,l5];rfl
theorem Ak{W:cf}(e:En):cO e (.d (aU W)) (.d (.int 1))=some (.d (.tuple (W.ties.map aY))):=by rw [i3,qa,l6];rfl
theorem kf{W:cf}{x:PyData}(h:x∈W.ties.map aY):∃t∈W.ties,x=aY t:=by
  obtain⟨t,ht,rfl⟩:=List.mem_map.mp h
  exact⟨t,ht,rfl⟩
theorem eN{α:Type}(l:List α):l.filter (fun _=>true)=l:=List.filter_eq_self.mpr fun _ _=>rfl
theorem nu{α:Type}(p:α→Bool)(l:List α):(l.filter fun x=> !p x).isEmpty=l.all p:=by
  rw [Bool.eq_iff_iff]
  simp [List.isEmpty_iff,List.filter_eq_nil_iff,List.all_eq_true]
theorem lC:∀(ns:List Int),(ns.all fun i=> !decide (1 < ns.count i))=decide ns.Nodup
  | []=>by simp
  | x::r=>by
    rw [Bool.eq_iff_iff,List.all_eq_true,decide_eq_true_iff,List.nodup_cons]
    have ih:=lC r
    rw [Bool.eq_iff_iff,List.all_eq_true,decide_eq_true_iff] at ih
    rw [←ih]
    constructor
    · intro h
      refine⟨fun hx=>?_,fun y hy=>?_⟩
      · have:=h x (by simp)
        have c:=List.one_le_count_iff.mpr hx
        rw [List.count_cons_self] at this
        simp only [Bool.not_eq_true',decide_eq_false_iff_not] at this
        lia
      · have:=h y (List.mem_cons_of_mem _ hy)
        rw [List.count_cons] at this
        simp only [Bool.not_eq_true',decide_eq_false_iff_not] at this ⊢
        lia
    · rintro⟨h1,h2⟩ y hy
      simp only [Bool.not_eq_true',decide_eq_false_iff_not]
      rcases List.mem_cons.mp hy with rfl | hy
      · rw [List.count_cons_self,List.count_eq_zero.mpr h1];lia
      · have:=h2 y hy
        simp only [Bool.not_eq_true',decide_eq_false_iff_not] at this
        rw [List.count_cons]
        have:(x==y)=false:=by
          rw [beq_eq_false_iff_ne]
          rintro rfl
          exact h1 hy
        rw [this]
        simpa using ‹¬1 < List.count y r›
def dF:PyData→Int
  | .int i=>i
  | _=>0
def mR(many:Int):Int→List PyData→Bool
  | _,[]=>true
  | lo,d::r=>fB lo (many - 1) d&&mR many (dF d+1) r
theorem ij{lo hi:Int}{d:PyData}(h:fB lo hi d=true):∃i,d=.int i∧lo≤i∧i≤hi:=by
  cases d with
  | int i=>exact⟨i,rfl,by simpa [fB] using h⟩
  | _=>cases h
theorem qt{thing:Sv}{many:Int}:∀(ds:List PyData) (lo:Int) (v3:Option Sv),∃w2 w3,iI [] (ah 3) aW ds [some thing,some (.d (.int many)),some (.d (.int lo)),v3]=some (if mR many lo ds=true then .nx [some thing,some (.d (.int many)),w2,w3] else .rt (.d (.bool false)) [some thing,some (.d (.int many)),w2,w3])
  | [],lo,v3=>⟨_,_,rfl⟩
  | x::r,lo,v3=>by
    have t:=rE x lo (many - 1)
    have hg:ah 3 x [some thing,some (.d (.int many)),some (.d (.int lo)),v3]=some [some thing,some (.d (.int many)),some (.d (.int lo)),some (.d x)]:=rfl
    cases c:fB lo (many - 1) x with
    | false=>
      rw [c] at t
      have hb:aW [some thing,some (.d (.int many)),some (.d (.int lo)),some (.d x)]=some (.rt (.d (.bool false)) [some thing,some (.d (.int many)),some (.d (.int lo)),some (.d x)]):=by
        simp? [aW,t]
      refine⟨some (.d (.int lo)),some (.d x),?_⟩
      simp only [iI,hg,Option.bind_some,hb,mR,c,Bool.false_and,Bool.false_eq_true,if_false]
    | true=>
      rw [c] at t
      obtain⟨i,rfl,_,_⟩:=ij c
      have hb:aW [some thing,some (.d (.int many)),some (.d (.int lo)),some (.d (.int i))]=some (.nx [some thing,some (.d (.int many)),some (.d (.int (i+1))),some (.d (.int i))]):=by
        simp? [aW,t]
      obtain⟨w2,w3,ih⟩:=qt (thing:=thing) (many:=many) r (i+1) (some (.d (.int i)))
      refine⟨w2,w3,?_⟩
      simp only [iI,hg,Option.bind_some,hb,mR,c,Bool.true_and,dF]
      rw [if_pos dq]
      exact ih
def BR(many:Int):PyData→Bool
  | .tuple ds=>mR many 0 ds
  | _=>false
theorem rG{d:PyData}{many:Int}:bg [.d d,.d (.int many)]=some (.d (.bool (BR many d)),[.d d,.d (.int many)]):=by
  have gt:=fun e=>nL (e:=e) (d:=d)
  cases c:nQ d with
  | false=>
    rw [c] at gt
    have e:BR many d=false:=by cases d<;>first | rfl | cases c
    rw [e]
    simp? [bg,dc,gt]
  | true=>
    rw [c] at gt
    obtain⟨ds,rfl⟩:=jb c
    obtain⟨w2,w3,hf⟩:=qt (thing:=.d (.tuple ds)) (many:=many) ds 0 none
    have hs:∀Wl,dS Wl dD (ah 3) aW [some (.d (.tuple ds)),some (.d (.int many)),some (.d (.int 0)),none]=some (if mR many 0 ds=true then .nx [some (.d (.tuple ds)),some (.d (.int many)),w2,w3] else .rt (.d (.bool false)) [some (.d (.tuple ds)),some (.d (.int many)),w2,w3]):=fun Wl=>by
      rw [fD (show dD _=_ from jD rfl)]
      exact hf
    rw [show BR many (.tuple ds)=mR many 0 ds from rfl]
    cases c2:mR many 0 ds with
    | false=>
      rw [c2] at hs
      simp only [Bool.false_eq_true,if_false] at hs
      simp? [bg,dc,gt,hs]
    | true=>
      rw [c2] at hs
      simp only [if_true] at hs
      simp? [bg,dc,gt,hs]
theorem jg{many:Int}:∀{ds:List PyData} {lo:Int},mR many lo ds=true→∃ns:List Int,ds=ns.map .int∧ns.Nodup∧∀k∈ns,lo≤k∧k < many
  | [],lo,_=>⟨[],rfl,List.nodup_nil,fun _ h=>by cases h⟩
  | d::r,lo,h=>by
    simp only [mR,Bool.and_eq_true] at h
    obtain⟨i,rfl,h1,h2⟩:=ij h.1
    obtain⟨ns,rfl,nd,hk⟩:=jg h.2
    refine⟨i::ns,rfl,List.nodup_cons.mpr ⟨fun hi=>?_,nd⟩,fun k hk'=>?_⟩
    · have:=hk i hi
      simp only [dF] at this
      lia
    · rcases List.mem_cons.mp hk' with rfl | hk'
      · lia
      · have:=hk k hk'
        simp only [dF] at this
        lia
def eE(W:cf)(ns:List Int):List Int:=ns.flatMap fun k=>[(W.tie k).one,(W.tie k).other]
theorem nt(W:cf)(ns:List Int):(eE W ns).length=2*ns.length:=by
  unfold eE
  induction ns with
  | nil=>rfl
  | cons x r ih=>rw [List.flatMap_cons,List.length_append,ih,List.length_cons];simp;lia
def mY(W:cf):PyData→Bool
  | .tuple ds=>mR (W.ties.length:Int) 0 ds&&decide ((eE W (ds.map dF)).Nodup)
  | _=>false
theorem eY(ns:List Int):(ns.map PyData.int).map dF=ns:=by
  rw [List.map_map]
  exact List.map_id' ns
theorem oZ{e:En}{i:Nat}{ns:List Int}(hi:e[i]?=some (some (.l (ns.map .int))))(h:ns.length≤1000):gb e (.s i)=some (.d (.int (pW ns).length)):=by
  simp [gb,bP,hi,cI,h]
theorem mS{W:cf}(ok:W.Ok){ns:List Int}(nd:ns.Nodup)(hk:∀k∈ns,0≤k∧k < (W.ties.length:Int)):ns.length≤16:=by
  have:=oa W.ties.length ns nd hk
  have:=ok.len
  lia
theorem rF{W:cf}(ok:W.Ok)(d:PyData):cJ [.d (aU W),.d d]=some (.d (.bool (mY W d)),[.d (aU W),.d d]):=by
  have g1':=Ak (W:=W)
  have tr:=rG (d:=d) (many:=(W.ties.length:Int))
  have ql:(((W.ties.map aY).length:Nat):Int)=(W.ties.length:Int):=by simp
  cases c:BR (W.ties.length:Int) d with
  | false=>
    rw [c] at tr
    have e:mY W d=false:=by
      cases d with
      | tuple ds=>simp only [mY,show mR (W.ties.length:Int) 0 ds=false from c,Bool.false_and]
      | _=>rfl
    rw [e]
    generalize W.ties.map aY=TT at*
    simp? [cJ,fZ,g1',ql,tr]
  | true=>
    rw [c] at tr
    cases d with
    | tuple ds=>
      have c':mR (W.ties.length:Int) 0 ds=true:=c
      obtain⟨ns,rfl,nd,hk⟩:=jg c'
      have hl:=mS ok nd hk
      have e:mY W (.tuple (ns.map .int))=decide ((eE W ns).Nodup):=by simp only [mY,c',Bool.true_and,eY]
      rw [e]
      obtain⟨t',ht,hf⟩:=jX (cs:=[some (.d (aU W))]) (g:=ah 1) (ft:=bI) (fi2:=dC) (g2:=ah 2) (ft2:=bI) (fe:=dB) (f:=fun x=>[PyData.int (W.tie (dF x)).one,.int (W.tie (dF x)).other]) 2 (ns.map .int) [none,none] [] rfl (fun x hx=>by simp) (fun x hx t acc ht ha=>by
        obtain⟨k,hk',rfl⟩:=List.mem_map.mp hx
        have tt:=oF (W:=W) (k:=k) (hk k hk')
        rcases t with _ | ⟨a1,_ | ⟨a2,_ | ⟨a3,r⟩⟩⟩
        · simp at ht
        · simp at ht
        · refine⟨[some (.d (aU W)),some (.d (.int k)),a2],[some (.d (aU W)),some (.d (.int k)),a2],[.int (W.tie k).one,.int (W.tie k).other],[some (.d (aU W)),some (.d (.int k)),a2],[some (.d (.int k)),some (.d (.int (W.tie k).other))],rfl,rfl,?_,?_,rfl⟩
          · unfold dC
            refine jD ?_
            simp? [tt]
          · have q1:acc.length < 1000000:=by lia
            have q2:acc.length+1 < 1000000:=by lia
            simp? [cN,ah,dB,km,bI,q1,q2,dF]
        · simp at ht) (by simp;lia)
      have hv:=rM (cp:=[(0,"web")]) (nT:=2) (fi:=gS) (g:=ah 1) (ft:=bI) (fi2:=dC) (g2:=ah 2) (ft2:=bI) (fe:=dB) (e:=[some (.d (aU W)),some (.d (.tuple (ns.map .int))),none]) (cs:=[some (.d (aU W))]) (t:=[none,none]) (t':=t') rfl rfl rfl hf
      rw [List.nil_append,show(ns.map PyData.int).flatMap (fun x=>[PyData.int (W.tie (dF x)).one,.int (W.tie (dF x)).other])=(eE W ns).map .int by
        unfold eE
        rw [List.flatMap_map,List.map_flatMap]
        rfl] at hv
      have he:=nt W ns
      have gs:∀e:En,e[2]?=some (some (.l ((eE W ns).map .int)))→gb e (.s 2)=some (.d (.int (pW (eE W ns)).length)):=fun e h=>oZ h (by lia)
      have ge:∀e:En,cv false e (.d (.int ((pW (eE W ns)).length:Int))) (.d (.int ((eE W ns).length:Int)))=some (.d (.bool (decide (eE W ns).Nodup))):=fun e=>by
        rw [eF]
        refine congrArg (fun z=>some (Rv.d (.bool z))) ?_
        rw [Bool.eq_iff_iff,decide_eq_true_iff,←vb]
        simp
        lia
      have qe:((((eE W ns).map PyData.int).length:Nat):Int)=((eE W ns).length:Int):=by simp
      generalize decide (eE W ns).Nodup=bb at*
      generalize (pW (eE W ns)).length=l1 at*
      generalize (eE W ns).length=l2 at*
      generalize (eE W ns).map PyData.int=EE at*
      generalize ns.map PyData.int=NN at*
      generalize W.ties.map aY=TT at*
      simp? [cJ,fZ,g1',ql,tr,hv,gs,qe,ge]
    | _=>cases c
def BU(ei:En)(o:Option Nat)(s:Option Sv):Option Sv:=match s with
  | some (.l xs)=>match o with
    | some k=>(ei[k]?).join
    | none=>some (.l xs)
  | s=>s
theorem BB{ei:En}{s:Option Sv}:BU ei none s=s:=by rcases s with _ | (_ | _ | _)<;>rfl
theorem qI(d:PyData):gj [.d d]=some (.d (.bool (sU d)),[.d d]):=by
  have q1:=fun e=>xn (e:=e) (d:=d)
  have q2:=fun e=>Ah (e:=e) (d:=d)
  rw [sV]
  generalize vn d=p at*
  generalize vm d=q at*
  cases p<;>cases q<;>simp? [gj,pT,q1,q2]
theorem xA{W:cf}(ok:W.Ok){thing:PyData}:∀(ds:List PyData) (lo:Int) (tk:List Int) (v4:Option Sv),0≤lo→lo≤(W.ties.length:Int)→(tk.length:Int)≤2*lo→∃w2 w3 w4,iI [] (ah 4) aV ds [some (.d (aU W)),some (.d thing),some (.l (tk.map .int)),some (.d (.int (lo - 1))),v4]=some (if mR (W.ties.length:Int) lo ds=true then .nx [some (.d (aU W)),some (.d thing),some (.l ((tk++eE W (ds.map dF)).map .int)),w3,w4] else .rt (.d (.bool false)) [some (.d (aU W)),some (.d thing),w2,w3,w4])
  | [],lo,tk,v4,_,_,_=>⟨none,some (.d (.int (lo - 1))),v4,by
    rw [show mR (W.ties.length:Int) lo []=true from rfl,if_pos rfl,show eE W (([]:List PyData).map dF)=[] from rfl,List.append_nil]
    rfl⟩
  | x::r,lo,tk,v4,h0,h1,hl=>by
    have t:=qI x
    have g1':=Ak (W:=W)
    have ql:(((W.ties.map aY).length:Nat):Int)=(W.ties.length:Int):=by simp
    have hg:ah 4 x [some (.d (aU W)),some (.d thing),some (.l (tk.map .int)),some (.d (.int (lo - 1))),v4]=some [some (.d (aU W)),some (.d thing),some (.l (tk.map .int)),some (.d (.int (lo - 1))),some (.d x)]:=rfl
    have wl:=ok.len
    cases c:fB lo ((W.ties.length:Int) - 1) x with
    | false=>
      have hb:aV [some (.d (aU W)),some (.d thing),some (.l (tk.map .int)),some (.d (.int (lo - 1))),some (.d x)]=some (.rt (.d (.bool false)) [some (.d (aU W)),some (.d thing),some (.l (tk.map .int)),some (.d (.int (lo - 1))),some (.d x)]):=by
        generalize tk.map PyData.int=TK at*
        generalize W.ties.map aY=TT at*
        cases hn:sU x with
        | false=>
          rw [hn] at t
          simp? [aV,t]
        | true=>
          rw [hn] at t
          cases x with
          | int i=>
            by_cases k1:i≤lo - 1
            · simp? [aV,t,k1]
            · have k2:(W.ties.length:Int)≤i:=by
                by_cases q:(W.ties.length:Int)≤i
                · exact q
                · have:fB lo ((W.ties.length:Int) - 1) (.int i)=true:=by
                    simp only [fB,Bool.and_eq_true,decide_eq_true_eq]
                    lia
                  rw [this] at c;cases c
              simp? [aV,t,k1,g1',ql,k2]
          | _=>cases hn
      refine⟨some (.l (tk.map .int)),some (.d (.int (lo - 1))),some (.d x),?_⟩
      simp only [iI,hg,Option.bind_some,hb,mR,c,Bool.false_and,Bool.false_eq_true,if_false]
    | true=>
      obtain⟨i,rfl,i0,i1⟩:=ij c
      have hI:pO W i:=⟨by lia,by lia⟩
      have ai:=iU hI
      have tn:sU (.int i)=true:=rfl
      rw [tn] at t
      have k1:¬i≤lo - 1:=by lia
      have k2:¬(W.ties.length:Int)≤i:=by lia
      have gc:∀(e:En) (xs ys:List PyData),e[2]?=some (some (.l xs))→xs.length+ys.length≤1000000→aK e (.s 2) (.l ys)=some (.l (xs++ys)):=fun e xs ys he h=>mv he h
      have lt:(tk.map PyData.int).length+2≤1000000:=by rw [List.length_map];lia
      have hb:aV [some (.d (aU W)),some (.d thing),some (.l (tk.map .int)),some (.d (.int (lo - 1))),some (.d (.int i))]=some (.nx [some (.d (aU W)),some (.d thing),some (.l ((tk++[(W.tie i).one,(W.tie i).other]).map .int)),some (.d (.int (i+1 - 1))),some (.d (.int i))]):=by
        rw [List.map_append,show i+1 - 1=i by lia]
        simp only [List.map_cons,List.map_nil]
        unfold aY at ai
        generalize tk.map PyData.int=TK at*
        generalize (W.tie i).one=o1 at*
        generalize (W.tie i).other=o2 at*
        unfold aY at g1' ql
        generalize (W.ties.map fun t=>PyData.tuple [.int t.one,.int t.other,.tuple [.int t.top,.int t.bot],.int t.worth])=TT at*
        simp? [aV,t,k1,g1',ql,k2,ai,gc,lt]
      obtain⟨w2,w3,w4,ih⟩:=xA ok (thing:=thing) r (i+1) (tk++[(W.tie i).one,(W.tie i).other]) (some (.d (.int i))) (by lia) (by lia) (by rw [List.length_append];simp;lia)
      refine⟨w2,w3,w4,?_⟩
      simp only [iI,hg,Option.bind_some,hb,mR,c,Bool.true_and,dF]
      rw [if_pos dq,ih,List.map_cons,show eE W (dF (.int i)::r.map dF)=[(W.tie i).one,(W.tie i).other]++eE W (r.map dF) from rfl,List.append_assoc]
def qC(ns:List Int):PyData→Bool
  | .int i=> !decide (1 < ns.count i)
  | _=>false
theorem za(ns:List Int):(ns.map PyData.int).all (qC ns)=decide ns.Nodup:=by
  rw [List.all_map,←lC ns]
  rfl
theorem pJ{W:cf}(ok:W.Ok)(d:PyData):bV [.d (aU W),.d d]=some (.d (.bool (mY W d)),[.d (aU W),.d d]):=by
  have gt:=fun e=>nL (e:=e) (d:=d)
  cases c0:nQ d with
  | false=>
    rw [c0] at gt
    have e:mY W d=false:=by cases d<;>first | rfl | cases c0
    rw [e]
    simp? [bV,eD,gt]
  | true=>
    rw [c0] at gt
    obtain⟨ds,rfl⟩:=jb c0
    obtain⟨w2,w3,w4,hf⟩:=xA ok (thing:=.tuple ds) ds 0 [] none (Int.le_refl _) (by lia) (by simp)
    have hs:∀Wl,dS Wl eV (ah 4) aV [some (.d (aU W)),some (.d (.tuple ds)),some (.l []),some (.d (.int (-1))),none]=some (if mR (W.ties.length:Int) 0 ds=true then .nx [some (.d (aU W)),some (.d (.tuple ds)),some (.l (([]++eE W (ds.map dF)).map .int)),w3,w4] else .rt (.d (.bool false)) [some (.d (aU W)),some (.d (.tuple ds)),w2,w3,w4]):=fun Wl=>by
      rw [fD (show eV _=_ from jD rfl)]
      exact hf
    cases c:mR (W.ties.length:Int) 0 ds with
    | false=>
      rw [c] at hs
      simp only [Bool.false_eq_true,if_false] at hs
      have e:mY W (.tuple ds)=false:=by simp only [mY,c,Bool.false_and]
      rw [e]
      simp? [bV,eD,gt,hs]
    | true=>
      rw [c] at hs
      simp only [if_true,List.nil_append] at hs
      obtain⟨ns,rfl,nd,hk⟩:=jg c
      have hl:=mS ok nd hk
      rw [eY] at hs
      have e:mY W (.tuple (ns.map .int))=decide ((eE W ns).Nodup):=by simp only [mY,c,Bool.true_and,eY]
      rw [e]
      have he:=nt W ns
      generalize eE W ns=E at*
      obtain⟨t5,hf5⟩:=jz (cs:=[some (.l (E.map .int))]) (own:=[(0,E.map .int)]) (fun t p hp=>by simp at hp;subst hp;rfl) (ft:=ck) (fe:=cn) (b:=fun x=> !qC E x) (y:=fun x=>x) (E.map .int) none [] (fun x hx=>by
        obtain⟨i,_,rfl⟩:=List.mem_map.mp hx
        have ei:=cI E
        rw [show(!qC E (.int i))=decide (1 < E.count i) by simp [qC]]
        have hc:oJ true gC (ac 0) (ac 1) [some (.l (E.map .int)),some (.d (.int i))]=some (.d (.int (E.count i:Nat)),[some (.l (E.map .int)),some (.d (.int i))]):=by
          generalize E.map PyData.int=NN at*
          simp? [oJ,zv,bP,bL,ei,gC]
        have hg:∀e:En,Aj e (.d (.int (E.count i:Nat))) (.d (.int 1))=some (.d (.bool (decide (1 < E.count i)))):=fun e=>by
          have q:decide ((1:Int) < ((E.count i:Nat):Int))=decide (1 < E.count i):=by rw [decide_eq_decide];lia
          rw [←q]
          simp? [List.replicate]
        generalize decide (1 < E.count i)=bb at*
        generalize E.count i=cc at*
        generalize E.map PyData.int=NN at*
        simp? [ck,hc,hg]) (fun x hx _=>by
        generalize E.map PyData.int=NN at*
        simp? [cn]) (by simp;lia)
      rw [List.nil_append,List.map_id'] at hf5
      have hv:=rP (cp:=[(2,"_law_taken")]) (nT:=1) (i:=2) (g:=ah 1) (ft:=ck) (fe:=cn) (e:=[some (.d (aU W)),some (.d (.tuple (ns.map .int))),some (.l (E.map .int)),w3,w4]) (xs:=E.map .int) rfl hf5 rfl
      have u:h_ (fL [(2,"_law_taken")]) ([some (.l (E.map .int))]++[t5]) [some (.d (aU W)),some (.d (.tuple (ns.map .int))),some (.l (E.map .int)),w3,w4]=[some (.d (aU W)),some (.d (.tuple (ns.map .int))),some (.l (E.map .int)),BU [] none w3,BU [] none w4]:=rfl
      rw [u] at hv
      simp only [BB] at hv
      have hv':iQ [(2,"_law_taken")] 1 gR (ah 1) ck cn [some (.d (aU W)),some (.d (.tuple (ns.map .int))),some (.l (E.map .int)),w3,w4]=_:=hv
      have gz:=fun e=>oY (e:=e) (xs:=(E.map PyData.int).filter fun x=> !qC E x) (neg:=false)
      simp only [Bool.false_eq_true,if_false,nu,za] at gz
      generalize ((E.map PyData.int).filter fun x=> !qC E x)=M at*
      generalize decide E.Nodup=bb at*
      generalize E.map PyData.int=EE at*
      generalize ns.map PyData.int=NN at*
      simp? [bV,eD,gt,hs,hv',gz]
def nn:PyData→Bool
  | .int i=>decide (0≤i)
  | _=>false
def pf(n:Int):PyData→Bool
  | .tuple qs=>((qs.length:Int)==n)&&qs.all nn
  | _=>false
theorem mG:∀{ds:List PyData},ds.all nn=true→∃qs:List Int,ds=qs.map .int
  | [],_=>⟨[],rfl⟩
  | d::r,h=>by
    simp only [List.all_cons,Bool.and_eq_true] at h
    obtain⟨qs,rfl⟩:=mG h.2
    cases d with
    | int i=>exact⟨i::qs,rfl⟩
    | _=>cases h.1
theorem tG{d:PyData}:nn d=(sU d&&decide (0≤dF d)):=by cases d<;>rfl
theorem mV(d:PyData)(n:Int)(hn:n≤100):bA [.d d,.d (.int n)]=some (.d (.bool (pf n d)),[.d d,.d (.int n)]):=by
  have tr:=lW d n
  cases c:iM n d with
  | false=>
    rw [c] at tr
    have e:pf n d=false:=by
      cases d with
      | tuple ds=>simp only [iM] at c;simp only [pf,c,Bool.false_and]
      | _=>rfl
    rw [e]
    simp? [bA,er,tr]
  | true=>
    rw [c] at tr
    cases d with
    | tuple ds=>
      have hl:(ds.length:Int)=n:=by simpa [iM] using c
      obtain⟨t',hf⟩:=cF (cs:=[]) (ft:=bI) (fe:=bC) (b:=fun _=>true) (y:=fun x=>.bool (nn x)) ds none [] (fun x hx=>rfl) (fun x hx _=>by
        have tn:=uF x
        rw [tG]
        cases hx:sU x with
        | false=>rw [hx] at tn;simp? [bC,tn]
        | true=>
          rw [hx] at tn
          cases x with
          | int i=>
            have gg:∀e:En,xm e (.d (.int i)) (.d (.int 0))=some (.d (.bool (decide (0≤i)))):=fun e=>rfl
            rw [show(true&&decide (0≤dF (.int i)))=decide (0≤i) from rfl]
            generalize decide (0≤i)=bb at*
            simp? [bC,tn,gg]
          | _=>cases hx) (by simp;lia)
      have hv:=dM (cp:=[]) (nT:=1) (fi:=fx) (g:=ah 0) (ft:=bI) (fe:=bC) (e:=[some (.d (.tuple ds)),some (.d (.int n))]) (cs:=[]) (t:=[none]) (t':=[t']) rfl rfl rfl hf
      rw [List.nil_append,eN] at hv
      have ga:=fun e=>sD (e:=e) nn ds
      have e:pf n (.tuple ds)=ds.all nn:=by simp only [pf,hl,beq_self_eq_true,Bool.true_and]
      rw [e]
      generalize ds.all nn=bb at*
      generalize (ds.map fun x=>PyData.bool (nn x))=M at*
      simp? [bA,er,tr,hv,ga]
    | _=>simp [iM] at c
def qZ(W:cf)(ns qs:List Int):Bool:=(W.ties.all fun t=> !decide (qs.getD t.one.toNat 0+qs.getD t.other.toNat 0 < t.worth))&&(qs.sum==(ns.map fun k=>(W.tie k).worth).sum)
def uP:PyData→List Int
  | .tuple ds=>ds.map dF
  | _=>[]
def uO(W:cf):PyData→Bool
  | .tuple [p,q]=>mY W p&&(pf W.things q&&qZ W (uP p) (uP q))
  | _=>false
def qW(qs:List Int):PyData→Bool
  | .tuple [.int a,.int b,_,.int w]=>decide (qs.getD a.toNat 0+qs.getD b.toNat 0 < w)
  | _=>false
theorem t8{W:cf}{qs:List Int}:(W.ties.map aY).all (fun x=> !qW qs x)=W.ties.all fun t=> !decide (qs.getD t.one.toNat 0+qs.getD t.other.toNat 0 < t.worth):=by
  rw [List.all_map];rfl
theorem uY{α:Type}(p:α→Bool)(l:List α):l.any p= !(l.all fun x=> !p x):=by
  induction l with
  | nil=>rfl
  | cons x r ih=>rw [List.any_cons,List.all_cons,ih,Bool.not_and,Bool.not_not]
theorem x6{e:En}{qs:List Int}:g1 eU e [.d (.tuple (qs.map .int))]=some (.d (.int qs.sum)):=by
  simp [g1,eU,bP,cI]
theorem x5{e:En}{qs:List Int}:g1 eU e [.l (qs.map .int)]=some (.d (.int qs.sum)):=by
  simp [g1,eU,bP,cI]
def uT:PyData→En
  | .tuple [a,b,c,d]=>[some (.d a),some (.d b),some (.d c),some (.d d)]
  | _=>[]
theorem qu{d:PyData}(h:iM 2 d=true):∃p q,d=.tuple [p,q]:=by
  cases d with
  | tuple ds=>
    have hl:(ds.length:Int)=2:=by simpa [iM] using h
    rcases ds with _ | ⟨p,_ | ⟨q,_ | ⟨r,s⟩⟩⟩
    · simp at hl
    · simp at hl
    · exact⟨p,q,rfl⟩
    · simp at hl;lia
  | _=>simp [iM] at h
theorem qh{W:cf}{d:PyData}(h:iM 2 d=false):uO W d=false:=by
  unfold uO
  split
  · simp [iM] at h
  · rfl
theorem k8{W:cf}(ok:W.Ok)(d:PyData):aI [.d (aU W),.d d]=some (.d (.bool (uO W d)),[.d (aU W),.d d]):=by
  have g0:=CM (W:=W)
  have g1':=Ak (W:=W)
  have tr:=lW d 2
  cases c:iM 2 d with
  | false=>
    rw [c] at tr
    rw [qh c]
    simp? [aI,bt,tr]
  | true=>
    rw [c] at tr
    obtain⟨p,q,rfl⟩:=qu c
    have tp:=rF ok p
    have tn:=mV q W.things (by have:=ok.t1;lia)
    rw [show uO W (.tuple [p,q])=(mY W p&&(pf W.things q&&qZ W (uP p) (uP q))) from rfl]
    cases c1:mY W p with
    | false=>
      rw [c1] at tp
      simp? [aI,bt,tr,tp]
    | true=>
      rw [c1] at tp
      cases c2:pf W.things q with
      | false=>
        rw [c2] at tn
        simp? [aI,bt,tr,tp,g0,tn]
      | true=>
        rw [c2] at tn
        cases p with
        | tuple ds=>
          cases q with
          | tuple es=>
            simp only [mY,Bool.and_eq_true] at c1
            obtain⟨ns,rfl,nd,hk⟩:=jg c1.1
            simp only [pf,Bool.and_eq_true,beq_iff_eq] at c2
            obtain⟨qs,rfl⟩:=mG c2.2
            have hl:=mS ok nd hk
            have hq:(qs.length:Int)=W.things:=by have:=c2.1;simpa using this
            have t12:=ok.t1
            rw [show uP (.tuple (ns.map .int))=ns from eY ns,show uP (.tuple (qs.map .int))=qs from eY qs,Bool.true_and,Bool.true_and]
            unfold qZ
            obtain⟨t2,ht2,hf2⟩:=iG (cs:=[some (.d (.tuple (qs.map .int)))]) (g:=iw (bi (ah 1) (bi (ah 2) (bi (ah 3) (bi (ah 4) gx))))) (ft:=bI) (fe:=bU) (b:=fun _=>true) (y:=fun x=>.bool (qW qs x)) (u:=uT) 4 (W.ties.map aY) [none,none,none,none] [] rfl (fun x hx t ht=>by
              obtain⟨ti,hti,rfl⟩:=kf hx
              rcases t with _ | ⟨a1,_ | ⟨a2,_ | ⟨a3,_ | ⟨a4,_ | ⟨a5,r⟩⟩⟩⟩⟩
              · simp at ht
              · simp at ht
              · simp at ht
              · simp at ht
              · unfold aY
                generalize qs.map PyData.int=NN
                simp? [uT]
              · simp at ht) (fun x hx=>by
              obtain⟨ti,hti,rfl⟩:=kf hx
              rfl) (fun x _=>rfl) (fun x hx _=>by
              obtain⟨ti,hti,rfl⟩:=kf hx
              have o:=ok.ties ti hti
              have a1:=cT (ns:=qs) (k:=ti.one) o.o0 (by have:=o.o1;have:=o.o2;lia)
              have a2:=cT (ns:=qs) (k:=ti.other) (by have:=o.o0;have:=o.o1;lia) (by have:=o.o2;lia)
              rw [show qW qs (aY ti)=decide (qs.getD ti.one.toNat 0+qs.getD ti.other.toNat 0 < ti.worth) from rfl]
              rw [show uT (aY ti)=[some (.d (.int ti.one)),some (.d (.int ti.other)),some (.d (.tuple [.int ti.top,.int ti.bot])),some (.d (.int ti.worth))] from rfl]
              generalize qs.getD ti.one.toNat 0=x1 at*
              generalize qs.getD ti.other.toNat 0=x2 at*
              generalize qs.map PyData.int=NN at*
              simp? [bU,a1,a2]) (by have:=ok.len;simp;lia)
            have qZ:=dM (cp:=[(3,"prices")]) (nT:=4) (fi:=eX) (g:=iw (bi (ah 1) (bi (ah 2) (bi (ah 3) (bi (ah 4) gx))))) (ft:=bI) (fe:=bU) (e:=[some (.d (aU W)),some (.d (.tuple [.tuple (ns.map .int),.tuple (qs.map .int)])),some (.d (.tuple (ns.map .int))),some (.d (.tuple (qs.map .int)))]) (e1:=[some (.d (aU W)),some (.d (.tuple [.tuple (ns.map .int),.tuple (qs.map .int)])),some (.d (.tuple (ns.map .int))),some (.d (.tuple (qs.map .int)))]) (items:=W.ties.map aY) (cs:=[some (.d (.tuple (qs.map .int)))]) (t:=[none,none,none,none]) (t':=t2) (jD (by
              generalize qs.map PyData.int=NN at*
              generalize ns.map PyData.int=MM at*
              simp? [g1'])) rfl rfl hf2
            rw [List.nil_append,eN] at qZ
            have ga:=fun e=>sE (e:=e) (qW qs) (W.ties.map aY)
            rw [uY,t8] at ga
            obtain⟨t1,hf1⟩:=cF (cs:=[some (.d (aU W))]) (ft:=bI) (fe:=bT) (b:=fun _=>true) (y:=fun x=>.int (W.tie (dF x)).worth) (ns.map .int) none [] (fun x hx=>rfl) (fun x hx _=>by
              obtain⟨k,hk',rfl⟩:=List.mem_map.mp hx
              have ai:=iU (W:=W) (k:=k) (hk k hk')
              rw [show dF (.int k)=k from rfl]
              unfold aY at ai g1'
              generalize (W.tie k).worth=w at*
              generalize (W.ties.map fun t=>PyData.tuple [.int t.one,.int t.other,.tuple [.int t.top,.int t.bot],.int t.worth])=TT at*
              simp? [bT,g1',ai]) (by simp;lia)
            have hv1:=dM (cp:=[(0,"web")]) (nT:=1) (fi:=eW) (g:=ah 1) (ft:=bI) (fe:=bT) (e:=[some (.d (aU W)),some (.d (.tuple [.tuple (ns.map .int),.tuple (qs.map .int)])),some (.d (.tuple (ns.map .int))),some (.d (.tuple (qs.map .int)))]) (cs:=[some (.d (aU W))]) (t:=[none]) (t':=[t1]) rfl rfl rfl hf1
            rw [List.nil_append,eN,show((ns.map PyData.int).map fun x=>PyData.int (W.tie (dF x)).worth)=(ns.map fun k=>(W.tie k).worth).map .int by rw [List.map_map,List.map_map];rfl] at hv1
            have s1:=fun e=>x6 (e:=e) (qs:=qs)
            have s2:=fun e=>x5 (e:=e) (qs:=ns.map fun k=>(W.tie k).worth)
            generalize (W.ties.all fun t=> !decide (qs.getD t.one.toNat 0+qs.getD t.other.toNat 0 < t.worth))=bb at*
            generalize ((W.ties.map aY).map fun x=>PyData.bool (qW qs x))=M at*
            generalize (ns.map fun k=>(W.tie k).worth).map PyData.int=MW at*
            generalize (ns.map fun k=>(W.tie k).worth).sum=w1 at*
            generalize qs.sum=w2 at*
            generalize ns.map PyData.int=NN at*
            generalize qs.map PyData.int=QQ at*
            cases bb with
            | false=>simp? [aI,bt,tr,tp,g0,tn,qZ,ga]
            | true=>simp? [aI,bt,tr,tp,g0,tn,qZ,ga,hv1,s1,s2]
          | _=>cases c2
        | _=>cases c1
theorem ls{W:cf}(ok:W.Ok)(d:PyData):aL [.d (aU W),.d d]=some (.d (.bool (uO W d)),[.d (aU W),.d d]):=by
  have g0:=CM (W:=W)
  have g1':=Ak (W:=W)
  have t12:=ok.t1
  have gt:=fun e=>nL (e:=e) (d:=d)
  cases c:iM 2 d with
  | false=>
    rw [qh c]
    cases c0:nQ d with
    | false=>
      rw [c0] at gt
      simp? [aL,a_,gt]
    | true=>
      rw [c0] at gt
      obtain⟨ds,rfl⟩:=jb c0
      have hl:¬(ds.length:Int)=2:=by simpa [iM] using c
      have gn:∀e:En,cv true e (.d (.int ds.length)) (.d (.int 2))=some (.d (.bool true)):=fun e=>by rw [eF];simp [hl]
      simp? [aL,a_,gt,gn]
  | true=>
    obtain⟨p,q,rfl⟩:=qu c
    rw [show nQ (.tuple [p,q])=true from rfl] at gt
    have gn:∀e:En,cv true e (.d (.int 2)) (.d (.int 2))=some (.d (.bool false)):=fun e=>by rw [eF];rfl
    have a0:atI [p,q] 0=some p:=l5
    have a1:atI [p,q] 1=some q:=l6
    have tp:=pJ ok p
    have gq:=fun e=>nL (e:=e) (d:=q)
    rw [show uO W (.tuple [p,q])=(mY W p&&(pf W.things q&&qZ W (uP p) (uP q))) from rfl]
    cases c1:mY W p with
    | false=>
      rw [c1] at tp
      simp? [aL,a_,gt,gn,a0,tp]
    | true=>
      rw [c1] at tp
      cases cq:nQ q with
      | false=>
        rw [cq] at gq
        have e:pf W.things q=false:=by cases q<;>first | rfl | cases cq
        rw [e]
        simp? [aL,a_,gt,gn,a0,a1,tp,gq]
      | true=>
        rw [cq] at gq
        obtain⟨es,rfl⟩:=jb cq
        by_cases hl:(es.length:Int)=W.things
        case neg=>
          have e:pf W.things (.tuple es)=false:=by
            have:((es.length:Int)==W.things)=false:=by simpa using hl
            simp only [pf,this,Bool.false_and]
          rw [e]
          have gm:∀e:En,cv true e (.d (.int es.length)) (.d (.int W.things))=some (.d (.bool true)):=fun e=>by rw [eF];simp [hl]
          simp? [aL,a_,gt,gn,a0,a1,tp,gq,g0,gm]
        case pos=>
          have gm:∀e:En,cv true e (.d (.int es.length)) (.d (.int W.things))=some (.d (.bool false)):=fun e=>by rw [eF];simp [hl]
          obtain⟨t',hf⟩:=cF (cs:=[]) (ft:=bZ) (fe:=dh) (b:=fun x=> !nn x) (y:=fun x=>x) es none [] (fun x hx=>by
            have tn:=qI x
            rw [tG]
            cases hx:sU x with
            | false=>rw [hx] at tn;simp? [bZ,tn]
            | true=>
              rw [hx] at tn
              cases x with
              | int i=>
                rw [show(!(true&&decide (0≤dF (.int i))))=decide (i < 0) by
                  rw [Bool.true_and,show dF (.int i)=i from rfl,←decide_not,decide_eq_decide];lia]
                have gg:∀e:En,uM e (.d (.int i)) (.d (.int 0))=some (.d (.bool (decide (i < 0)))):=fun e=>rfl
                generalize decide (i < 0)=bb at*
                simp? [bZ,tn,gg]
              | _=>cases hx) (fun x hx _=>by simp? [dh]) (by simp;lia)
          have hv:=dM (cp:=[]) (nT:=1) (fi:=gB) (g:=ah 0) (ft:=bZ) (fe:=dh) (e:=[some (.d (aU W)),some (.d (.tuple [p,.tuple es])),some (.d (.tuple es))]) (cs:=[]) (t:=[none]) (t':=[t']) rfl rfl rfl hf
          rw [List.nil_append,List.map_id'] at hv
          have gz:=fun e=>oY (e:=e) (xs:=es.filter fun x=> !nn x) (neg:=true)
          simp only [if_true,nu] at gz
          have en:pf W.things (.tuple es)=es.all nn:=by simp only [pf,hl,beq_self_eq_true,Bool.true_and]
          rw [en]
          cases c2:es.all nn with
          | false=>
            rw [c2] at gz
            generalize (es.filter fun x=> !nn x)=M at*
            simp? [aL,a_,gt,gn,a0,a1,tp,gq,g0,gm,hv,gz]
          | true=>
            rw [c2] at gz
            cases p with
            | tuple ds=>
              simp only [mY,Bool.and_eq_true] at c1
              obtain⟨ns,rfl,nd,hk⟩:=jg c1.1
              obtain⟨qs,rfl⟩:=mG c2
              have hln:=mS ok nd hk
              have hq:(qs.length:Int)=W.things:=by simpa using hl
              rw [show uP (.tuple (ns.map .int))=ns from eY ns,show uP (.tuple (qs.map .int))=qs from eY qs,Bool.true_and,Bool.true_and]
              unfold qZ
              obtain⟨t2,hf2⟩:=cF (cs:=[some (.d (.tuple (qs.map .int)))]) (ft:=de) (fe:=dg) (b:=fun x=>qW qs x) (y:=fun x=>x) (W.ties.map aY) none [] (fun x hx=>by
                obtain⟨ti,hti,rfl⟩:=kf hx
                have o:=ok.ties ti hti
                have b1:=cT (ns:=qs) (k:=ti.one) o.o0 (by have:=o.o1;have:=o.o2;lia)
                have b2:=cT (ns:=qs) (k:=ti.other) (by have:=o.o0;have:=o.o1;lia) (by have:=o.o2;lia)
                rw [show qW qs (aY ti)=decide (qs.getD ti.one.toNat 0+qs.getD ti.other.toNat 0 < ti.worth) from rfl]
                unfold aY
                generalize qs.getD ti.one.toNat 0=x1 at*
                generalize qs.getD ti.other.toNat 0=x2 at*
                generalize qs.map PyData.int=NN at*
                simp? [de,b1,b2]) (fun x hx _=>by
                generalize qs.map PyData.int=NN at*
                simp? [dg]) (by have:=ok.len;simp;lia)
              have qZ:=dM (cp:=[(2,"_law_prices")]) (nT:=1) (fi:=gA) (g:=ah 1) (ft:=de) (fe:=dg) (e:=[some (.d (aU W)),some (.d (.tuple [.tuple (ns.map .int),.tuple (qs.map .int)])),some (.d (.tuple (qs.map .int)))]) (e1:=[some (.d (aU W)),some (.d (.tuple [.tuple (ns.map .int),.tuple (qs.map .int)])),some (.d (.tuple (qs.map .int)))]) (items:=W.ties.map aY) (cs:=[some (.d (.tuple (qs.map .int)))]) (t:=[none]) (t':=[t2]) (jD (by
                generalize qs.map PyData.int=NN at*
                generalize ns.map PyData.int=MM at*
                simp? [g1'])) rfl rfl hf2
              rw [List.nil_append,List.map_id'] at qZ
              have gz2:=fun e=>oY (e:=e) (xs:=(W.ties.map aY).filter fun x=>qW qs x) (neg:=true)
              have hx2:((W.ties.map aY).filter fun x=>qW qs x).isEmpty=W.ties.all fun t=> !decide (qs.getD t.one.toNat 0+qs.getD t.other.toNat 0 < t.worth):=by
                rw [←t8,Bool.eq_iff_iff]
                simp [List.isEmpty_iff,List.filter_eq_nil_iff,List.all_eq_true]
              simp only [if_true,hx2] at gz2
              obtain⟨t1,hf1⟩:=cF (cs:=[some (.d (aU W))]) (ft:=bI) (fe:=df) (b:=fun _=>true) (y:=fun x=>.int (W.tie (dF x)).worth) (ns.map .int) none [] (fun x hx=>rfl) (fun x hx _=>by
                obtain⟨k,hk',rfl⟩:=List.mem_map.mp hx
                have ai:=iU (W:=W) (k:=k) (hk k hk')
                rw [show dF (.int k)=k from rfl]
                unfold aY at ai g1'
                generalize (W.tie k).worth=w at*
                generalize (W.ties.map fun t=>PyData.tuple [.int t.one,.int t.other,.tuple [.int t.top,.int t.bot],.int t.worth])=TT at*
                simp? [df,g1',ai]) (by simp;lia)
              have hv1:=dM (cp:=[(0,"_law_web")]) (nT:=1) (fi:=gy) (g:=ah 1) (ft:=bI) (fe:=df) (e:=[some (.d (aU W)),some (.d (.tuple [.tuple (ns.map .int),.tuple (qs.map .int)])),some (.d (.tuple (qs.map .int)))]) (e1:=[some (.d (aU W)),some (.d (.tuple [.tuple (ns.map .int),.tuple (qs.map .int)])),some (.d (.tuple (qs.map .int)))]) (items:=ns.map .int) (cs:=[some (.d (aU W))]) (t:=[none]) (t':=[t1]) (jD (by
                generalize qs.map PyData.int=NN at*
                generalize ns.map PyData.int=MM at*
                simp? [a0])) rfl rfl hf1
              rw [List.nil_append,eN,show((ns.map PyData.int).map fun x=>PyData.int (W.tie (dF x)).worth)=(ns.map fun k=>(W.tie k).worth).map .int by rw [List.map_map,List.map_map];rfl] at hv1
              have s1:=fun e=>vj (e:=e) (ns:=qs)
              have s2:=fun e=>vi (e:=e) (ns:=ns.map fun k=>(W.tie k).worth)
              generalize (W.ties.all fun t=> !decide (qs.getD t.one.toNat 0+qs.getD t.other.toNat 0 < t.worth))=bb at*
              generalize ((W.ties.map aY).filter fun x=>qW qs x)=M2 at*
              generalize ((qs.map PyData.int).filter fun x=> !nn x)=M at*
              generalize (ns.map fun k=>(W.tie k).worth).map PyData.int=MW at*
              generalize (ns.map fun k=>(W.tie k).worth).sum=w1 at*
              generalize qs.sum=w2 at*
              generalize ns.map PyData.int=NN at*
              generalize qs.map PyData.int=QQ at*
              cases bb with
              | false=>simp? [aL,a_,gt,gn,a0,a1,tp,gq,g0,gm,hv,gz,qZ,gz2]
              | true=>simp? [aL,a_,gt,gn,a0,a1,tp,gq,g0,gm,hv,gz,qZ,gz2,hv1,s1,s2]
            | _=>cases c1
theorem oz(ts:List lc):SeqAt.shaped (.list (ts.map aY))=true:=by
  have h1:PyData.canLayAll0 (ts.map aY)=true:=by
    induction ts with
    | nil=>rfl
    | cons n r ih=>simp [PyData.canLayAll0,PyData.canLay0,aY,ih]
  have h2:PyData.depthAll (ts.map aY)≤4:=by
    clear h1
    induction ts with
    | nil=>simp [PyData.depthAll]
    | cons n r ih=>simp [PyData.depthAll,PyData.depth,aY];lia
  simp [SeqAt.shaped,PyData.canLay0,PyData.depth,h1]
  lia
theorem ur{n:Nat}{x:Int}(h:x∈cK n):0≤x∧x < (n:Int):=by
  unfold cK at h
  obtain⟨i,hi,rfl⟩:=List.mem_map.mp h
  have:=List.mem_range.mp hi
  have e:(Int.ofNat i)=(i:Int):=rfl
  simp only [e]
  lia
theorem wu(n:Nat):(cK n).Nodup:=by
  unfold cK
  exact List.pairwise_map.mpr (List.Pairwise.imp (fun h e=>by have:_=_:=e;simp at this;lia) List.nodup_range)
structure lb (n:Int) (qs:List Int):Prop where
  len:(qs.length:Int)=n
  rng:∀x∈qs,0≤x∧x≤500
theorem lb.at{n:Int}{qs:List Int}(h:lb n qs){i:Int}(h0:0≤i)(h1:i < n):0≤qs.getD i.toNat 0∧qs.getD i.toNat 0≤500:=by
  have hl:i.toNat < qs.length:=by have:=h.len;lia
  rw [List.getD_eq_getElem?_getD,List.getElem?_eq_getElem hl]
  exact h.rng _ (List.getElem_mem _)
theorem lb.set{n:Int}{qs:List Int}(h:lb n qs){i:Nat}:lb n (qs.set i 0):=⟨by rw [List.length_set];exact h.len,fun x hx=>by
  rcases List.mem_or_eq_of_mem_set hx with hx | rfl
  · exact h.rng x hx
  · lia⟩
abbrev cj(ds:List Int)(th top:Int)(qs lf:List Int)(ts:List lc)(v6 v7 v8 v9 v10 v11 v12 v13:Option Sv):En:=[some (.l (ds.map .int)),some (.d (.int th)),some (.d (.int top)),some (.l (qs.map .int)),some (.l (lf.map .int)),some (.l (ts.map aY)),v6,v7,v8,v9,v10,v11,v12,v13]
inductive BD (th top:Int) (qs:List Int) (i:Nat):En→Prop
  | mk {ds lf ts v6 v7 v8 v9} (hd:iH ds) (nd:lf.Nodup) (hr:∀x∈lf,0≤x∧x < th) (hl:(lf.length:Int)=th - 2*i) (tl:ts.length=i) (ht:∀t∈ts,t.Ok th):BD th top qs i (cj ds th top qs lf ts v6 v7 v8 v9 none none none none)
theorem tU{lf:List Int}{k:Int}(nd:lf.Nodup)(h0:0≤k)(h1:k < (lf.length:Int)):∃(x:Int) (lf':List Int),(lf.map PyData.int)[k.toNat]?=some (.int x)∧(lf.map PyData.int).eraseIdx k.toNat=List.map PyData.int lf'∧lf'.length+1=lf.length∧lf'.Nodup∧x∉lf'∧x∈lf∧∀y∈lf',y∈lf:=by
  have hk:k.toNat < lf.length:=by lia
  have hp:=kj lf k.toNat hk
  have hn:=hp.nodup_iff.mpr nd
  have hn':=List.nodup_cons.mp hn
  refine⟨lf[k.toNat],lf.eraseIdx k.toNat,by rw [List.getElem?_map,List.getElem?_eq_getElem hk];rfl,lH,by rw [←hp.length_eq,List.length_cons],hn'.2,hn'.1,List.getElem_mem _,fun y hy=>hp.mem_iff.mp (List.mem_cons_of_mem _ hy)⟩
theorem yl{th top:Int}{qs:List Int}(h2:2≤th)(h9:th≤9)(hq:lb th qs){i:Nat}{e:En}(hi:2*(i:Int)+2≤th)(hI:BD th top qs i e):∃e2,gL (e.set 6 (some (.d (.int (0+(i:Int))))))=some (.nx e2)∧BD th top qs (i+1) e2:=by
  obtain⟨hd,nd,hr,hl,tl,ht⟩:=hI
  rename_i ds lf ts v6 v7 v8 v9
  obtain⟨n1,d1,t1, -, -,hd1⟩:=fj hd
  have l1:0 < (lf.length:Int):=by lia
  have g1:∀e:En,aZ e (.d (.int n1)) (.d (.int (lf.length:Int)))=some (.d (.int (n1 % (lf.length:Int)))):=fun e=>az l1
  have a0:=oM (n:=n1) l1;have a1:=oO (n:=n1) l1
  obtain⟨x,lf1,p1,p2,p3,p4,p5,p6,p7⟩:=tU nd a0 a1
  generalize n1 % (lf.length:Int)=k1 at*
  obtain⟨n2,d2,t2, -, -,hd2⟩:=fj hd1
  have l2:0 < (lf1.length:Int):=by lia
  have g2:∀e:En,aZ e (.d (.int n2)) (.d (.int (lf1.length:Int)))=some (.d (.int (n2 % (lf1.length:Int)))):=fun e=>az l2
  have b0:=oM (n:=n2) l2;have b1:=oO (n:=n2) l2
  obtain⟨y,lf2,r1,r2,r3,r4,r5,r6,r7⟩:=tU p4 b0 b1
  generalize n2 % (lf1.length:Int)=k2 at*
  obtain⟨n3,d3,t3,n30, -,hd3⟩:=fj hd2
  obtain⟨t,b,c1,c2,c3,c4,c5,c6⟩:=oE n3 1 n30
  have hx:=hr x p6
  have hy:=hr y (p7 y r6)
  have ne:x≠y:=fun z=>p5 (z ▸ r6)
  have ix:=cT (ns:=qs) (k:=x) hx.1 (by have:=hq.len;lia)
  have iy:=cT (ns:=qs) (k:=y) hy.1 (by have:=hq.len;lia)
  have qx:=hq.at hx.1 hx.2
  have qy:=hq.at hy.1 hy.2
  have q1:((lf.map PyData.int).length:Int)=(lf.length:Int):=by simp
  have q2:((lf1.map PyData.int).length:Int)=(lf1.length:Int):=by simp
  have k1b:k1 < 1000000000:=by lia
  have k2b:k2 < 1000000000:=by lia
  have lt:ts.length < 1000000:=by lia
  refine⟨cj d3 th top qs lf2 (ts++[⟨min x y,max x y,t,b,qs.getD x.toNat 0+qs.getD y.toNat 0⟩]) (some (.d (.int (0+(i:Int))))) (some (.d (.int x))) (some (.d (.int y))) (some (.d (.tuple [.int (min x y),.int (max x y)]))) none none none none,?_,.mk hd3 r4 (fun z hz=>hr z (p7 z (r7 z hz))) (by push_cast;lia) (by rw [List.length_append];simp;lia) fun z hz=>by
    rcases List.mem_append.mp hz with hz | hz
    · exact ht z hz
    · simp at hz;subst hz;exact⟨by show 0≤min x y;lia,by show min x y < max x y;lia,by show max x y < th;lia,c2,c3,c4,c5,by show 0≤qs.getD x.toNat 0+qs.getD y.toNat 0;lia,by show qs.getD x.toNat 0+qs.getD y.toNat 0≤1000;lia,c6⟩⟩
  simp only [cj,List.map_append,List.map_cons,List.map_nil,aY,List.set_cons_succ,List.set_cons_zero]
  rw [←r2]
  generalize qs.getD x.toNat 0=y1 at*
  generalize qs.getD y.toNat 0=y2 at*
  generalize lf2.map PyData.int=L2' at*
  rw [←p2] at q2 r1 ⊢
  generalize qs.map PyData.int=QQ at*
  generalize (lf.length:Int)=M0 at*
  generalize (lf1.length:Int)=M1 at*
  generalize lf.map PyData.int=L0 at*
  simp? [gL,t1,q1,g1,a0,k1b,p1,t2,q2,g2,b0,k2b,r1,t3,c1,ix,iy,ko,lt]
inductive BE (ds:List Int) (th top:Int) (lf:List Int) (ts:List lc) (v6 v8 v9 v10:Option Sv):En→Prop
  | mk {qs v7} (hq:lb th qs):BE ds th top lf ts v6 v8 v9 v10 (cj ds th top qs lf ts v6 v7 v8 v9 v10 none none none)
theorem ym{ds:List Int}{th top:Int}{lf:List Int}{ts:List lc}{v6 v8 v9 v10:Option Sv}{e:En}{x:Int}(hx:0≤x∧x < th)(hI:BE ds th top lf ts v6 v8 v9 v10 e):∃e2,gK (e.set 7 (some (.d (.int x))))=some (.nx e2)∧keeps [(4,lf.map .int)] e2∧BE ds th top lf ts v6 v8 v9 v10 e2:=by
  obtain⟨hq⟩:=hI
  rename_i qs v7
  have hl:=hq.len
  have hix:nR qs.length x=some x.toNat:=by unfold nR;rw [if_pos hx.1,if_pos (by lia)]
  refine⟨cj ds th top (qs.set x.toNat 0) lf ts v6 (some (.d (.int x))) v8 v9 v10 none none none,?_,fun p hp=>by simp at hp;subst hp;rfl,.mk hq.set⟩
  simp only [cj,List.map_set,List.set_cons_succ,List.set_cons_zero]
  simp? [gK,iN,iO,hix]
inductive BF (th top:Int) (qs lf:List Int) (m:Nat) (v9 v10:Option Sv) (i:Nat):En→Prop
  | mk {ds ts v6 v7 v8 v11 v12} (hd:iH ds) (tl:ts.length=m+i) (ht:∀t∈ts,t.Ok th):BF th top qs lf m v9 v10 i (cj ds th top qs lf ts v6 v7 v8 v9 v10 v11 v12 none)
theorem yn{th top:Int}{qs lf:List Int}{m i:Nat}{v9 v10:Option Sv}{e:En}{x:PyData}(h2:2≤th)(h9:th≤9)(hm:m+i≤100)(hq:lb th qs)(hI:BF th top qs lf m v9 v10 i e):∃e2,gJ (e.set 6 (some (.d x)))=some (.nx e2)∧BF th top qs lf m v9 v10 (i+1) e2:=by
  obtain⟨hd,tl,ht⟩:=hI
  rename_i ds ts v6 v7 v8 v11 v12
  obtain⟨n1,d1,t1, -, -,hd1⟩:=fj hd
  have g1:∀e:En,aZ e (.d (.int n1)) (.d (.int th))=some (.d (.int (n1 % th))):=fun e=>az (by lia)
  have a0:=oM (n:=n1) (k:=th) (by lia);have a1:=oO (n:=n1) (k:=th) (by lia)
  generalize n1 % th=one at*
  obtain⟨n2,d2,t2, -, -,hd2⟩:=fj hd1
  have g2:∀e:En,aZ e (.d (.int n2)) (.d (.int (th - 1)))=some (.d (.int (n2 % (th - 1)))):=fun e=>az (by lia)
  have b0:=oM (n:=n2) (k:=th - 1) (by lia);have b1:=oO (n:=n2) (k:=th - 1) (by lia)
  generalize n2 % (th - 1)=uQ at*
  have g3:∀e:En,aZ e (.d (.int (one+1+uQ))) (.d (.int th))=some (.d (.int ((one+1+uQ) % th))):=fun e=>az (by lia)
  have c0:=oM (n:=one+1+uQ) (k:=th) (by lia);have c1:=oO (n:=one+1+uQ) (k:=th) (by lia)
  have ne:(one+1+uQ) % th≠one:=fun z=>by
    by_cases q:one+1+uQ < th
    · rw [Int.emod_eq_of_lt (by lia) q] at z;lia
    · have:(one+1+uQ) % th=one+1+uQ - th:=by
        rw [←Int.sub_emod_right,Int.emod_eq_of_lt (by lia) (by lia)]
      lia
  generalize (one+1+uQ) % th=oth at*
  have ix:=cT (ns:=qs) (k:=one) a0 (by have:=hq.len;lia)
  have iy:=cT (ns:=qs) (k:=oth) c0 (by have:=hq.len;lia)
  have qx:=hq.at a0 a1
  have qy:=hq.at c0 c1
  generalize qs.getD one.toNat 0=y1 at*
  generalize qs.getD oth.toNat 0=y2 at*
  obtain⟨n3,d3,t3, -, -,hd3⟩:=fj hd2
  have g4:∀e:En,aZ e (.d (.int n3)) (.d (.int (y1+y2+1)))=some (.d (.int (n3 % (y1+y2+1)))):=fun e=>az (by lia)
  have e0:=oM (n:=n3) (k:=y1+y2+1) (by lia);have e1:=oO (n:=n3) (k:=y1+y2+1) (by lia)
  generalize n3 % (y1+y2+1)=w3 at*
  obtain⟨n4,d4,t4, -, -,hd4⟩:=fj hd3
  have g5:∀e:En,aZ e (.d (.int n4)) (.d (.int 4))=some (.d (.int (n4 % 4))):=fun e=>az (by decide)
  have f0:=oM (n:=n4) (k:=4) (by decide);have f1:=oO (n:=n4) (k:=4) (by decide)
  generalize n4 % 4=w4 at*
  obtain⟨z,hz,ha⟩:=l8 (xs:=[PyData.int 0,.int 0,.int 1,.int w3]) (i:=w4) f0 (by simpa using f1)
  obtain⟨s,rfl,s0⟩:∃s:Int,z=.int s∧0≤s:=by
    simp only [List.mem_cons,List.not_mem_nil,or_false] at hz
    rcases hz with rfl | rfl | rfl | rfl
    · exact⟨_,rfl,by decide⟩
    · exact⟨_,rfl,by decide⟩
    · exact⟨_,rfl,by decide⟩
    · exact⟨_,rfl,e0⟩
  obtain⟨n5,d5,t5,n50, -,hd5⟩:=fj hd4
  obtain⟨t,b,k1,k2,k3,k4,k5,k6⟩:=oE n5 2 n50
  have lt:ts.length < 1000000:=by lia
  refine⟨cj d5 th top qs lf (ts++[⟨min one oth,max one oth,t,b,max 0 (y1+y2 - s)⟩]) (some (.d x)) (some (.d (.int one))) (some (.d (.int oth))) v9 v10 (some (.d (.int (y1+y2)))) (some (.d (.int (max 0 (y1+y2 - s))))) none,?_,.mk hd5 (by rw [List.length_append];simp;lia) fun z hz=>by
    rcases List.mem_append.mp hz with hz | hz
    · exact ht z hz
    · simp at hz;subst hz;exact⟨by show 0≤min one oth;lia,by show min one oth < max one oth;lia,by show max one oth < th;lia,k2,k3,k4,k5,by show 0≤max 0 (y1+y2 - s);lia,by show max 0 (y1+y2 - s)≤1000;lia,k6⟩⟩
  simp only [cj,List.map_append,List.map_cons,List.map_nil,aY,List.set_cons_succ,List.set_cons_zero]
  generalize qs.map PyData.int=QQ at*
  generalize lf.map PyData.int=LL at*
  simp? [gJ,t1,g1,t2,g2,g3,ix,iy,t3,g4,t4,g5,ha,t5,k1,lt]
theorem vz{n:Nat}(h:0 < n):nR n (-1)=some (n - 1):=by
  unfold nR
  rw [if_neg (by decide)]
  split
  · congr 1;lia
  · lia
theorem yo{d10:List Int}{th top:Int}{qs lf:List Int}{us:List lc}{u6 u7 u8 v9 v10 u11 u12:Option Sv}(hd10:iH d10)(ht10:∀t∈us,t.Ok th):∃(ws:List lc) (d11:List Int),(∀t∈ws,t.Ok th)∧ws.length=us.length∧iH d11∧gD (oG (aG (ar (cv true) (ac 5) (dN ag))) (aG (ar (cv false) (ar aZ (dO 1 aN (aa (ac 0) ag)) (vC (.int 6))) (vC (.int 0)))))
    (iN (ar aK (j_ (ar cO (ac 5) (js i8 (vC (.int 1)))) cx (cg (vC (.int 3)))) (aP (aa (ay (g2 mx) (aa (vC (.int 1000)) (aa (ar aK (ar cO (ar cO (ac 5) (js i8 (vC (.int 1)))) (vC (.int 3))) (vC (.int 1))) ag))) ag))) (ac 5) (js i8 (vC (.int 1))))
    dm (cj d10 th top qs lf us u6 u7 u8 v9 v10 u11 u12 none)=some (.nx (cj d11 th top qs lf ws u6 u7 u8 v9 v10 u11 u12 none)):=by
  have q5:∀(xs:List lc) (e:En),e[5]?=some (some (.l (xs.map aY)))→cv true e (.s 5) (.l [])=some (.d (.bool (!(xs.map aY).isEmpty))):=fun xs e he=>nD he (oz _)
  rcases List.eq_nil_or_concat us with rfl | ⟨us',t,rfl⟩
  · refine⟨[],d10,(fun t h=>by cases h),rfl,hd10,?_⟩
    have q:=fun e he=>q5 [] e he
    simp only [cj,List.map_nil,List.isEmpty_nil,Bool.not_true] at q ⊢
    simp? [q]
  · rw [List.concat_eq_append] at*
    obtain⟨n,d11,t11, -, -,hd11⟩:=fj hd10
    have gm:∀e:En,aZ e (.d (.int n)) (.d (.int 6))=some (.d (.int (n % 6))):=fun e=>az (by decide)
    have q:=fun e he=>q5 (us'++[t]) e he
    rw [show((us'++[t]).map aY).isEmpty=false by rw [List.map_append];cases us'<;>rfl] at q
    by_cases c:n % 6=0
    · have ot:=ht10 t (by simp)
      refine⟨us'++[⟨t.one,t.other,t.top,t.bot,min 1000 (t.worth+1)⟩],d11,fun x hx=>?_,by simp,hd11,?_⟩
      · rcases List.mem_append.mp hx with hx | hx
        · exact ht10 x (by simp [hx])
        · simp at hx;subst hx
          exact⟨ot.o0,ot.o1,ot.o2,ot.c0,ot.c1,ot.b0,ot.b1,by show 0≤min 1000 (t.worth+1);have:=ot.w0;lia,by show min 1000 (t.worth+1)≤1000;lia,ot.cop⟩
      · rw [c] at gm
        have at5:atI ((us'++[t]).map aY) (-1)=some (aY t):=by rw [List.map_append];exact qM
        have ix5:nR ((us'++[t]).map aY).length (-1)=some us'.length:=by rw [vz (by simp)];simp
        have st5:∀y:PyData,((us'++[t]).map aY).set us'.length y=us'.map aY++[y]:=fun y=>by
          rw [List.map_append,List.set_append_right us'.length y (by simp)]
          simp
        have cu:L2.cutD [PyData.int t.one,.int t.other,.tuple [.int t.top,.int t.bot],.int t.worth] none (some 3)=[.int t.one,.int t.other,.tuple [.int t.top,.int t.bot]]:=rfl
        simp only [cj]
        rw [show(us'++[(⟨t.one,t.other,t.top,t.bot,min 1000 (t.worth+1)⟩:lc)]).map aY=us'.map aY++[.tuple [.int t.one,.int t.other,.tuple [.int t.top,.int t.bot],.int (min 1000 (t.worth+1))]] by rw [List.map_append];rfl,←st5]
        rw [show aY t=.tuple [.int t.one,.int t.other,.tuple [.int t.top,.int t.bot],.int t.worth] from rfl] at at5
        generalize (us'++[t]).map aY=UU at*
        generalize us'.length=UL at*
        simp? [q,t11,gm,at5,cu,ko,iN,iO,ix5]
    · refine⟨us'++[t],d11,ht10,rfl,hd11,?_⟩
      simp only [cj]
      generalize (us'++[t]).map aY=UU at*
      simp? [q,t11,gm,c]
theorem zD{ds:List Int}(hd:iH ds):∃(W:cf) (ns qs ds':List Int),kz [.l (ds.map .int)]=some (.d (.tuple [aU W,.tuple [.tuple (ns.map .int),.tuple (qs.map .int)]]),[.l (ds'.map .int)])∧iH ds'∧W.Ok∧ns.length≤10∧2≤qs.length∧qs.length≤9∧∀x∈qs,0≤x∧x≤500:=by
  obtain⟨n1,d1,t1, -, -,hd1⟩:=fj hd
  have g1:∀e:En,aZ e (.d (.int n1)) (.d (.int 8))=some (.d (.int (n1 % 8))):=fun e=>az (by decide)
  have a0:=oM (n:=n1) (k:=8) (by decide);have a1:=oO (n:=n1) (k:=8) (by decide)
  obtain⟨th,hth⟩:∃th,th=2+n1 % 8:=⟨_,rfl⟩
  have g1':∀e:En,aK e (.d (.int 2)) (.d (.int (n1 % 8)))=some (.d (.int th)):=fun e=>by rw [a8,hth]
  generalize n1 % 8=m8 at*
  have h2:2≤th:=by lia
  have h9:th≤9:=by lia
  obtain⟨n2,d2,t2, -, -,hd2⟩:=fj hd1
  have g2:∀e:En,aZ e (.d (.int n2)) (.d (.int 3))=some (.d (.int (n2 % 3))):=fun e=>az (by decide)
  have b0:=oM (n:=n2) (k:=3) (by decide);have b1:=oO (n:=n2) (k:=3) (by decide)
  generalize n2 % 3=m3 at*
  obtain⟨z,hz,ha⟩:=l8 (xs:=[PyData.int 3,.int 20,.int 500]) (i:=m3) b0 (by simpa using b1)
  obtain⟨top,rfl,p0,p1⟩:∃s:Int,z=.int s∧0≤s∧s≤500:=by
    simp only [List.mem_cons,List.not_mem_nil,or_false] at hz
    rcases hz with rfl | rfl | rfl<;>exact⟨_,rfl,by decide,by decide⟩
  obtain⟨out,e',c1,c2,c3,⟨d3,v,he,hd3⟩⟩:=lD (g:=ah 2) (ft:=bI) (fe:=i7) (fun i e=>∃ds v,e=[some (.l (ds.map .int)),some (.d (.int top)),v]∧iH ds) (fun d=>∃i:Int,d=.int i∧0≤i∧i≤500) (bK 0 th.toNat) 0 [some (.l (d2.map .int)),some (.d (.int top)),none] [] (fun i x e hx ⟨ds,v,he,hd⟩=>by
    subst he
    obtain⟨n,d2,t1, -, -,hd2⟩:=fj hd
    have gm:∀e:En,aZ e (.d (.int n)) (.d (.int (top+1)))=some (.d (.int (n % (top+1)))):=fun e=>az (by lia)
    have e0:=oM (n:=n) (k:=top+1) (by lia);have e1:=oO (n:=n) (k:=top+1) (by lia)
    refine⟨_,.d (.int (n % (top+1))),.int (n % (top+1)),_,rfl,rfl,?_,rfl,⟨_,rfl,by lia,by lia⟩,d2,some (.d x),rfl,hd2⟩
    simp? [i7,t1,gm]) ⟨d2,none,rfl,hd2⟩ (by rw [e_];simp;lia)
  subst he
  rw [List.nil_append] at c1
  rw [e_] at c2
  obtain⟨qs,rfl,hq⟩:∃qs:List Int,out=qs.map .int∧∀x∈qs,0≤x∧x≤500:=by
    clear c1 c2
    induction out with
    | nil=>exact⟨[],rfl,fun x h=>by cases h⟩
    | cons x r ih=>
      obtain⟨qs,e,h⟩:=ih fun d hd=>c3 d (by simp [hd])
      obtain⟨i,rfl,i0,i1⟩:=c3 x (by simp)
      refine⟨i::qs,by rw [e];rfl,fun y hy=>?_⟩
      rcases List.mem_cons.mp hy with rfl | hy
      · exact⟨i0,i1⟩
      · exact h y hy
  have hQ:lb th qs:=⟨by rw [List.length_map] at c2;lia,hq⟩
  have hi7:i_ [some (.l (d2.map .int)),some (.d (.int th)),some (.d (.int top)),none,none,none,none,none,none,none,none,none,none,none]=some (bK 0 th.toNat,[],[some (.l (d2.map .int)),some (.d (.int th)),some (.d (.int top)),none,none,none,none,none,none,none,none,none,none,none]):=dY (n:=th) (by simp? [List.replicate]) (by lia) (by lia)
  have hv:dJ [(0,"_law_numbers"),(2,"_law_top")] 1 i_ (ah 2) bI i7 [some (.l (d2.map .int)),some (.d (.int th)),some (.d (.int top)),none,none,none,none,none,none,none,none,none,none,none]=some (.l (qs.map .int),[some (.l (d3.map .int)),some (.d (.int th)),some (.d (.int top)),none,none,none,none,none,none,none,none,none,none,none]):=by
    rw [rR (cp:=[(0,"_law_numbers"),(2,"_law_top")]) (nT:=1) (fi:=i_) (items:=bK 0 th.toNat) hi7 c1 rfl]
    rfl
  obtain⟨n4,d4,t4, -, -,hd4⟩:=fj hd3
  have gf:∀e:En,fQ e (.d (.int th)) (.d (.int 2))=some (.d (.int (th / 2))):=fun e=>ig (by decide) (ma (by decide) (by decide))
  have g4:∀e:En,aZ e (.d (.int n4)) (.d (.int (th / 2+1)))=some (.d (.int (n4 % (th / 2+1)))):=fun e=>az (by lia)
  have f0:=oM (n:=n4) (k:=th / 2+1) (by lia);have f1:=oO (n:=n4) (k:=th / 2+1) (by lia)
  generalize n4 % (th / 2+1)=m at*
  obtain⟨e5,h5,hI⟩:=cU (own:=[]) (g:=ah 6) (f:=gL) (BD th top qs) (bK 0 m.toNat) 0 (cj d4 th top qs (cK th.toNat) [] none none none none none none none none) (fun i x e hx hI=>by
    obtain⟨rfl,hi⟩:=gk hx
    rw [Nat.zero_add] at hI ⊢
    obtain⟨e2,k1,k2⟩:=yl h2 h9 hQ (i:=i) (by lia) hI
    obtain⟨hd,nd,hr,hl,tl,ht⟩:=hI
    exact⟨_,e2,rfl,k1,dq,k2⟩) (.mk hd4 (wu _) (fun x hx=>by have:=ur hx;lia) (by rw [kU];lia) rfl (fun t ht=>by cases ht))
  obtain⟨hd5,nd5,hr5,hl5,tl5,ht5⟩:=hI
  rename_i d5 lf ts v6 v7 v8 v9
  rw [Nat.zero_add,e_] at tl5
  have hf5:∀Wl,dS Wl ky (ah 6) gL (cj d3 th top qs (cK th.toNat) [] none none none none none none none none)=some (.nx (cj d5 th top qs lf ts v6 v7 v8 v9 none none none none)):=fun Wl=>by
    rw [fD (show ky _=some (bK 0 m.toNat,[],cj d4 th top qs (cK th.toNat) [] none none none none none none none none) from dY (n:=m) (by simp? [cj,t4,gf,g4]) (by lia) (by lia))]
    exact h5
  obtain⟨e8,h8,hB⟩:=cU (own:=[(4,lf.map .int)]) (g:=ah 7) (f:=gK) (fun _=>BE d5 th top lf ts v6 v8 v9 (some (.l ((cK ts.length).map .int)))) (lf.map .int) 0 (cj d5 th top qs lf ts v6 v7 v8 v9 (some (.l ((cK ts.length).map .int))) none none none) (fun i x e hx hI=>by
    obtain⟨k,hk,rfl⟩:=List.mem_map.mp (List.mem_of_getElem? hx)
    obtain⟨e2,k1,k2,k3⟩:=ym (hr5 k hk) hI
    obtain⟨hq⟩:=hI
    exact⟨_,e2,rfl,k1,k2,k3⟩) (.mk hQ)
  obtain⟨hQ8⟩:=hB
  rename_i qs8 w7
  have hf8:dS ([7]++[]) kx (ah 7) gK (cj d5 th top qs lf ts v6 v7 v8 v9 (some (.l ((cK ts.length).map .int))) none none none)=some (.nx (cj d5 th top qs8 lf ts v6 w7 v8 v9 (some (.l ((cK ts.length).map .int))) none none none)):=by
    unfold dS
    rw [show kx (cj d5 th top qs lf ts v6 v7 v8 v9 (some (.l ((cK ts.length).map .int))) none none none)=some (lf.map .int,[(4,lf.map .int)],cj d5 th top qs lf ts v6 v7 v8 v9 (some (.l ((cK ts.length).map .int))) none none none) from rfl]
    exact h8
  obtain⟨n9,d9,t9, -, -,hd9⟩:=fj hd5
  have g9:∀e:En,aZ e (.d (.int n9)) (.d (.int 7))=some (.d (.int (n9 % 7))):=fun e=>az (by decide)
  have k0:=oM (n:=n9) (k:=7) (by decide);have k1:=oO (n:=n9) (k:=7) (by decide)
  generalize n9 % 7=m9 at*
  obtain⟨e9,h9',hC⟩:=cU (own:=[]) (g:=ah 6) (f:=gJ) (BF th top qs8 lf ts.length v9 (some (.l ((cK ts.length).map .int)))) (bK 0 m9.toNat) 0 (cj d9 th top qs8 lf ts v6 w7 v8 v9 (some (.l ((cK ts.length).map .int))) none none none) (fun i x e hx hI=>by
    obtain⟨_,hi⟩:=gk hx
    rw [Nat.zero_add] at hI ⊢
    obtain⟨e2,k1,k2⟩:=yn (x:=x) h2 h9 (by lia) hQ8 hI
    obtain⟨hd,tl,ht⟩:=hI
    exact⟨_,e2,rfl,k1,dq,k2⟩) (.mk hd9 rfl ht5)
  obtain⟨hd10,tl10,ht10⟩:=hC
  rename_i d10 us u6 u7 u8 u11 u12
  rw [Nat.zero_add,e_] at tl10
  have hf9:∀Wl,dS Wl ku (ah 6) gJ (cj d5 th top qs8 lf ts v6 w7 v8 v9 (some (.l ((cK ts.length).map .int))) none none none)=some (.nx (cj d10 th top qs8 lf us u6 u7 u8 v9 (some (.l ((cK ts.length).map .int))) u11 u12 none)):=fun Wl=>by
    rw [fD (show ku _=some (bK 0 m9.toNat,[],cj d9 th top qs8 lf ts v6 w7 v8 v9 (some (.l ((cK ts.length).map .int))) none none none) from dY (n:=m9) (by simp? [cj,t9,g9]) (by lia) (by lia))]
    exact h9'
  obtain⟨ws,d11,htw,lw,hd11,hbend⟩:=yo (top:=top) (qs:=qs8) (lf:=lf) (u6:=u6) (u7:=u7) (u8:=u8) (v9:=v9) (v10:=some (.l ((cK ts.length).map .int))) (u11:=u11) (u12:=u12) hd10 ht10
  obtain⟨n12,d12,t12, -, -,hd12⟩:=fj hd11
  have g12:∀e:En,aZ e (.d (.int n12)) (.d (.int 41))=some (.d (.int (n12 % 41))):=fun e=>az (by decide)
  have y0:=oM (n:=n12) (k:=41) (by decide);have y1:=oO (n:=n12) (k:=41) (by decide)
  generalize n12 % 41=asks at*
  have rep:∀e:En,jB e (.d (.tuple [.int 1])) (.d (.int th))=some (.d (.tuple ((List.replicate th.toNat (1:Int)).map .int))):=fun e=>by rw [List.map_replicate];exact x4 (by lia) (by lia)
  have Wok:(cf.mk th ws (List.replicate th.toNat 1) asks).Ok:=⟨by show 0≤th;lia,by show th≤12;lia,htw,by show ws.length≤16;lia,by show((List.replicate th.toNat (1:Int)).length:Int)=th;rw [List.length_replicate];lia,fun q hq=>by have:=(List.mem_replicate.mp hq).2;lia,y0,by show asks≤40;lia⟩
  refine⟨⟨th,ws,List.replicate th.toNat 1,asks⟩,cK ts.length,qs8,d12,?_,hd12,Wok,by rw [kU];lia,by have:=hQ8.len;lia,by have:=hQ8.len;lia,hQ8.rng⟩
  have main:oT [some (.l (ds.map .int)),none,none,none,none,none,none,none,none,none,none,none,none,none]=some (.rt (.d (.tuple [aU ⟨th,ws,List.replicate th.toNat 1,asks⟩,.tuple [.tuple ((cK ts.length).map .int),.tuple (qs8.map .int)]])) (cj d12 th top qs8 lf ws u6 u7 u8 v9 (some (.l ((cK ts.length).map .int))) u11 u12 (some (.d (aU ⟨th,ws,List.replicate th.toNat 1,asks⟩))))):=by
    unfold oT
    refine(aC (e1:=[some (.l (d1.map .int)),some (.d (.int th)),none,none,none,none,none,none,none,none,none,none,none,none]) ?_).trans ?_
    · simp? [t1,g1,g1', -a8]
    refine(aC (e1:=[some (.l (d2.map .int)),some (.d (.int th)),some (.d (.int top)),none,none,none,none,none,none,none,none,none,none,none]) ?_).trans ?_
    · simp? [t2,g2,ha]
    refine(aC (e1:=[some (.l (d3.map .int)),some (.d (.int th)),some (.d (.int top)),some (.l (qs.map .int)),none,none,none,none,none,none,none,none,none,none]) ?_).trans ?_
    · simp? [hv]
    refine(aC (e1:=[some (.l (d3.map .int)),some (.d (.int th)),some (.d (.int top)),some (.l (qs.map .int)),some (.l ((cK th.toNat).map .int)),none,none,none,none,none,none,none,none,none]) ?_).trans ?_
    · have th1:th≤100000:=by lia
      have th0:0≤th:=by lia
      simp? [iq,th1,th0]
    refine(aC (e1:=cj d3 th top qs (cK th.toNat) [] none none none none none none none none) ?_).trans ?_
    · simp? [cj]
    refine(aC (hf5 _)).trans ?_
    refine(aC (e1:=cj d5 th top qs lf ts v6 v7 v8 v9 (some (.l ((cK ts.length).map .int))) none none none) ?_).trans ?_
    · have q1:((ts.map aY).length:Int)=(ts.length:Int):=by simp
      have q2:(ts.length:Int)≤100000:=by lia
      have q3:((ts.length:Int)).toNat=ts.length:=by lia
      simp only [cj]
      generalize ts.map aY=TT at*
      simp? [iq,q1,q2,q3]
    refine(aC hf8).trans ?_
    refine(aC (hf9 _)).trans ?_
    refine(aC hbend).trans ?_
    rw [i3]
    simp only [cj]
    generalize (cK ts.length).map PyData.int=NN at*
    generalize qs8.map PyData.int=QQ at*
    generalize lf.map PyData.int=LL at*
    generalize ws.map aY=TT at*
    generalize (List.replicate th.toNat (1:Int)).map PyData.int=RP at*
    simp? [t12,g12,rep]
  unfold kz
  simp only [cj] at main
  generalize aU ⟨th,ws,List.replicate th.toNat 1,asks⟩=WW at*
  simp? [main]
abbrev pE(ds:List Int)(QQ:List PyData)(at_ oth:Int)(found some_:List PyData)(v6 v7:Option Sv):En:=[some (.l (ds.map .int)),some (.d (.tuple QQ)),some (.d (.int at_)),some (.d (.int oth)),some (.l found),some (.l some_),v6,v7]
inductive PK (ds:List Int) (QQ:List PyData) (at_ oth:Int) (some_:List PyData) (v7:Option Sv) (i:Nat):En→Prop
  | mk {found v6} (hl:found.length=5+i):PK ds QQ at_ oth some_ v7 i (pE ds QQ at_ oth found some_ v6 v7)
def dw(p:Int)(x:Str):List PyData:=[.int (p+1),.int (p - 1),.int (-1),.int 0,.bool true,.bool false,.none,.str x,.tuple [.int p,.int 1],.list [.int 0],.dict [(.int 0,.int 1)]]
theorem lr{ds qs:List Int}(hd:iH ds)(h2:2≤qs.length)(h9:qs.length≤9)(hq:∀x∈qs,0≤x∧x≤500):∃(ds':List Int) (L:List PyData),cV [.l (ds.map .int),.d (.tuple (qs.map .int))]=some (.l L,[.l (ds'.map .int),.d (.tuple (qs.map .int))])∧iH ds'∧L.length≤30:=by
  obtain⟨n1,d1,t1, -, -,hd1⟩:=fj hd
  have lp:0 < (qs.length:Int):=by lia
  have gl:∀(e:En) (xs:List PyData),g1 gP e [.d (.tuple xs)]=some (.l xs):=fun e xs=>rfl
  have gm1:∀e:En,aZ e (.d (.int n1)) (.d (.int (qs.length:Int)))=some (.d (.int (n1 % (qs.length:Int)))):=fun e=>az lp
  have a0:=oM (n:=n1) lp;have a1:=oO (n:=n1) lp
  generalize n1 % (qs.length:Int)=at_ at*
  obtain⟨n2,d2,t2, -, -,hd2⟩:=fj hd1
  have gm2:∀e:En,aZ e (.d (.int n2)) (.d (.int (qs.length:Int)))=some (.d (.int (n2 % (qs.length:Int)))):=fun e=>az lp
  have b0:=oM (n:=n2) lp;have b1:=oO (n:=n2) lp
  generalize n2 % (qs.length:Int)=oth at*
  have lnn:((qs.map PyData.int).length:Int)=(qs.length:Int):=by simp
  have ix:=cT (ns:=qs) (k:=at_) a0 a1
  have rng:=(lb.mk (n:=(qs.length:Int)) rfl hq).at a0 a1
  generalize hp:qs.getD at_.toNat 0=p at*
  have gs:∀e:En,g1 nK e [.d (.int p)]=some (.d (.str (nS p))):=fun e=>sP rng.1 (by lia)
  have gi:∀e:En,sG false e (.d (.int 1)) (.d (.tuple (qs.map .int)))=some (.d (.bool (qs.contains 1))):=fun e=>gO
  have hX:(1:Int)∈qs→∀(v2 v3 v4 v5 v6 v7:Option Sv),oJ false gX (ac 1) (vC (.int 1)) [some (.l (d2.map .int)),some (.d (.tuple (qs.map .int))),v2,v3,v4,v5,v6,v7]=some (.d (.int (qs.idxOf 1:Nat)),[some (.l (d2.map .int)),some (.d (.tuple (qs.map .int))),v2,v3,v4,v5,v6,v7]):=fun h1 v2 v3 v4 v5 v6 v7=>by
    have ei:=cI qs
    generalize qs.map PyData.int=NN at*
    simp? [oJ,zv,bP,bL,ei,gX,h1]
  have hc1:qs.contains 1=true→(1:Int)∈qs:=fun h=>List.contains_iff_mem.mp h
  have two:at_≠oth→∃y:List Int,∀(found some_:List PyData) (v6 v7:Option Sv),found.length < 1000000→∃w7,(aw (ba 7 (ay (g1 gP) (aa (ac 1) ag)))
    (aw (iN (ar aK (ar cO (ac 7) (ac 2)) (vC (.int 1))) (ac 7) (ac 2))
    (aw (iN (ar eT (ar cO (ac 7) (ac 3)) (vC (.int 1))) (ac 7) (ac 3))
    (dU (b_ be (ac 4) (aa (ay (g1 dW) (aa (ac 7) ag)) ag)))))) (pE d2 (qs.map .int) at_ oth found some_ v6 v7)=some (.nx (pE d2 (qs.map .int) at_ oth (found++[.tuple (y.map .int)]) some_ v6 w7)):=fun ne=>by
    have l2:((qs.set at_.toNat (p+1)).length:Int)=(qs.length:Int):=by rw [List.length_set]
    have hix1:nR (qs.map PyData.int).length at_=some at_.toNat:=by unfold nR;rw [if_pos a0,if_pos (by rw [List.length_map];lia)]
    have hix2:nR ((qs.set at_.toNat (p+1)).map PyData.int).length oth=some oth.toNat:=by unfold nR;rw [if_pos b0,if_pos (by rw [List.length_map,List.length_set];lia)]
    have iy:=cT (ns:=qs.set at_.toNat (p+1)) (k:=oth) b0 (by lia)
    generalize (qs.set at_.toNat (p+1)).getD oth.toNat 0=z at*
    refine⟨(qs.set at_.toNat (p+1)).set oth.toNat (z - 1),fun found some_ v6 v7 hf=>⟨some (.l (((qs.set at_.toNat (p+1)).set oth.toNat (z - 1)).map .int)),?_⟩⟩
    refine(aC (e1:=pE d2 (qs.map .int) at_ oth found some_ v6 (some (.l (qs.map .int)))) ?_).trans ?_
    · simp only [pE]
      generalize qs.map PyData.int=NN at*
      simp? [gl]
    refine(aC (e1:=pE d2 (qs.map .int) at_ oth found some_ v6 (some (.l ((qs.set at_.toNat (p+1)).map .int)))) ?_).trans ?_
    · simp only [pE,List.map_set]
      generalize qs.map PyData.int=NN at*
      simp? [ix,iN,iO,hix1]
    refine(aC (e1:=pE d2 (qs.map .int) at_ oth found some_ v6 (some (.l (((qs.set at_.toNat (p+1)).set oth.toNat (z - 1)).map .int)))) ?_).trans ?_
    · rw [List.map_set (l:=qs.set at_.toNat (p+1))]
      simp only [pE]
      generalize (qs.set at_.toNat (p+1)).map PyData.int=N2 at*
      generalize qs.map PyData.int=NN at*
      simp? [iy,iN,iO,hix2]
    · simp only [pE]
      generalize ((qs.set at_.toNat (p+1)).set oth.toNat (z - 1)).map PyData.int=N2 at*
      generalize qs.map PyData.int=NN at*
      simp? [hf]
  generalize (qs.length:Int)=QL at*
  have cln:(qs.map PyData.int).length≤9:=by rw [List.length_map];exact h9
  generalize qs.map PyData.int=NN at*
  generalize qs.idxOf 1=jx at*
  generalize qs.contains 1=has at*
  have cA:=L2.cut_len (xs:=NN) (lo:=none) (hi:=some at_)
  have cB:=L2.cut_len (xs:=NN) (lo:=some (at_+1)) (hi:=none)
  have cX:=L2.cut_len (xs:=NN) (lo:=none) (hi:=some (jx:Int))
  have cY:=L2.cut_len (xs:=NN) (lo:=some ((jx:Int)+1)) (hi:=none)
  generalize hA:L2.cutD NN none (some at_)=A at*
  generalize hB:L2.cutD NN (some (at_+1)) none=B at*
  generalize hC1:L2.cutD NN (some 1) none=C1 at*
  generalize hXX:L2.cutD NN none (some (jx:Int))=XX at*
  generalize hYY:L2.cutD NN (some ((jx:Int)+1)) none=YY at*
  have gc:∀(xs ys:List PyData),xs.length≤100→ys.length≤100→∀e:En,aK e (.d (.tuple xs)) (.d (.tuple ys))=some (.d (.tuple (xs++ys))):=fun xs ys h1 h2 e=>ko (by lia)
  have k1:=gc NN [.int 0] (by lia) (by simp)
  obtain⟨e3,h3,hK⟩:=cU (own:=[(5,dw p (nS p))]) (g:=ah 6) (f:=c_) (PK d2 NN at_ oth (dw p (nS p)) none) (dw p (nS p)) 0 (pE d2 NN at_ oth [.tuple C1,.tuple (NN++[.int 0]),.list NN,.none,.tuple []] (dw p (nS p)) none none) (fun i x e hx hK=>by
    obtain⟨hl⟩:=hK
    rename_i fd v6
    have ilt:=(List.getElem?_eq_some_iff.mp hx).1
    have i11:i < 11:=ilt
    have g1:=gc A [x] (by lia) (by simp)
    have g2:=gc (A++[x]) B (by simp;lia) (by lia)
    have lf:fd.length < 1000000:=by lia
    refine⟨pE d2 NN at_ oth fd (dw p (nS p)) (some (.d x)) none,pE d2 NN at_ oth (fd++[.tuple (A++[x]++B)]) (dw p (nS p)) (some (.d x)) none,rfl,?_,fun q hq=>by simp at hq;subst hq;rfl,.mk (by rw [List.length_append];simp only [List.length_cons,List.length_nil];lia)⟩
    generalize hAx:A++[x]=AX at*
    generalize AX++B=AB at*
    simp only [pE]
    generalize dw p (nS p)=OP at*
    simp? [c_,hA,hB,g1,g2,lf, -a8,a8]) (.mk rfl)
  obtain⟨hl3⟩:=hK
  rename_i fd w6
  have l11:(dw p (nS p)).length=11:=rfl
  rw [l11] at hl3
  have hf:dS ([6]++[]) ez (ah 6) c_ (pE d2 NN at_ oth [.tuple C1,.tuple (NN++[.int 0]),.list NN,.none,.tuple []] (dw p (nS p)) none none)=some (.nx (pE d2 NN at_ oth fd (dw p (nS p)) w6 none)):=by
    unfold dS
    rw [show ez (pE d2 NN at_ oth [.tuple C1,.tuple (NN++[.int 0]),.list NN,.none,.tuple []] (dw p (nS p)) none none)=some (dw p (nS p),[(5,dw p (nS p))],pE d2 NN at_ oth [.tuple C1,.tuple (NN++[.int 0]),.list NN,.none,.tuple []] (dw p (nS p)) none none) from rfl]
    exact h3
  obtain⟨fd4,w7,hl4,h4⟩:∃(fd4:List PyData) (w7:Option Sv),fd4.length≤fd.length+1∧(gD (aG (ar (cv true) (ac 2) (ac 3)))
    (aw (ba 7 (ay (g1 gP) (aa (ac 1) ag)))
    (aw (iN (ar aK (ar cO (ac 7) (ac 2)) (vC (.int 1))) (ac 7) (ac 2))
    (aw (iN (ar eT (ar cO (ac 7) (ac 3)) (vC (.int 1))) (ac 7) (ac 3))
    (dU (b_ be (ac 4) (aa (ay (g1 dW) (aa (ac 7) ag)) ag))))))
    dm) (pE d2 NN at_ oth fd (dw p (nS p)) w6 none)=some (.nx (pE d2 NN at_ oth fd4 (dw p (nS p)) w6 w7)):=by
    by_cases c:at_=oth
    · refine⟨fd,none,by lia,?_⟩
      have ge:∀e:En,cv true e (.d (.int at_)) (.d (.int oth))=some (.d (.bool false)):=fun e=>by rw [eF];simp [c]
      simp only [pE]
      generalize dw p (nS p)=OP at*
      unfold gD
      simp? [ge]
    · obtain⟨y,hy⟩:=two c
      obtain⟨w7,hw⟩:=hy fd (dw p (nS p)) w6 none (by lia)
      refine⟨fd++[.tuple (y.map .int)],w7,by simp,?_⟩
      have ge:∀e:En,cv true e (.d (.int at_)) (.d (.int oth))=some (.d (.bool true)):=fun e=>by rw [eF];simp [c]
      have ht:aG (ar (cv true) (ac 2) (ac 3)) (pE d2 NN at_ oth fd (dw p (nS p)) w6 none)=some (true,pE d2 NN at_ oth fd (dw p (nS p)) w6 none):=by
        simp only [pE]
        generalize dw p (nS p)=OP at*
        simp? [ge]
      unfold gD
      rw [ht]
      exact hw
  obtain⟨fd5,hl5,h5⟩:∃(fd5:List PyData),fd5.length≤fd4.length+1∧(gD (aG (ar (sG false) (vC (.int 1)) (ac 1)))
    (dU (b_ be (ac 4) (aa (ar aK (ar aK (j_ (ac 1) cx (cg (oJ false gX (ac 1) (vC (.int 1))))) (aP (aa (vC (.bool true)) ag))) (j_ (ac 1) (cg (ar aK (oJ false gX (ac 1) (vC (.int 1))) (vC (.int 1)))) cx)) ag)))
    dm) (pE d2 NN at_ oth fd4 (dw p (nS p)) w6 w7)=some (.nx (pE d2 NN at_ oth fd5 (dw p (nS p)) w6 w7)):=by
    cases has with
    | false=>
      refine⟨fd4,by lia,?_⟩
      simp only [pE]
      generalize dw p (nS p)=OP at*
      simp? [gi]
    | true=>
      have hX:=hX (hc1 rfl)
      have g1:=gc XX [.bool true] (by lia) (by simp)
      have g2:=gc (XX++[.bool true]) YY (by simp;lia) (by lia)
      have lf:fd4.length < 1000000:=by lia
      refine⟨fd4++[.tuple (XX++[.bool true]++YY)],by simp,?_⟩
      simp only [pE]
      generalize hQ1:XX++[PyData.bool true]=Q1 at*
      generalize Q1++YY=Q2 at*
      generalize dw p (nS p)=OP at*
      simp? [gi,hX,hXX,hYY,g1,g2,lf, -a8,a8]
  refine⟨d2,fd5,?_,hd2,by lia⟩
  have main:fH [some (.l (ds.map .int)),some (.d (.tuple NN)),none,none,none,none,none,none]=some (.rt (.s 4) (pE d2 NN at_ oth fd5 (dw p (nS p)) w6 w7)):=by
    unfold fH
    refine(aC (e1:=[some (.l (d1.map .int)),some (.d (.tuple NN)),some (.d (.int at_)),none,none,none,none,none]) ?_).trans ?_
    · simp? [t1,lnn,gm1]
    refine(aC (e1:=[some (.l (d2.map .int)),some (.d (.tuple NN)),some (.d (.int at_)),some (.d (.int oth)),none,none,none,none]) ?_).trans ?_
    · simp? [t2,lnn,gm2]
    refine(aC (e1:=[some (.l (d2.map .int)),some (.d (.tuple NN)),some (.d (.int at_)),some (.d (.int oth)),some (.l [.tuple C1,.tuple (NN++[.int 0]),.list NN,.none,.tuple []]),none,none,none]) ?_).trans ?_
    · generalize NN++[PyData.int 0]=NZ at*
      simp? [hC1,k1,gl, -a8,a8]
    refine(aC (e1:=pE d2 NN at_ oth [.tuple C1,.tuple (NN++[.int 0]),.list NN,.none,.tuple []] (dw p (nS p)) none none) ?_).trans ?_
    · simp? [pE,dw,ix,gs,jr]
    refine(aC hf).trans ?_
    refine(aC h4).trans ?_
    refine(aC h5).trans ?_
    simp only [pE]
    generalize dw p (nS p)=OP at*
    simp? [List.replicate]
  unfold cV
  simp only [pE] at main
  generalize dw p (nS p)=OP at*
  simp? [main]
abbrev qE(ds:List Int)(W:cf)(NN:List PyData)(at_:Int)(found:List PyData)(v5:Option Sv):En:=[some (.l (ds.map .int)),some (.d (aU W)),some (.d (.tuple NN)),some (.d (.int at_)),some (.l found),v5]
inductive QK (ds:List Int) (W:cf) (NN:List PyData) (at_:Int) (i:Nat):En→Prop
  | mk {found v5} (hl:found.length=6+2*i):QK ds W NN at_ i (qE ds W NN at_ found v5)
def vA(a b:Int):List PyData:=[.int a,.int b,.int (-1),.bool true,.bool false,.none,.str "0",.tuple [.int 0],.list [.int 0],.dict [(.int 0,.int 1)]]
theorem k7{W:cf}(ok:W.Ok){ds rs:List Int}(hd:iH ds)(hr:rs.length≤12):∃(ds':List Int) (L:List PyData),bN [.l (ds.map .int),.d (aU W),.d (.tuple (rs.map .int))]=some (.l L,[.l (ds'.map .int),.d (aU W),.d (.tuple (rs.map .int))])∧iH ds'∧L.length≤30:=by
  have gw:=Ak (W:=W)
  have wl:=ok.len
  have qtl:(((W.ties.map aY).length:Nat):Int)=(W.ties.length:Int):=by simp
  have gl:∀(e:En) (xs:List PyData),g1 gP e [.d (.tuple xs)]=some (.l xs):=fun e xs=>rfl
  have gr:∀(e:En) (xs:List PyData),B8 e (.d (.tuple xs)) (.d (.int (-1)))=some (.d (.tuple xs.reverse)):=fun e xs=>rfl
  obtain⟨n,d1,t1,n0, -,hd1⟩:=fj hd
  have lp:0 < (rs.length:Int)+1:=by lia
  have gm:∀e:En,aZ e (.d (.int n)) (.d (.int ((rs.length:Int)+1)))=some (.d (.int (n % ((rs.length:Int)+1)))):=fun e=>az lp
  have q0:=oM (n:=n) lp;have q1:=oO (n:=n) lp
  generalize n % ((rs.length:Int)+1)=at_ at*
  obtain⟨n2,d2,t2, -, -,hd2⟩:=fj hd1
  have gm2:∀e:En,aZ e (.d (.int n2)) (.d (.int ((W.ties.length:Int)+1)))=some (.d (.int (n2 % ((W.ties.length:Int)+1)))):=fun e=>az (by lia)
  generalize n2 % ((W.ties.length:Int)+1)=z2 at*
  have lnn:(rs.map PyData.int).length=rs.length:=by simp
  have gi:∀e:En,sG false e (.d (.int 1)) (.d (.tuple (rs.map .int)))=some (.d (.bool (rs.contains 1))):=fun e=>gO
  have hX:(1:Int)∈rs→∀(v3 v4 v5:Option Sv),oJ false gX (ac 2) (vC (.int 1)) [some (.l (d2.map .int)),some (.d (aU W)),some (.d (.tuple (rs.map .int))),v3,v4,v5]=some (.d (.int (rs.idxOf 1:Nat)),[some (.l (d2.map .int)),some (.d (aU W)),some (.d (.tuple (rs.map .int))),v3,v4,v5]):=fun h1 v3 v4 v5=>by
    have ei:=cI rs
    generalize rs.map PyData.int=NN at*
    simp? [oJ,zv,bP,bL,ei,gX,h1]
  have hc1:rs.contains 1=true→(1:Int)∈rs:=fun h=>List.contains_iff_mem.mp h
  generalize rs.map PyData.int=NN at*
  generalize rs.idxOf 1=jx at*
  generalize rs.contains 1=has at*
  have cA:=L2.cut_len (xs:=NN) (lo:=none) (hi:=some at_)
  have cB:=L2.cut_len (xs:=NN) (lo:=some (at_+1)) (hi:=none)
  have cC:=L2.cut_len (xs:=NN) (lo:=some at_) (hi:=none)
  have c2:=L2.cut_len (xs:=NN) (lo:=none) (hi:=some 1)
  have cX:=L2.cut_len (xs:=NN) (lo:=none) (hi:=some (jx:Int))
  have cY:=L2.cut_len (xs:=NN) (lo:=some ((jx:Int)+1)) (hi:=none)
  generalize hA:L2.cutD NN none (some at_)=A at*
  generalize hB:L2.cutD NN (some (at_+1)) none=B at*
  generalize hC:L2.cutD NN (some at_) none=C at*
  generalize hC2:L2.cutD NN none (some 1)=C2 at*
  generalize hXX:L2.cutD NN none (some (jx:Int))=XX at*
  generalize hYY:L2.cutD NN (some ((jx:Int)+1)) none=YY at*
  have gc:∀(xs ys:List PyData),xs.length≤100→ys.length≤100→∀e:En,aK e (.d (.tuple xs)) (.d (.tuple ys))=some (.d (.tuple (xs++ys))):=fun xs ys h1 h2 e=>ko (by lia)
  have k2:=gc NN C2 (by lia) (by lia)
  have k3:=gc A B (by lia) (by lia)
  obtain⟨e3,h3,hK⟩:=cU (own:=[]) (g:=ah 5) (f:=cE) (QK d2 W NN at_) (vA z2 (W.ties.length:Int)) 0 (qE d2 W NN at_ [.tuple (A++B),.tuple (NN++C2),.tuple NN.reverse,.list NN,.none,.tuple [.tuple NN]] none) (fun i x e hx hK=>by
    obtain⟨hl⟩:=hK
    rename_i fd v5
    have ilt:=(List.getElem?_eq_some_iff.mp hx).1
    have i10:i < 10:=ilt
    have g1:=gc A [x] (by lia) (by simp)
    have g2:=gc (A++[x]) B (by simp;lia) (by lia)
    have g3:=gc (A++[x]) C (by simp;lia) (by lia)
    have lf:fd.length < 1000000:=by lia
    have lf2:fd.length+1 < 1000000:=by lia
    refine⟨qE d2 W NN at_ fd (some (.d x)),qE d2 W NN at_ (fd++[.tuple (A++[x]++B),.tuple (A++[x]++C)]) (some (.d x)),rfl,?_,dq,.mk (by rw [List.length_append];simp only [List.length_cons,List.length_nil];lia)⟩
    generalize hAx:A++[x]=AX at*
    generalize AX++B=AB at*
    generalize AX++C=AC at*
    simp only [qE]
    simp? [cE,hA,hB,hC,g1,g2,g3,lf,lf2, -a8,a8]) (.mk rfl)
  obtain⟨hl3⟩:=hK
  rename_i fd w5
  have l10:(vA z2 (W.ties.length:Int)).length=10:=rfl
  rw [l10] at hl3
  have hi:∀(found:List PyData) (v5:Option Sv),dX (qE d1 W NN at_ found v5)=some (vA z2 (W.ties.length:Int),[],qE d2 W NN at_ found v5):=fun found v5=>by
    unfold dX
    refine o8 ?_
    generalize W.ties.map aY=TT at*
    simp? [qE,vA,jr,gw,qtl,t2,gm2]
  have hg:=fun Wl=>fD (W:=Wl) (g:=ah 5) (f:=cE) (hi [.tuple (A++B),.tuple (NN++C2),.tuple NN.reverse,.list NN,.none,.tuple [.tuple NN]] none)
  rw [h3] at hg
  have lf:fd.length < 1000000:=by lia
  simp only [qE] at hg
  generalize hP2:NN++C2=P2 at*
  generalize hP3:A++B=P3 at*
  have gr':=fun e=>gr e NN
  generalize NN.reverse=NR at*
  cases has with
  | false=>
    refine⟨d2,fd,?_,hd2,by lia⟩
    simp? [bN,eQ,t1,lnn,gm,hC2,hA,hB,k2,k3,gr',gl,zR,hg,gi, -a8,a8]
  | true=>
    have hX:=hX (hc1 rfl)
    have g1:=gc XX [.bool true] (by lia) (by simp)
    have g2:=gc (XX++[.bool true]) YY (by simp;lia) (by lia)
    refine⟨d2,fd++[.tuple (XX++[.bool true]++YY)],?_,hd2,by rw [List.length_append];simp only [List.length_cons,List.length_nil];lia⟩
    generalize hQ1:XX++[PyData.bool true]=Q1 at*
    generalize Q1++YY=Q2 at*
    simp? [bN,eQ,t1,lnn,gm,hC2,hA,hB,k2,k3,gr',gl,zR,hg,gi,hX,hXX,hYY,g1,g2,lf, -a8,a8]
abbrev eI(ns ds:List Int)(x:PyData)(W:cf)(NN QQ:List PyData)(T:List PyData)(v8:Option Sv):En:=[some (.d (.list (ns.map .int))),some (.l (ds.map .int)),some (.d x),some (.d (aU W)),some (.d (.tuple [.tuple NN,.tuple QQ])),some (.d (.tuple NN)),some (.d (.tuple QQ)),some (.l T),v8]
inductive LI (ns:List Int):En→Prop
  | mk {ds v2 v3 v4 v5 v6 v7 v8} (hd:iH ds):LI ns [some (.d (.list (ns.map .int))),some (.l (ds.map .int)),v2,v3,v4,v5,v6,v7,v8]
theorem tf{ns ds:List Int}{x:PyData}{v3 v4 v5 v6 v7 v8:Option Sv}(hd:iH ds):∃e2,z9 [some (.d (.list (ns.map .int))),some (.l (ds.map .int)),some (.d x),v3,v4,v5,v6,v7,v8]=some (.nx e2)∧LI ns e2:=by
  obtain⟨W,ps,qs,d1,tm,hd1,ok,lp,l2,l9,hq⟩:=zD hd
  have gl:∀(e:En) (xs:List PyData),g1 gP e [.d (.tuple xs)]=some (.l xs):=fun e xs=>rfl
  obtain⟨n2,d2,t2, -, -,hd2⟩:=fj hd1
  obtain⟨o1,ho1,w1⟩:=uG n2
  obtain⟨d3,L1,tb1,hd3,ll1⟩:=lr hd2 l2 l9 hq
  obtain⟨d4,L2',tb2,hd4,ll2⟩:=k7 ok hd3 (rs:=ps) (by lia)
  obtain⟨n5,d5,t5, -, -,hd5⟩:=fj hd4
  obtain⟨o5,ho5,w5⟩:=uG n5
  obtain⟨n6,d6,t6, -, -,hd6⟩:=fj hd5
  obtain⟨o6,ho6,w6⟩:=uG n6
  generalize ps.map PyData.int=NN at*
  generalize qs.map PyData.int=QQ at*
  have gcp:∀e:En,aK e (.d (.tuple [.tuple NN,.tuple QQ])) (.d (.tuple [.tuple []]))=some (.d (.tuple ([.tuple NN,.tuple QQ]++[.tuple []]))):=fun e=>ko (by simp)
  have cu:L2.cutD [PyData.tuple NN,.tuple QQ] none (some 1)=[.tuple NN]:=rfl
  have ca:∀(e:En) (xs ys:List PyData),e[7]?=some (some (.l xs))→xs.length+ys.length≤1000000→aK e (.s 7) (.l ys)=some (.l (xs++ys)):=fun e xs ys he h=>mv he h
  obtain⟨T1,hT1,lT1⟩:∃T1:List PyData,T1=[.tuple [.tuple NN,.tuple QQ],.list [.tuple NN,.tuple QQ],.tuple [.tuple NN,.tuple QQ,.tuple []],.tuple [.tuple QQ,.tuple NN],.tuple [.tuple NN],o1]∧T1.length=6:=⟨_,rfl,rfl⟩
  obtain⟨t6',hf6⟩:=cF (cs:=[some (.d (.tuple NN))]) (ft:=bI) (fe:=BN) (b:=fun _=>true) (y:=fun z=>.tuple [.tuple NN,z]) L1 none [] (fun z hz=>rfl) (fun z hz _=>by simp? [BN]) (by simp;lia)
  have hv6:=dM (cp:=[(5,"_law_pairing")]) (nT:=1) (fi:=CP) (g:=ah 1) (ft:=bI) (fe:=BN) (e:=eI ns d2 x W NN QQ T1 v8) (e1:=eI ns d3 x W NN QQ T1 v8) (items:=L1) (cs:=[some (.d (.tuple NN))]) (t:=[none]) (t':=[t6']) (o8 (by simp only [eI];simp? [tb1])) rfl rfl hf6
  rw [List.nil_append,eN] at hv6
  have lo1:(L1.map fun z=>PyData.tuple [.tuple NN,z]).length=L1.length:=by simp
  generalize (L1.map fun z=>PyData.tuple [.tuple NN,z])=O1 at*
  obtain⟨T2,hT2,lT2⟩:∃T2,T2=T1++O1∧T2.length≤36:=⟨_,rfl,by rw [List.length_append];lia⟩
  obtain⟨t4',hf4⟩:=cF (cs:=[some (.d (.tuple QQ))]) (ft:=bI) (fe:=BM) (b:=fun _=>true) (y:=fun z=>.tuple [z,.tuple QQ]) L2' none [] (fun z hz=>rfl) (fun z hz _=>by simp? [BM]) (by simp;lia)
  have hv4:=dM (cp:=[(6,"_law_prices")]) (nT:=1) (fi:=CO) (g:=ah 1) (ft:=bI) (fe:=BM) (e:=eI ns d3 x W NN QQ T2 v8) (e1:=eI ns d4 x W NN QQ T2 v8) (items:=L2') (cs:=[some (.d (.tuple QQ))]) (t:=[none]) (t':=[t4']) (o8 (by simp only [eI];simp? [tb2])) rfl rfl hf4
  rw [List.nil_append,eN] at hv4
  have lo2:(L2'.map fun z=>PyData.tuple [z,.tuple QQ]).length=L2'.length:=by simp
  generalize (L2'.map fun z=>PyData.tuple [z,.tuple QQ])=O2 at*
  obtain⟨T3,hT3,lT3⟩:∃T3,T3=T2++O2∧T3.length≤66:=⟨_,rfl,by rw [List.length_append];lia⟩
  obtain⟨T4,hT4⟩:∃T4,T4=T3++[.tuple [o5,o6]]:=⟨_,rfl⟩
  obtain⟨e3,h3,⟨u8,he3⟩⟩:=cU (own:=[(7,T4)]) (g:=ah 8) (f:=BL) (fun i e=>∃v8,e=eI ns d6 x W NN QQ T4 v8) T4 0 (eI ns d6 x W NN QQ T4 v8) (fun i y e hy ⟨v8,he⟩=>by
    subst he
    have r1:=k8 ok y
    have r2:=ls ok y
    have r3:=zF (uO W y) (uO W y)
    rw [beq_self_eq_true] at r3
    generalize uO W y=b at*
    refine⟨eI ns d6 x W NN QQ T4 (some (.d y)),eI ns d6 x W NN QQ T4 (some (.d y)),rfl,?_,fun p hp=>by simp at hp;subst hp;rfl,_,rfl⟩
    simp only [eI]
    simp? [BL,r1,r2,r3]) ⟨v8,rfl⟩
  subst he3
  have hf:dS ([8]++([]++[])) Cb (ah 8) BL (eI ns d6 x W NN QQ T4 v8)=some (.nx (eI ns d6 x W NN QQ T4 u8)):=by
    unfold dS
    rw [show Cb (eI ns d6 x W NN QQ T4 v8)=some (T4,[(7,T4)],eI ns d6 x W NN QQ T4 v8) from rfl]
    exact h3
  refine⟨eI ns d6 x W NN QQ T4 u8,?_,.mk hd6⟩
  unfold z9
  refine(aC (e1:=[some (.d (.list (ns.map .int))),some (.l (d1.map .int)),some (.d x),some (.d (aU W)),some (.d (.tuple [.tuple NN,.tuple QQ])),v5,v6,v7,v8]) ?_).trans ?_
  · simp? [tm]
  refine(aC (e1:=[some (.d (.list (ns.map .int))),some (.l (d1.map .int)),some (.d x),some (.d (aU W)),some (.d (.tuple [.tuple NN,.tuple QQ])),some (.d (.tuple NN)),some (.d (.tuple QQ)),v7,v8]) ?_).trans ?_
  · simp? [List.replicate]
  refine(aC (e1:=eI ns d2 x W NN QQ T1 v8) ?_).trans ?_
  · rw [hT1]
    simp only [eI]
    simp? [gl,gcp,cu,t2,w1, -a8,a8]
  refine(aC (e1:=eI ns d3 x W NN QQ T2 v8) ?_).trans ?_
  · have l7:T1.length+O1.length≤1000000:=by lia
    rw [hT2]
    simp only [eI] at hv6 ⊢
    simp? [hv6,ca,l7]
  refine(aC (e1:=eI ns d4 x W NN QQ T3 v8) ?_).trans ?_
  · have l7:T2.length+O2.length≤1000000:=by lia
    rw [hT3]
    simp only [eI] at hv4 ⊢
    simp? [hv4,ca,l7]
  refine(aC (e1:=eI ns d6 x W NN QQ T4 v8) ?_).trans ?_
  · have l7:T3.length < 1000000:=by lia
    rw [hT4]
    simp only [eI]
    simp? [t5,w5,t6,w6,l7]
  exact hf
theorem s_(ns:List Int)(hl:ns.length≤63):∃as',kG [.d (.list (ns.map .int))]=some (.d (.bool true),as'):=by
  obtain⟨ds,td,hd⟩:=wD ns hl
  have W0:(cf.mk 0 [] [] 0).Ok:=⟨by decide,by decide,(fun t h=>by cases h),by decide,rfl,(fun p h=>by cases h),by decide,by decide⟩
  have s1:=k8 W0 (.tuple [.tuple [],.tuple []])
  rw [show uO (cf.mk 0 [] [] 0) (.tuple [.tuple [],.tuple []])=true from rfl] at s1
  rw [show aU (cf.mk 0 [] [] 0)=.tuple [.int 0,.tuple [],.tuple [],.int 0] from rfl] at s1
  have it:∀e:En,xW e (.d (.bool true)) (.d (.bool true))=some (.d (.bool true)):=fun e=>rfl
  obtain⟨e2,h1,hI⟩:=cU (own:=[]) (g:=ah 2) (f:=z9) (fun _=>LI ns) (bK 0 (2+min 5 (ns.length:Int)).toNat) 0 [some (.d (.list (ns.map .int))),some (.l (ds.map .int)),none,none,none,none,none,none,none] (fun i x e hx hI=>by
    obtain⟨hd⟩:=hI
    rename_i ds v2 v3 v4 v5 v6 v7 v8
    obtain⟨e2,k1,k2⟩:=tf (ns:=ns) (x:=x) (v3:=v3) (v4:=v4) (v5:=v5) (v6:=v6) (v7:=v7) (v8:=v8) hd
    exact⟨_,e2,rfl,k1,dq,k2⟩) (.mk hd)
  obtain⟨hd2⟩:=hI
  rename_i ds2 v2 v3 v4 v5 v6 v7 v8
  have hi:CQ [some (.d (.list (ns.map .int))),some (.l (ds.map .int)),none,none,none,none,none,none,none]=some (bK 0 (2+min 5 (ns.length:Int)).toNat,[],[some (.d (.list (ns.map .int))),some (.l (ds.map .int)),none,none,none,none,none,none,none]):=dY (n:=2+min 5 (ns.length:Int)) (by simp? [List.replicate]) (by lia) (by lia)
  have hfor:=fun Wl=>fD (W:=Wl) (g:=ah 2) (f:=z9) hi
  rw [h1] at hfor
  simp? [kG,wW,td,hfor,s1,it]
def kE(P:Params)(k:Str)(t:Tok)(v:Value):DictEntry:=⟨PyData.keyHash P k,.str k t,v⟩
def kF(n:Str)(s:Stmt)(doc pm:Value)(c:Addr):Obj:=⟨.type "function",none,.func (W.fnOf n n (dA s) (cH s) (aj s) .none .none doc pm none (.ref c) .none),#[]⟩
def kI(n:Int):Value:=.int n 0
def kC(n:Str)(a:Nat)(l:List Value)(z:Nat):Obj:=⟨.type "code",none,.fields (Value.str n a::Value.str n (a+1)::Value.str "/claim/cut.py" (a+2)::l++[Value.str "/claim/cut.py" z]).toArray,#[]⟩
def xu:Value:=.str "askedpairs.forms" 187
def CT:Value:=.str "askedpairs.stands" 223
def CU:Value:=.str "askedpairs.chargepaper" 233
def BP:Value:=.str "askedpairs.pairpaper" 241
def iK:Value:=.str "law_askedpairs_k64_heaviest_of_anything" 255
def kK(P:Params):W.Frag:=[(3,⟨.type "dict",none,.dict (List.toArray [kE P "__name__" 165 (.str "law_askedpairs_k64_heaviest_of_anything" 255),kE P "__doc__" 166 (.none),kE P "__package__" 167 (.none),kE P "__loader__" 168 (.builtin "__main__.__loader__#opaque"),kE P "__spec__" 169 (.none),kE P "__annotations__" 170 (.ref 6),kE P "__builtins__" 171 (.ref 4),kE P "__file__" 173 (.str "/claim/cut.py" 172),kE P "__cached__" 174 (.none),kE P "is_number" 195 (.ref 21),kE P "is_number_within" 204 (.ref 28),kE P "is_row_of" 212 (.ref 35),kE P "is_rising_row" 222 (.ref 42),kE P "things_of" 232 (.ref 49),kE P "is_pairing" 240 (.ref 54),kE P "is_number_row" 248 (.ref 59),kE P "heaviest_holds" 254 (.ref 64),kE P "_law_mixed" 265 (.ref 71),kE P "_law_draws" 276 (.ref 78),kE P "_law_next" 283 (.ref 85),kE P "_law_gcd" 291 (.ref 92),kE P "_law_low" 300 (.ref 99),kE P "_law_says" 308 (.ref 106),kE P "_law_chance" 317 (.ref 113),kE P "_law_odd" 325 (.ref 120),kE P "_law_whole" 332 (.ref 127),kE P "_law_is_pairing" 338 (.ref 132),kE P "_law_is_heaviest" 344 (.ref 137),kE P "_law_made" 350 (.ref 142),kE P "_law_bent_prices" 364 (.ref 149),kE P "_law_bent_pairing" 376 (.ref 156),kE P "law" 382 (.ref 161)]) 32,#[]⟩),
  (21,kF "is_number" dr (.none) xu 20),
  (20,kC "is_number" 189 [kI 2,kI 1,kI 0,kI 0,kI 3,.ref 15,.bool true,kI 181,.ref 16,.none,.ref 17,.ref 18,.ref 19,kI 193,kI 2] 194),
  (28,kF "is_number_within" bv (.none) xu 27),
  (27,kC "is_number_within" 196 [kI 4,kI 3,kI 0,kI 0,kI 3,.ref 22,.bool true,kI 181,.ref 23,.none,.ref 24,.ref 25,.ref 26,kI 202,kI 4] 203),
  (35,kF "is_row_of" dt (.none) xu 34),
  (34,kC "is_row_of" 205 [kI 6,kI 2,kI 0,kI 0,kI 3,.ref 29,.bool true,kI 181,.ref 30,.none,.ref 31,.ref 32,.ref 33,kI 210,kI 6] 211),
  (42,kF "is_rising_row" b6 (.none) xu 41),
  (41,kC "is_rising_row" 213 [kI 8,kI 2,kI 0,kI 0,kI 3,.ref 36,.bool true,kI 181,.ref 37,.none,.ref 38,.ref 39,.ref 40,kI 220,kI 8] 221),
  (49,kF "things_of" el (.none) CT 48),
  (48,kC "things_of" 225 [kI 18,kI 2,kI 0,kI 0,kI 3,.ref 43,.bool true,kI 181,.ref 44,.none,.ref 45,.ref 46,.ref 47,kI 230,kI 18] 231),
  (54,kF "is_pairing" cM (.none) CU 53),
  (53,kC "is_pairing" 235 [kI 21,kI 2,kI 0,kI 0,kI 3,.ref 50,.bool true,kI 181,.ref 51,.none,.none,.none,.ref 52,kI 238,kI 21] 239),
  (59,kF "is_number_row" bB (.none) BP 58),
  (58,kC "is_number_row" 243 [kI 27,kI 2,kI 0,kI 0,kI 3,.ref 55,.bool true,kI 181,.ref 56,.none,.none,.none,.ref 57,kI 246,kI 27] 247),
  (64,kF "heaviest_holds" a9 (.none) BP 63),
  (63,kC "heaviest_holds" 249 [kI 29,kI 2,kI 0,kI 0,kI 3,.ref 60,.bool true,kI 181,.ref 61,.none,.none,.none,.ref 62,kI 252,kI 29] 253),
  (71,kF "_law_mixed" ji (.none) iK 70),
  (70,kC "_law_mixed" 257 [kI 39,kI 2,kI 0,kI 0,kI 3,.ref 65,.bool true,kI 181,.ref 66,.none,.ref 67,.ref 68,.ref 69,kI 263,kI 39] 264),
  (78,kF "_law_draws" jh (.none) iK 77),
  (77,kC "_law_draws" 266 [kI 42,kI 1,kI 0,kI 0,kI 3,.ref 72,.bool true,kI 181,.ref 73,.none,.ref 74,.ref 75,.ref 76,kI 274,kI 42] 275),
  (85,kF "_law_next" hJ (.none) iK 84),
  (84,kC "_law_next" 277 [kI 55,kI 1,kI 0,kI 0,kI 3,.ref 79,.bool true,kI 181,.ref 80,.none,.ref 81,.ref 82,.ref 83,kI 281,kI 55] 282),
  (92,kF "_law_gcd" oj (.none) iK 91),
  (91,kC "_law_gcd" 284 [kI 59,kI 2,kI 0,kI 0,kI 3,.ref 86,.bool true,kI 181,.ref 87,.none,.ref 88,.ref 89,.ref 90,kI 289,kI 59] 290),
  (99,kF "_law_low" om (.none) iK 98),
  (98,kC "_law_low" 292 [kI 63,kI 2,kI 0,kI 0,kI 3,.ref 93,.bool true,kI 181,.ref 94,.none,.ref 95,.ref 96,.ref 97,kI 298,kI 63] 299),
  (106,kF "_law_says" kW (.none) iK 105),
  (105,kC "_law_says" 301 [kI 66,kI 2,kI 0,kI 0,kI 3,.ref 100,.bool true,kI 181,.ref 101,.none,.ref 102,.ref 103,.ref 104,kI 306,kI 66] 307),
  (113,kF "_law_chance" hG (.none) iK 112),
  (112,kC "_law_chance" 309 [kI 70,kI 2,kI 0,kI 0,kI 3,.ref 107,.bool true,kI 181,.ref 108,.none,.ref 109,.ref 110,.ref 111,kI 315,kI 70] 316),
  (120,kF "_law_odd" oo (.none) iK 119),
  (119,kC "_law_odd" 318 [kI 80,kI 1,kI 0,kI 0,kI 3,.ref 114,.bool true,kI 181,.ref 115,.none,.ref 116,.ref 117,.ref 118,kI 323,kI 80] 324),
  (127,kF "_law_whole" ip (.none) iK 126),
  (126,kC "_law_whole" 326 [kI 84,kI 1,kI 0,kI 0,kI 3,.ref 121,.bool true,kI 181,.ref 122,.none,.ref 123,.ref 124,.ref 125,kI 330,kI 84] 331),
  (132,kF "_law_is_pairing" cL (.none) iK 131),
  (131,kC "_law_is_pairing" 333 [kI 86,kI 2,kI 0,kI 0,kI 3,.ref 128,.bool true,kI 181,.ref 129,.none,.none,.none,.ref 130,kI 336,kI 86] 337),
  (137,kF "_law_is_heaviest" br (.none) iK 136),
  (136,kC "_law_is_heaviest" 339 [kI 97,kI 2,kI 0,kI 0,kI 3,.ref 133,.bool true,kI 181,.ref 134,.none,.none,.none,.ref 135,kI 342,kI 97] 343),
  (142,kF "_law_made" jP (.none) iK 141),
  (141,kC "_law_made" 345 [kI 108,kI 1,kI 0,kI 0,kI 3,.ref 138,.bool true,kI 181,.ref 139,.none,.none,.none,.ref 140,kI 348,kI 108] 349),
  (149,kF "_law_bent_prices" cZ (.none) iK 148),
  (148,kC "_law_bent_prices" 351 [kI 132,kI 2,kI 0,kI 0,kI 3,.ref 143,.bool true,kI 181,.ref 144,.none,.ref 145,.ref 146,.ref 147,kI 362,kI 132] 363),
  (156,kF "_law_bent_pairing" cz (.none) iK 155),
  (155,kC "_law_bent_pairing" 365 [kI 147,kI 3,kI 0,kI 0,kI 3,.ref 150,.bool true,kI 181,.ref 151,.none,.ref 152,.ref 153,.ref 154,kI 374,kI 147] 375),
  (161,kF "law" jj (.none) iK 160),
  (160,kC "law" 377 [kI 156,kI 1,kI 0,kI 0,kI 3,.ref 157,.bool true,kI 181,.ref 158,.none,.none,.none,.ref 159,kI 380,kI 156] 381)]
def kA:List Addr:=[3,21,20,28,27,35,34,42,41,49,48,54,53,59,58,64,63,71,70,78,77,85,84,92,91,99,98,106,105,113,112,120,119,127,126,132,131,137,136,142,141,149,148,156,155,161,160]
def kq:Program:={PySem.Challenge.pw_askedpairs_k64_heaviest_of_anything with main:={PySem.Challenge.pw_askedpairs_k64_heaviest_of_anything.main with body:=[top 1,top 2,top 3,top 4,top 6,top 8,top 10,top 11,top 13,top 14,top 15,top 16,top 17,top 18,top 19,top 20,top 21,top 22,top 23,top 24,top 25,top 26,top 27]}}
def kH:W.Hook:=W.kHook kK kA (fun _=>by kernel_rfl)
theorem left:W.LeftO PySem.Challenge.pw_askedpairs_k64_heaviest_of_anything kq [] (fun s=>W.xlAt kq [] s&&W.recOk (W.RowW.records (W.OpenRow.toRowW (W.OpenLaw.row PySem.Challenge.rw_askedpairs_k64_heaviest_of_anything))) s) (W.Hook.obs kH) (W.Hook.val kH) 1572:=fun w=>by kernel_rfl
theorem yj{P:List Value→Prop}(h:∀a0,P [a0]):∀us:List Value,us.length=1→P us:=fun us e=>match us,e with | [a0],_=>h a0
theorem qj{P:List Value→Prop}(h:∀a0 a1,P [a0,a1]):∀us:List Value,us.length=2→P us:=fun us e=>match us,e with | [a0,a1],_=>h a0 a1
theorem CV{P:List Value→Prop}(h:∀a0 a1 a2,P [a0,a1,a2]):∀us:List Value,us.length=3→P us:=fun us e=>match us,e with | [a0,a1,a2],_=>h a0 a1 a2
theorem hm{w:World}{h:Heap}{mg:Str→Option Value}{n:Str}{s:Stmt}{a:Addr}{ps:List Str}(c:Addr)(d p:Value)(X:(kK w.params).In h)(G:h.Ns mainGlobals mg)
    (e:(W.nsIn (kK w.params) mainGlobals n,List.lookup a (kK w.params),W.codeIn (kK w.params) (.ref c) n,W.keepIn (kK w.params) (.ref a))=(some (some (.ref a)),some (kF n s d p c),true,true))
    (b:∀(kV doc pm:Value) (an:Option Addr) (cdv ct:Value) (us:List Value),us.length=ps.length→bindArgs (W.fnOf n n (dA s) (cH s) (aj s) .none kV doc pm an cdv ct) ⟨us,[]⟩=pure (ps.zip us)):
    bQ (kK w.params) mg n s a (W.fnOf n n (dA s) (cH s) (aj s) .none .none d p none (.ref c) .none) ps:=x9 X G (congrArg (·.1) e) (congrArg (·.2.1) e) (congrArg (·.2.2.1) e) (congrArg (·.2.2.2) e) b
theorem all_mk{l:W.OpenLaw}{w:World}{h:Heap}{mg:Str→Option Value}{fa:Addr}(X:(kK w.params).In h)(G:h.Ns mainGlobals mg)(hfa:mg "law"=some (.ref fa)):
    ∃fd:FuncData,(∀(s:Shared) (v:Value),BindsTo s fd ⟨[v],[]⟩ [("_law_script",v)])∧∀base:Heap,(kK w.params).In base→base.Ns mainGlobals mg→aS l.prog w (kK w.params) mg base du 6 fa fd ["_law_script"] (dI (kK w.params) 1 kG):=by
  have e:=hfa.symm.trans (W.mg_of X G (show W.nsIn (kK w.params) mainGlobals "law"=some (some (.ref 161)) by kernel_rfl))
  cases e
  have T:j' mg:=⟨W.mg_none_of X G (show W.nsIn (kK w.params) mainGlobals "abs"=some none by kernel_rfl),W.mg_none_of X G (show W.nsIn (kK w.params) mainGlobals "len"=some none by kernel_rfl),W.mg_none_of X G (show W.nsIn (kK w.params) mainGlobals "min"=some none by kernel_rfl),W.mg_none_of X G (show W.nsIn (kK w.params) mainGlobals "max"=some none by kernel_rfl),W.mg_none_of X G (show W.nsIn (kK w.params) mainGlobals "range"=some none by kernel_rfl),W.mg_none_of X G (show W.nsIn (kK w.params) mainGlobals "tuple"=some none by kernel_rfl),W.mg_none_of X G (show W.nsIn (kK w.params) mainGlobals "int"=some none by kernel_rfl),W.mg_none_of X G (show W.nsIn (kK w.params) mainGlobals "isinstance"=some none by kernel_rfl),W.mg_none_of X G (show W.nsIn (kK w.params) mainGlobals "bool"=some none by kernel_rfl),W.mg_none_of X G (show W.nsIn (kK w.params) mainGlobals "set"=some none by kernel_rfl),W.mg_none_of X G (show W.nsIn (kK w.params) mainGlobals "sum"=some none by kernel_rfl),W.mg_none_of X G (show W.nsIn (kK w.params) mainGlobals "any"=some none by kernel_rfl),W.mg_none_of X G (show W.nsIn (kK w.params) mainGlobals "all"=some none by kernel_rfl),W.mg_none_of X G (show W.nsIn (kK w.params) mainGlobals "list"=some none by kernel_rfl),W.mg_none_of X G (show W.nsIn (kK w.params) mainGlobals "str"=some none by kernel_rfl)⟩
  have h_is_number:bQ (kK w.params) mg "is_number" dr 21 _ ["thing"]:=hm 20 (.none) xu X G (by kernel_rfl) fun _ _ _ _ _ _=>yj fun _=>rfl
  have h_is_number_within:bQ (kK w.params) mg "is_number_within" bv 28 _ ["thing","low","high"]:=hm 27 (.none) xu X G (by kernel_rfl) fun _ _ _ _ _ _=>CV fun _ _ _=>rfl
  have h_is_row_of:bQ (kK w.params) mg "is_row_of" dt 35 _ ["thing","many"]:=hm 34 (.none) xu X G (by kernel_rfl) fun _ _ _ _ _ _=>qj fun _ _=>rfl
  have h_is_rising_row:bQ (kK w.params) mg "is_rising_row" b6 42 _ ["thing","many"]:=hm 41 (.none) xu X G (by kernel_rfl) fun _ _ _ _ _ _=>qj fun _ _=>rfl
  have h_things_of:bQ (kK w.params) mg "things_of" el 49 _ ["web","tie"]:=hm 48 (.none) CT X G (by kernel_rfl) fun _ _ _ _ _ _=>qj fun _ _=>rfl
  have h_is_pairing:bQ (kK w.params) mg "is_pairing" cM 54 _ ["web","thing"]:=hm 53 (.none) CU X G (by kernel_rfl) fun _ _ _ _ _ _=>qj fun _ _=>rfl
  have h_is_number_row:bQ (kK w.params) mg "is_number_row" bB 59 _ ["thing","many"]:=hm 58 (.none) BP X G (by kernel_rfl) fun _ _ _ _ _ _=>qj fun _ _=>rfl
  have h_heaviest_holds:bQ (kK w.params) mg "heaviest_holds" a9 64 _ ["web","thing"]:=hm 63 (.none) BP X G (by kernel_rfl) fun _ _ _ _ _ _=>qj fun _ _=>rfl
  have hLmixed:bQ (kK w.params) mg "_law_mixed" ji 71 _ ["_law_cell","_law_k"]:=hm 70 (.none) iK X G (by kernel_rfl) fun _ _ _ _ _ _=>qj fun _ _=>rfl
  have hLdraws:bQ (kK w.params) mg "_law_draws" jh 78 _ ["_law_script"]:=hm 77 (.none) iK X G (by kernel_rfl) fun _ _ _ _ _ _=>yj fun _=>rfl
  have hLnext:bQ (kK w.params) mg "_law_next" hJ 85 _ ["_law_drawn"]:=hm 84 (.none) iK X G (by kernel_rfl) fun _ _ _ _ _ _=>yj fun _=>rfl
  have hLgcd:bQ (kK w.params) mg "_law_gcd" oj 92 _ ["_law_one","_law_other"]:=hm 91 (.none) iK X G (by kernel_rfl) fun _ _ _ _ _ _=>qj fun _ _=>rfl
  have hLlow:bQ (kK w.params) mg "_law_low" om 99 _ ["_law_top","_law_bottom"]:=hm 98 (.none) iK X G (by kernel_rfl) fun _ _ _ _ _ _=>qj fun _ _=>rfl
  have hLsays:bQ (kK w.params) mg "_law_says" kW 106 _ ["_law_found","_law_due"]:=hm 105 (.none) iK X G (by kernel_rfl) fun _ _ _ _ _ _=>qj fun _ _=>rfl
  have hLchance:bQ (kK w.params) mg "_law_chance" hG 113 _ ["_law_number","_law_kind"]:=hm 112 (.none) iK X G (by kernel_rfl) fun _ _ _ _ _ _=>qj fun _ _=>rfl
  have hLodd:bQ (kK w.params) mg "_law_odd" oo 120 _ ["_law_number"]:=hm 119 (.none) iK X G (by kernel_rfl) fun _ _ _ _ _ _=>yj fun _=>rfl
  have hLwhole:bQ (kK w.params) mg "_law_whole" ip 127 _ ["_law_thing"]:=hm 126 (.none) iK X G (by kernel_rfl) fun _ _ _ _ _ _=>yj fun _=>rfl
  have hLis_pairing:bQ (kK w.params) mg "_law_is_pairing" cL 132 _ ["_law_web","_law_thing"]:=hm 131 (.none) iK X G (by kernel_rfl) fun _ _ _ _ _ _=>qj fun _ _=>rfl
  have hLis_heaviest:bQ (kK w.params) mg "_law_is_heaviest" br 137 _ ["_law_web","_law_thing"]:=hm 136 (.none) iK X G (by kernel_rfl) fun _ _ _ _ _ _=>qj fun _ _=>rfl
  have hLmade:bQ (kK w.params) mg "_law_made" jP 142 _ ["_law_numbers"]:=hm 141 (.none) iK X G (by kernel_rfl) fun _ _ _ _ _ _=>yj fun _=>rfl
  have hLbent_prices:bQ (kK w.params) mg "_law_bent_prices" cZ 149 _ ["_law_numbers","_law_prices"]:=hm 148 (.none) iK X G (by kernel_rfl) fun _ _ _ _ _ _=>qj fun _ _=>rfl
  have hLbent_pairing:bQ (kK w.params) mg "_law_bent_pairing" cz 156 _ ["_law_numbers","_law_web","_law_pairing"]:=hm 155 (.none) iK X G (by kernel_rfl) fun _ _ _ _ _ _=>CV fun _ _ _=>rfl
  have h_law:bQ (kK w.params) mg "law" jj 161 _ ["_law_script"]:=hm 160 (.none) iK X G (by kernel_rfl) fun _ _ _ _ _ _=>yj fun _=>rfl
  refine⟨W.fnOf "law" "law" (dA jj) (cH jj) (aj jj) .none .none (.none) iK none (.ref 160) .none,fun s v=>.of_eq rfl,fun base _ _=>?_⟩
  have G_is_number:=mH (P:=l.prog) (w:=w) (base:=base) h_is_number T
  have G_is_number_within:=iu (P:=l.prog) (w:=w) (base:=base) h_is_number_within T h_is_number G_is_number
  have G_is_row_of:=mI (P:=l.prog) (w:=w) (base:=base) h_is_row_of T
  have G_is_rising_row:=jI (P:=l.prog) (w:=w) (base:=base) h_is_rising_row T h_is_number_within G_is_number_within
  have G_things_of:=mJ (P:=l.prog) (w:=w) (base:=base) h_things_of T
  have G_is_pairing:=lm (P:=l.prog) (w:=w) (base:=base) h_is_pairing T h_is_rising_row G_is_rising_row h_things_of G_things_of
  have G_is_number_row:=jH (P:=l.prog) (w:=w) (base:=base) h_is_number_row T h_is_row_of G_is_row_of h_is_number G_is_number
  have G_heaviest_holds:=jd (P:=l.prog) (w:=w) (base:=base) h_heaviest_holds T h_is_row_of G_is_row_of h_is_pairing G_is_pairing h_is_number_row G_is_number_row
  have GLmixed:=tJ (P:=l.prog) (w:=w) (base:=base) hLmixed T
  have GLdraws:=tI (P:=l.prog) (w:=w) (base:=base) hLdraws T hLmixed GLmixed
  have GLnext:=vF (P:=l.prog) (w:=w) (base:=base) hLnext T
  have GLgcd:=yu (P:=l.prog) (w:=w) (base:=base) hLgcd T
  have GLlow:=yv (P:=l.prog) (w:=w) (base:=base) hLlow T hLgcd GLgcd
  have GLsays:=vG (P:=l.prog) (w:=w) (base:=base) hLsays T
  have GLchance:=rl (P:=l.prog) (w:=w) (base:=base) hLchance T hLlow GLlow
  have GLodd:=yw (P:=l.prog) (w:=w) (base:=base) hLodd T
  have GLwhole:=tK (P:=l.prog) (w:=w) (base:=base) hLwhole T
  have GLis_pairing:=lj (P:=l.prog) (w:=w) (base:=base) hLis_pairing T hLwhole GLwhole
  have GLis_heaviest:=kN (P:=l.prog) (w:=w) (base:=base) hLis_heaviest T hLis_pairing GLis_pairing hLwhole GLwhole
  have GLmade:=vE (P:=l.prog) (w:=w) (base:=base) hLmade T hLnext GLnext hLchance GLchance
  have GLbent_prices:=kM (P:=l.prog) (w:=w) (base:=base) hLbent_prices T hLnext GLnext
  have GLbent_pairing:=j9 (P:=l.prog) (w:=w) (base:=base) hLbent_pairing T hLnext GLnext
  have G_law:=yx (P:=l.prog) (w:=w) (base:=base) h_law T hLdraws GLdraws hLmade GLmade h_heaviest_holds G_heaviest_holds hLodd GLodd hLnext GLnext hLsays GLsays hLbent_prices GLbent_prices hLbent_pairing GLbent_pairing hLis_heaviest GLis_heaviest
  exact G_law
def Bi(K:W.Frag):Sp:=fun vs H Q _=>∃(a:Addr) (ns:List Int),vs=[.ref a]∧em K H a (ns.map V.int)∧ns.length≤63∧∀H',Q (.bl true) H'
theorem yh{K:W.Frag}{vs:List V}{H:Hp}{Q:VK}{E:XK}(h:Bi K vs H Q E):dI K 1 kG vs H Q E:=by
  obtain⟨a,ns,rfl,hS,hl,q⟩:=h
  obtain⟨as',hm⟩:=s_ ns hl
  exact pG hS hm q
theorem walk{l:W.OpenLaw}{q:Program}{loose:List Str}{XP:(Str→Option Value)→Heap→Prop}{YP:World→Heap→Prop}{d:DefRec}{K:Params→W.Frag}(hn:l.most=some 63)(hdf:d.params.defaults=[])
    (hY:∀(w:World) (h:Heap),YP w h→(K w.params).In h)
    (F:∀(w:World) (mg:Str→Option Value) (fa:Addr) (h:Heap),(K w.params).In h→h.Ns mainGlobals mg→mg d.name=some (.ref fa)→
      ∃fd:FuncData,(∀(s:Shared) (u:Value),BindsTo s fd ⟨[u],[]⟩ [("_law_script",u)])∧∀base:Heap,(K w.params).In base→base.Ns mainGlobals mg→aS l.prog w (K w.params) mg base du 6 fa fd ["_law_script"] (dI (K w.params) 1 kG)):
    W.WalkO q loose XP YP l.row.toRowW d [] (fun f vs=>PySem.call f vs):=
  L2.walk_of (n:=63) (k:=6) (x:="_law_script") (CX:=fun _=>du) (sp:=fun w=>dI (K w.params) 1 kG) hn (by decide) hdf ⟨rfl,by decide,by decide,rfl⟩ hY F (fun _ _ a ns hl _ hS=>yh ⟨a,ns,rfl,hS,hl,fun _=>rfl⟩) fun _ _ _ _ _ z=>z
end V64
open PySem PySem.W PyProof.Rows
set_option maxRecDepth 100000 in
set_option maxHeartbeats 0 in
theorem PySem.Challenge.cw_askedpairs_k64_heaviest_of_anything_holds : PySem.Challenge.rw_askedpairs_k64_heaviest_of_anything.Holds := by
  w_on;o_law
  refine holds_open (q:=V64.kq) (loose:=[]) (Xt:=fun s=>xlAt V64.kq [] s&&recOk (RowW.records (OpenRow.toRowW (OpenLaw.row PySem.Challenge.rw_askedpairs_k64_heaviest_of_anything))) s) (XP:=XL V64.kq []) (Yf:=Hook.obs V64.kH) (Ya:=Hook.val V64.kH) (YP:=Hook.says V64.kH) (N:=1572) V64.left (Hook.of V64.kH) (Hook.keeps V64.kH) (fun s e=>xl_of s (Bool.and_eq_true_iff.mp e).1) XL.keeps (by rfl) (by rfl) (by rfl) (fun s e=>recFacts_of (Bool.and_eq_true_iff.mp e).2) (by rfl) (by assumption) (by decide+kernel) ⟨rfl,rfl,rfl,rfl,rfl,by decide+kernel⟩ ?hw ?hc
  case hw=>w_witness2
  case hc=>exact V64.walk (l:=PySem.Challenge.rw_askedpairs_k64_heaviest_of_anything) rfl rfl (fun w h Y=>kIn_of Y) (fun w mg fa h KX G hmg=>V64.all_mk KX G hmg)
