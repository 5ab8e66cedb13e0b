import PyProof.Rows.All
import Wide.All
import OpenK.AllK
import Wide.FinOn
import Lean
import PyProof.EqAt
import PyProof.EqKinds
import PyProof.TupleCall
import PyProof.ReprRoads
import PyProof.IsInstance
import PyProof.IsInstanceH
import PyProof.FitsBits
import PyProof.CompFree
import PyProof.Rows.SumAny
import PyProof.Rows.SortShell
import PyProof.Rows.TupAdd
import PyProof.NeKinds
import PyProof.ConsumeWalk
import PyProof.ZipIter
import PyProof.TupleIter
import PyProof.LayNew
import PyProof.CollectWalk
import PyProof.ListNew
import PyProof.Draws
import PyProof.EnumFor
import PyProof.EnumMake
import PyProof.ListRange
import PyProof.CollectIter
import KE.KRevIter
import PyProof.ListMulRoad
import PyProof.TupleOps
import PyProof.TupleOfStr
import PyProof.WalksMore
import PyProof.FactsAll.range_iterator
import PyProof.IsRules
import PyProof.CompUse
import PyProof.P3In
import PyProof.EqLayable
import KE.KIsAll
import PyProof.Rows.FactsN_isinstance
import PyProof.CallStr
import PyProof.Rows.StrWeight2
import PyProof.Rows.FStr
import PyProof.StrLawsRepr
import PyProof.Rows.SetFrom
import KE.KIntText
import KE.KRevSl
import PyProof.Rows.SeqMore2
import PySem.Challenge.RW_askedpairs_k69_groups_of_anything
set_option Elab.async false
set_option linter.all false
set_option maxRecDepth 100000
namespace L2
open PySem PySem.Spec PyProof.Rows
abbrev fQ:=Sum Int Str
def l4:fQ→Value→Bool
  | .inl k,v=>Value.isInt k v
  | .inr x,v=>Value.isStrOf x v
def FV(w:World):fQ→Int
  | .inl k=>hashInt k
  | .inr x=>hashStr w x
theorem bB:∀{k:fQ} {v:Value},l4 k v=true→(∃i t,k=Sum.inl i∧v=Value.int i t)∨(∃x t,k=Sum.inr x∧v=Value.str x t)
  | .inl i,v,h=>by
    obtain⟨t,e⟩:=Value.isInt_shape (k:=i) (v:=v) h
    exact .inl ⟨i,t,rfl,e⟩
  | .inr x,v,h=>by
    obtain⟨t,e⟩:=Value.isStrOf_shape (x:=x) (v:=v) h
    exact .inr ⟨x,t,rfl,e⟩
theorem uT(i:Int)(t:Tok):l4 (.inl i) (.int i t)=true:=by simp [l4,Value.isInt]
theorem uU(x:Str)(t:Tok):l4 (.inr x) (.str x t)=true:=by simp [l4,Value.isStrOf]
theorem BC(a b:Int):decide ((Sum.inl a:fQ)=Sum.inl b)=(a==b):=by
  by_cases e:a=b
  · subst e;simp
  · have h:¬(Sum.inl a:fQ)=Sum.inl b:=fun q=>e (Sum.inl.inj q)
    rw [decide_eq_false h]
    exact(beq_eq_false_iff_ne.mpr e).symm
theorem BF(a b:Str):decide ((Sum.inr a:fQ)=Sum.inr b)=decide (a=b):=by
  by_cases e:a=b
  · subst e;simp
  · have h:¬(Sum.inr a:fQ)=Sum.inr b:=fun q=>e (Sum.inr.inj q)
    rw [decide_eq_false h,decide_eq_false e]
theorem BD(a:Int)(b:Str):decide ((Sum.inl a:fQ)=Sum.inr b)=false:=decide_eq_false (fun q=>nomatch q)
theorem BE(a:Str)(b:Int):decide ((Sum.inr a:fQ)=Sum.inl b)=false:=decide_eq_false (fun q=>nomatch q)
def dH(prog:Program)(w:World):PySem.KeyKind prog w fQ where
  is:=l4
  hash:=FV w
  inj:=fun v a b ha hb=>by
    rcases bB ha with ⟨i,t,rfl,rfl⟩ | ⟨x,t,rfl,rfl⟩
    · rcases bB hb with ⟨j,u,rfl,e⟩ | ⟨y,u,rfl,e⟩
      · injection e with e1 _;rw [e1]
      · exact nomatch e
    · rcases bB hb with ⟨j,u,rfl,e⟩ | ⟨y,u,rfl,e⟩
      · exact nomatch e
      · injection e with e1 _;rw [e1]
  byValue:=fun k v h=>by
    rcases bB h with ⟨i,t,rfl,rfl⟩ | ⟨x,t,rfl,rfl⟩<;>rfl
  pyHash:=fun hv h=>by
    rcases bB hv with ⟨i,t,rfl,rfl⟩ | ⟨x,t,rfl,rfl⟩
    · exact wpAny_pyHash_int h
    · exact wpAny_pyHash_str h
  eqBool:=fun hu hv h=>by
    rcases bB hu with ⟨i,t,rfl,rfl⟩ | ⟨x,t,rfl,rfl⟩
    · rcases bB hv with ⟨j,u,rfl,rfl⟩ | ⟨y,u,rfl,rfl⟩
      · rw [BC] at h;exact wpAny_eqBool_int h
      · rw [BD] at h;exact SeqAt.EqAt.int_str i t y u _ _ _ _ h
    · rcases bB hv with ⟨j,u,rfl,rfl⟩ | ⟨y,u,rfl,rfl⟩
      · rw [BE] at h;exact SeqAt.EqAt.str_int x t j u _ _ _ _ h
      · rw [BF] at h;exact wpAny_eqBool_str h
  «strs»:=fun k x t v h=>by
    rcases bB h with ⟨i,u,rfl,e⟩ | ⟨y,u,rfl,e⟩
    · exact nomatch e
    · injection e with e1 _
      subst e1
      cases v<;>rfl
theorem qq(prog:Program)(w:World)(i:Int)(t:Tok):(dH prog w).is (.inl i) (.int i t)=true:=uT i t
theorem qr(prog:Program)(w:World)(x:Str)(t:Tok):(dH prog w).is (.inr x) (.str x t)=true:=uU x t
end L2
namespace L2
open PySem PySem.Spec PyProof.Rows
inductive V where
  | non | bl (b:Bool) | int (i:Int) | str (x:Str) | byt (b:Array UInt8) | flt (b:UInt64) | ref (a:Addr) | ty (n:String)
  deriving DecidableEq
def bC:V→Value→Prop
  | .non,u=>u=Value.none
  | .bl b,u=>u=Value.bool b
  | .int i,u=>∃t,u=Value.int i t
  | .str x,u=>∃t,u=Value.str x t
  | .byt b,u=>∃t,u=Value.bytes b t
  | .flt b,u=>∃t,u=Value.float b t
  | .ref a,u=>u=Value.ref a
  | .ty n,u=>u=Value.type n
abbrev aI:List V→List Value→Prop:=Paired bC
theorem aI.length{xs:List V}{us:List Value}(r:aI xs us):xs.length=us.length:=Paired.length r
theorem aI.get:∀{xs:List V} {us:List Value} {i:Nat} {x:V},aI xs us→xs[i]?=some x→∃u,us[i]?=some u∧bC x u
  | _,_,_,_,.nil,e=>by simp at e
  | _,_,0,_,.cons r _,e=>by simp at e;subst e;exact⟨_,rfl,r⟩
  | _,_,i+1,x,.cons _ t,e=>by
    obtain⟨u,h1,h2⟩:=aI.get (i:=i) (x:=x) t (by simpa using e)
    exact⟨u,by simpa using h1,h2⟩
theorem aI.append:∀{xs ys:List V} {us ws:List Value},aI xs us→aI ys ws→aI (xs++ys) (us++ws)
  | _,_,_,_,.nil,s=>s
  | _,_,_,_,.cons r t,s=>.cons r (aI.append t s)
theorem aI.take:∀{xs:List V} {us:List Value} (n:Nat),aI xs us→aI (xs.take n) (us.take n)
  | _,_,0,_=>.nil
  | _,_,_+1,.nil=>.nil
  | _,_,n+1,.cons r t=>.cons r (aI.take n t)
theorem aI.drop:∀{xs:List V} {us:List Value} (n:Nat),aI xs us→aI (xs.drop n) (us.drop n)
  | _,_,0,r=>r
  | _,_,_+1,.nil=>.nil
  | _,_,n+1,.cons _ t=>aI.drop n t
def Dl:Option V→Option Value→Prop
  | some v,some u=>bC v u
  | none,none=>True
  | _,_=>False
def KV{κ:Type}:List (κ × V)→List (κ × Value)→Prop:=Paired fun(p:κ × V) (q:κ × Value)=>p.1=q.1∧bC p.2 q.2
def kV:fQ→V
  | .inl i=>.int i
  | .inr x=>.str x
inductive HO where
  /-- a list -/
  | lst (xs:List V)
  /-- a tuple (never changes) -/
  | tup (xs:List V)
  /-- a dict whose keys are ints and texts; one whose keys are tuples of ints and texts (the empty one is both) -/
  | dK (kvs:List (fQ × V)) | dT (kvs:List (List fQ × V))
  /-- a set of ints: its members, its size -/
  | set (S:Int→Bool) (n:Nat)
  /-- an instance of the class at C, its dict at dx, its attributes -/
  | ins (C dx:Addr) (fs:List (Str × V))
  /-- the dict of the instance at x -/
  | own (x:Addr)
  /-- the dict of an exception -/
  | xd (fs:List (Str × V))
  /-- a bound method, f of x -/
  | met (f x:Addr)
  /-- a range object lo, lo + 1, .. below hi -/
  | rng (lo hi:Int)
  /-- a thing that is known to the object (the script; a dict while a loop walks it): read, never written while it is so -/
  | frz (o:Obj) (u:HO)
  /-- a code object's table -/
  | tbl (ps:Array Value)
  /-- any other thing, by what is true of its one object (a def of one's own: SetO a S n := HO.ext fun h => ..) -/
  | ext (φ:Heap→Prop)
abbrev Hp:=Addr→Option HO
def aV(H:Hp)(a:Addr)(o:HO):Hp:=fun b=>if b=a then some o else H b
theorem am{H:Hp}{a:Addr}{o:HO}:aV H a o a=some o:=by unfold aV;rw [if_pos rfl]
theorem ax{H:Hp}{a b:Addr}{o:HO}(h:b≠a):aV H a o b=H b:=by unfold aV;rw [if_neg h]
theorem dX{H:Hp}{a b:Addr}{o:HO}(h:H a=some o)(h':H b=none):a≠b:=by
  intro e;subst e;rw [h] at h';cases h'
def k9(h:Heap)(a:Addr)(items:Array Value):Prop:=∃o,h.get? a=some o∧o.cls=.type "tuple"∧∃n,o.data=.seq items n∧o.dict=none
theorem k9.tup{h:Heap}{a:Addr}{items:Array Value}(x:k9 h a items):IsTup h a items:=let ⟨o,ho,hc,n,hd,_⟩:=x;⟨o,ho,hc,n,hd⟩
theorem k9.new(h:Heap)(items:Array Value):k9 (h.push {cls:=.type "tuple",data:=.seq items}) h.objs.size items:=⟨_,Heap.get?_push_size _ rfl,rfl,_,rfl,rfl⟩
section
variable(P:Program)(w:World)
def cP(H:Hp)(h:Heap)(a:Addr):HO→Prop
  | .lst xs=>xs.length≤sizeLine∧∃(its:List Value) (n:Nat),aI xs its∧h.get? a=some {cls:=.type "list",data:=.seq its.toArray n}
  | .tup xs=>xs.length≤sizeLine∧∃its:List Value,aI xs its∧k9 h a its.toArray
  | .dK kvs=>kvs.length≤sizeLine∧(a==sysModules)=false∧∃vs,KV kvs vs∧h.DictOf (dH P w) a vs
  | .dT kvs=>kvs.length≤sizeLine∧(a==sysModules)=false∧∃xs:List (List fQ × Addr × Value),
      Paired (fun(p:List fQ × V) (q:List fQ × Addr × Value)=>p.1=q.1∧H q.2.1=some (.tup (p.1.map kV))∧bC p.2 q.2.2) kvs xs∧
      ∃o es ep,h.get? a=some o∧o.ExactDict∧o.data=.dict es ep∧es.toList=xs.map (entryOfKey (tupleKind (dH P w)))∧(xs.map (·.1)).Nodup
  | .set S n=>h.SetOf (intKind P w) a S n
  | .ins C dx fs=>H dx=some (.own a)∧fs.length≤1000∧dx≠a∧h.get? a=some (PySem.W.instObj C dx)∧
      ∃mA,h.Ns1 dx mA∧(∀f,Dl (fs.lookup f) (mA f))∧PySem.Within mA (fs.map (·.1))
  | .own _=>∃o,h.get? a=some o
  | .xd fs=>∃mA,h.Ns1 a mA∧∀f,Dl (fs.lookup f) (mA f)
  | .rng lo hi=>∃t u v,h.get? a=some {cls:=.type "range",data:=.fields #[.int lo t,.int hi u,.int 1 v]}
  | .frz o u=>h.get? a=some o∧cP H h a u
  | .tbl ps=>h.get? a=some {cls:=.none,data:=.fields ps}
  | .met f x=>h.get? a=some (PySem.W.methodObj (.ref f) (.ref x))
  | .ext φ=>φ h∧(∃o,h.get? a=some o)∧∀h1 h2:Heap,φ h1→(∀o,h1.get? a=some o→h2.get? a=some o)→φ h2
def ku(H:Hp)(h:Heap):Prop:=∀a o,H a=some o→cP P w H h a o
end
section
variable{P:Program}{w:World}{H H':Hp}{h h':Heap}{a:Addr}{o:HO}
theorem cP.lt(x:cP P w H h a o):a < h.objs.size:=by
  cases o with
  | lst xs=>obtain⟨_,_,_,_,e⟩:=x;exact Heap.lt_size e
  | tup xs=>obtain⟨_,_,_,p⟩:=x;exact p.tup.lt
  | dK kvs=>obtain⟨_,_,_,_,o,_,_,e,_⟩:=x;exact Heap.lt_size e
  | dT kvs=>obtain⟨_,_,_,_,o,_,_,e,_⟩:=x;exact Heap.lt_size e
  | set S n=>obtain⟨o,_,_,_,e,_⟩:=x;exact Heap.lt_size e
  | ins C dx fs=>obtain⟨_,_,_,e,_⟩:=x;exact Heap.lt_size e
  | own y=>obtain⟨_,e⟩:=x;exact Heap.lt_size e
  | xd fs=>obtain⟨_,⟨_,_,_,e,_⟩,_⟩:=x;exact Heap.lt_size e
  | rng lo hi=>obtain⟨_,_,_,e⟩:=x;exact Heap.lt_size e
  | frz ob u=>obtain⟨e,_⟩:=x;exact Heap.lt_size e
  | tbl ps=>exact Heap.lt_size (show h.get? a=some _ from x)
  | met f y=>exact Heap.lt_size (show h.get? a=some _ from x)
  | ext φ=>obtain⟨_,⟨_,e⟩,_⟩:=x;exact Heap.lt_size e
theorem Paired.mapP{α β:Type}{F G:α→β→Prop}:∀{l₁:List α} {l₂:List β},Paired F l₁ l₂→(∀a b,F a b→G a b)→Paired G l₁ l₂
  | _,_,.nil,_=>.nil
  | _,_,.cons r t,f=>.cons (f _ _ r) (Paired.mapP t f)
theorem cP.stay(x:cP P w H h a o)(k:∀b u,(b=a∨H b=some (.own a))→h.get? b=some u→h'.get? b=some u)
    (ho:∀b,H b=some (.own a)→H' b=some (.own a))(ht:∀b xs,H b=some (.tup xs)→H' b=some (.tup xs)):cP P w H' h' a o:=by
  induction o with
  | lst xs=>obtain⟨z,its,n,r,e⟩:=x;exact⟨z,its,n,r,k _ _ (.inl rfl) e⟩
  | tup xs=>obtain⟨z,its,r,ob,e,c⟩:=x;exact⟨z,its,r,ob,k _ _ (.inl rfl) e,c⟩
  | dK kvs=>obtain⟨z,y,vs,r,ob,es,ep,e,c⟩:=x;exact⟨z,y,vs,r,ob,es,ep,k _ _ (.inl rfl) e,c⟩
  | dT kvs=>
    obtain⟨z,y,xs,r,ob,es,ep,e,c⟩:=x
    exact⟨z,y,xs,Paired.mapP r fun p q z=>⟨z.1,ht _ _ z.2.1,z.2.2⟩,ob,es,ep,k _ _ (.inl rfl) e,c⟩
  | set S n=>obtain⟨ob,es,ep,t,e,c⟩:=x;exact⟨ob,es,ep,t,k _ _ (.inl rfl) e,c⟩
  | ins C dx fs=>
    obtain⟨d,z,ne,e,mA,⟨od,es,ep,e2,c⟩,r⟩:=x
    exact⟨ho _ d,z,ne,k _ _ (.inl rfl) e,mA,⟨od,es,ep,k _ _ (.inr d) e2,c⟩,r⟩
  | own y=>obtain⟨ob,e⟩:=x;exact⟨ob,k _ _ (.inl rfl) e⟩
  | xd fs=>obtain⟨mA,⟨od,es,ep,e,c⟩,r⟩:=x;exact⟨mA,⟨od,es,ep,k _ _ (.inl rfl) e,c⟩,r⟩
  | rng lo hi=>obtain⟨t,u,v,e⟩:=x;exact⟨t,u,v,k _ _ (.inl rfl) e⟩
  | frz ob u ih=>obtain⟨e,q⟩:=x;exact⟨k _ _ (.inl rfl) e,ih q⟩
  | tbl ps=>
    have e:h.get? a=some {cls:=.none,data:=.fields ps}:=x
    show h'.get? a=some {cls:=.none,data:=.fields ps}
    exact k a _ (.inl rfl) e
  | met f y=>
    have e:h.get? a=some (PySem.W.methodObj (.ref f) (.ref y)):=x
    show h'.get? a=some (PySem.W.methodObj (.ref f) (.ref y))
    exact k a _ (.inl rfl) e
  | ext φ=>obtain⟨p,⟨o,e⟩,st⟩:=x;exact⟨st _ _ p fun o q=>k _ _ (.inl rfl) q,⟨o,k _ _ (.inl rfl) e⟩,st⟩
theorem ku.lt(x:ku P w H h)(e:H a=some o):a < h.objs.size:=(x a o e).lt
theorem ku.fresh(x:ku P w H h)(e:h.objs.size≤a):H a=none:=by
  cases q:H a with
  | none=>rfl
  | some u=>exact absurd (Nat.lt_of_lt_of_le (x.lt q) e) (Nat.lt_irrefl _)
theorem ku.kept(x:ku P w H h)(k:∀b u,h.get? b=some u→h'.get? b=some u):ku P w H h':=fun a o e=>
  (x a o e).stay (fun b u _ q=>k b u q) (fun _ q=>q) fun _ _ q=>q
theorem ku.laid(x:ku P w H h)(k:∀b u,h.get? b=some u→h'.get? b=some u)(hp:h.objs.size≤a)(new:cP P w (aV H a o) h' a o):ku P w (aV H a o) h':=fun b u e=>by
  have hn:=x.fresh hp
  by_cases hb:b=a
  · subst hb;rw [am] at e;cases e;exact new
  · rw [ax hb] at e
    exact(x b u e).stay (fun c v _ q=>k c v q) (fun c q=>by rw [ax (dX q hn)];exact q) fun c xs q=>by rw [ax (dX q hn)];exact q
end
def Rd(H:Hp)(a:Addr)(u:HO):Prop:=H a=some u∨∃o,H a=some (.frz o u)
theorem Rd.ok{P:Program}{w:World}{H:Hp}{h:Heap}{a:Addr}{u:HO}(r:Rd H a u)(x:ku P w H h):cP P w H h a u:=by
  rcases r with r | ⟨o,r⟩
  · exact x a u r
  · obtain⟨_,q⟩:=x a _ r
    exact q
def Dj:Option HO→Prop
  | some (.lst _)=>True
  | some (.dK _)=>True
  | some (.dT _)=>True
  | some (.set _ _)=>True
  | some (.ins _ _ _)=>True
  | some (.ext _)=>True
  | _=>False
section
variable{P:Program}{w:World}{H:Hp}{h h':Heap}{x e:Addr}{o':HO}
theorem ku.write(ok:ku P w H h)(mu:Dj (H x))(he:e=x∨H e=some (.own x))(k:∀b u,b≠e→h.get? b=some u→h'.get? b=some u)(heo:∃u,h'.get? e=some u)
    (new:cP P w (aV H x o') h' x o'):ku P w (aV H x o') h':=fun b u q=>by
  have nown:∀c y,H c=some (.own y)→c≠x:=fun c y r z=>by subst z;rw [r] at mu;exact mu
  have ntup:∀c xs,H c=some (.tup xs)→c≠x:=fun c xs r z=>by subst z;rw [r] at mu;exact mu
  by_cases hb:b=x
  · subst hb;rw [am] at q;cases q;exact new
  · rw [ax hb] at q
    by_cases hbe:b=e
    · have q':H b=some (.own x):=by
        rcases he with z | z
        · exact absurd (hbe.trans z) hb
        · rw [hbe];exact z
      rw [q] at q';cases q'
      obtain⟨v,hv⟩:=heo
      exact⟨v,by rw [hbe];exact hv⟩
    · refine(ok b u q).stay (fun c v hc r=>k c v ?_ r) (fun c r=>by rw [ax (nown c b r)];exact r) fun c xs r=>by rw [ax (ntup c xs r)];exact r
      rcases hc with rfl | hc
      · exact hbe
      · rintro rfl
        rcases he with z | z
        · exact nown c b hc z
        · rw [hc] at z;cases z;exact hb rfl
end
structure Un (fs ex:List Addr) (H H':Hp) (h h':Heap):Prop where
  keep:∀b o,h.get? b=some o→H b=none→b∉fs→b∉ex→h'.get? b=some o
  slot:∀b o,h.get? b=some o→H b=none→b∈fs→b∉ex→∃sl,h'.get? b=some {o with slots:=sl}
  free:∀b o,h.get? b=some o→H b=none→b∉ex→H' b=none
  there:∀b o,h.get? b=some o→b∉ex→∃o',h'.get? b=some o'
  tups:∀b xs,H b=some (.tup xs)→H' b=some (.tup xs)
  frzs:∀b o u,H b=some (.frz o u)→H' b=some (.frz o u)
  tbls:∀b ps,H b=some (.tbl ps)→∃more,H' b=some (.tbl (ps++more))
section
variable{fs fs' ex ex':List Addr}{H H1 H2:Hp}{h h1 h2 h':Heap}{a x e:Addr}{o:HO}
theorem Un.any(u:Un fs ex H H1 h h1){b:Addr}{ob:Obj}(q:h.get? b=some ob)(n:H b=none)(hx:b∉ex):∃sl,h1.get? b=some {ob with slots:=sl}:=by
  by_cases hb:b∈fs
  · exact u.slot b ob q n hb hx
  · exact⟨ob.slots,u.keep b ob q n hb hx⟩
theorem Un.kept(k:∀b u,h.get? b=some u→h'.get? b=some u):Un fs ex H H h h':=
  ⟨fun b ob q _ _ _=>k b ob q,fun b ob q _ _ _=>⟨ob.slots,k b ob q⟩,fun _ _ _ n _=>n,fun b ob q _=>⟨ob,k b ob q⟩,fun _ _ q=>q,fun _ _ _ q=>q,fun _ ps q=>⟨#[],by rw [q];simp⟩⟩
theorem Un.refl:Un fs ex H H h h:=Un.kept fun _ _ q=>q
theorem Un.laid(k:∀b u,h.get? b=some u→h'.get? b=some u)(hp:h.objs.size≤a)(hn:H a=none):Un fs ex H (aV H a o) h h' where
  keep:=fun b u q _ _ _=>k b u q
  slot:=fun b u q _ _ _=>⟨u.slots,k b u q⟩
  free:=fun b u q n _=>by rw [ax (Nat.ne_of_lt (Nat.lt_of_lt_of_le (Heap.lt_size q) hp))];exact n
  there:=fun b u q _=>⟨u,k b u q⟩
  tups:=fun b xs q=>by rw [ax (dX q hn)];exact q
  frzs:=fun b u xs q=>by rw [ax (dX q hn)];exact q
  tbls:=fun b ps q=>⟨#[],by rw [ax (dX q hn),q];simp⟩
theorem Un.write(mu:Dj (H x))(he:e=x∨H e=some (.own x))(k:∀b u,b≠e→h.get? b=some u→h'.get? b=some u)(heo:∃u,h'.get? e=some u):Un fs ex H (aV H x o) h h':=by
  have hx:∀b,H b=none→b≠x:=fun b n z=>by subst z;rw [n] at mu;exact mu
  have hb:∀b,H b=none→b≠e:=fun b n z=>by
    subst z
    rcases he with r | r
    · exact hx b n r
    · rw [n] at r;cases r
  have hm:∀b u,H b=some u→¬Dj (some u)→b≠x:=fun b u q nm z=>by subst z;rw [q] at mu;exact nm mu
  refine⟨fun b u q n _ _=>k b u (hb b n) q,fun b u q n _ _=>⟨u.slots,k b u (hb b n) q⟩,fun b u q n _=>by rw [ax (hx b n)];exact n,fun b u q _=>?_,
    fun b xs q=>by rw [ax (hm b _ q fun z=>z)];exact q,fun b u xs q=>by rw [ax (hm b _ q fun z=>z)];exact q,fun b ps q=>⟨#[],by rw [ax (hm b _ q fun z=>z),q];simp⟩⟩
  by_cases hbe:b=e
  · subst hbe;exact heo
  · exact⟨u,k b u hbe q⟩
end
def Fm(h:Heap)(H:Hp):List Addr:=(List.range h.objs.size).filter fun a=>(H a).isSome
def oJ(h:Heap)(H:Hp):Heap:=PySem.W.hideAll h (Fm h H)
theorem uQ(h:Heap)(H:Hp):(oJ h H).objs.size=h.objs.size:=PySem.W.hideAll_size _ _
theorem ww{h:Heap}{H:Hp}{b:Addr}{o:Obj}(e:h.get? b=some o)(n:H b=none):(oJ h H).get? b=some o:=
  PySem.W.hideAll_get _ e fun hm=>by
    have q:(H b).isSome=true:=(List.mem_filter.mp hm).2
    rw [n] at q;simp at q
theorem y'{h:Heap}{H:Hp}{b:Addr}{o:Obj}(e:(oJ h H).get? b=some o):h.get? b=some o∧H b=none:=by
  have e':h.get? b=some o:=PySem.W.of_hideAll (Fm h H) e
  refine⟨e',?_⟩
  cases q:H b with
  | none=>rfl
  | some x=>
    have hm:b∈Fm h H:=List.mem_filter.mpr ⟨List.mem_range.mpr (Heap.lt_size e'),by simp [q]⟩
    have z:(oJ h H).get? b=none:=PySem.W.hideAll_none (Fm h H) hm
    rw [z] at e;cases e
def n_(g h:Heap)(L:Addr):List (Addr × Obj):=(List.range h.objs.size).filterMap fun a=>if a=L∨(g.get? a).isSome=true then none else(h.get? a).map fun o=>(a,o)
theorem l_{g h:Heap}{L:Addr}{p:Addr × Obj}(hp:p∈n_ g h L):p.1≠L∧g.get? p.1=none∧h.get? p.1=some p.2:=by
  obtain⟨b,_,e⟩:=List.mem_filterMap.mp hp
  split at e
  · cases e
  · rename_i hn
    cases q:h.get? b with
    | none=>rw [q] at e;simp at e
    | some u=>
      rw [q] at e
      simp only [Option.map_some,Option.some.injEq] at e
      subst e
      refine⟨fun z=>hn (.inl z),?_,q⟩
      show g.get? b=none
      cases r:g.get? b with
      | none=>rfl
      | some v=>exact(hn (.inr (by simp [r]))).elim
def fP(g h:Heap)(L d:Addr):List (Addr × Obj):=(n_ g h L).filter fun p=>decide (p.1≠d)
theorem wZ{g h:Heap}{L:Addr}:News g L h (n_ g h L):=fun p hp=>let ⟨a,b,c⟩:=l_ hp;⟨c,a,b⟩
end L2
namespace L2
open PySem PySem.Spec PyProof.Rows
structure Mod (K:PySem.W.Frag) (mg:Str→Option Value) (base:Heap):Prop where
  kin:K.In base
  glob:base.Ns mainGlobals mg
  blt:∃mb,base.Ns builtinsNs mb∧∀x:Str,x≠"__name__"→mb x=bootBuiltins x
  nolimit:base.NoLimit
structure Cx where
  prog:Program
  w:World
  K:PySem.W.Frag
  mg:Str→Option Value
  base:Heap
  A:Around
  N:List Str
  s₀:Shared
  H₀:Hp
  env:Env
  outer:List Env
  stack:List Env
  ex:List Addr
  fn:Str→Bool
  calm:Bool
  pn:List (Addr × Obj)
  xe:Value→Shared→Prop
def vY(l:List Env):List Addr:=l.filterMap (·.frame)
abbrev Cx.fs(X:Cx):List Addr:=vY X.outer
def yv(sc:Scope)(x:Str):Prop:=sc.names.lookup x=some .local∨sc.names.lookup x=some .cell∨sc.names.lookup x=some .free
def Bh(sc:Scope)(x:Str):Prop:=sc.names.lookup x=some .local∨sc.names.lookup x=some .cell
def Fu(env:Env)(h:Heap)(m:Str→Option Value)(x:Str)(u:Value):Prop:=
  (env.kindOf x=some .local∧m x=some u)∨((env.kindOf x=some .cell∨env.kindOf x=some .free)∧∃c,env.cells.lookup x=some c∧h.IsCell c (some u))
structure Cx.Ok (X:Cx):Prop where
  mod:Mod X.K X.mg X.base
  kind:X.env.scope.kind=.function
  glob:X.env.globals=mainGlobals
  blt:X.env.builtins=builtinsNs
  above:X.s₀.heap.objs.size≤X.env.locals
  inj:∀x y c,X.env.cells.lookup x=some c→X.env.cells.lookup y=some c→x=y
  has:∀x,(X.env.kindOf x=some .cell∨X.env.kindOf x=some .free)→∃c,X.env.cells.lookup x=some c
  cab:∀x c,X.fn x=true→X.env.cells.lookup x=some c→X.s₀.heap.objs.size≤c
  hd:X.calm=true→X.A.handled=none
  frames:X.A.frames=some X.stack
  stk:X.stack=X.outer∨(X.stack=X.env::X.outer∧X.env.frame=some X.env.locals)
  exf:∀b∈X.ex,b≠X.env.locals∧∀x c,X.env.cells.lookup x=some c→c≠b
  bs:∀b o,X.base.get? b=some o→X.s₀.heap.get? b=some o∧X.H₀ b=none
  bsz:X.base.objs.size≤X.s₀.heap.objs.size
  noex:∀b o,X.base.get? b=some o→b∉X.ex
  exfs:∀b∈X.ex,b∉X.fs
  funs:X.s₀.heap.FunFrames X.base X.outer
  frf:∀b∈X.fs,X.H₀ b=none
structure az (X:Cx) (pins:List (Addr × Obj)) (σ:List (Option V)) (H:Hp) (s:Shared):Prop where
  ok:X.Ok
  os:s.os=X.s₀.os
  bare:AllBare s.gens
  base:Un X.fs X.ex X.H₀ H X.s₀.heap s.heap
  loc:∃m,s.heap.Ns X.env.locals m∧∀(i:Nat) (x:Str) (v:V),X.N[i]?=some x→σ[i]?=some (some v)→yv X.env.scope x→∃u,bC v u∧Fu X.env s.heap m x u
  cell:∀x c,X.env.cells.lookup x=some c→∃v,s.heap.IsCell c v
  free:H X.env.locals=none
  freeC:∀x c,X.env.cells.lookup x=some c→H c=none
  pin:∀p∈X.pn++pins,s.heap.get? p.1=some p.2∧H p.1=none∧p.1≠X.env.locals∧p.1∉X.fs∧∀v,p.2.data≠.cell v
  hok:ku X.prog X.w H s.heap
  len:σ.length=X.N.length
section
variable{X:Cx}{pins:List (Addr × Obj)}{σ:List (Option V)}{H H':Hp}{s:Shared}{h':Heap}
theorem Cx.Ok.nofr(ok:X.Ok){b:Addr}{o:Obj}(e:X.base.get? b=some o):b∉X.fs:=fun hb=>by
  have:=(ok.funs.mem hb).1
  rw [e] at this;cases this
theorem az.bs(I:az X pins σ H s):∀b o,X.base.get? b=some o→s.heap.get? b=some o∧H b=none:=fun b o e=>
  ⟨I.base.keep b o (I.ok.bs b o e).1 (I.ok.bs b o e).2 (I.ok.nofr e) (I.ok.noex b o e),I.base.free b o (I.ok.bs b o e).1 (I.ok.bs b o e).2 (I.ok.noex b o e)⟩
theorem az.bk(I:az X pins σ H s):∀b o,X.base.get? b=some o→s.heap.get? b=some o:=fun b o e=>(I.bs b o e).1
theorem az.mod(I:az X pins σ H s):Mod X.K X.mg X.base:=I.ok.mod
theorem az.kIn(I:az X pins σ H s):X.K.In s.heap:=I.ok.mod.kin.keeps I.bk
theorem az.fr(I:az X pins σ H s):∃m,Fr X.base X.env.locals s.heap m:=
  let ⟨m,hn,_⟩:=I.loc
  ⟨m,hn,I.bk,Nat.le_trans I.ok.bsz I.ok.above⟩
theorem az.lt(I:az X pins σ H s):X.env.locals < s.heap.objs.size:=let ⟨_,hn,_⟩:=I.loc;hn.lt
theorem az.sz(I:az X pins σ H s):X.s₀.heap.objs.size≤s.heap.objs.size:=Nat.le_trans I.ok.above (Nat.le_of_lt I.lt)
theorem az.nofs(I:az X pins σ H s){a:Addr}(h:s.heap.objs.size≤a):a∉X.fs:=fun hb=>by
  obtain⟨_,o,ho,_⟩:=I.ok.funs.mem hb
  exact absurd (Nat.lt_of_lt_of_le (Heap.lt_size ho) (Nat.le_trans I.sz h)) (Nat.lt_irrefl _)
theorem az.cne(I:az X pins σ H s):∀x c,X.env.cells.lookup x=some c→c≠X.env.locals:=fun x c e z=>by
  obtain⟨v,o,ho,hd⟩:=I.cell x c e
  obtain⟨m,⟨o',es,ep,ho',hd',_⟩,_⟩:=I.loc
  rw [z,ho'] at ho;cases ho;rw [hd'] at hd;cases hd
theorem az.funs(I:az X pins σ H s):s.heap.FunFrames X.base X.outer:=by
  have all:∀(l:List Env),(∀b∈vY l,b∈X.fs)→X.s₀.heap.FunFrames X.base l→s.heap.FunFrames X.base l:=by
    intro l
    induction l with
    | nil=>intro _ _;trivial
    | cons env r ih=>
      intro hs hl
      obtain⟨hk,⟨L,o,hf,hn,ho,hd⟩,hr⟩:=hl
      have hL:L∈X.fs:=hs L (by unfold vY;rw [List.filterMap_cons,hf];exact List.mem_cons_self)
      obtain⟨sl,e⟩:=I.base.slot L o ho (I.ok.frf L hL) hL fun z=>I.ok.exfs L z hL
      exact⟨hk,⟨L,_,hf,hn,e,hd⟩,ih (fun b hb=>hs b (by unfold vY;rw [List.filterMap_cons,hf];exact List.mem_cons_of_mem _ hb)) hr⟩
  exact all X.outer (fun _ hb=>hb) I.ok.funs
theorem az.stack(I:az X pins σ H s):s.heap.FunFrames X.base X.stack:=by
  rcases I.ok.stk with e | ⟨e,hf⟩
  · rw [e];exact I.funs
  · rw [e]
    obtain⟨m,hn,_⟩:=I.loc
    refine .cons (by rw [I.ok.kind];decide) hf hn ?_ I.funs
    exact Heap.get?_none_of_le (Nat.le_trans I.ok.bsz I.ok.above)
theorem az.stkSub(I:az X pins σ H s):∀b∈vY X.stack,b∈X.env.locals::X.fs:=fun b hb=>by
  rcases I.ok.stk with e | ⟨e,hf⟩
  · rw [e] at hb;exact List.mem_cons_of_mem _ hb
  · rw [e] at hb
    unfold vY at hb
    rw [List.filterMap_cons,hf] at hb
    exact hb
theorem az.stkFree(I:az X pins σ H s):∀b∈vY X.stack,H b=none:=fun b hb=>by
  rcases List.mem_cons.mp (I.stkSub b hb) with e | hb
  · rw [e];exact I.free
  · obtain⟨_,o,ho,_⟩:=I.ok.funs.mem hb
    exact I.base.free b o ho (I.ok.frf b hb) fun z=>I.ok.exfs b z hb
theorem az.step{g':Array GenState}{t':Nat}{d':Drawn}{ch:List Addr}(I:az X pins σ H s)
    (hch:∀b∈ch,(b∈X.ex∨X.s₀.heap.objs.size≤b)∧b≠X.env.locals∧(∀x c,X.env.cells.lookup x=some c→c≠b)∧∀p∈X.pn++pins,p.1≠b)
    (keep:∀b o,b≠X.env.locals→b∉X.fs→b∉ch→s.heap.get? b=some o→H b=none→h'.get? b=some o)
    (slot:∀b o,b≠X.env.locals→b∈X.fs→b∉ch→s.heap.get? b=some o→H b=none→∃sl,h'.get? b=some {o with slots:=sl})(free:∀b o,b∉ch→s.heap.get? b=some o→H b=none→H' b=none)
    (there:∀b o,b∉ch→s.heap.get? b=some o→∃o',h'.get? b=some o')
    (tups:∀b xs,H b=some (.tup xs)→H' b=some (.tup xs))(frzs:∀b o u,H b=some (.frz o u)→H' b=some (.frz o u))(tbls:∀b ps,H b=some (.tbl ps)→∃more,H' b=some (.tbl (ps++more)))
    (ns:∀m,s.heap.Ns X.env.locals m→h'.Ns X.env.locals m)(hok:ku X.prog X.w H' h')(hg:AllBare g'):
    az X pins σ H' {s with heap:=h',gens:=g',drawn:=d',toks:=t'}:=by
  have neL:∀b o,X.s₀.heap.get? b=some o→b≠X.env.locals:=fun b o e=>Nat.ne_of_lt (Nat.lt_of_lt_of_le (Heap.lt_size e) I.ok.above)
  have neC:∀b o,X.s₀.heap.get? b=some o→b∉X.ex→b∉ch:=fun b o e hx hb=>by
    rcases(hch b hb).1 with z | z
    · exact hx z
    · exact absurd (Nat.lt_of_lt_of_le (Heap.lt_size e) z) (Nat.lt_irrefl _)
  have cellK:∀x c,X.env.cells.lookup x=some c→∀v,s.heap.IsCell c v→h'.IsCell c v:=fun x c e v ⟨o,ho,hd⟩=>by
    have nch:c∉ch:=fun z=>(hch c z).2.2.1 x c e rfl
    by_cases hc:c∈X.fs
    · obtain⟨sl,q⟩:=slot c o (I.cne x c e) hc nch ho (I.freeC x c e)
      exact⟨_,q,hd⟩
    · exact⟨o,keep c o (I.cne x c e) hc nch ho (I.freeC x c e),hd⟩
  refine⟨I.ok,I.os,hg,⟨fun b o e n hb hx=>?_,fun b o e n hb hx=>?_,fun b o e n hx=>?_,fun b o e hx=>?_,fun b xs e=>tups b xs (I.base.tups b xs e),fun b o xs e=>frzs b o xs (I.base.frzs b o xs e),fun b ps e=>?_⟩,?_,fun x c e=>?_,?_,fun x c e=>?_,fun p hp=>?_,hok,I.len⟩
  · exact keep b o (neL b o e) hb (neC b o e hx) (I.base.keep b o e n hb hx) (I.base.free b o e n hx)
  · obtain⟨sl,e1⟩:=I.base.slot b o e n hb hx
    obtain⟨sl',e2⟩:=slot b _ (neL b o e) hb (neC b o e hx) e1 (I.base.free b o e n hx)
    exact⟨sl',e2⟩
  · obtain⟨o',e1⟩:=I.base.there b o e hx
    exact free b o' (neC b o e hx) e1 (I.base.free b o e n hx)
  · obtain⟨o',e1⟩:=I.base.there b o e hx
    exact there b o' (neC b o e hx) e1
  · obtain⟨m1,e1⟩:=I.base.tbls b ps e
    obtain⟨m2,e2⟩:=tbls b _ e1
    exact⟨m1++m2,by rw [e2,Array.append_assoc]⟩
  · obtain⟨m,hn,hl⟩:=I.loc
    refine⟨m,ns m hn,fun i x v e1 e2 e3=>?_⟩
    obtain⟨u,r,l⟩:=hl i x v e1 e2 e3
    refine⟨u,r,?_⟩
    rcases l with l | ⟨k,c,e,z⟩
    · exact .inl l
    · exact .inr ⟨k,c,e,cellK x c e _ z⟩
  · obtain⟨v,z⟩:=I.cell x c e
    exact⟨v,cellK x c e v z⟩
  · obtain⟨m,⟨o,_,_,ho,_⟩,_⟩:=I.loc
    exact free _ o (fun z=>(hch _ z).2.1 rfl) ho I.free
  · obtain⟨v,o,ho,hd⟩:=I.cell x c e
    exact free c o (fun z=>(hch c z).2.2.1 x c e rfl) ho (I.freeC x c e)
  · obtain⟨e,n,ne,nf,d⟩:=I.pin p hp
    have nch:p.1∉ch:=fun z=>(hch p.1 z).2.2.2 p hp rfl
    exact⟨keep p.1 p.2 ne nf nch e n,free p.1 p.2 nch e n,ne,nf,d⟩
theorem az.un{t':Nat}(I:az X pins σ H s)(u:Un X.fs [] H H' s.heap h')(hok:ku X.prog X.w H' h'):az X pins σ H' {s with heap:=h',toks:=t'}:=by
  obtain⟨m,⟨o,es,ep,ho,r⟩,_⟩:=id I.loc
  obtain⟨sl,hL⟩:=u.any ho I.free (by simp)
  exact I.step (g':=s.gens) (d':=s.drawn) (ch:=[]) (fun _ z=>nomatch z) (fun b o _ hb _ e n=>u.keep b o e n hb (by simp)) (fun b o _ hb _ e n=>u.slot b o e n hb (by simp)) (fun b o _ e n=>u.free b o e n (by simp)) (fun b o _ e=>u.there b o e (by simp)) u.tups u.frzs u.tbls (fun m' hm=>by
    obtain⟨o',es',ep',ho',r'⟩:=hm
    rw [ho] at ho';cases ho'
    exact⟨_,es',ep',hL,r'⟩) hok I.bare
theorem az.call{g':Array GenState}{t':Nat}{d':Drawn}{ch:List Addr}(I:az X pins σ H s)(u:Un (vY X.stack) ch H H' s.heap h')(hok:ku X.prog X.w H' h')(hg:AllBare g')
    (hch:∀b∈ch,(b∈X.ex∨X.s₀.heap.objs.size≤b)∧b≠X.env.locals∧(∀x c,X.env.cells.lookup x=some c→c≠b)∧∀p∈X.pn++pins,p.1≠b):
    az X pins σ H' {s with heap:=h',gens:=g',drawn:=d',toks:=t'}:=by
  obtain⟨m,⟨o,es,ep,ho,r⟩,_⟩:=id I.loc
  obtain⟨sl,hL⟩:=u.any ho I.free fun z=>(hch _ z).2.1 rfl
  exact I.step (ch:=ch) hch (fun b o hL hb hc e n=>u.keep b o e n (fun z=>(List.mem_cons.mp (I.stkSub b z)).elim hL hb) hc) (fun b o _ _ hc e n=>u.any e n hc) (fun b o hc e n=>u.free b o e n hc) (fun b o hc e=>u.there b o e hc) u.tups u.frzs u.tbls (fun m' hm=>by
    obtain⟨o',es',ep',ho',r'⟩:=hm
    rw [ho] at ho';cases ho'
    exact⟨_,es',ep',hL,r'⟩) hok hg
theorem az.turned{t':Nat}{it:Addr}(I:az X pins σ H s)(k:∀b o,b≠it→s.heap.get? b=some o→h'.get? b=some o)(hn:H it=none)(hL:it≠X.env.locals)
    (h1:it∈X.ex∨X.s₀.heap.objs.size≤it)(h2:∀x c,X.env.cells.lookup x=some c→c≠it)(h3:∀p∈X.pn++pins,p.1≠it):az X pins σ H {s with heap:=h',toks:=t'}:=by
  have nit:∀b u,H b=some u→b≠it:=fun b u e z=>by rw [z,hn] at e;cases e
  refine I.step (g':=s.gens) (d':=s.drawn) (ch:=[it]) (fun b hb=>?_) (fun b o _ _ hc e _=>k b o (fun z=>hc (by simp [z])) e) (fun b o _ _ hc e _=>⟨o.slots,k b o (fun z=>hc (by simp [z])) e⟩) (fun _ _ _ _ n=>n)
    (fun b o hc e=>⟨o,k b o (fun z=>hc (by simp [z])) e⟩) (fun _ _ e=>e) (fun _ _ _ e=>e) (fun b ps e=>⟨#[],by rw [e];simp⟩) (fun m hm=>?_) (fun b u e=>?_) I.bare
  · have e:b=it:=by simpa using hb
    subst e
    exact⟨h1,hL,h2,h3⟩
  · obtain⟨o,es,ep,ho,r⟩:=hm
    exact⟨o,es,ep,k _ o (Ne.symm hL) ho,r⟩
  · refine(I.hok b u e).stay (fun c v hc q=>k c v ?_ q) (fun _ q=>q) fun _ _ q=>q
    rcases hc with z | z
    · rw [z];exact nit b u e
    · exact nit c _ z
theorem az.tok(I:az X pins σ H s)(t:Nat):az X pins σ H {s with toks:=t}:=I.un (h':=s.heap) (t':=t) Un.refl I.hok
theorem az.kept{t':Nat}(I:az X pins σ H s)(k:∀b u,s.heap.get? b=some u→h'.get? b=some u):az X pins σ H {s with heap:=h',toks:=t'}:=I.un (Un.kept k) (I.hok.kept k)
theorem az.laid{a:Addr}{o:HO}{t':Nat}(I:az X pins σ H s)(k:∀b u,s.heap.get? b=some u→h'.get? b=some u)(hp:s.heap.objs.size≤a)(new:cP X.prog X.w (aV H a o) h' a o):
    az X pins σ (aV H a o) {s with heap:=h',toks:=t'}:=I.un (Un.laid k hp (I.hok.fresh hp)) (I.hok.laid k hp new)
theorem az.write{x e:Addr}{o:HO}{t':Nat}(I:az X pins σ H s)(mu:Dj (H x))(he:e=x∨H e=some (.own x))(k:∀b u,b≠e→s.heap.get? b=some u→h'.get? b=some u)(heo:∃u,h'.get? e=some u)
    (new:cP X.prog X.w (aV H x o) h' x o):az X pins σ (aV H x o) {s with heap:=h',toks:=t'}:=I.un (Un.write mu he k heo) (I.hok.write mu he k heo new)
theorem az.pins_of{pins':List (Addr × Obj)}(I:az X pins σ H s)(h:∀p∈pins',s.heap.get? p.1=some p.2∧H p.1=none∧p.1≠X.env.locals∧p.1∉X.fs∧∀v,p.2.data≠.cell v):az X pins' σ H s:=
  ⟨I.ok,I.os,I.bare,I.base,I.loc,I.cell,I.free,I.freeC,fun p hp=>(List.mem_append.mp hp).elim (fun z=>I.pin p (List.mem_append_left _ z)) (h p),I.hok,I.len⟩
theorem qz{N:List Str}(hN:N.Nodup){i j:Nat}{x:Str}(a:N[i]?=some x)(b:N[j]?=some x):i=j:=by
  obtain⟨h1,e1⟩:=List.getElem?_eq_some_iff.mp a
  obtain⟨h2,e2⟩:=List.getElem?_eq_some_iff.mp b
  exact(List.getElem_inj hN).mp (e1.trans e2.symm)
theorem kl{M:Model}{A:Around}{E:Value→Shared→Prop}{i:Nat}{x:Str}{v:V}{u:Value}{Q:Unit→Shared→Prop}(I:az X pins σ H s)(hN:X.N.Nodup)(hi:X.N[i]?=some x)(hx:Bh X.env.scope x)(r:bC v u)
    (h:∀s',az X pins (σ.set i (some v)) H s'→(∃a,Heap.SameBut a s.heap s'.heap∧(a=X.env.locals∨X.env.cells.lookup x=some a))→Q () s')(hf:X.fn x=true∨X.env.scope.names.lookup x=some .local:=by first | exact .inl rfl | exact .inr rfl | assumption):wpAny M A (storeName X.env x u) Q E s:=by
  obtain⟨m,hn,hl⟩:=id I.loc
  have hcls:(X.env.scope.kind==.class || (X.env.scope.kind==.module&&X.env.locals != X.env.globals))=false:=by rw [I.ok.kind];rfl
  have hiσ:i < σ.length:=by rw [I.len];exact(List.getElem?_eq_some_iff.mp hi).1
  have cne:=I.cne
  have tracked:∀{a:Addr} {h':Heap},(∃o,s.heap.get? a=some o∧H a=none)→Heap.SameBut a s.heap h'→ku X.prog X.w H h':=fun{a h'} ha hs b ob e=>by
    obtain⟨_,_,hfree⟩:=ha
    refine(I.hok b ob e).stay (fun c w' hc q=>(hs.2 c ?_).trans q) (fun _ q=>q) fun _ _ q=>q
    rintro rfl
    rcases hc with rfl | hc
    · rw [hfree] at e;cases e
    · rw [hfree] at hc;cases hc
  rcases hx with hk | hk
  · refine wpAny_storeName_local hk hn (fun h' hn' hs=>?_) hcls
    obtain⟨oL,_,_,hoL,_⟩:=id hn
    refine h _ ⟨I.ok,I.os,I.bare,⟨fun b o e n hb hx=>?_,fun b o e n hb hx=>?_,I.base.free,fun b o e hx=>?_,I.base.tups,I.base.frzs,I.base.tbls⟩,⟨_,hn',fun j y v' e1 e2 e3=>?_⟩,fun y c e=>?_,I.free,I.freeC,fun p hp=>?_,tracked ⟨oL,hoL,I.free⟩ hs,by simpa using I.len⟩ ⟨_,hs,.inl rfl⟩
    · exact(hs.2 b (Nat.ne_of_lt (Nat.lt_of_lt_of_le (Heap.lt_size e) I.ok.above))).trans (I.base.keep b o e n hb hx)
    · obtain⟨sl,e1⟩:=I.base.slot b o e n hb hx
      exact⟨sl,(hs.2 b (Nat.ne_of_lt (Nat.lt_of_lt_of_le (Heap.lt_size e) I.ok.above))).trans e1⟩
    · obtain⟨o',e1⟩:=I.base.there b o e hx
      exact⟨o',(hs.2 b (Nat.ne_of_lt (Nat.lt_of_lt_of_le (Heap.lt_size e) I.ok.above))).trans e1⟩
    · by_cases hj:j=i
      · subst hj
        rw [hi] at e1;cases e1
        rw [List.getElem?_set_self hiσ] at e2
        cases e2
        exact⟨u,r,.inl ⟨hk,by simp⟩⟩
      · rw [List.getElem?_set_ne (Ne.symm hj)] at e2
        obtain⟨u',r',q⟩:=hl j y v' e1 e2 e3
        refine⟨u',r',?_⟩
        rcases q with ⟨k,e⟩ | ⟨k,c,e,z⟩
        · refine .inl ⟨k,?_⟩
          have:y≠x:=fun e=>hj (qz hN e1 (e ▸ hi))
          simp [this,e]
        · exact .inr ⟨k,c,e,z.sameBut hs (cne y c e)⟩
    · obtain⟨w',z⟩:=I.cell y c e
      exact⟨w',z.sameBut hs (cne y c e)⟩
    · obtain⟨e,n,ne,nf,d⟩:=I.pin p hp
      exact⟨(hs.2 p.1 ne).trans e,n,ne,nf,d⟩
  · have hfn:X.fn x=true:=by
      rcases hf with z | z
      · exact z
      · rw [z] at hk;cases hk
    obtain⟨c,hc⟩:=I.ok.has x (.inl hk)
    obtain⟨w',z⟩:=I.cell x c hc
    refine wpAny_storeName_cell I.ok.kind hk hc z (fun h' hc' hs=>?_)
    obtain⟨oc,hoc,hocd⟩:=id z
    refine h {s with heap:=h'} ⟨I.ok,I.os,I.bare,⟨fun b o e n hb hx=>?_,fun b o e n hb hx=>?_,I.base.free,fun b o e hx=>?_,I.base.tups,I.base.frzs,I.base.tbls⟩,⟨m,hn.sameBut hs (Ne.symm (cne x c hc)),fun j y v' e1 e2 e3=>?_⟩,fun y c' e=>?_,I.free,I.freeC,fun p hp=>?_,tracked ⟨oc,hoc,I.freeC x c hc⟩ hs,by simpa using I.len⟩ ⟨c,hs,.inr hc⟩
    · exact(hs.2 b (Nat.ne_of_lt (Nat.lt_of_lt_of_le (Heap.lt_size e) (I.ok.cab x c hfn hc)))).trans (I.base.keep b o e n hb hx)
    · obtain⟨sl,e1⟩:=I.base.slot b o e n hb hx
      exact⟨sl,(hs.2 b (Nat.ne_of_lt (Nat.lt_of_lt_of_le (Heap.lt_size e) (I.ok.cab x c hfn hc)))).trans e1⟩
    · obtain⟨o',e1⟩:=I.base.there b o e hx
      exact⟨o',(hs.2 b (Nat.ne_of_lt (Nat.lt_of_lt_of_le (Heap.lt_size e) (I.ok.cab x c hfn hc)))).trans e1⟩
    · by_cases hj:j=i
      · subst hj
        rw [hi] at e1;cases e1
        rw [List.getElem?_set_self hiσ] at e2
        cases e2
        exact⟨u,r,.inr ⟨.inl hk,c,hc,hc'⟩⟩
      · rw [List.getElem?_set_ne (Ne.symm hj)] at e2
        obtain⟨u',r',q⟩:=hl j y v' e1 e2 e3
        refine⟨u',r',?_⟩
        rcases q with q | ⟨k,c',e,z'⟩
        · exact .inl q
        · refine .inr ⟨k,c',e,z'.sameBut hs ?_⟩
          rintro rfl
          exact hj (qz hN e1 (I.ok.inj _ _ _ e hc ▸ hi))
    · by_cases hcc:c'=c
      · subst hcc;exact⟨_,hc'⟩
      · obtain⟨w2,z2⟩:=I.cell y c' e
        exact⟨w2,z2.sameBut hs hcc⟩
    · obtain⟨e,n,ne,nf,d⟩:=I.pin p hp
      refine⟨(hs.2 p.1 ?_).trans e,n,ne,nf,d⟩
      intro q
      rw [q,hoc] at e
      have q':oc=p.2:=Option.some.inj e
      exact d w' (by rw [←q'];exact hocd)
theorem jY{M:Model}{A:Around}{E:Value→Shared→Prop}{i:Nat}{x:Str}{v:V}{u:Value}{Q:Unit→Shared→Prop}(I:az X pins σ H s)(hN:X.N.Nodup)(hi:X.N[i]?=some x)(hx:Bh X.env.scope x)(r:bC v u)
    (h:∀s',az X pins (σ.set i (some v)) H s'→Q () s')(hf:X.fn x=true∨X.env.scope.names.lookup x=some .local:=by first | exact .inl rfl | exact .inr rfl | assumption):wpAny M A (storeName X.env x u) Q E s:=
  kl I hN hi hx r (fun s' I' _=>h s' I') hf
theorem az.call'{s':Shared}{ch:List Addr}(I:az X pins σ H s)(ho:s'.os=s.os)(u:Un (vY X.stack) ch H H' s.heap s'.heap)(hok:ku X.prog X.w H' s'.heap)(hg:AllBare s'.gens)
    (hch:∀b∈ch,(b∈X.ex∨X.s₀.heap.objs.size≤b)∧b≠X.env.locals∧(∀x c,X.env.cells.lookup x=some c→c≠b)∧∀p∈X.pn++pins,p.1≠b):az X pins σ H' s':=by
  obtain⟨h',g',d',t',o'⟩:=s'
  have e:o'=s.os:=ho
  subst e
  exact I.call (g':=g') (t':=t') (d':=d') u hok hg hch
end
abbrev XK:=Value→Option Addr→Hp→Prop
abbrev St:=List (Option V)
abbrev VK:=V→Hp→Prop
abbrev TE:=St→Hp→VK→Prop
abbrev TT:=St→Hp→(Bool→Hp→Prop)→Prop
abbrev TA:=St→Hp→(List V→Hp→Prop)→Prop
structure rC where
  nx:St→Hp→Prop
  rt:VK
  bk:St→Hp→Prop:=fun _ _=>False
  ct:St→Hp→Prop:=fun _ _=>False
abbrev TS:=rC→St→Hp→Prop
def EP(X:Cx)(pins:List (Addr × Obj))(σ:St)(Q:VK)(u:Value)(s':Shared):Prop:=∃v H',az X pins σ H' s'∧bC v u∧Q v H'
def TP(X:Cx)(pins:List (Addr × Obj))(σ:St)(Q:Bool→Hp→Prop)(b:Bool)(s':Shared):Prop:=∃H',az X pins σ H' s'∧Q b H'
def AP(X:Cx)(pins:List (Addr × Obj))(σ:St)(Q:List V→Hp→Prop)(us:List Value)(s':Shared):Prop:=∃vs H',az X pins σ H' s'∧aI vs us∧Q vs H'
def SP(X:Cx)(pins:List (Addr × Obj))(D:rC)(f:Flow)(s':Shared):Prop:=
  match f with
  | .next=>∃σ' H',az X pins σ' H' s'∧D.nx σ' H'
  | .brk=>∃σ' H',az X pins σ' H' s'∧D.bk σ' H'
  | .cont=>∃σ' H',az X pins σ' H' s'∧D.ct σ' H'
  | .ret u=>∃v σ' H',az X pins σ' H' s'∧bC v u∧D.rt v H'
def PE(X:Cx)(e:Expr)(t:TE):Prop:=
  ∀(pins:List (Addr × Obj)) (s:Shared) (σ:St) (H:Hp) (Q:VK),az X pins σ H s→t σ H Q→wpAny (model X.prog X.w) X.A (eval e X.env) (EP X pins σ Q) X.xe s
def PT(X:Cx)(e:Expr)(t:TT):Prop:=
  ∀(pins:List (Addr × Obj)) (s:Shared) (σ:St) (H:Hp) (Q:Bool→Hp→Prop),az X pins σ H s→t σ H Q→wpAny (model X.prog X.w) X.A (isTrue e X.env (eval e X.env)) (TP X pins σ Q) X.xe s
def PW(X:Cx)(e:Expr)(t:TT):Prop:=
  ∀(whole:Sem Value) (pins:List (Addr × Obj)) (s:Shared) (σ:St) (H:Hp) (Q:Bool→Hp→Prop),az X pins σ H s→t σ H Q→wpAny (model X.prog X.w) X.A (isTrue e X.env whole) (TP X pins σ Q) X.xe s
theorem PW.pt{X:Cx}{e:Expr}{t:TT}(h:PW X e t):PT X e t:=h _
def PA(X:Cx)(es:List Expr)(t:TA):Prop:=
  ∀(pos:Pos) (pins:List (Addr × Obj)) (s:Shared) (σ:St) (H:Hp) (Q:List V→Hp→Prop),az X pins σ H s→t σ H Q→wpAny (model X.prog X.w) X.A (spliced (backTo pos (starEach es X.env))) (AP X pins σ Q) X.xe s
def PS(X:Cx)(st:Stmt)(t:TS):Prop:=
  ∀(pins:List (Addr × Obj)) (s:Shared) (σ:St) (H:Hp) (D:rC),az X pins σ H s→t D σ H→wpAny (model X.prog X.w) X.A (exec st X.env) (SP X pins D) X.xe s
def k_(X:Cx)(st:List Stmt)(t:TS):Prop:=
  ∀(pins:List (Addr × Obj)) (s:Shared) (σ:St) (H:Hp) (D:rC),az X pins σ H s→t D σ H→wpAny (model X.prog X.w) X.A (execs st X.env) (SP X pins D) X.xe s
theorem bF{α:Type}{t:Sem α}{Q Q':α→Shared→Prop}{M:Model}{A:Around}{E:Value→Shared→Prop}{s:Shared}(h:wpAny M A t Q E s)(hQ:∀a s,Q a s→Q' a s):wpAny M A t Q' E s:=wpAny_mono h hQ fun _ _ x=>x
end L2
namespace L2
open PySem PySem.Spec PyProof.Rows
section
variable{X:Cx}
def EY(i:Nat):TE:=fun σ H Q=>∃v,σ[i]?=some (some v)∧Q v H
def tC(v:V):TE:=fun _ H Q=>Q v H
theorem kd{i:Nat}{x:Str}{pos:Pos}(hN:X.N[i]?=some x)(hv:yv X.env.scope x)(hd:(x==("__debug__":Str))=false:=by decide)(hcd:(x==("__classdict__":Str))=false:=by decide):PE X (.Name x pos) (EY i):=by
  intro pins s σ H Q I h
  obtain⟨v,e,h⟩:=h
  obtain⟨m,hn,hl⟩:=I.loc
  obtain⟨u,r,l⟩:=hl i x v hN e hv
  have fin:EP X pins σ Q u s:=⟨v,H,I,r,h⟩
  rcases l with ⟨hk,hm⟩ | ⟨hk,c,hc,hcell⟩
  · exact wpAny_Name (wpAny_loadName_local I.ok.kind hk hn hm fin) hd
  · rcases hk with hk | hk
    · exact wpAny_Name (wpAny_loadName_cell I.ok.kind hk hc hcell fin) hd
    · exact wpAny_Name (wpAny_loadName_free I.ok.kind hk hc hcell fin hcd) hd
theorem oX{i j pos}:PE X (.Constant (.int i) j pos) (tC (.int i)):=fun _ _ _ H _ I h=>wpAny_Constant_int ⟨.int i,H,I.tok _,⟨_,rfl⟩,h⟩
theorem Ej{b j pos}:PE X (.Constant (.bool b) j pos) (tC (.bl b)):=fun _ _ _ H _ I h=>Constant_bool ⟨.bl b,H,I,rfl,h⟩
theorem B_{j pos}:PE X (.Constant .none j pos) (tC .non):=fun _ _ _ H _ I h=>Constant_none ⟨.non,H,I,rfl,h⟩
theorem Cb{x j pos}:PE X (.Constant (.str x) j pos) (tC (.str x)):=fun _ _ _ H _ I h=>Calls.Constant_str ⟨.str x,H,I.tok _,⟨_,rfl⟩,h⟩
def Gl(X:Cx)(x:Str):Prop:=X.env.kindOf x=some .globalImplicit
theorem y6{E:Value→Shared→Prop}{pins:List (Addr × Obj)}{s:Shared}{σ:St}{H:Hp}{x:Str}{u:Value}{pos:Pos}{Q:Value→Shared→Prop}(I:az X pins σ H s)(hg:Gl X x)(hm:X.mg x=some u)(h:Q u s)
    (hd:(x==("__debug__":Str))=false:=by decide):wpAny (model X.prog X.w) X.A (eval (.Name x pos) X.env) Q E s:=
  Calls.Name_function_global I.ok.kind hg (Calls.loadGlobal_global (by rw [I.ok.glob];exact I.mod.glob.keeps I.bk) hm h) hd
theorem iF{E:Value→Shared→Prop}{pins:List (Addr × Obj)}{s:Shared}{σ:St}{H:Hp}{x:Str}{u:Value}{pos:Pos}{Q:Value→Shared→Prop}(I:az X pins σ H s)(hg:Gl X x)(hm:X.mg x=none)(hv:bootBuiltins x=some u)(h:Q u s)
    (hn:x≠"__name__":=by decide)(hd:(x==("__debug__":Str))=false:=by decide):wpAny (model X.prog X.w) X.A (eval (.Name x pos) X.env) Q E s:=by
  obtain⟨mb,h1,h2⟩:=I.mod.blt
  exact Calls.Name_function_global I.ok.kind hg (Calls.loadGlobal_builtin (by rw [I.ok.glob];exact I.mod.glob.keeps I.bk) hm (by rw [I.ok.blt];exact h1.keeps I.bk) ((h2 x hn).trans hv) h) hd
variable{a b:Expr}{ta tb:TE}{pos:Pos}
def tB(t:TE):TT:=fun σ H Q=>t σ H fun x H1=>∃c,x=.bl c∧Q c H1
theorem Cm{e:Expr}{t:TE}(h:PE X e t)(he:∀whole,isTrue e X.env whole=(do let v ←whole;standAt e.pos;holding [v] (truthy v)):=by intro _;rfl):PT X e (tB t):=by
  intro pins s σ H Q I hw
  refine isTrue_plain (bF (h pins s σ H _ I hw) fun v s1 ⟨x,H1,I1,r1,q1⟩=>?_) (he _)
  obtain⟨d,rfl,q⟩:=q1
  cases r1
  exact wpAny_truthy_bool ⟨H1,I1,q⟩
variable{tA tB':TT}{fP:List Expr}
def EN(t u:TT):TT:=fun σ H Q=>t σ H fun c H1=>if c=true then u σ H1 Q else Q false H1
def GA(t u:TT):TT:=fun σ H Q=>t σ H fun c H1=>if c=true then Q true H1 else u σ H1 Q
def ET(t:TT):TT:=fun σ H Q=>t σ H fun c H1=>Q (!c) H1
theorem zN(ha:PT X a tA):PW X (.BoolOp .And [a] pos) tA:=by
  intro wh pins s σ H Q I h
  refine isTrue_and (bF (ha pins s σ H Q I h) fun c s1 e=>?_)
  cases c with
  | true=>exact isTrue_and_nil e
  | false=>exact e
theorem Co(ha:PT X a tA):PW X (.BoolOp .Or [a] pos) tA:=by
  intro wh pins s σ H Q I h
  refine isTrue_or (bF (ha pins s σ H Q I h) fun c s1 e=>?_)
  cases c with
  | false=>exact isTrue_or_nil e
  | true=>exact e
theorem Cn(ha:PT X a tA)(hb:PW X (.BoolOp .And (b::fP) pos) tB'):PW X (.BoolOp .And (a::b::fP) pos) (EN tA tB'):=by
  intro wh pins s σ H Q I h
  refine isTrue_and (bF (ha pins s σ H _ I h) fun c s1 ⟨H1,I1,q1⟩=>?_)
  cases c with
  | true=>exact hb wh pins s1 σ H1 Q I1 q1
  | false=>exact⟨H1,I1,q1⟩
theorem Er(ha:PT X a tA)(hb:PW X (.BoolOp .Or (b::fP) pos) tB'):PW X (.BoolOp .Or (a::b::fP) pos) (GA tA tB'):=by
  intro wh pins s σ H Q I h
  refine isTrue_or (bF (ha pins s σ H _ I h) fun c s1 ⟨H1,I1,q1⟩=>?_)
  cases c with
  | true=>exact⟨H1,I1,q1⟩
  | false=>exact hb wh pins s1 σ H1 Q I1 q1
theorem Ck(ha:PT X a tA):PT X (.UnaryOp .Not a pos) (ET tA):=by
  intro pins s σ H Q I h
  exact isTrue_not (ha pins s σ H (fun c H1=>Q (!c) H1) I h)
def EO(ta tb:TE):TE:=fun σ H Q=>ta σ H fun x H1=>∃c,x=.bl c∧if c=true then tb σ H1 Q else Q (.bl false) H1
def EU(ta:TE):TE:=fun σ H Q=>ta σ H fun x H1=>∃c,x=.bl c∧Q (.bl (!c)) H1
theorem Ca{op}{t:TE}(h:PE X a t):PE X (.BoolOp op [a] pos) t:=fun pins s σ H Q I hw=>BoolOp_one (h pins s σ H Q I hw)
theorem B9(ha:PE X a ta)(hb:PE X (.BoolOp .And (b::fP) pos) tb):PE X (.BoolOp .And (a::b::fP) pos) (EO ta tb):=by
  intro pins s σ H Q I h
  refine BoolOp_and (bF (ha pins s σ H _ I h) fun v s1 ⟨x,H1,I1,r1,q1⟩=>?_)
  obtain⟨c,rfl,q1⟩:=q1
  cases r1
  refine wpAny_truthy_bool ?_
  cases c with
  | true=>exact hb pins s1 σ H1 Q I1 q1
  | false=>exact⟨.bl false,H1,I1,rfl,q1⟩
theorem B'(ha:PE X a ta):PE X (.UnaryOp .Not a pos) (EU ta):=by
  intro pins s σ H Q I h
  refine UnaryOp_ (bF (ha pins s σ H _ I h) fun v s1 ⟨x,H1,I1,r1,q1⟩=>?_)
  obtain⟨c,rfl,q1⟩:=q1
  cases r1
  exact not_of (wpAny_truthy_bool ⟨.bl (!c),H1,I1,rfl,q1⟩)
end
end L2
namespace L2
open PySem PySem.Spec PyProof.Rows
def fm(K:PySem.W.Frag)(H:Hp)(a:Addr)(xs:List V):Prop:=
  Rd H a (.lst xs)∨
    ∃(o:Obj) (its:Array Value) (n:Nat),K.lookup a=some o∧o.cls=.type "list"∧o.dict=none∧o.data=.seq its n∧its.size≤sizeLine∧aI xs its.toList
def cZ(K:PySem.W.Frag)(H:Hp)(a:Addr)(xs:List V):Prop:=
  Rd H a (.tup xs)∨
    ∃(o:Obj) (its:Array Value) (n:Nat),K.lookup a=some o∧o.cls=.type "tuple"∧o.dict=none∧o.data=.seq its n∧its.size≤sizeLine∧aI xs its.toList
def Fz:Value→Option V
  | .none=>some .non
  | .bool b=>some (.bl b)
  | .int i _=>some (.int i)
  | .str x _=>some (.str x)
  | .bytes b _=>some (.byt b)
  | .float b _=>some (.flt b)
  | .ref a=>some (.ref a)
  | .type n=>some (.ty n)
  | _=>none
theorem bC.abs{x:V}{u:Value}(r:bC x u):Fz u=some x:=by
  cases x with
  | non=>cases r;rfl
  | bl _=>cases r;rfl
  | int _=>obtain⟨t,rfl⟩:=r;rfl
  | str _=>obtain⟨t,rfl⟩:=r;rfl
  | byt _=>obtain⟨t,rfl⟩:=r;rfl
  | flt _=>obtain⟨t,rfl⟩:=r;rfl
  | ref _=>cases r;rfl
  | ty _=>cases r;rfl
theorem bC.inj{x y:V}{u:Value}(r:bC x u)(q:bC y u):x=y:=Option.some.inj (r.abs.symm.trans q.abs)
theorem aI.inj:∀{xs ys:List V} {us:List Value},aI xs us→aI ys us→xs=ys
  | _,_,_,.nil,.nil=>rfl
  | _,_,_,.cons r t,.cons r' t'=>by rw [r.inj r',aI.inj t t']
section
variable{X:Cx}{pins:List (Addr × Obj)}{σ:St}{H:Hp}{s:Shared}{a:Addr}{xs ys:List V}
theorem fm.of{K:PySem.W.Frag}(h:H a=some (.lst xs)):fm K H a xs:=.inl (.inl h)
theorem cZ.of{K:PySem.W.Frag}(h:H a=some (.tup xs)):cZ K H a xs:=.inl (.inl h)
theorem az.list(I:az X pins σ H s)(h:fm X.K H a xs):∃its:List Value,aI xs its∧PlainL s.heap a its.toArray∧xs.length≤sizeLine:=by
  rcases h with h | ⟨o,its,n,hk,hc,hd,hs,hz,r⟩
  · obtain⟨z,its,n,r,e⟩:=h.ok I.hok
    exact⟨its,r,⟨_,n,e,rfl,rfl,rfl⟩,z⟩
  · refine⟨its.toList,r,⟨o,n,I.kIn a o hk,hc,hd,by simpa using hs⟩,?_⟩
    have e:=r.length
    simp only [Array.length_toList] at e
    lia
theorem az.tuple(I:az X pins σ H s)(h:cZ X.K H a xs):∃its:List Value,aI xs its∧IsTup s.heap a its.toArray∧xs.length≤sizeLine:=by
  rcases h with h | ⟨o,its,n,hk,hc,_,hs,hz,r⟩
  · obtain⟨z,its,r,p⟩:=h.ok I.hok
    exact⟨its,r,p.tup,z⟩
  · refine⟨its.toList,r,⟨o,I.kIn a o hk,hc,n,by simpa using hs⟩,?_⟩
    have e:=r.length
    simp only [Array.length_toList] at e
    lia
theorem az.list_inj(I:az X pins σ H s)(h:fm X.K H a xs)(h':fm X.K H a ys):xs=ys:=by
  obtain⟨its,r,⟨o,n,e,_,_,d⟩,_⟩:=I.list h
  obtain⟨its',r',⟨o',n',e',_,_,d'⟩,_⟩:=I.list h'
  rw [e] at e';cases e'
  rw [d] at d'
  injection d' with d1 _
  have:its=its':=by simpa using congrArg Array.toList d1
  subst this
  exact r.inj r'
theorem az.tuple_inj(I:az X pins σ H s)(h:cZ X.K H a xs)(h':cZ X.K H a ys):xs=ys:=by
  obtain⟨its,r,⟨o,e,_,n,d⟩,_⟩:=I.tuple h
  obtain⟨its',r',⟨o',e',_,n',d'⟩,_⟩:=I.tuple h'
  rw [e] at e';cases e'
  rw [d] at d'
  injection d' with d1 _
  have:its=its':=by simpa using congrArg Array.toList d1
  subst this
  exact r.inj r'
end
abbrev Cx.wish(X:Cx)(E:Value→Shared→Prop):Cx:={X with xe:=E}
abbrev Cx.nox(X:Cx):Cx:=X.wish fun _ _=>False
theorem Cx.Ok.wish{X:Cx}(ok:X.Ok)(E:Value→Shared→Prop):(X.wish E).Ok:=
  ⟨ok.mod,ok.kind,ok.glob,ok.blt,ok.above,ok.inj,ok.has,ok.cab,ok.hd,ok.frames,ok.stk,ok.exf,ok.bs,ok.bsz,ok.noex,ok.exfs,ok.funs,ok.frf⟩
theorem Cx.Ok.unwish{X:Cx}{E:Value→Shared→Prop}(ok:(X.wish E).Ok):X.Ok:=
  ⟨ok.mod,ok.kind,ok.glob,ok.blt,ok.above,ok.inj,ok.has,ok.cab,ok.hd,ok.frames,ok.stk,ok.exf,ok.bs,ok.bsz,ok.noex,ok.exfs,ok.funs,ok.frf⟩
section
variable{X:Cx}{pins:List (Addr × Obj)}{σ:St}{H:Hp}{s:Shared}{E:Value→Shared→Prop}
theorem az.wish(I:az X pins σ H s)(E:Value→Shared→Prop):az (X.wish E) pins σ H s:=⟨I.ok.wish E,I.os,I.bare,I.base,I.loc,I.cell,I.free,I.freeC,I.pin,I.hok,I.len⟩
theorem az.unwish(I:az (X.wish E) pins σ H s):az X pins σ H s:=⟨I.ok.unwish,I.os,I.bare,I.base,I.loc,I.cell,I.free,I.freeC,I.pin,I.hok,I.len⟩
theorem SP.unwish{D:rC}{f:Flow}{s':Shared}(h:SP (X.wish E) pins D f s'):SP X pins D f s':=by
  cases f with
  | next=>obtain⟨σ',H',I,q⟩:=h;exact⟨σ',H',I.unwish,q⟩
  | brk=>obtain⟨σ',H',I,q⟩:=h;exact⟨σ',H',I.unwish,q⟩
  | cont=>obtain⟨σ',H',I,q⟩:=h;exact⟨σ',H',I.unwish,q⟩
  | ret u=>obtain⟨v,σ',H',I,r,q⟩:=h;exact⟨v,σ',H',I.unwish,r,q⟩
theorem k_.nox{st:List Stmt}{t:TS}(h:k_ X.nox st t):k_ X st t:=fun pins s σ H D I hw=>
  wpAny_mono (h pins s σ H D (I.wish _) hw) (fun _ _ q=>q.unwish) fun _ _ z=>False.elim z
end
section
variable{X:Cx}{st:Stmt}{fP:List Stmt}{t u:TS}{e:Expr}{te:TE}{pos:Pos}
def ES:TS:=fun D σ H=>D.nx σ H
def Gi(t u:TS):TS:=fun D σ H=>t {D with nx:=u D} σ H
theorem zI:k_ X [] ES:=fun _ _ σ H _ I h=>wpAny_execs_nil ⟨σ,H,I,h⟩
theorem xE(h1:PS X st t)(h2:k_ X fP u):k_ X (st::fP) (Gi t u):=by
  intro pins s σ H D I h
  refine wpAny_execs_cons (bF (h1 pins s σ H {D with nx:=u D} I h) fun f s1 q=>?_)
  cases f with
  | next=>
    obtain⟨σ',H',I',q⟩:=q
    exact h2 pins s1 σ' H' D I' q
  | ret v=>exact q
  | brk=>exact q
  | cont=>exact q
theorem zJ(h1:PS X st t):k_ X [st] t:=by
  intro pins s σ H D I h
  refine wpAny_execs_cons (bF (h1 pins s σ H D I h) fun f s1 q=>?_)
  cases f with
  | next=>exact wpAny_execs_nil q
  | ret v=>exact q
  | brk=>exact q
  | cont=>exact q
theorem az.quiet{pins:List (Addr × Obj)}{σ:St}{H:Hp}{s:Shared}(I:az X pins σ H s):interactive X.env=false:=by simp [interactive,I.ok.kind]
def ER(te:TE):TS:=fun D σ H=>te σ H fun _ H1=>D.nx σ H1
theorem zH(he:PE X e te)(hs:swapsWith e none pos.line X.env=pure false:=by rfl):PS X (.Expr e pos) (ER te):=by
  intro pins s σ H D I h
  exact wpAny_Expr_any (bF (he pins s σ H _ I h) fun v s1 ⟨x,H1,I1,r1,q1⟩=>⟨σ,H1,I1,q1⟩) I.quiet hs
def Gh(te:TE):TS:=fun D σ H=>te σ H D.rt
theorem Cj(he:PE X e te):PS X (.Return (some e) pos) (Gh te):=by
  intro pins s σ H D I h
  exact wpAny_Return_some (bF (he pins s σ H _ I h) fun v s1 ⟨x,H1,I1,r1,q1⟩=>⟨x,σ,H1,I1,r1,q1⟩)
def Gd(c:TT)(t u:TS):TS:=fun D σ H=>c σ H fun b H1=>if b=true then t D σ H1 else u D σ H1
theorem Ep{c:Expr}{a b:List Stmt}{tc:TT}(hc:PT X c tc)(ha:k_ X a t)(hb:k_ X b u):PS X (.If c a b pos) (Gd tc t u):=by
  intro pins s σ H D I h
  refine wpAny_If (bF (hc pins s σ H _ I h) fun d s1 ⟨H1,I1,q1⟩=>?_)
  cases d with
  | true=>exact ha pins s1 σ H1 D I1 q1
  | false=>exact hb pins s1 σ H1 D I1 q1
end
abbrev TG:=V→St→Hp→(St→Hp→Prop)→Prop
abbrev yu:=List V→St→Hp→(St→Hp→Prop)→Prop
def PG(X:Cx)(target:Expr)(t:TG):Prop:=
  ∀(pins:List (Addr × Obj)) (s:Shared) (σ:St) (H:Hp) (v:V) (u:Value) (Q:St→Hp→Prop),az X pins σ H s→bC v u→t v σ H Q→
    wpAny (model X.prog X.w) X.A (assign target X.env u) (fun _ s'=>∃σ' H',az X pins σ' H' s'∧Q σ' H') X.xe s
def vt(X:Cx)(ts:List Expr)(t:yu):Prop:=
  ∀(pins:List (Addr × Obj)) (s:Shared) (σ:St) (H:Hp) (vs:List V) (us:List Value) (Q:St→Hp→Prop),az X pins σ H s→aI vs us→t vs σ H Q→
    wpAny (model X.prog X.w) X.A (assignInOrder ((assignEach ts X.env).map (·.2)) us) (fun _ s'=>∃σ' H',az X pins σ' H' s'∧Q σ' H') X.xe s
section
variable{X:Cx}{pos:Pos}
def tP(i:Nat):TG:=fun v σ H Q=>Q (σ.set i (some v)) H
theorem zy{i:Nat}{x:Str}(hN:X.N.Nodup)(hi:X.N[i]?=some x)(hx:Bh X.env.scope x)(hf:X.fn x=true∨X.env.scope.names.lookup x=some .local:=by first | exact .inl rfl | exact .inr rfl | assumption):PG X (.Name x pos) (tP i):=by
  intro pins s σ H v u Q I r h
  exact wpAny_assign_Name (jY I hN hi hx r (fun s' I'=>⟨_,H,I',h⟩) hf)
def FD:yu:=fun vs σ H Q=>vs=[]∧Q σ H
def DL(t:TG)(u:yu):yu:=fun vs σ H Q=>∃v r,vs=v::r∧t v σ H fun σ' H'=>u r σ' H' Q
theorem zA:vt X [] FD:=by
  intro pins s σ H vs us Q I r h
  obtain⟨e,h⟩:=h
  subst e
  cases r
  exact assignInOrder_nil ⟨σ,H,I,h⟩
theorem xr{e:Expr}{es:List Expr}{t:TG}{u:yu}(h1:PG X e t)(h2:vt X es u)
    (hs:(assignEach (e::es) X.env).map (·.2)=assign e X.env::(assignEach es X.env).map (·.2):=by rfl):vt X (e::es) (DL t u):=by
  intro pins s σ H vs us Q I r h
  obtain⟨v,vr,e1,h⟩:=h
  subst e1
  cases r with
  | cons r rr=>
    rw [hs]
    refine assignInOrder_cons (bF (h1 pins s σ H _ _ _ I r h) fun _ s1 ⟨σ1,H1,I1,q1⟩=>?_)
    exact h2 pins s1 σ1 H1 _ _ Q I1 rr q1
def qb(K:PySem.W.Frag)(n:Nat)(t:yu):TG:=fun v σ H Q=>∃a xs,v=.ref a∧cZ K H a xs∧xs.length=n∧t xs σ H Q
theorem Cd{es:List Expr}{k:Nat}{t:yu}{n:Nat}(hc:X.calm=true)(h:vt X es t)
    (hn:(assignEach es X.env).length=n:=by rfl)(hst:(assignEach es X.env).findIdx? (·.1)=none:=by rfl):PG X (.Tuple es k pos) (qb X.K n t):=by
  intro pins s σ H v u Q I r hw
  obtain⟨a,xs,e1,hq,hl,hw⟩:=hw
  subst e1
  cases r
  obtain⟨its,rv,ht,hz⟩:=I.tuple hq
  refine assign_Tuple_tuple (I.ok.hd hc) ht (by simp [hn,←hl,rv.length]) hst fun h' hx=>?_
  have I1:az X pins σ H {s with heap:=h'}:=I.kept (t':=s.toks) fun b o e=>hx b o (Nat.ne_of_lt (Heap.lt_size e)) e
  exact h pins _ σ H xs _ Q I1 (by simpa using rv) hw
def z_(te:TE)(g:TG):TS:=fun D σ H=>te σ H fun x H1=>g x σ H1 D.nx
theorem Cf{tg e:Expr}{te:TE}{g:TG}(he:PE X e te)(hg:PG X tg g)(hs:swapsWithSole [tg] e pos.line X.env=pure false:=by rfl)(hw:swappedStores [tg] e X.env=pure none:=by rfl)
    (h1:(assignEach [tg] X.env).map (·.2)=[assign tg X.env]:=by rfl):PS X (.Assign [tg] e pos) (z_ te g):=by
  intro pins s σ H D I h
  refine wpAny_Assign_stores (bF (he pins s σ H _ I h) fun v s1 ⟨x,H1,I1,r1,q1⟩=>?_) hs hw
  rw [h1]
  exact bF (hg pins s1 σ H1 x v _ I1 r1 q1) fun _ s2 q=>q
theorem xC{i:Nat}{x:Str}{e:Expr}{te:TE}{pos':Pos}(hN:X.N.Nodup)(hi:X.N[i]?=some x)(hx:Bh X.env.scope x)(he:PE X e te)(hs:swapsWith e (some (.Name x pos')) pos.line X.env=pure false:=by rfl)(hf:X.fn x=true∨X.env.scope.names.lookup x=some .local:=by first | exact .inl rfl | exact .inr rfl | assumption):
    PS X (.Assign [.Name x pos'] e pos) (z_ te (tP i)):=by
  intro pins s σ H D I h
  refine wpAny_Assign_Name (bF (he pins s σ H _ I h) fun v s1 ⟨y,H1,I1,r1,q1⟩=>?_) hs
  exact jY I1 hN hi hx r1 (fun s2 I2=>⟨_,H1,I2,q1⟩) hf
def Gg(i j:Nat)(ta:TA):TS:=fun D σ H=>ta σ H fun vs H1=>∃v w,vs=[v,w]∧D.nx ((σ.set i (some v)).set j (some w)) H1
theorem Ci{i j:Nat}{x y:Str}{a b:Expr}{ta:TA}{px py pt:Pos}{kt k2 pt2}(hc:X.calm=true)(hN:X.N.Nodup)(hi:X.N[i]?=some x)(hj:X.N[j]?=some y)(hij:i≠j)
    (hx:X.env.scope.names.lookup x=some .local)(hy:X.env.scope.names.lookup y=some .local)(ha:PA X [a,b] ta)
    (hw:swappedStores [.Tuple [.Name x px,.Name y py] kt pt] (.Tuple [a,b] k2 pt2) X.env=pure (some [x,y]))
    (hs:swapsWithSole [.Tuple [.Name x px,.Name y py] kt pt] (.Tuple [a,b] k2 pt2) pos.line X.env=pure false:=by rfl):
    PS X (.Assign [.Tuple [.Name x px,.Name y py] kt pt] (.Tuple [a,b] k2 pt2) pos) (Gg i j ta):=by
  intro pins s σ H D I h
  rw [exec_Assign_arm]
  refine wpAny_bind (wpAny_standAt ?_)
  rw [hs]
  refine wpAny_bind (wpAny_pure ?_)
  rw [if_neg (by decide)]
  refine wpAny_bind (Tuple_ (bF (ha _ pins s σ H _ I h) fun us s1 ⟨vs,H1,I1,r1,q1⟩=>?_))
  obtain⟨v,w,e1,q1⟩:=q1
  subst e1
  obtain⟨u1,u2,rfl,rv,rw'⟩:∃u1 u2,us=[u1,u2]∧bC v u1∧bC w u2:=by
    cases r1 with
    | cons p q=>
      cases q with
      | cons p' q'=>
        cases q'
        exact⟨_,_,rfl,p,p'⟩
  refine wpAny_newObj_type ?_ (by show 2≤sizeLine;decide)
  have I2:az X pins σ H1 {s1 with heap:=s1.heap.push {cls:=.type "tuple",data:=.seq [u1,u2].toArray}}:=I1.kept (t':=s1.toks) fun b o e=>Heap.get?_push_of_some _ e
  rw [hw]
  refine wpAny_bind (wpAny_pure ?_)
  show wpAny (model X.prog X.w) X.A (do rule "assign.swapped-stores";let items ←unpackItems (.ref s1.heap.objs.size) 2 none;assignInOrder [fun v=>bindName X.env y v,fun v=>bindName X.env x v] items.reverse;pure Flow.next) _ _ _
  refine wpAny_bind (wpAny_rule (wpAny_bind (unpackItems_tuple (items:=#[u1,u2]) (I.ok.hd hc) (IsTup.new s1.heap _) fun h' hx'=>?_)))
  have I3:=I2.kept (h':=h') (t':=s1.toks) fun b o e=>hx' b o (Nat.ne_of_lt (Heap.lt_size e)) e
  show wpAny _ _ (assignInOrder [fun v=>bindName X.env y v,fun v=>bindName X.env x v] [u2,u1] >>= fun _=>pure Flow.next) _ _ _
  refine wpAny_bind (assignInOrder_cons (wpAny_bindName (jY I3 hN hj (.inl hy) rw' (fun s2 I4=>?_) (.inr hy))))
  refine assignInOrder_cons (wpAny_bindName (jY I4 hN hi (.inl hx) rv (fun s3 I5=>assignInOrder_nil (wpAny_pure ?_)) (.inr hx)))
  rw [List.set_comm _ _ (Ne.symm hij)] at I5
  exact⟨_,H1,I5,q1⟩
end
section
variable{X:Cx}{pos:Pos}
def CQ(c:TT)(tb:TS):TS:=fun D σ H=>∃W:Nat→St→Hp→Prop,(∃m,W m σ H)∧∀m σ H,W m σ H→
  c σ H fun b H1=>if b=true then ∃N:St→Hp→Prop,(∀σ' H',N σ' H'→∃m',m' < m∧W m' σ' H')∧tb {D with nx:=N,ct:=N,bk:=D.nx} σ H1 else D.nx σ H1
theorem xD{c:Expr}{body:List Stmt}{tc:TT}{tb:TS}(hp:PassesOwn (model X.prog X.w) X.A X.env X.xe)(hc:PT X c tc)(hb:k_ X body tb):PS X (.While c body [] pos) (CQ tc tb):=by
  intro pins s σ H D I h
  obtain⟨W,⟨m0,w0⟩,turn⟩:=h
  refine wpAny_While (codeAny_whileLoop (fun n s'=>∃σ' H',az X pins σ' H' s'∧W n σ' H') ?_ m0 ⟨σ,H,I,w0⟩)
  rintro n s1 ⟨σ1,H1,I1,w1⟩
  refine wpAny_passesOwn hp (bF (hc pins s1 σ1 H1 _ I1 (turn n σ1 H1 w1)) fun b s2 ⟨H2,I2,q2⟩=>?_)
  cases b with
  | true=>
    obtain⟨N,hN,q2⟩:=q2
    rw [if_pos rfl]
    refine wpAny_passesOwn hp (bF (hb pins s2 σ1 H2 _ I2 q2) fun f s3 q3=>?_)
    cases f with
    | next=>
      obtain⟨σ3,H3,I3,n3⟩:=q3
      obtain⟨m',hm,w3⟩:=hN σ3 H3 n3
      exact⟨m',hm,σ3,H3,I3,w3⟩
    | cont=>
      obtain⟨σ3,H3,I3,n3⟩:=q3
      obtain⟨m',hm,w3⟩:=hN σ3 H3 n3
      exact⟨m',hm,σ3,H3,I3,w3⟩
    | brk=>exact q3
    | ret v=>exact q3
  | false=>
    rw [if_neg Bool.false_ne_true]
    exact wpAny_execs_nil ⟨σ1,H2,I2,q2⟩
end
structure It where
  go:Nat→Hp→Prop
  yld:Nat→Hp→V→Hp→Prop
  stop:Nat→Hp→Prop
def gv(X:Cx)(pins:List (Addr × Obj))(H:Hp)(b:Addr):Prop:=
  H b=none∧b≠X.env.locals∧b∉X.fs∧(b∈X.ex∨X.s₀.heap.objs.size≤b)∧(∀x c,X.env.cells.lookup x=some c→c≠b)∧∀p∈X.pn++pins,p.1≠b
theorem az.fpOk{X:Cx}{pins:List (Addr × Obj)}{σ:St}{H H':Hp}{s:Shared}{b:Addr}(I:az X pins σ H s)(hb:s.heap.objs.size≤b)(hn:H' b=none):gv X pins H' b:=by
  refine⟨hn,Nat.ne_of_gt (Nat.lt_of_lt_of_le I.lt hb),I.nofs hb,.inr (Nat.le_trans I.sz hb),fun x c e z=>?_,fun p hp z=>?_⟩
  · obtain⟨v,q⟩:=I.cell x c e
    exact absurd (Nat.lt_of_lt_of_le q.lt (by rw [z];exact hb)) (Nat.lt_irrefl _)
  · exact absurd (Nat.lt_of_lt_of_le (Heap.lt_size (I.pin p hp).1) (by rw [z];exact hb)) (Nat.lt_irrefl _)
structure uD (P:Program) (w:World) (K:PySem.W.Frag) (tg:Expr) (J:It) (fp:List Addr) (it:Addr) (tn:Nat→Heap→Prop):Prop where
  mem:it∈fp
  obj:∀i h,tn i h→∀b∈fp,∃o,h.get? b=some o∧∀v,o.data≠.cell v
  keep:∀i h h',tn i h→(∀b∈fp,∀o,h.get? b=some o→h'.get? b=some o)→tn i h'
  item:∀(X:Cx),X.prog=P→X.w=w→X.K=K→X.calm=true→∀(i:Nat) (pins:List (Addr × Obj)) (s:Shared) (σ:St) (H:Hp) (E:Value→Shared→Prop),az X pins σ H s→(∀b∈fp,gv X pins H b)→tn i s.heap→J.go i H→
    wpAny (model P w) X.A (pyNext (.ref it)) (fun r s1=>∃u,r=some u∧
      wpAny (model P w) X.A (letOwnedTupleGo tg (.ref it) u) (fun _ s2=>∃x H',az X pins σ H' s2∧bC x u∧J.yld i H x H'∧tn (i+1) s2.heap∧∀b∈fp,H' b=none) E s1) E s
  done:∀(X:Cx),X.prog=P→X.w=w→X.K=K→X.calm=true→∀(i:Nat) (pins:List (Addr × Obj)) (s:Shared) (σ:St) (H:Hp) (E:Value→Shared→Prop),az X pins σ H s→(∀b∈fp,gv X pins H b)→tn i s.heap→J.stop i H→
    wpAny (model P w) X.A (pyNext (.ref it)) (fun r s1=>r=none∧az X pins σ H s1) E s
  self:∀(A:Around) (i:Nat) (s:Shared) (Q:Value→Shared→Prop) (E:Value→Shared→Prop),tn i s.heap→Q (.ref it) s→wpAny (model P w) A (pyIter (.ref it)) Q E s
abbrev TI:=St→Hp→(It→Hp→Prop)→Prop
def Gr(X:Cx)(pins:List (Addr × Obj))(σ:St)(tg:Expr)(R:It→Hp→Prop)(itv:Value)(s2:Shared):Prop:=
  ∃(it:Addr) (fp:List Addr) (tn:Nat→Heap→Prop) (J:It) (H':Hp),itv=.ref it∧az X pins σ H' s2∧uD X.prog X.w X.K tg J fp it tn∧tn 0 s2.heap∧(∀b∈fp,gv X pins H' b)∧R J H'
def PI(X:Cx)(tg iter:Expr)(wi:TI):Prop:=
  ∀(pins:List (Addr × Obj)) (s:Shared) (σ:St) (H:Hp) (R:It→Hp→Prop),az X pins σ H s→wi σ H R→
    wpAny (model X.prog X.w) X.A (eval iter X.env) (fun v s1=>wpAny (model X.prog X.w) X.A (pyIter v) (Gr X pins σ tg R) X.xe s1) X.xe s
theorem wu{M:Model}{A:Around}{E:Value→Shared→Prop}{s:Shared}{tg:Expr}{it:Addr}{u:Value}{o:Obj}{n:String}{vs:Array Value}{Q:Unit→Shared→Prop}(ho:s.heap.get? it=some o)(hc:o.cls=.type n)(hd:o.data=.fields vs)
    (hn:["enumerate","zip","dict_itemiterator","dict_reverseitemiterator","odict_iterator","itertools.zip_longest","itertools.pairwise"].contains n=false)(hQ:Q () s):wpAny M A (letOwnedTupleGo tg (.ref it) u) Q E s:=by
  unfold letOwnedTupleGo
  cases tg<;>first
    | exact wpAny_pure hQ
    | (cases u<;>first
        | exact wpAny_pure hQ
        | (refine wpAny_bind (wpAny_load ho ?_)
           rw [hc,hd]
           show wpAny M A (if (["enumerate","zip","dict_itemiterator","dict_reverseitemiterator","odict_iterator","itertools.zip_longest","itertools.pairwise"].contains n&&vs[0]?==some (rawInt _))=true then _ else _) Q E s
           rw [if_neg (by intro h;rw [hn,Bool.false_and] at h;cases h)]
           exact wpAny_pure hQ))
def Fq(K:PySem.W.Frag)(a:Addr):It:=
  ⟨fun i H=>∃xs x,fm K H a xs∧xs[i]?=some x,fun i H x H'=>H'=H∧∀xs,fm K H a xs→xs[i]?=some x,fun i H=>∃xs,fm K H a xs∧xs.length≤i⟩
def Fs(K:PySem.W.Frag)(a:Addr):It:=
  ⟨fun i H=>∃xs x,cZ K H a xs∧xs[i]?=some x,fun i H x H'=>H'=H∧∀xs,cZ K H a xs→xs[i]?=some x,fun i H=>∃xs,cZ K H a xs∧xs.length≤i⟩
def E8(lo:Int)(n:Nat):It:=⟨fun i _=>i < n,fun i H x H'=>H'=H∧x=.int (lo+i),fun i _=>n≤i⟩
theorem vm{P:Program}{w:World}{K:PySem.W.Frag}{tg:Expr}(a it:Addr):uD P w K tg (Fq K a) [it] it (fun i h=>h.IsListIter it a i) where
  mem:=by simp
  obj:=fun i h st b hb=>by
    have e:b=it:=by simpa using hb
    subst e
    obtain⟨o,e,c,d⟩:=st
    exact⟨o,e,fun v z=>by rw [d] at z;cases z⟩
  keep:=fun i h h' st k=>st.at fun o e=>k it (by simp) o e
  item:=by
    intro X hP hw hK hc i pins s σ H E I hf st hg
    subst hP hw hK
    obtain⟨xs,x,hq,hx⟩:=hg
    obtain⟨its,rv,p,hz⟩:=I.list hq
    obtain⟨u,hu,ru⟩:=rv.get hx
    obtain⟨f0,f1,f2,f3,f4,f5⟩:=hf it (by simp)
    refine wpAny_pyNext_list_item st p.isList (x:=u) (by simpa using hu) fun h' st' sb=>?_
    have I1:az X pins σ H {s with heap:=h'}:=I.turned (t':=s.toks) (fun b o hb e=>(sb.2 b hb).trans e) f0 f1 f3 f4 f5
    obtain⟨o,e,c,d⟩:=id st'
    exact⟨u,rfl,wu (s:={s with heap:=h'}) e c d (by decide) ⟨x,H,I1,ru,⟨rfl,fun ys hy=>by rw [I.list_inj hy hq];exact hx⟩,st',fun b hb=>(hf b hb).1⟩⟩
  done:=by
    intro X hP hw hK hc i pins s σ H E I hf st hg
    subst hP hw hK
    obtain⟨xs,hq,hx⟩:=hg
    obtain⟨its,rv,p,hz⟩:=I.list hq
    obtain⟨f0,f1,f2,f3,f4,f5⟩:=hf it (by simp)
    have hl:=rv.length
    exact wpAny_pyNext_list_end (I.ok.hd hc) st p.isList (by simp;lia) fun h' eb=>⟨rfl,I.turned (t':=s.toks) (fun b o hb e=>eb b o hb e) f0 f1 f3 f4 f5⟩
  self:=fun _ _ _ _ _ st h=>wpAny_pyIter_listiter st h
theorem sS{P:Program}{w:World}{K:PySem.W.Frag}{tg:Expr}(a it:Addr):uD P w K tg (Fs K a) [it] it (fun i h=>h.IsTupleIter it a i) where
  mem:=by simp
  obj:=fun i h st b hb=>by
    have e:b=it:=by simpa using hb
    subst e
    obtain⟨o,e,c,d⟩:=st
    exact⟨o,e,fun v z=>by rw [d] at z;cases z⟩
  keep:=fun i h h' st k=>st.at fun o e=>k it (by simp) o e
  item:=by
    intro X hP hw hK hc i pins s σ H E I hf st hg
    subst hP hw hK
    obtain⟨xs,x,hq,hx⟩:=hg
    obtain⟨its,rv,p,hz⟩:=I.tuple hq
    obtain⟨u,hu,ru⟩:=rv.get hx
    obtain⟨f0,f1,f2,f3,f4,f5⟩:=hf it (by simp)
    refine wpAny_pyNext_tuple_item st (show s.heap.IsTuple a its.toArray from p) (x:=u) (by simpa using hu) fun h' st' sb=>?_
    have I1:az X pins σ H {s with heap:=h'}:=I.turned (t':=s.toks) (fun b o hb e=>(sb.2 b hb).trans e) f0 f1 f3 f4 f5
    obtain⟨o,e,c,d⟩:=id st'
    exact⟨u,rfl,wu (s:={s with heap:=h'}) e c d (by decide) ⟨x,H,I1,ru,⟨rfl,fun ys hy=>by rw [I.tuple_inj hy hq];exact hx⟩,st',fun b hb=>(hf b hb).1⟩⟩
  done:=by
    intro X hP hw hK hc i pins s σ H E I hf st hg
    subst hP hw hK
    obtain⟨xs,hq,hx⟩:=hg
    obtain⟨its,rv,p,hz⟩:=I.tuple hq
    obtain⟨f0,f1,f2,f3,f4,f5⟩:=hf it (by simp)
    have hl:=rv.length
    exact wpAny_pyNext_tuple_end (I.ok.hd hc) st (show s.heap.IsTuple a its.toArray from p) (by simp;lia) fun h' eb=>⟨rfl,I.turned (t':=s.toks) (fun b o hb e=>eb b o hb e) f0 f1 f3 f4 f5⟩
  self:=fun _ _ _ _ _ st h=>wpAny_pyIter_tupleiter st h
theorem sR{P:Program}{w:World}{K:PySem.W.Frag}{tg:Expr}(it:Addr)(lo:Int)(n:Nat):uD P w K tg (E8 lo n) [it] it (fun i h=>IsRangeIter h it (lo+(i:Nat)*1) ((n:Int) - (i:Nat)) 1) where
  mem:=by simp
  obj:=fun i h st b hb=>by
    have e:b=it:=by simpa using hb
    subst e
    exact⟨_,st,fun v z=>by
      have z':Data.fields _=Data.cell v:=z
      cases z'⟩
  keep:=fun i h h' st k=>k it (by simp) _ st
  item:=by
    intro X hP hw hK hc i pins s σ H E I hf st hg
    subst hP hw hK
    obtain⟨f0,f1,f2,f3,f4,f5⟩:=hf it (by simp)
    have W:=Walks.range (prog:=X.prog) (w:=X.w) (I.ok.hd hc) it lo 1 n
    refine W.item i s _ _ hg st fun v h' tk hv st' kk=>?_
    obtain⟨t,rfl⟩:=hv
    have I1:az X pins σ H {s with heap:=h',toks:=tk}:=I.turned (fun b o hb e=>kk b o (by simpa using hb) e) f0 f1 f3 f4 f5
    refine⟨_,rfl,wu (s:={s with heap:=h',toks:=tk}) (n:="range_iterator") st' rfl rfl (by decide) ⟨.int (lo+i),H,I1,⟨t,?_⟩,⟨rfl,rfl⟩,st',fun b hb=>(hf b hb).1⟩⟩
    rw [Int.mul_one]
  done:=by
    intro X hP hw hK hc i pins s σ H E I hf st hg
    subst hP hw hK
    obtain⟨f0,f1,f2,f3,f4,f5⟩:=hf it (by simp)
    exact wpAny_pyNext_range_end (I.ok.hd hc) st (by have:n≤i:=hg;lia) fun h' eb=>⟨rfl,I.turned (t':=s.toks) (fun b o hb e=>eb b o hb e) f0 f1 f3 f4 f5⟩
  self:=fun _ _ _ _ _ st h=>wpAny_pyIter_rangeiter st h
end L2
namespace L2
open PySem PySem.Spec PyProof.Rows
section
variable{X:Cx}{tg:Expr}
def AR(K:PySem.W.Frag)(tl:TE):TI:=fun σ H R=>tl σ H fun x H1=>∃a,x=.ref a∧(∃xs,fm K H1 a xs)∧R (Fq K a) H1
def DR(K:PySem.W.Frag)(tl:TE):TI:=fun σ H R=>tl σ H fun x H1=>∃a,x=.ref a∧(∃xs,cZ K H1 a xs)∧R (Fs K a) H1
theorem zB{l:Expr}{tl:TE}(hl:PE X l tl):PI X tg l (AR X.K tl):=by
  intro pins s σ H R I h
  refine bF (hl pins s σ H _ I h) fun v s1 ⟨x,H1,I1,r1,q1⟩=>?_
  obtain⟨a,e,⟨xs,hq⟩,q⟩:=q1
  subst e
  cases r1
  obtain⟨its,rv,p,hz⟩:=I1.list hq
  refine wpAny_pyIter_list p.isList ?_
  refine⟨s1.heap.objs.size,[s1.heap.objs.size],_,_,H1,rfl,I1.kept (t':=s1.toks) fun b o e=>Heap.get?_push_of_some _ e,vm a _,⟨_,Heap.get?_push_size _ rfl,rfl,rfl⟩,fun b hb=>?_,q⟩
  have e:b=s1.heap.objs.size:=by simpa using hb
  subst e
  exact I1.fpOk (Nat.le_refl _) (I1.hok.fresh (Nat.le_refl _))
theorem Ce{l:Expr}{tl:TE}(hl:PE X l tl):PI X tg l (DR X.K tl):=by
  intro pins s σ H R I h
  refine bF (hl pins s σ H _ I h) fun v s1 ⟨x,H1,I1,r1,q1⟩=>?_
  obtain⟨a,e,⟨xs,hq⟩,q⟩:=q1
  subst e
  cases r1
  obtain⟨its,rv,p,hz⟩:=I1.tuple hq
  refine wpAny_pyIter_tuple (show s1.heap.IsTuple a its.toArray from p) ?_
  refine⟨s1.heap.objs.size,[s1.heap.objs.size],_,_,H1,rfl,I1.kept (t':=s1.toks) fun b o e=>Heap.get?_push_of_some _ e,sS a _,⟨_,Heap.get?_push_size _ rfl,rfl,rfl⟩,fun b hb=>?_,q⟩
  have e:b=s1.heap.objs.size:=by simpa using hb
  subst e
  exact I1.fpOk (Nat.le_refl _) (I1.hok.fresh (Nat.le_refl _))
theorem xW{pins:List (Addr × Obj)}{σ:St}{H:Hp}{s:Shared}{R:It→Hp→Prop}{E:Value→Shared→Prop}{lo hi:Int}{t u v:Tok}{tk:Nat}(I:az X pins σ H s)(h1: -(2 ^ 62)≤lo)(h2:lo < 2 ^ 62)(h3: -(2 ^ 62)≤hi)(h4:hi < 2 ^ 62)
    (q:R (E8 lo (hi - lo).toNat) H):wpAny (model X.prog X.w) X.A (pyIter (.ref s.heap.objs.size)) (Gr X pins σ tg R) E {s with heap:=s.heap.push {cls:=.type "range",data:=.fields #[.int lo t,.int hi u,.int 1 v]},toks:=tk}:=by
  refine wpAny_pyIter_range (IsRange.new ..) (small_one h1 h2 h3 h4) ?_
  have I1:az X pins σ H {s with heap:=s.heap.push {cls:=.type "range",data:=.fields #[.int lo t,.int hi u,.int 1 v]},toks:=tk}:=I.kept fun b o e=>Heap.get?_push_of_some _ e
  refine⟨(s.heap.push {cls:=.type "range",data:=.fields #[.int lo t,.int hi u,.int 1 v]}).objs.size,[(s.heap.push {cls:=.type "range",data:=.fields #[.int lo t,.int hi u,.int 1 v]}).objs.size],_,_,H,rfl,
    I1.kept (t':=tk) fun b o e=>Heap.get?_push_of_some _ e,sR _ lo (hi - lo).toNat,?_,fun b hb=>?_,q⟩
  · have e1:lo+((0:Nat):Int)*1=lo:=by simp
    have e2:(((hi - lo).toNat:Nat):Int) - ((0:Nat):Int)=Builtin.Range.rangeSize lo hi 1:=by rw [rangeSize_one];split<;>lia
    show IsRangeIter _ _ (lo+((0:Nat):Int)*1) ((((hi - lo).toNat:Nat):Int) - ((0:Nat):Int)) 1
    rw [e1,e2]
    exact Heap.get?_push_size _ rfl
  · have e:b=(s.heap.push {cls:=.type "range",data:=.fields #[.int lo t,.int hi u,.int 1 v]}).objs.size:=by simpa using hb
    subst e
    exact I1.fpOk (Nat.le_refl _) (I1.hok.fresh (Nat.le_refl _))
def DQ(ta:TA):TI:=fun σ H R=>ta σ H fun vs H1=>∃j:Int,vs=[.int j]∧ -(2 ^ 62)≤j∧j < 2 ^ 62∧R (E8 0 j.toNat) H1
theorem u_{a:Expr}{ta:TA}{p pos:Pos}(hg:Gl X "range")(hm:X.mg "range"=none)(ha:PA X [a] ta)(hs:starEach [a] X.env=[(false,eval a X.env)]:=by rfl):PI X tg (.Call (.Name "range" p) [a] [] pos) (DQ ta):=by
  intro pins s σ H R I h
  refine Call_ (iF I hg hm boot_range (PyProof.Rows.callWith_type1 (bF (ha pos pins s σ H _ I h) fun us s1 ⟨vs,H1,I1,r1,q1⟩=>?_) hs rfl))
  obtain⟨j,e,q1,q2,q⟩:=q1
  subst e
  cases r1 with
  | cons r rr=>
    cases rr
    obtain⟨t,rfl⟩:=r
    exact call_range_1 (xW I1 (by lia) (by lia) q1 q2 (by simpa using q))
def Gc(wi:TI)(g:TG)(tb:TS):TS:=fun D σ H=>wi σ H fun J H1=>∃W:Nat→Nat→St→Hp→Prop,(∃m,W 0 m σ H1)∧∀i m σ H,W i m σ H→
  (J.stop i H∧D.nx σ H)∨(J.go i H∧∃N:St→Hp→Prop,(∀σ' H',N σ' H'→∃m',m' < m∧W (i+1) m' σ' H')∧∀x H',J.yld i H x H'→g x σ H' fun σ2 H2=>tb {D with nx:=N,ct:=N,bk:=D.nx} σ2 H2)
def iH(fp:List Addr)(h:Heap):List (Addr × Obj):=fp.filterMap fun b=>(h.get? b).map fun o=>(b,o)
theorem bK{fp:List Addr}{h:Heap}{b:Addr}{o:Obj}(hb:b∈fp)(e:h.get? b=some o):(b,o)∈iH fp h:=List.mem_filterMap.mpr ⟨b,hb,by rw [e];rfl⟩
theorem uW{fp:List Addr}{h:Heap}{p:Addr × Obj}(hp:p∈iH fp h):p.1∈fp∧h.get? p.1=some p.2:=by
  obtain⟨b,hb,e⟩:=List.mem_filterMap.mp hp
  cases q:h.get? b with
  | none=>rw [q] at e;cases e
  | some o=>
    rw [q] at e
    have e':(b,o)=p:=Option.some.inj e
    subst e'
    exact⟨hb,q⟩
theorem az.pinned{pins:List (Addr × Obj)}{σ:St}{H:Hp}{s:Shared}{fp:List Addr}(I:az X pins σ H s)(hf:∀b∈fp,gv X pins H b)(ho:∀b∈fp,∃o,s.heap.get? b=some o∧∀v,o.data≠.cell v):az X (pins++iH fp s.heap) σ H s:=
  I.pins_of fun p hp=>(List.mem_append.mp hp).elim (fun z=>I.pin p (List.mem_append_right _ z)) fun z=>by
    obtain⟨hb,e⟩:=uW z
    obtain⟨f0,f1,f2,_⟩:=hf p.1 hb
    obtain⟨o,e',d⟩:=ho p.1 hb
    rw [e] at e';cases e'
    exact⟨e,f0,f1,f2,d⟩
theorem az.unpinned{pins pl:List (Addr × Obj)}{σ:St}{H:Hp}{s:Shared}(I:az X (pins++pl) σ H s):az X pins σ H s:=I.pins_of fun p hp=>I.pin p (List.mem_append_right _ (List.mem_append_left _ hp))
theorem Cg{iter:Expr}{body:List Stmt}{wi:TI}{g:TG}{tb:TS}{pos:Pos}(hp:PassesOwn (model X.prog X.w) X.A X.env X.xe)(hc:X.calm=true)(hi:PI X tg iter wi)(hg:PG X tg g)(hb:k_ X body tb)
    (hs:∀x,foldedSetIterable iter X.env x=pure x:=by intro _;rfl):PS X (.For tg iter body [] pos) (Gc wi g tb):=by
  intro pins s σ H D I h
  refine wpAny_For (bF (hi pins s σ H _ I h) fun v s1 h1=>bF h1 fun itv s2 h2=>?_) hs
  obtain⟨it,fp,tn,J,H2,e,I2,T,st2,f2,W,⟨m0,w0⟩,turn⟩:=h2
  subst e
  have stat:∀{H':Hp},(∀b∈fp,H' b=none)→∀b∈fp,gv X pins H' b:=fun hn b hb=>⟨hn b hb,(f2 b hb).2⟩
  refine codeAny_forLoop_any (fun n s'=>∃i σ' H',az X pins σ' H' s'∧tn i s'.heap∧(∀b∈fp,H' b=none)∧W i n σ' H') ?_ m0 ⟨0,σ,H2,I2,st2,fun b hb=>(f2 b hb).1,w0⟩
  rintro n s3 ⟨i,σ3,H3,I3,st3,fr3,w3⟩
  rcases turn i n σ3 H3 w3 with ⟨stop,qn⟩ | ⟨go,N,hN,step⟩
  · refine wpAny_passesOwn hp (bF (T.done X rfl rfl rfl hc i pins s3 σ3 H3 X.xe I3 (stat fr3) st3 stop) fun r s4 ⟨hr,I4⟩=>?_)
    subst hr
    exact wpAny_execs_nil ⟨σ3,H3,I4,qn⟩
  · refine wpAny_passesOwn hp (bF (T.item X rfl rfl rfl hc i pins s3 σ3 H3 X.xe I3 (stat fr3) st3 go) fun r s4 ⟨u,hr,h4⟩=>?_)
    subst hr
    refine wpAny_passesOwn hp (bF h4 fun _ s5 ⟨x,H5,I5,r5,y5,st5,fr5⟩=>?_)
    have I5':=I5.pinned (stat fr5) (T.obj _ _ st5)
    refine wpAny_passesOwn hp (bF (hg _ s5 σ3 H5 x u _ I5' r5 (step x H5 y5)) fun _ s6 ⟨σ6,H6,I6,q6⟩=>?_)
    refine wpAny_passesOwn hp (bF (hb _ s6 σ6 H6 _ I6 q6) fun f s7 q7=>?_)
    have again:∀{σ7:St} {H7:Hp},az X (pins++iH fp s5.heap) σ7 H7 s7→N σ7 H7→∃m,m < n∧∃i σ' H',az X pins σ' H' s7∧tn i s7.heap∧(∀b∈fp,H' b=none)∧W i m σ' H':=fun{σ7 H7} I7 n7=>by
      obtain⟨m',hm,w7⟩:=hN σ7 H7 n7
      refine⟨m',hm,i+1,σ7,H7,I7.unpinned,T.keep _ _ _ st5 fun b hb o e=>(I7.pin (b,o) (List.mem_append_right _ (List.mem_append_right _ (bK hb e)))).1,fun b hb=>?_,w7⟩
      obtain⟨o,e,d⟩:=T.obj _ _ st5 b hb
      exact(I7.pin (b,o) (List.mem_append_right _ (List.mem_append_right _ (bK hb e)))).2.1
    cases f with
    | next=>obtain⟨σ7,H7,I7,n7⟩:=q7;exact again I7 n7
    | cont=>obtain⟨σ7,H7,I7,n7⟩:=q7;exact again I7 n7
    | brk=>obtain⟨σ7,H7,I7,q7⟩:=q7;exact⟨σ7,H7,I7.unpinned,q7⟩
    | ret v=>obtain⟨x7,σ7,H7,I7,r7,q7⟩:=q7;exact⟨x7,σ7,H7,I7.unpinned,r7,q7⟩
end
end L2
namespace L2
open PySem PySem.Spec PyProof.Rows
abbrev R2:=V→V→Hp→VK→Prop
def eG(X:Cx)(f:Value→Value→Sem Value)(r:R2):Prop:=
  ∀(pins:List (Addr × Obj)) (s:Shared) (σ:St) (H:Hp) (x y:V) (v u:Value) (Q:VK),az X pins σ H s→bC x v→bC y u→r x y H Q→
    wpAny (model X.prog X.w) X.A (f v u) (EP X pins σ Q) X.xe s
def Fe(X:Cx)(f:Value→Sem Value)(r:V→Hp→VK→Prop):Prop:=
  ∀(pins:List (Addr × Obj)) (s:Shared) (σ:St) (H:Hp) (x:V) (v:Value) (Q:VK),az X pins σ H s→bC x v→r x H Q→
    wpAny (model X.prog X.w) X.A (f v) (EP X pins σ Q) X.xe s
def cL(X:Cx)(f:Value)(r:List V→Hp→VK→Prop):Prop:=
  ∀(pins:List (Addr × Obj)) (s:Shared) (σ:St) (H:Hp) (xs:List V) (us:List Value) (Q:VK),az X pins σ H s→aI xs us→r xs H Q→
    wpAny (model X.prog X.w) X.A (call f us) (EP X pins σ Q) X.xe s
def EV(r:R2)(ta tb:TE):TE:=fun σ H Q=>ta σ H fun x H1=>tb σ H1 fun y H2=>r x y H2 Q
def GB(r:V→Hp→VK→Prop)(ta:TE):TE:=fun σ H Q=>ta σ H fun x H1=>r x H1 Q
def rI(C:Int→Int→Prop)(g:Int→Int→V):R2:=fun x y H Q=>∃i j,x=.int i∧y=.int j∧C i j∧Q (g i j) H
def sD(g:Int→Int→V):R2:=fun x y H Q=>∃i j,x=.int i∧y=.int j∧Q (g i j) H
def rU(g:Int→V):V→Hp→VK→Prop:=fun x H Q=>∃i,x=.int i∧Q (g i) H
section
variable{X:Cx}{a b c:Expr}{ta tb tc:TE}{pos:Pos}
theorem Bm(ha:PE X a ta)(hb:PE X b tb){pins:List (Addr × Obj)}{s:Shared}{σ:St}{H:Hp}{R:V→V→Hp→Prop}(I:az X pins σ H s)
    (h:ta σ H fun x H1=>tb σ H1 fun y H2=>R x y H2){Q:Value→Shared→Prop}{f:Value→Value→Sem Value}
    (hf:∀v u s2 x y H2,az X pins σ H2 s2→bC x v→bC y u→R x y H2→wpAny (model X.prog X.w) X.A (f v u) Q X.xe s2):
    wpAny (model X.prog X.w) X.A (eval a X.env) (fun v s₁=>wpAny (model X.prog X.w) X.A (eval b X.env) (fun u s₂=>wpAny (model X.prog X.w) X.A (f v u) Q X.xe s₂) X.xe s₁) X.xe s:=by
  refine bF (ha pins s σ H _ I h) fun v s1 ⟨x,H1,I1,r1,q1⟩=>?_
  refine bF (hb pins s1 σ H1 _ I1 q1) fun u s2 ⟨y,H2,I2,r2,q2⟩=>?_
  exact hf v u s2 x y H2 I2 r1 r2 q2
theorem Ek{op:Operator}{r:R2}(ho:eG X (binaryOp op) r)(ha:PE X a ta)(hb:PE X b tb):PE X (.BinOp a op b pos) (EV r ta tb):=by
  intro pins s σ H Q I h
  exact wpAny_BinOp (Bm ha hb I h fun v u s2 x y H2 I2 rx ry q=>ho pins s2 σ H2 x y v u Q I2 rx ry q)
theorem Em{op:UnaryOp}{r:V→Hp→VK→Prop}(ho:Fe X (unaryOp op) r)(ha:PE X a ta):PE X (.UnaryOp op a pos) (GB r ta):=by
  intro pins s σ H Q I h
  exact UnaryOp_ (bF (ha pins s σ H _ I h) fun v s1 ⟨x,H1,I1,r1,q1⟩=>ho pins s1 σ H1 x v Q I1 r1 q1)
theorem Ec{f:Value→Value→Sem Value}{C:Int→Int→Prop}{g:Int→Int→Int}
    (rule:∀(i j:Int) (t u:Tok) (s:Shared) (Q:Value→Shared→Prop) (E:Value→Shared→Prop),C i j→Q (.int (g i j) s.toks) {s with toks:=s.toks+1}→wpAny (model X.prog X.w) X.A (f (.int i t) (.int j u)) Q E s):
    eG X f (rI C fun i j=>.int (g i j)):=by
  intro pins s σ H x y v u Q I rx ry h
  obtain⟨i,j,rfl,rfl,hc,q⟩:=h
  obtain⟨t,rfl⟩:=rx
  obtain⟨t',rfl⟩:=ry
  exact rule i j t t' s _ _ hc ⟨.int (g i j),H,I.tok _,⟨_,rfl⟩,q⟩
theorem Ed{f:Value→Value→Sem Value}{g:Int→Int→Int}
    (rule:∀(i j:Int) (t u:Tok) (s:Shared) (Q:Value→Shared→Prop) (E:Value→Shared→Prop),Q (.int (g i j) s.toks) {s with toks:=s.toks+1}→wpAny (model X.prog X.w) X.A (f (.int i t) (.int j u)) Q E s):
    eG X f (sD fun i j=>.int (g i j)):=by
  intro pins s σ H x y v u Q I rx ry h
  obtain⟨i,j,rfl,rfl,q⟩:=h
  obtain⟨t,rfl⟩:=rx
  obtain⟨t',rfl⟩:=ry
  exact rule i j t t' s _ _ ⟨.int (g i j),H,I.tok _,⟨_,rfl⟩,q⟩
theorem zh{f:Value→Value→Sem Value}{g:Int→Int→Bool}
    (rule:∀(i j:Int) (t u:Tok) (s:Shared) (Q:Value→Shared→Prop) (E:Value→Shared→Prop),Q (.bool (g i j)) s→wpAny (model X.prog X.w) X.A (f (.int i t) (.int j u)) Q E s):
    eG X f (sD fun i j=>.bl (g i j)):=by
  intro pins s σ H x y v u Q I rx ry h
  obtain⟨i,j,rfl,rfl,q⟩:=h
  obtain⟨t,rfl⟩:=rx
  obtain⟨t',rfl⟩:=ry
  exact rule i j t t' s _ _ ⟨.bl (g i j),H,I,rfl,q⟩
def Bd(i j:Int):Prop:=0≤j∧j≤1000000∧i.natAbs < 2 ^ 64
def yA(i j:Int):Prop:=(-(2 ^ 64) < i∧i < 2 ^ 64)∨(-(2 ^ 64) < j∧j < 2 ^ 64)
theorem yA.ok{i j:Int}(h:yA i j):IntMulOk i j:=by
  rcases h with ⟨h1,h2⟩ | ⟨h1,h2⟩
  · exact .of_left (intBits_le_64 h1 h2)
  · exact .of_right (intBits_le_64 h1 h2)
theorem BV:eG X (binaryOp .Add) (sD fun i j=>.int (i+j)):=Ed fun _ _ _ _ _ _ _ q=>add_int q
theorem B7:eG X (binaryOp .Sub) (sD fun i j=>.int (i - j)):=Ed fun _ _ _ _ _ _ _ q=>sub_int q
theorem B3:eG X (binaryOp .Mult) (rI yA fun i j=>.int (i*j)):=Ec fun _ _ _ _ _ _ _ hc q=>mul_int q hc.ok
theorem zo:eG X (binaryOp .Mod) (rI (fun _ j=>j≠0) fun i j=>.int (i.fmod j)):=Ec fun _ _ _ _ _ _ _ hc q=>mod_int' hc q
theorem B5:eG X (binaryOp .Pow) (rI Bd fun i j=>.int (i ^ j.toNat)):=Ec fun _ _ _ _ _ _ _ hc q=>pow_int_small hc.1 hc.2.1 hc.2.2 q
theorem G_{f:Value→Sem Value}{g:Int→Int}
    (rule:∀(i:Int) (t:Tok) (s:Shared) (Q:Value→Shared→Prop) (E:Value→Shared→Prop),Q (.int (g i) s.toks) {s with toks:=s.toks+1}→wpAny (model X.prog X.w) X.A (f (.int i t)) Q E s):
    Fe X f (rU fun i=>.int (g i)):=by
  intro pins s σ H x v Q I rx h
  obtain⟨i,rfl,q⟩:=h
  obtain⟨t,rfl⟩:=rx
  exact rule i t s _ _ ⟨.int (g i),H,I.tok _,⟨_,rfl⟩,q⟩
theorem CZ:Fe X (unaryOp .USub) (rU fun i=>.int (-i)):=G_ fun _ _ _ _ _ q=>neg_int q
end
section
variable{X:Cx}{a b c:Expr}{ta tb tc:TE}{pos:Pos}
theorem vV{pins:List (Addr × Obj)}{σ:St}{H:Hp}{s:Shared}{Q:VK}{k k':Bool}(I:az X pins σ H s)(q:Q (.bl k) H)(e:k=k'):EP X pins σ Q (.bool k') s:=by
  subst e
  exact⟨.bl k,H,I,rfl,q⟩
theorem Eh:eG X (compareOp .Lt) (sD fun i j=>.bl (decide (i < j))):=zh fun _ _ _ _ _ _ _ q=>lt_int q
theorem Eg:eG X (compareOp .LtE) (sD fun i j=>.bl (decide (i≤j))):=zh fun _ _ _ _ _ _ _ q=>le_int q
theorem Ef:eG X (compareOp .Gt) (sD fun i j=>.bl (decide (j < i))):=zh fun _ _ _ _ _ _ _ q=>gt_int q
theorem Ee:eG X (compareOp .GtE) (sD fun i j=>.bl (decide (j≤i))):=zh fun _ _ _ _ _ _ _ q=>ge_int q
theorem B2:eG X (compareOp .Is) (fun x y H Q=>y=.non∧Q (.bl (decide (x=.non))) H):=by
  intro pins s σ H x y v u Q I rx ry h
  obtain⟨rfl,q⟩:=h
  cases ry
  refine is_none_gen (vV I q ?_)
  cases x<;>first
    | (cases rx;rfl)
    | (obtain⟨t,rfl⟩:=rx;rfl)
theorem zt:eG X (compareOp .IsNot) (fun x y H Q=>y=.non∧Q (.bl (!decide (x=.non))) H):=by
  intro pins s σ H x y v u Q I rx ry h
  obtain⟨rfl,q⟩:=h
  cases ry
  refine isnot_none_gen (vV I q ?_)
  cases x<;>first
    | (cases rx;rfl)
    | (obtain⟨t,rfl⟩:=rx;rfl)
theorem eG.or{f:Value→Value→Sem Value}{r r':R2}(h:eG X f r)(h':eG X f r'):eG X f (fun x y H Q=>r x y H Q∨r' x y H Q):=by
  intro pins s σ H x y v u Q I rx ry q
  rcases q with q | q
  · exact h pins s σ H x y v u Q I rx ry q
  · exact h' pins s σ H x y v u Q I rx ry q
theorem a8(b:Expr){op:CmpOp}(h:op≠.In:=by decide)(h2:op≠.NotIn:=by decide):behindInMarks op b=false:=by
  have e1:(op==CmpOp.In)=false:=by cases op<;>first | rfl | exact absurd rfl h
  have e2:(op==CmpOp.NotIn)=false:=by cases op<;>first | rfl | exact absurd rfl h2
  cases b<;>simp [behindInMarks,e1,e2]
theorem zw{op:CmpOp}{r:R2}(ho:eG X (compareOp op) r)(ha:PE X a ta)(hb:PE X b tb)(hm:behindInMarks op b=false):PE X (.Compare a [op] [b] pos) (EV r ta tb):=by
  intro pins s σ H Q I h
  exact wpAny_Compare1 (Bm ha hb I h fun v u s2 x y H2 I2 rx ry q=>ho pins s2 σ H2 x y v u Q I2 rx ry q) hm
def A9(t:TE):TT:=fun σ H Q=>t σ H fun x H'=>∃k,x=.bl k∧Q k H'
theorem zK{op:CmpOp}{r:R2}(ho:eG X (compareOp op) r)(ha:PE X a ta)(hb:PE X b tb)(hm:behindInMarks op b=false):PT X (.Compare a [op] [b] pos) (A9 (EV r ta tb)):=by
  intro pins s σ H Q I h
  refine wpAny_isTrue_Compare1 (bF (ha pins s σ H _ I h) fun v s1 ⟨x,H1,I1,r1,q1⟩=>bF (hb pins s1 σ H1 _ I1 q1) fun u s2 ⟨y,H2,I2,r2,q2⟩=>
    bF (ho pins s2 σ H2 x y v u _ I2 r1 r2 q2) fun c s3 ⟨z,H3,I3,r3,k,e,q3⟩=>?_) hm
  subst e
  cases r3
  exact wpAny_truthy_bool ⟨H3,I3,q3⟩
def sM(r r':R2)(ta tb tc:TE):TE:=fun σ H Q=>ta σ H fun x H1=>tb σ H1 fun y H2=>r x y H2 fun z H3=>∃k,z=.bl k∧
  (if k=true then tc σ H3 fun w' H4=>r' y w' H4 Q else Q (.bl false) H3)
theorem xi{op op':CmpOp}{r r':R2}(ho:eG X (compareOp op) r)(ho':eG X (compareOp op') r')(ha:PE X a ta)(hb:PE X b tb)(hc:PE X c tc)
    (hm:lastMarks [op,op'] [b,c]=false:=by with_unfolding_all rfl):PE X (.Compare a [op,op'] [b,c] pos) (sM r r' ta tb tc):=by
  intro pins s σ H Q I h
  refine Compare_chain (bF (ha pins s σ H _ I h) fun v s1 ⟨x,H1,I1,r1,q1⟩=>chain_link (bF (hb pins s1 σ H1 _ I1 q1) fun u s2 ⟨y,H2,I2,r2,q2⟩=>
    bF (ho pins s2 σ H2 x y v u _ I2 r1 r2 q2) fun d s3 ⟨z,H3,I3,r3,k,e,q3⟩=>?_)) hm
  subst e
  cases r3
  refine wpAny_truthy_bool ?_
  cases k with
  | false=>exact ite_ff ⟨.bl false,H3,I3,rfl,q3⟩
  | true=>exact ite_tt (chain_last (bF (hc pins s3 σ H3 _ I3 q3) fun w' s4 ⟨z',H4,I4,r4,q4⟩=>ho' pins s4 σ H4 y z' u w' Q I4 r2 r4 q4))
theorem xF{op op':CmpOp}{r r':R2}(ho:eG X (compareOp op) r)(ho':eG X (compareOp op') r')(ha:PE X a ta)(hb:PE X b tb)(hc:PE X c tc)
    (hm:lastMarks [op,op'] [b,c]=false:=by with_unfolding_all rfl):PT X (.Compare a [op,op'] [b,c] pos) (A9 (sM r r' ta tb tc)):=by
  intro pins s σ H Q I h
  refine isTrue_chain (bF (ha pins s σ H _ I h) fun v s1 ⟨x,H1,I1,r1,q1⟩=>test_link (bF (hb pins s1 σ H1 _ I1 q1) fun u s2 ⟨y,H2,I2,r2,q2⟩=>
    bF (ho pins s2 σ H2 x y v u _ I2 r1 r2 q2) fun d s3 ⟨z,H3,I3,r3,k,e,q3⟩=>?_)) hm
  subst e
  cases r3
  refine wpAny_truthy_bool ?_
  cases k with
  | false=>
    obtain⟨k',e',q'⟩:=q3
    cases e'
    exact ite_ff ⟨H3,I3,q'⟩
  | true=>
    refine ite_tt (test_last (bF (hc pins s3 σ H3 _ I3 q3) fun w' s4 ⟨z',H4,I4,r4,q4⟩=>bF (ho' pins s4 σ H4 y z' u w' _ I4 r2 r4 q4) fun d' s5 ⟨z2,H5,I5,r5,k2,e2,q5⟩=>?_))
    subst e2
    cases r5
    exact wpAny_truthy_bool ⟨H5,I5,q5⟩
theorem r9:(sizeLine:Nat) < 2 ^ 63:=by rw [sizeLine_eq];decide
theorem nY{x:V}{us:List Value}(r:aI [x] us):∃u,us=[u]∧bC x u:=by
  cases r with
  | cons r1 r2=>cases r2;exact⟨_,rfl,r1⟩
theorem Bc{x y:V}{us:List Value}(r:aI [x,y] us):∃u w',us=[u,w']∧bC x u∧bC y w':=by
  cases r with
  | cons r1 r2=>
    cases r2 with
    | cons r3 r4=>cases r4;exact⟨_,_,rfl,r1,r3⟩
theorem vJ:cL X (.builtin "abs") (fun xs H Q=>∃i,xs=[.int i]∧Q (.int (if i < 0 then -i else i)) H):=by
  intro pins s σ H xs us Q I r h
  obtain⟨i,rfl,q⟩:=h
  obtain⟨u,rfl,t,rfl⟩:=nY r
  exact call_abs_int fun u tk=>⟨.int (if i < 0 then -i else i),H,I.tok _,⟨_,rfl⟩,q⟩
theorem uF(hc:X.calm=true):cL X (.builtin "max") (fun xs H Q=>∃i j,xs=[.int i,.int j]∧Q (.int (if j > i then j else i)) H):=by
  intro pins s σ H xs us Q I r h
  obtain⟨i,j,rfl,q⟩:=h
  obtain⟨u,w',rfl,⟨t,rfl⟩,⟨t',rfl⟩⟩:=Bc r
  refine max_two_ints (I.ok.hd hc) fun h' tk k=>⟨_,H,I.kept k,?_,q⟩
  by_cases hj:j > i
  · rw [if_pos hj,if_pos hj];exact⟨_,rfl⟩
  · rw [if_neg hj,if_neg hj];exact⟨_,rfl⟩
theorem uG(hc:X.calm=true):cL X (.builtin "min") (fun xs H Q=>∃i j,xs=[.int i,.int j]∧Q (.int (if j < i then j else i)) H):=by
  intro pins s σ H xs us Q I r h
  obtain⟨i,j,rfl,q⟩:=h
  obtain⟨u,w',rfl,⟨t,rfl⟩,⟨t',rfl⟩⟩:=Bc r
  refine min_two_ints (I.ok.hd hc) fun h' tk k=>⟨_,H,I.kept k,?_,q⟩
  by_cases hj:j < i
  · rw [if_pos hj,if_pos hj];exact⟨_,rfl⟩
  · rw [if_neg hj,if_neg hj];exact⟨_,rfl⟩
theorem uE:cL X (.type "int") (fun xs H Q=>(∃i,xs=[.int i]∧Q (.int i) H)∨∃k,xs=[.bl k]∧Q (.int (if k then 1 else 0)) H):=by
  intro pins s σ H xs us Q I r h
  rcases h with ⟨i,rfl,q⟩ | ⟨k,rfl,q⟩
  · obtain⟨u,rfl,t,rfl⟩:=nY r
    exact call_int_int ⟨.int i,H,I,⟨_,rfl⟩,q⟩
  · obtain⟨u,rfl,r1⟩:=nY r
    cases r1
    exact call_int_bool ⟨.int (if k then 1 else 0),H,I.tok _,⟨_,rfl⟩,q⟩
end
end L2
namespace L2
open PySem PySem.Spec PyProof.Rows
structure GN (h:Heap) (x dx C:Addr) (mA:Str→Option Value):Prop where
  obj:h.get? x=some (PySem.W.instObj C dx)
  ns:h.Ns1 dx mA
  ne:dx≠x
section
variable{prog:Program}{w:World}{A:Around}{E:Value→Shared→Prop}{s:Shared}{K:PySem.W.Frag}{x dx C f:Addr}{mA:Str→Option Value}{name:Str}{v:Value}
end
section
variable{P:Program}{w:World}{H H':Hp}{h h':Heap}{a C dx:Addr}{fs fs':List (Str × V)}
end
structure GI (K:PySem.W.Frag) (C:Addr):Prop where
  pg:PySem.W.plainGet K C Str.empty=true
  hd:PySem.W.hasDictIn K C=true
  po:PySem.W.plainOver K C=true
  sa:PySem.W.findIn K (.ref C) "__setattr__"=some (some (.builtin "object.__setattr__"))
structure G' (K:PySem.W.Frag) (C:Addr) (f:Str) (v:V) (u:Value):Prop where
  at_:PySem.W.findIn K (.ref C) f=some (some u)
  rel:bC v u
  get:PySem.W.specialIn K u "__get__"=some none
  cp:PySem.W.copiedNames.contains f=false
structure GM (K:PySem.W.Frag) (C:Addr) (m:Str) (f:Addr):Prop where
  at_:PySem.W.findIn K (.ref C) m=some (some (.ref f))
  fn:PySem.W.isFn K (.ref f)=true
  kp:PySem.W.keepIn K (.ref f)=true
section
variable{X:Cx}{pins:List (Addr × Obj)}{σ:St}{H:Hp}{s:Shared}{a C dx:Addr}{fs:List (Str × V)}{f:Str}{v:V}{A:Around}{E:Value→Shared→Prop}
end
section
variable{X:Cx}{o e value:Expr}{f:Str}{pos pos' tpos:Pos}{ta tv:TE}
end
section
variable{X:Cx}{pins:List (Addr × Obj)}{σ:St}{H:Hp}{s:Shared}{A:Around}{E:Value→Shared→Prop}{Q:Value→Shared→Prop}{c:Value}{b:Bool}
inductive lD (K:PySem.W.Frag) (H:Hp):V→Value→Prop where
  | non:lD K H .non (.type "NoneType")
  | bl (x:Bool):lD K H (.bl x) (.type "bool")
  | int (i:Int):lD K H (.int i) (.type "int")
  | str (x:Str):lD K H (.str x) (.type "str")
  | flt (x:UInt64):lD K H (.flt x) (.type "float")
  | lst {a:Addr} {xs:List V} (e:H a=some (.lst xs)):lD K H (.ref a) (.type "list")
  | frz {a:Addr} {o:Obj} {xs:List V} (e:H a=some (.frz o (.lst xs))):lD K H (.ref a) (.type "list")
  | tup {a:Addr} {xs:List V} (e:H a=some (.tup xs)):lD K H (.ref a) (.type "tuple")
  | dK {a:Addr} {kvs:List (fQ × V)} (e:H a=some (.dK kvs)):lD K H (.ref a) (.type "dict")
  | dT {a:Addr} {kvs:List (List fQ × V)} (e:H a=some (.dT kvs)):lD K H (.ref a) (.type "dict")
  | ins {a C dx:Addr} {fs:List (Str × V)} (e:H a=some (.ins C dx fs)) (cl:GI K C) (ha:PySem.W.findIn K (.ref C) "__class__"=some (some (.builtin "object.__class__")))
      (hn:PySem.W.specialIn K (.builtin "object.__class__") "__get__"=some (some (.builtin "getset_descriptor.__get__"))) (htk:PySem.W.takesIn K (.builtin "object.__class__")=some true)
      (hm:PySem.W.mroIn K C (.type "object")=some true):lD K H (.ref a) (.ref C)
end
end L2
namespace L2
open PySem PySem.Spec PyProof.Rows
structure cz (k:Nat) (A:Around):Prop where
  hd:A.handled=none
  dp:A.depth+3*k+5 < recursionLimit
  un:A.units+16*k+200 < cLine
  gd:A.guards=some []
theorem cz.mono{j k:Nat}{A:Around}(r:cz k A)(h:j≤k):cz j A:=⟨r.hd,by have:=r.dp;lia,by have:=r.un;lia,r.gd⟩
theorem cz.deeper{k:Nat}{A:Around}(r:cz (k+1) A)(env:Env):cz k (A.deeper env):=
  ⟨r.hd,by have:=r.dp;show A.depth+1+3*k+5 < _;lia,by have:=r.un;show A.units+3+16*k+200 < _;lia,r.gd⟩
theorem cz.depth{k:Nat}{A:Around}(r:cz k A):A.depth < recursionLimit:=by have:=r.dp;lia
theorem cz.units{k:Nat}{A:Around}(r:cz k A):A.units+64 < cLine:=by have:=r.un;lia
theorem cz.units0{k:Nat}{A:Around}(r:cz k A):A.units < cLine:=by have:=r.un;lia
def CP:TA:=fun _ H Q=>Q [] H
def rc(ta:TE)(tr:TA):TA:=fun σ H Q=>ta σ H fun x H1=>tr σ H1 fun xs H2=>Q (x::xs) H2
section
variable{X:Cx}{e:Expr}{es:List Expr}{te:TE}{t:TA}{pos:Pos}
theorem md:PA X [] CP:=fun _ _ _ _ H Q I h=>Calls.spliced_nil ⟨[],H,I,.nil,h⟩
theorem oW(ha:PE X e te)(hr:PA X es t)(hs:starEach (e::es) X.env=(false,eval e X.env)::starEach es X.env:=by rfl):PA X (e::es) (rc te t):=by
  intro pos pins s σ H Q I h
  rw [hs]
  show wpAny _ _ (spliced ((false,eval e X.env)::backTo pos (starEach es X.env))) _ _ s
  refine Calls.spliced_cons (bF (ha pins s σ H _ I h) fun u s1 ⟨x,H1,I1,r1,q1⟩=>?_)
  exact bF (hr pos pins s1 σ H1 _ I1 q1) fun us s2 ⟨xs,H2,I2,r2,q2⟩=>⟨x::xs,H2,I2,.cons r1 r2,q2⟩
def EX(t:TA):TE:=fun σ H Q=>t σ H fun xs H1=>xs.length≤sizeLine∧∀p,H1 p=none→Q (.ref p) (aV H1 p (.tup xs))
def Ge(t:TA):TE:=fun σ H Q=>t σ H fun xs H1=>xs.length≤sizeLine∧∀p,H1 p=none→Q (.ref p) (aV H1 p (.lst xs))
theorem Cc{x1}(h:PA X es t):PE X (.Tuple es x1 pos) (EX t):=by
  intro pins s σ H Q I hq
  refine wpAny_Tuple_spliced (bF (h pos pins s σ H _ I hq) fun us s1 ⟨xs,H1,I1,r,z,q⟩=>⟨by rw [←r.length];exact z,?_⟩)
  have hf:H1 s1.heap.objs.size=none:=I1.hok.fresh (Nat.le_refl _)
  refine⟨.ref s1.heap.objs.size,aV H1 s1.heap.objs.size (.tup xs),I1.laid (t':=s1.toks) (fun b u e=>Heap.get?_push_of_some _ e) (Nat.le_refl _) ?_,rfl,q _ hf⟩
  exact⟨z,us,r,⟨_,Heap.get?_push_size _ rfl,rfl,_,rfl,rfl⟩⟩
theorem xl(h:PA X es t):PE X (.List es pos) (Ge t):=by
  intro pins s σ H Q I hq
  refine wpAny_List_spliced (bF (h pos pins s σ H _ I hq) fun us s1 ⟨xs,H1,I1,r,z,q⟩=>⟨by rw [←r.length];exact z,?_⟩)
  have hf:H1 s1.heap.objs.size=none:=I1.hok.fresh (Nat.le_refl _)
  refine⟨.ref s1.heap.objs.size,aV H1 s1.heap.objs.size (.lst xs),I1.laid (t':=s1.toks) (fun b u e=>Heap.get?_push_of_some _ e) (Nat.le_refl _) ?_,rfl,q _ hf⟩
  exact⟨z,us,0,r,Heap.get?_push_size _ rfl⟩
end
abbrev Sp:=List V→Hp→VK→XK→Prop
abbrev uy:=List Env→Hp→Shared→XK→Value→Shared→Prop
structure yB (P:Program) (w:World) (K:PySem.W.Frag) (mg:Str→Option Value) (base:Heap) (A:Around) (outer:List Env) (s:Shared) (H:Hp):Prop where
  frames:A.frames=some outer
  mod:Mod K mg base
  bs:∀b o,base.get? b=some o→s.heap.get? b=some o∧H b=none
  bsz:base.objs.size≤s.heap.objs.size
  funs:s.heap.FunFrames base outer
  frf:∀b∈vY outer,H b=none
  hok:ku P w H s.heap
  bare:AllBare s.gens
def CE(outer:List Env)(P:Program)(w:World)(H:Hp)(s:Shared)(Q:VK)(u:Value)(s':Shared):Prop:=
  ∃v H',s'.os=s.os∧AllBare s'.gens∧Un (vY outer) [] H H' s.heap s'.heap∧ku P w H' s'.heap∧bC v u∧Q v H'
def CR(CX:uy)(outer:List Env)(P:Program)(w:World)(H:Hp)(s:Shared)(Q:VK)(E:XK)(r:Result)(s':Shared):Prop:=
  match r with
  | .ok (.ret u)=>CE outer P w H s Q u s'
  | .ok _=>False
  | .error e=>CX outer H s E e s'
structure a9 (P:Program) (w:World) (K:PySem.W.Frag) (mg:Str→Option Value) (base:Heap) (CX:uy) (k:Nat) (f:Addr) (fd:FuncData) (ps:List Str) (sp:Sp):Prop where
  len:∀vs H Q E,sp vs H Q E→vs.length=ps.length
  run:∀(A:Around) (outer:List Env) (s:Shared) (H:Hp) (args:Args) (us:List Value) (vs:List V) (Q:VK) (E:XK),cz k A→yB P w K mg base A outer s H→BindsTo s fd args (ps.zip us)→aI vs us→sp vs H Q E→
    codeAny (model P w) A (.call (.ref f) args) (CR CX outer P w H s Q E) s
section
variable{X:Cx}{pins:List (Addr × Obj)}{σ:St}{H:Hp}{s s':Shared}
theorem az.env0(I:az X pins σ H s):yB X.prog X.w X.K X.mg X.base X.A X.stack s H:=
  ⟨I.ok.frames,I.ok.mod,I.bs,Nat.le_trans I.ok.bsz I.sz,I.stack,I.stkFree,I.hok,I.bare⟩
theorem az.after{Q:VK}{u:Value}(I:az X pins σ H s)(h:CE X.stack X.prog X.w H s Q u s'):EP X pins σ Q u s':=by
  obtain⟨v,H',os,bare,un,hok,r,q⟩:=h
  obtain⟨hh,g,d,t,os'⟩:=s'
  obtain rfl:os'=s.os:=os
  exact⟨v,H',I.call (h':=hh) (g':=g) (d':=d) (t':=t) (ch:=[]) un hok bare (fun b z=>absurd z (by simp)),r,q⟩
end
def yi(sp:Sp)(dvs:List V)(E:XK)(t:TA):TE:=fun σ H Q=>t σ H fun vs H1=>sp (vs++dvs) H1 Q E
def mV(K:PySem.W.Frag)(fd:FuncData)(ps:List Str)(ds:List Value):Prop:=
  ∀(s:Shared) (us:List Value),K.In s.heap→(us++ds).length=ps.length→BindsTo s fd ⟨us,[]⟩ (ps.zip (us++ds))
theorem mV.all{K:PySem.W.Frag}{fd:FuncData}{ps:List Str}(h:∀us:List Value,us.length=ps.length→bindArgs fd ⟨us,[]⟩=pure (ps.zip us)):mV K fd ps []:=fun s us _ hl=>by
  rw [List.append_nil] at hl ⊢
  exact .of_eq (h us hl)
def rD(CX:uy)(X:Cx)(E:XK):Prop:=∀(pins:List (Addr × Obj)) (σ:St) (H:Hp) (s:Shared) (e:Value) (s':Shared),az X pins σ H s→CX X.stack H s E e s'→X.xe e s'
section
variable{X:Cx}{CX:uy}{k:Nat}{f C:Addr}{fd:FuncData}{ps:List Str}{sp:Sp}{dvs:List V}{ds:List Value}{E:XK}{x m:Str}{p pos apos:Pos}{e o:Expr}{es:List Expr}{ta:TE}{t:TA}
theorem CH{pins:List (Addr × Obj)}{σ:St}{H:Hp}{s:Shared}{Q:VK}{us:List Value}{vs:List V}(F:a9 X.prog X.w X.K X.mg X.base CX k f fd ps sp)(hr:cz k X.A)(hb:mV X.K fd ps ds)(hd:aI dvs ds)(hx:rD CX X E)
    (I:az X pins σ H s)(r:aI vs us)(h:sp (vs++dvs) H Q E):wpAny (model X.prog X.w) X.A (call (.ref f) us) (EP X pins σ Q) X.xe s:=by
  have r2:aI (vs++dvs) (us++ds):=r.append hd
  have hl:(us++ds).length=ps.length:=by rw [←r2.length];exact F.len _ _ _ _ h
  refine wpAny_call (codeAny_mono (F.run X.A X.stack s H ⟨us,[]⟩ (us++ds) (vs++dvs) Q E hr I.env0 (hb s us I.kIn hl) r2 h) fun r s' hq=>?_)
  cases r with
  | error e=>exact hx pins σ H s e s' I hq
  | ok fl=>
    cases fl with
    | ret u=>exact I.after hq
    | next=>exact False.elim hq
    | brk=>exact False.elim hq
    | cont=>exact False.elim hq
theorem zv(F:a9 X.prog X.w X.K X.mg X.base CX k f fd ps sp)(hr:cz k X.A)(hg:Gl X x)(hm:X.mg x=some (.ref f))(hk:PySem.W.keepIn X.K (.ref f)=true)(hb:mV X.K fd ps ds)(hd:aI dvs ds)(hx:rD CX X E)
    (ha:PA X (e::es) t)(hdb:(x==("__debug__":Str))=false:=by decide)(he:starEach (e::es) X.env=(false,eval e X.env)::starEach es X.env:=by rfl)(hpl:(backTo pos (starEach es X.env)).any (·.1)=false:=by rfl):
    PE X (.Call (.Name x p) (e::es) [] pos) (yi sp dvs E t):=by
  intro pins s σ H Q I h
  refine wpAny_Call_Name_kw (y6 I hg hm ?_ hdb)
  refine PySem.W.callWith_K (h₀:=X.base) I.ok.mod.kin hk (bF (ha pos pins s σ H _ I h) fun us s1 ⟨vs,H1,I1,r,q⟩=>⟨I1.kIn,?_⟩) he hpl
  exact CH F hr hb hd hx I1 r q
structure Mk (K:PySem.W.Frag) (C f:Addr):Prop where
  makes:PySem.W.makesIn K C=true
  init:PySem.W.findIn K (.ref C) "__init__"=some (some (.ref f))
  fn:PySem.W.isFn K (.ref f)=true
  kp:PySem.W.keepIn K (.ref C)=true
end
section
variable{X:Cx}{CX:uy}{k:Nat}{f C:Addr}{fd:FuncData}{ps ks:List Str}{sp:Sp}{E:XK}{x m:Str}{p pos apos kpos:Pos}{e o:Expr}{es:List Expr}{kws:List Keyword}{te ta:TE}{t tk:TA}{nm:Option Str}
structure Ft (K:PySem.W.Frag) (fd:FuncData) (ps ks:List Str) (g:List Value→List Value→List Value) (gV:List V→List V→List V):Prop where
  to:∀(s:Shared) (us ws:List Value),K.In s.heap→(g us ws).length=ps.length→BindsTo s fd ⟨us,ks.zip ws⟩ (ps.zip (g us ws))
  rel:∀{vs:List V} {us:List Value} {zs:List V} {ws:List Value},aI vs us→aI zs ws→aI (gV vs zs) (g us ws)
variable{g:List Value→List Value→List Value}{gV:List V→List V→List V}
end
structure aU (N P:List Str) (sc:Scope):Prop where
  kind:sc.kind=.function
  co:sc.isCoroutine=false
  gen:sc.isGenerator=false
  nd:N.Nodup
  pre:N.take P.length=P
  par:∀x∈P,sc.names.lookup x=some .local∨sc.names.lookup x=some .cell
  nofree:∀y∈sc.names,y.2≠.free
theorem m5{kindOf:Str→Option NameKind}{x:Str}:∀{binds:List (Str × Value)} {m:Str→Option Value},(∀v,(x,v)∉binds)→bindL kindOf binds m x=m x
  | [],_,_=>rfl
  | (n,v)::r,m,h=>by
    unfold bindL
    rw [m5 fun w hw=>h w (List.mem_cons_of_mem _ hw)]
    split
    · have:x≠n:=by rintro rfl;exact h v List.mem_cons_self
      simp [this]
    · rfl
theorem mZ{kindOf:Str→Option NameKind}{x:Str}:∀{binds:List (Str × Value)} {m:Str→Option Value},(∀v,(x,v)∉binds)→bindC kindOf binds m x=m x
  | [],_,_=>rfl
  | (n,v)::r,m,h=>by
    unfold bindC
    rw [mZ fun w hw=>h w (List.mem_cons_of_mem _ hw)]
    split
    · rfl
    · have:x≠n:=by rintro rfl;exact h v List.mem_cons_self
      simp [this]
theorem m4{kindOf:Str→Option NameKind}{x:Str}{v:Value}:∀{P:List Str} {vs:List Value} {i:Nat} {m:Str→Option Value},P.Nodup→P[i]?=some x→vs[i]?=some v→kindOf x=some .local→
    bindL kindOf (P.zip vs) m x=some v
  | [],_,_,_,_,h,_,_=>by simp at h
  | _::_,[],_,_,_,_,h,_=>by simp at h
  | p::P,w::vs,0,m,nd,h1,h2,hk=>by
    simp at h1 h2;subst h1;subst h2
    show bindL kindOf ((p,w)::P.zip vs) m p=_
    unfold bindL
    rw [m5 fun v hv=>(List.nodup_cons.mp nd).1 (List.of_mem_zip hv).1,if_pos hk]
    simp
  | p::P,w::vs,i+1,m,nd,h1,h2,hk=>by
    show bindL kindOf ((p,w)::P.zip vs) m x=_
    unfold bindL
    exact m4 (i:=i) (List.nodup_cons.mp nd).2 (by simpa using h1) (by simpa using h2) hk
theorem mY{kindOf:Str→Option NameKind}{x:Str}{v:Value}:∀{P:List Str} {vs:List Value} {i:Nat} {m:Str→Option Value},P.Nodup→P[i]?=some x→vs[i]?=some v→kindOf x≠some .local→
    bindC kindOf (P.zip vs) m x=some v
  | [],_,_,_,_,h,_,_=>by simp at h
  | _::_,[],_,_,_,_,h,_=>by simp at h
  | p::P,w::vs,0,m,nd,h1,h2,hk=>by
    simp at h1 h2;subst h1;subst h2
    show bindC kindOf ((p,w)::P.zip vs) m p=_
    unfold bindC
    rw [mZ fun v hv=>(List.nodup_cons.mp nd).1 (List.of_mem_zip hv).1,if_neg hk]
    simp
  | p::P,w::vs,i+1,m,nd,h1,h2,hk=>by
    show bindC kindOf ((p,w)::P.zip vs) m x=_
    unfold bindC
    exact mY (i:=i) (List.nodup_cons.mp nd).2 (by simpa using h1) (by simpa using h2) hk
def eQ(N:List Str)(vs:List V):St:=vs.map some++List.replicate (N.length - vs.length) none
def rQ(CX:uy)(P:Program)(w:World)(K:PySem.W.Frag)(mg:Str→Option Value)(base:Heap)(N:List Str)(qual:Str)(scope:Scope)(f:Addr)(cd:Value)(A:Around)(outer:List Env)(s:Shared)(H:Hp)(E:XK):Cx where
  prog:=P
  w:=w
  K:=K
  mg:=mg
  base:=base
  A:=A.deeper (envOfC qual scope s.heap.objs.size f cd)
  N:=N
  s₀:=s
  H₀:=H
  env:=envOfC qual scope s.heap.objs.size f cd
  outer:=outer
  stack:=envOfC qual scope s.heap.objs.size f cd::outer
  ex:=[]
  calm:=true
  fn:=fun _=>true
  pn:=[]
  xe:=fun e s'=>wpAny (model P w) (A.deeper (envOfC qual scope s.heap.objs.size f cd)) (leaving (envOfC qual scope s.heap.objs.size f cd) e) (fun _ s''=>CX outer H s E e s'') (fun e' s''=>CX outer H s E e' s'') s'
theorem pJ{sc:Scope}{n:Nat}{x:Str}(h:sc.names.lookup x=some .cell):∃c,(cellsFrom n sc.names []).lookup x=some c:=by
  have q:=PySem.W.cellsFrom_some sc.names n [] (.inl h)
  exact Option.isSome_iff_exists.mp q
theorem uR{CX:uy}{P:Program}{w:World}{K:PySem.W.Frag}{mg:Str→Option Value}{base:Heap}{N ps:List Str}{qual:Str}{scope:Scope}{f:Addr}{cd:Value}{A:Around}{outer:List Env}{s s1:Shared}{H:Hp}{E:XK}{us:List Value}{vs:List V}
    (S:aU N ps scope)(hd:A.handled=none)(e0:yB P w K mg base A outer s H)(hl:vs.length=ps.length)(r:aI vs us)
    (x:InCallC s s.heap.objs.size (bindL (envOfC qual scope s.heap.objs.size f cd).kindOf (ps.zip us) fun _=>none) (cellsFrom (s.heap.objs.size+1) scope.names []) (bindC (envOfC qual scope s.heap.objs.size f cd).kindOf (ps.zip us) fun _=>none) s1):
    az (rQ CX P w K mg base N qual scope f cd A outer s H E) [] (eQ N vs) H s1:=by
  have hpl:ps.length≤N.length:=by have:=congrArg List.length S.pre;rw [List.length_take] at this;lia
  obtain⟨h1,tk,rfl,hk⟩:=x.done
  have noA:∀b:Addr,b∉(rQ CX P w K mg base N qual scope f cd A outer s H E).ex:=fun b z=>absurd (show b∈([]:List Addr) from z) (by simp)
  refine⟨⟨e0.mod,S.kind,rfl,rfl,Nat.le_refl _,fun y z c h1 h2=>?_,fun y hy=>?_,fun y c _ h=>?_,fun _=>hd,Around.frames_deeper e0.frames,.inr ⟨rfl,rfl⟩,fun b z=>absurd z (noA b),e0.bs,e0.bsz,fun b _ _=>noA b,fun b z=>absurd z (noA b),e0.funs,e0.frf⟩,
    rfl,e0.bare,Un.kept hk,⟨_,x.toInCall.ns,fun i y v h1 h2 h3=>?_⟩,fun y c h=>⟨_,x.cell y c h⟩,e0.hok.fresh (Nat.le_refl _),fun y c h=>?_,fun p hp=>absurd (show p∈([]:List (Addr × Obj)) from hp) (by simp),e0.hok.kept hk,?_⟩
  · exact name_of_addr x.apart (PySem.mem_of_lookup h1) (PySem.mem_of_lookup h2)
  · have hy:scope.names.lookup y=some .cell∨scope.names.lookup y=some .free:=hy
    rcases hy with hy | hy
    · exact pJ hy
    · exact absurd rfl (S.nofree _ (PySem.mem_of_lookup hy))
  · exact Nat.le_of_lt (x.above y c (PySem.mem_of_lookup h))
  · have hi:i < vs.length:=by
      unfold eQ at h2
      by_cases hi:i < vs.length
      · exact hi
      · rw [List.getElem?_append_right (by simpa using hi)] at h2
        rw [List.getElem?_replicate] at h2
        split at h2<;>cases h2
    have ha:vs[i]?=some v:=by
      unfold eQ at h2
      rw [List.getElem?_append_left (by simpa using hi),List.getElem?_map] at h2
      cases e:vs[i]? with
      | none=>rw [e] at h2;cases h2
      | some a=>rw [e] at h2;cases h2;rfl
    obtain⟨u,hu,rv⟩:=r.get ha
    have hp:ps[i]?=some y:=by
      rw [←S.pre,List.getElem?_take_of_lt (by lia)];exact h1
    have ndP:ps.Nodup:=by rw [←S.pre];exact S.nd.sublist (List.take_sublist _ _)
    refine⟨u,rv,?_⟩
    rcases S.par y (List.mem_of_getElem? hp) with k | k
    · exact .inl ⟨k,m4 ndP hp hu k⟩
    · obtain⟨c,e⟩:=pJ (n:=s.heap.objs.size+1) k
      refine .inr ⟨.inl k,c,e,?_⟩
      have q:=x.cell y c e
      rw [mY ndP hp hu (by show scope.names.lookup y≠_;rw [k];decide)] at q
      exact q
  · exact e0.hok.fresh (Nat.le_of_lt (x.above y c (PySem.mem_of_lookup h)))
  · unfold eQ
    show _=N.length
    rw [List.length_append,List.length_map,List.length_replicate]
    lia
theorem DH{CX:uy}{P:Program}{w:World}{K:PySem.W.Frag}{mg:Str→Option Value}{base:Heap}{k:Nat}{f:Addr}{name qual:Str}{params:Arguments}{body:List Stmt}{scope:Scope}{dV kV doc pm cdv ct oc:Value}{an od:Option Addr}
    {osl:Array (Option Value)}{N ps:List Str}{sp:Sp}(lk:K.lookup f=some ⟨oc,od,.func (PySem.W.fnOf name qual params body scope dV kV doc pm an cdv ct),osl⟩)(hcd:PySem.W.codeIn K cdv qual=true)(S:aU N ps scope)
    (len:∀vs H Q E,sp vs H Q E→vs.length=ps.length)
    (hbody:∀(A:Around) (outer:List Env) (s:Shared) (H:Hp) (vs:List V) (Q:VK) (E:XK),cz k (A.deeper (envOfC qual scope s.heap.objs.size f cdv))→sp vs H Q E→
      ∃t,k_ (rQ CX P w K mg base N qual scope f cdv A outer s H E) body t∧t {nx:=fun _ H'=>Q .non H',rt:=Q} (eQ N vs) H):
    a9 P w K mg base CX (k+1) f (PySem.W.fnOf name qual params body scope dV kV doc pm an cdv ct) ps sp:=by
  refine⟨len,fun A outer s H args us vs Q E hr e0 hb r hsp=>?_⟩
  have hl:=len _ _ _ _ hsp
  have KX:K.In s.heap:=e0.mod.kin.keeps fun b o e=>(e0.bs b o e).1
  have lim:s.heap.NoLimit:=e0.mod.nolimit.keeps fun b o e=>(e0.bs b o e).1
  have hkind:∀y∈ps.zip us,scope.names.lookup y.1=some .local∨(scope.names.lookup y.1=some .cell∧((cellsFrom (s.heap.objs.size+1) scope.names []).lookup y.1).isSome=true):=fun⟨n,v⟩ hy=>by
    rcases S.par n (List.of_mem_zip hy).1 with q | q
    · exact .inl q
    · exact .inr ⟨q,PySem.W.cellsFrom_some _ _ _ (.inl q)⟩
  refine codeAny_call_function hr.depth (KX _ _ lk) rfl S.co S.gen rfl (PySem.W.codeRec_of KX hcd) (hb _ _ _ _ ?_)
  refine wpAny_newFunctionEnv_cells S.kind hkind fun env he s1 x=>?_
  subst he
  refine⟨lim.keeps x.toInCall.keep,codeAny_func ?_⟩
  obtain⟨t,ht,hq⟩:=hbody A outer s H vs Q E (hr.deeper _) hsp
  have I:az (rQ CX P w K mg base N qual scope f cdv A outer s H E) [] (eQ N vs) H s1:=uR S hr.hd e0 hl r x
  refine wpAny_mono (ht [] s1 (eQ N vs) H _ I hq) (fun fl s' hs=>?_) fun e s' hs=>hs
  have fin:∀{σ':St} {H':Hp} {v:V} {u:Value},az (rQ CX P w K mg base N qual scope f cdv A outer s H E) [] σ' H' s'→bC v u→Q v H'→CE outer P w H s Q u s':=
    fun{σ' H' v u} J rv q=>⟨v,H',J.os,J.bare,J.base,J.hok,rv,q⟩
  cases fl with
  | ret u=>
    obtain⟨v,σ',H',J,rv,q⟩:=hs
    exact fin J rv q
  | next=>
    obtain⟨σ',H',J,q⟩:=hs
    exact fin (v:=V.non) (u:=Value.none) J rfl q
  | brk=>
    obtain⟨_,_,_,q⟩:=hs
    exact False.elim q
  | cont=>
    obtain⟨_,_,_,q⟩:=hs
    exact False.elim q
end L2
namespace L2
open PySem PySem.Spec PyProof.Rows
section
variable{X:Cx}{x:Str}{p pos:Pos}{e:Expr}{es:List Expr}{t:TA}{id T:String}{r:List V→Hp→VK→Prop}
def Gb(r:List V→Hp→VK→Prop)(t:TA):TE:=fun σ H Q=>t σ H fun vs H1=>r vs H1 Q
theorem qC(hc:cL X (.builtin id) r)(hg:Gl X x)(hm:X.mg x=none)(hv:bootBuiltins x=some (.builtin id))(ha:PA X (e::es) t)(hn:x≠"__name__":=by decide)(hdb:(x==("__debug__":Str))=false:=by decide)
    (he:starEach (e::es) X.env=(false,eval e X.env)::starEach es X.env:=by rfl)(hpl:(backTo pos (starEach es X.env)).any (·.1)=false:=by rfl):PE X (.Call (.Name x p) (e::es) [] pos) (Gb r t):=by
  intro pins s σ H Q I h
  refine wpAny_Call_Name_kw (iF I hg hm hv ?_ hn hdb)
  exact PyProof.Rows.callWith_builtin1 (bF (ha pos pins s σ H _ I h) fun us s1 ⟨vs,H1,I1,r1,q1⟩=>hc pins s1 σ H1 vs us Q I1 r1 q1) he hpl
theorem u9(hc:cL X (.type T) r)(hg:Gl X x)(hm:X.mg x=none)(hv:bootBuiltins x=some (.type T))(ha:PA X (e::es) t)(hn:x≠"__name__":=by decide)(hdb:(x==("__debug__":Str))=false:=by decide)
    (he:starEach (e::es) X.env=(false,eval e X.env)::starEach es X.env:=by rfl)(hpl:(backTo pos (starEach es X.env)).any (·.1)=false:=by rfl):PE X (.Call (.Name x p) (e::es) [] pos) (Gb r t):=by
  intro pins s σ H Q I h
  refine wpAny_Call_Name_kw (iF I hg hm hv ?_ hn hdb)
  exact PyProof.Rows.callWith_type1 (bF (ha pos pins s σ H _ I h) fun us s1 ⟨vs,H1,I1,r1,q1⟩=>hc pins s1 σ H1 vs us Q I1 r1 q1) he hpl
end
end L2
namespace HT
open PySem PyProof.Rows
section
open PySem.SeqAt
open PySem.AutoSeq1 (wpAny_loadPart')
open PySem.MeetsSeq PySem.MeetsSeq2 PySem.MeetsSeq3
end
section
variable{prog:Program}{w:World}{A:Around}{E:Value→Shared→Prop}{s:Shared}
theorem cat_tup{t b:Addr}{vs ws:List Value}{Q:Value→Shared→Prop}(ht:IsTup s.heap t vs.toArray)(hb:IsTup s.heap b ws.toArray)(hv:vs≠[])
    (h1:ws=[]→Q (.ref t) s)(h2:ws≠[]→Q (.ref s.heap.objs.size) {s with heap:=s.heap.push {cls:=.type "tuple",data:=.seq (vs++ws).toArray}})
    (hsz:vs.length+ws.length≤sizeLine):wpAny (model prog w) A (binaryOp .Add (.ref t) (.ref b)) Q E s:=by
  obtain⟨⟨cls,dd,data,sl⟩,ho,hc,n,hd⟩:=id ht
  obtain⟨⟨cls2,dd2,data2,sl2⟩,ho2,hc2,n2,hd2⟩:=id hb
  simp only at hc hd hc2 hd2
  subst hc hd hc2 hd2
  have e:vs.toArray++ws.toArray=(vs++ws).toArray:=by simp
  by_cases hw:ws=[]
  · exact concat_meets ⟨_,ho,rfl⟩ ⟨_,ho2,rfl⟩ noFill_tuple_add seq_tuple_add PySem.F.slot_tuple_add PySem.F.entry_tuple_add (PySem.F.args_tuple_add_2 _ _)
      (tuple_addW1 t b vs.toArray ws.toArray n n2 dd dd2 sl sl2 (by simpa using hv) (by simp [hw])) ⟨ho,ho2,h1 hw⟩
  · refine concat_meets ⟨_,ho,rfl⟩ ⟨_,ho2,rfl⟩ noFill_tuple_add seq_tuple_add PySem.F.slot_tuple_add PySem.F.entry_tuple_add (PySem.F.args_tuple_add_2 _ _)
      (tuple_addW2 t b vs.toArray ws.toArray n n2 dd dd2 sl sl2 (by simpa using hv) (by simpa using hw) (by rw [List.size_toArray,List.size_toArray];exact hsz)) ⟨ho,ho2,?_⟩
    rw [e]
    exact h2 hw
def sIx(n d:Nat):Option Int→Nat
  | none=>d
  | some v=>if v < 0 then(v+(n:Int)).toNat else min v.toNat n
theorem sIx_none(n d:Nat):sIx n d none=d:=rfl
theorem sIx_nat(n d k:Nat):sIx n d (some (k:Int))=min k n:=by
  show(if (k:Int) < 0 then((k:Int)+(n:Int)).toNat else min (k:Int).toNat n)=min k n
  rw [if_neg (by lia),Int.toNat_natCast]
theorem CJ(n d:Nat)(hd:d≤n)(o:Option Int):sIx n d o≤n:=by
  cases o with
  | none=>exact hd
  | some v=>
    show(if v < 0 then(v+(n:Int)).toNat else min v.toNat n)≤n
    by_cases hv:v < 0
    · rw [if_pos hv];lia
    · rw [if_neg hv];exact Nat.min_le_right _ _
theorem tu(v:Int)(n d:Nat):(if v < 0 then max (v+(n:Int)) 0 else min v (n:Int))=((sIx n d (some v):Nat):Int):=by
  show(if v < 0 then max (v+(n:Int)) 0 else min v (n:Int))=(((if v < 0 then(v+(n:Int)).toNat else min v.toNat n):Nat):Int)
  by_cases hv:v < 0
  · simp only [if_pos hv];lia
  · simp only [if_neg hv];lia
theorem rE(lo hi:Option Int)(n:Nat):Builtin.Slice.sliceAdjust lo hi 1 (n:Int)=(((sIx n 0 lo:Nat):Int),((sIx n n hi:Nat):Int)):=by
  have h1:¬((1:Int) < 0):=by lia
  unfold Builtin.Slice.sliceAdjust
  simp only [h1,if_false]
  refine Prod.ext ?_ ?_
  · cases lo with
    | none=>rfl
    | some v=>exact tu v n 0
  · cases hi with
    | none=>rfl
    | some v=>exact tu v n n
theorem sj(i j:Nat):Builtin.Slice.slicePlaces (i:Int) (j:Int) 1=j - i:=by
  unfold Builtin.Slice.slicePlaces
  have h1:(1:Int) > 0:=by lia
  simp only [h1,if_true,Int.ediv_one]
  split<;>lia
theorem slicePart_{v:Value}{o:Option Int}{Q:Option Int→Shared→Prop}(p:IsPart v o)(h:Q o s):wpAny (model prog w) A (Builtin.Slice.slicePartIndex v) Q E s:=by
  cases p with
  | none=>exact slicePart_none h
  | int i t=>exact slicePart_int h
theorem gJ{sl:Addr}{vl vu:Value}{lo hi:Option Int}{n:Nat}{Q:Int × Int × Nat→Shared→Prop}(hs:s.heap.IsSliceOf sl vl vu .none)(pl:IsPart vl lo)(pu:IsPart vu hi)
    (h:Q (((sIx n 0 lo:Nat):Int),1,sIx n n hi - sIx n 0 lo) s):wpAny (model prog w) A (Builtin.Slice.sliceApplied (.ref sl) (pure (n:Int))) Q E s:=by
  obtain⟨os,hos,hcs,hds⟩:=id hs
  unfold Builtin.Slice.sliceApplied Builtin.Slice.sliceFields
  refine wpAny_bind (wpAny_bind (wpAny_field hos hds (x:=vl) rfl (wpAny_bind (wpAny_field hos hds (x:=vu) rfl (wpAny_bind (wpAny_field hos hds (x:=.none) rfl (wpAny_pure ?_)))))))
  refine wpAny_bind (slicePart_none ?_)
  show wpAny _ _ (if ((1:Int)==0)=true then _ else _) _ _ s
  rw [if_neg (by decide)]
  refine wpAny_bind (slicePart_ pl (wpAny_bind (slicePart_ pu (wpAny_bind (wpAny_pure ?_)))))
  show wpAny _ _ (match Builtin.Slice.sliceAdjust lo hi 1 (n:Int) with | (lo,hi)=>pure (lo,(1:Int),Builtin.Slice.slicePlaces lo hi 1)) _ _ s
  rw [rE lo hi n]
  show wpAny _ _ (pure (((sIx n 0 lo:Nat):Int),(1:Int),Builtin.Slice.slicePlaces ((sIx n 0 lo:Nat):Int) ((sIx n n hi:Nat):Int) 1)) _ _ s
  rw [sj]
  exact wpAny_pure h
theorem xw(xs:Array Value)(i k:Nat):((List.range k).filterMap fun(m:Nat)=>xs[((i:Int)+(m:Int)*1).toNat]?).toArray=((xs.toList.drop i).take k).toArray:=by
  have e:(fun(m:Nat)=>xs[((i:Int)+(m:Int)*1).toNat]?)=fun m=>xs[i+m]?:=by
    funext m
    have:((i:Int)+(m:Int)*1).toNat=i+m:=by lia
    rw [this]
  rw [e]
  have:=pick_run xs i k
  rw [List.filterMap_map] at this
  have e2:((fun x=>xs[x]?) ∘ fun x=>i+x)=fun m=>xs[i+m]?:=rfl
  rw [e2] at this
  rw [this]
theorem getItem_tuple_cut{t sl:Addr}{items:Array Value}{vl vu:Value}{lo hi:Option Int}{Q:Value→Shared→Prop}(ht:IsTup s.heap t items)(hs:s.heap.IsSliceOf sl vl vu .none)(pl:IsPart vl lo)(pu:IsPart vu hi)
    (hw:¬(sIx items.size 0 lo=0∧sIx items.size items.size hi=items.size))
    (h:Q (.ref s.heap.objs.size) {s with heap:=s.heap.push {cls:=.type "tuple",data:=.seq ((items.toList.drop (sIx items.size 0 lo)).take (sIx items.size items.size hi - sIx items.size 0 lo)).toArray}})
    (hsz:items.size≤sizeLine):wpAny (model prog w) A (getItem (.ref t) (.ref sl)) Q E s:=by
  have htake:sizeOk (.seq ((items.toList.drop (sIx items.size 0 lo)).take (sIx items.size items.size hi - sIx items.size 0 lo)).toArray):=by
    show((items.toList.drop (sIx items.size 0 lo)).take (sIx items.size items.size hi - sIx items.size 0 lo)).toArray.size≤sizeLine
    rw [List.size_toArray,List.length_take,List.length_drop,Array.length_toList]
    lia
  have hj:sIx items.size items.size hi≤items.size:=CJ _ _ (Nat.le_refl _) hi
  obtain⟨os,hos,hcs,hds⟩:=id hs
  have hTs:s.TypeIs (.ref sl) "slice":=⟨os,hos,hcs⟩
  unfold getItem
  try with_reducible refine wpAny_holding ?_
  first | refine wpAny_bind (wpAny_pure ?_) | skip
  refine wpAny_bind (wpAny_sequenceKey ht.typeIs (by decide) ?_)
  refine wpAny_bind (wpAny_callSpecial?_slot (name:=Str.ofString "__getitem__") ht.typeIs PyProof.Rows.slot_tuple_getitem
    (wpAny_call_entry PyProof.Rows.slot_tuple_getitem ht.typeIs entry_tuple_getitem ?_ (args_tuple_getitem _ _)))
  show wpAny _ _ (Builtin.Tuple.tupleItemsOf (.ref t) >>= _) _ _ s
  refine wpAny_bind (tupleItemsOf_ ht ?_)
  refine wpAny_bind (wpAny_typeOf hTs ?_)
  rw [if_pos (by decide)]
  refine wpAny_bind (gJ hs pl pu ?_)
  have hno:¬((((sIx items.size 0 lo:Nat):Int)==0&&(1:Int)==1&&(sIx items.size items.size hi - sIx items.size 0 lo)==items.size)=true):=by
    intro q
    rw [Bool.and_eq_true,Bool.and_eq_true] at q
    have q1:((sIx items.size 0 lo:Nat):Int)=0:=eq_of_beq q.1.1
    have q2:sIx items.size items.size hi - sIx items.size 0 lo=items.size:=eq_of_beq q.2
    exact hw ⟨by lia,by lia⟩
  show wpAny _ _ (if (((sIx items.size 0 lo:Nat):Int)==0&&(1:Int)==1&&(sIx items.size items.size hi - sIx items.size 0 lo)==items.size)=true then _ else _) _ _ s
  rw [if_neg hno,xw]
  first
    | exact wpAny_bind (m:=Builtin.Tuple.tupleExact _) (wpAny_newObj_type (wpAny_pure ⟨_,rfl,wpAny_pure h⟩) htake)
    | exact wpAny_bind (m:=Builtin.Tuple.tupleExact _) (wpAny_newObj_type (wpAny_bind (wpAny_pure (wpAny_pure ⟨_,rfl,wpAny_pure h⟩))) htake)
    | exact wpAny_bind (wpAny_bind (m:=Builtin.Tuple.tupleExact _) (wpAny_newObj_type (wpAny_pure (wpAny_pure ⟨_,rfl,wpAny_pure h⟩)) htake))
    | exact wpAny_bind (wpAny_bind (m:=Builtin.Tuple.tupleExact _) (wpAny_newObj_type (wpAny_pure ⟨_,rfl,wpAny_pure h⟩) htake))
end
end HT
namespace L2
open PySem PySem.Spec PyProof.Rows
abbrev TO:=St→Hp→(Option Int→Hp→Prop)→Prop
def PO(X:Cx)(e:Option Expr)(t:TO):Prop:=
  ∀(pins:List (Addr × Obj)) (s:Shared) (σ:St) (H:Hp) (Q:Option Int→Hp→Prop),az X pins σ H s→t σ H Q→
    wpAny (model X.prog X.w) X.A (evalPart e X.env) (fun u s'=>∃o H',az X pins σ H' s'∧IsPart u o∧Q o H') X.xe s
def Ab:TO:=fun _ H Q=>Q none H
def EW(t:TE):TO:=fun σ H Q=>t σ H fun x H1=>∃i,x=.int i∧Q (some i) H1
theorem jd{ns:List Int}:∀{us:List Value},aI (ns.map V.int) us→IntsAre us ns:=by
  induction ns with
  | nil=>intro us r;rw [List.map_nil] at r;cases r;exact .nil
  | cons n ns ih=>
    intro us r
    rw [List.map_cons] at r
    cases r with
    | cons r1 r2=>
      obtain⟨t,e⟩:=r1
      subst e
      exact .cons n t (ih r2)
section
variable{X:Cx}{e:Expr}{te:TE}{lo hi:Option Expr}{tl th:TO}{pos p2:Pos}
theorem zD:PO X none Ab:=by
  intro pins s σ H Q I h
  rw [evalPart_none]
  exact wpAny_pure ⟨none,H,I,.none,h⟩
theorem zE(h:PE X e te):PO X (some e) (EW te):=by
  intro pins s σ H Q I hw
  rw [evalPart_some]
  refine bF (h pins s σ H _ I hw) fun u s1 ⟨x,H1,I1,r1,q1⟩=>?_
  obtain⟨i,rfl,q⟩:=q1
  obtain⟨t,rfl⟩:=r1
  exact⟨some i,H1,I1,.int i t,q⟩
def yD(X:Cx)(r:V→Option Int→Option Int→Hp→VK→Prop):Prop:=
  ∀(pins:List (Addr × Obj)) (s:Shared) (σ:St) (H:Hp) (x:V) (v vl vu:Value) (lo hi:Option Int) (sl:Addr) (Q:VK),az X pins σ H s→bC x v→s.heap.IsSliceOf sl vl vu .none→IsPart vl lo→IsPart vu hi→r x lo hi H Q→
    ∃T id,typeLookup (.type T) "__getitem__"=pure (some (.builtin id))∧s.TypeIs v T∧wpAny (model X.prog X.w) X.A (getItem v (.ref sl)) (EP X pins σ Q) X.xe s
theorem yD.or{r r':V→Option Int→Option Int→Hp→VK→Prop}(h:yD X r)(h':yD X r'):yD X (fun x lo hi H Q=>r x lo hi H Q∨r' x lo hi H Q):=by
  intro pins s σ H x v vl vu lo hi sl Q I rx hs pl pu q
  rcases q with q | q
  · exact h pins s σ H x v vl vu lo hi sl Q I rx hs pl pu q
  · exact h' pins s σ H x v vl vu lo hi sl Q I rx hs pl pu q
def G9(r:V→Option Int→Option Int→Hp→VK→Prop)(te:TE)(tl th:TO):TE:=fun σ H Q=>te σ H fun x H1=>tl σ H1 fun l H2=>th σ H2 fun u H3=>r x l u H3 Q
theorem xn{r:V→Option Int→Option Int→Hp→VK→Prop}(hr:yD X r)(he:PE X e te)(hl:PO X lo tl)(hu:PO X hi th):PE X (.Subscript e (.Slice lo hi none p2) pos) (G9 r te tl th):=by
  intro pins s σ H Q I h
  refine Subscript_ (bF (he pins s σ H _ I h) fun v s1 ⟨x,H1,I1,r1,q1⟩=>?_)
  refine wpAny_Slice (bF (hl pins s1 σ H1 _ I1 q1) fun vl s2 ⟨l,H2,I2,pl,q2⟩=>bF (hu pins s2 σ H2 _ I2 q2) fun vu s3 ⟨u,H3,I3,pu,q3⟩=>?_)
  rw [evalPart_none]
  refine wpAny_pure ?_
  have I4:az X pins σ H3 {s3 with heap:=s3.heap.push {cls:=.type "slice",data:=.fields #[vl,vu,.none]}}:=I3.kept (t':=s3.toks) fun b ob q=>Heap.get?_push_of_some _ q
  obtain⟨T,id,hT,ht,hg⟩:=hr pins {s3 with heap:=s3.heap.push {cls:=.type "slice",data:=.fields #[vl,vu,.none]}} σ H3 x v vl vu l u s3.heap.objs.size Q I4 r1 (Heap.IsSliceOf.new ..) pl pu q3
  show wpAny (model X.prog X.w) X.A (subscriptTail e (.Slice lo hi none p2) v (.ref s3.heap.objs.size)) (EP X pins σ Q) X.xe {s3 with heap:=s3.heap.push {cls:=.type "slice",data:=.fields #[vl,vu,.none]}}
  exact tail_any (ops:=[.ref s3.heap.objs.size,v]) ht hT hg (by with_unfolding_all rfl)
def mP(xs:List V)(lo hi:Option Int):List V:=(xs.drop (HT.sIx xs.length 0 lo)).take (HT.sIx xs.length xs.length hi - HT.sIx xs.length 0 lo)
theorem kJ(xs:List V)(lo hi:Option Int):(mP xs lo hi).length≤xs.length:=by
  unfold mP
  rw [List.length_take,List.length_drop]
  lia
def EF(K:PySem.W.Frag):V→Option Int→Option Int→Hp→VK→Prop:=fun x lo hi H Q=>∃a xs,x=.ref a∧cZ K H a xs∧
  ¬(HT.sIx xs.length 0 lo=0∧HT.sIx xs.length xs.length hi=xs.length)∧∀p,H p=none→Q (.ref p) (aV H p (.tup (mP xs lo hi)))
theorem CL:yD X (EF X.K):=by
  intro pins s σ H x v vl vu lo hi sl Q I rx hs pl pu h
  obtain⟨a,xs,rfl,hx,hw,q⟩:=h
  cases rx
  obtain⟨its,r,ht,hz⟩:=I.tuple hx
  have hlen:its.toArray.size=xs.length:=by rw [List.size_toArray];exact r.length.symm
  refine⟨"tuple",_,PyProof.Rows.slot_tuple_getitem.lookup,ht.typeIs,?_⟩
  refine HT.getItem_tuple_cut ht hs pl pu (by rw [hlen];exact hw) ?_ (by rw [hlen];exact hz)
  rw [hlen]
  refine⟨.ref s.heap.objs.size,_,I.laid (t':=s.toks) (o:=.tup (mP xs lo hi)) (fun b ob q=>Heap.get?_push_of_some _ q) (Nat.le_refl _) ?_,rfl,q _ (I.hok.fresh (Nat.le_refl _))⟩
  exact⟨Nat.le_trans (kJ xs lo hi) hz,_,(r.drop (HT.sIx xs.length 0 lo)).take (HT.sIx xs.length xs.length hi - HT.sIx xs.length 0 lo),k9.new _ _⟩
def Ey(K:PySem.W.Frag):R2:=fun x y H Q=>∃a b xs ys,x=.ref a∧y=.ref b∧cZ K H a xs∧cZ K H b ys∧xs≠[]∧xs.length+ys.length≤sizeLine∧
  (ys=[]→Q (.ref a) H)∧(ys≠[]→∀p,H p=none→Q (.ref p) (aV H p (.tup (xs++ys))))
theorem aI.nil_iff{xs:List V}{us:List Value}(r:aI xs us):us=[]↔ xs=[]:=by
  cases r with
  | nil=>simp
  | cons _ _=>simp
theorem zm:eG X (binaryOp .Add) (Ey X.K):=by
  intro pins s σ H x y v u Q I rx ry h
  obtain⟨a,b,xs,ys,rfl,rfl,ha,hb,hx,hz,q1,q2⟩:=h
  cases rx
  cases ry
  obtain⟨its,r1,p1,_⟩:=I.tuple ha
  obtain⟨its2,r2,p2,_⟩:=I.tuple hb
  refine HT.cat_tup p1 p2 (fun z=>hx (r1.nil_iff.mp z)) (fun z=>⟨.ref a,H,I,rfl,q1 (r2.nil_iff.mp z)⟩) (fun z=>?_) (by rw [←r1.length,←r2.length];exact hz)
  refine⟨.ref s.heap.objs.size,_,I.laid (t':=s.toks) (o:=.tup (xs++ys)) (fun b ob q=>Heap.get?_push_of_some _ q) (Nat.le_refl _) ?_,rfl,q2 (fun w=>z (r2.nil_iff.mpr w)) _ (I.hok.fresh (Nat.le_refl _))⟩
  exact⟨by rw [List.length_append];exact hz,_,r1.append r2,k9.new _ _⟩
end
end L2
namespace L2
open PySem PySem.Spec PyProof.Rows
def yx(n:Nat)(i:Int):Option Nat:=if 0≤i then(if i < n then some i.toNat else none) else if -(n:Int)≤i then some (i+n).toNat else none
def atI{α:Type}(xs:List α)(i:Int):Option α:=(yx xs.length i).bind fun j=>xs[j]?
theorem y0{n:Nat}{i:Int}{j:Nat}(h:yx n i=some j):seqIndex? i n=some j∧j < n∧ -(n:Int)≤i∧i < n:=by
  unfold yx at h
  by_cases h0:0≤i
  · rw [if_pos h0] at h
    by_cases h1:i < n
    · rw [if_pos h1] at h
      have e:i.toNat=j:=Option.some.inj h
      exact⟨by rw [seqIndex_of h0 h1,e],by lia,by lia,h1⟩
    · rw [if_neg h1] at h;cases h
  · rw [if_neg h0] at h
    by_cases h1: -(n:Int)≤i
    · rw [if_pos h1] at h
      have e:(i+n).toNat=j:=Option.some.inj h
      exact⟨by rw [seqIndex_neg (by lia) h1,e],by lia,h1,by lia⟩
    · rw [if_neg h1] at h;cases h
theorem sY{α:Type}{xs:List α}{i:Int}{v:α}(h:atI xs i=some v):∃j,seqIndex? i xs.length=some j∧xs[j]?=some v∧j < xs.length∧ -(xs.length:Int)≤i∧i < xs.length:=by
  unfold atI at h
  cases e:yx xs.length i with
  | none=>rw [e] at h;cases h
  | some j=>
    rw [e] at h
    obtain⟨h1,h2,h3,h4⟩:=y0 e
    exact⟨j,h1,h,h2,h3,h4⟩
def ji(b:Expr):Prop:=∀o i,subscripted b false o i=operate [o,i] (getItem o i)
def yr(X:Cx)(r:R2):Prop:=
  ∀(value slice:Expr) (pins:List (Addr × Obj)) (s:Shared) (σ:St) (H:Hp) (x y:V) (v u:Value) (Q:VK),az X pins σ H s→bC x v→bC y u→r x y H Q→
    subscripted slice false v u=operate [v,u] (getItem v u)→wpAny (model X.prog X.w) X.A (subscriptTail value slice v u) (EP X pins σ Q) X.xe s
def Gp(X:Cx)(id:String)(r:V→List V→Hp→VK→Prop):Prop:=
  ∀(pins:List (Addr × Obj)) (s:Shared) (σ:St) (H:Hp) (x:V) (xs:List V) (v:Value) (us:List Value) (Q:VK),az X pins σ H s→bC x v→aI xs us→r x xs H Q→
    wpAny (model X.prog X.w) X.A (call (.builtin id) (v::us)) (EP X pins σ Q) X.xe s
section
variable{X:Cx}{a b:Expr}{ta tb:TE}{pos:Pos}
theorem yr.or{r r':R2}(h:yr X r)(h':yr X r'):yr X (fun x y H Q=>r x y H Q∨r' x y H Q):=by
  intro value slice pins s σ H x y v u Q I rx ry q hs
  rcases q with q | q
  · exact h value slice pins s σ H x y v u Q I rx ry q hs
  · exact h' value slice pins s σ H x y v u Q I rx ry q hs
theorem xk{r:R2}(hr:yr X r)(ha:PE X a ta)(hb:PE X b tb)(hs:ji b):PE X (.Subscript a b pos) (EV r ta tb):=by
  intro pins s σ H Q I h
  exact Subscript_ (Bm ha hb I h fun v u s2 x y H2 I2 rx ry q=>hr a b pins s2 σ H2 x y v u Q I2 rx ry q (hs _ _))
def Cz(K:PySem.W.Frag):R2:=fun x y H Q=>∃p xs i v,x=.ref p∧y=.int i∧fm K H p xs∧atI xs i=some v∧Q v H
def ED(K:PySem.W.Frag):R2:=fun x y H Q=>∃p xs i v,x=.ref p∧y=.int i∧cZ K H p xs∧atI xs i=some v∧Q v H
theorem tT:yr X (Cz X.K):=by
  intro value slice pins s σ H x y v u Q I rx ry h hs
  obtain⟨p,xs,i,z,rfl,rfl,hq,he,q⟩:=h
  cases rx
  obtain⟨t,rfl⟩:=ry
  obtain⟨its,r,pl,hz⟩:=I.list hq
  obtain⟨j,h1,h2,h3,h4,h5⟩:=sY he
  obtain⟨w,ew,rw'⟩:=r.get h2
  have hl:=r.length
  have hn:=r9
  have fin:EP X pins σ Q w s:=⟨z,H,I,rw',q⟩
  by_cases h0:0≤i
  · have hj:i.toNat=j:=by
      rw [seqIndex_of h0 h5] at h1
      exact Option.some.inj h1
    exact item_listR pl.isList h0 (by lia) (by rw [hj];simpa using ew) fin hs
  · have hj:(i+(its.toArray.size:Int)).toNat=j:=by
      rw [seqIndex_neg (by lia) h4] at h1
      rw [List.size_toArray,←hl]
      exact Option.some.inj h1
    exact subscriptTail_builtinR (x:=w) pl.isList.typeIs slot_list_getitem.lookup
      (wpAny_getItem_list_neg (Q:=fun r s'=>r=w∧EP X pins σ Q r s') pl.isList (by lia) (by rw [List.size_toArray]<;>lia) (by lia) (by rw [hj];simpa using ew) ⟨rfl,fin⟩) hs
theorem wK:yr X (ED X.K):=by
  intro value slice pins s σ H x y v u Q I rx ry h hs
  obtain⟨p,xs,i,z,rfl,rfl,hq,he,q⟩:=h
  cases rx
  obtain⟨t,rfl⟩:=ry
  obtain⟨its,r,pl,hz⟩:=I.tuple hq
  obtain⟨j,h1,h2,h3,h4,h5⟩:=sY he
  obtain⟨w,ew,rw'⟩:=r.get h2
  have hl:=r.length
  have hn:=r9
  have fin:EP X pins σ Q w s:=⟨z,H,I,rw',q⟩
  exact subscriptTail_builtinR (x:=w) pl.typeIs slot_tuple_getitem.lookup
    (getItem_tuple (j:=j) (Q:=fun r s'=>r=w∧EP X pins σ Q r s') pl (by lia) (by lia) (by rw [List.size_toArray,←hl];exact h1) (by simpa using ew) ⟨rfl,fin⟩) hs
theorem pj(lo hi:Option Int)(n:Nat):(sliceBounds lo hi none n).1=((HT.sIx n 0 lo:Nat):Int)∧(sliceBounds lo hi none n).2.1=((HT.sIx n n hi:Nat):Int)∧(sliceBounds lo hi none n).2.2=1:=by
  refine⟨?_,?_,rfl⟩
  · cases lo with
    | none=>simp [sliceBounds,HT.sIx]
    | some i=>
      simp only [sliceBounds,HT.sIx,Option.getD_none,show(1:Int) > 0 by decide,if_true]
      by_cases h:i < 0
      · simp only [h,if_true]<;>lia
      · simp only [h,if_false]<;>lia
  · cases hi with
    | none=>simp [sliceBounds,HT.sIx]
    | some i=>
      simp only [sliceBounds,HT.sIx,Option.getD_none,show(1:Int) > 0 by decide,if_true]
      by_cases h:i < 0
      · simp only [h,if_true]<;>lia
      · simp only [h,if_false]<;>lia
theorem mS(its:List Value)(lo hi:Option Int):slicePick its.toArray lo hi none=((its.drop (HT.sIx its.length 0 lo)).take (HT.sIx its.length its.length hi - HT.sIx its.length 0 lo)).toArray:=by
  obtain⟨h1,h2,h3⟩:=pj lo hi its.toArray.size
  unfold slicePick
  rw [h1,h2,h3]
  simp only [sliceRange_one,pick_run,List.size_toArray]<;>rfl
def EE(K:PySem.W.Frag):V→Option Int→Option Int→Hp→VK→Prop:=fun x lo hi H Q=>∃a xs,x=.ref a∧fm K H a xs∧∀p,H p=none→Q (.ref p) (aV H p (.lst (mP xs lo hi)))
theorem zY:yD X (EE X.K):=by
  intro pins s σ H x v vl vu lo hi sl Q I rx hs pl pu h
  obtain⟨a,xs,rfl,hx,q⟩:=h
  cases rx
  obtain⟨its,r,ht,hz⟩:=I.list hx
  have hlen:=r.length
  refine⟨"list",_,slot_list_getitem.lookup,ht.isList.typeIs,?_⟩
  refine wpAny_getItem_list_slice ht.isList hs pl pu .none (by simp) ?_ (by rw [List.size_toArray]<;>lia)
  rw [mS,←hlen]
  refine⟨.ref s.heap.objs.size,_,I.laid (t':=s.toks) (o:=.lst (mP xs lo hi)) (fun b ob q=>Heap.get?_push_of_some _ q) (Nat.le_refl _) ?_,rfl,q _ (I.hok.fresh (Nat.le_refl _))⟩
  exact⟨Nat.le_trans (kJ xs lo hi) hz,_,0,(r.drop (HT.sIx xs.length 0 lo)).take (HT.sIx xs.length xs.length hi - HT.sIx xs.length 0 lo),Heap.get?_push_size _ rfl⟩
theorem og:cL X (.builtin "len") (fun xs H Q=>∃p ys,xs=[.ref p]∧(fm X.K H p ys∨cZ X.K H p ys)∧Q (.int ys.length) H):=by
  intro pins s σ H xs us Q I r h
  obtain⟨p,ys,rfl,hq,q⟩:=h
  obtain⟨u,rfl,rx⟩:=nY r
  cases rx
  have hn:=r9
  rcases hq with hq | hq
  · obtain⟨its,r',pl,hz⟩:=I.list hq
    have hlen:=r'.length
    exact Calls.call_len_list pl.isList (by simp only [List.size_toArray]<;>lia) ⟨.int ys.length,H,I.tok _,⟨s.toks+1,by rw [List.size_toArray,hlen]⟩,q⟩
  · obtain⟨its,r',pl,hz⟩:=I.tuple hq
    have hlen:=r'.length
    exact len_tuple pl (by simp only [List.size_toArray]<;>lia) ⟨.int ys.length,H,I.tok _,⟨s.toks+1,by rw [List.size_toArray,hlen]⟩,q⟩
theorem oh:cL X (.type "list") (fun xs H Q=>∃p ys,xs=[.ref p]∧(fm X.K H p ys∨cZ X.K H p ys)∧∀l,H l=none→Q (.ref l) (aV H l (.lst ys))):=by
  intro pins s σ H xs us Q I r h
  obtain⟨p,ys,rfl,hq,q⟩:=h
  obtain⟨u,rfl,rx⟩:=nY r
  cases rx
  have fin:∀(its:List Value),aI ys its→ys.length≤sizeLine→∀(h':Heap) (c':Nat),(∀b o',s.heap.get? b=some o'→h'.get? b=some o')→
      h'.get? s.heap.objs.size=some {cls:=.type "list",dict:=none,data:=.seq its.toArray c',slots:=#[]}→EP X pins σ Q (.ref s.heap.objs.size) {s with heap:=h'}:=fun its r' hz h' c' kp e=>
    ⟨.ref s.heap.objs.size,_,I.laid (t':=s.toks) kp (Nat.le_refl _) (show cP X.prog X.w _ h' _ (.lst ys) from⟨hz,its,c',r',e⟩),rfl,q _ (I.hok.fresh (Nat.le_refl _))⟩
  rcases hq with hq | hq
  · obtain⟨its,r',pl,hz⟩:=I.list hq
    have hlen:=r'.length
    obtain⟨o,ho,hc,n,hd⟩:=pl.isList
    exact call_list_seq p (.inl rfl) ho hc hd (fun h' c' kp e=>fin its r' hz h' c' kp e) (by simp only [List.size_toArray]<;>lia)
  · obtain⟨its,r',pl,hz⟩:=I.tuple hq
    have hlen:=r'.length
    obtain⟨o,ho,hc,n,hd⟩:=pl
    exact call_list_seq p (.inr rfl) ho hc hd (fun h' c' kp e=>fin its r' hz h' c' kp e) (by simp only [List.size_toArray]<;>lia)
theorem mO:cL X (.type "tuple") (fun xs H Q=>∃p ys,xs=[.ref p]∧((fm X.K H p ys∧∀l,H l=none→Q (.ref l) (aV H l (.tup ys)))∨(cZ X.K H p ys∧Q (.ref p) H))):=by
  intro pins s σ H xs us Q I r h
  obtain⟨p,ys,rfl,h⟩:=h
  obtain⟨u,rfl,rx⟩:=nY r
  cases rx
  rcases h with ⟨hq,q⟩ | ⟨hq,q⟩
  · obtain⟨its,r',pl,hz⟩:=I.list hq
    have hlen:=r'.length
    refine call_tuple_list pl.isList (fun h' kp=>?_) (by simp only [List.size_toArray]<;>lia)
    have I1:az X pins σ H {s with heap:=h'}:=I.kept (t':=s.toks) kp
    have I2:az X pins σ (aV H h'.objs.size (.tup ys)) {s with heap:=h'.push {cls:=.type "tuple",data:=.seq its.toArray}}:=
      I1.laid (t':=s.toks) (fun b o e=>Heap.get?_push_of_some _ e) (Nat.le_refl _) (show cP X.prog X.w _ _ _ (.tup ys) from⟨hz,its,r',k9.new _ _⟩)
    exact⟨.ref h'.objs.size,_,I2,rfl,q _ (I1.hok.fresh (Nat.le_refl _))⟩
  · obtain⟨its,r',pl,hz⟩:=I.tuple hq
    exact call_tuple_same pl ⟨.ref p,H,I,rfl,q⟩
def GE(K:PySem.W.Frag)(T:String)(x:V)(H:Hp):Prop:=match x with
  | .str _=>T="str"
  | .int _=>T="int"
  | .ref p=>(T="list"∧∃xs,fm K H p xs)∨(T="tuple"∧∃o,K.lookup p=some o∧o.cls=.type "tuple"∧o.dict=none)∨
      (T="dict"∧((∃kvs,H p=some (.dK kvs))∨∃kvs,H p=some (.dT kvs)))∨(T="set"∧∃S n,H p=some (.set S n))
  | _=>False
theorem CY{pins:List (Addr × Obj)}{σ:St}{H:Hp}{s:Shared}{T:String}{x:V}{v:Value}(I:az X pins σ H s)(r:bC x v)(ty:GE X.K T x H):
    s.TypeIs v T∧∀a,v=.ref a→∃ob,s.heap.get? a=some ob∧ob.dict=none:=by
  cases x with
  | str z=>
    obtain⟨t,rfl⟩:=r
    cases (show T="str" from ty)
    exact⟨typeIs_str s z t,fun _ e=>nomatch e⟩
  | int i=>
    obtain⟨t,rfl⟩:=r
    cases (show T="int" from ty)
    exact⟨typeIs_int s i t,fun _ e=>nomatch e⟩
  | ref p=>
    cases r
    rcases ty with ⟨rfl,xs,hq⟩ | ⟨rfl,o,hk,hc,hd⟩ | ⟨rfl,hk⟩ | ⟨rfl,S,n,hk⟩
    · obtain⟨its,_,pl,_⟩:=I.list hq
      refine⟨pl.isList.typeIs,fun a e=>?_⟩
      cases e
      obtain⟨o,n,e,c,hd,_⟩:=pl
      exact⟨o,e,hd⟩
    · refine⟨⟨o,I.kIn p o hk,hc⟩,fun a e=>?_⟩
      cases e
      exact⟨o,I.kIn _ o hk,hd⟩
    · have z:∃o,s.heap.get? p=some o∧o.ExactDict:=by
        rcases hk with ⟨kvs,hk⟩ | ⟨kvs,hk⟩
        · obtain⟨_,_,_,_,o,_,_,e,ex,_⟩:=I.hok p _ hk
          exact⟨o,e,ex⟩
        · obtain⟨_,_,_,_,o,_,_,e,ex,_⟩:=I.hok p _ hk
          exact⟨o,e,ex⟩
      obtain⟨o,e,ex⟩:=z
      refine⟨⟨o,e,ex.1⟩,fun a e2=>?_⟩
      cases e2
      exact⟨o,e,ex.2.1⟩
    · obtain⟨o,_,_,_,e,ex,_⟩:=I.hok p _ hk
      refine⟨⟨o,e,ex.1⟩,fun a e2=>?_⟩
      cases e2
      exact⟨o,e,ex.2.1⟩
  | _=>exact False.elim ty
def Gz(K:PySem.W.Frag)(T:String)(r:V→List V→Hp→VK→Prop)(to:TE)(t:TA):TE:=fun σ H Q=>to σ H fun x H1=>GE K T x H1∧t σ H1 fun xs H2=>r x xs H2 Q
variable{o e:Expr}{es:List Expr}{to:TE}{t:TA}{name:Str}{apos cpos:Pos}{T id:String}{r:V→List V→Hp→VK→Prop}
theorem xh(pa:PlainAttrs T)(slot:Slot T name id)(hty:typeOf (.builtin id)=pure (.type "method_descriptor"))(hm:Gp X id r)(ho:PE X o to)(ha:PA X (e::es) t)
    (hbase:attributeBase o name X.env (eval o X.env)=eval o X.env:=by rfl)
    (hfew:((backTo cpos (starEach (e::es) X.env)).all (fun x=> !x.1)&&(backToKw cpos (keywordEach [] X.env)).all (fun x=>x.1.isSome)
      &&decide ((e::es).length+([]:List Keyword).length+(if ([]:List Keyword).isEmpty then 0 else 1) < 30))=true:=by rfl)
    (hline:(apos.endLine==cpos.line)=true:=by rfl)(hs:starEach (e::es) X.env=(false,eval e X.env)::starEach es X.env:=by rfl)(hplain:(backTo cpos (starEach es X.env)).any (·.1)=false:=by rfl):
    PE X (.Call (.Attribute o name apos) (e::es) [] cpos) (Gz X.K T r to t):=by
  intro pins s σ H Q I h
  refine wpAny_Call_method_late hbase hfew hline rfl (bF (ho pins s σ H _ I h) fun v s1 ⟨x,H1,I1,r1,ty,q1⟩=>?_)
  obtain⟨h1,h2⟩:=CY I1 r1 ty
  refine⟨T,id,pa,slot,hty,h1,h2,?_⟩
  have hA:=ha cpos pins s1 σ H1 _ I1 q1
  rw [hs] at hA ⊢
  refine Calls.callWith_builtin (by show(false || (backTo cpos (starEach es X.env)).any (·.1))=false;rw [hplain]<;>rfl) (Calls.evalArgs_plain ?_)
  exact bF hA fun us s2 ⟨vs,H2,I2,r2,q2⟩=>hm pins s2 σ H2 x vs v us Q I2 r1 r2 q2
end
end L2
namespace L2
open PySem PySem.Spec PyProof.Rows
def Gn(X:Cx)(id:String)(r:V→List V→Hp→VK→Prop):Prop:=
  ∀(pins:List (Addr × Obj)) (s:Shared) (σ:St) (H:Hp) (x:V) (xs:List V) (v:Value) (us:List Value) (Q:VK),az X pins σ H s→bC x v→aI xs us→r x xs H Q→
    wpAny (model X.prog X.w) X.A (call (.builtin id) (v::us)) (EP X pins σ Q) X.xe s
theorem aI.one:∀{x:V} {us:List Value},aI [x] us→∃u,us=[u]∧bC x u
  | _,_,.cons r .nil=>⟨_,rfl,r⟩
theorem aI.eraseIdx:∀{xs:List V} {us:List Value} (i:Nat),aI xs us→aI (xs.eraseIdx i) (us.eraseIdx i)
  | _,_,_,.nil=>.nil
  | _,_,0,.cons _ t=>t
  | _,_,i+1,.cons r t=>.cons r (aI.eraseIdx i t)
theorem aI.reverse{xs:List V}{us:List Value}(h:aI xs us):aI xs.reverse us.reverse:=by
  induction h with
  | nil=>exact .nil
  | cons r t ih=>rw [List.reverse_cons,List.reverse_cons];exact aI.append ih (.cons r .nil)
theorem aI.rep{xs:List V}{us:List Value}(h:aI xs us):∀k:Nat,aI (List.replicate k xs).flatten (List.replicate k us).flatten
  | 0=>.nil
  | k+1=>by
    rw [List.replicate_succ,List.replicate_succ,List.flatten_cons,List.flatten_cons]
    exact aI.append h (aI.rep h k)
theorem nE{α:Type}:∀(l:List α) (i:Nat),(l.eraseIdx i).length≤l.length
  | [],_=>Nat.le_refl _
  | _::_,0=>Nat.le_succ _
  | _::r,i+1=>Nat.succ_le_succ (nE r i)
theorem nq(its:List Value):∀(k:Nat) (acc:List Value),
    List.foldl (fun x1 x2=>x1++x2) acc.toArray (List.replicate k its.toArray)=(acc++(List.replicate k its).flatten).toArray
  | 0,acc=>by simp
  | k+1,acc=>by
    have e:acc.toArray++its.toArray=(acc++its).toArray:=by simp
    have e2:(acc++its)++(List.replicate k its).flatten=acc++(List.replicate (k+1) its).flatten:=by
      rw [List.replicate_succ,List.flatten_cons,List.append_assoc]
    rw [←e2,←nq its k (acc++its),←e,List.replicate_succ,List.foldl_cons]
section
variable{X:Cx}{pins:List (Addr × Obj)}{σ:St}{H:Hp}{s:Shared}{l b:Addr}{xs ys zs:List V}
theorem az.lset{its its':List Value}{n:Nat}{f:Array Value→Array Value}{t':Nat}(I:az X pins σ H s)(hH:H l=some (.lst xs))
    (e:s.heap.get? l=some {cls:=.type "list",data:=.seq its.toArray n})(hf:f its.toArray=its'.toArray)(hv:aI ys its')(hz:ys.length≤sizeLine):
    az X pins σ (aV H l (.lst ys)) {s with heap:=s.heap.update l (Obj.mapSeq f),toks:=t'}:=by
  have q:=PySem.IsL.update e f
  rw [hf] at q
  refine I.write (x:=l) (e:=l) (by rw [hH];exact trivial) (.inl rfl) (fun b' u hb hu=>(Heap.get?_update_other s.heap (Obj.mapSeq f) (Ne.symm hb)).trans hu) ⟨_,q⟩ ?_
  exact⟨hz,its',_,hv,q⟩
theorem az.lnew{its:List Value}{t':Nat}(I:az X pins σ H s)(hv:aI ys its)(hz:ys.length≤sizeLine):
    az X pins σ (aV H s.heap.objs.size (.lst ys)) {s with heap:=s.heap.push {cls:=.type "list",data:=.seq its.toArray},toks:=t'}:=
  I.laid (fun _ _ q=>Heap.get?_push_of_some _ q) (Nat.le_refl _) ⟨hz,its,0,hv,Heap.get?_push_size _ rfl⟩
theorem az.fresh(I:az X pins σ H s):H s.heap.objs.size=none:=I.hok.fresh (Nat.le_refl _)
theorem az.lstM(I:az X pins σ H s)(hH:H l=some (.lst xs)):xs.length≤sizeLine∧∃(its:List Value) (n:Nat),aI xs its∧xs.length=its.length∧s.heap.get? l=some {cls:=.type "list",data:=.seq its.toArray n}:=by
  obtain⟨z,its,n,r,e⟩:=I.hok l _ hH
  exact⟨z,its,n,r,r.length,e⟩
theorem w_{n:Nat}(h:n≤sizeLine):Builtin.List.listTooLong n=false:=by
  unfold Builtin.List.listTooLong
  exact decide_eq_false (by lia)
end
section
variable{X:Cx}
def t_:V→List V→Hp→VK→Prop:=fun x vs H Q=>∃l xs y,x=.ref l∧vs=[y]∧H l=some (.lst xs)∧xs.length < sizeLine∧Q .non (aV H l (.lst (xs++[y])))
theorem ff:Gn X "list.append" t_:=by
  intro pins s σ H x vs v us Q I rx rv h
  obtain⟨l,xs,y,rfl,rfl,hH,hz,q⟩:=h
  cases rx
  obtain⟨u,rfl,ru⟩:=rv.one
  obtain⟨z,its,n,r,hl,e⟩:=I.lstM hH
  refine call_meets F.slot_list_append ⟨_,e,rfl⟩ F.entry_list_append (F.args_list_append_2 _ _) (PySem.list_append l its.toArray n u (by rw [List.size_toArray];lia)) ⟨e,?_⟩
  refine⟨.non,_,I.lset (its':=its++[u]) hH e (by simp) (r.append (.cons ru .nil)) ?_,rfl,q⟩
  rw [List.length_append,List.length_singleton]
  lia
def xS:V→List V→Hp→VK→Prop:=fun x vs H Q=>∃l xs i k y,x=.ref l∧vs=[.int i]∧H l=some (.lst xs)∧ -(2 ^ 63)≤i∧i < 2 ^ 63∧seqIndex? i xs.length=some k∧xs[k]?=some y∧Q y (aV H l (.lst (xs.eraseIdx k)))
theorem wV:Gn X "list.pop" xS:=by
  intro pins s σ H x vs v us Q I rx rv h
  obtain⟨l,xs,i,k,y,rfl,rfl,hH,h1,h2,hk,hy,q⟩:=h
  cases rx
  obtain⟨u,rfl,ru⟩:=rv.one
  obtain⟨t,rfl⟩:=ru
  obtain⟨z,its,n,r,hl,e⟩:=I.lstM hH
  obtain⟨w,hw,rw'⟩:=r.get hy
  refine call_meets F.slot_list_pop ⟨_,e,rfl⟩ F.entry_list_pop (F.args_list_pop_2 _ _)
    (MeetsSeq.list_pop_at l its.toArray n i t k w (fitsIndex_both h1 h2) (by rw [List.size_toArray,←hl];exact hk) (by rw [←Array.getElem?_toList];exact hw) (by rw [List.size_toArray];lia)) ⟨e,?_⟩
  refine⟨y,_,I.lset (its':=its.eraseIdx k) hH e ?_ (r.eraseIdx k) ?_,rw',q⟩
  · show its.toArray.eraseIdxIfInBounds k=(its.eraseIdx k).toArray
    rw [List.eraseIdxIfInBounds_toArray]
  · have:=nE xs k
    lia
def Cv:R2:=fun x y H Q=>∃l b xs zs,x=.ref l∧y=.ref b∧H l=some (.lst xs)∧H b=some (.lst zs)∧xs.length+zs.length≤sizeLine∧∀p,H p=none→Q (.ref p) (aV H p (.lst (xs++zs)))
theorem BW:eG X (binaryOp .Add) Cv:=by
  intro pins s σ H x y v u Q I rx ry h
  obtain⟨l,b,xs,zs,rfl,rfl,hH,hB,hz,q⟩:=h
  cases rx
  cases ry
  obtain⟨z,its,n,r,hl,e⟩:=I.lstM hH
  obtain⟨z2,its2,n2,r2,hl2,e2⟩:=I.lstM hB
  refine PySem.P.add_list e e2 ?_ (by rw [List.size_toArray,List.size_toArray];lia)
  have ea:its.toArray++its2.toArray=(its++its2).toArray:=by simp
  rw [ea]
  exact⟨.ref _,_,I.lnew (t':=s.toks) (r.append r2) (by rw [List.length_append];lia),rfl,q _ I.fresh⟩
def CA:R2:=fun x y H Q=>∃l k xs,x=.ref l∧y=.int k∧H l=some (.lst xs)∧ -(2 ^ 63)≤k∧k < 2 ^ 63∧xs.length*k.toNat≤sizeLine∧
  ∀p,H p=none→Q (.ref p) (aV H p (.lst (List.replicate k.toNat xs).flatten))
theorem y8{α:Type}(xs:List α)(k:Nat):(List.replicate k xs).flatten.length=k*xs.length:=by
  induction k with
  | zero=>simp
  | succ k ih=>rw [List.replicate_succ,List.flatten_cons,List.length_append,ih,Nat.succ_mul,Nat.add_comm]
theorem B6:eG X (binaryOp .Mult) CA:=by
  intro pins s σ H x y v u Q I rx ry h
  obtain⟨l,k,xs,rfl,rfl,hH,h1,h2,hz,q⟩:=h
  cases rx
  obtain⟨t,rfl⟩:=ry
  obtain⟨z,its,n,r,hl,e⟩:=I.lstM hH
  have hlen:its.toArray.size*k.toNat≤sizeLine:=by rw [List.size_toArray,←hl];exact hz
  have hcap:¬its.toArray.size*k.toNat > (2 ^ 63 - 1) / 8:=by
    have:(sizeLine:Nat)≤(2 ^ 63 - 1) / 8:=by decide
    lia
  have hfit:¬(!Builtin.List.listFitsIndex k)=true:=by
    rw [fitsIndex_both h1 h2]
    exact Bool.false_ne_true
  have hlong:¬Builtin.List.listTooLong (its.toArray.size*k.toNat)=true:=by
    rw [w_ hlen]
    exact Bool.false_ne_true
  have hnew:List.foldl (fun x1 x2=>x1++x2) #[] (List.replicate (if its.toArray.isEmpty=true then 0 else k.toNat) its.toArray)=(List.replicate k.toNat its).flatten.toArray:=by
    have f0:∀m:Nat,List.foldl (fun x1 x2=>x1++x2) #[] (List.replicate m its.toArray)=(List.replicate m its).flatten.toArray:=fun m=>by
      have:=nq its m []
      rw [List.nil_append] at this
      exact this
    rw [f0]
    cases its with
    | nil=>simp
    | cons a r'=>rw [if_neg (by simp)]
  refine wpAny_binaryOp_repeat_ref (T:="list") (U:="int") (by decide) ⟨_,e,rfl⟩ (fun s'=>typeIs_int s' k t) noFill_list_mul F.fills_int_mul F.slot_int_rmul repeat_list F.slot_int_index.lookup
    (call_meets F.slot_int_rmul (typeIs_int s k t) F.entry_int_rmul (F.args_int_rmul_2 _ _) (int___rmul___int_list k t l its.toArray n)
      ⟨e,rfl,⟨_,e,rfl⟩,call_meets F.slot_list_mul ⟨_,e,rfl⟩ F.entry_list_mul (F.args_list_mul_2 _ _) (AutoListH.list___mul___list_int_3 l its.toArray n k t hfit hcap hlong) ⟨e,?_⟩⟩)
  rw [hnew]
  exact⟨.ref _,_,I.lnew (t':=s.toks) (r.rep k.toNat) (by rw [y8,Nat.mul_comm];exact hz),rfl,q _ I.fresh⟩
end
section
variable{prog:Program}{w:World}{A:Around}{E:Value→Shared→Prop}{s:Shared}
end
section
variable{X:Cx}
end
end L2
namespace Att
open PySem PySem.W PySem.Calls PyProof.Rows
theorem lb{P:Params}{h:Heap}:∀(ns:List Int) (vs:List Value),WellAll P h vs (ns.map WData.int)→IntsAre vs ns:=by
  intro ns
  induction ns with
  | nil=>
    intro vs w
    rw [List.map_nil] at w
    cases w
    exact .nil
  | cons n ns ih=>
    intro vs w
    rw [List.map_cons] at w
    cases w with
    | cons a b=>
      cases a
      exact .cons _ _ (ih _ b)
theorem vd{l:OpenLaw}{n:Nat}(hn:l.most=some n){P:Params}{h:Heap}{args:List WData}{vals:List Value}
    (hpre:l.row.toRowW.claim.pre args=true)(hwl:WellAll P h vals args):
    ∃a vs ns,vals=[Value.ref a]∧args=[WData.list (ns.map WData.int)]∧h.get? a=some {cls:=.type "list",data:=.seq vs.toArray}∧IntsAre vs ns∧ns.length≤n:=by
  have hsh:WShape.hasAll [] args [.list .int]=true:=(pre_splitW hpre).1
  have hc:l.pre.holds [] {args:=args}=true:=(pre_splitW hpre).2
  obtain⟨d,r,rfl,h1,h2⟩:=hasAllW_cons hsh
  obtain rfl:=hasAllW_nil h2
  obtain⟨xs,rfl,h3⟩:=hasW_list h1
  obtain⟨ns,rfl⟩:=items_int h3
  have hlen:ns.length≤n:=by
    unfold OpenLaw.pre at hc
    have h4:(WTm.not (.lt (.lit (.int (n:Int))) (.len (.arg 0)))).holds [] {args:=[.list (ns.map .int)]}=true:=by
      have h4:=(holds_andW hc).1
      rw [hn] at h4
      exact h4
    have h5:=condW_of h4 (w_not (w_lt w_lit (w_len_list (w_arg rfl))))
    rw [List.length_map] at h5
    refine Nat.le_of_not_lt fun q=>?_
    have q':(n:Int) < ((ns.length:Nat):Int):=by lia
    first
      | (rw [decide_eq_true q'] at h5;exact absurd h5 (by decide))
      | (simp at h5;lia)
  cases hwl with
  | cons w1 w2=>
    cases w2
    cases w1 with
    | list ho hall=>exact⟨_,_,ns,rfl,rfl,ho,lb ns _ hall,hlen⟩
theorem va(l:OpenLaw)(args:List WData):l.row.toRowW.claim.post args (.bool true) args=true:=
  postW_of (r:=l.row.toRowW) (X:=(true==true))
    (show WShape.has [] (.bool true) .bool=true by first | rfl | decide | simp [WShape.has,WShape.arms,WShape.armsAll])
    (show(WTm.eq .res (.lit (.bool true))).value [] {args:=args,res:=some (.bool true),after:=args}=some (.bool (true==true)) from w_eq_bool (w_res rfl) w_lit) rfl
theorem attach_call{l:OpenLaw}{n:Nat}{q:Program}{loose:List Str}{XP:(Str→Option Value)→Heap→Prop}{YP:World→Heap→Prop}{d:DefRec}
    (hn:l.most=some n)(hdf:d.params.defaults=[])
    (call:∀(w:World) (s₀ s₁:Shared) (mg mb:Str→Option Value) (fa:Addr) (o:Obj) (pm cd doc:Value) (a:Addr) (vs:List Value) (ns:List Int),
      Ground q loose [] XP w s₀ mg mb s₁.heap→YP w s₁.heap→
      s₁.heap.get? fa=some o→o.data=.func (docDef d.name d.params d.body d.scope pm cd doc)→s₁.heap.CodeRec cd d.name→mg d.name=some (.ref fa)→
      s₁.heap.get? a=some {cls:=.type "list",data:=.seq vs.toArray}→IntsAre vs ns→ns.length≤n→s₁.gens=#[]→
      codeAny (model l.prog w) callerA (.call (.ref fa) ⟨[.ref a],[]⟩) (fun r s'=>r=.ok (.ret (.bool true))∧OldK s₁.heap s'.heap∧s'.os=s₁.os∧AllBare s'.gens) s₁):
    WalkO q loose XP YP l.row.toRowW d [] (fun f vs=>PySem.call f vs):=by
  intro w s₀ s₁ mg mb G Y fa o pm cd doc dV kV ho hd hcd hD hmg hg args vals as hpre hlay hrd hwl hlo
  obtain rfl:dV=.none:=Dflts.none hD hdf
  obtain rfl:kV=.none:=Dflts.noKw hD
  obtain⟨a,vs,ns,rfl,rfl,hobj,hints,hlen⟩:=vd hn hpre hwl
  refine enter_call (codeAny_mono (call w s₀ s₁ mg mb fa o pm cd doc a vs ns G Y ho (fd_plain hd) hcd hmg hobj hints hlen hg) fun r s' hq=>?_)
  obtain⟨rfl,h2,h3,h4⟩:=hq
  exact⟨.inl ⟨.bool true,.bool true,[],rfl,fun _=>rfl,.bool true,va l _,fun _=>⟨List.Pairwise.nil,fun _ hm=>(nomatch hm)⟩⟩,h2,h3,h4⟩
section
variable{prog:Program}{w:World}{A:Around}{E:Value→Shared→Prop}{s:Shared}{K:Frag}
end
end Att
namespace L2
open PySem PySem.Spec PyProof.Rows
theorem iV:∀{vs:List Value} {ns:List Int},IntsAre vs ns→aI (ns.map V.int) vs
  | _,_,.nil=>.nil
  | _,_,.cons n t h=>.cons ⟨t,rfl⟩ (iV h)
def Bi(H:Hp):Prop:=∀b,H b=none∨∃o xs,H b=some (.frz o (.lst xs))
theorem wL{P:Program}{w:World}{K:PySem.W.Frag}{mg mb:Str→Option Value}{CX:uy}{k:Nat}{fa a:Addr}{fd:FuncData}{x:Str}{sp:Sp}{s₁:Shared}{vs:List Value}{ns:List Int}
    (KX:K.In s₁.heap)(hns:s₁.heap.Ns mainGlobals mg)(hb:s₁.heap.Ns builtinsNs mb)(hbb:∀x:Str,x≠"__name__"→mb x=bootBuiltins x)(hlim:s₁.heap.NoLimit)(hg:s₁.gens=#[])
    (ha:s₁.heap.get? a=some {cls:=.type "list",data:=.seq vs.toArray})(hi:IntsAre vs ns)(hl:ns.length≤sizeLine)(hr:cz k callerA)
    (F:∀base:Heap,K.In base→base.Ns mainGlobals mg→a9 P w K mg base CX k fa fd [x] sp)(hbind:∀(s:Shared) (u:Value),BindsTo s fd ⟨[u],[]⟩ [(x,u)])
    (hsp:∀H:Hp,Bi H→fm K H a (ns.map V.int)→sp [.ref a] H (fun v _=>v=.bl true) fun _ _ _=>False)
    (hCX:∀H e s',CX [] H s₁ (fun _ _ _=>False) e s'→False):
    codeAny (model P w) callerA (.call (.ref fa) ⟨[.ref a],[]⟩) (fun r s'=>r=.ok (.ret (.bool true))∧OldK s₁.heap s'.heap∧s'.os=s₁.os∧AllBare s'.gens) s₁:=by
  have rv:=iV hi
  have lenV:=hi.length
  have core:∀H:Hp,Bi H→fm K H a (ns.map V.int)→ku P w H s₁.heap→(∀b,H b≠none→b=a)→(H a≠none→K.lookup a=none)→
      codeAny (model P w) callerA (.call (.ref fa) ⟨[.ref a],[]⟩) (fun r s'=>r=.ok (.ret (.bool true))∧OldK s₁.heap s'.heap∧s'.os=s₁.os∧AllBare s'.gens) s₁:=by
    intro H hO hS hok hA hK
    have base_of:∀{b:Addr} {o:Obj},s₁.heap.get? b=some o→H b=none→(oJ s₁.heap H).get? b=some o:=fun e n=>ww e n
    have noA:∀{b:Addr} {o:Obj} {es:Array DictEntry} {ep:Nat},s₁.heap.get? b=some o→o.data=.dict es ep→H b=none:=fun{b o es ep} e d=>by
      cases q:H b with
      | none=>rfl
      | some u=>
        have e':b=a:=hA b (by rw [q];simp)
        subst e'
        rw [ha] at e;cases e
        have d':Data.seq vs.toArray _=Data.dict es ep:=d
        cases d'
    have nsK:∀{b:Addr} {m:Str→Option Value},s₁.heap.Ns b m→(oJ s₁.heap H).Ns b m:=fun{b m} ⟨o,es,ep,e,d,r⟩=>⟨o,es,ep,base_of e (noA e d),d,r⟩
    have hKb:K.In (oJ s₁.heap H):=fun b o e=>base_of (KX b o e) (by
      cases q:H b with
      | none=>rfl
      | some u=>
        have e':b=a:=hA b (by rw [q];simp)
        subst e'
        rw [hK (by rw [q];simp)] at e;cases e)
    have hM:Mod K mg (oJ s₁.heap H):=⟨hKb,nsK hns,⟨mb,nsK hb,hbb⟩,let ⟨mc,h1,h2⟩:=hlim;⟨mc,nsK h1,h2⟩⟩
    have e0:yB P w K mg (oJ s₁.heap H) callerA [] s₁ H:=⟨rfl,hM,fun b o e=>y' e,Nat.le_of_eq (uQ _ _),trivial,fun b hb=>absurd (show b∈([]:List Addr) from hb) (by simp),hok,.of_eq hg⟩
    refine codeAny_mono ((F _ hKb (nsK hns)).run callerA [] s₁ H ⟨[.ref a],[]⟩ [.ref a] [.ref a] _ _ hr e0 (hbind s₁ (.ref a)) (.cons rfl .nil) (hsp H hO hS)) fun r s' h=>?_
    cases r with
    | error e=>exact(hCX H e s' h).elim
    | ok fl=>
      cases fl with
      | next=>exact False.elim h
      | brk=>exact False.elim h
      | cont=>exact False.elim h
      | ret u=>
        obtain⟨v,H',os,bare,un,hok',r',q⟩:=h
        have q':v=.bl true:=q
        subst q'
        obtain rfl:u=Value.bool true:=r'
        refine⟨rfl,OldK.of_keep fun b o e=>?_,os,bare⟩
        cases q:H b with
        | none=>exact un.keep b o e q (by intro z;exact absurd (show b∈([]:List Addr) from z) (by simp)) (by simp)
        | some u=>
          rcases hO b with z | ⟨ob,xs,z⟩
          · rw [q] at z;cases z
          · have z2:=un.frzs b ob _ z
            obtain⟨e1,_⟩:=hok b _ z
            obtain⟨e2,_⟩:=hok' b _ z2
            rw [e] at e1;cases e1
            exact e2
  cases hk:K.lookup a with
  | some o=>
    have e:=KX a o hk
    rw [ha] at e
    cases e
    refine core (fun _=>none) (fun _=>.inl rfl) (.inr ⟨_,vs.toArray,_,hk,rfl,rfl,rfl,by rw [List.size_toArray,lenV];exact hl,by simpa using rv⟩) (fun b u z=>by have z':(none:Option HO)=some u:=z;cases z') (fun b z=>absurd rfl z) fun z=>absurd rfl z
  | none=>
    refine core (fun b=>if b=a then some (.frz {cls:=.type "list",data:=.seq vs.toArray} (.lst (ns.map V.int))) else none) (fun b=>?_) (.inl (.inr ⟨{cls:=.type "list",data:=.seq vs.toArray},if_pos rfl⟩)) (fun b u z=>?_) (fun b z=>?_) fun _=>hk
    · by_cases hb:b=a
      · exact .inr ⟨_,_,if_pos hb⟩
      · exact .inl (if_neg hb)
    · by_cases hb:b=a
      · have z':=(if_pos hb).symm.trans z
        cases z'
        subst hb
        exact⟨ha,by rw [List.length_map];exact hl,vs,_,rv,ha⟩
      · have z':=(if_neg hb).symm.trans z
        cases z'
    · by_cases hb:b=a
      · exact hb
      · exact absurd (if_neg hb) z
end L2
namespace L2
open PySem PySem.Spec PyProof.Rows
theorem walk_of{l:PySem.W.OpenLaw}{n k:Nat}{q:Program}{loose:List Str}{XP:(Str→Option Value)→Heap→Prop}{YP:World→Heap→Prop}{d:DefRec}{K:Params→PySem.W.Frag}{CX:World→uy}{sp:World→Sp}{x:Str}
    (hn:l.most=some n)(hn2:n≤sizeLine)(hdf:d.params.defaults=[])(hr:cz k callerA)
    (hY:∀(w:World) (h:Heap),YP w h→(K w.params).In h)
    (F:∀(w:World) (mg:Str→Option Value) (fa:Addr) (h:Heap),(K w.params).In h→h.Ns mainGlobals mg→mg d.name=some (.ref fa)→
      ∃fd:FuncData,(∀(s:Shared) (u:Value),BindsTo s fd ⟨[u],[]⟩ [(x,u)])∧
        ∀base:Heap,(K w.params).In base→base.Ns mainGlobals mg→a9 l.prog w (K w.params) mg base (CX w) k fa fd [x] (sp w))
    (hsp:∀(w:World) (H:Hp) (a:Addr) (ns:List Int),ns.length≤n→Bi H→fm (K w.params) H a (ns.map V.int)→sp w [.ref a] H (fun v _=>v=.bl true) fun _ _ _=>False)
    (hCX:∀(w:World) (H:Hp) (s:Shared) (e:Value) (s':Shared),CX w [] H s (fun _ _ _=>False) e s'→False):
    PySem.W.WalkO q loose XP YP l.row.toRowW d [] (fun f vs=>PySem.call f vs):=by
  refine Att.attach_call hn hdf fun w s₀ s₁ mg mb fa o pm cd doc a vs ns G Y ho hd hcd hmg hobj hints hlen hg=>?_
  have KX:=hY w _ Y
  obtain⟨fd,hb,hF⟩:=F w mg fa _ KX G.T.g hmg
  exact wL KX G.T.g G.T.b G.T.builtins G.T.nolimit hg hobj hints (Nat.le_trans hlen hn2) hr hF hb (fun H hO hS=>hsp w H a ns hlen hO hS) fun H e s'=>hCX w H s₁ e s'
end L2
namespace L2
open PySem PySem.Spec PyProof.Rows
def dB(s:Stmt):Arguments:=match s with
  | .FunctionDef _ a _ _ _ _ _ _ _ _=>a
  | _=>{posonlyargs:=[],args:=[],vararg:=none,kwonlyargs:=[],kw_defaults:=[],kwarg:=none,defaults:=[]}
def cH(s:Stmt):List Stmt:=match s with
  | .FunctionDef _ _ b _ _ _ _ _ _ _=>b
  | _=>[]
def ap(s:Stmt):Scope:=match s with
  | .FunctionDef _ _ _ _ _ _ sc _ _ _=>sc
  | _=>{kind:=.function,names:=[],isGenerator:=false,isCoroutine:=false}
abbrev du:uy:=fun _ _ _ _ _ _=>False
abbrev E0:XK:=fun _ _ _=>False
theorem Ei{X:Cx}:rD du X E0:=fun _ _ _ _ _ _ _ h=>h.elim
structure C7 (K:PySem.W.Frag) (x qual:Str) (st:Stmt) (f:Addr) (fd:FuncData):Prop where
  ex:∃(oc:Value) (od:Option Addr) (kV doc pm:Value) (an:Option Addr) (cdv ct:Value) (osl:Array (Option Value)),
    fd=PySem.W.fnOf x qual (dB st) (cH st) (ap st) .none kV doc pm an cdv ct∧K.lookup f=some ⟨oc,od,.func fd,osl⟩∧PySem.W.codeIn K cdv qual=true
  kp:PySem.W.keepIn K (.ref f)=true
section
variable{P:Program}{w:World}{K:PySem.W.Frag}{mg:Str→Option Value}{base:Heap}
theorem C7.ok{x qual:Str}{st:Stmt}{f:Addr}{fd:FuncData}{N ps:List Str}{k:Nat}{sp:Sp}(F:C7 K x qual st f fd)(S:aU N ps (ap st))(len:∀vs H Q E,sp vs H Q E→vs.length=ps.length)
    (hbody:∀(cdv:Value) (A:Around) (outer:List Env) (s:Shared) (H:Hp) (vs:List V) (Q:VK) (E:XK),cz k (A.deeper (envOfC qual (ap st) s.heap.objs.size f cdv))→sp vs H Q E→
      ∃t,k_ (rQ du P w K mg base N qual (ap st) f cdv A outer s H E).nox (cH st) t∧t {nx:=fun _ H'=>Q .non H',rt:=Q} (eQ N vs) H):a9 P w K mg base du (k+1) f fd ps sp:=by
  obtain⟨oc,od,kV,doc,pm,an,cdv,ct,osl,rfl,lk,hcd⟩:=F.ex
  refine DH lk hcd S len fun A outer s H vs Q E hr hsp=>?_
  obtain⟨t,h,q⟩:=hbody cdv A outer s H vs Q E hr hsp
  exact⟨t,h.nox,q⟩
theorem C7.binds{x qual:Str}{st:Stmt}{f:Addr}{fd:FuncData}{ps:List Str}(F:C7 K x qual st f fd)
    (h:∀(kV doc pm:Value) (an:Option Addr) (cdv ct:Value) (us:List Value),us.length=ps.length→bindArgs (PySem.W.fnOf x qual (dB st) (cH st) (ap st) .none kV doc pm an cdv ct) ⟨us,[]⟩=pure (ps.zip us)):mV K fd ps []:=by
  obtain⟨oc,od,kV,doc,pm,an,cdv,ct,osl,rfl,lk,hcd⟩:=F.ex
  exact .all (h kV doc pm an cdv ct)
theorem vZ{x qual:Str}{st:Stmt}{f:Addr}{oc:Value}{od an:Option Addr}{osl:Array (Option Value)}{kV doc pm cdv ct:Value}(l:K.lookup f=some ⟨oc,od,.func (PySem.W.fnOf x qual (dB st) (cH st) (ap st) .none kV doc pm an cdv ct),osl⟩)
    (c:PySem.W.codeIn K cdv qual=true)(k:PySem.W.keepIn K (.ref f)=true):C7 K x qual st f (PySem.W.fnOf x qual (dB st) (cH st) (ap st) .none kV doc pm an cdv ct):=⟨⟨oc,od,kV,doc,pm,an,cdv,ct,osl,rfl,l,c⟩,k⟩
end
theorem nR{n:Nat}(h:n≤1000):n < sizeLine:=Nat.lt_of_le_of_lt h (by decide)
section
variable{X:Cx}
end
theorem yY{A B:Prop}(h:B):if false=true then A else B:=by
  rw [if_neg Bool.false_ne_true]
  exact h
theorem yZ{A B:Prop}(h:A):if true=true then A else B:=by
  rw [if_pos rfl]
  exact h
def av(H H':Hp):Prop:=∀b o,H b=some o→H' b=some o
theorem av.refl(H:Hp):av H H:=fun _ _ h=>h
theorem av.trans{H H1 H2:Hp}(a:av H H1)(b:av H1 H2):av H H2:=fun c o h=>b c o (a c o h)
theorem av.free{H H':Hp}(e:av H H'){l:Addr}(h:H' l=Option.none):H l=Option.none:=by
  cases q:H l with
  | none=>rfl
  | some o=>
    rw [e l o q] at h
    cases h
theorem av.seq{K:PySem.W.Frag}{H H':Hp}{a:Addr}{xs:List V}(e:av H H')(h:fm K H a xs):fm K H' a xs:=by
  rcases h with (h | ⟨o,h⟩) | h
  · exact .inl (.inl (e _ _ h))
  · exact .inl (.inr ⟨o,e _ _ h⟩)
  · exact .inr h
end L2
set_option maxHeartbeats 4000000
namespace L2
open PySem PySem.Spec PyProof.Rows
def Bt(n:Nat)(i:Int):Prop:=i.natAbs < 2 ^ n
theorem Bt.mono{m n:Nat}{i:Int}(h:Bt m i)(hm:m≤n):Bt n i:=Nat.lt_of_lt_of_le h (Nat.pow_le_pow_right (by decide) hm)
theorem Bt.log{m:Nat}{i:Int}(h:Bt m i)(hm:0 < m):i.natAbs.log2 < m:=by
  unfold Bt at h
  rcases Nat.eq_zero_or_pos i.natAbs with h0 | hp
  · rw [h0];exact hm
  · exact(Nat.log2_lt (by lia)).mpr h
theorem Bt.bits{m:Nat}{i:Int}(h:Bt m i)(hm:0 < m):Builtin.Int.intBits i≤m:=by
  unfold Builtin.Int.intBits
  split
  · exact Nat.zero_le _
  · exact h.log hm
theorem Bt.of_le{m:Nat}{i:Int}{j:Int}(h:Bt m j)(e:i.natAbs≤j.natAbs):Bt m i:=Nat.lt_of_le_of_lt e h
section
variable{X:Cx}
def Ao(i j:Int):Prop:=Bt 4000 i∧Bt 4000 j
theorem zr:eG X (binaryOp .Mult) (rI Ao fun i j=>.int (i*j)):=Ec fun _ _ _ _ _ _ _ hc q=>
  mul_int q (.of_bits (Nat.le_trans (hc.1.bits (by decide)) (by decide)) (Nat.le_trans (hc.2.bits (by decide)) (by decide)))
def An(i j:Int):Prop:=j≠0∧Bt 8000 j
theorem xg:eG X (binaryOp .FloorDiv) (rI An fun i j=>.int (i.fdiv j)):=Ec fun _ _ _ _ _ _ _ hc q=>
  floordiv_int hc.1 q (.inl (PyProof.noPylong_of_log2 (Nat.lt_trans (hc.2.log (by decide)) (by decide))))
theorem B1:eG X (compareOp .Is) (fun x y H Q=>∃b c,x=.bl b∧y=.bl c∧Q (.bl (b==c)) H):=by
  intro pins s σ H x y v u Q I rx ry h
  obtain⟨b,c,rfl,rfl,q⟩:=h
  cases rx;cases ry
  exact is_bool ⟨.bl _,H,I,rfl,q⟩
end
def kx(H H':Hp):Prop:=∀a o,H a=some o→(∀xs,o≠.lst xs)→(∀ob xs,o≠.frz ob (.lst xs))→H' a=some o
theorem kx.trans{H H1 H2:Hp}(a:kx H H1)(b:kx H1 H2):kx H H2:=fun c o h n m=>b c o (a c o h n m) n m
theorem av.ts{H H':Hp}(h:av H H'):kx H H':=fun a o e _ _=>h a o e
theorem kx.tup{K:PySem.W.Frag}{H H':Hp}(h:kx H H'){a:Addr}{xs:List V}(q:cZ K H a xs):cZ K H' a xs:=by
  rcases q with (q | ⟨o,q⟩) | q
  · exact .inl (.inl (h _ _ q (fun _ e=>nomatch e) (fun _ _ e=>nomatch e)))
  · exact .inl (.inr ⟨o,h _ _ q (fun _ e=>nomatch e) (fun _ _ e=>nomatch e)⟩)
  · exact .inr q
section
variable{X:Cx}
end
end L2
namespace L2
open PySem PySem.Spec PyProof.Rows
structure bX (K:PySem.W.Frag) (mg:Str→Option Value) (x:Str) (st:Stmt) (f:Addr) (fd:FuncData) (ps:List Str):Prop where
  F:C7 K x x st f fd
  m:mg x=some (.ref f)
  b:mV K fd ps []
theorem BB{K:PySem.W.Frag}{mg:Str→Option Value}{h:Heap}{x:Str}{st:Stmt}{f:Addr}{ps:List Str}{oc:Value}{od an:Option Addr}{osl:Array (Option Value)}{kV doc pm cdv ct:Value}(X:K.In h)(G:h.Ns mainGlobals mg)(a:PySem.W.nsIn K mainGlobals x=some (some (.ref f)))
    (l:K.lookup f=some ⟨oc,od,.func (PySem.W.fnOf x x (dB st) (cH st) (ap st) .none kV doc pm an cdv ct),osl⟩)(c:PySem.W.codeIn K cdv x=true)(k:PySem.W.keepIn K (.ref f)=true)
    (hb:∀(kV doc pm:Value) (an:Option Addr) (cdv ct:Value) (us:List Value),us.length=ps.length→bindArgs (PySem.W.fnOf x x (dB st) (cH st) (ap st) .none kV doc pm an cdv ct) ⟨us,[]⟩=pure (ps.zip us)):
    bX K mg x st f (PySem.W.fnOf x x (dB st) (cH st) (ap st) .none kV doc pm an cdv ct) ps:=⟨vZ l c k,PySem.W.mg_of X G a,(vZ l c k).binds hb⟩
theorem FZ{X:Cx}{x:Str}{st:Stmt}{f:Addr}{fd:FuncData}{ps:List Str}{k:Nat}{sp:Sp}{e:Expr}{es:List Expr}{t:TA}{p pos:Pos}(h:bX X.K X.mg x st f fd ps)(G:a9 X.prog X.w X.K X.mg X.base du k f fd ps sp)(hr:cz k X.A)(ha:PA X (e::es) t)
    (hg:Gl X x:=by rfl)(hdb:(x==("__debug__":Str))=false:=by decide)(he:starEach (e::es) X.env=(false,eval e X.env)::starEach es X.env:=by rfl)(hpl:(backTo pos (starEach es X.env)).any (·.1)=false:=by rfl):
    PE X (.Call (.Name x p) (e::es) [] pos) (yi sp [] E0 t):=zv G hr hg h.m h.F.kp h.b .nil Ei ha hdb he hpl
theorem av.new{H:Hp}{p:Addr}{o:HO}(h:H p=none):av H (aV H p o):=fun b u e=>by
  rw [ax (dX e h)];exact e
theorem av.tup{K:PySem.W.Frag}{H H':Hp}{a:Addr}{xs:List V}(e:av H H')(h:cZ K H a xs):cZ K H' a xs:=e.ts.tup h
end L2
namespace L2
open PySem PySem.Spec PyProof.Rows
def eI(t b:Int):Int × Int:=if b < 0 then(t.fdiv (-(Int.gcd t b:Int)),b.fdiv (-(Int.gcd t b:Int))) else(t.fdiv (Int.gcd t b:Int),b.fdiv (Int.gcd t b:Int))
theorem wq(x y:Int):Int.gcd y (x.fmod y)=Int.gcd x y:=by
  rw [Int.fmod_def,Int.gcd_sub_mul_left_right,Int.gcd_comm]
theorem kO(x:Int){y:Int}(h:y≠0):(x.fmod y).natAbs < y.natAbs:=by
  rcases Int.lt_or_gt_of_ne h with h | h
  · have h1:x.fmod y= -((-x).fmod (-y)):=by
      have:=Int.neg_fmod_neg x y
      lia
    have h2:=Int.fmod_nonneg_of_pos (-x) (b:= -y) (by lia)
    have h3:=Int.fmod_lt_of_pos (-x) (b:= -y) (by lia)
    lia
  · have h2:=Int.fmod_nonneg_of_pos x h
    have h3:=Int.fmod_lt_of_pos x h
    lia
theorem tQ{t b:Int}(h:b≠0):(0:Int) < Int.gcd t b:=by
  have:=Int.gcd_pos_of_ne_zero_right t h
  lia
theorem nG{t b:Int}(h:b≠0):∃d:Int,d.natAbs=Int.gcd t b∧d≠0∧(eI t b).1*d=t∧(eI t b).2*d=b∧0 < (eI t b).2:=by
  have hg:=tQ (t:=t) h
  have d1:(Int.gcd t b:Int) ∣ t:=Int.gcd_dvd_left ..
  have d2:(Int.gcd t b:Int) ∣ b:=Int.gcd_dvd_right ..
  unfold eI
  split
  · rename_i hb
    have e1:t.fdiv (-(Int.gcd t b:Int))*(-(Int.gcd t b:Int))=t:=Int.fdiv_mul_cancel (Int.neg_dvd.mpr d1)
    have e2:b.fdiv (-(Int.gcd t b:Int))*(-(Int.gcd t b:Int))=b:=Int.fdiv_mul_cancel (Int.neg_dvd.mpr d2)
    refine⟨-(Int.gcd t b:Int),by lia,by lia,e1,e2,?_⟩
    show 0 < b.fdiv (-(Int.gcd t b:Int))
    have h3:b.fdiv (-(Int.gcd t b:Int))*(Int.gcd t b:Int)= -b:=by rw [Int.mul_neg] at e2;lia
    exact Int.pos_of_mul_pos_left (by lia) (by lia) (b:=(Int.gcd t b:Int))
  · rename_i hb
    have e1:t.fdiv (Int.gcd t b:Int)*(Int.gcd t b:Int)=t:=Int.fdiv_mul_cancel d1
    have e2:b.fdiv (Int.gcd t b:Int)*(Int.gcd t b:Int)=b:=Int.fdiv_mul_cancel d2
    refine⟨(Int.gcd t b:Int),by lia,by lia,e1,e2,?_⟩
    show 0 < b.fdiv (Int.gcd t b:Int)
    exact Int.pos_of_mul_pos_left (by lia) (by lia) (b:=(Int.gcd t b:Int))
theorem wQ{t b:Int}(h:b≠0):Int.gcd (eI t b).1 (eI t b).2=1:=by
  obtain⟨d,h1,h2,h3,h4,h5⟩:=nG (t:=t) h
  have e:Int.gcd ((eI t b).1*d) ((eI t b).2*d)=Int.gcd (eI t b).1 (eI t b).2*d.natAbs:=Int.gcd_mul_right ..
  rw [h3,h4,←h1] at e
  have hd:0 < d.natAbs:=by lia
  exact(Nat.eq_of_mul_eq_mul_right hd (by rw [Nat.one_mul];exact e)).symm
theorem Bx{t b:Int}(h:b≠0){n:Nat}(hb:Bt n b):Bt n (Int.gcd t b:Int):=by
  refine hb.of_le ?_
  have h1:=Nat.le_of_dvd (show 0 < b.natAbs by lia) (Int.ofNat_dvd.mp (by rw [Int.dvd_natAbs];exact Int.gcd_dvd_right t b))
  lia
mutual
def cnt:PyData→Nat
  | .tuple ds=>1+i_ ds
  | .str _=>0
  | _=>1
def i_:List PyData→Nat
  | []=>0
  | d::ds=>cnt d+i_ ds
end
mutual
def l9:PyData→Bool
  | .tuple ds=>gD ds
  | .str _=>false
  | .list _=>false
  | .dict _=>false
  | _=>true
def gD:List PyData→Bool
  | []=>true
  | d::ds=>l9 d&&gD ds
end
theorem mQ{a:Int}(h:a.natAbs.log2 < 1920):(Str.ofString (toString a)).length≤1921:=by
  have e:=int_text_length_le (k:=1920) (by decide) h
  rw [PySem.ofString_length];lia
theorem gZ(x:Str)(r:List Str):piled (x::r)=x.length+2+piled r:=by
  simp [piled]
theorem km(ts:List Str):(tupleText ts).length≤piled ts+3:=by
  unfold tupleText
  rw [strLen_append,strLen_append]
  have h1:(("(":Str)).length=1:=by decide
  have h2:(Str.ofString (if (ts.length==1)=true then ",)" else ")")).length≤2:=by split<;>decide
  have h3:(Str.join ", " ts).length≤piled ts:=by
    cases ts with
    | nil=>show(Str.join ", " []).length≤0;decide
    | cons x r=>have:=join_length_add (x::r) (by simp);lia
  lia
mutual
theorem nQ:∀{d:PyData},l9 d=true→d.showable=true→d.shown.length+2≤2000*cnt d
  | .none,_,_=>by show(Str.ofString "None").length+2≤2000*1;decide
  | .bool b,_,_=>by
    cases b
    · show(Str.ofString "False").length+2≤2000*1;decide
    · show(Str.ofString "True").length+2≤2000*1;decide
  | .int i,_,hs=>by
    simp only [PyData.showable,decide_eq_true_eq] at hs
    have:=mQ hs
    show(Str.ofString (toString i)).length+2≤2000*1
    lia
  | .tuple ds,hn,hs=>by
    simp only [PyData.showable] at hs
    simp only [l9] at hn
    have h1:=jW hn hs
    have h2:=km (PyData.shownAll ds)
    simp only [PyData.shown,cnt]
    lia
  | .str _,hn,_=>by simp [l9] at hn
  | .list _,hn,_=>by simp [l9] at hn
  | .dict _,hn,_=>by simp [l9] at hn
theorem jW:∀{ds:List PyData},gD ds=true→PyData.showableAll ds=true→piled (PyData.shownAll ds)≤2000*i_ ds
  | [],_,_=>by simp [PyData.shownAll,piled]
  | d::ds,hn,hs=>by
    simp only [gD,Bool.and_eq_true] at hn
    simp only [PyData.showableAll,Bool.and_eq_true] at hs
    have h1:=nQ hn.1 hs.1
    have h2:=jW hn.2 hs.2
    simp only [PyData.shownAll,i_,gZ]
    lia
end
end L2
namespace L2
open PySem PySem.Spec PyProof.Rows
def fw(env:Env):List (Str × NameKind)→List (Str × Addr)→List (Str × Addr)
  | [],cs=>cs
  | (n,k)::r,cs=>fw env r (if k==.free then(n,(env.cells.lookup n).getD 0)::cs else cs)
theorem jp{env:Env}:∀(names:List (Str × NameKind)) (cs:List (Str × Addr)),(∀y∈names,y.2=.free→∃c,env.cells.lookup y.1=some c)→
    (forIn names cs (fun(x:Str × NameKind) (r:List (Str × Addr))=>(if (x.2==NameKind.free)=true then do let a ←cellOf env x.1;pure (ForInStep.yield ((x.1,a)::r)) else pure (ForInStep.yield r):Sem (ForInStep (List (Str × Addr))))):Sem (List (Str × Addr)))=pure (fw env names cs)
  | [],cs,_=>rfl
  | (n,k)::r,cs,h=>by
    rw [List.forIn_cons]
    have ih:=fun cs'=>jp (env:=env) r cs' (fun y hy=>h y (List.mem_cons_of_mem _ hy))
    by_cases hk:(k==NameKind.free)=true
    · have hk':k=.free:=by simpa using hk
      obtain⟨c,hc⟩:=h (n,k) List.mem_cons_self hk'
      have e:cellOf env n=pure c:=by unfold cellOf;rw [hc]
      simp only [hk,if_true,e,pure_bind,fw,hc,Option.getD_some]
      exact ih _
    · have hk':(k==NameKind.free)=false:=by simpa using hk
      simp only [hk',Bool.false_eq_true,if_false,pure_bind,fw]
      exact ih _
theorem i9{scope:Scope}{env:Env}(h:∀y∈scope.names,y.2=.free→∃c,env.cells.lookup y.1=some c):closureFor scope env=pure (fw env scope.names []):=by
  have e:=jp (env:=env) scope.names [] h
  unfold closureFor
  simp only [pure_bind,bind_pure] at e ⊢
  exact e
theorem gO{env:Env}:∀(names:List (Str × NameKind)) (cs:List (Str × Addr)) (x:Str) (c:Addr),(∀y∈names,y.2=.free→∃c,env.cells.lookup y.1=some c)→(∀x c,cs.lookup x=some c→env.cells.lookup x=some c)→(fw env names cs).lookup x=some c→env.cells.lookup x=some c
  | [],cs,x,c,_,hs,h=>hs x c h
  | (n,k)::r,cs,x,c,hn,hs,h=>by
    refine gO r _ x c (fun y hy=>hn y (List.mem_cons_of_mem _ hy)) (fun x' c' e=>?_) h
    by_cases hk:(k==NameKind.free)=true
    · rw [if_pos hk] at e
      obtain⟨c0,hc⟩:=hn (n,k) List.mem_cons_self (by simpa using hk)
      rw [List.lookup_cons] at e
      cases hx:x'==n with
      | true=>
        rw [hx] at e
        have e1:x'=n:=by simpa using hx
        subst e1
        simp only [hc,Option.getD_some,Option.some.injEq] at e
        rw [←e];exact hc
      | false=>rw [hx] at e;exact hs x' c' e
    · rw [if_neg hk] at e
      exact hs x' c' e
theorem jo{env:Env}:∀(names:List (Str × NameKind)) (cs:List (Str × Addr)) (x:Str),((∃y∈names,y.1=x∧y.2=.free)∨∃c,cs.lookup x=some c)→∃c,(fw env names cs).lookup x=some c
  | [],cs,x,h=>by
    rcases h with ⟨y,hy,_⟩ | h
    · cases hy
    · exact h
  | (n,k)::r,cs,x,h=>by
    refine jo r _ x ?_
    by_cases hk:(k==NameKind.free)=true
    · rw [if_pos hk,List.lookup_cons]
      cases hx:x==n with
      | true=>exact .inr ⟨_,rfl⟩
      | false=>
        rcases h with ⟨y,hy,e1,e2⟩ | h
        · rcases List.mem_cons.mp hy with z | z
          · subst z;subst e1;simp at hx
          · exact .inl ⟨y,z,e1,e2⟩
        · exact .inr h
    · rw [if_neg hk]
      rcases h with ⟨y,hy,e1,e2⟩ | h
      · rcases List.mem_cons.mp hy with z | z
        · subst z;exact absurd (by simpa using e2) hk
        · exact .inl ⟨y,z,e1,e2⟩
      · exact .inr h
theorem b6{env:Env}:∀{names:List (Str × NameKind)} {x:Str},(∀y∈names,y.2≠.cell)→(names.map fun(n,k)=>if (k==NameKind.free&&env.scope.kind==.function&&env.kindOf n==some .cell) then(n,NameKind.cell) else(n,k)).lookup x=some .cell∨
    (names.map fun(n,k)=>if (k==NameKind.free&&env.scope.kind==.function&&env.kindOf n==some .cell) then(n,NameKind.cell) else(n,k)).lookup x=some .free→∃y∈names,y.1=x∧y.2=.free
  | [],x,_,h=>by simp at h
  | (n,k)::r,x,hc,h=>by
    have ih:=@b6 env r x (fun y hy=>hc y (List.mem_cons_of_mem _ hy))
    have nc:k≠.cell:=hc (n,k) List.mem_cons_self
    rw [List.map_cons] at h
    cases hx:x==n with
    | true=>
      have e1:x=n:=by simpa using hx
      subst e1
      refine⟨(x,k),List.mem_cons_self,rfl,?_⟩
      by_cases q:(k==NameKind.free&&env.scope.kind==.function&&env.kindOf x==some .cell)=true
      · simp only [Bool.and_eq_true,beq_iff_eq] at q;exact q.1.1
      · simp only [q,Bool.false_eq_true,if_false,List.lookup_cons,beq_self_eq_true,Option.some.injEq] at h
        rcases h with h | h
        · exact absurd h nc
        · exact h
    | false=>
      have e2:∀(l:List (Str × NameKind)),((if (k==NameKind.free&&env.scope.kind==.function&&env.kindOf n==some .cell)=true then(n,NameKind.cell) else(n,k))::l).lookup x=l.lookup x:=fun l=>by
        split<;>simp [List.lookup_cons,hx]
      simp only [e2] at h
      obtain⟨y,hy,z⟩:=ih h
      exact⟨y,List.mem_cons_of_mem _ hy,z⟩
theorem de{env:Env}:∀{names:List (Str × NameKind)} {x:Str},names.lookup x=some .free→
    (names.map fun(n,k)=>if (k==NameKind.free&&env.scope.kind==.function&&env.kindOf n==some .cell) then(n,NameKind.cell) else(n,k)).lookup x≠some .local
  | [],x,h=>by simp at h
  | (n,k)::r,x,h=>by
    rw [List.map_cons]
    cases hx:x==n with
    | true=>
      simp only [hx,List.lookup_cons] at h
      cases h
      show List.lookup x ((if (NameKind.free==NameKind.free&&env.scope.kind==.function&&env.kindOf n==some .cell)=true then(n,NameKind.cell) else(n,NameKind.free))::_)≠_
      split<;>simp [List.lookup_cons,hx]
    | false=>
      simp only [hx,List.lookup_cons] at h
      have ih:=@de env r x h
      have e2:∀(l:List (Str × NameKind)),((if (k==NameKind.free&&env.scope.kind==.function&&env.kindOf n==some .cell)=true then(n,NameKind.cell) else(n,k))::l).lookup x=l.lookup x:=fun l=>by
        split<;>simp [List.lookup_cons,hx]
      simp only [e2]
      exact ih
def ar(X:Cx)(scope:Scope)(cp:List (Nat × Str))(tgN:List Str)(C:Addr)(s0:Shared)(H0:Hp)(fp:List Addr):Cx where
  prog:=X.prog
  w:=X.w
  K:=X.K
  mg:=X.mg
  base:=X.base
  A:=X.A
  N:=cp.map (·.2)++tgN
  s₀:=s0
  H₀:=H0
  env:=compEnvC scope (fw X.env scope.names []) C X.env
  outer:=X.stack
  stack:=X.stack
  ex:=fp
  fn:=fun x=>scope.names.lookup x==some .local
  calm:=X.calm
  pn:=[]
  xe:=fun _ _=>False
def rB(X:Cx)(ifs:List Expr)(t:TT):Prop:=
  ∀(pins:List (Addr × Obj)) (s:Shared) (σ:L2.St) (H:Hp) (Q:Bool→Hp→Prop),az X pins σ H s→t σ H Q→
    wpAny (model X.prog X.w) X.A (forIn ifs true fun c r=>if r=true then do let ok ←isTrue c X.env (eval c X.env);pure (ForInStep.yield ok) else pure (ForInStep.yield r)) (TP X pins σ Q) X.xe s
theorem zL{X:Cx}:rB X [] (fun _ H Q=>Q true H):=fun _ _ _ H _ I h=>wpAny_tests_nil ⟨H,I,h⟩
theorem zM{X:Cx}{c:Expr}{t:TT}(h:PT X c t):rB X [c] t:=fun pins s σ H Q I q=>wpAny_tests_one (h pins s σ H Q I q)
abbrev tV:Value→Shared→Prop:=fun _ _=>False
def vM(prog:Program)(w:World)(A:Around)(elt tg:Expr)(ifs:List Expr)(env:Env)(it acc:Value)(onward:Shared→Prop)(v:Value)(u:Shared):Prop:=
  wpAny (model prog w) A (letOwnedTupleGo tg it v) (fun _ u1=>wpAny (model prog w) A (assign tg env v) (fun _ u2=>wpAny (model prog w) A
    (forIn ifs true fun c r=>if r=true then do let ok ←isTrue c env (eval c env);pure (ForInStep.yield ok) else pure (ForInStep.yield r)) (fun ok u3=>if ok=true then wpAny (model prog w) A (eval elt env) (fun x u4=>wpAny (model prog w) A (call (.builtin "list.append") [acc,x]) (fun _ u5=>onward u5) tV u4) tV u3 else onward u3) tV u2) tV u1) tV u
theorem jq{prog:Program}{w:World}{A:Around}{R:Result→Shared→Prop}{elt tg iter:Expr}{ifs:List Expr}{scope:Scope}{pos:Pos}{it acc:Value}{env:Env}(J:Nat→Shared→Prop)
    (turn:∀n u,J n u→wpAny (model prog w) A (pyNext it) (fun r u1=>(r=none→R (.ok .next) u1)∧∀v,r=some v→vM prog w A elt tg ifs env it acc (fun u2=>∃m,m < n∧J m u2) v u1) tV u){n0:Nat}{u0:Shared}(eQ:J n0 u0):
    codeAny (model prog w) A (.compLoop (.ListComp elt [⟨tg,iter,ifs,0⟩] scope pos) 0 it acc env) R u0:=by
  refine codeAny_loop rfl J (fun n u ju=>?_) n0 eQ
  show wpAny _ A ((compTurn (.ListComp elt [⟨tg,iter,ifs,0⟩] scope pos) 0 it acc env).onRaise _) _ _ u;refine wpAny_noted ?_;rw [compTurn_list]
  refine wpAny_bind (wpAny_standAt (wpAny_bind (wpAny_mono (turn n u ju) (fun r u1 k1=>?_) fun _ _ z=>z.elim)))
  cases r with
  | none=>exact wpAny_pure (k1.1 rfl)
  | some v=>
    refine wpAny_bind (wpAny_mono (k1.2 v rfl) (fun _ u2 k2=>wpAny_bind (wpAny_mono k2 (fun _ u3 k3=>wpAny_bind (wpAny_mono k3 (fun ok u4 k4=>?_) fun _ _ z=>z.elim)) fun _ _ z=>z.elim)) fun _ _ z=>z.elim)
    cases ok with
    | false=>rw [if_neg Bool.false_ne_true] at k4;exact wpAny_pure ⟨rfl,k4⟩
    | true=>
      rw [if_pos rfl] at k4
      refine wpAny_bind (wpAny_bind (wpAny_mono k4 (fun x u5 k5=>wpAny_bind (wpAny_mono k5 (fun _ u6 k6=>?_) fun _ _ z=>z.elim)) fun _ _ z=>z.elim));exact wpAny_pure (wpAny_pure ⟨rfl,k6⟩)
def dN(cp:List (Nat × Str))(nT:Nat)(σ:L2.St):L2.St:=cp.map (fun p=>(σ[p.1]?).join)++List.replicate nT none
structure uj (cp:List (Nat × Str)) (nT:Nat) (wi:TI) (g:TG) (tc:TT) (te:TE) (σ:L2.St) (H:Hp) (Q:VK):Prop where
  go:wi σ H fun J H1=>∀l,H1 l=none→
  ∃W:Nat→Nat→L2.St→Hp→Prop,(∃m,W 0 m (dN cp nT σ) (aV H1 l (.lst [])))∧∀i m σ' H',W i m σ' H'→
    (J.stop i H'∧Q (.ref l) H')∨(J.go i H'∧∃N:L2.St→Hp→Prop,(∀σ2 H2,N σ2 H2→∃m',m' < m∧W (i+1) m' σ2 H2)∧
      ∀x H2,J.yld i H' x H2→g x σ' H2 fun σ2 H3=>tc σ2 H3 fun b H4=>if b=true then te σ2 H4 fun v H5=>∃ys,H5 l=some (.lst ys)∧ys.length < sizeLine∧N σ2 (aV H5 l (.lst (ys++[v]))) else N σ2 H4)
theorem zx{X:Cx}{elt iter tg:Expr}{ifs:List Expr}{scope:Scope}{pos:Pos}{wi:TI}{g:TG}{tc:TT}{te:TE}(sc0:Scope)(N0:List Str)(cp:List (Nat × Str))(tgN:List Str)
    (hc:X.calm=true)(hsc:X.env.scope=sc0)(hN0:X.N=N0)(hi:PI X tg iter wi)
    (hg:∀C s0 H0 fp,PG (ar X scope cp tgN C s0 H0 fp) tg g)
    (ht:∀C s0 H0 fp,rB (ar X scope cp tgN C s0 H0 fp) ifs tc)
    (he:∀C s0 H0 fp,PE (ar X scope cp tgN C s0 H0 fp) elt te)
    (hk:scope.kind=.function)(hcell:∀y∈scope.names,y.2≠.cell)(hnames:∀y∈scope.names,y.2=.local→scope.names.lookup y.1=some .local)
    (hfr:∀y∈scope.names,y.2=.free→scope.names.lookup y.1=some .free∧sc0.names.lookup y.1=some .cell)
    (hcp:∀p∈cp,N0[p.1]?=some p.2)(hcq:∀p∈cp,sc0.names.lookup p.2=some .cell∧scope.names.lookup p.2=some .free)
    (hs:∀x,foldedSetIterable iter X.env x=pure x:=by intro _;rfl):
    PE X (.ListComp elt [⟨tg,iter,ifs,0⟩] scope pos) (uj cp tgN.length wi g tc te):=by
  intro pins s σ H Q I h
  have hkind:∀x,X.env.kindOf x=sc0.names.lookup x:=fun x=>by unfold Env.kindOf;rw [hsc]
  have hfree:∀y∈scope.names,y.2=.free→∃c,X.env.cells.lookup y.1=some c:=fun y hy e=>I.ok.has y.1 (.inl (by rw [hkind];exact(hfr y hy e).2))
  rw [eval_ListComp]
  refine wpAny_comprehension_free (use:=none) rfl hs (i9 hfree) hk hnames (wpAny_mono (hi pins s σ H _ I h.go) (fun xv s₁ h₁=>wpAny_mono h₁ (fun itv s₂ h₂=>?_) fun _ _ e=>e) fun _ _ e=>e)
  obtain⟨it,fp,tn,J,H2,rfl,I2,T,st2,f2,hq⟩:=h₂
  refine wpAny_newObj_type ?_
  have hlF:H2 s₂.heap.objs.size=none:=I2.hok.fresh (Nat.le_refl _)
  have I3:az X pins σ (aV H2 s₂.heap.objs.size (.lst [])) {s₂ with heap:=s₂.heap.push {cls:=.type "list",data:=.seq ([]:List Value).toArray}}:=I2.lnew (t':=s₂.toks) .nil (Nat.zero_le _)
  obtain⟨W,⟨m0,w0⟩,turn⟩:=hq _ hlF
  have f3:∀b∈fp,gv X pins (aV H2 s₂.heap.objs.size (.lst [])) b:=fun b hb=>by
    obtain⟨f0,fr⟩:=f2 b hb
    obtain⟨o,ho,_⟩:=T.obj _ _ st2 b hb
    exact⟨by rw [ax (Nat.ne_of_lt (Heap.lt_size ho))];exact f0,fr⟩
  have st3:tn 0 (s₂.heap.push {cls:=.type "list",data:=.seq ([]:List Value).toArray}):=T.keep _ _ _ st2 fun b _ o e=>Heap.get?_push_of_some _ e
  generalize hD:s₂.heap.objs.size=D at*
  generalize hs3:({s₂ with heap:=s₂.heap.push {cls:=.type "list",data:=.seq ([]:List Value).toArray}}:Shared)=s₃ at*
  have hst3:tn 0 s₃.heap:=by rw [←hs3];exact st3
  refine wpAny_newFunctionEnv hcell (by intro y hy;simp at hy) (fun h₁ hns₁ hsb₁=>?_) hk
  generalize hC:s₃.heap.objs.size=C at*
  have old:∀b o,s₃.heap.get? b=some o→h₁.get? b=some o:=fun b o e=>hsb₁.extBut b o (by rw [←hC];exact Nat.ne_of_lt (Heap.lt_size e)) (Heap.get?_push_of_some _ e)
  have nC:∀b o,s₃.heap.get? b=some o→b≠C:=fun b o e=>by rw [←hC];exact Nat.ne_of_lt (Heap.lt_size e)
  have hHC:(aV H2 D (.lst [])) C=none:=I3.hok.fresh (by rw [hC];exact Nat.le_refl _)
  have clS:∀x c,(fw X.env scope.names []).lookup x=some c→X.env.cells.lookup x=some c:=fun x c e=>gO _ _ x c hfree (fun _ _ z=>by simp at z) e
  have clH:∀x,(∃y∈scope.names,y.1=x∧y.2=.free)→∃c,(fw X.env scope.names []).lookup x=some c:=fun x e=>jo _ _ x (.inl e)
  have ok':(ar X scope cp tgN C s₃ (aV H2 D (.lst [])) fp).Ok:=by
    refine⟨I.ok.mod,hk,I.ok.glob,I.ok.blt,by rw [←hC];exact Nat.le_refl _,fun x y c e1 e2=>I.ok.inj x y c (clS _ _ e1) (clS _ _ e2),fun x e=>clH x (b6 hcell e),fun x c e1 e2=>?_,I.ok.hd,I.ok.frames,.inl rfl,fun b hb=>?_,fun b o e=>I3.bs b o e,?_,fun b o e hb=>?_,fun b hb z=>?_,I3.stack,fun b hb=>I3.stkFree b hb⟩
    · exfalso
      have e1':scope.names.lookup x=some .local:=by simpa [ar] using e1
      have e2':=clS x c e2
      obtain⟨c',hc'⟩:∃y∈scope.names,y.1=x∧y.2=.free:=by
        by_cases q:∃y∈scope.names,y.1=x∧y.2=.free
        · exact q
        · exfalso
          have:∀(names:List (Str × NameKind)) (cs:List (Str × Addr)),(¬∃y∈names,y.1=x∧y.2=.free)→cs.lookup x=none→(fw X.env names cs).lookup x=none:=by
            intro names
            induction names with
            | nil=>intro cs _ h;exact h
            | cons y r ih=>
              intro cs hn hcs
              obtain⟨n,k⟩:=y
              refine ih _ (fun⟨y,hy,z⟩=>hn ⟨y,List.mem_cons_of_mem _ hy,z⟩) ?_
              by_cases hk:(k==NameKind.free)=true
              · rw [if_pos hk,List.lookup_cons]
                cases hx:x==n with
                | true=>exact absurd ⟨(n,k),List.mem_cons_self,(by simpa using hx:x=n).symm,by simpa using hk⟩ hn
                | false=>exact hcs
              · rw [if_neg hk];exact hcs
          have z:=this scope.names [] q rfl
          have e2'':(fw X.env scope.names []).lookup x=some c:=e2
          rw [z] at e2'';cases e2''
      have z:=(hfr c' hc'.1 hc'.2.2).1
      rw [hc'.2.1,e1'] at z;cases z
    · obtain⟨f0,f1,f4,f5,f6,f7⟩:=f3 b hb
      obtain⟨o,ho,_⟩:=T.obj _ _ hst3 b hb
      exact⟨nC b o ho,fun x c e=>f6 x c (clS x c e)⟩
    · exact Nat.le_trans I.ok.bsz I3.sz
    · obtain⟨f0,f1,f4,f5,f6,f7⟩:=f3 b hb
      rcases f5 with z | z
      · exact I.ok.noex b o e z
      · have:=(I.ok.bs b o e).1
        exact absurd (Nat.lt_of_lt_of_le (Heap.lt_size this) z) (Nat.lt_irrefl _)
    · obtain⟨f0,f1,f4,f5,f6,f7⟩:=f3 b hb
      rcases List.mem_cons.mp (I3.stkSub b z) with z | z
      · exact f1 z
      · exact f4 z
  have I4:az (ar X scope cp tgN C s₃ (aV H2 D (.lst [])) fp) [] (dN cp tgN.length σ) (aV H2 D (.lst [])) {s₃ with heap:=h₁,toks:=s₃.toks+([]:List (Str × Value)).length}:=by
    refine⟨ok',rfl,I3.bare,Un.kept old,⟨_,hns₁,fun i x v e1 e2 e3=>?_⟩,fun x c e=>?_,hHC,fun x c e=>I3.freeC x c (clS x c e),fun p hp=>by simp [ar] at hp,I3.hok.kept old,by simp [dN,ar]⟩
    · have hlt:i < cp.length:=by
        by_cases q:i < cp.length
        · exact q
        · exfalso
          unfold dN at e2
          rw [List.getElem?_append_right (by simp;lia)] at e2
          rw [List.getElem?_replicate] at e2
          split at e2<;>cases e2
      have e1':(cp.map (·.2))[i]?=some x:=by
        have e1'':(cp.map (·.2)++tgN)[i]?=some x:=e1
        rwa [List.getElem?_append_left (by simp;exact hlt)] at e1''
      have e2':(cp.map (fun p=>(σ[p.1]?).join))[i]?=some (some v):=by
        unfold dN at e2
        rwa [List.getElem?_append_left (by simp;exact hlt)] at e2
      rw [List.getElem?_map,List.getElem?_eq_getElem hlt] at e1' e2'
      have ex:(cp[i]).2=x:=by simpa using e1'
      have ev:(σ[(cp[i]).1]?).join=some v:=by simpa using e2'
      have ev':σ[(cp[i]).1]?=some (some v):=by
        cases q:σ[(cp[i]).1]? with
        | none=>rw [q] at ev;cases ev
        | some z=>rw [q] at ev;simp only [Option.join_some] at ev;rw [ev]
      have hN:=hcp cp[i] (List.getElem_mem hlt)
      rw [←hN0] at hN
      obtain⟨hcl,hcf⟩:=hcq cp[i] (List.getElem_mem hlt)
      rw [ex] at hN hcl hcf
      obtain⟨m,hn,hl⟩:=I3.loc
      obtain⟨u,r,l⟩:=hl _ x v hN ev' (.inr (.inl (by rw [hsc];exact hcl)))
      refine⟨u,r,.inr ?_⟩
      rcases l with ⟨k1,_⟩ | ⟨k1,c,hcc,o,ho,hd⟩
      · rw [hkind,hcl] at k1;cases k1
      · have e3':(relabel scope X.env).names.lookup x=some .local∨(relabel scope X.env).names.lookup x=some .cell∨(relabel scope X.env).names.lookup x=some .free:=e3
        have nl:(relabel scope X.env).names.lookup x=some .cell∨(relabel scope X.env).names.lookup x=some .free:=by
          rcases e3' with z | z | z
          · exact absurd z (de hcf)
          · exact .inl z
          · exact .inr z
        obtain⟨c',hc'⟩:=clH x (b6 hcell nl)
        have:=clS x c' hc'
        rw [hcc] at this;cases this
        exact⟨nl,c,hc',o,old c o ho,hd⟩
    · obtain⟨v,o,ho,hd⟩:=I3.cell x c (clS x c e)
      exact⟨v,o,old c o ho,hd⟩
  have hst4:tn 0 h₁:=T.keep _ _ _ hst3 fun b _ o e=>old b o e
  have loop:codeAny (model X.prog X.w) X.A (.compLoop (.ListComp elt [⟨tg,iter,ifs,0⟩] scope pos) 0 (.ref it) (.ref D) (compEnvC scope (fw X.env scope.names []) C X.env))
      (compPost (model X.prog X.w) X.A X.xe none (EP X pins σ Q) (.ref D) C) {s₃ with heap:=h₁,toks:=s₃.toks+([]:List (Str × Value)).length}:=by
    refine jq (fun n s'=>∃i σ' H',az (ar X scope cp tgN C s₃ (aV H2 D (.lst [])) fp) [] σ' H' s'∧tn i s'.heap∧(∀b∈fp,H' b=none)∧W i n σ' H') ?_ (n0:=m0) ⟨0,_,_,I4,hst4,fun b hb=>(f3 b hb).1,w0⟩
    rintro n s5 ⟨i,σ5,H5,I5,st5,fr5,w5⟩
    have stat:∀{H':Hp},(∀b∈fp,H' b=none)→∀b∈fp,gv (ar X scope cp tgN C s₃ (aV H2 D (.lst [])) fp) [] H' b:=fun hn b hb=>
      ⟨hn b hb,(ok'.exf b hb).1,ok'.exfs b hb,.inl hb,(ok'.exf b hb).2,fun p hp=>by simp [ar] at hp⟩
    rcases turn i n σ5 H5 w5 with ⟨stop,qn⟩ | ⟨go,N,hN,step⟩
    · refine bF (T.done (ar X scope cp tgN C s₃ (aV H2 D (.lst [])) fp) rfl rfl rfl hc i [] s5 σ5 H5 (fun _ _=>False) I5 (stat fr5) st5 stop) fun r s6 ⟨hr,I6⟩=>?_
      subst hr
      refine⟨fun _=>?_,fun v z=>by cases z⟩
      obtain⟨m,hn,_⟩:=I6.loc
      refine⟨m,hn,fun h' sb=>⟨.ref D,H5,?_,rfl,qn⟩⟩
      have ub:=I6.base
      have kp:∀b u,b≠C→s6.heap.get? b=some u→h'.get? b=some u:=fun b u ne e=>sb.extBut b u ne e
      have nit:∀b u,H5 b=some u→b≠C:=fun b u e z=>by
        have:=I6.free
        rw [z] at e
        rw [show H5 C=none from this] at e;cases e
      refine I3.call' (s':={s6 with heap:=h'}) (ch:=fp) I6.os ⟨fun b o e n hb hx=>kp b o (nC b o e) (ub.keep b o e n hb hx),fun b o e n hb hx=>?_,ub.free,fun b o e hx=>?_,ub.tups,ub.frzs,ub.tbls⟩ (fun b u e=>?_) I6.bare (fun b hb=>?_)
      · obtain⟨sl,q⟩:=ub.slot b o e n hb hx
        exact⟨sl,kp b _ (nC b o e) q⟩
      · obtain⟨o',q⟩:=ub.there b o e hx
        exact⟨o',kp b _ (nC b o e) q⟩
      · refine(I6.hok b u e).stay (fun c v hc q=>kp c v ?_ q) (fun _ q=>q) fun _ _ q=>q
        rcases hc with z | z
        · rw [z];exact nit b u e
        · exact nit c _ z
      · obtain⟨f0,f1,f4,f5,f6,f7⟩:=f3 b hb
        exact⟨f5,f1,f6,f7⟩
    · refine bF (T.item (ar X scope cp tgN C s₃ (aV H2 D (.lst [])) fp) rfl rfl rfl hc i [] s5 σ5 H5 (fun _ _=>False) I5 (stat fr5) st5 go) fun r s6 ⟨u,hr,h6⟩=>?_
      subst hr
      refine⟨fun z=>(by cases z),fun v z=>?_⟩
      cases z
      refine bF h6 fun _ s7 ⟨x,H7,I7,r7,y7,st7,fr7⟩=>?_
      have I7':=I7.pinned (stat fr7) (T.obj _ _ st7)
      have again:∀{σ8:L2.St} {H8:Hp} {s8:Shared},az (ar X scope cp tgN C s₃ (aV H2 D (.lst [])) fp) ([]++iH fp s7.heap) σ8 H8 s8→N σ8 H8→∃m,m < n∧∃i σ' H',az (ar X scope cp tgN C s₃ (aV H2 D (.lst [])) fp) [] σ' H' s8∧tn i s8.heap∧(∀b∈fp,H' b=none)∧W i m σ' H':=fun{σ8 H8 s8} I8 n8=>by
        obtain⟨m',hm,w8⟩:=hN σ8 H8 n8
        refine⟨m',hm,i+1,σ8,H8,I8.unpinned,T.keep _ _ _ st7 fun b hb o e=>(I8.pin (b,o) (List.mem_append_right _ (List.mem_append_right _ (bK hb e)))).1,fun b hb=>?_,w8⟩
        obtain⟨o,e,d⟩:=T.obj _ _ st7 b hb
        exact(I8.pin (b,o) (List.mem_append_right _ (List.mem_append_right _ (bK hb e)))).2.1
      refine bF (hg C s₃ (aV H2 D (.lst [])) fp _ s7 σ5 H7 x u _ I7' r7 (step x H7 y7)) fun _ s8 ⟨σ8,H8,I8,q8⟩=>?_
      refine bF (ht C s₃ (aV H2 D (.lst [])) fp _ s8 σ8 H8 _ I8 q8) fun ok s9 ⟨H9,I9,q9⟩=>?_
      cases ok with
      | false=>
        rw [if_neg Bool.false_ne_true] at q9 ⊢
        exact again I9 q9
      | true=>
        rw [if_pos rfl] at q9 ⊢
        refine bF (he C s₃ (aV H2 D (.lst [])) fp _ s9 σ8 H9 _ I9 q9) fun v s10 ⟨xv,H10,I10,r10,ys,hl,hz,n10⟩=>?_
        refine bF (ff _ s10 σ8 H10 (.ref D) [xv] (.ref D) [v] (fun _ H=>N σ8 H) I10 rfl (.cons r10 .nil) ⟨D,ys,xv,rfl,rfl,hl,hz,n10⟩) fun _ s11 ⟨_,H11,I11,_,q11⟩=>?_
        exact again I11 q11
  exact codeAny_compStart_list loop (T.self X.A 0 _ _ _ hst4 loop)
end L2
namespace L2
open PySem PySem.Spec PyProof.Rows
section
variable{X:Cx}
def xR(K:PySem.W.Frag):R2:=fun x y H Q=>∃a b xs ys,x=.ref a∧y=.ref b∧cZ K H a xs∧cZ K H b ys∧xs.length+ys.length≤sizeLine∧∀p H',av H H'→cZ K H' p (xs++ys)→Q (.ref p) H'
theorem zl:eG X (binaryOp .Add) (xR X.K):=by
  intro pins s σ H x y v u Q I rx ry h
  obtain⟨a,b,xs,ys,rfl,rfl,ha,hb,hz,q⟩:=h
  cases rx;cases ry
  by_cases hx:xs=[]
  · obtain⟨i1,r1,p1,_⟩:=I.tuple ha
    obtain⟨i2,r2,p2,_⟩:=I.tuple hb
    obtain⟨m,F⟩:=I.fr
    have e1:i1=[]:=by subst hx;cases r1;rfl
    refine add_tuples F (wZ (g:=X.base)) p1 p2 (fun _=>?_) (fun z1 _=>absurd e1 z1) (fun z1 _ _ _ _=>absurd e1 z1) (by rw [←r1.length,←r2.length];exact hz)
    exact⟨.ref b,H,I,rfl,q b H (av.refl H) (by rw [hx];exact hb)⟩
  · exact zm pins s σ H (.ref a) (.ref b) _ _ Q I rfl rfl ⟨a,b,xs,ys,rfl,rfl,ha,hb,hx,hz,fun z=>q a H (av.refl H) (by rw [z,List.append_nil];exact ha),fun _ p hp=>q p _ (av.new hp) (cZ.of am)⟩
theorem je{x:V}{us:List Value}(r:aI [x] us):∃u,us=[u]∧bC x u:=by
  cases r with
  | cons p p'=>cases p';exact⟨_,rfl,p⟩
theorem pK{prog:Program}{w:World}{A:Around}{E:Value→Shared→Prop}{s:Shared}{t:Addr}{vs:List Value}{Q:List Value→Shared→Prop}(ht:IsTup s.heap t vs.toArray)
    (h:Q vs {s with heap:=(s.heap.push (seqObj "list" #[] 0)).update s.heap.objs.size (Obj.mapSeq (· ++vs.toArray))})(hsz:vs.length≤sizeLine):wpAny (model prog w) A (collect (.ref t)) Q E s:=by
  obtain⟨o,ho,hc,n,hd⟩:=id ht;unfold collect;refine wpAny_bind (wpAny_runValue (codeAny_builtin entry_proto_collect' ?_))
  show wpAny _ _ (do again (.builtin "list.__iadd__" ⟨[←newList [],.ref t],[]⟩)) _ _ s
  refine wpAny_bind (wpAny_newList (wpAny_pure ⟨Code.quiet_builtin _ (by decide+kernel),?_⟩));refine codeAny_builtin entry_list_iadd' ?_
  show wpAny _ _ (Builtin.List.listExtendWith (.ref s.heap.objs.size) (.ref t) (.ref s.heap.objs.size)) _ _ {s with heap:=s.heap.push (seqObj "list" #[] 0)}
  unfold Builtin.List.listExtendWith;have ho':(s.heap.push (seqObj "list" #[] 0)).get? t=some o:=Heap.get?_push_of_some _ ho
  refine wpAny_bind (wpAny_typeOf (T:="tuple") ⟨o,ho',hc⟩ ?_)
  rw [if_pos (by rw [show(Value.type "tuple"==Value.type "tuple")=true from rfl,Bool.or_true])]
  refine wpAny_bind (listItems_at ho' hd ?_);refine wpAny_bind (listItems_at (xs:=#[]) (n:=0) (Heap.get?_push_size _ rfl) rfl ?_)
  rw [if_neg (by simp)];refine wpAny_bind (listUpdate_at (xs:=#[]) (n:=0) (Heap.get?_push_size _ rfl) rfl ?_ (Nat.zero_le _) (by show(#[]++vs.toArray).size≤sizeLine+1;simp only [Array.size_append,List.size_toArray,List.length_nil];lia))
  refine wpAny_pure ?_
  show wpAny (model prog w) A (load s.heap.objs.size >>= fun o=>match o.data with | .seq xs _=>pure xs.toList | _=>unsupported "internal:collect") Q E {s with heap:=(s.heap.push (seqObj "list" #[] 0)).update s.heap.objs.size (Obj.mapSeq (· ++vs.toArray))}
  refine wpAny_bind (wpAny_load (get?_update_seq (Heap.get?_push_size _ rfl) _) ?_);show wpAny _ _ (pure ((#[]:Array Value)++vs.toArray).toList) Q E _;rw [show((#[]:Array Value)++vs.toArray).toList=vs by simp];exact wpAny_pure h
theorem sG{prog:Program}{w:World}{A:Around}{E:Value→Shared→Prop}{s:Shared}{t:Addr}{vs:List Value}{ns:List Int}{Q:Value→Shared→Prop}(ht:IsTup s.heap t vs.toArray)(hI:IntsAre vs ns)(h64:vs.length < 64)
    (h:∀(out:Array Value) (ns':List Int),IntsAre out.toList ns'→ns'.Perm ns→ns'.Pairwise (· ≤·)→Q (.ref (s.heap.objs.size+1)) {s with heap:=sortedAll s.heap vs out}):wpAny (model prog w) A (call (.builtin "sorted") [.ref t]) Q E s:=by
  refine Calls.call_function_entry kind_sorted plain_sorted entry_sorted (args_sorted1 _) ?_;unfold Builtin.«sorted»
  refine wpAny_bind (m:=checkCount "sorted" 1 1 _) (wpAny_pure ?_);refine wpAny_bind (pK ht ?_ (Nat.le_trans (Nat.le_of_lt h64) (by decide)))
  have z:((s.heap.push (seqObj "list" #[] 0)).update s.heap.objs.size (Obj.mapSeq (· ++vs.toArray))).objs.size=s.heap.objs.size+1:=by rw [Heap.size_update,size_push']
  have o:(((s.heap.push (seqObj "list" #[] 0)).update s.heap.objs.size (Obj.mapSeq (· ++vs.toArray))).push (seqObj "list" vs.toArray 0)).get? (s.heap.objs.size+1)=some (seqObj "list" vs.toArray 0):=by rw [←z];exact Heap.get?_push_size _ rfl
  refine wpAny_bind (wpAny_newList ?_);show wpAny _ _ _ _ _ {s with heap:=((s.heap.push (seqObj "list" #[] 0)).update s.heap.objs.size (Obj.mapSeq (· ++vs.toArray))).push (seqObj "list" vs.toArray 0)}
  rw [z];refine wpAny_bind (wpAny_holding (wpAny_call_entry slot_list_sort ⟨_,o,rfl⟩ entry_list_sort (list_sort_tree o hI h64 fun out ns' b1 b2 b3=>⟨_,rfl,?_⟩) (args_list_sort _)))
  exact wpAny_pure ⟨_,rfl,h out ns' b1 b2 b3⟩
theorem kz:cL X (.builtin "sorted") (fun xs H Q=>∃(a:Addr) (ns:List Int),xs=[.ref a]∧cZ X.K H a (ns.map V.int)∧ns.length < 64∧∀(l:Addr) (ns':List Int) (H':Hp),av H H'→H l=none→H' l=some (.lst (ns'.map V.int))→ns'.Perm ns→ns'.Pairwise (· ≤·)→Q (.ref l) H'):=by
  intro pins s σ H xs us Q I r h
  obtain⟨a,ns,rfl,hs,h64,q⟩:=h
  obtain⟨u,rfl,ru⟩:=je r
  cases ru
  obtain⟨its,rv,p,hz⟩:=I.tuple hs
  have hl:=rv.length
  rw [List.length_map] at hl
  refine sG p (jd rv) (by lia) fun out ns' a1 a2 a3=>?_
  obtain⟨e,he⟩:=sortedAll_at s.heap its out
  have hf:H (s.heap.objs.size+1)=none:=I.hok.fresh (Nat.le_succ _)
  refine⟨.ref (s.heap.objs.size+1),aV H (s.heap.objs.size+1) (.lst (ns'.map V.int)),I.laid (t':=s.toks) (fun _ _=>sortedAll_old) (Nat.le_succ _) ⟨?_,out.toList,e,iV a1,?_⟩,rfl,q _ ns' _ (av.new hf) hf am a2 a3⟩
  · rw [List.length_map,a2.length_eq]
    exact Nat.le_trans (Nat.le_of_lt h64) (by decide)
  · simpa [seqObj] using he
end
end L2
namespace L2
open PySem PySem.Spec PyProof.Rows
section
variable{X:Cx}
end
theorem ve{e:Expr}{es:List Expr}{env:Env}(h:PySem.W.isStarred e=false):starEach (e::es) env=(false,eval e env)::starEach es env:=by
  cases e<;>first | rfl | cases h
theorem B8{X:Cx}{e:Expr}{es:List Expr}{te:TE}{t:TA}(ha:PE X e te)(hr:PA X es t)(h:PySem.W.isStarred e=false:=by rfl):PA X (e::es) (rc te t):=oW ha hr (ve h)
def uk:List (Int × Int)→TA
  | []=>CP
  | p::r=>rc (EX (rc (tC (.int p.1)) (rc (tC (.int p.2)) CP))) (uk r)
@[irreducible] def Gf(ps:List (Int × Int)):TA:=uk ps
structure eM where
  one:Int
  other:Int
  top:Int
  bot:Int
  worth:Int
structure bD where
  things:Int
  ties:List eM
  pat:List Int
  asks:Int
structure eM.Ok (n:Int) (t:eM):Prop where
  o0:0≤t.one
  o1:t.one < t.other
  o2:t.other < n
  c0:0≤t.top
  c1:t.top≤t.bot
  b0:1≤t.bot
  b1:t.bot≤100
  w0:0≤t.worth
  w1:t.worth≤1000
  cop:Int.gcd t.top t.bot=1
structure bD.Ok (w:bD):Prop where
  t0:0≤w.things
  t1:w.things≤12
  ties:∀t∈w.ties,t.Ok w.things
  len:w.ties.length≤16
  pl:(w.pat.length:Int)=w.things
  pat:∀p∈w.pat,0≤p∧p≤20
  a0:0≤w.asks
  a1:w.asks≤40
def Do(K:PySem.W.Frag)(H:Hp)(v:V)(t:eM):Prop:=∃p q,v=.ref p∧cZ K H p [.int t.one,.int t.other,.ref q,.int t.worth]∧cZ K H q [.int t.top,.int t.bot]
inductive n9 (K:PySem.W.Frag) (H:Hp):List V→List eM→Prop
  | nil:n9 K H [] []
  | cons {v vs t ts}:Do K H v t→n9 K H vs ts→n9 K H (v::vs) (t::ts)
structure Gv (K:PySem.W.Frag) (H:Hp) (v:V) (w:bD):Prop where
  ex:∃a b c ts,v=.ref a∧cZ K H a [.int w.things,.ref b,.ref c,.int w.asks]∧cZ K H b ts∧n9 K H ts w.ties∧cZ K H c (w.pat.map V.int)
section
variable{K:PySem.W.Frag}{H H':Hp}
end
theorem sd{t b:Int}(hb:0 < b)(h0:0≤t)(h1:t≤b)(h2:b≤100):0≤(eI t b).1∧(eI t b).1≤(eI t b).2∧1≤(eI t b).2∧(eI t b).2≤100:=by
  obtain⟨d,e1,e2,e3,e4,e5⟩:=nG (t:=t) (b:=b) (by lia)
  generalize (eI t b).1=x at*
  generalize (eI t b).2=y at*
  have dp:0 < d:=by
    rcases Int.lt_or_gt_of_ne e2 with z | z
    · exfalso
      have:y*d < 0:=Int.mul_neg_of_pos_of_neg e5 z
      lia
    · exact z
  have x0:0≤x:=by
    rcases Int.lt_or_le x 0 with z | z
    · have:x*d < 0:=Int.mul_neg_of_neg_of_pos z dp
      lia
    · exact z
  have xy:x≤y:=by
    rcases Int.lt_or_le y x with z | z
    · have:y*d < x*d:=Int.mul_lt_mul_of_pos_right z dp
      lia
    · exact z
  have yb:y≤y*d:=by
    have:=Int.mul_le_mul_of_nonneg_left (show(1:Int)≤d by lia) (show 0≤y by lia)
    lia
  exact⟨x0,xy,by lia,by lia⟩
end L2
namespace L2
open PySem PySem.Spec PyProof.Rows
inductive k7 {α β:Type} (R:α→β→Prop):List α→List β→Prop
  | nil:k7 R [] []
  | cons {a b as bs}:R a b→k7 R as bs→k7 R (a::as) (b::bs)
namespace k7
variable{α β:Type}{R S:α→β→Prop}
theorem mono(h:∀a b,R a b→S a b):∀{as:List α} {bs:List β},k7 R as bs→k7 S as bs
  | _,_,.nil=>.nil
  | _,_,.cons x r=>.cons (h _ _ x) (mono h r)
theorem len:∀{as:List α} {bs:List β},k7 R as bs→as.length=bs.length
  | _,_,.nil=>rfl
  | _,_,.cons _ r=>by simp [len r]
theorem snoc{a:α}{b:β}(h:R a b):∀{as:List α} {bs:List β},k7 R as bs→k7 R (as++[a]) (bs++[b])
  | _,_,.nil=>.cons h .nil
  | _,_,.cons x r=>.cons x (snoc h r)
theorem get:∀{as:List α} {bs:List β} {i:Nat} {b:β},k7 R as bs→bs[i]?=some b→∃a,as[i]?=some a∧R a b
  | _,_,_,_,.nil,e=>by simp at e
  | _,_,0,_,.cons x _,e=>by simp at e;subst e;exact⟨_,rfl,x⟩
  | _,_,i+1,b,.cons _ r,e=>by
    obtain⟨v,h1,h2⟩:=get (i:=i) (b:=b) r (by simpa using e)
    exact⟨v,by simpa using h1,h2⟩
end k7
section
variable{K:PySem.W.Frag}{a l:Addr}{xs:List V}{g:TG}{tc:TT}{te:TE}{Q:VK}{σ:L2.St}{H:Hp}{α β:Type}{us:List α}{cp:List (Nat × Str)}{nT:Nat}
def Fc(aX:Hp→V→β→Prop)(SI:L2.St→Prop)(us:List α)(f:α→Option β)(H:Hp)(l:Addr)(i:Nat)(σ:L2.St)(H':Hp):Prop:=SI σ∧av H H'∧∃vs,H' l=some (.lst vs)∧vs.length≤i∧k7 (aX H') vs ((us.take i).filterMap f)
end
theorem kY:∀{a b:List Int},a.Perm b→a.Pairwise (· ≤·)→b.Pairwise (· ≤·)→a=b
  | [],b,p,_,_=>by
    have:=p.length_eq
    exact(List.length_eq_zero_iff.mp this.symm).symm
  | x::a,b,p,h1,h2=>by
    cases b with
    | nil=>have:=p.length_eq;simp at this
    | cons y b=>
      have h1':=List.pairwise_cons.mp h1
      have h2':=List.pairwise_cons.mp h2
      have e:x=y:=by
        have m1:y∈x::a:=p.mem_iff.mpr (by simp)
        have m2:x∈y::b:=p.mem_iff.mp (by simp)
        rcases List.mem_cons.mp m1 with z | z
        · exact z.symm
        · rcases List.mem_cons.mp m2 with z2 | z2
          · exact z2
          · have:=h1'.1 y z
            have:=h2'.1 x z2
            lia
      subst e
      rw [kY ((List.perm_cons x).mp p) h1'.2 h2'.2]
def bi(ns:List Int):List Int:=ns.mergeSort
theorem gK{ns ns':List Int}(p:ns'.Perm ns)(h:ns'.Pairwise (· ≤·)):ns'=bi ns:=by
  refine kY (p.trans (List.mergeSort_perm ns _).symm) h ?_
  have:=List.pairwise_mergeSort (le:=fun a b:Int=>decide (a≤b)) (fun a b c h1 h2=>by simp at*;lia) (fun a b=>by simp;lia) ns
  exact this.imp fun h=>by simpa using h
theorem hV(ns:List Int):(bi ns).Perm ns:=List.mergeSort_perm ns _
theorem Dg{ns:List Int}{x:Int}:x∈bi ns↔ x∈ns:=(hV ns).mem_iff
theorem Df(ns:List Int):(bi ns).length=ns.length:=(hV ns).length_eq
section
variable{X:Cx}{K:PySem.W.Frag}{pos:Pos}
theorem wJ(h:X.K=K):yr X (Cz K):=h ▸ tT
theorem zz{es:List Expr}{k:Nat}{t:yu}{n:Nat}(hK:X.K=K)(hc:X.calm=true)(h:vt X es t)(hn:(assignEach es X.env).length=n:=by rfl)(hst:(assignEach es X.env).findIdx? (·.1)=none:=by rfl):PG X (.Tuple es k pos) (qb K n t):=hK ▸ Cd hc h hn hst
theorem zC{tg l:Expr}{tl:TE}(h:X.K=K)(hl:PE X l tl):PI X tg l (DR K tl):=h ▸ Ce hl
theorem qD{tg l:Expr}{tl:TE}(h:X.K=K)(hl:PE X l tl):PI X tg l (AR K tl):=h ▸ zB hl
end
instance:Inhabited eM:=⟨⟨0,1,1,1,0⟩⟩
def bD.tie(W:bD)(k:Int):eM:=W.ties.getD k.toNat default
def bD.has(W:bD)(k thing:Int):Bool:=(W.tie k).one==thing || (W.tie k).other==thing
def bD.many(W:bD)(asked:List Int)(thing:Int):Int:=((asked.filter fun k=>W.has k thing).length:Nat)
def bD.bears(W:bD)(asked taken:List Int)(thing:Int):Bool:= !taken.contains thing&&decide (W.many asked thing < W.pat.getD thing.toNat 0)
def bD.may(W:bD)(asked taken:List Int)(k:Int):Bool:= !(asked.contains k || decide (W.asks≤(asked.length:Int)))&&(W.bears asked taken (W.tie k).one&&W.bears asked taken (W.tie k).other)
def bD.askd(asked:List Int)(k:Int):List Int:=bi (asked++[k])
def bD.took(W:bD)(taken:List Int)(k:Int)(truth:Bool):List Int:=if truth then bi (taken++[(W.tie k).one,(W.tie k).other]) else taken
def bD.rng(W:bD):List Int:=(List.range W.ties.length).map Int.ofNat
def pD(W:bD)(k:Int):Prop:=0≤k∧k < (W.ties.length:Int)
theorem pD.get{W:bD}{k:Int}(h:pD W k):W.ties[k.toNat]?=some (W.tie k):=by
  have hk:k.toNat < W.ties.length:=by have:=h.1;have:=h.2;lia
  unfold bD.tie
  rw [List.getD_eq_getElem?_getD,List.getElem?_eq_getElem hk];rfl
theorem pD.ok{W:bD}{k:Int}(h:pD W k)(o:W.Ok):(W.tie k).Ok W.things:=o.ties _ (List.mem_of_getElem? h.get)
theorem Fk{W:bD}{k:Int}:k∈W.rng↔ pD W k:=by
  unfold bD.rng pD
  rw [List.mem_map]
  constructor
  · rintro⟨n,hn,rfl⟩
    have:=List.mem_range.mp hn
    exact⟨Int.natCast_nonneg n,by simp;lia⟩
  · rintro⟨h0,h1⟩
    exact⟨k.toNat,List.mem_range.mpr (by lia),by simp;lia⟩
def Bj(K:PySem.W.Frag)(H:Hp)(v:V)(asked taken:List Int):Prop:=∃a b c,v=.ref a∧cZ K H a [.ref b,.ref c]∧cZ K H b (asked.map V.int)∧cZ K H c (taken.map V.int)
theorem Bj.ts{K:PySem.W.Frag}{H H':Hp}(s:kx H H'){v:V}{asked taken:List Int}(h:Bj K H v asked taken):Bj K H' v asked taken:=by
  obtain⟨a,b,c,e,h1,h2,h3⟩:=h
  exact⟨a,b,c,e,s.tup h1,s.tup h2,s.tup h3⟩
section
variable{K:PySem.W.Frag}{σ:L2.St}{H:Hp}{Q:VK}{i j:Nat}{vW:V}{W:bD}{k:Int}
end
def small(k:Int):Prop:= -1000000≤k∧k≤1000000
def Dk(n dep:Nat)(d:PyData):Prop:=d.showable=true∧l9 d=true∧L2.cnt d≤n∧d.depth≤dep
theorem Dk.mono{n m dep e:Nat}{d:PyData}(h:Dk n dep d)(h1:n≤m)(h2:dep≤e):Dk m e d:=⟨h.1,h.2.1,Nat.le_trans h.2.2.1 h1,Nat.le_trans h.2.2.2 h2⟩
theorem Dk.int{k:Int}(h:small k):Dk 1 2 (.int k):=by
  refine⟨?_,rfl,Nat.le_refl _,by simp [PyData.depth]⟩
  show decide (k.natAbs.log2 < 1920)=true
  rw [decide_eq_true_eq]
  exact Nat.lt_trans ((show Bt 64 k by have:=h.1;have:=h.2;unfold Bt;lia).log (by decide)) (by decide)
theorem Dk.bool(b:Bool):Dk 1 2 (.bool b):=⟨rfl,rfl,Nat.le_refl _,by simp [PyData.depth]⟩
theorem Dk.none:Dk 1 2 .none:=⟨rfl,rfl,Nat.le_refl _,by simp [PyData.depth]⟩
theorem Dk.all{n dep:Nat}:∀{ds:List PyData},(∀d∈ds,Dk n dep d)→PyData.showableAll ds=true∧gD ds=true∧i_ ds≤ds.length*n∧PyData.depthAll ds≤dep
  | [],_=>⟨rfl,rfl,by simp [i_],by simp [PyData.depthAll]⟩
  | d::r,h=>by
    obtain⟨a1,a2,a3,a4⟩:=h d (by simp)
    obtain⟨b1,b2,b3,b4⟩:=Dk.all (ds:=r) fun x hx=>h x (by simp [hx])
    refine⟨?_,?_,?_,?_⟩
    · simp only [PyData.showableAll,a1,b1,Bool.and_self]
    · simp only [gD,a2,b2,Bool.and_self]
    · simp only [i_,List.length_cons,Nat.succ_mul]
      lia
    · simp only [PyData.depthAll];lia
theorem Dk.tup{n dep m:Nat}{ds:List PyData}(h:∀d∈ds,Dk n dep d)(hl:ds.length≤m):Dk (1+m*n) (dep+2) (.tuple ds):=by
  obtain⟨b1,b2,b3,b4⟩:=Dk.all h
  refine⟨b1,b2,?_,?_⟩
  · simp only [L2.cnt]
    have:=Nat.mul_le_mul_right n hl
    lia
  · simp only [PyData.depth];lia
theorem Dk.ok{n dep:Nat}{d:PyData}(h:Dk n dep d)(h1:n≤8000)(h2:dep≤60):d.showable=true∧d.depth≤60∧d.shown.length≤sizeLine:=by
  have:=nQ h.2.1 h.1
  have sl:sizeLine=16777216:=sizeLine_eq
  have:=h.2.2.1
  exact⟨h.1,Nat.le_trans h.2.2.2 h2,by lia⟩
theorem Dk.ints{ns:List Int}{m:Nat}(hl:ns.length≤m)(h:∀r∈ns,small r):Dk (1+m) 4 (.tuple (ns.map .int)):=by
  have:=Dk.tup (n:=1) (dep:=2) (m:=m) (ds:=ns.map PyData.int) (fun d hd=>by
    obtain⟨x,hx,rfl⟩:=List.mem_map.mp hd
    exact Dk.int (h x hx)) (by rw [List.length_map];exact hl)
  simpa using this
section
variable{K:PySem.W.Frag}{H:Hp}
theorem Dk.bools{ns:List Bool}{m:Nat}(hl:ns.length≤m):Dk (1+m) 4 (.tuple (ns.map .bool)):=by
  have:=Dk.tup (n:=1) (dep:=2) (m:=m) (ds:=ns.map PyData.bool) (fun d hd=>by
    obtain⟨x,hx,rfl⟩:=List.mem_map.mp hd
    exact Dk.bool x) (by rw [List.length_map];exact hl)
  simpa using this
def aG(t:eM):PyData:=.tuple [.int t.one,.int t.other,.tuple [.int t.top,.int t.bot],.int t.worth]
def aD(W:bD):PyData:=.tuple [.int W.things,.tuple (W.ties.map aG),.tuple (W.pat.map .int),.int W.asks]
def Hg(asked taken:List Int):PyData:=.tuple [.tuple (asked.map .int),.tuple (taken.map .int)]
end
end L2
namespace L2
open PySem PySem.Spec PyProof.Rows
theorem vG:∀{bs:List Bool} {us:List Value} {i:Nat} {v:Value},aI (bs.map V.bl) us→us[i]?=some v→∃b,bs[i]?=some b∧v=.bool b
  | [],us,i,v,r,e=>by cases r;simp at e
  | b::bs,us,i,v,r,e=>by
    cases r with
    | cons p q=>
      cases i with
      | zero=>simp at e;subst e;cases p;exact⟨b,rfl,rfl⟩
      | succ i=>
        obtain⟨c,h1,h2⟩:=vG (bs:=bs) (i:=i) (v:=v) q (by simpa using e)
        exact⟨c,by simpa using h1,h2⟩
theorem zX(bs:List Bool):((List.range bs.length).all fun i=>(bs[i]?).getD true)=bs.all id:=by
  rw [Bool.eq_iff_iff,List.all_eq_true,List.all_eq_true]
  constructor
  · intro h b hb
    obtain⟨i,hi,rfl⟩:=List.getElem_of_mem hb
    have:=h i (List.mem_range.mpr hi)
    rw [List.getElem?_eq_getElem hi] at this
    exact this
  · intro h i hi
    have hi':=List.mem_range.mp hi
    rw [List.getElem?_eq_getElem hi']
    exact h _ (List.getElem_mem hi')
section
variable{X:Cx}
theorem vK{k:Nat}{K:PySem.W.Frag}(hr:cz k X.A)(hK:X.K=K):cL X (.builtin "all") (fun xs H Q=>∃(l:Addr) (bs:List Bool),xs=[.ref l]∧fm K H l (bs.map V.bl)∧Q (.bl (bs.all id)) H):=by
  intro pins s σ H xs us Q I r h
  subst hK
  obtain⟨l,bs,rfl,hs,q⟩:=h
  obtain⟨u,rfl,ru⟩:=je r
  cases ru
  obtain⟨its,rv,p,hz⟩:=I.list hs
  have hl:=p.isList
  have lt:l < s.heap.objs.size:=by obtain⟨_,e,_⟩:=hl;exact Heap.lt_size e
  refine PySem.call_all_walk (wpAny_pyIter_list hl ?_)
  refine⟨s.heap.objs.size,[s.heap.objs.size,l],[s.heap.objs.size],its.toArray.size,_,_,fun i=>(bs[i]?).getD true,rfl,Walks.list (A:=X.A.in1) hr.hd _ l (Nat.ne_of_lt lt) its.toArray,⟨⟨_,Heap.get?_push_size _ rfl,rfl,rfl⟩,hl.push _⟩,fun i v s' Q' E' hP hQ=>?_,fun h' tk hk=>?_⟩
  · obtain⟨b,e,rfl⟩:=vG rv (by simpa using hP)
    simp only [e,Option.getD_some] at hQ
    exact wpAny_truthy_bool hQ
  · have e:its.toArray.size=bs.length:=by have:=rv.length;rw [List.length_map] at this;simpa using this.symm
    rw [e,zX]
    refine⟨.bl (bs.all id),H,I.kept fun b x e=>hk b x (fun hm=>?_) (Heap.get?_push_of_some _ e),rfl,q⟩
    rw [List.mem_singleton.mp hm] at e
    exact Nat.lt_irrefl _ (Heap.lt_size e)
end
end L2
namespace L2
theorem vH:PySem.bootBuiltins "all"=some (.builtin "all"):=by decide+kernel
end L2
namespace L2
open PySem PySem.Spec PyProof.Rows
section
variable{prog:Program}{w:World}{A:Around}{E:Value→Shared→Prop}{s:Shared}
theorem ym{it t:Addr}{i:Nat}{ys}{x:Value}{Q:Value→Shared→Prop}(hi:s.heap.IsTupleIter it t i)(ht:s.heap.IsTuple t ys)(hx:ys[i]?=some x)
    (q:∀g,g.IsTupleIter it t (i+1)→Heap.SameBut it s.heap g→Q x {s with heap:=g}):wpAny (model prog w) A (Builtin.SmallTypes.nextOf (.ref it)) Q E s:=by
  obtain⟨o,ho,hc,hd⟩:=id hi;obtain⟨p,hp,_,n,hpd⟩:=ht;unfold Builtin.SmallTypes.nextOf
  refine wpAny_bind (wpAny_callSpecial?_slot (name:=Str.ofString "__next__") hi.typeIs F.slot_tuple_iterator_next (wpAny_call_entry F.slot_tuple_iterator_next hi.typeIs F.entry_tuple_iterator_next ?_ (F.args_tuple_iterator_next_1 _)))
  show wpAny _ _ (field (.ref it) 0 >>= _) _ _ s;refine wpAny_bind (wpAny_field ho hd (x:=.ref t) rfl ?_)
  show wpAny _ _ (if (Value.ref t==Value.none)=true then _ else _) _ _ s;rw [if_neg (show ¬((Value.ref t==Value.none)=true) from Bool.false_ne_true)]
  show wpAny _ _ (field (.ref it) 1 >>= _) _ _ s;refine wpAny_bind (wpAny_field ho hd (x:=.int i 0) rfl ?_)
  show wpAny _ _ (seqItems? (.ref t) >>= _) _ _ s;refine wpAny_bind (wpAny_seqItems hp hpd ?_)
  simp only [Int.toNat_natCast,hx];refine wpAny_bind (wpAny_setField ho hd (by simp) (wpAny_pure ⟨x,rfl,wpAny_pure (q _ ?_ (Heap.SameBut.update ..))⟩))
  refine⟨_,Heap.get?_update_self _ ho (Obj.isFreed_of_fields (Obj.data_mapFields hd _)),(Obj.cls_mapFields ..).trans hc,?_⟩;rw [Obj.data_mapFields hd];simp [rawInt]
theorem yl{it t:Addr}{i:Nat}{ys}{Q:Value→Shared→Prop}(hh:A.handled=none)(hi:s.heap.IsTupleIter it t i)(ht:s.heap.IsTuple t ys)(hx:ys[i]?=none)
    (q:∀g e,Heap.ExtBut it s.heap g→(∃o,g.get? e=some o∧o.cls=.type "StopIteration")→E (.ref e) {s with heap:=g}):wpAny (model prog w) A (Builtin.SmallTypes.nextOf (.ref it)) Q E s:=by
  obtain⟨o,ho,hc,hd⟩:=id hi;obtain⟨p,hp,_,n,hpd⟩:=ht;unfold Builtin.SmallTypes.nextOf
  refine wpAny_bind (wpAny_callSpecial?_slot (name:=Str.ofString "__next__") hi.typeIs F.slot_tuple_iterator_next (wpAny_call_entry F.slot_tuple_iterator_next hi.typeIs F.entry_tuple_iterator_next ?_ (F.args_tuple_iterator_next_1 _)))
  show wpAny _ _ (field (.ref it) 0 >>= _) _ _ s;refine wpAny_bind (wpAny_field ho hd (x:=.ref t) rfl ?_)
  show wpAny _ _ (if (Value.ref t==Value.none)=true then _ else _) _ _ s;rw [if_neg (show ¬((Value.ref t==Value.none)=true) from Bool.false_ne_true)]
  show wpAny _ _ (field (.ref it) 1 >>= _) _ _ s;refine wpAny_bind (wpAny_field ho hd (x:=.int i 0) rfl ?_)
  show wpAny _ _ (seqItems? (.ref t) >>= _) _ _ s;refine wpAny_bind (wpAny_seqItems hp hpd ?_)
  simp only [Int.toNat_natCast,hx];refine wpAny_bind (wpAny_rule (wpAny_bind (wpAny_setField ho hd (by simp) ?_)))
  show wpAny _ _ (newExc (.type "StopIteration") [] >>= _) _ _ _;refine wpAny_bind ?_;simp only [newExc,newTuple]
  refine wpAny_bind (wpAny_newObj_type ?_ (by size_fits));refine wpAny_bind (m:=firstArgMember _ _) (wpAny_of_eq (a:=Value.none) (by first | rfl | (simp only [firstArgMember];rfl)) ?_)
  refine wpAny_newObj_type ?_ (by size_fits);simp only [raiseNew];refine wpAny_bind (wpAny_handled ?_);first | rw [show A.in1.handled=none from hh] | rw [hh]
  refine wpAny_bind (wpAny_pure (wpAny_throw ?_));exact q _ _ (((Heap.SameBut.update ..).extBut.push _).push _) ⟨_,Heap.get?_push_size _ rfl,rfl⟩
end
structure Sc (prog:Program) (w:World) (it l:Addr) (St:Nat→Heap→Prop) (Sq:Heap→Array Value→Prop):Prop where
  stay:∀{k h h'},St k h→(∀o,h.get? it=some o→h'.get? it=some o)→St k h'
  live:∀{k h},St k h→∃o,h.get? it=some o∧∀v,o.data≠.cell v
  row:∀{h h' xs},Sq h xs→(∀o,h.get? l=some o→h'.get? l=some o)→Sq h' xs
  next:∀{A:Around} {s:Shared} {E:Value→Shared→Prop} {Q:Value→Shared→Prop} {k:Nat} {xs:Array Value} {x:Value},St k s.heap→Sq s.heap xs→xs[k]?=some x→(∀g,St (k+1) g→Heap.SameBut it s.heap g→Q x {s with heap:=g})→wpAny (model prog w) A (Builtin.SmallTypes.nextOf (.ref it)) Q E s
  last:∀{A:Around} {s:Shared} {E:Value→Shared→Prop} {Q:Value→Shared→Prop} {k:Nat} {xs:Array Value},A.handled=none→St k s.heap→Sq s.heap xs→xs[k]?=none→(∀g e,Heap.ExtBut it s.heap g→(∃o,g.get? e=some o∧o.cls=.type "StopIteration")→E (.ref e) {s with heap:=g})→wpAny (model prog w) A (Builtin.SmallTypes.nextOf (.ref it)) Q E s
theorem ye{prog:Program}{w:World}(it l:Addr):Sc prog w it l (fun k h=>h.IsTupleIter it l k) (fun h xs=>h.IsTuple l xs) where
  stay:=fun st k=>st.at fun o e=>k o e
  live:=fun st=>by
    obtain⟨o,e,c,d⟩:=st
    exact⟨o,e,fun v z=>by rw [d] at z;cases z⟩
  row:=fun q k=>by
    obtain⟨o,e,r⟩:=q
    exact⟨o,k o e,r⟩
  next:=fun st sq hx q=>ym st sq hx q
  last:=fun hh st sq hx q=>yl hh st sq hx q
theorem ui{prog:Program}{w:World}(it l:Addr):Sc prog w it l (fun k h=>h.IsListIter it l k) (fun h xs=>h.IsList l xs) where
  stay:=fun st k=>st.at fun o e=>k o e
  live:=fun st=>by
    obtain⟨o,e,c,d⟩:=st
    exact⟨o,e,fun v z=>by rw [d] at z;cases z⟩
  row:=fun q k=>by
    obtain⟨o,e,r⟩:=q
    exact⟨o,k o e,r⟩
  next:=fun st sq hx q=>wpAny_nextOf_list_item st sq hx q
  last:=fun hh st sq hx q=>wpAny_nextOf_list_end hh st sq hx q
structure Gm (z TI TO i1 i2 l1 l2:Addr):Prop where
  a1:TO≠z
  a2:i1≠z
  a3:i2≠z
  a4:TO≠i1
  a5:TO≠i2
  a6:i1≠i2
  b1:l1≠z
  b2:l1≠TO
  b3:l1≠i1
  b4:l1≠i2
  c1:l2≠z
  c2:l2≠TO
  c3:l2≠i1
  c4:l2≠i2
section
variable{prog:Program}{w:World}{A:Around}{E:Value→Shared→Prop}{s:Shared}{z TI TO i1 i2 l1 l2:Addr}{k:Nat}{xs ys:Array Value}{a b:Value}{S1 S2:Nat→Heap→Prop}{R1 R2:Heap→Array Value→Prop}
end
end L2
namespace L2
open PySem PySem.Spec PyProof.Rows
section
variable{X:Cx}{pins:List (Addr × Obj)}{σ:L2.St}{H:Hp}{s:Shared}{h':Heap}
theorem az.turnedL{t':Nat}{fp:List Addr}(I:az X pins σ H s)(hf:∀b∈fp,gv X pins H b)(k:∀b o,b∉fp→s.heap.get? b=some o→h'.get? b=some o):az X pins σ H {s with heap:=h',toks:=t'}:=by
  have hL:X.env.locals∉fp:=fun z=>(hf _ z).2.1 rfl
  have nit:∀b u,H b=some u→b∉fp:=fun b u e z=>by have:=(hf b z).1;rw [this] at e;cases e
  refine I.step (g':=s.gens) (d':=s.drawn) (ch:=fp) (fun b hb=>?_) (fun b o _ _ hc e _=>k b o hc e) (fun b o _ _ hc e _=>⟨o.slots,k b o hc e⟩) (fun _ _ _ _ n=>n) (fun b o hc e=>⟨o,k b o hc e⟩) (fun _ _ e=>e) (fun _ _ _ e=>e) (fun b ps e=>⟨#[],by rw [e];simp⟩) (fun m hm=>?_) (fun b u e=>?_) I.bare
  · obtain⟨f0,f1,f2,f3,f4,f5⟩:=hf b hb
    exact⟨f3,f1,f4,f5⟩
  · obtain⟨o,es,ep,ho,r⟩:=hm
    exact⟨o,es,ep,k _ o hL ho,r⟩
  · refine(I.hok b u e).stay (fun c v hc q=>k c v ?_ q) (fun _ q=>q) fun _ _ q=>q
    rcases hc with z | z
    · rw [z];exact nit b u e
    · exact nit c _ z
theorem pG(I:az X pins σ H s){b l:Addr}{xs:List V}(f:gv X pins H b)(q:cZ X.K H l xs):l≠b:=by
  intro z
  subst z
  rcases q with (q | ⟨o,q⟩) | ⟨o,its,n,hk,_⟩
  · rw [f.1] at q;cases q
  · rw [f.1] at q;cases q
  · have hb:X.base.get? l=some o:=I.ok.mod.kin l o hk
    rcases f.2.2.2.1 with z | z
    · exact I.ok.noex l o hb z
    · exact absurd (Nat.lt_of_lt_of_le (Heap.lt_size (I.ok.bs l o hb).1) z) (Nat.lt_irrefl _)
end
section
variable{prog:Program}{w:World}{A:Around}{E:Value→Shared→Prop}{s:Shared}
end
end L2
namespace L2
open PySem PySem.Spec PyProof.Rows
def Be(h:Heap)(z TI TO:Addr)(a:Addr)(f:Bool):Prop:=h.get? z=some {cls:=.type "zip",data:=.fields #[rawInt a,.bool f,.bool false,.ref TI,.ref TO]}
section
variable{prog:Program}{w:World}{A:Around}{E:Value→Shared→Prop}{s:Shared}{z TI TO i1 i2 l1 l2:Addr}{k:Nat}{xs ys:Array Value}{a:Addr}{f:Bool}{S1 S2:Nat→Heap→Prop}{R1 R2:Heap→Array Value→Prop}
end
end L2
namespace L2
open PySem PySem.Spec PyProof.Rows
structure ZL (S z TI TO i1 i2 l1 l2:Addr) (xs ys:Array Value) (i:Nat) (h:Heap):Prop where
  pr:IsPair h TI (.ref i1) (.ref i2)
  t1:h.IsTupleIter i1 l1 i
  t2:h.IsTupleIter i2 l2 i
  s1:h.IsTuple l1 xs
  s2:h.IsTuple l2 ys
  ot:∃o,h.get? TO=some o
  zs:(IsZip h z TI TO .none∧∃a b,IsPair h TO a b)∨∃a f oa,Be h z TI TO a f∧h.get? a=some oa∧a≠S∧a≠z∧a≠i1∧a≠i2
structure Gk (S z TO i1 i2:Addr) (xs ys:Array Value) (h:Heap) (acc:Array Value) (i:Nat):Prop where
  sz:acc.size=i
  at_:∀(j:Nat) (v:Value),acc[j]?=some v→∃(p:Addr) (x y:Value),v=.ref p∧xs[j]?=some x∧ys[j]?=some y∧IsPair h p x y∧p≠S∧p≠z∧p≠TO∧p≠i1∧p≠i2
  lo:∀(j:Nat) (p:Addr),acc[j]?=some (.ref p)→S < p
  GY:∀(i j:Nat) (p q:Addr),i < j→acc[i]?=some (.ref p)→acc[j]?=some (.ref q)→p < q
section
variable{prog:Program}{w:World}{A:Around}{R:Result→Shared→Prop}{S z TI TO i1 i2 l1 l2:Addr}{xs ys:Array Value}{n:Nat}
end
end L2
namespace L2
open PySem PySem.Spec PyProof.Rows
section
variable{X:Cx}{pins:List (Addr × Obj)}{σ:L2.St}{H H':Hp}{s:Shared}{h':Heap}
end
end L2
namespace L2
open PySem PySem.Spec PyProof.Rows
section
variable{prog:Program}{w:World}{A:Around}{E:Value→Shared→Prop}{s:Shared}{e it l:Addr}{k:Nat}{xs:Array Value}{S:Nat→Heap→Prop}{R:Heap→Array Value→Prop}
theorem qY(P1:Sc prog w it l S R)(hh:A.handled=none)(hne:l≠it)(xs:Array Value):Draws prog w A it [it,l] xs.size (fun i v=>xs[i]?=some v) (fun i h=>S i h∧R h xs) where
  live:=fun _ _ st=>let ⟨o,ho,_⟩:=P1.live st.1;⟨o,ho⟩
  frame:=fun _ _ _ st hk=>⟨P1.stay st.1 fun o e=>hk it (by simp) o e,P1.row st.2 fun o e=>hk l (by simp) o e⟩
  item:=fun i s Q E hi st hQ=>P1.next st.1 st.2 (x:=xs[i]) (by simp [hi]) fun g h1 h2=>hQ _ g s.toks (by simp [hi]) ⟨h1,P1.row st.2 fun o e=>h2.extBut _ _ hne e⟩ h2
  done:=fun s Q E st hE=>P1.last hh st.1 st.2 (by simp) hE
theorem ni{i:Int}{old:Value}{Q:Option Value→Shared→Prop}(P1:Sc prog w it l S R)(hh:A.handled=none)(he:IsEnum s.heap e it i old)(st:S k s.heap)(sq:R s.heap xs)(hx:xs[k]?=none)(q:∀g,Heap.ExtBut it s.heap g→Q none {s with heap:=g}):wpAny (model prog w) A (pyNext (.ref e)) Q E s:=by
  have hT:s.TypeIs (.ref e) "enumerate":=⟨_,he,rfl⟩;unfold pyNext
  refine wpAny_bind (wpAny_attempt (wpAny_callSpecial?_slot (name:=Str.ofString "__next__") hT F.slot_enumerate_next (wpAny_call_entry F.slot_enumerate_next hT F.entry_enumerate_next ?_ (F.args_enumerate_next_1 _))))
  show wpAny _ _ (field (.ref e) 2 >>= _) _ _ _;refine wpAny_bind (wpAny_field he rfl (x:=.ref it) rfl ?_)
  refine wpAny_bind (P1.last hh st sq hx fun g x hk hx'=>?_);obtain⟨o,ho,hc⟩:=hx'
  refine wpAny_bind (wpAny_isInstance (T:="StopIteration") (b:=true) ⟨o,ho,hc⟩ isSubtype_stop ?_);exact wpAny_pure (q _ hk)
theorem iO{i:Int}{old:Value}{Q:Value→Shared→Prop}(he:IsEnum s.heap e it i old)(h:Q (.ref e) s):wpAny (model prog w) A (pyIter (.ref e)) Q E s:=by
  have hT:s.TypeIs (.ref e) "enumerate":=⟨_,he,rfl⟩
  refine wpAny_pyIter_slot hT F.slot_enumerate_iter (wpAny_call_entry F.slot_enumerate_iter hT F.entry_enumerate_iter ?_ (F.args_enumerate_iter_1 _))
  show wpAny _ _ (ret (.ref e)) _ _ s;exact wpAny_pure ⟨_,rfl,"enumerate",_,hT,F.slot_enumerate_next.lookup,h⟩
end
section
variable{X:Cx}{pins:List (Addr × Obj)}{σ:L2.St}{H:Hp}{s:Shared}
theorem mW(I:az X pins σ H s){b l:Addr}{xs:List V}(f:gv X pins H b)(q:fm X.K H l xs):l≠b:=by
  intro z
  subst z
  rcases q with (q | ⟨o,q⟩) | ⟨o,its,n,hk,_⟩
  · rw [f.1] at q;cases q
  · rw [f.1] at q;cases q
  · have hb:X.base.get? l=some o:=I.ok.mod.kin l o hk
    rcases f.2.2.2.1 with z | z
    · exact I.ok.noex l o hb z
    · exact absurd (Nat.lt_of_lt_of_le (Heap.lt_size (I.ok.bs l o hb).1) z) (Nat.lt_irrefl _)
end
def Bg(K:PySem.W.Frag)(l:Addr):It:=
  ⟨fun i H=>∃xs x,cZ K H l xs∧xs[i]?=some x,fun i H v H'=>∃p x,v=.ref p∧H p=none∧H'=aV H p (.tup [.int i,x])∧∀xs,cZ K H l xs→xs[i]?=some x,fun i H=>∃xs,cZ K H l xs∧xs.length≤i⟩
def tF(e it l:Addr)(i:Nat)(h:Heap):Prop:=(∃old,IsEnum h e it i old)∧h.IsTupleIter it l i
theorem sQ{P:Program}{w:World}{K:PySem.W.Frag}{es:List Expr}{k0:Nat}{pos:Pos}{e it:Addr}(l:Addr)(ne:e≠it):uD P w K (.Tuple es k0 pos) (Bg K l) [e,it] e (tF e it l) where
  mem:=by simp
  obj:=fun i h st b hb=>by
    obtain⟨⟨old,he⟩,u⟩:=st
    simp only [List.mem_cons,List.not_mem_nil,or_false] at hb
    rcases hb with rfl | rfl
    · exact⟨_,he,fun v z=>by cases z⟩
    · obtain⟨o,e,c,d⟩:=u
      exact⟨o,e,fun v z=>by rw [d] at z;cases z⟩
  keep:=fun i h h' st k=>by
    obtain⟨⟨old,he⟩,u⟩:=st
    exact⟨⟨old,k _ (by simp) _ he⟩,u.at fun o e=>k _ (by simp) o e⟩
  item:=by
    intro X hP hw hK hc i pins s σ H E I hf st hg
    subst hP hw hK
    obtain⟨xs,x,q1,hx⟩:=hg
    obtain⟨⟨old,he⟩,u⟩:=id st
    obtain⟨its,rv,p,hz⟩:=I.tuple q1
    obtain⟨ux,hux,rux⟩:=rv.get hx
    have fe:=hf e (by simp);have ft:=hf it (by simp)
    have n1:l≠e:=pG I fe q1
    have n2:l≠it:=pG I ft q1
    have hi:i < its.toArray.size:=by have:=(List.getElem?_eq_some_iff.mp hux).1;simpa using this
    refine wpAny_pyNext_enum_itemD (qY (A:=X.A.in1) (ye it l) (show X.A.in1.handled=none from I.ok.hd hc) n2 its.toArray) he ⟨u,p⟩ hi ne (by simpa using ⟨ne,fun z=>n1 z.symm⟩) fun x' g tk hP ho hs hT hsz hk=>?_
    have ex:x'=ux:=by
      have:its[i]?=some x':=by simpa using hP
      rw [hux] at this;exact(Option.some.inj this).symm
    subst ex
    refine⟨_,rfl,wpAny_letOwnedTupleGo_enum ho fun g' he' ge=>?_⟩
    have lt:∀b∈[e,it],b < s.heap.objs.size:=fun b hb=>by
      simp only [List.mem_cons,List.not_mem_nil,or_false] at hb
      rcases hb with rfl | rfl
      · exact Heap.lt_size he
      · obtain⟨o,e,_⟩:=u;exact Heap.lt_size e
    have hTn:H s.heap.objs.size=none:=I.hok.fresh (Nat.le_refl _)
    have vv:aI [.int i,x] [.int i tk,x']:=.cons ⟨tk,rfl⟩ (.cons rux .nil)
    have I1:az X pins σ (aV H s.heap.objs.size (.tup [.int i,x])) {s with heap:=s.heap.push {cls:=.type "tuple",data:=.seq #[.int i tk,x']},toks:=s.toks}:=
      I.laid (t':=s.toks) (fun b u e=>Heap.get?_push_of_some _ e) (Nat.le_refl _) ⟨(by show 2≤sizeLine;decide),[.int i tk,x'],vv,k9.new _ _⟩
    have hf1:∀b∈[e,it],gv X pins (aV H s.heap.objs.size (.tup [.int i,x])) b:=fun b hb=>by
      obtain⟨f0,fr⟩:=hf b hb
      exact⟨by rw [ax (Nat.ne_of_lt (lt b hb))];exact f0,fr⟩
    have I2:az X pins σ (aV H s.heap.objs.size (.tup [.int i,x])) {s with heap:=g',toks:=tk+1}:=by
      refine I1.turnedL (t':=tk+1) hf1 fun b o nb eb=>?_
      have nb':b≠e∧b≠it:=by simpa using nb
      refine ge.extBut _ _ nb'.1 ?_
      rcases Heap.get?_push_cases eb with ⟨rfl,rfl⟩ | eb
      · exact hT
      · exact hk b o nb'.1 nb'.2 eb
    refine⟨.ref s.heap.objs.size,_,I2,rfl,⟨_,x,rfl,hTn,rfl,fun xs' w1=>by rw [I.tuple_inj w1 q1];exact hx⟩,⟨⟨_,by simpa using he'⟩,hs.1.at fun o e=>ge.extBut _ _ (fun z=>ne z.symm) e⟩,fun b hb=>(hf1 b hb).1⟩
  done:=by
    intro X hP hw hK hc i pins s σ H E I hf st hg
    subst hP hw hK
    obtain⟨xs,q1,hn⟩:=hg
    obtain⟨⟨old,he⟩,u⟩:=id st
    obtain⟨its,rv,p,hz⟩:=I.tuple q1
    have e1:=rv.length
    refine ni (xs:=its.toArray) (ye it l) (I.ok.hd hc) he u p (by simp;lia) fun g gk=>⟨rfl,I.turnedL (t':=s.toks) hf fun b o nb eb=>?_⟩
    have nb':b≠e∧b≠it:=by simpa using nb
    exact gk b o nb'.2 eb
  self:=fun A i s Q E st h=>by
    obtain⟨⟨old,he⟩,u⟩:=st
    exact iO he h
def Bf(K:PySem.W.Frag)(l:Addr):It:=
  ⟨fun i H=>∃xs x,fm K H l xs∧xs[i]?=some x,fun i H v H'=>∃p x,v=.ref p∧H p=none∧H'=aV H p (.tup [.int i,x])∧∀xs,fm K H l xs→xs[i]?=some x,fun i H=>∃xs,fm K H l xs∧xs.length≤i⟩
def yM(e it l:Addr)(i:Nat)(h:Heap):Prop:=(∃old,IsEnum h e it i old)∧h.IsListIter it l i
theorem sP{P:Program}{w:World}{K:PySem.W.Frag}{es:List Expr}{k0:Nat}{pos:Pos}{e it:Addr}(l:Addr)(ne:e≠it):uD P w K (.Tuple es k0 pos) (Bf K l) [e,it] e (yM e it l) where
  mem:=by simp
  obj:=fun i h st b hb=>by
    obtain⟨⟨old,he⟩,u⟩:=st
    simp only [List.mem_cons,List.not_mem_nil,or_false] at hb
    rcases hb with rfl | rfl
    · exact⟨_,he,fun v z=>by cases z⟩
    · obtain⟨o,e,c,d⟩:=u
      exact⟨o,e,fun v z=>by rw [d] at z;cases z⟩
  keep:=fun i h h' st k=>by
    obtain⟨⟨old,he⟩,u⟩:=st
    exact⟨⟨old,k _ (by simp) _ he⟩,u.at fun o e=>k _ (by simp) o e⟩
  item:=by
    intro X hP hw hK hc i pins s σ H E I hf st hg
    subst hP hw hK
    obtain⟨xs,x,q1,hx⟩:=hg
    obtain⟨⟨old,he⟩,u⟩:=id st
    obtain⟨its,rv,p,hz⟩:=I.list q1
    obtain⟨ux,hux,rux⟩:=rv.get hx
    have fe:=hf e (by simp);have ft:=hf it (by simp)
    have n1:l≠e:=mW I fe q1
    have n2:l≠it:=mW I ft q1
    have hi:i < its.toArray.size:=by have:=(List.getElem?_eq_some_iff.mp hux).1;simpa using this
    refine wpAny_pyNext_enum_itemD (qY (A:=X.A.in1) (ui it l) (show X.A.in1.handled=none from I.ok.hd hc) n2 its.toArray) he ⟨u,p.isList⟩ hi ne (by simpa using ⟨ne,fun z=>n1 z.symm⟩) fun x' g tk hP ho hs hT hsz hk=>?_
    have ex:x'=ux:=by
      have:its[i]?=some x':=by simpa using hP
      rw [hux] at this;exact(Option.some.inj this).symm
    subst ex
    refine⟨_,rfl,wpAny_letOwnedTupleGo_enum ho fun g' he' ge=>?_⟩
    have lt:∀b∈[e,it],b < s.heap.objs.size:=fun b hb=>by
      simp only [List.mem_cons,List.not_mem_nil,or_false] at hb
      rcases hb with rfl | rfl
      · exact Heap.lt_size he
      · obtain⟨o,e,_⟩:=u;exact Heap.lt_size e
    have hTn:H s.heap.objs.size=none:=I.hok.fresh (Nat.le_refl _)
    have vv:aI [.int i,x] [.int i tk,x']:=.cons ⟨tk,rfl⟩ (.cons rux .nil)
    have I1:az X pins σ (aV H s.heap.objs.size (.tup [.int i,x])) {s with heap:=s.heap.push {cls:=.type "tuple",data:=.seq #[.int i tk,x']},toks:=s.toks}:=
      I.laid (t':=s.toks) (fun b u e=>Heap.get?_push_of_some _ e) (Nat.le_refl _) ⟨(by show 2≤sizeLine;decide),[.int i tk,x'],vv,k9.new _ _⟩
    have hf1:∀b∈[e,it],gv X pins (aV H s.heap.objs.size (.tup [.int i,x])) b:=fun b hb=>by
      obtain⟨f0,fr⟩:=hf b hb
      exact⟨by rw [ax (Nat.ne_of_lt (lt b hb))];exact f0,fr⟩
    have I2:az X pins σ (aV H s.heap.objs.size (.tup [.int i,x])) {s with heap:=g',toks:=tk+1}:=by
      refine I1.turnedL (t':=tk+1) hf1 fun b o nb eb=>?_
      have nb':b≠e∧b≠it:=by simpa using nb
      refine ge.extBut _ _ nb'.1 ?_
      rcases Heap.get?_push_cases eb with ⟨rfl,rfl⟩ | eb
      · exact hT
      · exact hk b o nb'.1 nb'.2 eb
    refine⟨.ref s.heap.objs.size,_,I2,rfl,⟨_,x,rfl,hTn,rfl,fun xs' w1=>by rw [I.list_inj w1 q1];exact hx⟩,⟨⟨_,by simpa using he'⟩,hs.1.at fun o e=>ge.extBut _ _ (fun z=>ne z.symm) e⟩,fun b hb=>(hf1 b hb).1⟩
  done:=by
    intro X hP hw hK hc i pins s σ H E I hf st hg
    subst hP hw hK
    obtain⟨xs,q1,hn⟩:=hg
    obtain⟨⟨old,he⟩,u⟩:=id st
    obtain⟨its,rv,p,hz⟩:=I.list q1
    have e1:=rv.length
    refine ni (xs:=its.toArray) (ui it l) (I.ok.hd hc) he u p.isList (by simp;lia) fun g gk=>⟨rfl,I.turnedL (t':=s.toks) hf fun b o nb eb=>?_⟩
    have nb':b≠e∧b≠it:=by simpa using nb
    exact gk b o nb'.2 eb
  self:=fun A i s Q E st h=>by
    obtain⟨⟨old,he⟩,u⟩:=st
    exact iO he h
end L2
namespace L2
open PySem PySem.Spec PyProof.Rows
theorem ut:∀(us:List Value) (f:Nat→Int),(∀(j:Nat) (v:Value),us[j]?=some v→∃t,v=Value.int (f j) t)→aI ((List.range us.length).map fun j=>V.int (f j)) us
  | [],_,_=>.nil
  | u::us,f,h=>by
    rw [List.length_cons,List.range_succ_eq_map,List.map_cons,List.map_map]
    refine .cons (h 0 u rfl) (ut us (fun j=>f (j+1)) fun j v e=>h (j+1) v (by simpa using e))
def di(n:Nat):List Int:=(List.range n).map Int.ofNat
theorem jL(n:Nat):(di n).length=n:=by simp [di]
section
variable{X:Cx}{a:Expr}{ta:TA}{p p2 pos pos2:Pos}
theorem vU(hg:Gl X "range")(hm:X.mg "range"=none)(ha:PA X [a] ta)(hs:starEach [a] X.env=[(false,eval a X.env)]){pins:List (Addr × Obj)}{s:Shared}{σ:L2.St}{H:Hp}{R:Int→Hp→Prop}(I:az X pins σ H s)(h:ta σ H fun vs H1=>∃j:Int,vs=[.int j]∧R j H1):
    wpAny (model X.prog X.w) X.A (eval (.Call (.Name "range" p) [a] [] pos) X.env) (fun v s1=>∃(r:Addr) (j:Int) (H1:Hp) (t u w:Tok),v=.ref r∧IsRange s1.heap r 0 j 1 t u w∧r < s1.heap.objs.size∧az X pins σ H1 s1∧R j H1) X.xe s:=by
  refine Call_ (iF I hg hm boot_range (PyProof.Rows.callWith_type1 (bF (ha pos pins s σ H _ I h) fun us s1 ⟨vs,H1,I1,r1,q1⟩=>?_) hs rfl))
  obtain⟨j,e,q⟩:=q1
  subst e
  cases r1 with
  | cons r rr=>
    cases rr
    obtain⟨t,rfl⟩:=r
    exact call_range_1 ⟨_,j,H1,_,_,_,rfl,IsRange.new ..,by simp [Heap.size_push],I1.kept fun b o e=>Heap.get?_push_of_some _ e,q⟩
def G7(ta:TA):TE:=fun σ H Q=>ta σ H fun vs H1=>∃j:Int,vs=[.int j]∧(0≤j∧j≤100000∧∀l,H1 l=none→Q (.ref l) (aV H1 l (.lst ((di j.toNat).map V.int))))
theorem oY(hc:X.calm=true)(hgl:Gl X "list")(hml:X.mg "list"=none)(hg:Gl X "range")(hm:X.mg "range"=none)(ha:PA X [a] ta)(hs:starEach [a] X.env=[(false,eval a X.env)]:=by rfl)
    (he:starEach [.Call (.Name "range" p) [a] [] pos] X.env=(false,eval (.Call (.Name "range" p) [a] [] pos) X.env)::starEach [] X.env:=by rfl):PE X (.Call (.Name "list" p2) [.Call (.Name "range" p) [a] [] pos] [] pos2) (G7 ta):=by
  intro pins s σ H Q I h
  refine wpAny_Call_Name_kw (iF I hgl hml PyProof.Rows.boot_list ?_ (by decide) (by decide))
  refine PyProof.Rows.callWith_type1 ?_ he rfl
  rw [he]
  refine Calls.spliced_cons (bF (vU hg hm ha hs I h) fun u s1 ⟨r,j,H1,t,u1,w,e,hr,lt,I1,j0,j1,q⟩=>?_)
  subst e
  refine wpAny_pure ?_
  have hsm:Builtin.Range.small 0 j 1=true:=small_one (by decide) (by decide) (by lia) (by lia)
  refine call_list_range (n:=j.toNat) (I1.ok.hd hc) hr hsm (by rw [rangeSize_one];split<;>lia) (Nat.le_trans (show j.toNat≤100000 by lia) (by decide)) fun h' tk acc c hk hD hI=>?_
  have hf:H1 s1.heap.objs.size=none:=I1.hok.fresh (Nat.le_refl _)
  have vv:aI ((di j.toNat).map V.int) acc.toList:=by
    have z:=ut acc.toList (fun k=>(k:Int)) fun k v e=>by
      obtain⟨t,ht⟩:=hI.2 k v (by simpa using e)
      exact⟨t,by rw [ht];simp⟩
    rw [Array.length_toList,hI.1] at z
    rw [di,List.map_map]
    exact z
  refine⟨.ref s1.heap.objs.size,_,I1.laid (o:=.lst ((di j.toNat).map V.int)) hk (Nat.le_refl _) ⟨?_,acc.toList,c,vv,by simpa using hD⟩,rfl,q _ hf⟩
  rw [List.length_map,jL,sizeLine_eq];lia
end
end L2
namespace L2
open PySem PySem.Spec PyProof.Rows
theorem uV:fillsNumberSlot (.type "tuple") "mul"=pure false:=
  PySem.fillsNumberSlot_seq (id:="tuple.__mul__") (r:=some (.builtin "tuple.__rmul__")) F.slot_tuple_mul.lookup (by decide+kernel) F.slot_tuple_rmul.lookup (by decide+kernel)
theorem CD:seqRepeat? (.type "tuple")=pure (some (.builtin "tuple.__mul__")):=by
  unfold seqRepeat?;rw [PySem.seqSlot_of (T:="tuple") (name:="__mul__") (id:="tuple.__mul__") F.slot_tuple_mul.lookup (by decide+kernel),PySem.seqSlot_of (T:="tuple") (name:="__rmul__") (id:="tuple.__rmul__") F.slot_tuple_rmul.lookup (by decide+kernel)];rfl
theorem zU(a:Int)(t:Tok)(l:Addr)(items:Array Value)(n:Nat)(dd:Option Addr)(sl:Array (Option Value)):
    Meets (Builtin.«int.__rmul__» ⟨[.int a t,.ref l],[]⟩) (fun _ R s=>s.heap.get? l=some {cls:=.type "tuple",dict:=dd,data:=.seq items n,slots:=sl}∧R (.ok (.ret Value.notImplemented)) s):=
  .of_wp fun prog w A R s h=>by obtain⟨hp,g,d,tk,os⟩:=s;obtain⟨hl,h⟩:=h;wp_walk;exact⟨_,rfl,h⟩
theorem BK(l:Addr)(x:Value)(n:Nat)(k:Int)(u:Tok)(dd:Option Addr)(sl:Array (Option Value))(h0:2≤k)(h1:k≤100000):
    Meets (Builtin.«tuple.__mul__» ⟨[.ref l,.int k u],[]⟩) (fun _ R s=>s.heap.get? l=some {cls:=.type "tuple",dict:=dd,data:=.seq #[x] n,slots:=sl}∧
      R (.ok (.ret (.ref s.heap.objs.size))) {s with heap:=s.heap.push {cls:=.type "tuple",data:=.seq (List.replicate k.toNat x).toArray}}):=
  .of_wp fun prog w A R s h=>by
    obtain⟨hp,g,d,tk,os⟩:=s;obtain⟨hl,h⟩:=h
    have f1:=AutoSeq1.idx_int
    have c1:¬(decide (k < -(2 ^ 63)) || decide (k≥2 ^ 63))=true:=by simp;lia
    have c2:¬((#[x]:Array Value).isEmpty || k==1)=true:=by simp;lia
    have c3:¬(decide (k≤0) || (#[x]:Array Value).isEmpty)=true:=by simp;lia
    have c4:¬(((#[x]:Array Value).size:Int)*k > (2 ^ 63 - 1) / 8):=by simp;lia
    have c5:¬Builtin.Tuple.tupleTooMany (((#[x]:Array Value).size:Int)*k)=true:=by
      unfold Builtin.Tuple.tupleTooMany;rw [sizeLine_eq];simp;lia
    wp_walk using wpAny_loadPart' hl
    rw [if_neg c1]
    wp_walk using wpAny_loadPart' hl
    rw [if_neg c2]
    wp_walk using wpAny_loadPart' hl
    rw [if_neg c3]
    wp_walk using wpAny_loadPart' hl
    rw [if_neg c4]
    show wpAny _ _ (if Builtin.Tuple.tupleTooMany (((#[x]:Array Value).size:Int)*k)=true then _ else _) _ _ _
    rw [if_neg c5]
    have f0:∀(m:Nat) (acc:Array Value),List.foldl (fun x1 x2=>x1++x2) acc (List.replicate m #[x])=acc++(List.replicate m x).toArray:=by
      intro m
      induction m with
      | zero=>intro acc;simp
      | succ m ih=>intro acc;rw [List.replicate_succ,List.foldl_cons,ih,List.replicate_succ];apply Array.toList_inj.mp;simp
    have e:List.foldl (fun x1 x2=>x1++x2) #[] (List.replicate k.toNat #[x])=(List.replicate k.toNat x).toArray:=by rw [f0];simp
    show wpAny _ _ (Builtin.Tuple.tupleExact (List.foldl (fun x1 x2=>x1++x2) #[] (List.replicate k.toNat #[x])) >>= fun v=>ret v) _ _ _
    rw [e]
    unfold Builtin.Tuple.tupleExact
    refine wpAny_bind (wpAny_newObj_type ?_ (by show(List.replicate k.toNat x).toArray.size≤sizeLine;rw [List.size_toArray,List.length_replicate,sizeLine_eq];lia))
    exact wpAny_pure ⟨_,rfl,h⟩
theorem y9(l:Addr)(x:Value)(n:Nat)(u:Tok)(dd:Option Addr)(sl:Array (Option Value)):
    Meets (Builtin.«tuple.__mul__» ⟨[.ref l,.int 0 u],[]⟩) (fun _ R s=>s.heap.get? l=some {cls:=.type "tuple",dict:=dd,data:=.seq #[x] n,slots:=sl}∧R (.ok (.ret (.ref s.heap.objs.size))) {s with heap:=s.heap.push {cls:=.type "tuple",data:=.seq #[]}}):=
  .of_wp fun prog w A R s h=>by
    obtain⟨hp,g,d,tk,os⟩:=s;obtain⟨hl,h⟩:=h;have f1:=AutoSeq1.idx_int
    have c2:¬((#[x]:Array Value).isEmpty || (0:Int)==1)=true:=by simp
    wp_walk using wpAny_loadPart' hl
    first | rw [if_neg c2] | skip
    wp_walk using wpAny_loadPart' hl
    exact⟨_,rfl,h⟩
theorem y_(l:Addr)(x:Value)(n:Nat)(u:Tok)(dd:Option Addr)(sl:Array (Option Value)):
    Meets (Builtin.«tuple.__mul__» ⟨[.ref l,.int 1 u],[]⟩) (fun _ R s=>s.heap.get? l=some {cls:=.type "tuple",dict:=dd,data:=.seq #[x] n,slots:=sl}∧R (.ok (.ret (.ref l))) s):=
  .of_wp fun prog w A R s h=>by
    obtain⟨hp,g,d,tk,os⟩:=s;obtain⟨hl,h⟩:=h;have f1:=AutoSeq1.idx_int
    wp_walk using wpAny_loadPart' hl
    exact⟨_,rfl,h⟩
section
variable{X:Cx}
def xT(K:PySem.W.Frag):R2:=fun x y H Q=>∃a k v,x=.ref a∧y=.int k∧cZ K H a [v]∧0≤k∧k≤100000∧∀p H',av H H'→cZ K H' p (List.replicate k.toNat v)→Q (.ref p) H'
theorem zu:eG X (binaryOp .Mult) (xT X.K):=by
  intro pins s σ H x y v u Q I rx ry h
  obtain⟨a,k,z,rfl,rfl,ha,k0,k1,q⟩:=h
  cases rx
  obtain⟨t,rfl⟩:=ry
  obtain⟨its,r,p,hz⟩:=I.tuple ha
  obtain⟨uz,rfl,rz⟩:=je r
  obtain⟨⟨cls,dd,data,sl⟩,ho,hc,n,hd⟩:=id p
  simp only at hc hd
  subst hc hd
  refine wpAny_binaryOp_repeat_ref (T:="tuple") (U:="int") (by decide) ⟨_,ho,rfl⟩ (fun s'=>PySem.typeIs_int s' k t) uV F.fills_int_mul F.slot_int_rmul CD F.slot_int_index.lookup (call_meets F.slot_int_rmul (PySem.typeIs_int s k t) F.entry_int_rmul (F.args_int_rmul_2 _ _) (zU k t a #[uz] n dd sl) ⟨ho,rfl,⟨_,ho,rfl⟩,?_⟩)
  have new:∀m:Nat,m=k.toNat→EP X pins σ Q (.ref s.heap.objs.size) {s with heap:=s.heap.push {cls:=.type "tuple",data:=.seq (List.replicate m uz).toArray},toks:=s.toks}:=fun m hm=>by
    have hf:H s.heap.objs.size=none:=I.hok.fresh (Nat.le_refl _)
    have vv:∀j:Nat,aI (List.replicate j z) (List.replicate j uz):=fun j=>by
      induction j with
      | zero=>exact .nil
      | succ j ih=>exact .cons rz ih
    refine⟨.ref s.heap.objs.size,_,I.laid (t':=s.toks) (o:=.tup (List.replicate m z)) (fun b ob q=>Heap.get?_push_of_some _ q) (Nat.le_refl _) ⟨by rw [List.length_replicate,sizeLine_eq];lia,_,vv m,k9.new _ _⟩,rfl,q _ _ (av.new hf) (cZ.of (by rw [am,hm]))⟩
  rcases(by lia:k=0∨k=1∨2≤k) with e | e | e
  · subst e
    exact call_meets F.slot_tuple_mul ⟨_,ho,rfl⟩ F.entry_tuple_mul (F.args_tuple_mul_2 _ _) (y9 a uz n t dd sl) ⟨ho,new 0 rfl⟩
  · subst e
    exact call_meets F.slot_tuple_mul ⟨_,ho,rfl⟩ F.entry_tuple_mul (F.args_tuple_mul_2 _ _) (y_ a uz n t dd sl) ⟨ho,⟨.ref a,H,I,rfl,q a H (av.refl H) ha⟩⟩
  · exact call_meets F.slot_tuple_mul ⟨_,ho,rfl⟩ F.entry_tuple_mul (F.args_tuple_mul_2 _ _) (BK a uz n k t dd sl e k1) ⟨ho,new _ rfl⟩
end
end L2
namespace L2
open PySem PySem.Spec PyProof.Rows
section
variable{prog:Program}{w:World}{A:Around}{E:Value→Shared→Prop}{s:Shared}
end
section
variable{X:Cx}{a:Expr}{ta:TA}{p p2 p3 pos pos2 pos3:Pos}
end
end L2
namespace L2
open PySem PySem.Spec PyProof.Rows
theorem uH(l:Addr)(xs:Array Value):
    Meets (Builtin.«enumerate.__new__» ⟨[.type "enumerate",.ref l],[]⟩) (fun _ R s=>s.heap.IsTuple l xs∧R (.ok (.ret (.ref (s.heap.objs.size+1)))) {s with heap:=(s.heap.push {cls:=.type "tuple_iterator",data:=.fields #[.ref l,.int 0 0]}).push {cls:=.type "enumerate",data:=.fields #[.none,.bool false,.ref s.heap.objs.size,rawInt 0,.none,.none]}}):=
  .of_wp fun prog w A R s h=>by
    obtain⟨hp,g,d,tk,os⟩:=s;obtain⟨ht,h⟩:=h;have a1:=sub_enumerate
    have T1:Heap.IsTuple (Shared.heap ⟨hp,g,d,tk,os⟩) l xs:=ht
    obtain⟨⟨cls,dd,data,sl⟩,ho,hc,n,hd⟩:=id ht
    simp only at hc hd
    subst hc hd
    wp_walk using wpAny_loadPart' ho
    refine wpAny_stack_any fun st=>wpAny_pure ?_
    split
    · rename_i c _ _ _ _ _
      cases (c==Value.type "enumerate")
      · wp_walk using wpAny_loadPart' ho,wpAny_pyIter_tuple T1
        refine⟨_,rfl,?_⟩
        simp only [Heap.size_push]
        exact h
      · wp_walk using wpAny_loadPart' ho,wpAny_pyIter_tuple T1
        refine⟨_,rfl,?_⟩
        simp only [Heap.size_push]
        exact h
    · wp_walk using wpAny_loadPart' ho,wpAny_pyIter_tuple T1
      refine⟨_,rfl,?_⟩
      simp only [Heap.size_push]
      exact h
section
variable{prog:Program}{w:World}{A:Around}{E:Value→Shared→Prop}{s:Shared}
theorem rS{l:Addr}{xs:Array Value}{Q:Value→Shared→Prop}(t1:s.heap.IsTuple l xs)(h:∀g,tF (s.heap.objs.size+1) s.heap.objs.size l 0 g→(∀c o,s.heap.get? c=some o→g.get? c=some o)→Q (.ref (s.heap.objs.size+1)) {s with heap:=g}):wpAny (model prog w) A (call (.type "enumerate") [.ref l]) Q E s:=by
  refine callType_new F.called_enumerate (by decide) (F.typeCall_enumerate_1 _) (F.newCall_enumerate_1 _) (fun obj=>F.args_object_init_2 obj _) F.entry_enumerate_new (uH l xs) ⟨t1,?_⟩
  have g2:((s.heap.push {cls:=.type "tuple_iterator",data:=.fields #[.ref l,.int 0 0]}).push {cls:=.type "enumerate",data:=.fields #[.none,.bool false,.ref s.heap.objs.size,rawInt 0,.none,.none]}).get? (s.heap.objs.size+1)=some {cls:=.type "enumerate",data:=.fields #[.none,.bool false,.ref s.heap.objs.size,rawInt 0,.none,.none]}:=by
    have e:s.heap.objs.size+1=(s.heap.push {cls:=.type "tuple_iterator",data:=.fields #[.ref l,.int 0 0]}).objs.size:=by simp only [Heap.size_push]
    rw [e];exact Heap.get?_push_size _ rfl
  exact⟨⟨_,g2,rfl⟩,h _ ⟨⟨.none,g2⟩,⟨_,Heap.get?_push_of_some _ (Heap.get?_push_size _ rfl),rfl,rfl⟩⟩ fun c o x=>Heap.get?_push_of_some _ (Heap.get?_push_of_some _ x)⟩
end
theorem iu:PySem.bootBuiltins "enumerate"=some (.type "enumerate"):=by decide+kernel
def FN(K:PySem.W.Frag)(ta:TA):TI:=fun σ H R=>ta σ H fun vs H1=>∃a,vs=[.ref a]∧(∃xs,cZ K H1 a xs)∧R (Bg K a) H1
def FL(K:PySem.W.Frag)(ta:TA):TI:=fun σ H R=>ta σ H fun vs H1=>∃a,vs=[.ref a]∧(∃xs,fm K H1 a xs)∧R (Bf K a) H1
section
variable{X:Cx}{K:PySem.W.Frag}{es:List Expr}{k0:Nat}{tp:Pos}{a:Expr}{ta:TA}{p pos:Pos}
theorem xu(hK:X.K=K)(hg:Gl X "enumerate")(hm:X.mg "enumerate"=none)(ha:PA X [a] ta)(hs:starEach [a] X.env=[(false,eval a X.env)]:=by rfl):PI X (.Tuple es k0 tp) (.Call (.Name "enumerate" p) [a] [] pos) (FN K ta):=by
  intro pins s σ H R I h
  subst hK
  refine Call_ (iF I hg hm iu (PyProof.Rows.callWith_type1 (bF (ha pos pins s σ H _ I h) fun us s1 ⟨vs,H1,I1,r1,q1⟩=>?_) hs rfl))
  obtain⟨a,e,⟨xs,qx⟩,q⟩:=q1
  subst e
  obtain⟨u,rfl,ru⟩:=je r1
  cases ru
  obtain⟨i1,v1,p1,_⟩:=I1.tuple qx
  refine rS p1 fun g st hk=>?_
  obtain⟨⟨old,he⟩,hit⟩:=id st
  refine iO he ?_
  have I2:az X pins σ H1 {s1 with heap:=g,toks:=s1.toks}:=I1.kept (t':=s1.toks) fun b o e=>hk b o e
  refine⟨s1.heap.objs.size+1,[s1.heap.objs.size+1,s1.heap.objs.size],_,_,H1,rfl,I2,sQ a (show((s1.heap.objs.size+1:Nat)≠s1.heap.objs.size) by lia),st,fun c hc=>?_,q⟩
  have le:s1.heap.objs.size≤c:=by
    simp only [List.mem_cons,List.not_mem_nil,or_false] at hc
    rcases hc with rfl | rfl
    · exact Nat.le_add_right _ 1
    · exact Nat.le_refl _
  exact I1.fpOk (H':=H1) le (I1.hok.fresh le)
theorem xt(hK:X.K=K)(hg:Gl X "enumerate")(hm:X.mg "enumerate"=none)(ha:PA X [a] ta)(hs:starEach [a] X.env=[(false,eval a X.env)]:=by rfl):PI X (.Tuple es k0 tp) (.Call (.Name "enumerate" p) [a] [] pos) (FL K ta):=by
  intro pins s σ H R I h
  subst hK
  refine Call_ (iF I hg hm iu (PyProof.Rows.callWith_type1 (bF (ha pos pins s σ H _ I h) fun us s1 ⟨vs,H1,I1,r1,q1⟩=>?_) hs rfl))
  obtain⟨a,e,⟨xs,qx⟩,q⟩:=q1
  subst e
  obtain⟨u,rfl,ru⟩:=je r1
  cases ru
  obtain⟨i1,v1,p1,_⟩:=I1.list qx
  refine call_enumerate_list p1.isList fun g he hit hsz hk=>?_
  refine iO he ?_
  have I2:az X pins σ H1 {s1 with heap:=g,toks:=s1.toks}:=I1.kept (t':=s1.toks) fun b o e=>hk b o e
  refine⟨s1.heap.objs.size+1,[s1.heap.objs.size+1,s1.heap.objs.size],_,_,H1,rfl,I2,sP a (show((s1.heap.objs.size+1:Nat)≠s1.heap.objs.size) by lia),⟨⟨_,he⟩,hit⟩,fun c hc=>?_,q⟩
  have le:s1.heap.objs.size≤c:=by
    simp only [List.mem_cons,List.not_mem_nil,or_false] at hc
    rcases hc with rfl | rfl
    · exact Nat.le_add_right _ 1
    · exact Nat.le_refl _
  exact I1.fpOk (H':=H1) le (I1.hok.fresh le)
end
end L2
namespace L2
open PySem PySem.Spec PyProof.Rows
theorem uZ{X:Cx}:eG X (compareOp .IsNot) (fun x y H Q=>∃b c,x=.bl b∧y=.bl c∧Q (.bl (!(b==c))) H):=by
  intro pins s σ H x y v u Q I rx ry h
  obtain⟨b,c,rfl,rfl,q⟩:=h
  cases rx;cases ry
  refine wpAny_isNot_plain (by cases b<;>cases c<;>rfl) ⟨.bl (!(b==c)),H,I,?_,q⟩
  show Value.bool _=Value.bool _
  cases b<;>cases c<;>rfl
section
variable{prog:Program}{w:World}{A:Around}{E:Value→Shared→Prop}{s:Shared}
end
section
variable{prog:Program}{w:World}{A:Around}{E:Value→Shared→Prop}{s:Shared}
end
section
variable{prog:Program}{w:World}{A:Around}{E:Value→Shared→Prop}{s:Shared}
end
end L2
namespace L2
open PySem PySem.Spec PyProof.Rows
theorem su{X:Cx}{ix:Nat}{nm:Str}{posn poss:Pos}{elt iter tg:Expr}{ifs:List Expr}{scope:Scope}{pos:Pos}{wi:TI}{g:TG}{tc:TT}{te:TE}(sc0:Scope)(N0:List Str)(cp:List (Nat × Str))(tgN:List Str)
    (hc:X.calm=true)(hsc:X.env.scope=sc0)(hN0:X.N=N0)(hi:PI X tg iter wi)
    (hg:∀C s0 H0 fp,PG (ar X scope cp tgN C s0 H0 fp) tg g)
    (ht:∀C s0 H0 fp,rB (ar X scope cp tgN C s0 H0 fp) ifs tc)
    (he:∀C s0 H0 fp,PE (ar X scope cp tgN C s0 H0 fp) elt te)
    (hk:scope.kind=.function)(hcell:∀y∈scope.names,y.2≠.cell)(hnames:∀y∈scope.names,y.2=.local→scope.names.lookup y.1=some .local)
    (hfr:∀y∈scope.names,y.2=.free→scope.names.lookup y.1=some .free∧sc0.names.lookup y.1=some .cell)
    (hcp:∀p∈cp,N0[p.1]?=some p.2)(hcq:∀p∈cp,sc0.names.lookup p.2=some .cell∧scope.names.lookup p.2=some .free)
    (hNd:X.N.Nodup)(hix:X.N[ix]?=some nm)(hlc:X.env.scope.names.lookup nm=some .local)(hsw:swapsWith (.ListComp elt [⟨tg,iter,ifs,0⟩] scope pos) (some (.Name nm posn)) poss.line X.env=pure true)
    (hs:∀x,foldedSetIterable iter X.env x=pure x:=by intro _;rfl):
    PS X (.Assign [.Name nm posn] (.ListComp elt [⟨tg,iter,ifs,0⟩] scope pos) poss) (z_ (uj cp tgN.length wi g tc te) (tP ix)):=by
  intro pins s σ H D0 I h
  let Q:VK:=fun x H1=>D0.nx (σ.set ix (some x)) H1
  have h:uj cp tgN.length wi g tc te σ H Q:=h
  have hkind:∀x,X.env.kindOf x=sc0.names.lookup x:=fun x=>by unfold Env.kindOf;rw [hsc]
  have hfree:∀y∈scope.names,y.2=.free→∃c,X.env.cells.lookup y.1=some c:=fun y hy e=>I.ok.has y.1 (.inl (by rw [hkind];exact(hfr y hy e).2))
  rw [exec_Assign_Name_used _ _ _ _ hsw]
  refine wpAny_bind (wpAny_standAt (wpAny_bind ?_))
  unfold evalThenUse
  refine wpAny_bind ?_
  refine wpAny_comprehension_free (use:=some (assign (.Name nm posn) X.env)) rfl hs (i9 hfree) hk hnames (wpAny_mono (hi pins s σ H _ I h.go) (fun xv s₁ h₁=>wpAny_mono h₁ (fun itv s₂ h₂=>?_) fun _ _ e=>e) fun _ _ e=>e)
  obtain⟨it,fp,tn,J,H2,rfl,I2,T,st2,f2,hq⟩:=h₂
  refine wpAny_newObj_type ?_
  have hlF:H2 s₂.heap.objs.size=none:=I2.hok.fresh (Nat.le_refl _)
  have I3:az X pins σ (aV H2 s₂.heap.objs.size (.lst [])) {s₂ with heap:=s₂.heap.push {cls:=.type "list",data:=.seq ([]:List Value).toArray}}:=I2.lnew (t':=s₂.toks) .nil (Nat.zero_le _)
  obtain⟨W,⟨m0,w0⟩,turn⟩:=hq _ hlF
  have f3:∀b∈fp,gv X pins (aV H2 s₂.heap.objs.size (.lst [])) b:=fun b hb=>by
    obtain⟨f0,fr⟩:=f2 b hb
    obtain⟨o,ho,_⟩:=T.obj _ _ st2 b hb
    exact⟨by rw [ax (Nat.ne_of_lt (Heap.lt_size ho))];exact f0,fr⟩
  have st3:tn 0 (s₂.heap.push {cls:=.type "list",data:=.seq ([]:List Value).toArray}):=T.keep _ _ _ st2 fun b _ o e=>Heap.get?_push_of_some _ e
  generalize hD:s₂.heap.objs.size=D at*
  generalize hs3:({s₂ with heap:=s₂.heap.push {cls:=.type "list",data:=.seq ([]:List Value).toArray}}:Shared)=s₃ at*
  have hst3:tn 0 s₃.heap:=by rw [←hs3];exact st3
  refine wpAny_newFunctionEnv hcell (by intro y hy;simp at hy) (fun h₁ hns₁ hsb₁=>?_) hk
  generalize hC:s₃.heap.objs.size=C at*
  have old:∀b o,s₃.heap.get? b=some o→h₁.get? b=some o:=fun b o e=>hsb₁.extBut b o (by rw [←hC];exact Nat.ne_of_lt (Heap.lt_size e)) (Heap.get?_push_of_some _ e)
  have nC:∀b o,s₃.heap.get? b=some o→b≠C:=fun b o e=>by rw [←hC];exact Nat.ne_of_lt (Heap.lt_size e)
  have hHC:(aV H2 D (.lst [])) C=none:=I3.hok.fresh (by rw [hC];exact Nat.le_refl _)
  have clS:∀x c,(fw X.env scope.names []).lookup x=some c→X.env.cells.lookup x=some c:=fun x c e=>gO _ _ x c hfree (fun _ _ z=>by simp at z) e
  have clH:∀x,(∃y∈scope.names,y.1=x∧y.2=.free)→∃c,(fw X.env scope.names []).lookup x=some c:=fun x e=>jo _ _ x (.inl e)
  have ok':(ar X scope cp tgN C s₃ (aV H2 D (.lst [])) fp).Ok:=by
    refine⟨I.ok.mod,hk,I.ok.glob,I.ok.blt,by rw [←hC];exact Nat.le_refl _,fun x y c e1 e2=>I.ok.inj x y c (clS _ _ e1) (clS _ _ e2),fun x e=>clH x (b6 hcell e),fun x c e1 e2=>?_,I.ok.hd,I.ok.frames,.inl rfl,fun b hb=>?_,fun b o e=>I3.bs b o e,?_,fun b o e hb=>?_,fun b hb z=>?_,I3.stack,fun b hb=>I3.stkFree b hb⟩
    · exfalso
      have e1':scope.names.lookup x=some .local:=by simpa [ar] using e1
      have e2':=clS x c e2
      obtain⟨c',hc'⟩:∃y∈scope.names,y.1=x∧y.2=.free:=by
        by_cases q:∃y∈scope.names,y.1=x∧y.2=.free
        · exact q
        · exfalso
          have:∀(names:List (Str × NameKind)) (cs:List (Str × Addr)),(¬∃y∈names,y.1=x∧y.2=.free)→cs.lookup x=none→(fw X.env names cs).lookup x=none:=by
            intro names
            induction names with
            | nil=>intro cs _ h;exact h
            | cons y r ih=>
              intro cs hn hcs
              obtain⟨n,k⟩:=y
              refine ih _ (fun⟨y,hy,z⟩=>hn ⟨y,List.mem_cons_of_mem _ hy,z⟩) ?_
              by_cases hk:(k==NameKind.free)=true
              · rw [if_pos hk,List.lookup_cons]
                cases hx:x==n with
                | true=>exact absurd ⟨(n,k),List.mem_cons_self,(by simpa using hx:x=n).symm,by simpa using hk⟩ hn
                | false=>exact hcs
              · rw [if_neg hk];exact hcs
          have z:=this scope.names [] q rfl
          have e2'':(fw X.env scope.names []).lookup x=some c:=e2
          rw [z] at e2'';cases e2''
      have z:=(hfr c' hc'.1 hc'.2.2).1
      rw [hc'.2.1,e1'] at z;cases z
    · obtain⟨f0,f1,f4,f5,f6,f7⟩:=f3 b hb
      obtain⟨o,ho,_⟩:=T.obj _ _ hst3 b hb
      exact⟨nC b o ho,fun x c e=>f6 x c (clS x c e)⟩
    · exact Nat.le_trans I.ok.bsz I3.sz
    · obtain⟨f0,f1,f4,f5,f6,f7⟩:=f3 b hb
      rcases f5 with z | z
      · exact I.ok.noex b o e z
      · have:=(I.ok.bs b o e).1
        exact absurd (Nat.lt_of_lt_of_le (Heap.lt_size this) z) (Nat.lt_irrefl _)
    · obtain⟨f0,f1,f4,f5,f6,f7⟩:=f3 b hb
      rcases List.mem_cons.mp (I3.stkSub b z) with z | z
      · exact f1 z
      · exact f4 z
  have I4:az (ar X scope cp tgN C s₃ (aV H2 D (.lst [])) fp) [] (dN cp tgN.length σ) (aV H2 D (.lst [])) {s₃ with heap:=h₁,toks:=s₃.toks+([]:List (Str × Value)).length}:=by
    refine⟨ok',rfl,I3.bare,Un.kept old,⟨_,hns₁,fun i x v e1 e2 e3=>?_⟩,fun x c e=>?_,hHC,fun x c e=>I3.freeC x c (clS x c e),fun p hp=>by simp [ar] at hp,I3.hok.kept old,by simp [dN,ar]⟩
    · have hlt:i < cp.length:=by
        by_cases q:i < cp.length
        · exact q
        · exfalso
          unfold dN at e2
          rw [List.getElem?_append_right (by simp;lia)] at e2
          rw [List.getElem?_replicate] at e2
          split at e2<;>cases e2
      have e1':(cp.map (·.2))[i]?=some x:=by
        have e1'':(cp.map (·.2)++tgN)[i]?=some x:=e1
        rwa [List.getElem?_append_left (by simp;exact hlt)] at e1''
      have e2':(cp.map (fun p=>(σ[p.1]?).join))[i]?=some (some v):=by
        unfold dN at e2
        rwa [List.getElem?_append_left (by simp;exact hlt)] at e2
      rw [List.getElem?_map,List.getElem?_eq_getElem hlt] at e1' e2'
      have ex:(cp[i]).2=x:=by simpa using e1'
      have ev:(σ[(cp[i]).1]?).join=some v:=by simpa using e2'
      have ev':σ[(cp[i]).1]?=some (some v):=by
        cases q:σ[(cp[i]).1]? with
        | none=>rw [q] at ev;cases ev
        | some z=>rw [q] at ev;simp only [Option.join_some] at ev;rw [ev]
      have hN:=hcp cp[i] (List.getElem_mem hlt)
      rw [←hN0] at hN
      obtain⟨hcl,hcf⟩:=hcq cp[i] (List.getElem_mem hlt)
      rw [ex] at hN hcl hcf
      obtain⟨m,hn,hl⟩:=I3.loc
      obtain⟨u,r,l⟩:=hl _ x v hN ev' (.inr (.inl (by rw [hsc];exact hcl)))
      refine⟨u,r,.inr ?_⟩
      rcases l with ⟨k1,_⟩ | ⟨k1,c,hcc,o,ho,hd⟩
      · rw [hkind,hcl] at k1;cases k1
      · have e3':(relabel scope X.env).names.lookup x=some .local∨(relabel scope X.env).names.lookup x=some .cell∨(relabel scope X.env).names.lookup x=some .free:=e3
        have nl:(relabel scope X.env).names.lookup x=some .cell∨(relabel scope X.env).names.lookup x=some .free:=by
          rcases e3' with z | z | z
          · exact absurd z (de hcf)
          · exact .inl z
          · exact .inr z
        obtain⟨c',hc'⟩:=clH x (b6 hcell nl)
        have:=clS x c' hc'
        rw [hcc] at this;cases this
        exact⟨nl,c,hc',o,old c o ho,hd⟩
    · obtain⟨v,o,ho,hd⟩:=I3.cell x c (clS x c e)
      exact⟨v,o,old c o ho,hd⟩
  have hst4:tn 0 h₁:=T.keep _ _ _ hst3 fun b _ o e=>old b o e
  have loop:codeAny (model X.prog X.w) X.A (.compLoop (.ListComp elt [⟨tg,iter,ifs,0⟩] scope pos) 0 (.ref it) (.ref D) (compEnvC scope (fw X.env scope.names []) C X.env))
      (compPost (model X.prog X.w) X.A X.xe (some (assign (.Name nm posn) X.env)) (fun _ s'=>wpAny (model X.prog X.w) X.A (pure ()) (fun _ s''=>wpAny (model X.prog X.w) X.A (pure Flow.next) (SP X pins D0) X.xe s'') X.xe s') (.ref D) C) {s₃ with heap:=h₁,toks:=s₃.toks+([]:List (Str × Value)).length}:=by
    refine jq (fun n s'=>∃i σ' H',az (ar X scope cp tgN C s₃ (aV H2 D (.lst [])) fp) [] σ' H' s'∧tn i s'.heap∧(∀b∈fp,H' b=none)∧W i n σ' H') ?_ (n0:=m0) ⟨0,_,_,I4,hst4,fun b hb=>(f3 b hb).1,w0⟩
    rintro n s5 ⟨i,σ5,H5,I5,st5,fr5,w5⟩
    have stat:∀{H':Hp},(∀b∈fp,H' b=none)→∀b∈fp,gv (ar X scope cp tgN C s₃ (aV H2 D (.lst [])) fp) [] H' b:=fun hn b hb=>
      ⟨hn b hb,(ok'.exf b hb).1,ok'.exfs b hb,.inl hb,(ok'.exf b hb).2,fun p hp=>by simp [ar] at hp⟩
    rcases turn i n σ5 H5 w5 with ⟨stop,qn⟩ | ⟨go,N,hN,step⟩
    · refine bF (T.done (ar X scope cp tgN C s₃ (aV H2 D (.lst [])) fp) rfl rfl rfl hc i [] s5 σ5 H5 (fun _ _=>False) I5 (stat fr5) st5 stop) fun r s6 ⟨hr,I6⟩=>?_
      subst hr
      refine⟨fun _=>?_,fun v z=>by cases z⟩
      obtain⟨m,hn,_⟩:=I6.loc
      have I7:az X pins σ H5 s6:=by
        have key:∀h':Heap,Heap.SameBut C s6.heap h'→az X pins σ H5 {s6 with heap:=h'}:=fun h' sb=>by
          have ub:=I6.base
          have kp:∀b u,b≠C→s6.heap.get? b=some u→h'.get? b=some u:=fun b u ne e=>sb.extBut b u ne e
          have nit:∀b u,H5 b=some u→b≠C:=fun b u e z=>by
            have:=I6.free
            rw [z] at e
            rw [show H5 C=none from this] at e;cases e
          refine I3.call' (s':={s6 with heap:=h'}) (ch:=fp) I6.os ⟨fun b o e n hb hx=>kp b o (nC b o e) (ub.keep b o e n hb hx),fun b o e n hb hx=>?_,ub.free,fun b o e hx=>?_,ub.tups,ub.frzs,ub.tbls⟩ (fun b u e=>?_) I6.bare (fun b hb=>?_)
          · obtain⟨sl,q⟩:=ub.slot b o e n hb hx
            exact⟨sl,kp b _ (nC b o e) q⟩
          · obtain⟨o',q⟩:=ub.there b o e hx
            exact⟨o',kp b _ (nC b o e) q⟩
          · refine(I6.hok b u e).stay (fun c v hc q=>kp c v ?_ q) (fun _ q=>q) fun _ _ q=>q
            rcases hc with z | z
            · rw [z];exact nit b u e
            · exact nit c _ z
          · obtain⟨f0,f1,f4,f5,f6,f7⟩:=f3 b hb
            exact⟨f5,f1,f6,f7⟩
        exact key s6.heap ⟨rfl,fun _ _=>rfl⟩
      have fC:gv X pins H5 C:=I3.fpOk (by rw [hC];exact Nat.le_refl _) I6.free
      show wpAny (model X.prog X.w) X.A (assign (.Name nm posn) X.env (.ref D)) _ X.xe s6
      refine wpAny_assign_Name (kl (v:=.ref D) I7 hNd hix (Or.inl hlc) rfl (fun s' I' hsb=>?_) (Or.inr hlc))
      obtain⟨a,sb,ha⟩:=hsb
      have nCa:C≠a:=by
        rcases ha with z | z
        · rw [z];exact fC.2.1
        · exact fun e=>fC.2.2.2.2.1 _ _ z e.symm
      obtain⟨oN,esN,epN,hoN,rN⟩:=hn
      refine⟨m,⟨oN,esN,epN,(sb.2 C nCa).trans hoN,rN⟩,fun h' sb'=>wpAny_pure (wpAny_pure ?_)⟩
      have I8:az X pins (σ.set ix (some (.ref D))) H5 {s' with heap:=h',toks:=s'.toks}:=I'.turnedL (t':=s'.toks) (fp:=[C]) (fun b hb=>by rw [List.mem_singleton.mp hb];exact fC) fun b o nb e=>sb'.extBut b o (by simpa using nb) e
      exact⟨_,H5,I8,qn⟩
    · refine bF (T.item (ar X scope cp tgN C s₃ (aV H2 D (.lst [])) fp) rfl rfl rfl hc i [] s5 σ5 H5 (fun _ _=>False) I5 (stat fr5) st5 go) fun r s6 ⟨u,hr,h6⟩=>?_
      subst hr
      refine⟨fun z=>(by cases z),fun v z=>?_⟩
      cases z
      refine bF h6 fun _ s7 ⟨x,H7,I7,r7,y7,st7,fr7⟩=>?_
      have I7':=I7.pinned (stat fr7) (T.obj _ _ st7)
      have again:∀{σ8:L2.St} {H8:Hp} {s8:Shared},az (ar X scope cp tgN C s₃ (aV H2 D (.lst [])) fp) ([]++iH fp s7.heap) σ8 H8 s8→N σ8 H8→∃m,m < n∧∃i σ' H',az (ar X scope cp tgN C s₃ (aV H2 D (.lst [])) fp) [] σ' H' s8∧tn i s8.heap∧(∀b∈fp,H' b=none)∧W i m σ' H':=fun{σ8 H8 s8} I8 n8=>by
        obtain⟨m',hm,w8⟩:=hN σ8 H8 n8
        refine⟨m',hm,i+1,σ8,H8,I8.unpinned,T.keep _ _ _ st7 fun b hb o e=>(I8.pin (b,o) (List.mem_append_right _ (List.mem_append_right _ (bK hb e)))).1,fun b hb=>?_,w8⟩
        obtain⟨o,e,d⟩:=T.obj _ _ st7 b hb
        exact(I8.pin (b,o) (List.mem_append_right _ (List.mem_append_right _ (bK hb e)))).2.1
      refine bF (hg C s₃ (aV H2 D (.lst [])) fp _ s7 σ5 H7 x u _ I7' r7 (step x H7 y7)) fun _ s8 ⟨σ8,H8,I8,q8⟩=>?_
      refine bF (ht C s₃ (aV H2 D (.lst [])) fp _ s8 σ8 H8 _ I8 q8) fun ok s9 ⟨H9,I9,q9⟩=>?_
      cases ok with
      | false=>
        rw [if_neg Bool.false_ne_true] at q9 ⊢
        exact again I9 q9
      | true=>
        rw [if_pos rfl] at q9 ⊢
        refine bF (he C s₃ (aV H2 D (.lst [])) fp _ s9 σ8 H9 _ I9 q9) fun v s10 ⟨xv,H10,I10,r10,ys,hl,hz,n10⟩=>?_
        refine bF (ff _ s10 σ8 H10 (.ref D) [xv] (.ref D) [v] (fun _ H=>N σ8 H) I10 rfl (.cons r10 .nil) ⟨D,ys,xv,rfl,rfl,hl,hz,n10⟩) fun _ s11 ⟨_,H11,I11,_,q11⟩=>?_
        exact again I11 q11
  exact codeAny_compStart_list loop (T.self X.A 0 _ _ _ hst4 loop)
end L2
namespace L2
open PySem PySem.Spec PyProof.Rows
mutual
def DA(K:PySem.W.Frag)(F:Hp):PyData→V→Prop
  | .none,v=>v=.non
  | .bool b,v=>v=.bl b
  | .int i,v=>v=.int i
  | .str x,v=>v=.str x
  | .tuple ds,v=>∃a xs,v=.ref a∧cZ K F a xs∧aC K F ds xs
  | .list ds,v=>∃a xs,v=.ref a∧fm K F a xs∧aC K F ds xs
  | .dict kvs,v=>∃(a:Addr) (m:List (Int × Int)),v=.ref a∧F a=some (.dK (m.map fun p=>(Sum.inl p.1,V.int p.2)))∧kvs=m.map fun p=>(PyData.int p.1,PyData.int p.2)
def aC(K:PySem.W.Frag)(F:Hp):List PyData→List V→Prop
  | [],xs=>xs=[]
  | d::ds,xs=>∃x r,xs=x::r∧DA K F d x∧aC K F ds r
end
mutual
theorem DA.mono{K:PySem.W.Frag}{F F':Hp}(h:av F F'):∀{d:PyData} {v:V},DA K F d v→DA K F' d v
  | .none,_,q=>by simp only [DA] at q ⊢;exact q
  | .bool b,_,q=>by simp only [DA] at q ⊢;exact q
  | .int i,_,q=>by simp only [DA] at q ⊢;exact q
  | .str x,_,q=>by simp only [DA] at q ⊢;exact q
  | .tuple ds,_,q=>by
    simp only [DA] at q ⊢
    obtain⟨a,xs,e,s,r⟩:=q
    exact⟨a,xs,e,h.tup s,aC.mono h r⟩
  | .list ds,_,q=>by
    simp only [DA] at q ⊢
    obtain⟨a,xs,e,s,r⟩:=q
    exact⟨a,xs,e,h.seq s,aC.mono h r⟩
  | .dict _,_,q=>by
    simp only [DA] at q ⊢
    obtain⟨a,m,e,s,k⟩:=q
    exact⟨a,m,e,h _ _ s,k⟩
theorem aC.mono{K:PySem.W.Frag}{F F':Hp}(h:av F F'):∀{ds:List PyData} {xs:List V},aC K F ds xs→aC K F' ds xs
  | [],_,q=>by simp only [aC] at q ⊢;exact q
  | d::ds,_,q=>by
    simp only [aC] at q ⊢
    obtain⟨x,r,e,a,b⟩:=q
    exact⟨x,r,e,DA.mono h a,aC.mono h b⟩
end
section
variable{K:PySem.W.Frag}{F:Hp}
theorem aC.len:∀{ds:List PyData} {xs:List V},aC K F ds xs→ds.length=xs.length
  | [],_,q=>by simp only [aC] at q;subst q;rfl
  | d::ds,_,q=>by
    simp only [aC] at q
    obtain⟨x,r,e,a,b⟩:=q
    subst e
    simp [aC.len b]
theorem aC.get:∀{ds:List PyData} {xs:List V} {i:Nat} {d:PyData},aC K F ds xs→ds[i]?=some d→∃v,xs[i]?=some v∧DA K F d v
  | [],_,_,_,_,h=>by simp at h
  | d::ds,_,i,d',q,h=>by
    simp only [aC] at q
    obtain⟨x,r,e,a,b⟩:=q
    subst e
    cases i with
    | zero=>simp at h;subst h;exact⟨x,rfl,a⟩
    | succ i=>
      obtain⟨v,h1,h2⟩:=aC.get (i:=i) b (by simpa using h)
      exact⟨v,by simpa using h1,h2⟩
theorem aC.append:∀{ds es:List PyData} {xs ys:List V},aC K F ds xs→aC K F es ys→aC K F (ds++es) (xs++ys)
  | [],_,_,_,q,s=>by simp only [aC] at q;subst q;simpa using s
  | d::ds,es,_,ys,q,s=>by
    simp only [aC] at q
    obtain⟨x,r,e,a,b⟩:=q
    subst e
    simp only [List.cons_append,aC]
    exact⟨x,_,rfl,a,aC.append b s⟩
theorem aC.one{d:PyData}{v:V}(h:DA K F d v):aC K F [d] [v]:=by simp only [aC];exact⟨_,_,rfl,h,rfl⟩
theorem aC.nil:aC K F [] []:=by simp only [aC]
theorem aC.cons{d:PyData}{v:V}{ds:List PyData}{vs:List V}(h:DA K F d v)(r:aC K F ds vs):aC K F (d::ds) (v::vs):=by simp only [aC];exact⟨_,_,rfl,h,r⟩
theorem aC.drop:∀{ds:List PyData} {xs:List V} (n:Nat),aC K F ds xs→aC K F (ds.drop n) (xs.drop n)
  | _,_,0,q=>q
  | [],_,n+1,q=>by simp only [aC] at q;subst q;exact aC.nil
  | d::ds,_,n+1,q=>by
    simp only [aC] at q
    obtain⟨x,r,e,a,b⟩:=q
    subst e
    simpa using aC.drop n b
theorem aC.take:∀{ds:List PyData} {xs:List V} (n:Nat),aC K F ds xs→aC K F (ds.take n) (xs.take n)
  | _,_,0,q=>by simpa using aC.nil
  | [],_,n+1,q=>by simp only [aC] at q;subst q;exact aC.nil
  | d::ds,_,n+1,q=>by
    simp only [aC] at q
    obtain⟨x,r,e,a,b⟩:=q
    subst e
    simpa using aC.cons a (aC.take n b)
theorem aC.erase:∀{ds:List PyData} {xs:List V} (n:Nat),aC K F ds xs→aC K F (ds.eraseIdx n) (xs.eraseIdx n)
  | [],_,_,q=>by simp only [aC] at q;subst q;exact aC.nil
  | e::ds,_,n,q=>by
    simp only [aC] at q
    obtain⟨x,r,e,a,b⟩:=q
    subst e
    cases n with
    | zero=>exact b
    | succ n=>exact aC.cons a (aC.erase n b)
theorem aC.ints:∀{ns:List Int} {xs:List V},aC K F (ns.map .int) xs↔ xs=ns.map V.int
  | [],xs=>by simp [aC]
  | n::ns,xs=>by
    simp only [List.map_cons,aC,DA]
    constructor
    · rintro⟨x,r,e,rfl,q⟩;rw [e,aC.ints.mp q]
    · rintro rfl;exact⟨_,_,rfl,rfl,aC.ints.mpr rfl⟩
theorem aC.bools:∀{ns:List Bool} {xs:List V},aC K F (ns.map .bool) xs↔ xs=ns.map V.bl
  | [],xs=>by simp [aC]
  | n::ns,xs=>by
    simp only [List.map_cons,aC,DA]
    constructor
    · rintro⟨x,r,e,rfl,q⟩;rw [e,aC.bools.mp q]
    · rintro rfl;exact⟨_,_,rfl,rfl,aC.bools.mpr rfl⟩
theorem bM{i:Int}{v:V}:DA K F (.int i) v↔ v=.int i:=by simp only [DA]
theorem c_{b:Bool}{v:V}:DA K F (.bool b) v↔ v=.bl b:=by simp only [DA]
theorem eT{v:V}:DA K F .none v↔ v=.non:=by simp only [DA]
theorem ox{x:Str}{v:V}:DA K F (.str x) v↔ v=.str x:=by simp only [DA]
theorem bN{ds:List PyData}{v:V}:DA K F (.tuple ds) v↔ ∃a xs,v=.ref a∧cZ K F a xs∧aC K F ds xs:=by simp only [DA]
theorem cw{ds:List PyData}{v:V}:DA K F (.list ds) v↔ ∃a xs,v=.ref a∧fm K F a xs∧aC K F ds xs:=by simp only [DA]
end
inductive Sv where
  | d (x:PyData)
  | l (xs:List PyData)
  /-- a list of lists that nobody else holds -/
  | n (xss:List (List PyData))
abbrev En:=List (Option Sv)
inductive Rv where
  | d (x:PyData)
  | l (xs:List PyData)
  | s (i:Nat)
def Fp(σ:L2.St)(e:En)(H:Hp)(i:Nat)(a:Addr):Prop:=(∃xs:List PyData,e[i]?=some (some (Sv.l xs))∧σ[i]?=some (some (.ref a)))∨
  ∃(xss:List (List PyData)) (l:Addr) (bs:List Addr),e[i]?=some (some (Sv.n xss))∧σ[i]?=some (some (.ref l))∧H l=some (.lst (bs.map V.ref))∧(a=l∨a∈bs)
def cv(σ:L2.St)(e:En)(H:Hp)(a:Addr):Prop:=∃i,Fp σ e H i a
structure aX (K:PySem.W.Frag) (F H:Hp) (σ:L2.St) (e:En):Prop where
  sm:av F H
  len:σ.length=e.length
  dat:∀(i:Nat) (x:PyData),e[i]?=some (some (.d x))→∃v,σ[i]?=some (some v)∧DA K F x v
  own:∀(i:Nat) (xs:List PyData),e[i]?=some (some (.l xs))→∃l vs,σ[i]?=some (some (.ref l))∧F l=none∧H l=some (.lst vs)∧aC K F xs vs
  nst:∀(i:Nat) (xss:List (List PyData)),e[i]?=some (some (.n xss))→∃(l:Addr) (bs:List Addr),σ[i]?=some (some (.ref l))∧F l=none∧H l=some (.lst (bs.map V.ref))∧bs.length=xss.length∧bs.Nodup∧l∉bs∧
    ∀(k:Nat) (b:Addr) (ys:List PyData),bs[k]?=some b→xss[k]?=some ys→F b=none∧∃us,H b=some (.lst us)∧aC K F ys us
  fp:∀(i j:Nat) (a:Addr),Fp σ e H i a→Fp σ e H j a→i=j
theorem aX.inj{K:PySem.W.Frag}{F H:Hp}{σ:L2.St}{e:En}(R:aX K F H σ e)(i j:Nat)(xs ys:List PyData)(l:Addr)(h1:e[i]?=some (some (.l xs)))(h2:e[j]?=some (some (.l ys)))(h3:σ[i]?=some (some (.ref l)))(h4:σ[j]?=some (some (.ref l))):i=j:=R.fp i j l (.inl ⟨xs,h1,h3⟩) (.inl ⟨ys,h2,h4⟩)
theorem aX.fpAt{K:PySem.W.Frag}{F H:Hp}{σ:L2.St}{e:En}(R:aX K F H σ e){i:Nat}{a:Addr}(h:Fp σ e H i a):F a=none∧∃vs,H a=some (.lst vs):=by
  rcases h with ⟨xs,h1,h2⟩ | ⟨xss,l,bs,h1,h2,h3,h4⟩
  · obtain⟨l,vs,g1,g2,g3,_⟩:=R.own i xs h1
    rw [h2] at g1;cases g1
    exact⟨g2,vs,g3⟩
  · obtain⟨l',bs',g1,g2,g3,g4,g5,g6,g7⟩:=R.nst i xss h1
    rw [h2] at g1;cases g1
    rw [h3] at g3
    have e1:bs=bs':=by
      have:=HO.lst.inj (Option.some.inj g3)
      exact List.map_inj_right (fun _ _ z=>V.ref.inj z) |>.mp this
    subst e1
    rcases h4 with rfl | h4
    · exact⟨g2,_,h3⟩
    · obtain⟨k,hk⟩:=List.getElem?_of_mem h4
      have hk2:k < xss.length:=by rw [←g4];exact(List.getElem?_eq_some_iff.mp hk).1
      obtain⟨c1,us,c2,_⟩:=g7 k a xss[k] hk (List.getElem?_eq_getElem hk2)
      exact⟨c1,us,c2⟩
structure dw (σ:L2.St) (F H:Hp) (e:En) (F' H':Hp) (e':En):Prop where
  sf:av F F'
  dom:∀a,H' a=none→H a=none
  fr:∀a vs,F a=none→H a=some (.lst vs)→¬cv σ e H a→F' a=none
  lst:∀a vs,H a=some (.lst vs)→∃vs',H' a=some (.lst vs')
  tmp:∀a o,H a=some o→¬cv σ e H a→H' a=some o
  shp:∀i:Nat,(∃xs,e'[i]?=some (some (.l xs)))↔ (∃xs,e[i]?=some (some (.l xs)))
  ow:∀a,cv σ e' H' a→cv σ e H a∨H a=none
theorem dw.refl(σ:L2.St)(F H:Hp)(e:En):dw σ F H e F H e:=⟨av.refl _,fun _ h=>h,fun _ _ h _ _=>h,fun _ vs h=>⟨vs,h⟩,fun _ _ h _=>h,fun _=>Iff.rfl,fun _ h=>.inl h⟩
theorem dw.trans{σ:L2.St}{F H F1 H1 F2 H2:Hp}{e e1 e2:En}(x:dw σ F H e F1 H1 e1)(y:dw σ F1 H1 e1 F2 H2 e2):dw σ F H e F2 H2 e2:=
  ⟨x.sf.trans y.sf,fun a h=>x.dom a (y.dom a h),fun a vs h n no=>let ⟨vs',q⟩:=x.lst a vs n;y.fr a vs' (x.fr a vs h n no) q (fun z=>(x.ow a z).elim no fun z=>by rw [n] at z;cases z),fun a vs h=>let ⟨vs',q⟩:=x.lst a vs h;y.lst a vs' q,
    fun a o h n=>y.tmp a o (x.tmp a o h n) (fun z=>(x.ow a z).elim n fun z=>by rw [h] at z;cases z),fun i=>(y.shp i).trans (x.shp i),fun a h=>(y.ow a h).elim (x.ow a) fun z=>.inr (x.dom a z)⟩
def b7(K:PySem.W.Frag)(σ:L2.St)(H0 F H:Hp)(e:En):Rv→V→Prop
  | .d x,v=>DA K F x v
  | .l xs,v=>∃l vs,v=.ref l∧H0 l=none∧F l=none∧H l=some (.lst vs)∧aC K F xs vs∧¬cv σ e H l
  | .s i,v=>σ[i]?=some (some v)∧∃xs,e[i]?=some (some (.l xs))
section
variable{K:PySem.W.Frag}{σ:L2.St}{H0 F H F' H':Hp}{e e':En}{r:Rv}{v:V}
theorem b7.ext(h:b7 K σ H0 F H e r v)(x:dw σ F H e F' H' e'):b7 K σ H0 F' H' e' r v:=by
  cases r with
  | d y=>exact DA.mono x.sf h
  | l xs=>
    obtain⟨l,vs,e1,h1,h2,h3,h4,h5⟩:=h
    exact⟨l,vs,e1,h1,x.fr l _ h2 h3 h5,x.tmp l _ h3 h5,aC.mono x.sf h4,fun z=>(x.ow l z).elim h5 fun z=>by rw [h3] at z;cases z⟩
  | s i=>exact⟨h.1,(x.shp i).mpr h.2⟩
theorem b7.weak{H1:Hp}(h:b7 K σ H1 F H e r v)(d:∀a,H1 a=none→H0 a=none):b7 K σ H0 F H e r v:=by
  cases r with
  | d y=>exact h
  | l xs=>
    obtain⟨l,vs,e1,h1,r⟩:=h
    exact⟨l,vs,e1,d l h1,r⟩
  | s i=>exact h
theorem aX.ownH(R:aX K F H σ e)(a:Addr)(h:cv σ e H a):H a≠none:=by
  obtain⟨i,h⟩:=h
  obtain⟨_,vs,h2⟩:=R.fpAt h
  rw [h2];simp
theorem aX.freeF(R:aX K F H σ e){p:Addr}(hp:H p=none):F p=none:=R.sm.free hp
theorem yP(R:aX K F H σ e)(h:∀l bs,H l=some (.lst bs)→cv σ e H l→H' l=some (.lst bs)){i:Nat}{a:Addr}:Fp σ e H' i a↔ Fp σ e H i a:=by
  have key:∀xss l,e[i]?=some (some (.n xss))→σ[i]?=some (some (.ref l))→H' l=H l:=fun xss l h1 h2=>by
    obtain⟨l',bs,g1,g2,g3,_⟩:=R.nst i xss h1
    rw [h2] at g1;cases g1
    rw [g3]
    exact h l _ g3 ⟨i,.inr ⟨xss,l,bs,h1,h2,g3,.inl rfl⟩⟩
  constructor
  · rintro(h1 | ⟨xss,l,bs,h1,h2,h3,h4⟩)
    · exact .inl h1
    · exact .inr ⟨xss,l,bs,h1,h2,by rw [←key xss l h1 h2];exact h3,h4⟩
  · rintro(h1 | ⟨xss,l,bs,h1,h2,h3,h4⟩)
    · exact .inl h1
    · exact .inr ⟨xss,l,bs,h1,h2,by rw [key xss l h1 h2];exact h3,h4⟩
theorem aX.keep(R:aX K F H σ e)(sF:av F F')(sm:av F' H')(hf:∀a,cv σ e H a→F' a=none)(hh:∀a o,cv σ e H a→H a=some o→H' a=some o):aX K F' H' σ e∧∀a,cv σ e H' a↔ cv σ e H a:=by
  have fs:∀{i a},Fp σ e H' i a↔ Fp σ e H i a:=fun{i a}=>yP R fun l bs h1 h2=>hh l _ h2 h1
  refine⟨⟨sm,R.len,fun i x h=>let ⟨v,h1,h2⟩:=R.dat i x h;⟨v,h1,DA.mono sF h2⟩,fun i xs h=>?_,fun i xss h=>?_,fun i j a h1 h2=>R.fp i j a (fs.mp h1) (fs.mp h2)⟩,fun a=>⟨fun⟨i,h⟩=>⟨i,fs.mp h⟩,fun⟨i,h⟩=>⟨i,fs.mpr h⟩⟩⟩
  · obtain⟨l,vs,h1,h2,h3,h4⟩:=R.own i xs h
    have o:cv σ e H l:=⟨i,.inl ⟨xs,h,h1⟩⟩
    exact⟨l,vs,h1,hf l o,hh l _ o h3,h4.mono sF⟩
  · obtain⟨l,bs,h1,h2,h3,h4,h5,h6,h7⟩:=R.nst i xss h
    have o:cv σ e H l:=⟨i,.inr ⟨xss,l,bs,h,h1,h3,.inl rfl⟩⟩
    refine⟨l,bs,h1,hf l o,hh l _ o h3,h4,h5,h6,fun k b ys g1 g2=>?_⟩
    obtain⟨c1,us,c2,c3⟩:=h7 k b ys g1 g2
    have ob:cv σ e H b:=⟨i,.inr ⟨xss,l,bs,h,h1,h3,.inr (List.mem_of_getElem? g1)⟩⟩
    exact⟨hf b ob,us,hh b _ ob c2,c3.mono sF⟩
theorem aX.same(R:aX K F H σ e)(s:av H H'):aX K F H' σ e∧dw σ F H e F H' e:=by
  obtain⟨R',o'⟩:=R.keep (av.refl F) (R.sm.trans s) (fun a ⟨i,h⟩=>(R.fpAt h).1) fun a o _ h=>s a o h
  exact⟨R',⟨av.refl _,fun a h=>s.free h,fun _ _ h _ _=>h,fun a vs h=>⟨vs,s _ _ h⟩,fun a o h _=>s a o h,fun _=>Iff.rfl,fun a h=>.inl ((o' a).mp h)⟩⟩
theorem aX.freeze(R:aX K F H σ e){p:Addr}{o:HO}(hF:F p=none)(hp:H p=some o)(hn:¬cv σ e H p):aX K (aV F p o) H σ e∧av F (aV F p o):=by
  have sF:av F (aV F p o):=av.new hF
  refine⟨(R.keep sF (fun b u q=>?_) (fun a ha=>?_) fun _ _ _ h=>h).1,sF⟩
  · by_cases z:b=p
    · subst z;rw [am] at q;cases q;exact hp
    · rw [ax z] at q;exact R.sm _ _ q
  · obtain⟨i,hi⟩:=ha
    have z:a≠p:=fun z=>hn ⟨i,by rw [←z];exact hi⟩
    rw [ax z];exact(R.fpAt hi).1
theorem aX.notOwn(R:aX K F H σ e){p:Addr}{o:HO}(hp:H p=some o)(hl:∀vs,o≠.lst vs):¬cv σ e H p:=fun⟨i,h⟩=>by
  obtain⟨_,vs,g⟩:=R.fpAt h
  rw [hp] at g;cases g
  exact hl _ rfl
theorem aX.newT(R:aX K F H σ e){p:Addr}{vs:List V}(hp:H p=none):aX K (aV F p (.tup vs)) (aV H p (.tup vs)) σ e∧dw σ F H e (aV F p (.tup vs)) (aV H p (.tup vs)) e:=by
  have hF:=R.freeF hp
  obtain⟨R1,X1⟩:=R.same (av.new hp (o:=.tup vs))
  obtain⟨R2,s2⟩:=R1.freeze (p:=p) hF am (R1.notOwn am (fun _ z=>nomatch z))
  refine⟨R2,⟨s2,X1.dom,fun a ws h n _=>?_,X1.lst,X1.tmp,X1.shp,X1.ow⟩⟩
  have z:a≠p:=fun z=>by rw [z,hp] at n;cases n
  rw [ax z];exact h
theorem aX.sameOwn(R:aX K F H σ e)(s:av H H')(a:Addr):cv σ e H' a↔ cv σ e H a:=(R.keep (av.refl F) (R.sm.trans s) (fun a ⟨i,h⟩=>(R.fpAt h).1) fun a o _ h=>s a o h).2 a
theorem aX.newL(R:aX K F H σ e){p:Addr}{vs:List V}(hp:H p=none):aX K F (aV H p (.lst vs)) σ e∧dw σ F H e F (aV H p (.lst vs)) e∧F p=none∧¬cv σ e (aV H p (.lst vs)) p:=
  ⟨(R.same (av.new hp)).1,(R.same (av.new hp)).2,R.freeF hp,fun z=>R.ownH p ((R.sameOwn (av.new hp) p).mp z) hp⟩
theorem aX.growT(R:aX K F H σ e){p:Addr}{xs:List V}(s:av H H')(hp:cZ K H' p xs):∃F',aX K F' H' σ e∧dw σ F H e F' H' e∧cZ K F' p xs:=by
  obtain⟨R1,X1⟩:=R.same s
  rcases hp with hp | hp
  · have key:∀o,H' p=some o→(∀vs,o≠.lst vs)→(∀G:Hp,G p=some o→Rd G p (.tup xs))→∃F',aX K F' H' σ e∧dw σ F H e F' H' e∧cZ K F' p xs:=by
      intro o ho hl hr
      cases q:F p with
      | some u=>
        have:=R1.sm _ _ q
        rw [ho] at this;cases this
        exact⟨F,R1,X1,.inl (hr F q)⟩
      | none=>
        obtain⟨R2,s2⟩:=R1.freeze q ho (R1.notOwn ho hl)
        refine⟨_,R2,⟨s2,X1.dom,fun a ws h n _=>?_,X1.lst,X1.tmp,X1.shp,X1.ow⟩,.inl (hr _ am)⟩
        have z:a≠p:=fun z=>by rw [z] at n;rw [s _ _ n] at ho;cases ho;exact hl _ rfl
        rw [ax z];exact h
    rcases hp with hp | ⟨ob,hp⟩
    · exact key _ hp (fun _ z=>nomatch z) fun G g=>.inl g
    · exact key _ hp (fun _ z=>nomatch z) fun G g=>.inr ⟨ob,g⟩
  · exact⟨F,R1,X1,.inr hp⟩
theorem b7.frozen(R:aX K F H σ e){xs:List PyData}(h:b7 K σ H0 F H e (.l xs) v):∃F',aX K F' H σ e∧av F F'∧DA K F' (.list xs) v∧(∀a,F a=none→H0 a≠none→F' a=none):=by
  obtain⟨l,vs,rfl,h1,h2,h3,h4,h5⟩:=h
  obtain⟨R2,s2⟩:=R.freeze h2 h3 h5
  refine⟨_,R2,s2,?_,fun a ha hn=>?_⟩
  · rw [cw]
    exact⟨l,vs,rfl,.inl (.inl am),aC.mono s2 h4⟩
  · have z:a≠l:=fun z=>hn (by rw [z];exact h1)
    rw [ax z];exact ha
def bT(e:En):Rv→Option (Bool × List PyData)
  | .d (.tuple xs)=>some (false,xs)
  | .d (.list xs)=>some (true,xs)
  | .l xs=>some (true,xs)
  | .s i=>match e[i]? with
    | some (some (.l xs))=>some (true,xs)
    | _=>none
  | _=>none
theorem bJ(R:aX K F H σ e)(h:b7 K σ H0 F H e r v){b:Bool}{xs:List PyData}(q:bT e r=some (b,xs)):
    ∃p vs,v=.ref p∧aC K F xs vs∧(if b=true then fm K H p vs else cZ K H p vs):=by
  cases r with
  | d x=>
    cases x with
    | tuple ds=>
      cases q
      obtain⟨a,ys,e1,e2,e3⟩:=bN.mp h
      exact⟨a,ys,e1,e3,R.sm.tup e2⟩
    | list ds=>
      cases q
      obtain⟨a,ys,e1,e2,e3⟩:=cw.mp h
      exact⟨a,ys,e1,e3,R.sm.seq e2⟩
    | _=>cases q
  | l ys=>
    cases q
    obtain⟨l,vs,e1,h1,h2,h3,h4,_⟩:=h
    exact⟨l,vs,e1,h4,.inl (.inl h3)⟩
  | s i=>
    obtain⟨h1,ys,h2⟩:=h
    simp only [bT,h2] at q
    cases q
    obtain⟨l,vs,e1,e2,e3,e4⟩:=R.own i _ h2
    rw [h1] at e1;cases e1
    exact⟨l,vs,rfl,e4,.inl (.inl e3)⟩
end
end L2
namespace L2
open PySem PySem.Spec PyProof.Rows
abbrev FE:=En→Option (Rv × En)
abbrev FT:=En→Option (Bool × En)
abbrev FA:=En→Option (List Rv × En)
def dy(K:PySem.W.Frag)(σ:L2.St)(H0 F H:Hp)(e:En):List Rv→List V→Prop
  | [],vs=>vs=[]
  | r::rs,vs=>∃v ws,vs=v::ws∧b7 K σ H0 F H e r v∧dy K σ H0 F H e rs ws
def fE(K:PySem.W.Frag)(f:FE):TE:=fun σ H Q=>∃F e r e',aX K F H σ e∧f e=some (r,e')∧∀F' H' v,dw σ F H e F' H' e'→aX K F' H' σ e'→b7 K σ H F' H' e' r v→Q v H'
def fT(K:PySem.W.Frag)(f:FT):TT:=fun σ H Q=>∃F e b e',aX K F H σ e∧f e=some (b,e')∧∀F' H',dw σ F H e F' H' e'→aX K F' H' σ e'→Q b H'
def fA(K:PySem.W.Frag)(f:FA):TA:=fun σ H Q=>∃F e rs e',aX K F H σ e∧f e=some (rs,e')∧∀F' H' vs,dw σ F H e F' H' e'→aX K F' H' σ e'→dy K σ H F' H' e' rs vs→Q vs H'
theorem PE.mono{X:Cx}{e:Expr}{t t':TE}(h:PE X e t)(m:∀σ H Q,t' σ H Q→t σ H Q):PE X e t':=fun pins s σ H Q I q=>h pins s σ H Q I (m σ H Q q)
theorem PT.mono{X:Cx}{e:Expr}{t t':TT}(h:PT X e t)(m:∀σ H Q,t' σ H Q→t σ H Q):PT X e t':=fun pins s σ H Q I q=>h pins s σ H Q I (m σ H Q q)
theorem PW.mono{X:Cx}{e:Expr}{t t':TT}(h:PW X e t)(m:∀σ H Q,t' σ H Q→t σ H Q):PW X e t':=fun wh pins s σ H Q I q=>h wh pins s σ H Q I (m σ H Q q)
theorem PA.mono{X:Cx}{es:List Expr}{t t':TA}(h:PA X es t)(m:∀σ H Q,t' σ H Q→t σ H Q):PA X es t':=fun pos pins s σ H Q I q=>h pos pins s σ H Q I (m σ H Q q)
section
variable{K:PySem.W.Frag}{σ:L2.St}{H0 F H F' H':Hp}{e e':En}
theorem dy.weak{H1:Hp}(d:∀a,H1 a=none→H0 a=none):∀{rs:List Rv} {vs:List V},dy K σ H1 F H e rs vs→dy K σ H0 F H e rs vs
  | [],_,h=>h
  | r::rs,_,h=>by
    obtain⟨v,ws,rfl,h1,h2⟩:=h
    exact⟨v,ws,rfl,h1.weak d,dy.weak d h2⟩
theorem dw.frz{F'':Hp}(x:dw σ F H e F' H' e')(s:av F' F'')(h:∀a,F' a=none→H a≠none→F'' a=none):dw σ F H e F'' H' e':=
  ⟨x.sf.trans s,x.dom,fun a vs h1 h2 h3=>h a (x.fr a vs h1 h2 h3) (by rw [h2];simp),x.lst,x.tmp,x.shp,x.ow⟩
def jr:List Rv→Option (List PyData)
  | []=>some []
  | .d x::rs=>(jr rs).map (x::·)
  | .l xs::rs=>(jr rs).map (.list xs::·)
  | .s _::_=>none
theorem dy.frozen:∀{rs:List Rv} {vs:List V} {ds:List PyData} {F:Hp},aX K F H σ e→dy K σ H0 F H e rs vs→jr rs=some ds→
    ∃F',aX K F' H σ e∧av F F'∧aC K F' ds vs∧(∀a,F a=none→H0 a≠none→F' a=none)
  | [],_,_,F,R,h,q=>by
    cases q
    have h':_=[]:=h
    subst h'
    exact⟨F,R,av.refl _,aC.nil,fun _ h _=>h⟩
  | .d x::rs,_,ds,F,R,h,q=>by
    obtain⟨v,ws,rfl,h1,h2⟩:=h
    obtain⟨ds',q1,rfl⟩:=Option.map_eq_some_iff.mp q
    obtain⟨F',R',s',d',f'⟩:=dy.frozen R h2 q1
    exact⟨F',R',s',.cons (DA.mono s' h1) d',f'⟩
  | .l xs::rs,_,ds,F,R,h,q=>by
    obtain⟨v,ws,rfl,h1,h2⟩:=h
    obtain⟨ds',q1,rfl⟩:=Option.map_eq_some_iff.mp q
    obtain⟨F',R',s',d',f'⟩:=dy.frozen R h2 q1
    obtain⟨l,us,rfl,g1,g2,g3,g4,g5⟩:=h1
    cases hl:F' l with
    | none=>
      have h1':b7 K σ H0 F' H e (.l xs) (.ref l):=⟨l,us,rfl,g1,hl,g3,aC.mono s' g4,g5⟩
      obtain⟨F2,R2,s2,d2,f2⟩:=h1'.frozen R'
      exact⟨F2,R2,s'.trans s2,.cons d2 (aC.mono s2 d'),fun a ha hn=>f2 a (f' a ha hn) hn⟩
    | some o=>
      have:=R'.sm _ _ hl
      rw [g3] at this;cases this
      exact⟨F',R',s',.cons (cw.mpr ⟨l,us,rfl,.inl (.inl hl),aC.mono s' g4⟩) d',f'⟩
end
section
variable{X:Cx}{K:PySem.W.Frag}{a b c:Expr}{fa fb:FE}{ft fu:FT}{pos:Pos}{es:List Expr}{fs:FA}
def ac(i:Nat):FE:=fun e=>match e[i]? with
  | some (some (.d x))=>some (.d x,e)
  | some (some (.l _))=>some (.s i,e)
  | _=>none
def vC(x:PyData):FE:=fun e=>some (.d x,e)
theorem Al{i:Nat}{σ:L2.St}{H:Hp}{Q:VK}(h:fE K (ac i) σ H Q):EY i σ H Q:=by
  obtain⟨F,e,r,e',R,hf,q⟩:=h
  unfold ac at hf
  match h1:e[i]?,hf with
  | some (some (.d x)),hf=>
    cases hf
    obtain⟨v,h2,h3⟩:=R.dat i x h1
    exact⟨v,h2,q F H v (dw.refl _ _ _ _) R h3⟩
  | some (some (.n _)),hf=>cases hf
  | some (some (.l xs)),hf=>
    cases hf
    obtain⟨l,vs,h2,h3⟩:=R.own i xs h1
    exact⟨_,h2,q F H _ (dw.refl _ _ _ _) R ⟨h2,xs,h1⟩⟩
  | some none,hf=>cases hf
  | none,hf=>cases hf
theorem qv(i:Nat){x:Str}{pos:Pos}(hN:X.N[i]?=some x)(hv:yv X.env.scope x)(hd:(x==("__debug__":Str))=false)(hcd:(x==("__classdict__":Str))=false):PE X (.Name x pos) (fE K (ac i)):=(kd hN hv hd hcd).mono fun _ _ _ h=>Al h
theorem uq{x:PyData}{v:V}{σ:L2.St}{H:Hp}{Q:VK}(hx:∀F,DA K F x v)(h:fE K (vC x) σ H Q):tC v σ H Q:=by
  obtain⟨F,e,r,e',R,hf,q⟩:=h
  cases hf
  exact q F H v (dw.refl _ _ _ _) R (hx F)
theorem ae{i j pos}:PE X (.Constant (.int i) j pos) (fE K (vC (.int i))):=oX.mono fun _ _ _ h=>uq (fun _=>bM.mpr rfl) h
theorem cx{b j pos}:PE X (.Constant (.bool b) j pos) (fE K (vC (.bool b))):=Ej.mono fun _ _ _ h=>uq (fun _=>c_.mpr rfl) h
theorem oZ{j pos}:PE X (.Constant .none j pos) (fE K (vC .none)):=B_.mono fun _ _ _ h=>uq (fun _=>eT.mpr rfl) h
theorem o5{x j pos}:PE X (.Constant (.str x) j pos) (fE K (vC (.str x))):=Cb.mono fun _ _ _ h=>uq (fun _=>ox.mpr rfl) h
def eL(K:PySem.W.Frag)(r:R2)(g:En→Rv→Rv→Option Rv):Prop:=
  ∀(σ:L2.St) (H0 F H:Hp) (e:En) (x y z:Rv) (v u:V) (Q:VK),aX K F H σ e→b7 K σ H0 F H e x v→b7 K σ H0 F H e y u→g e x y=some z→
    (∀F' H' w,dw σ F H e F' H' e→aX K F' H' σ e→b7 K σ H F' H' e z w→Q w H')→r v u H Q
def au(g:En→Rv→Rv→Option Rv)(fa fb:FE):FE:=fun e=>(fa e).bind fun p=>(fb p.2).bind fun q=>(g q.2 p.1 q.1).map fun z=>(z,q.2)
theorem pB{r:R2}{g:En→Rv→Rv→Option Rv}(ho:eL K r g){σ:L2.St}{H:Hp}{Q:VK}(h:fE K (au g fa fb) σ H Q):EV r (fE K fa) (fE K fb) σ H Q:=by
  obtain⟨F,e,z,e2,R,hf,q⟩:=h
  unfold au at hf
  obtain⟨⟨x,e1⟩,h1,hf⟩:=Option.bind_eq_some_iff.mp hf
  obtain⟨⟨y,e2'⟩,h2,hf⟩:=Option.bind_eq_some_iff.mp hf
  obtain⟨z',h3,hf⟩:=Option.map_eq_some_iff.mp hf
  cases hf
  refine⟨F,e,x,e1,R,h1,fun F1 H1 v X1 R1 A1=>⟨F1,e1,y,_,R1,h2,fun F2 H2 u X2 R2 A2=>?_⟩⟩
  have X12:=X1.trans X2
  refine ho σ H F2 H2 _ x y _ v u Q R2 (A1.ext X2) (A2.weak X1.dom) h3 fun F3 H3 w X3 R3 A3=>?_
  exact q F3 H3 w (X12.trans X3) R3 (A3.weak X12.dom)
theorem nJ{op:Operator}{r:R2}{g:En→Rv→Rv→Option Rv}(hr:eG X (binaryOp op) r)(ho:eL K r g)(ha:PE X a (fE K fa))(hb:PE X b (fE K fb)):PE X (.BinOp a op b pos) (fE K (au g fa fb)):=(Ek hr ha hb).mono fun _ _ _ h=>pB ho h
theorem Cq{op:CmpOp}{r:R2}{g:En→Rv→Rv→Option Rv}(hr:eG X (compareOp op) r)(ho:eL K r g)(ha:PE X a (fE K fa))(hb:PE X b (fE K fb))(hm:behindInMarks op b=false):PE X (.Compare a [op] [b] pos) (fE K (au g fa fb)):=(zw hr ha hb hm).mono fun _ _ _ h=>pB ho h
theorem Et{r:R2}{g:En→Rv→Rv→Option Rv}(hr:yr X r)(ho:eL K r g)(ha:PE X a (fE K fa))(hb:PE X b (fE K fb))(hs:ji b):PE X (.Subscript a b pos) (fE K (au g fa fb)):=(xk hr ha hb hs).mono fun _ _ _ h=>pB ho h
def mU(g:En→Rv→Option Rv)(fa:FE):FE:=fun e=>(fa e).bind fun p=>(g p.2 p.1).map fun z=>(z,p.2)
def Dp(K:PySem.W.Frag)(r:V→Hp→VK→Prop)(g:En→Rv→Option Rv):Prop:=
  ∀(σ:L2.St) (H0 F H:Hp) (e:En) (x z:Rv) (v:V) (Q:VK),aX K F H σ e→b7 K σ H0 F H e x v→g e x=some z→
    (∀F' H' w,dw σ F H e F' H' e→aX K F' H' σ e→b7 K σ H F' H' e z w→Q w H')→r v H Q
theorem yo{r:V→Hp→VK→Prop}{g:En→Rv→Option Rv}(ho:Dp K r g){σ:L2.St}{H:Hp}{Q:VK}(h:fE K (mU g fa) σ H Q):GB r (fE K fa) σ H Q:=by
  obtain⟨F,e,z,e2,R,hf,q⟩:=h
  unfold mU at hf
  obtain⟨⟨x,e1⟩,h1,hf⟩:=Option.bind_eq_some_iff.mp hf
  obtain⟨z',h3,hf⟩:=Option.map_eq_some_iff.mp hf
  cases hf
  refine⟨F,e,x,_,R,h1,fun F1 H1 v X1 R1 A1=>?_⟩
  refine ho σ H F1 H1 _ x _ v Q R1 A1 h3 fun F3 H3 w X3 R3 A3=>?_
  exact q F3 H3 w (X1.trans X3) R3 (A3.weak X1.dom)
theorem Ew{op:UnaryOp}{r:V→Hp→VK→Prop}{g:En→Rv→Option Rv}(hr:Fe X (unaryOp op) r)(ho:Dp K r g)(ha:PE X a (fE K fa)):PE X (.UnaryOp op a pos) (fE K (mU g fa)):=(Em hr ha).mono fun _ _ _ h=>yo ho h
def fv:Rv→Option Bool
  | .d (.bool b)=>some b
  | _=>none
theorem dk{σ:L2.St}{H0 F H:Hp}{e:En}{r:Rv}{v:V}{b:Bool}(h:b7 K σ H0 F H e r v)(q:fv r=some b):v=.bl b:=by
  unfold fv at q
  split at q
  · cases q;exact c_.mp (show DA K F (.bool _) v from h)
  · cases q
theorem cK{σ:L2.St}{H0 F H:Hp}{e:En}{b:Bool}:b7 K σ H0 F H e (.d (.bool b)) (.bl b):=(c_ (K:=K) (F:=F)).mpr rfl
def aP(f:FE):FT:=fun e=>(f e).bind fun p=>(fv p.1).map fun b=>(b,p.2)
theorem mJ{σ:L2.St}{H:Hp}{Q:Bool→Hp→Prop}(h:fT K (aP fa) σ H Q):fE K fa σ H fun x H'=>∃k,x=.bl k∧Q k H':=by
  obtain⟨F,e,b,e1,R,hf,q⟩:=h
  unfold aP at hf
  obtain⟨⟨x,e1'⟩,h1,hf⟩:=Option.bind_eq_some_iff.mp hf
  obtain⟨b',h3,hf⟩:=Option.map_eq_some_iff.mp hf
  cases hf
  exact⟨F,e,x,_,R,h1,fun F1 H1 v X1 R1 A1=>⟨_,dk A1 h3,q F1 H1 X1 R1⟩⟩
theorem Cu{op:CmpOp}{r:R2}{g:En→Rv→Rv→Option Rv}(hr:eG X (compareOp op) r)(ho:eL K r g)(ha:PE X a (fE K fa))(hb:PE X b (fE K fb))(hm:behindInMarks op b=false):PT X (.Compare a [op] [b] pos) (fT K (aP (au g fa fb))):=
  (zK hr ha hb hm).mono fun σ H Q h=>by
    obtain⟨F,e,z,e2,R,hf,q⟩:=mJ h
    exact pB ho ⟨F,e,z,e2,R,hf,q⟩
theorem dZ{e:Expr}(h:PE X e (fE K fa))(he:∀whole,isTrue e X.env whole=(do let v ←whole;standAt e.pos;holding [v] (truthy v))):PT X e (fT K (aP fa)):=(Cm h he).mono fun _ _ _ h=>mJ h
def sT(f g:FT):FT:=fun e=>(f e).bind fun p=>if p.1=true then g p.2 else some (false,p.2)
def ur(f g:FT):FT:=fun e=>(f e).bind fun p=>if p.1=true then some (true,p.2) else g p.2
def iM(f:FT):FT:=fun e=>(f e).map fun p=>(!p.1,p.2)
theorem Aj{σ:L2.St}{H:Hp}{Q:Bool→Hp→Prop}(h:fT K (sT ft fu) σ H Q):EN (fT K ft) (fT K fu) σ H Q:=by
  obtain⟨F,e,b,e1,R,hf,q⟩:=h
  unfold sT at hf
  obtain⟨⟨x,e1'⟩,h1,hf⟩:=Option.bind_eq_some_iff.mp hf
  refine⟨F,e,x,e1',R,h1,fun F1 H1 X1 R1=>?_⟩
  cases x with
  | true=>exact⟨F1,e1',b,e1,R1,hf,fun F2 H2 X2 R2=>q F2 H2 (X1.trans X2) R2⟩
  | false=>cases hf;exact q F1 H1 X1 R1
theorem C1{σ:L2.St}{H:Hp}{Q:Bool→Hp→Prop}(h:fT K (ur ft fu) σ H Q):GA (fT K ft) (fT K fu) σ H Q:=by
  obtain⟨F,e,b,e1,R,hf,q⟩:=h
  unfold ur at hf
  obtain⟨⟨x,e1'⟩,h1,hf⟩:=Option.bind_eq_some_iff.mp hf
  refine⟨F,e,x,e1',R,h1,fun F1 H1 X1 R1=>?_⟩
  cases x with
  | false=>exact⟨F1,e1',b,e1,R1,hf,fun F2 H2 X2 R2=>q F2 H2 (X1.trans X2) R2⟩
  | true=>cases hf;exact q F1 H1 X1 R1
theorem Ak{σ:L2.St}{H:Hp}{Q:Bool→Hp→Prop}(h:fT K (iM ft) σ H Q):ET (fT K ft) σ H Q:=by
  obtain⟨F,e,b,e1,R,hf,q⟩:=h
  unfold iM at hf
  obtain⟨⟨x,e1'⟩,h1,hf⟩:=Option.map_eq_some_iff.mp hf
  cases hf
  exact⟨F,e,x,_,R,h1,fun F1 H1 X1 R1=>q F1 H1 X1 R1⟩
variable{fP:List Expr}
theorem t9(ha:PT X a (fT K ft)):PW X (.BoolOp .And [a] pos) (fT K ft):=zN ha
theorem jg(ha:PT X a (fT K ft)):PW X (.BoolOp .Or [a] pos) (fT K ft):=Co ha
theorem xQ(ha:PT X a (fT K ft))(hb:PW X (.BoolOp .And (b::fP) pos) (fT K fu)):PW X (.BoolOp .And (a::b::fP) pos) (fT K (sT ft fu)):=(Cn ha hb).mono fun _ _ _ h=>Aj h
theorem jK(ha:PT X a (fT K ft))(hb:PW X (.BoolOp .Or (b::fP) pos) (fT K fu)):PW X (.BoolOp .Or (a::b::fP) pos) (fT K (ur ft fu)):=(Er ha hb).mono fun _ _ _ h=>C1 h
theorem eK(ha:PT X a (fT K ft)):PT X (.UnaryOp .Not a pos) (fT K (iM ft)):=(Ck ha).mono fun _ _ _ h=>Ak h
theorem o_{e:Expr}(h:PW X e (fT K ft)):PT X e (fT K ft):=h.pt
def mH(f g:FE):FE:=fun e=>(f e).bind fun p=>(fv p.1).bind fun b=>if b=true then g p.2 else some (.d (.bool false),p.2)
def E7(f g:FE):FE:=fun e=>(f e).bind fun p=>(fv p.1).bind fun b=>if b=true then some (.d (.bool true),p.2) else g p.2
def rq(f:FE):FE:=fun e=>(f e).bind fun p=>(fv p.1).map fun b=>(.d (.bool (!b)),p.2)
theorem sA(ha:PE X a (fE K fa))(hb:PE X (.BoolOp .And (b::fP) pos) (fE K fb)):PE X (.BoolOp .And (a::b::fP) pos) (fE K (mH fa fb)):=(B9 ha hb).mono fun σ H Q h=>by
  obtain⟨F,e,z,e2,R,hf,q⟩:=h
  unfold mH at hf
  obtain⟨⟨x,e1⟩,h1,hf⟩:=Option.bind_eq_some_iff.mp hf
  obtain⟨b,h2,hf⟩:=Option.bind_eq_some_iff.mp hf
  refine⟨F,e,x,e1,R,h1,fun F1 H1 v X1 R1 A1=>⟨b,dk A1 h2,?_⟩⟩
  cases b with
  | true=>exact⟨F1,e1,z,e2,R1,hf,fun F2 H2 w X2 R2 A2=>q F2 H2 w (X1.trans X2) R2 (A2.weak X1.dom)⟩
  | false=>cases hf;exact q F1 H1 _ X1 R1 cK
theorem sC{op}(h:PE X a (fE K fa)):PE X (.BoolOp op [a] pos) (fE K fa):=Ca h
theorem Cr(ha:PE X a (fE K fa)):PE X (.UnaryOp .Not a pos) (fE K (rq fa)):=(B' ha).mono fun σ H Q h=>by
  obtain⟨F,e,z,e2,R,hf,q⟩:=h
  unfold rq at hf
  obtain⟨⟨x,e1⟩,h1,hf⟩:=Option.bind_eq_some_iff.mp hf
  obtain⟨b,h2,hf⟩:=Option.map_eq_some_iff.mp hf
  cases hf
  exact⟨F,e,x,_,R,h1,fun F1 H1 v X1 R1 A1=>⟨b,dk A1 h2,q F1 H1 _ X1 R1 cK⟩⟩
def GF(t:FT)(f g:FE):FE:=fun e=>(t e).bind fun p=>if p.1=true then f p.2 else g p.2
def dP(g g':En→Rv→Rv→Option Rv)(fa fb fc:FE):FE:=fun e=>(fa e).bind fun p=>(fb p.2).bind fun q=>(g q.2 p.1 q.1).bind fun z=>(fv z).bind fun k=>if k=true then(fc q.2).bind fun w=>(g' w.2 q.1 w.1).map fun z'=>(z',w.2) else some (.d (.bool false),q.2)
theorem nW{r r':R2}{g g':En→Rv→Rv→Option Rv}{fc:FE}(ho:eL K r g)(ho':eL K r' g'){σ:L2.St}{H:Hp}{Q:VK}(h:fE K (dP g g' fa fb fc) σ H Q):sM r r' (fE K fa) (fE K fb) (fE K fc) σ H Q:=by
  obtain⟨F,e,z,e4,R,hf,q⟩:=h
  unfold dP at hf
  obtain⟨⟨x,e1⟩,h1,hf⟩:=Option.bind_eq_some_iff.mp hf
  obtain⟨⟨y,e2⟩,h2,hf⟩:=Option.bind_eq_some_iff.mp hf
  obtain⟨z',h3,hf⟩:=Option.bind_eq_some_iff.mp hf
  obtain⟨k,h4,hf⟩:=Option.bind_eq_some_iff.mp hf
  refine⟨F,e,x,e1,R,h1,fun F1 H1 v X1 R1 A1=>⟨F1,e1,y,e2,R1,h2,fun F2 H2 u X2 R2 A2=>?_⟩⟩
  have X12:=X1.trans X2
  refine ho σ H F2 H2 e2 x y z' v u _ R2 (A1.ext X2) (A2.weak X1.dom) h3 fun F3 H3 w X3 R3 A3=>⟨k,dk A3 h4,?_⟩
  have X13:=X12.trans X3
  cases k with
  | false=>
    cases hf
    exact q F3 H3 _ X13 R3 cK
  | true=>
    obtain⟨⟨w',e3⟩,h5,hf⟩:=Option.bind_eq_some_iff.mp hf
    obtain⟨z2,h6,hf⟩:=Option.map_eq_some_iff.mp hf
    cases hf
    refine⟨F3,_,w',_,R3,h5,fun F4 H4 u4 X4 R4 A4=>?_⟩
    have X14:=X13.trans X4
    refine ho' σ H F4 H4 _ y w' _ u u4 Q R4 (((A2.weak X1.dom).ext X3).ext X4) (A4.weak X13.dom) h6 fun F5 H5 w5 X5 R5 A5=>?_
    exact q F5 H5 w5 (X14.trans X5) R5 (A5.weak X14.dom)
theorem xK{op op':CmpOp}{r r':R2}{g g':En→Rv→Rv→Option Rv}{fc:FE}(hr:eG X (compareOp op) r)(ho:eL K r g)(hr':eG X (compareOp op') r')(ho':eL K r' g')(ha:PE X a (fE K fa))(hb:PE X b (fE K fb))(hc:PE X c (fE K fc))
    (hm:lastMarks [op,op'] [b,c]=false):PE X (.Compare a [op,op'] [b,c] pos) (fE K (dP g g' fa fb fc)):=(xi hr hr' ha hb hc hm).mono fun _ _ _ h=>nW ho ho' h
theorem xP{op op':CmpOp}{r r':R2}{g g':En→Rv→Rv→Option Rv}{fc:FE}(hr:eG X (compareOp op) r)(ho:eL K r g)(hr':eG X (compareOp op') r')(ho':eL K r' g')(ha:PE X a (fE K fa))(hb:PE X b (fE K fb))(hc:PE X c (fE K fc))
    (hm:lastMarks [op,op'] [b,c]=false):PT X (.Compare a [op,op'] [b,c] pos) (fT K (aP (dP g g' fa fb fc))):=(xF hr hr' ha hb hc hm).mono fun σ H Q h=>by
  obtain⟨F,e,z,e2,R,hf,q⟩:=mJ h
  exact nW ho ho' ⟨F,e,z,e2,R,hf,q⟩
def ag:FA:=fun e=>some ([],e)
def aa(fa:FE)(fs:FA):FA:=fun e=>(fa e).bind fun p=>(fs p.2).map fun q=>(p.1::q.1,q.2)
theorem ab:PA X [] (fA K ag):=md.mono fun σ H Q h=>by
  obtain⟨F,e,r,e',R,hf,q⟩:=h
  cases hf
  exact q F H [] (dw.refl _ _ _ _) R rfl
theorem F8(ha:PE X a (fE K fa))(hr:PA X es (fA K fs))(h:PySem.W.isStarred a=false):PA X (a::es) (fA K (aa fa fs)):=(B8 ha hr h).mono fun σ H Q h=>by
  obtain⟨F,e,z,e2,R,hf,q⟩:=h
  unfold aa at hf
  obtain⟨⟨x,e1⟩,h1,hf⟩:=Option.bind_eq_some_iff.mp hf
  obtain⟨⟨xs,e2'⟩,h2,hf⟩:=Option.map_eq_some_iff.mp hf
  cases hf
  refine⟨F,e,x,e1,R,h1,fun F1 H1 v X1 R1 A1=>⟨F1,e1,xs,_,R1,h2,fun F2 H2 vs X2 R2 A2=>?_⟩⟩
  exact q F2 H2 (v::vs) (X1.trans X2) R2 ⟨v,vs,rfl,A1.ext X2,A2.weak X1.dom⟩
def aY(fs:FA):FE:=fun e=>(fs e).bind fun p=>(jr p.1).bind fun ds=>if ds.length≤1000 then some (.d (.tuple ds),p.2) else none
def bS(fs:FA):FE:=fun e=>(fs e).bind fun p=>(jr p.1).bind fun ds=>if ds.length≤1000 then some (.l ds,p.2) else none
theorem aw{x1}(h:PA X es (fA K fs)):PE X (.Tuple es x1 pos) (fE K (aY fs)):=(Cc h).mono fun σ H Q h=>by
  obtain⟨F,e,z,e2,R,hf,q⟩:=h
  unfold aY at hf
  obtain⟨⟨rs,e1⟩,h1,hf⟩:=Option.bind_eq_some_iff.mp hf
  obtain⟨ds,h2,hf⟩:=Option.bind_eq_some_iff.mp hf
  split at hf
  case isFalse=>cases hf
  case isTrue hl=>
  cases hf
  refine⟨F,e,rs,_,R,h1,fun F1 H1 vs X1 R1 A1=>?_⟩
  obtain⟨F2,R2,s2,d2,f2⟩:=dy.frozen R1 A1 h2
  have hlen:=d2.len
  refine⟨Nat.le_of_lt (nR (by lia)),fun p hp=>?_⟩
  obtain⟨R3,X3⟩:=R2.newT (vs:=vs) hp
  exact q _ _ _ ((X1.frz s2 f2).trans X3) R3 (bN.mpr ⟨p,vs,rfl,.inl (.inl am),aC.mono X3.sf d2⟩)
theorem aT(h:PA X es (fA K fs)):PE X (.List es pos) (fE K (bS fs)):=(xl h).mono fun σ H Q h=>by
  obtain⟨F,e,z,e2,R,hf,q⟩:=h
  unfold bS at hf
  obtain⟨⟨rs,e1⟩,h1,hf⟩:=Option.bind_eq_some_iff.mp hf
  obtain⟨ds,h2,hf⟩:=Option.bind_eq_some_iff.mp hf
  split at hf
  case isFalse=>cases hf
  case isTrue hl=>
  cases hf
  refine⟨F,e,rs,_,R,h1,fun F1 H1 vs X1 R1 A1=>?_⟩
  obtain⟨F2,R2,s2,d2,f2⟩:=dy.frozen R1 A1 h2
  have hlen:=d2.len
  refine⟨Nat.le_of_lt (nR (by lia)),fun p hp=>?_⟩
  obtain⟨R3,X3,hF,no⟩:=R2.newL (vs:=vs) hp
  exact q _ _ _ ((X1.frz s2 f2).trans X3) R3 ⟨p,vs,rfl,X1.dom p hp,hF,am,d2,no⟩
def cO(K:PySem.W.Frag)(r:List V→Hp→VK→Prop)(g:En→List Rv→Option Rv):Prop:=
  ∀(σ:L2.St) (H0 F H:Hp) (e:En) (xs:List Rv) (z:Rv) (vs:List V) (Q:VK),aX K F H σ e→dy K σ H0 F H e xs vs→g e xs=some z→
    (∀F' H' w,dw σ F H e F' H' e→aX K F' H' σ e→b7 K σ H F' H' e z w→Q w H')→r vs H Q
def aF(g:En→List Rv→Option Rv)(fs:FA):FE:=fun e=>(fs e).bind fun p=>(g p.2 p.1).map fun z=>(z,p.2)
theorem rj{r:List V→Hp→VK→Prop}{g:En→List Rv→Option Rv}(ho:cO K r g){σ:L2.St}{H:Hp}{Q:VK}(h:fE K (aF g fs) σ H Q):Gb r (fA K fs) σ H Q:=by
  obtain⟨F,e,z,e2,R,hf,q⟩:=h
  unfold aF at hf
  obtain⟨⟨x,e1⟩,h1,hf⟩:=Option.bind_eq_some_iff.mp hf
  obtain⟨z',h3,hf⟩:=Option.map_eq_some_iff.mp hf
  cases hf
  refine⟨F,e,x,_,R,h1,fun F1 H1 vs X1 R1 A1=>?_⟩
  refine ho σ H F1 H1 _ x _ vs Q R1 A1 h3 fun F3 H3 w X3 R3 A3=>?_
  exact q F3 H3 w (X1.trans X3) R3 (A3.weak X1.dom)
theorem xJ{x:Str}{p pos:Pos}{id:String}{r:List V→Hp→VK→Prop}{g:En→List Rv→Option Rv}(hc:cL X (.builtin id) r)(ho:cO K r g)(hg:Gl X x)(hm:X.mg x=none)(hv:bootBuiltins x=some (.builtin id))(ha:PA X (a::es) (fA K fs))(hn:x≠"__name__")(hdb:(x==("__debug__":Str))=false)
    (he:starEach (a::es) X.env=(false,eval a X.env)::starEach es X.env)(hpl:(backTo pos (starEach es X.env)).any (·.1)=false):PE X (.Call (.Name x p) (a::es) [] pos) (fE K (aF g fs)):=(qC hc hg hm hv ha hn hdb he hpl).mono fun _ _ _ h=>rj ho h
theorem vb{x:Str}{p pos:Pos}{T:String}{r:List V→Hp→VK→Prop}{g:En→List Rv→Option Rv}(hc:cL X (.type T) r)(ho:cO K r g)(hg:Gl X x)(hm:X.mg x=none)(hv:bootBuiltins x=some (.type T))(ha:PA X (a::es) (fA K fs))(hn:x≠"__name__")(hdb:(x==("__debug__":Str))=false)
    (he:starEach (a::es) X.env=(false,eval a X.env)::starEach es X.env)(hpl:(backTo pos (starEach es X.env)).any (·.1)=false):PE X (.Call (.Name x p) (a::es) [] pos) (fE K (aF g fs)):=(u9 hc hg hm hv ha hn hdb he hpl).mono fun _ _ _ h=>rj ho h
end
end L2
namespace L2
open PySem PySem.Spec PyProof.Rows
mutual
theorem DA.reads{X:Cx}{pins:List (Addr × Obj)}{σ:L2.St}{H:Hp}{s:Shared}(I:az X pins σ H s):∀{d:PyData} {v:V} {u:Value},d.canLay0=true→DA X.K H d v→bC v u→∃as,Reads s.heap u d as
  | .none,_,_,_,q,r=>by
    simp only [DA] at q;subst q;cases r;exact⟨_,.none⟩
  | .bool b,_,_,_,q,r=>by
    simp only [DA] at q;subst q;cases r;exact⟨_,.bool b⟩
  | .int i,_,_,_,q,r=>by
    simp only [DA] at q;subst q;obtain⟨t,rfl⟩:=r;exact⟨_,.int i t⟩
  | .str x,_,_,_,q,r=>by
    simp only [DA] at q;subst q;obtain⟨t,rfl⟩:=r;exact⟨_,.str x t⟩
  | .tuple ds,_,_,c,q,r=>by
    simp only [DA] at q
    obtain⟨a,xs,e,hs,rr⟩:=q
    subst e;cases r
    obtain⟨its,rv,⟨o,ho,hc,n,hd⟩,hz⟩:=I.tuple hs
    obtain⟨as,q⟩:=aC.reads I (by simpa [PyData.canLay0] using c) rr rv
    exact⟨_,.tuple ho hc hd q⟩
  | .list ds,_,_,c,q,r=>by
    simp only [DA] at q
    obtain⟨a,xs,e,hs,rr⟩:=q
    subst e;cases r
    obtain⟨its,rv,ht,hz⟩:=I.list hs
    obtain⟨o,ho,hc,n,hd⟩:=ht.isList
    obtain⟨as,q⟩:=aC.reads I (by simpa [PyData.canLay0] using c) rr rv
    exact⟨_,.list ho hc hd q⟩
  | .dict _,_,_,c,_,_=>by simp [PyData.canLay0] at c
theorem aC.reads{X:Cx}{pins:List (Addr × Obj)}{σ:L2.St}{H:Hp}{s:Shared}(I:az X pins σ H s):∀{ds:List PyData} {xs:List V} {us:List Value},PyData.canLayAll0 ds=true→aC X.K H ds xs→aI xs us→∃as,ReadsAll s.heap us ds as
  | [],_,_,_,q,r=>by
    simp only [aC] at q;subst q;cases r;exact⟨_,.nil⟩
  | d::ds,_,_,c,q,r=>by
    simp only [aC] at q
    simp only [PyData.canLayAll0,Bool.and_eq_true] at c
    obtain⟨x,rr,e,a,b⟩:=q
    subst e
    cases r with
    | cons p p'=>
      obtain⟨as,q1⟩:=DA.reads I c.1 a p
      obtain⟨bs,q2⟩:=aC.reads I c.2 b p'
      exact⟨_,.cons q1 q2⟩
end
def eN(e:En):Rv→Option PyData
  | .d x=>some x
  | .l xs=>some (.list xs)
  | .s i=>match e[i]? with
    | some (some (.l xs))=>some (.list xs)
    | _=>none
theorem iy{K:PySem.W.Frag}{σ:L2.St}{H0 F H:Hp}{e:En}{r:Rv}{v:V}{d:PyData}(R:aX K F H σ e)(h:b7 K σ H0 F H e r v)(q:eN e r=some d):DA K H d v:=by
  cases r with
  | d x=>cases q;exact DA.mono R.sm h
  | l xs=>
    cases q
    obtain⟨l,vs,rfl,h1,h2,h3,h4,_⟩:=h
    exact cw.mpr ⟨l,vs,rfl,.inl (.inl h3),aC.mono R.sm h4⟩
  | s i=>
    obtain⟨h1,ys,h2⟩:=h
    simp only [eN,h2] at q
    cases q
    obtain⟨l,vs,e1,e2,e3,e4⟩:=R.own i _ h2
    rw [h1] at e1;cases e1
    exact cw.mpr ⟨l,vs,rfl,.inl (.inl e3),aC.mono R.sm e4⟩
section
variable{X:Cx}{K:PySem.W.Frag}
def bO:Rv→Option Int
  | .d (.int i)=>some i
  | _=>none
theorem cg{σ:L2.St}{H0 F H:Hp}{e:En}{r:Rv}{v:V}{i:Int}(h:b7 K σ H0 F H e r v)(q:bO r=some i):v=.int i:=by
  unfold bO at q
  split at q
  · cases q;exact bM.mp (show DA K F (.int _) v from h)
  · cases q
theorem my{σ:L2.St}{H0 F H:Hp}{e:En}{i:Int}:b7 K σ H0 F H e (.d (.int i)) (.int i):=(bM (K:=K) (F:=F)).mpr rfl
def gI(C:Int→Int→Bool)(f:Int→Int→PyData):En→Rv→Rv→Option Rv:=fun _ x y=>(bO x).bind fun i=>(bO y).bind fun j=>if C i j=true then some (.d (f i j)) else none
theorem qB{C:Int→Int→Prop}{c:Int→Int→Bool}{g:Int→Int→V}{f:Int→Int→PyData}(hc:∀i j,c i j=true→C i j)(hf:∀F i j,DA K F (f i j) (g i j)):eL K (rI C g) (gI c f):=by
  intro σ H0 F H e x y z v u Q R A B hg q
  unfold gI at hg
  obtain⟨i,h1,hg⟩:=Option.bind_eq_some_iff.mp hg
  obtain⟨j,h2,hg⟩:=Option.bind_eq_some_iff.mp hg
  split at hg
  case isFalse=>cases hg
  case isTrue hh=>
  cases hg
  exact⟨i,j,cg A h1,cg B h2,hc i j hh,q F H _ (dw.refl _ _ _ _) R (hf F i j)⟩
theorem iG{g:Int→Int→V}{f:Int→Int→PyData}(hf:∀F i j,DA K F (f i j) (g i j)):eL K (sD g) (gI (fun _ _=>true) f):=by
  intro σ H0 F H e x y z v u Q R A B hg q
  obtain⟨i,j,h1,h2,h3,h4⟩:=qB (K:=K) (C:=fun _ _=>True) (c:=fun _ _=>true) (g:=g) (f:=f) (fun _ _ _=>trivial) hf σ H0 F H e x y z v u Q R A B hg q
  exact⟨i,j,h1,h2,h4⟩
def uP(g g':En→Rv→Rv→Option Rv):En→Rv→Rv→Option Rv:=fun e x y=>(g e x y).or (g' e x y)
theorem eL.or{r r':R2}{g g':En→Rv→Rv→Option Rv}(h:eL K r g)(h':eL K r' g'):eL K (fun x y H Q=>r x y H Q∨r' x y H Q) (uP g g'):=by
  intro σ H0 F H e x y z v u Q R A B hg q
  unfold uP at hg
  cases e1:g e x y with
  | some w=>
    rw [e1] at hg
    cases hg
    exact .inl (h σ H0 F H e x y _ v u Q R A B e1 q)
  | none=>
    rw [e1] at hg
    exact .inr (h' σ H0 F H e x y _ v u Q R A B hg q)
def tI:=gI (fun _ _=>true) fun i j=>.int (i+j)
def iB:=gI (fun _ _=>true) fun i j=>.int (i - j)
def hU(i:Int):Bool:=decide (-(2 ^ 64) < i)&&decide (i < 2 ^ 64)
def Dw(n:Nat)(i:Int):Bool:=decide (i.natAbs < 2 ^ n)
theorem jl{n:Nat}{i:Int}:Dw n i=true↔ Bt n i:=by unfold Dw Bt;exact decide_eq_true_iff
def ka(i j:Int):Bool:=hU i || hU j || (Dw 4000 i&&Dw 4000 j)
def p6:=gI ka fun i j=>.int (i*j)
def bA:=gI (fun _ j=>j != 0&&Dw 8000 j) fun i j=>.int (i.fdiv j)
def aM:=gI (fun _ j=>j != 0) fun i j=>.int (i.fmod j)
def xB(i j:Int):Bool:=decide (0≤j)&&decide (j≤1000000)&&hU i
def oG:=gI xB fun i j=>.int (i ^ j.toNat)
theorem jh{i:Int}(h:hU i=true): -(2 ^ 64) < i∧i < 2 ^ 64:=by
  unfold hU at h
  rw [Bool.and_eq_true,decide_eq_true_iff,decide_eq_true_iff] at h
  exact h
theorem zG{i j:Int}(h:xB i j=true):Bd i j:=by
  unfold xB at h
  rw [Bool.and_eq_true,Bool.and_eq_true,decide_eq_true_iff,decide_eq_true_iff] at h
  have:=jh h.2
  exact⟨h.1.1,h.1.2,by lia⟩
def sV(i j:Int):Prop:=yA i j∨Ao i j
theorem zq:eG X (binaryOp .Mult) (rI sV fun i j=>.int (i*j)):=by
  intro pins s σ H x y v u Q I rx ry h
  obtain⟨i,j,e1,e2,h1,q⟩:=h
  rcases h1 with h1 | h1
  · exact B3 pins s σ H x y v u Q I rx ry ⟨i,j,e1,e2,h1,q⟩
  · exact zr pins s σ H x y v u Q I rx ry ⟨i,j,e1,e2,h1,q⟩
theorem za{i j:Int}(h:ka i j=true):sV i j:=by
  unfold ka at h
  rw [Bool.or_eq_true,Bool.or_eq_true,Bool.and_eq_true] at h
  rcases h with (h | h) | h
  · exact .inl (.inl (jh h))
  · exact .inl (.inr (jh h))
  · exact .inr ⟨jl.mp h.1,jl.mp h.2⟩
theorem BJ:eL K (rI sV fun i j=>.int (i*j)) p6:=qB (fun _ _ h=>za h) fun _ _ _=>bM.mpr rfl
theorem EL:eL K (sD fun i j=>.int (i - j)) iB:=iG fun _ _ _=>bM.mpr rfl
theorem Bu:eL K (rI An fun i j=>.int (i.fdiv j)) bA:=qB (fun i j h=>by
  rw [Bool.and_eq_true] at h
  exact⟨by simpa using h.1,jl.mp h.2⟩) fun _ _ _=>bM.mpr rfl
theorem D9:eL K (rI (fun _ j=>j≠0) fun i j=>.int (i.fmod j)) aM:=qB (fun i j h=>by simpa using h) fun _ _ _=>bM.mpr rfl
theorem Eo:eL K (rI Bd fun i j=>.int (i ^ j.toNat)) oG:=qB (fun _ _ h=>zG h) fun _ _ _=>bM.mpr rfl
def nv:En→Rv→Rv→Option Rv:=fun e x y=>match bT e x,bT e y with
  | some (false,xs),some (false,ys)=>if xs.length+ys.length≤1000000 then some (.d (.tuple (xs++ys))) else none
  | _,_=>none
theorem Bq:eL K (xR K) nv:=by
  intro σ H0 F H e x y z v u Q R A B hg q
  unfold nv at hg
  match h1:bT e x,h2:bT e y,hg with
  | some (false,xs),some (false,ys),hg=>
    obtain⟨p,vs,rfl,d1,s1⟩:=bJ R A h1
    obtain⟨p',us,rfl,d2,s2⟩:=bJ R B h2
    dsimp only at hg
    split at hg
    case isFalse=>cases hg
    case isTrue hl=>
    cases hg
    have l1:=d1.len
    have l2:=d2.len
    have sl:sizeLine=16777216:=sizeLine_eq
    refine⟨p,p',vs,us,rfl,rfl,s1,s2,by lia,fun t H' sm hT=>?_⟩
    obtain⟨F',R',X',hF⟩:=R.growT sm hT
    exact q F' H' _ X' R' (bN.mpr ⟨t,_,rfl,hF,(d1.append d2).mono X'.sf⟩)
def qj(e:En):Rv→Option (List PyData)
  | .l xs=>some xs
  | .s i=>match e[i]? with
    | some (some (.l xs))=>some xs
    | _=>none
  | _=>none
theorem oP{σ:L2.St}{H0 F H:Hp}{e:En}{r:Rv}{v:V}(R:aX K F H σ e)(h:b7 K σ H0 F H e r v){xs:List PyData}(q:qj e r=some xs):∃p vs,v=.ref p∧F p=none∧H p=some (.lst vs)∧aC K F xs vs:=by
  cases r with
  | d x=>cases q
  | l ys=>
    cases q
    obtain⟨l,vs,e1,h1,h2,h3,h4,_⟩:=h
    exact⟨l,vs,e1,h2,h3,h4⟩
  | s i=>
    obtain⟨h1,ys,h2⟩:=h
    simp only [qj,h2] at q
    cases q
    obtain⟨l,vs,e1,e2,e3,e4⟩:=R.own i _ h2
    rw [h1] at e1;cases e1
    exact⟨l,vs,rfl,e2,e3,e4⟩
def pY:En→Rv→Rv→Option Rv:=fun e x y=>(qj e x).bind fun xs=>(qj e y).bind fun ys=>if xs.length+ys.length≤1000000 then some (.l (xs++ys)) else none
theorem Bp:eL K Cv pY:=by
  intro σ H0 F H e x y z v u Q R A B hg q
  unfold pY at hg
  obtain⟨xs,h1,hg⟩:=Option.bind_eq_some_iff.mp hg
  obtain⟨ys,h2,hg⟩:=Option.bind_eq_some_iff.mp hg
  split at hg
  case isFalse=>cases hg
  case isTrue hl=>
  cases hg
  obtain⟨p,vs,rfl,f1,s1,d1⟩:=oP R A h1
  obtain⟨p',us,rfl,f2,s2,d2⟩:=oP R B h2
  have l1:=d1.len
  have l2:=d2.len
  have sl:sizeLine=16777216:=sizeLine_eq
  refine⟨p,p',vs,us,rfl,rfl,s1,s2,by lia,fun t ht=>?_⟩
  obtain⟨R3,X3,hF,no⟩:=R.newL (vs:=vs++us) ht
  exact q _ _ _ X3 R3 ⟨t,_,rfl,ht,hF,am,d1.append d2,no⟩
def aJ:En→Rv→Rv→Option Rv:=uP tI (uP nv pY)
def A0(K:PySem.W.Frag):R2:=fun x y H Q=>sD (fun i j=>.int (i+j)) x y H Q∨(xR K x y H Q∨Cv x y H Q)
theorem zi:eG X (binaryOp .Add) (A0 X.K):=BV.or (zl.or BW)
theorem Dr:eL K (A0 K) aJ:=eL.or (iG fun _ _ _=>bM.mpr rfl) (eL.or Bq Bp)
def p_:En→Rv→Rv→Option Rv:=fun e x y=>match bT e x,bO y with
  | some (false,[d]),some k=>if 0≤k∧k≤100000 then some (.d (.tuple (List.replicate k.toNat d))) else none
  | _,_=>none
theorem aC.rep{F:Hp}{d:PyData}{v:V}(h:DA K F d v):∀n,aC K F (List.replicate n d) (List.replicate n v)
  | 0=>aC.nil
  | n+1=>aC.cons h (aC.rep h n)
theorem CC:eL K (xT K) p_:=by
  intro σ H0 F H e x y z v u Q R A B hg q
  unfold p_ at hg
  match h1:bT e x,h2:bO y,hg with
  | some (false,[d]),some k,hg=>
    obtain⟨p,vs,rfl,d1,s1⟩:=bJ R A h1
    dsimp only at hg
    split at hg
    case isFalse=>cases hg
    case isTrue hl=>
    cases hg
    have hd:=d1
    simp only [aC] at hd
    obtain⟨w,r,e1,hw,e2⟩:=hd
    subst e2 e1
    refine⟨p,k,w,rfl,cg B h2,s1,hl.1,hl.2,fun t H' sm hT=>?_⟩
    obtain⟨F',R',X',hF⟩:=R.growT sm hT
    exact q F' H' _ X' R' (bN.mpr ⟨t,_,rfl,hF,(aC.rep hw _).mono X'.sf⟩)
def p9:En→Rv→Rv→Option Rv:=fun e x y=>(qj e x).bind fun xs=>(bO y).bind fun k=>if -100000≤k∧k≤100000∧xs.length*k.toNat≤1000000 then some (.l (List.replicate k.toNat xs).flatten) else none
theorem aC.reps{F:Hp}{ds:List PyData}{vs:List V}(h:aC K F ds vs):∀n,aC K F (List.replicate n ds).flatten (List.replicate n vs).flatten
  | 0=>aC.nil
  | n+1=>by simpa [List.replicate_succ] using aC.append h (aC.reps h n)
theorem CB:eL K CA p9:=by
  intro σ H0 F H e x y z v u Q R A B hg q
  unfold p9 at hg
  obtain⟨xs,h1,hg⟩:=Option.bind_eq_some_iff.mp hg
  obtain⟨k,h2,hg⟩:=Option.bind_eq_some_iff.mp hg
  split at hg
  case isFalse=>cases hg
  case isTrue hl=>
  cases hg
  obtain⟨p,vs,rfl,f1,s1,d1⟩:=oP R A h1
  have l1:=d1.len
  have sl:sizeLine=16777216:=sizeLine_eq
  refine⟨p,k,vs,rfl,cg B h2,s1,by lia,by lia,by rw [←l1];lia,fun t ht=>?_⟩
  obtain⟨R3,X3,hF,no⟩:=R.newL (vs:=(List.replicate k.toNat vs).flatten) ht
  exact q _ _ _ X3 R3 ⟨t,_,rfl,ht,hF,am,aC.reps d1 _,no⟩
def jc:En→Rv→Rv→Option Rv:=uP p6 (uP p_ p9)
def A6(K:PySem.W.Frag):R2:=fun x y H Q=>rI sV (fun i j=>.int (i*j)) x y H Q∨(xT K x y H Q∨CA x y H Q)
theorem zp:eG X (binaryOp .Mult) (A6 X.K):=zq.or (zu.or B6)
theorem D_:eL K (A6 K) jc:=eL.or BJ (eL.or CC CB)
def AO:=gI (fun _ _=>true) fun i j=>.bool (decide (i < j))
def C_:=gI (fun _ _=>true) fun i j=>.bool (decide (i≤j))
def DN:=gI (fun _ _=>true) fun i j=>.bool (decide (j < i))
def DM:=gI (fun _ _=>true) fun i j=>.bool (decide (j≤i))
theorem FX:eL K (sD fun i j=>.bl (decide (i < j))) AO:=iG fun _ _ _=>c_.mpr rfl
theorem FW:eL K (sD fun i j=>.bl (decide (i≤j))) C_:=iG fun _ _ _=>c_.mpr rfl
theorem FK:eL K (sD fun i j=>.bl (decide (j < i))) DN:=iG fun _ _ _=>c_.mpr rfl
theorem FJ:eL K (sD fun i j=>.bl (decide (j≤i))) DM:=iG fun _ _ _=>c_.mpr rfl
def Cw(K:PySem.W.Frag)(neg:Bool):R2:=fun x y H Q=>∃a b,DA K H a x∧DA K H b y∧SeqAt.shaped a=true∧SeqAt.shaped b=true∧Q (.bl (if neg then !PyData.eqv a b else PyData.eqv a b)) H
theorem BX{k:Nat}(hr:cz k X.A):eG X (compareOp .Eq) (Cw X.K false):=by
  intro pins s σ H x y v u Q I rx ry h
  obtain⟨a,b,ha,hb,s1,s2,q⟩:=h
  obtain⟨as,ra⟩:=DA.reads I (SeqAt.canLay_of_shaped s1) ha rx
  obtain⟨bs,rb⟩:=DA.reads I (SeqAt.canLay_of_shaped s2) hb ry
  exact SeqAt.compareEq_shaped ra rb s1 s2 hr.units ⟨.bl _,H,I,rfl,q⟩
theorem B4{k:Nat}(hr:cz k X.A):eG X (compareOp .NotEq) (Cw X.K true):=by
  intro pins s σ H x y v u Q I rx ry h
  obtain⟨a,b,ha,hb,s1,s2,q⟩:=h
  obtain⟨as,ra⟩:=DA.reads I (SeqAt.canLay_of_shaped s1) ha rx
  obtain⟨bs,rb⟩:=DA.reads I (SeqAt.canLay_of_shaped s2) hb ry
  exact SeqAt.compareNe_shaped ra rb s1 s2 hr.units ⟨.bl _,H,I,rfl,q⟩
def bw(neg:Bool):En→Rv→Rv→Option Rv:=fun e x y=>(eN e x).bind fun a=>(eN e y).bind fun b=>if (SeqAt.shaped a&&SeqAt.shaped b)=true then some (.d (.bool (if neg then !PyData.eqv a b else PyData.eqv a b))) else none
theorem AB{neg:Bool}:eL K (Cw K neg) (bw neg):=by
  intro σ H0 F H e x y z v u Q R A B hg q
  unfold bw at hg
  obtain⟨a,h1,hg⟩:=Option.bind_eq_some_iff.mp hg
  obtain⟨b,h2,hg⟩:=Option.bind_eq_some_iff.mp hg
  split at hg
  case isFalse=>cases hg
  case isTrue hl=>
  cases hg
  rw [Bool.and_eq_true] at hl
  exact⟨a,b,iy R A h1,iy R B h2,hl.1,hl.2,q F H _ (dw.refl _ _ _ _) R cK⟩
def Cy(K:PySem.W.Frag)(neg:Bool):R2:=fun x y H Q=>∃a xs,DA K H a x∧(DA K H (.list xs) y∨DA K H (.tuple xs) y)∧a.canLay0=true∧a.depth≤60∧PyData.canLayAll0 xs=true∧Q (.bl (if neg then !(xs.any fun y=>PyData.eqv y a) else xs.any fun y=>PyData.eqv y a)) H
theorem BZ{k:Nat}(hr:cz k X.A):eG X (compareOp .In) (Cy X.K false):=by
  intro pins s σ H x y v u Q I rx ry h
  obtain⟨a,xs,ha,hb,s1,s2,s3,q⟩:=h
  obtain⟨as,ra⟩:=DA.reads I s1 ha rx
  have hu:=hr.units
  rcases hb with hb | hb
  · obtain⟨bs,rb⟩:=DA.reads I (by simpa [PyData.canLay0] using s3) hb ry
    exact PySem.SeqAt.in_list_reads rb ra s3 s1 (by lia) ⟨.bl _,H,I,rfl,q⟩
  · obtain⟨bs,rb⟩:=DA.reads I (by simpa [PyData.canLay0] using s3) hb ry
    exact PySem.SeqAt.in_tuple_reads rb ra s3 s1 (by lia) ⟨.bl _,H,I,rfl,q⟩
theorem u7{k:Nat}(hr:cz k X.A):eG X (compareOp .NotIn) (Cy X.K true):=by
  intro pins s σ H x y v u Q I rx ry h
  obtain⟨a,xs,ha,hb,s1,s2,s3,q⟩:=h
  obtain⟨as,ra⟩:=DA.reads I s1 ha rx
  have hu:=hr.units
  rcases hb with hb | hb
  · obtain⟨bs,rb⟩:=DA.reads I (by simpa [PyData.canLay0] using s3) hb ry
    exact PySem.SeqAt.notIn_list_reads rb ra s3 s1 (by lia) ⟨.bl _,H,I,rfl,q⟩
  · obtain⟨bs,rb⟩:=DA.reads I (by simpa [PyData.canLay0] using s3) hb ry
    exact PySem.SeqAt.notIn_tuple_reads rb ra s3 s1 (by lia) ⟨.bl _,H,I,rfl,q⟩
def uK(neg:Bool):En→Rv→Rv→Option Rv:=fun e x y=>(eN e x).bind fun a=>(bT e y).bind fun p=>if (a.canLay0&&decide (a.depth≤60)&&PyData.canLayAll0 p.2)=true then some (.d (.bool (if neg then !(p.2.any fun y=>PyData.eqv y a) else p.2.any fun y=>PyData.eqv y a))) else none
theorem DS{neg:Bool}:eL K (Cy K neg) (uK neg):=by
  intro σ H0 F H e x y z v u Q R A B hg q
  unfold uK at hg
  obtain⟨a,h1,hg⟩:=Option.bind_eq_some_iff.mp hg
  obtain⟨⟨b,xs⟩,h2,hg⟩:=Option.bind_eq_some_iff.mp hg
  split at hg
  case isFalse=>cases hg
  case isTrue hl=>
  cases hg
  rw [Bool.and_eq_true,Bool.and_eq_true,decide_eq_true_iff] at hl
  obtain⟨p,vs,rfl,d1,s1⟩:=bJ R B h2
  refine⟨a,xs,iy R A h1,?_,hl.1.1,hl.1.2,hl.2,q F H _ (dw.refl _ _ _ _) R cK⟩
  cases b with
  | true=>exact .inl (cw.mpr ⟨p,vs,rfl,s1,d1.mono R.sm⟩)
  | false=>exact .inr (bN.mpr ⟨p,vs,rfl,s1,d1.mono R.sm⟩)
def oM:PyData→Bool
  | .none=>true
  | _=>false
theorem ng{F:Hp}{d:PyData}{v:V}(h:DA K F d v):decide (v=.non)=oM d:=by
  cases d with
  | none=>rw [eT.mp h];rfl
  | bool b=>rw [c_.mp h];rfl
  | int b=>rw [bM.mp h];rfl
  | str b=>rw [ox.mp h];rfl
  | tuple b=>obtain⟨a,_,e,_⟩:=bN.mp h;rw [e];rfl
  | list b=>obtain⟨a,_,e,_⟩:=cw.mp h;rw [e];rfl
  | dict b=>simp only [DA] at h;obtain⟨a,m,rfl,_⟩:=h;rfl
def uO(neg:Bool):En→Rv→Rv→Option Rv:=fun e x y=>(eN e x).bind fun a=>match y with
  | .d .none=>some (.d (.bool (if neg then !oM a else oM a)))
  | _=>none
def uM(neg:Bool):En→Rv→Rv→Option Rv:=fun e x y=>(fv x).bind fun a=>(fv y).bind fun b=>some (.d (.bool (if neg then !(a==b) else a==b)))
theorem DX:eL K (fun x y H Q=>y=.non∧Q (.bl (decide (x=.non))) H) (uO false):=by
  intro σ H0 F H e x y z v u Q R A B hg q
  unfold uO at hg
  obtain⟨a,h1,hg⟩:=Option.bind_eq_some_iff.mp hg
  split at hg
  · cases hg
    refine⟨eT.mp (show DA K F .none u from B),?_⟩
    rw [ng (iy R A h1)]
    exact q F H _ (dw.refl _ _ _ _) R cK
  · cases hg
theorem BN:eL K (fun x y H Q=>y=.non∧Q (.bl (!decide (x=.non))) H) (uO true):=by
  intro σ H0 F H e x y z v u Q R A B hg q
  unfold uO at hg
  obtain⟨a,h1,hg⟩:=Option.bind_eq_some_iff.mp hg
  split at hg
  · cases hg
    refine⟨eT.mp (show DA K F .none u from B),?_⟩
    rw [ng (iy R A h1)]
    exact q F H _ (dw.refl _ _ _ _) R cK
  · cases hg
theorem DV:eL K (fun x y H Q=>∃b c,x=.bl b∧y=.bl c∧Q (.bl (b==c)) H) (uM false):=by
  intro σ H0 F H e x y z v u Q R A B hg q
  unfold uM at hg
  obtain⟨a,h1,hg⟩:=Option.bind_eq_some_iff.mp hg
  obtain⟨b,h2,hg⟩:=Option.bind_eq_some_iff.mp hg
  cases hg
  exact⟨a,b,dk A h1,dk B h2,q F H _ (dw.refl _ _ _ _) R cK⟩
theorem wF:eL K (fun x y H Q=>∃b c,x=.bl b∧y=.bl c∧Q (.bl (!(b==c))) H) (uM true):=by
  intro σ H0 F H e x y z v u Q R A B hg q
  unfold uM at hg
  obtain⟨a,h1,hg⟩:=Option.bind_eq_some_iff.mp hg
  obtain⟨b,h2,hg⟩:=Option.bind_eq_some_iff.mp hg
  cases hg
  exact⟨a,b,dk A h1,dk B h2,q F H _ (dw.refl _ _ _ _) R cK⟩
def DO:En→Rv→Rv→Option Rv:=uP (uO false) (uM false)
def oF:En→Rv→Rv→Option Rv:=uP (uO true) (uM true)
def EB:R2:=fun x y H Q=>(y=.non∧Q (.bl (decide (x=.non))) H)∨∃b c,x=.bl b∧y=.bl c∧Q (.bl (b==c)) H
def ua:R2:=fun x y H Q=>(y=.non∧Q (.bl (!decide (x=.non))) H)∨∃b c,x=.bl b∧y=.bl c∧Q (.bl (!(b==c))) H
theorem B0:eG X (compareOp .Is) EB:=B2.or B1
theorem uY:eG X (compareOp .IsNot) ua:=zt.or uZ
theorem FQ:eL K EB DO:=eL.or DX DV
theorem yX:eL K ua oF:=eL.or BN wF
def bU:En→Rv→Rv→Option Rv:=fun e x y=>(bT e x).bind fun p=>(bO y).bind fun i=>(atI p.2 i).map .d
def EC(K:PySem.W.Frag):R2:=fun x y H Q=>Cz K x y H Q∨ED K x y H Q
theorem FR:yr X (EC X.K):=tT.or wK
theorem aC.atI{F:Hp}{ds:List PyData}{vs:List V}(h:aC K F ds vs){i:Int}{d:PyData}(q:atI ds i=some d):∃v,L2.atI vs i=some v∧DA K F d v:=by
  unfold L2.atI at q ⊢
  obtain⟨j,h1,h2⟩:=Option.bind_eq_some_iff.mp q
  obtain⟨v,h3,h4⟩:=h.get h2
  exact⟨v,by rw [←h.len,h1];exact h3,h4⟩
theorem FU:eL K (EC K) bU:=by
  intro σ H0 F H e x y z v u Q R A B hg q
  unfold bU at hg
  obtain⟨⟨b,xs⟩,h1,hg⟩:=Option.bind_eq_some_iff.mp hg
  obtain⟨i,h2,hg⟩:=Option.bind_eq_some_iff.mp hg
  obtain⟨d,h3,hg⟩:=Option.map_eq_some_iff.mp hg
  cases hg
  obtain⟨p,vs,rfl,d1,s1⟩:=bJ R A h1
  obtain⟨w,h4,h5⟩:=d1.atI h3
  have fin:=q F H w (dw.refl _ _ _ _) R h5
  cases b with
  | true=>exact .inl ⟨p,vs,i,w,rfl,cg B h2,s1,h4,fin⟩
  | false=>exact .inr ⟨p,vs,i,w,rfl,cg B h2,s1,h4,fin⟩
end
end L2
namespace HT
open PySem PySem.Spec PyProof.Rows
section
variable{prog:Program}{w:World}{A:Around}{E:Value→Shared→Prop}{s:Shared}
theorem getItem_tuple_all{t sl:Addr}{items:Array Value}{vl vu:Value}{lo hi:Option Int}{Q:Value→Shared→Prop}(ht:IsTup s.heap t items)(hs:s.heap.IsSliceOf sl vl vu .none)(pl:IsPart vl lo)(pu:IsPart vu hi)
    (hw:sIx items.size 0 lo=0∧sIx items.size items.size hi=items.size)
    (h:Q (.ref t) s):wpAny (model prog w) A (getItem (.ref t) (.ref sl)) Q E s:=by
  obtain⟨os,hos,hcs,hds⟩:=id hs
  have hTs:s.TypeIs (.ref sl) "slice":=⟨os,hos,hcs⟩
  unfold getItem
  try with_reducible refine wpAny_holding ?_
  first | refine wpAny_bind (wpAny_pure ?_) | skip
  refine wpAny_bind (wpAny_sequenceKey ht.typeIs (by decide) ?_)
  refine wpAny_bind (wpAny_callSpecial?_slot (name:=Str.ofString "__getitem__") ht.typeIs PyProof.Rows.slot_tuple_getitem
    (wpAny_call_entry PyProof.Rows.slot_tuple_getitem ht.typeIs entry_tuple_getitem ?_ (args_tuple_getitem _ _)))
  show wpAny _ _ (Builtin.Tuple.tupleItemsOf (.ref t) >>= _) _ _ s
  refine wpAny_bind (tupleItemsOf_ ht ?_)
  refine wpAny_bind (wpAny_typeOf hTs ?_)
  rw [if_pos (by decide)]
  refine wpAny_bind (gJ hs pl pu ?_)
  have hno:(((sIx items.size 0 lo:Nat):Int)==0&&(1:Int)==1&&(sIx items.size items.size hi - sIx items.size 0 lo)==items.size)=true:=by
    rw [hw.1,hw.2];simp
  show wpAny _ _ (if (((sIx items.size 0 lo:Nat):Int)==0&&(1:Int)==1&&(sIx items.size items.size hi - sIx items.size 0 lo)==items.size)=true then _ else _) _ _ s
  rw [if_pos hno]
  unfold Builtin.Tuple.tupleIsExact
  refine wpAny_bind (wpAny_bind (wpAny_typeOf ht.typeIs (wpAny_pure ?_)))
  rw [if_pos (by decide)]
  exact wpAny_bind (wpAny_rule (wpAny_pure ⟨_,rfl,wpAny_pure h⟩))
end
end HT
namespace L2
open PySem PySem.Spec PyProof.Rows
section
variable{X:Cx}{K:PySem.W.Frag}{a:Expr}{fa:FE}{lo hi:Option Expr}{pos p2:Pos}
def cutD(xs:List PyData)(lo hi:Option Int):List PyData:=(xs.drop (HT.sIx xs.length 0 lo)).take (HT.sIx xs.length xs.length hi - HT.sIx xs.length 0 lo)
def EG(K:PySem.W.Frag):V→Option Int→Option Int→Hp→VK→Prop:=fun x lo hi H Q=>∃a xs,x=.ref a∧cZ K H a xs∧
  (HT.sIx xs.length 0 lo=0∧HT.sIx xs.length xs.length hi=xs.length)∧Q (.ref a) H
theorem zZ:yD X (EG X.K):=by
  intro pins s σ H x v vl vu lo hi sl Q I rx hs pl pu h
  obtain⟨a,xs,rfl,hx,hw,q⟩:=h
  cases rx
  obtain⟨its,r,ht,hz⟩:=I.tuple hx
  have hlen:its.toArray.size=xs.length:=by rw [List.size_toArray];exact r.length.symm
  refine⟨"tuple",_,PyProof.Rows.slot_tuple_getitem.lookup,ht.typeIs,?_⟩
  exact HT.getItem_tuple_all ht hs pl pu (by rw [hlen];exact hw) ⟨.ref a,H,I,rfl,q⟩
def F_(K:PySem.W.Frag):V→Option Int→Option Int→Hp→VK→Prop:=fun x lo hi H Q=>EF K x lo hi H Q∨(EG K x lo hi H Q∨EE K x lo hi H Q)
theorem Ga:yD X (F_ X.K):=CL.or (zZ.or zY)
abbrev FO:=En→Option (Option Int × En)
def fO(K:PySem.W.Frag)(f:FO):TO:=fun σ H Q=>∃F e o e',aX K F H σ e∧f e=some (o,e')∧∀F' H',dw σ F H e F' H' e'→aX K F' H' σ e'→Q o H'
theorem PO.mono{e:Option Expr}{t t':TO}(h:PO X e t)(m:∀σ H Q,t' σ H Q→t σ H Q):PO X e t':=fun pins s σ H Q I q=>h pins s σ H Q I (m σ H Q q)
def gE:FO:=fun e=>some (none,e)
def dS(f:FE):FO:=fun e=>(f e).bind fun p=>(bO p.1).map fun i=>(some i,p.2)
theorem eV:PO X none (fO K gE):=zD.mono fun σ H Q h=>by
  obtain⟨F,e,o,e',R,hf,q⟩:=h
  cases hf
  exact q F H (dw.refl _ _ _ _) R
theorem cJ(h:PE X a (fE K fa)):PO X (some a) (fO K (dS fa)):=(zE h).mono fun σ H Q h=>by
  obtain⟨F,e,o,e',R,hf,q⟩:=h
  unfold dS at hf
  obtain⟨⟨x,e1⟩,h1,hf⟩:=Option.bind_eq_some_iff.mp hf
  obtain⟨i,h2,hf⟩:=Option.map_eq_some_iff.mp hf
  cases hf
  exact⟨F,e,x,_,R,h1,fun F1 H1 v X1 R1 A1=>⟨i,cg A1 h2,q F1 H1 X1 R1⟩⟩
def FH(e:En)(x:Rv)(lo hi:Option Int):Option Rv:=(bT e x).map fun p=>if p.1=true then .l (cutD p.2 lo hi) else .d (.tuple (cutD p.2 lo hi))
def rA(fa:FE)(fl fh:FO):FE:=fun e=>(fa e).bind fun p=>(fl p.2).bind fun l=>(fh l.2).bind fun h=>(FH h.2 p.1 l.1 h.1).map fun z=>(z,h.2)
theorem vN{F:Hp}{ds:List PyData}{vs:List V}(h:aC K F ds vs)(lo hi:Option Int):aC K F (cutD ds lo hi) (mP vs lo hi):=by
  unfold cutD mP
  rw [h.len]
  exact(h.drop _).take _
theorem yJ{α:Type}{xs:List α}{lo hi:Option Int}(h:HT.sIx xs.length 0 lo=0∧HT.sIx xs.length xs.length hi=xs.length):(xs.drop (HT.sIx xs.length 0 lo)).take (HT.sIx xs.length xs.length hi - HT.sIx xs.length 0 lo)=xs:=by
  rw [h.1,h.2];simp
theorem xN{fl fh:FO}(he:PE X a (fE X.K fa))(hl:PO X lo (fO X.K fl))(hh:PO X hi (fO X.K fh)):PE X (.Subscript a (.Slice lo hi none p2) pos) (fE X.K (rA fa fl fh)):=(xn Ga he hl hh).mono fun σ H Q h=>by
  obtain⟨F,e,z,e',R,hf,q⟩:=h
  unfold rA at hf
  obtain⟨⟨x,e1⟩,h1,hf⟩:=Option.bind_eq_some_iff.mp hf
  obtain⟨⟨l,e2⟩,h2,hf⟩:=Option.bind_eq_some_iff.mp hf
  obtain⟨⟨u,e3⟩,h3,hf⟩:=Option.bind_eq_some_iff.mp hf
  obtain⟨z',h4,hf⟩:=Option.map_eq_some_iff.mp hf
  cases hf
  refine⟨F,e,x,e1,R,h1,fun F1 H1 v X1 R1 A1=>⟨F1,e1,l,e2,R1,h2,fun F2 H2 X2 R2=>⟨F2,e2,u,_,R2,h3,fun F3 H3 X3 R3=>?_⟩⟩⟩
  have X12:=X1.trans X2
  have X13:=X12.trans X3
  have A3:=(A1.ext X2).ext X3
  unfold FH at h4
  obtain⟨⟨b,xs⟩,h5,h4⟩:=Option.map_eq_some_iff.mp h4
  obtain⟨p,vs,rfl,d1,s1⟩:=bJ R3 A3 h5
  cases b with
  | true=>
    rw [if_pos rfl] at h4;cases h4
    refine .inr (.inr ⟨p,vs,rfl,s1,fun t ht=>?_⟩)
    obtain⟨R4,X4,hF,no⟩:=R3.newL (vs:=mP vs l u) ht
    exact q _ _ _ (X13.trans X4) R4 ⟨t,_,rfl,X13.dom _ ht,hF,am,vN d1 l u,no⟩
  | false=>
    rw [if_neg (by simp)] at h4;cases h4
    by_cases hw:HT.sIx vs.length 0 l=0∧HT.sIx vs.length vs.length u=vs.length
    · refine .inr (.inl ⟨p,vs,rfl,s1,hw,?_⟩)
      have e5:cutD xs l u=xs:=by unfold cutD;exact yJ (by rw [d1.len];exact hw)
      rw [e5] at q
      obtain⟨F4,R4,X4,hF⟩:=R3.growT (av.refl _) s1
      exact q _ _ _ (X13.trans X4) R4 (bN.mpr ⟨p,vs,rfl,hF,d1.mono X4.sf⟩)
    · refine .inl ⟨p,vs,rfl,s1,hw,fun t ht=>?_⟩
      obtain⟨R4,X4⟩:=R3.newT (vs:=mP vs l u) ht
      exact q _ _ _ (X13.trans X4) R4 (bN.mpr ⟨t,_,rfl,.inl (.inl am),(vN d1 l u).mono X4.sf⟩)
end
section
variable{X:Cx}{K:PySem.W.Frag}
theorem iS{σ:L2.St}{H0 F H:Hp}{e:En}{x:Rv}{vs:List V}(h:dy K σ H0 F H e [x] vs):∃v,vs=[v]∧b7 K σ H0 F H e x v:=by
  obtain⟨v,ws,rfl,h1,h2⟩:=h
  have h2':ws=[]:=h2
  subst h2'
  exact⟨v,rfl,h1⟩
theorem ue{σ:L2.St}{H0 F H:Hp}{e:En}{x y:Rv}{vs:List V}(h:dy K σ H0 F H e [x,y] vs):∃v u,vs=[v,u]∧b7 K σ H0 F H e x v∧b7 K σ H0 F H e y u:=by
  obtain⟨v,ws,rfl,h1,h2⟩:=h
  obtain⟨u,rfl,h3⟩:=iS h2
  exact⟨v,u,rfl,h1,h3⟩
def g1(g:En→Rv→Option Rv):En→List Rv→Option Rv:=fun e xs=>match xs with
  | [x]=>g e x
  | _=>none
def g2(g:En→Rv→Rv→Option Rv):En→List Rv→Option Rv:=fun e xs=>match xs with
  | [x,y]=>g e x y
  | _=>none
theorem ee{r:List V→Hp→VK→Prop}{g:En→Rv→Option Rv}(h:Dp K (fun v H Q=>r [v] H Q) g):cO K r (g1 g):=by
  intro σ H0 F H e xs z vs Q R A hg q
  unfold g1 at hg
  match xs,hg with
  | [x],hg=>
    obtain⟨v,rfl,h1⟩:=iS A
    exact h σ H0 F H e x z v Q R h1 hg q
theorem ti{r:List V→Hp→VK→Prop}{g:En→Rv→Rv→Option Rv}(h:eL K (fun v u H Q=>r [v,u] H Q) g):cO K r (g2 g):=by
  intro σ H0 F H e xs z vs Q R A hg q
  unfold g2 at hg
  match xs,hg with
  | [x,y],hg=>
    obtain⟨v,u,rfl,h1,h2⟩:=ue A
    exact h σ H0 F H e x y z v u Q R h1 h2 hg q
def bZ:En→Rv→Option Rv:=fun e x=>(bT e x).map fun p=>.d (.int p.2.length)
theorem D3:cO K (fun xs H Q=>∃p ys,xs=[.ref p]∧(fm K H p ys∨cZ K H p ys)∧Q (.int ys.length) H) (g1 bZ):=ee fun σ H0 F H e x z v Q R A hg q=>by
  obtain⟨⟨b,xs⟩,h5,h4⟩:=Option.map_eq_some_iff.mp hg
  obtain⟨p,vs,rfl,d1,s1⟩:=bJ R A h5
  cases h4
  refine⟨p,vs,rfl,?_,?_⟩
  · cases b with
    | true=>exact .inl s1
    | false=>exact .inr s1
  · rw [←d1.len]
    exact q F H _ (dw.refl _ _ _ _) R my
def uJ:En→Rv→Option Rv:=fun _ x=>(bO x).map fun i=>.d (.int (if i < 0 then -i else i))
theorem Dq:cO K (fun xs H Q=>∃i,xs=[.int i]∧Q (.int (if i < 0 then -i else i)) H) (g1 uJ):=ee fun σ H0 F H e x z v Q R A hg q=>by
  obtain⟨i,h5,h4⟩:=Option.map_eq_some_iff.mp hg
  cases h4
  exact⟨i,by rw [cg A h5],q F H _ (dw.refl _ _ _ _) R my⟩
def uL:En→Rv→Option Rv:=fun _ x=>match x with
  | .d (.int i)=>some (.d (.int i))
  | .d (.bool k)=>some (.d (.int (if k then 1 else 0)))
  | _=>none
theorem DU:cO K (fun xs H Q=>(∃i,xs=[.int i]∧Q (.int i) H)∨∃k,xs=[.bl k]∧Q (.int (if k then 1 else 0)) H) (g1 uL):=ee fun σ H0 F H e x z v Q R A hg q=>by
  unfold uL at hg
  split at hg
  · cases hg
    exact .inl ⟨_,by rw [bM.mp (show DA K F (.int _) v from A)],q F H _ (dw.refl _ _ _ _) R my⟩
  · cases hg
    exact .inr ⟨_,by rw [c_.mp (show DA K F (.bool _) v from A)],q F H _ (dw.refl _ _ _ _) R my⟩
  · cases hg
def wg:=gI (fun _ _=>true) fun i j=>.int (if j < i then j else i)
def p4:=gI (fun _ _=>true) fun i j=>.int (if j > i then j else i)
theorem D8:cO K (fun xs H Q=>∃i j,xs=[.int i,.int j]∧Q (.int (if j < i then j else i)) H) (g2 wg):=ti fun σ H0 F H e x y z v u Q R A B hg q=>by
  obtain⟨i,j,h1,h2,h3⟩:=iG (K:=K) (g:=fun i j=>.int (if j < i then j else i)) (fun _ _ _=>bM.mpr rfl) σ H0 F H e x y z v u Q R A B hg q
  exact⟨i,j,by rw [h1,h2],h3⟩
theorem D7:cO K (fun xs H Q=>∃i j,xs=[.int i,.int j]∧Q (.int (if j > i then j else i)) H) (g2 p4):=ti fun σ H0 F H e x y z v u Q R A B hg q=>by
  obtain⟨i,j,h1,h2,h3⟩:=iG (K:=K) (g:=fun i j=>.int (if j > i then j else i)) (fun _ _ _=>bM.mpr rfl) σ H0 F H e x y z v u Q R A B hg q
  exact⟨i,j,by rw [h1,h2],h3⟩
def cF:En→Rv→Option Rv:=fun e x=>(bT e x).map fun p=>.d (.tuple p.2)
theorem Ag:cO K (fun xs H Q=>∃p ys,xs=[.ref p]∧((fm K H p ys∧∀l,H l=none→Q (.ref l) (aV H l (.tup ys)))∨(cZ K H p ys∧Q (.ref p) H))) (g1 cF):=ee fun σ H0 F H e x z v Q R A hg q=>by
  obtain⟨⟨b,xs⟩,h5,h4⟩:=Option.map_eq_some_iff.mp hg
  obtain⟨p,vs,rfl,d1,s1⟩:=bJ R A h5
  cases h4
  refine⟨p,vs,rfl,?_⟩
  cases b with
  | true=>
    refine .inl ⟨s1,fun t ht=>?_⟩
    obtain⟨R4,X4⟩:=R.newT (vs:=vs) ht
    exact q _ _ _ X4 R4 (bN.mpr ⟨t,_,rfl,.inl (.inl am),d1.mono X4.sf⟩)
  | false=>
    obtain⟨F4,R4,X4,hF⟩:=R.growT (av.refl _) s1
    exact .inr ⟨s1,q _ _ _ X4 R4 (bN.mpr ⟨p,vs,rfl,hF,d1.mono X4.sf⟩)⟩
def nA:En→Rv→Option Rv:=fun e x=>(bT e x).map fun p=>.l p.2
theorem BI:cO K (fun xs H Q=>∃p ys,xs=[.ref p]∧(fm K H p ys∨cZ K H p ys)∧∀l,H l=none→Q (.ref l) (aV H l (.lst ys))) (g1 nA):=ee fun σ H0 F H e x z v Q R A hg q=>by
  obtain⟨⟨b,xs⟩,h5,h4⟩:=Option.map_eq_some_iff.mp hg
  obtain⟨p,vs,rfl,d1,s1⟩:=bJ R A h5
  cases h4
  refine⟨p,vs,rfl,?_,fun t ht=>?_⟩
  · cases b with
    | true=>exact .inl s1
    | false=>exact .inr s1
  · obtain⟨R4,X4,hF,no⟩:=R.newL (vs:=vs) ht
    exact q _ _ _ X4 R4 ⟨t,_,rfl,ht,hF,am,d1,no⟩
def kT:List PyData→Option (List Int)
  | []=>some []
  | .int i::r=>(kT r).map (i::·)
  | _=>none
theorem jB:∀{ds:List PyData} {ns:List Int},kT ds=some ns→ds=ns.map .int
  | [],_,h=>by cases h;rfl
  | .int i::r,_,h=>by
    obtain⟨ns,h1,rfl⟩:=Option.map_eq_some_iff.mp h
    rw [jB h1];rfl
theorem iQ:∀(ns:List Int),kT (ns.map .int)=some ns
  | []=>rfl
  | i::r=>by simp [kT,iQ r]
def lH:List PyData→Option (List Bool)
  | []=>some []
  | .bool i::r=>(lH r).map (i::·)
  | _=>none
theorem m6:∀{ds:List PyData} {ns:List Bool},lH ds=some ns→ds=ns.map .bool
  | [],_,h=>by cases h;rfl
  | .bool i::r,_,h=>by
    obtain⟨ns,h1,rfl⟩:=Option.map_eq_some_iff.mp h
    rw [m6 h1];rfl
def kP(g:List PyData→Option PyData):En→Rv→Option Rv:=fun e x=>match bT e x with
  | some (true,xs)=>(g xs).map .d
  | _=>none
theorem CK{r:List V→Hp→VK→Prop}{g:List PyData→Option PyData}(h:∀(F H:Hp) (p:Addr) (xs:List PyData) (vs:List V) (d:PyData) (Q:VK),aC K F xs vs→fm K H p vs→g xs=some d→(∀v,(∀F,DA K F d v)→Q v H)→r [.ref p] H Q):cO K r (g1 (kP g)):=ee fun σ H0 F H e x z v Q R A hg q=>by
  unfold kP at hg
  split at hg
  case h_2=>cases hg
  case h_1 xs h5=>
  obtain⟨p,vs,rfl,d1,s1⟩:=bJ R A h5
  obtain⟨d,h6,hg⟩:=Option.map_eq_some_iff.mp hg
  cases hg
  exact h F H p xs vs d Q d1 s1 h6 fun v hv=>q F H v (dw.refl _ _ _ _) R (hv F)
def nu:List PyData→Option PyData:=fun xs=>(lH xs).map fun ns=>.bool (ns.all id)
theorem Ds:cO K (fun xs H Q=>∃(l:Addr) (bs:List Bool),xs=[.ref l]∧fm K H l (bs.map V.bl)∧Q (.bl (bs.all id)) H) (g1 (kP nu)):=CK fun F H p xs vs d Q d1 s1 hg q=>by
  obtain⟨ns,h1,h2⟩:=Option.map_eq_some_iff.mp hg
  cases h2
  rw [m6 h1] at d1
  rw [aC.bools.mp d1] at s1
  exact⟨p,ns,rfl,s1,q _ fun _=>c_.mpr rfl⟩
def rX:En→Rv→Option Rv:=fun e x=>match bT e x with
  | some (false,xs)=>(kT xs).bind fun ns=>if ns.length < 64 then some (.l ((bi ns).map .int)) else none
  | _=>none
def xV(K:PySem.W.Frag):List V→Hp→VK→Prop:=fun xs H Q=>∃(a:Addr) (ns:List Int),xs=[.ref a]∧cZ K H a (ns.map V.int)∧ns.length < 64∧∀(l:Addr) (H':Hp),av H H'→H l=none→H' l=some (.lst ((bi ns).map V.int))→Q (.ref l) H'
theorem rL:cL X (.builtin "sorted") (xV X.K):=by
  intro pins s σ H xs us Q I rv h
  obtain⟨a,ns,e1,e2,e3,q⟩:=h
  exact kz pins s σ H xs us Q I rv ⟨a,ns,e1,e2,e3,fun l ns' H' sm hn hl hp hs=>q l H' sm hn (by rw [←gK hp hs];exact hl)⟩
theorem z5:cO K (xV K) (g1 rX):=ee fun σ H0 F H e x z v Q R A hg q=>by
  unfold rX at hg
  split at hg
  case h_2=>cases hg
  case h_1 xs h5=>
  obtain⟨p,vs,rfl,d1,s1⟩:=bJ R A h5
  obtain⟨ns,h6,hg⟩:=Option.bind_eq_some_iff.mp hg
  split at hg
  case isFalse=>cases hg
  case isTrue hl=>
  cases hg
  rw [jB h6] at d1
  have s1':cZ K H p vs:=s1
  rw [aC.ints.mp d1] at s1'
  refine⟨p,ns,rfl,s1',hl,fun l H' sm hn hl'=>?_⟩
  obtain⟨R4,X4⟩:=R.same sm
  exact q F H' _ X4 R4 ⟨l,_,rfl,hn,R.freeF hn,hl',aC.ints.mpr rfl,fun z=>R.ownH l ((R.sameOwn sm l).mp z) hn⟩
mutual
def bv:PyData→Bool
  | .tuple ds=>aR ds
  | .list _=>false
  | .dict _=>false
  | _=>true
def aR:List PyData→Bool
  | []=>true
  | d::r=>bv d&&aR r
end
mutual
def eJ:PyData→Bool
  | .list _=>false
  | .tuple ds=>eA ds
  | _=>true
def eA:List PyData→Bool
  | []=>true
  | d::r=>eJ d&&eA r
end
theorem mv{h:Heap}:∀{m:List (Int × Int)} {es:List DictEntry} {vs:List (fQ × Value)} {P:Program} {w:World},KV (m.map fun p=>((Sum.inl p.1:fQ),V.int p.2)) vs→Pairs (dH P w) es vs→
    ReadsAll h (es.map (·.key)) (m.map fun p=>PyData.int p.1) []∧ReadsAll h (es.map (·.val)) (m.map fun p=>PyData.int p.2) []
  | [],es,vs,P,w,r,q=>by
    cases r
    cases q
    exact⟨.nil,.nil⟩
  | p::m,es,vs,P,w,r,q=>by
    rw [List.map_cons] at r
    cases r with
    | @cons a b as bs h1 t=>
      cases q with
      | @cons e kv es' kvs' h2 h3 h4=>
        obtain⟨z1,z2⟩:=h1
        obtain⟨c1,c2⟩:=mv t h4
        obtain⟨tk,z2⟩:=z2
        have k1:l4 (Sum.inl p.1) e.key=true:=by
          have:b.1=Sum.inl p.1:=z1.symm
          rw [←this];exact h2
        rcases bB k1 with ⟨i,t',e1,e2⟩ | ⟨x,t',e1,e2⟩
        · cases e1
          refine⟨?_,?_⟩
          · simp only [List.map_cons,e2]
            exact ReadsAll.cons (as:=[]) (bs:=[]) (.int p.1 t') c1
          · simp only [List.map_cons,h3,z2]
            exact ReadsAll.cons (as:=[]) (bs:=[]) (.int p.2 tk) c2
        · cases e1
mutual
theorem DA.readsR{X:Cx}{pins:List (Addr × Obj)}{σ:L2.St}{H:Hp}{s:Shared}(I:az X pins σ H s):∀{d:PyData} {v:V} {u:Value},DA X.K H d v→bC v u→∃as,Reads s.heap u d as∧(eJ d=true→sysModules∉as)
  | .none,_,_,q,r=>by
    simp only [DA] at q;subst q;cases r;exact⟨_,.none,fun _=>by simp⟩
  | .bool b,_,_,q,r=>by
    simp only [DA] at q;subst q;cases r;exact⟨_,.bool b,fun _=>by simp⟩
  | .int i,_,_,q,r=>by
    simp only [DA] at q;subst q;obtain⟨t,rfl⟩:=r;exact⟨_,.int i t,fun _=>by simp⟩
  | .str x,_,_,q,r=>by
    simp only [DA] at q;subst q;obtain⟨t,rfl⟩:=r;exact⟨_,.str x t,fun _=>by simp⟩
  | .tuple ds,_,_,q,r=>by
    simp only [DA] at q
    obtain⟨a,xs,e,hs,rr⟩:=q
    subst e;cases r
    obtain⟨its,rv,⟨o,ho,hc,n,hd⟩,hz⟩:=I.tuple hs
    obtain⟨as,q,z⟩:=aC.readsR I rr rv
    exact⟨_,.tuple ho hc hd q,fun c=>z (by simpa [eJ] using c)⟩
  | .list ds,_,_,q,r=>by
    simp only [DA] at q
    obtain⟨a,xs,e,hs,rr⟩:=q
    subst e;cases r
    obtain⟨its,rv,ht,hz⟩:=I.list hs
    obtain⟨o,ho,hc,n,hd⟩:=ht.isList
    obtain⟨as,q,z⟩:=aC.readsR I rr rv
    exact⟨_,.list ho hc hd q,fun c=>by simp [eJ] at c⟩
  | .dict kvs,_,_,q,r=>by
    simp only [DA] at q
    obtain⟨a,m,e,hs,rfl⟩:=q
    subst e;cases r
    obtain⟨_,hS,vs,kv,o,es,ep,ho,hx,hd,_,hp,_⟩:=(show cP X.prog X.w H s.heap a (.dK (m.map fun p=>(Sum.inl p.1,V.int p.2))) from I.hok a _ hs)
    obtain⟨c1,c2⟩:=mv (h:=s.heap) kv hp
    refine⟨_,Reads.dict (as:=[]) (bs:=[]) ho hx.1 hd ?_ ?_,fun _=>?_⟩
    · rw [List.map_map];exact c1
    · rw [List.map_map];exact c2
    · have:a≠sysModules:=by simpa using hS
      simpa using this.symm
theorem aC.readsR{X:Cx}{pins:List (Addr × Obj)}{σ:L2.St}{H:Hp}{s:Shared}(I:az X pins σ H s):∀{ds:List PyData} {xs:List V} {us:List Value},aC X.K H ds xs→aI xs us→∃as,ReadsAll s.heap us ds as∧(eA ds=true→sysModules∉as)
  | [],_,_,q,r=>by
    simp only [aC] at q;subst q;cases r;exact⟨_,.nil,fun _=>by simp⟩
  | d::ds,_,_,q,r=>by
    simp only [aC] at q
    obtain⟨x,rr,e,a,b⟩:=q
    subst e
    cases r with
    | cons p p'=>
      obtain⟨as,q1,z1⟩:=DA.readsR I a p
      obtain⟨bs,q2,z2⟩:=aC.readsR I b p'
      refine⟨_,.cons q1 q2,fun c=>?_⟩
      simp only [eA,Bool.and_eq_true] at c
      intro z
      rcases List.mem_append.mp z with z | z
      · exact z1 c.1 z
      · exact z2 c.2 z
end
def jV(d:PyData):Bool:=(bv d || (!d.hasDict || eJ d))&&d.showable&&decide (d.depth≤60)&&decide (d.shown.length≤sizeLine)
def jv:En→Rv→Option Rv:=fun _ x=>match x with
  | .d d=>if jV d=true then some (.d (.str d.shown)) else none
  | _=>none
def xU(K:PySem.W.Frag):List V→Hp→VK→Prop:=fun xs H Q=>∃x d,xs=[x]∧DA K H d x∧(d.hasDict=true→eJ d=true)∧d.showable=true∧d.depth≤60∧d.shown.length≤sizeLine∧Q (.str d.shown) H
mutual
theorem iA:∀(d:PyData),bv d=true→d.hasDict=false
  | .none,_=>rfl
  | .bool _,_=>rfl
  | .int _,_=>rfl
  | .str _,_=>rfl
  | .tuple ds,h=>by simp only [PyData.hasDict];exact js ds (by simpa [bv] using h)
  | .list ds,h=>by simp [bv] at h
  | .dict _,h=>by simp [bv] at h
theorem js:∀(ds:List PyData),aR ds=true→PyData.hasDictAll ds=false
  | [],_=>rfl
  | d::r,h=>by
    simp only [aR,Bool.and_eq_true] at h
    simp only [PyData.hasDictAll,iA d h.1,js r h.2,Bool.or_self]
end
theorem rK{X:Cx}{k:Nat}(hr:cz k X.A):cL X (.builtin "repr") (xU X.K):=by
  intro pins s σ H xs us Q I r h
  obtain⟨x,d,rfl,ha,hdl,hsh,hdp,hsz,q⟩:=h
  obtain⟨u,rfl,ru⟩:∃u,us=[u]∧bC x u:=by
    cases r with
    | cons p p'=>cases p';exact⟨_,rfl,p⟩
  have hun:=hr.un
  obtain⟨as,rd,hm⟩:=DA.readsR I ha ru
  have fin:∀a,u=.ref a→wpAny (model X.prog X.w) X.A (call (.builtin "repr") [u]) (EP X pins σ Q) X.xe s:=fun a e=>by
    subst e
    exact repr_of_reads' rd hsh (fun z=>hm (hdl z)) hr.gd (by lia) (fun _ _ e=>e) (fun h' u tk hk=>⟨.str _,H,I.kept hk,⟨_,rfl⟩,q⟩) hsz
  cases d with
  | none=>simp only [DA] at ha;subst ha;cases ru;exact P.repr_of_none ⟨.str _,H,I.tok _,⟨_,rfl⟩,q⟩
  | bool b=>simp only [DA] at ha;subst ha;cases ru;exact P.repr_of_bool ⟨.str _,H,I.tok _,⟨_,rfl⟩,q⟩
  | int i=>
    simp only [DA] at ha;subst ha;obtain⟨t,rfl⟩:=ru
    simp only [PyData.showable,decide_eq_true_eq] at hsh
    exact P.repr_of_int hsh ⟨.str _,H,I.tok _,⟨_,rfl⟩,q⟩
  | str y=>simp only [DA] at ha;subst ha;obtain⟨t,rfl⟩:=ru;exact P.repr_of_str ⟨.str _,H,I.tok _,⟨_,rfl⟩,q⟩ hsz
  | list ds=>obtain⟨a,_,e,_⟩:=cw.mp ha;subst e;exact fin a ru
  | dict ds=>simp only [DA] at ha;obtain⟨a,_,e,_⟩:=ha;subst e;exact fin a ru
  | tuple ds=>obtain⟨a,_,e,_⟩:=bN.mp ha;subst e;exact fin a ru
theorem CF:cO K (xU K) (g1 jv):=ee fun σ H0 F H e x z v Q R A hg q=>by
  unfold jv at hg
  split at hg
  case h_2=>cases hg
  case h_1 d=>
  split at hg
  case isFalse=>cases hg
  case isTrue hl=>
  cases hg
  unfold jV at hl
  rw [Bool.and_eq_true,Bool.and_eq_true,Bool.and_eq_true,decide_eq_true_iff,decide_eq_true_iff] at hl
  refine⟨v,d,rfl,DA.mono R.sm A,fun z=>?_,hl.1.1.2,hl.1.2,hl.2,q F H _ (dw.refl _ _ _ _) R ((ox (K:=K) (F:=F)).mpr rfl)⟩
  have c:=hl.1.1.1
  cases hf:bv d with
  | true=>rw [iA d hf] at z;cases z
  | false=>rw [hf,z] at c;simpa using c
end
end L2
namespace L2
open PySem PySem.Spec PyProof.Rows
section
variable{K:PySem.W.Frag}{σ:L2.St}{H0 F H F' H':Hp}{e e':En}
theorem aX.upd1(R:aX K F H σ e){σ':L2.St}(i:Nat)(hl:σ'.length=e'.length)(hσ:∀j,j≠i→σ'[j]?=σ[j]?)(he:∀j,j≠i→e'[j]?=e[j]?)(sF:av F F')(sm:av F' H')(hf:∀j a,j≠i→Fp σ e H j a→F' a=none)
    (hh:∀j a o,j≠i→Fp σ e H j a→H a=some o→H' a=some o)(hd:∀x,e'[i]?=some (some (.d x))→∃v,σ'[i]?=some (some v)∧DA K F' x v)
    (ho:∀xs,e'[i]?=some (some (.l xs))→∃l vs,σ'[i]?=some (some (.ref l))∧F' l=none∧H' l=some (.lst vs)∧aC K F' xs vs)
    (hn:∀xss,e'[i]?=some (some (.n xss))→∃(l:Addr) (bs:List Addr),σ'[i]?=some (some (.ref l))∧F' l=none∧H' l=some (.lst (bs.map V.ref))∧bs.length=xss.length∧bs.Nodup∧l∉bs∧
      ∀(k:Nat) (b:Addr) (ys:List PyData),bs[k]?=some b→xss[k]?=some ys→F' b=none∧∃us,H' b=some (.lst us)∧aC K F' ys us)
    (hi:∀a j,j≠i→Fp σ' e' H' i a→¬Fp σ e H j a):aX K F' H' σ' e'∧∀j a,j≠i→(Fp σ' e' H' j a↔ Fp σ e H j a):=by
  have fs:∀j a,j≠i→(Fp σ' e' H' j a↔ Fp σ e H j a):=by
    intro j a hj
    have key:∀xss l,e[j]?=some (some (.n xss))→σ[j]?=some (some (.ref l))→H' l=H l:=fun xss l h1 h2=>by
      obtain⟨l',bs,g1,g2,g3,_⟩:=R.nst j xss h1
      rw [h2] at g1;cases g1
      rw [g3]
      exact hh j l _ hj (.inr ⟨xss,l,bs,h1,h2,g3,.inl rfl⟩) g3
    unfold Fp
    rw [he j hj,hσ j hj]
    constructor
    · rintro(h1 | ⟨xss,l,bs,h1,h2,h3,h4⟩)
      · exact .inl h1
      · exact .inr ⟨xss,l,bs,h1,h2,by rw [←key xss l h1 h2];exact h3,h4⟩
    · rintro(h1 | ⟨xss,l,bs,h1,h2,h3,h4⟩)
      · exact .inl h1
      · exact .inr ⟨xss,l,bs,h1,h2,by rw [key xss l h1 h2];exact h3,h4⟩
  refine⟨⟨sm,hl,fun j x q=>?_,fun j xs q=>?_,fun j xss q=>?_,fun j k a q1 q2=>?_⟩,fs⟩
  · by_cases z:j=i
    · subst z;exact hd x q
    · rw [he j z] at q
      obtain⟨v,h1,h2⟩:=R.dat j x q
      exact⟨v,by rw [hσ j z];exact h1,DA.mono sF h2⟩
  · by_cases z:j=i
    · subst z;exact ho xs q
    · rw [he j z] at q
      obtain⟨l,vs,h1,h2,h3,h4⟩:=R.own j xs q
      have o:Fp σ e H j l:=.inl ⟨xs,q,h1⟩
      exact⟨l,vs,by rw [hσ j z];exact h1,hf j l z o,hh j l _ z o h3,h4.mono sF⟩
  · by_cases z:j=i
    · subst z;exact hn xss q
    · rw [he j z] at q
      obtain⟨l,bs,h1,h2,h3,h4,h5,h6,h7⟩:=R.nst j xss q
      have o:Fp σ e H j l:=.inr ⟨xss,l,bs,q,h1,h3,.inl rfl⟩
      refine⟨l,bs,by rw [hσ j z];exact h1,hf j l z o,hh j l _ z o h3,h4,h5,h6,fun k b ys g1 g2=>?_⟩
      obtain⟨c1,us,c2,c3⟩:=h7 k b ys g1 g2
      have ob:Fp σ e H j b:=.inr ⟨xss,l,bs,q,h1,h3,.inr (List.mem_of_getElem? g1)⟩
      exact⟨hf j b z ob,us,hh j b _ z ob c2,c3.mono sF⟩
  · by_cases zj:j=i
    · subst zj
      by_cases zk:k=j
      · exact zk.symm
      · exact absurd ((fs k a zk).mp q2) (hi a k zk q1)
    · by_cases zk:k=i
      · subst zk
        exact absurd ((fs j a zj).mp q1) (hi a j zj q2)
      · exact R.fp j k a ((fs j a zj).mp q1) ((fs k a zk).mp q2)
theorem aX.putL(R:aX K F H σ e){i:Nat}{xs ys:List PyData}{l:Addr}{vs:List V}(hi:e[i]?=some (some (.l xs)))(hl:σ[i]?=some (some (.ref l)))(hd:aC K F ys vs):
    aX K F (aV H l (.lst vs)) σ (e.set i (some (.l ys)))∧dw σ F H e F (aV H l (.lst vs)) (e.set i (some (.l ys))):=by
  obtain⟨l',vs',h1,h2,h3,h4⟩:=R.own i xs hi
  rw [hl] at h1;cases h1
  have hlt:i < e.length:=(List.getElem?_eq_some_iff.mp hi).1
  have fi:Fp σ e H i l:=.inl ⟨xs,hi,hl⟩
  have gi:(e.set i (some (Sv.l ys)))[i]?=some (some (.l ys)):=List.getElem?_set_self hlt
  obtain⟨R',fs⟩:=R.upd1 (F':=F) (H':=aV H l (.lst vs)) (e':=e.set i (some (.l ys))) i (by rw [List.length_set];exact R.len) (fun _ _=>rfl) (fun j hj=>List.getElem?_set_ne (Ne.symm hj)) (av.refl F)
    (fun b o q=>by
      have z:b≠l:=fun z=>by rw [z,h2] at q;cases q
      rw [ax z];exact R.sm b o q)
    (fun j a _ q=>(R.fpAt q).1)
    (fun j a o hj q ha=>by
      have z:a≠l:=fun z=>hj (R.fp j i a q (by rw [z];exact fi))
      rw [ax z];exact ha)
    (fun x q=>by rw [gi] at q;cases q) (fun zs q=>by rw [gi] at q;cases q;exact⟨l,vs,hl,h2,am,hd⟩) (fun xss q=>by rw [gi] at q;cases q)
    (fun a j hj q q2=>by
      rcases q with ⟨zs,_,q⟩ | ⟨xss,_,_,q,_⟩
      · rw [hl] at q;cases q
        exact hj (R.fp j i _ q2 fi)
      · rw [gi] at q;cases q)
  refine⟨R',⟨av.refl _,fun a q=>?_,fun _ _ q _ _=>q,fun a ws q=>?_,fun a o q n=>?_,fun j=>?_,fun a ⟨j,q⟩=>?_⟩⟩
  · by_cases z:a=l
    · rw [z,am] at q;cases q
    · rw [ax z] at q;exact q
  · by_cases z:a=l
    · rw [z];exact⟨vs,am⟩
    · rw [ax z];exact⟨ws,q⟩
  · have z:a≠l:=fun z=>n ⟨i,by rw [z];exact fi⟩
    rw [ax z];exact q
  · by_cases z:j=i
    · subst z;rw [gi];exact⟨fun _=>⟨xs,hi⟩,fun _=>⟨ys,rfl⟩⟩
    · rw [List.getElem?_set_ne (Ne.symm z)]
  · by_cases z:j=i
    · subst z
      rcases q with ⟨zs,_,q⟩ | ⟨xss,_,_,q,_⟩
      · rw [hl] at q;cases q;exact .inl ⟨j,fi⟩
      · rw [gi] at q;cases q
    · exact .inl ⟨j,(fs j a z).mp q⟩
theorem aX.setD(R:aX K F H σ e)(i:Nat){x:PyData}{v:V}(h:DA K F x v):aX K F H (σ.set i (some v)) (e.set i (some (.d x)))∧∀a,cv (σ.set i (some v)) (e.set i (some (.d x))) H a→cv σ e H a:=by
  have gi:∀s,(e.set i (some (Sv.d x)))[i]?=some (some s)→s=.d x∧i < e.length:=fun s q=>by
    have hlt:i < e.length:=by have:=(List.getElem?_eq_some_iff.mp q).1;simpa using this
    rw [List.getElem?_set_self hlt] at q
    exact⟨(Option.some.inj (Option.some.inj q)).symm,hlt⟩
  have nofp:∀a,¬Fp (σ.set i (some v)) (e.set i (some (.d x))) H i a:=fun a q=>by
    rcases q with ⟨zs,q,_⟩ | ⟨xss,_,_,q,_⟩
    · cases (gi _ q).1
    · cases (gi _ q).1
  obtain⟨R',fs⟩:=R.upd1 (F':=F) (H':=H) (σ':=σ.set i (some v)) (e':=e.set i (some (.d x))) i (by rw [List.length_set,List.length_set];exact R.len) (fun j hj=>List.getElem?_set_ne (Ne.symm hj)) (fun j hj=>List.getElem?_set_ne (Ne.symm hj)) (av.refl F) R.sm
    (fun j a _ q=>(R.fpAt q).1) (fun j a o _ _ ha=>ha)
    (fun y q=>by
      obtain⟨z,hlt⟩:=gi _ q
      cases z
      exact⟨v,List.getElem?_set_self (by rw [R.len];exact hlt),h⟩)
    (fun zs q=>by cases (gi _ q).1) (fun xss q=>by cases (gi _ q).1) (fun a j hj q=>absurd q (nofp a))
  refine⟨R',fun a ⟨j,q⟩=>?_⟩
  by_cases z:j=i
  · subst z;exact absurd q (nofp a)
  · exact⟨j,(fs j a z).mp q⟩
theorem aX.setL(R:aX K F H σ e)(i:Nat){xs:List PyData}{l:Addr}{vs:List V}(h1:F l=none)(h2:H l=some (.lst vs))(h3:aC K F xs vs)(h4:¬cv σ e H l):aX K F H (σ.set i (some (.ref l))) (e.set i (some (.l xs)))∧∀a,cv (σ.set i (some (.ref l))) (e.set i (some (.l xs))) H a→cv σ e H a∨a=l:=by
  have gi:∀s,(e.set i (some (Sv.l xs)))[i]?=some (some s)→s=.l xs∧i < e.length:=fun s q=>by
    have hlt:i < e.length:=by have:=(List.getElem?_eq_some_iff.mp q).1;simpa using this
    rw [List.getElem?_set_self hlt] at q
    exact⟨(Option.some.inj (Option.some.inj q)).symm,hlt⟩
  have onefp:∀a,Fp (σ.set i (some (.ref l))) (e.set i (some (.l xs))) H i a→a=l:=fun a q=>by
    rcases q with ⟨zs,q,q2⟩ | ⟨xss,_,_,q,_⟩
    · obtain⟨_,hlt⟩:=gi _ q
      rw [List.getElem?_set_self (by rw [R.len];exact hlt)] at q2
      cases q2;rfl
    · cases (gi _ q).1
  obtain⟨R',fs⟩:=R.upd1 (F':=F) (H':=H) (σ':=σ.set i (some (.ref l))) (e':=e.set i (some (.l xs))) i (by rw [List.length_set,List.length_set];exact R.len) (fun j hj=>List.getElem?_set_ne (Ne.symm hj)) (fun j hj=>List.getElem?_set_ne (Ne.symm hj)) (av.refl F) R.sm
    (fun j a _ q=>(R.fpAt q).1) (fun j a o _ _ ha=>ha) (fun y q=>by cases (gi _ q).1)
    (fun zs q=>by
      obtain⟨z,hlt⟩:=gi _ q
      cases z
      exact⟨l,vs,List.getElem?_set_self (by rw [R.len];exact hlt),h1,h2,h3⟩)
    (fun xss q=>by cases (gi _ q).1) (fun a j hj q q2=>h4 ⟨j,by rw [onefp a q] at q2;exact q2⟩)
  refine⟨R',fun a ⟨j,q⟩=>?_⟩
  by_cases z:j=i
  · subst z;exact .inr (onefp a q)
  · exact .inl ⟨j,(fs j a z).mp q⟩
end
section
variable{X:Cx}{K:PySem.W.Frag}{o a:Expr}{es:List Expr}{fo:FE}{fs:FA}{name:Str}{apos cpos:Pos}{id:String}
def sW(K:PySem.W.Frag)(r:V→List V→Hp→VK→Prop)(g:List PyData→List PyData→Option (PyData × List PyData)):Prop:=
  ∀(F H:Hp) (l:Addr) (xs ys ds:List PyData) (z:PyData) (vs us:List V) (Q:VK),F l=none→av F H→H l=some (.lst vs)→aC K F xs vs→aC K F ds us→g xs ds=some (z,ys)→
    (∀w ws,DA K F z w→aC K F ys ws→Q w (aV H l (.lst ws)))→r (.ref l) us H Q
def eR(g:List PyData→List PyData→Option (PyData × List PyData))(fo:FE)(fs:FA):FE:=fun e=>(fo e).bind fun p=>match p.1 with
  | .s i=>(fs p.2).bind fun q=>(jr q.1).bind fun ds=>match q.2[i]? with
    | some (some (.l xs))=>(g xs ds).map fun z=>(.d z.1,q.2.set i (some (.l z.2)))
    | _=>none
  | _=>none
theorem yn{r:V→List V→Hp→VK→Prop}{g:List PyData→List PyData→Option (PyData × List PyData)}(hm:sW K r g){σ:L2.St}{H:Hp}{Q:VK}(h:fE K (eR g fo fs) σ H Q):Gz K "list" r (fE K fo) (fA K fs) σ H Q:=by
  obtain⟨F,e,z,e',R,hf,q⟩:=h
  unfold eR at hf
  obtain⟨⟨x,e1⟩,h1,hf⟩:=Option.bind_eq_some_iff.mp hf
  match x,h1,hf with
  | .s i,h1,hf=>
  dsimp only at hf
  obtain⟨⟨rs,e2⟩,h2,hf⟩:=Option.bind_eq_some_iff.mp hf
  obtain⟨ds,h3,hf⟩:=Option.bind_eq_some_iff.mp hf
  refine⟨F,e,_,e1,R,h1,fun F1 H1 v X1 R1 A1=>?_⟩
  obtain⟨g1,zs,g2⟩:=A1
  obtain⟨l,vs,c1,c2,c3,c4⟩:=R1.own i zs g2
  rw [g1] at c1;cases c1
  refine⟨.inl ⟨rfl,vs,.inl (.inl c3)⟩,F1,e1,rs,e2,R1,h2,fun F2 H2 us X2 R2 A2=>?_⟩
  match h4:e2[i]?,hf with
  | some (some (.l xs)),hf=>
  dsimp only at hf
  obtain⟨⟨zd,ys⟩,h5,hf⟩:=Option.map_eq_some_iff.mp hf
  cases hf
  obtain⟨F3,R3,s3,d3,f3⟩:=dy.frozen R2 A2 h3
  obtain⟨l',vs',k1,k2,k3,k4⟩:=R3.own i xs h4
  rw [g1] at k1;cases k1
  refine hm F3 H2 l xs ys ds zd vs' us Q k2 R3.sm k3 k4 d3 h5 fun w ws hw hws=>?_
  obtain⟨R4,X4⟩:=R3.putL h4 g1 hws
  exact q _ _ _ ((X1.trans (X2.frz s3 f3)).trans X4) R4 hw
theorem AZ{r:V→List V→Hp→VK→Prop}{g:List PyData→List PyData→Option (PyData × List PyData)}(slot:Slot "list" name id)(hty:typeOf (.builtin id)=pure (.type "method_descriptor"))(hm:Gp X id r)(hf:sW X.K r g)(ho:PE X o (fE X.K fo))(ha:PA X (a::es) (fA X.K fs))
    (hbase:attributeBase o name X.env (eval o X.env)=eval o X.env)
    (hfew:((backTo cpos (starEach (a::es) X.env)).all (fun x=> !x.1)&&(backToKw cpos (keywordEach [] X.env)).all (fun x=>x.1.isSome)
      &&decide ((a::es).length+([]:List Keyword).length+(if ([]:List Keyword).isEmpty then 0 else 1) < 30))=true)
    (hline:(apos.endLine==cpos.line)=true)(hs:starEach (a::es) X.env=(false,eval a X.env)::starEach es X.env)(hplain:(backTo cpos (starEach es X.env)).any (·.1)=false):
    PE X (.Call (.Attribute o name apos) (a::es) [] cpos) (fE X.K (eR g fo fs)):=(xh PySem.F.plainAttrs_list slot hty hm ho ha hbase hfew hline hs hplain).mono fun _ _ _ h=>yn hf h
def cI:List PyData→List PyData→Option (PyData × List PyData):=fun xs ds=>match ds with
  | [d]=>if xs.length < 1000000 then some (.none,xs++[d]) else none
  | _=>none
theorem vB:sW K t_ cI:=by
  intro F H l xs ys ds z vs us Q hF sm hl d1 d2 hg q
  unfold cI at hg
  match ds,hg,d2 with
  | [d],hg,d2=>
    simp only [aC] at d2
    obtain⟨w,r,rfl,hw,rfl⟩:=d2
    dsimp only at hg
    split at hg
    case isFalse=>cases hg
    case isTrue hlt=>
    cases hg
    have:=d1.len
    have sl:sizeLine=16777216:=sizeLine_eq
    exact⟨l,vs,w,rfl,rfl,hl,by lia,q _ _ (eT.mpr rfl) (d1.append (aC.one hw))⟩
def D6:List PyData→List PyData→Option (PyData × List PyData):=fun xs ds=>match ds with
  | []=>(xs[xs.length - 1]?).map fun d=>(d,xs.dropLast)
  | _=>none
def j':List PyData→List PyData→Option (PyData × List PyData):=fun xs ds=>match ds with
  | [.int i]=>if 0≤i∧i < 1000000000 then(xs[i.toNat]?).map fun d=>(d,xs.eraseIdx i.toNat) else none
  | _=>none
theorem zF:sW K xS j':=by
  intro F H l xs ys ds z vs us Q hF sm hl d1 d2 hg q
  unfold j' at hg
  match ds,hg,d2 with
  | [.int i],hg,d2=>
    simp only [aC,DA] at d2
    obtain⟨w,r,rfl,rfl,rfl⟩:=d2
    dsimp only at hg
    split at hg
    case isFalse=>cases hg
    case isTrue hlt=>
    obtain⟨d,h1,h2⟩:=Option.map_eq_some_iff.mp hg
    cases h2
    obtain⟨v,g1,g2⟩:=d1.get h1
    have hlt2:i.toNat < vs.length:=(List.getElem?_eq_some_iff.mp g1).1
    exact⟨l,vs,i,i.toNat,v,rfl,rfl,hl,by lia,by lia,seqIndex_of hlt.1 (by lia),g1,q _ _ g2 (d1.erase _)⟩
end
end L2
namespace L2
open PySem PySem.Spec PyProof.Rows
inductive Fl where
  | nx (e:En)
  | bk (e:En)
  | ct (e:En)
  | rt (r:Rv) (e:En)
abbrev FS:=En→Option Fl
structure df (W:List Nat) (σ:L2.St) (F H:Hp) (e:En) (σ':L2.St) (F' H':Hp) (e':En):Prop where
  sf:av F F'
  dom:∀a,H' a=none→H a=none
  fr:∀a vs,F a=none→H a=some (.lst vs)→¬cv σ e H a→F' a=none
  lst:∀a vs,H a=some (.lst vs)→∃vs',H' a=some (.lst vs')
  tmp:∀a o,H a=some o→¬cv σ e H a→H' a=some o
  own:∀a,cv σ' e' H' a→cv σ e H a∨H a=none
  wr:∀j,j∉W→σ'[j]?=σ[j]?
section
variable{K:PySem.W.Frag}{W W1 W2:List Nat}{σ σ1 σ2 σ':L2.St}{H0 F H F1 H1 F2 H2 F' H':Hp}{e e1 e2 e':En}
theorem df.refl:df W σ F H e σ F H e:=⟨av.refl _,fun _ h=>h,fun _ _ h _ _=>h,fun _ vs h=>⟨vs,h⟩,fun _ _ h _=>h,fun _ h=>.inl h,fun _ _=>rfl⟩
theorem dw.s(x:dw σ F H e F' H' e'):df W σ F H e σ F' H' e':=⟨x.sf,x.dom,x.fr,x.lst,x.tmp,x.ow,fun _ _=>rfl⟩
theorem df.trans(x:df W σ F H e σ1 F1 H1 e1)(y:df W σ1 F1 H1 e1 σ2 F2 H2 e2):df W σ F H e σ2 F2 H2 e2:=
  ⟨x.sf.trans y.sf,fun a h=>x.dom a (y.dom a h),fun a vs h n no=>let ⟨vs',q⟩:=x.lst a vs n;y.fr a vs' (x.fr a vs h n no) q (fun z=>(x.own a z).elim no fun z=>by rw [n] at z;cases z),fun a vs h=>let ⟨vs',q⟩:=x.lst a vs h;y.lst a vs' q,
    fun a o h n=>y.tmp a o (x.tmp a o h n) (fun z=>(x.own a z).elim n fun z=>by rw [h] at z;cases z),
    fun a h=>(y.own a h).elim (x.own a) (fun z=>.inr (x.dom a z)),
    fun j h=>(y.wr j h).trans (x.wr j h)⟩
theorem df.mono(x:df W1 σ F H e σ' F' H' e')(h:∀j,j∈W1→j∈W):df W σ F H e σ' F' H' e':=⟨x.sf,x.dom,x.fr,x.lst,x.tmp,x.own,fun j n=>x.wr j fun z=>n (h j z)⟩
end
def lL(K:PySem.W.Frag)(W:List Nat)(σ:L2.St)(F H:Hp)(e:En)(D:rC):Fl→Prop
  | .nx e'=>∀F' H' σ',df W σ F H e σ' F' H' e'→aX K F' H' σ' e'→D.nx σ' H'
  | .bk e'=>∀F' H' σ',df W σ F H e σ' F' H' e'→aX K F' H' σ' e'→D.bk σ' H'
  | .ct e'=>∀F' H' σ',df W σ F H e σ' F' H' e'→aX K F' H' σ' e'→D.ct σ' H'
  | .rt r e'=>∀F' H' σ' v,df W σ F H e σ' F' H' e'→aX K F' H' σ' e'→b7 K σ' H F' H' e' r v→D.rt v H'
def fS(K:PySem.W.Frag)(f:FS)(W:List Nat):TS:=fun D σ H=>∃F e fl,aX K F H σ e∧f e=some fl∧lL K W σ F H e D fl
theorem PS.mono{X:Cx}{st:Stmt}{t t':TS}(h:PS X st t)(m:∀D σ H,t' D σ H→t D σ H):PS X st t':=fun pins s σ H D I q=>h pins s σ H D I (m D σ H q)
theorem k_.mono{X:Cx}{st:List Stmt}{t t':TS}(h:k_ X st t)(m:∀D σ H,t' D σ H→t D σ H):k_ X st t':=fun pins s σ H D I q=>h pins s σ H D I (m D σ H q)
theorem lL.later{K:PySem.W.Frag}{W W1 W2:List Nat}{σ σ1:L2.St}{F H F1 H1:Hp}{e e1:En}{D:rC}{fl:Fl}(h:lL K W σ F H e D fl)(x:df W1 σ F H e σ1 F1 H1 e1)(h1:∀j,j∈W1→j∈W)(h2:∀j,j∈W2→j∈W):lL K W2 σ1 F1 H1 e1 D fl:=by
  cases fl with
  | nx e'=>exact fun F' H' σ' y R=>h F' H' σ' ((x.mono h1).trans (y.mono h2)) R
  | bk e'=>exact fun F' H' σ' y R=>h F' H' σ' ((x.mono h1).trans (y.mono h2)) R
  | ct e'=>exact fun F' H' σ' y R=>h F' H' σ' ((x.mono h1).trans (y.mono h2)) R
  | rt r e'=>exact fun F' H' σ' v y R A=>h F' H' σ' v ((x.mono h1).trans (y.mono h2)) R (A.weak x.dom)
section
variable{X:Cx}{K:PySem.W.Frag}{W W1 W2:List Nat}{st:Stmt}{fP:List Stmt}{f g:FS}{a b:Expr}{fa:FE}{ft:FT}{pos:Pos}
def d_:FS:=fun e=>some (.nx e)
def aA(f g:FS):FS:=fun e=>(f e).bind fun fl=>match fl with
  | .nx e1=>g e1
  | fl=>some fl
theorem bc:k_ X [] (fS K d_ []):=zI.mono fun D σ H h=>by
  obtain⟨F,e,fl,R,hf,q⟩:=h
  cases hf
  exact q F H σ df.refl R
theorem af(h1:PS X st (fS K f W1))(h2:k_ X fP (fS K g W2)):k_ X (st::fP) (fS K (aA f g) (W1++W2)):=(xE h1 h2).mono fun D σ H h=>by
  obtain⟨F,e,fl,R,hf,q⟩:=h
  unfold aA at hf
  obtain⟨fl1,h1,hf⟩:=Option.bind_eq_some_iff.mp hf
  have s1:∀j,j∈W1→j∈W1++W2:=fun j h=>List.mem_append.mpr (.inl h)
  have s2:∀j,j∈W2→j∈W1++W2:=fun j h=>List.mem_append.mpr (.inr h)
  refine⟨F,e,fl1,R,h1,?_⟩
  cases fl1 with
  | nx e1=>exact fun F' H' σ' x R'=>⟨F',e1,fl,R',hf,q.later x s1 s2⟩
  | bk e1=>cases hf;exact fun F' H' σ' x R'=>q F' H' σ' (x.mono s1) R'
  | ct e1=>cases hf;exact fun F' H' σ' x R'=>q F' H' σ' (x.mono s1) R'
  | rt r e1=>cases hf;exact fun F' H' σ' v x R' A=>q F' H' σ' v (x.mono s1) R' A
theorem ao(h1:PS X st (fS K f W)):k_ X [st] (fS K f W):=zJ h1
def gF(fa:FE):FS:=fun e=>(fa e).map fun p=>.nx p.2
theorem eW(he:PE X a (fE K fa))(hs:swapsWith a none pos.line X.env=pure false):PS X (.Expr a pos) (fS K (gF fa) []):=(zH he hs).mono fun D σ H h=>by
  obtain⟨F,e,fl,R,hf,q⟩:=h
  obtain⟨⟨x,e1⟩,h1,hf⟩:=Option.map_eq_some_iff.mp hf
  cases hf
  exact⟨F,e,x,e1,R,h1,fun F1 H1 v X1 R1 A1=>q F1 H1 σ X1.s R1⟩
def bI(fa:FE):FS:=fun e=>(fa e).map fun p=>.rt p.1 p.2
theorem aE(he:PE X a (fE K fa)):PS X (.Return (some a) pos) (fS K (bI fa) []):=(Cj he).mono fun D σ H h=>by
  obtain⟨F,e,fl,R,hf,q⟩:=h
  obtain⟨⟨x,e1⟩,h1,hf⟩:=Option.map_eq_some_iff.mp hf
  cases hf
  exact⟨F,e,x,e1,R,h1,fun F1 H1 v X1 R1 A1=>q F1 H1 σ v X1.s R1 A1⟩
def iY(ft:FT)(f g:FS):FS:=fun e=>(ft e).bind fun p=>if p.1=true then f p.2 else g p.2
theorem cy{c:Expr}{bs cs:List Stmt}(hc:PT X c (fT K ft))(ha:k_ X bs (fS K f W1))(hb:k_ X cs (fS K g W2)):PS X (.If c bs cs pos) (fS K (iY ft f g) (W1++W2)):=(Ep hc ha hb).mono fun D σ H h=>by
  obtain⟨F,e,fl,R,hf,q⟩:=h
  unfold iY at hf
  obtain⟨⟨x,e1⟩,h1,hf⟩:=Option.bind_eq_some_iff.mp hf
  refine⟨F,e,x,e1,R,h1,fun F1 H1 X1 R1=>?_⟩
  cases x with
  | true=>exact⟨F1,e1,fl,R1,hf,q.later (W1:=[]) X1.s (fun j h=>by cases h) fun j h=>List.mem_append.mpr (.inl h)⟩
  | false=>exact⟨F1,e1,fl,R1,hf,q.later (W1:=[]) X1.s (fun j h=>by cases h) fun j h=>List.mem_append.mpr (.inr h)⟩
def xG(i:Nat)(r:Rv)(e:En):Option En:=match r with
  | .d x=>some (e.set i (some (.d x)))
  | .l xs=>some (e.set i (some (.l xs)))
  | .s _=>none
theorem sv{σ:L2.St}{H F H1 F1:Hp}{e e1 e2:En}{i:Nat}{r:Rv}{v:V}(R:aX K F H σ e)(X1:dw σ F H e F1 H1 e1)(R1:aX K F1 H1 σ e1)(A1:b7 K σ H F1 H1 e1 r v)(h:xG i r e1=some e2):
    df [i] σ F H e (σ.set i (some v)) F1 H1 e2∧aX K F1 H1 (σ.set i (some v)) e2:=by
  have wr:∀j,j∉[i]→(σ.set i (some v))[j]?=σ[j]?:=fun j n=>List.getElem?_set_ne (fun z=>n (by simp [z]))
  cases r with
  | d x=>
    cases h
    obtain⟨R2,o2⟩:=R1.setD i A1
    exact⟨⟨X1.sf,X1.dom,X1.fr,X1.lst,X1.tmp,fun a h=>X1.ow a (o2 a h),wr⟩,R2⟩
  | l xs=>
    cases h
    obtain⟨l,vs,rfl,h1,h2,h3,h4,h5⟩:=A1
    obtain⟨R2,o2⟩:=R1.setL i h2 h3 h4 h5
    refine⟨⟨X1.sf,X1.dom,X1.fr,X1.lst,X1.tmp,fun a h=>?_,wr⟩,R2⟩
    rcases o2 a h with z | z
    · exact X1.ow a z
    · exact .inr (by rw [z];exact h1)
  | s j=>cases h
def aO(i:Nat)(fa:FE):FS:=fun e=>(fa e).bind fun p=>(xG i p.1 p.2).map .nx
theorem ay{i:Nat}{x:Str}{pos':Pos}(hN:X.N.Nodup)(hi:X.N[i]?=some x)(hx:Bh X.env.scope x)(he:PE X a (fE K fa))(hs:swapsWith a (some (.Name x pos')) pos.line X.env=pure false)(hf:X.fn x=true∨X.env.scope.names.lookup x=some .local):
    PS X (.Assign [.Name x pos'] a pos) (fS K (aO i fa) [i]):=(xC hN hi hx he hs hf).mono fun D σ H h=>by
  obtain⟨F,e,fl,R,hf,q⟩:=h
  unfold aO at hf
  obtain⟨⟨r,e1⟩,h1,hf⟩:=Option.bind_eq_some_iff.mp hf
  obtain⟨e2,h2,hf⟩:=Option.map_eq_some_iff.mp hf
  cases hf
  refine⟨F,e,r,e1,R,h1,fun F1 H1 v X1 R1 A1=>?_⟩
  obtain⟨x,R2⟩:=sv R X1 R1 A1 h2
  exact q F1 H1 _ x R2
abbrev FG:=PyData→En→Option En
def fG(K:PySem.W.Frag)(g:FG)(W:List Nat):TG:=fun v σ H Q=>∃F e x e',aX K F H σ e∧DA K F x v∧g x e=some e'∧∀σ',df W σ F H e σ' F H e'→aX K F H σ' e'→Q σ' H
abbrev Ap:=List PyData→En→Option En
def Fh(K:PySem.W.Frag)(g:Ap)(W:List Nat):yu:=fun vs σ H Q=>∃F e xs e',aX K F H σ e∧aC K F xs vs∧g xs e=some e'∧∀σ',df W σ F H e σ' F H e'→aX K F H σ' e'→Q σ' H
theorem PG.mono{tg:Expr}{t t':TG}(h:PG X tg t)(m:∀v σ H Q,t' v σ H Q→t v σ H Q):PG X tg t':=fun pins s σ H v u Q I r q=>h pins s σ H v u Q I r (m v σ H Q q)
theorem vt.mono{tg:List Expr}{t t':yu}(h:vt X tg t)(m:∀v σ H Q,t' v σ H Q→t v σ H Q):vt X tg t':=fun pins s σ H v u Q I r q=>h pins s σ H v u Q I r (m v σ H Q q)
def ah(i:Nat):FG:=fun x e=>some (e.set i (some (.d x)))
def cG:Ap:=fun xs e=>match xs with
  | []=>some e
  | _=>none
def aH(g:FG)(gs:Ap):Ap:=fun xs e=>match xs with
  | x::r=>(g x e).bind fun e1=>gs r e1
  | _=>none
def cW(gs:Ap):FG:=fun x e=>match x with
  | .tuple xs=>gs xs e
  | _=>none
theorem aS{i:Nat}{x:Str}(hN:X.N.Nodup)(hi:X.N[i]?=some x)(hx:Bh X.env.scope x)(hf:X.fn x=true∨X.env.scope.names.lookup x=some .local):PG X (.Name x pos) (fG K (ah i) [i]):=(zy hN hi hx hf).mono fun v σ H Q h=>by
  obtain⟨F,e,x,e',R,hx,hg,q⟩:=h
  cases hg
  obtain⟨R2,o2⟩:=R.setD i hx
  exact q _ ⟨av.refl _,fun _ h=>h,fun _ _ h _ _=>h,fun _ vs h=>⟨vs,h⟩,fun _ _ h _=>h,fun a h=>.inl (o2 a h),fun j n=>List.getElem?_set_ne (fun z=>n (by simp [z]))⟩ R2
theorem jJ:vt X [] (Fh K cG []):=zA.mono fun v σ H Q h=>by
  obtain⟨F,e,x,e',R,hx,hg,q⟩:=h
  unfold cG at hg
  split at hg
  · cases hg
    simp only [aC] at hx
    exact⟨hx,q σ df.refl R⟩
  · cases hg
theorem cY{es:List Expr}{g1:FG}{gs:Ap}(h1:PG X a (fG K g1 W1))(h2:vt X es (Fh K gs W2))
    (hs:(assignEach (a::es) X.env).map (·.2)=assign a X.env::(assignEach es X.env).map (·.2)):vt X (a::es) (Fh K (aH g1 gs) (W1++W2)):=(xr h1 h2 hs).mono fun v σ H Q h=>by
  obtain⟨F,e,xs,e',R,hx,hg,q⟩:=h
  unfold aH at hg
  match xs,hg,hx with
  | x::r,hg,hx=>
    simp only [aC] at hx
    obtain⟨w,ws,e1,hw,hr⟩:=hx
    dsimp only at hg
    obtain⟨e1',h3,h4⟩:=Option.bind_eq_some_iff.mp hg
    refine⟨w,ws,e1,F,e,x,e1',R,hw,h3,fun σ1 x1 R1=>⟨F,e1',r,e',R1,hr,h4,fun σ2 x2 R2=>?_⟩⟩
    exact q σ2 ((x1.mono fun j h=>List.mem_append.mpr (.inl h)).trans (x2.mono fun j h=>List.mem_append.mpr (.inr h))) R2
theorem mq{es:List Expr}{k n:Nat}{gs:Ap}(hK:X.K=K)(hc:X.calm=true)(h:vt X es (Fh K gs W))(hl:∀xs e e',gs xs e=some e'→xs.length=n)(hn:(assignEach es X.env).length=n)(hst:(assignEach es X.env).findIdx? (·.1)=none):PG X (.Tuple es k pos) (fG K (cW gs) W):=(zz hK hc h hn hst).mono fun v σ H Q h=>by
  obtain⟨F,e,x,e',R,hx,hg,q⟩:=h
  unfold cW at hg
  match x,hg,hx with
  | .tuple xs,hg,hx=>
    obtain⟨p,vs,e1,e2,e3⟩:=bN.mp hx
    exact⟨p,vs,e1,R.sm.tup e2,by rw [←e3.len];exact hl xs e e' hg,F,e,xs,e',R,e3,hg,q⟩
theorem lV(xs:List PyData)(e e':En)(h:cG xs e=some e'):xs.length=0:=by
  unfold cG at h
  split at h
  · rfl
  · cases h
theorem ek{g:FG}{gs:Ap}{n:Nat}(hl:∀xs e e',gs xs e=some e'→xs.length=n)(xs:List PyData)(e e':En)(h:aH g gs xs e=some e'):xs.length=n+1:=by
  unfold aH at h
  match xs,h with
  | x::r,h=>
    obtain⟨e1,h3,h4⟩:=Option.bind_eq_some_iff.mp h
    simp [hl r e1 e' h4]
def vc(fa:FE)(g:FG):FS:=fun e=>(fa e).bind fun p=>match p.1 with
  | .d x=>(g x p.2).map .nx
  | _=>none
theorem xO{tg:Expr}{g:FG}(he:PE X a (fE K fa))(hg:PG X tg (fG K g W))(hs:swapsWithSole [tg] a pos.line X.env=pure false)(hw:swappedStores [tg] a X.env=pure none)
    (h1:(assignEach [tg] X.env).map (·.2)=[assign tg X.env]):PS X (.Assign [tg] a pos) (fS K (vc fa g) W):=(Cf he hg hs hw h1).mono fun D σ H h=>by
  obtain⟨F,e,fl,R,hf,q⟩:=h
  unfold vc at hf
  obtain⟨⟨r,e1⟩,h1,hf⟩:=Option.bind_eq_some_iff.mp hf
  match r,h1,hf with
  | .d x,h1,hf=>
    obtain⟨e2,h2,hf⟩:=Option.map_eq_some_iff.mp hf
    cases hf
    exact⟨F,e,_,e1,R,h1,fun F1 H1 v X1 R1 A1=>⟨F1,e1,x,e2,R1,A1,h2,fun σ' x2 R2=>q F1 H1 σ' (X1.s.trans x2) R2⟩⟩
def x6(i j:Nat)(fs:FA):FS:=fun e=>(fs e).bind fun p=>match p.1 with
  | [.d x,.d y]=>some (.nx ((p.2.set i (some (.d x))).set j (some (.d y))))
  | _=>none
theorem Ct{i j:Nat}{x y:Str}{fs:FA}{px py pt:Pos}{kt k2 pt2}(hc:X.calm=true)(hN:X.N.Nodup)(hi:X.N[i]?=some x)(hj:X.N[j]?=some y)(hij:i≠j)
    (hx:X.env.scope.names.lookup x=some .local)(hy:X.env.scope.names.lookup y=some .local)(ha:PA X [a,b] (fA K fs))
    (hw:swappedStores [.Tuple [.Name x px,.Name y py] kt pt] (.Tuple [a,b] k2 pt2) X.env=pure (some [x,y]))
    (hs:swapsWithSole [.Tuple [.Name x px,.Name y py] kt pt] (.Tuple [a,b] k2 pt2) pos.line X.env=pure false):
    PS X (.Assign [.Tuple [.Name x px,.Name y py] kt pt] (.Tuple [a,b] k2 pt2) pos) (fS K (x6 i j fs) [i,j]):=(Ci hc hN hi hj hij hx hy ha hw hs).mono fun D σ H h=>by
  obtain⟨F,e,fl,R,hf,q⟩:=h
  unfold x6 at hf
  obtain⟨⟨rs,e1⟩,h1,hf⟩:=Option.bind_eq_some_iff.mp hf
  refine⟨F,e,rs,e1,R,h1,fun F1 H1 vs X1 R1 A1=>?_⟩
  match rs,hf,A1 with
  | [.d x,.d y],hf,A1=>
    cases hf
    obtain⟨v,u,rfl,a1,a2⟩:=ue A1
    obtain⟨R2,o2⟩:=R1.setD i a1
    obtain⟨R3,o3⟩:=R2.setD j a2
    refine⟨v,u,rfl,q F1 H1 _ ⟨X1.sf,X1.dom,X1.fr,X1.lst,X1.tmp,fun a h=>X1.ow a (o2 a (o3 a h)),fun m n=>?_⟩ R3⟩
    rw [List.getElem?_set_ne (fun z=>n (by simp [z])),List.getElem?_set_ne (fun z=>n (by simp [z]))]
def rR:Rv→Option PyData
  | .d x=>some x
  | .l xs=>some (.list xs)
  | .s _=>none
theorem nh{r:Rv}{d:PyData}(h:rR r=some d):jr [r]=some [d]:=by
  cases r with
  | d x=>cases h;rfl
  | l xs=>cases h;rfl
  | s i=>cases h
def hZ(ft:FT)(f:FS):Nat→FS
  | 0,_=>none
  | n+1,e=>(ft e).bind fun p=>if p.1=true then(f p.2).bind fun fl=>match fl with
      | .nx e1=>hZ ft f n e1
      | .ct e1=>hZ ft f n e1
      | .bk e1=>some (.nx e1)
      | .rt r e1=>some (.rt r e1)
    else some (.nx p.2)
def mC(n:Nat)(ft:FT)(f:FS):FS:=hZ ft f n
theorem qL{n:Nat}{c:Expr}{body:List Stmt}(hp:PassesOwn (model X.prog X.w) X.A X.env X.xe)(hc:PT X c (fT K ft))(hb:k_ X body (fS K f W)):PS X (.While c body [] pos) (fS K (mC n ft f) W):=(xD hp hc hb).mono fun D σ H h=>by
  refine⟨fun m σ H=>∃F e fl,aX K F H σ e∧hZ ft f m e=some fl∧lL K W σ F H e D fl,⟨n,h⟩,?_⟩
  rintro m σ H ⟨F,e,fl,R,hf,q⟩
  cases m with
  | zero=>cases hf
  | succ m=>
    unfold hZ at hf
    obtain⟨⟨x,e1⟩,h1,hf⟩:=Option.bind_eq_some_iff.mp hf
    refine⟨F,e,x,e1,R,h1,fun F1 H1 X1 R1=>?_⟩
    have sub:∀j,j∈([]:List Nat)→j∈W:=fun j h=>by cases h
    cases x with
    | false=>
      rw [if_neg (by simp)] at hf
      cases hf
      exact yY (q F1 H1 σ X1.s R1)
    | true=>
      rw [if_pos rfl] at hf
      refine yZ ?_
      obtain⟨fl1,h2,hf⟩:=Option.bind_eq_some_iff.mp hf
      have q1:lL K W σ F1 H1 e1 D fl:=q.later (W1:=[]) X1.s sub fun j h=>h
      refine⟨fun σ' H'=>∃F' e',aX K F' H' σ' e'∧hZ ft f m e'=some fl∧lL K W σ' F' H' e' D fl,fun σ' H' ⟨F',e',r1,r2,r3⟩=>⟨m,Nat.lt_succ_self m,F',e',fl,r1,r2,r3⟩,F1,e1,fl1,R1,h2,?_⟩
      cases fl1 with
      | nx e2=>exact fun F2 H2 σ2 x R2=>⟨F2,e2,R2,hf,q1.later x (fun j h=>h) fun j h=>h⟩
      | ct e2=>exact fun F2 H2 σ2 x R2=>⟨F2,e2,R2,hf,q1.later x (fun j h=>h) fun j h=>h⟩
      | bk e2=>cases hf;exact fun F2 H2 σ2 x R2=>q1 F2 H2 σ2 x R2
      | rt r e2=>cases hf;exact fun F2 H2 σ2 v x R2 A=>q1 F2 H2 σ2 v x R2 A
end
end L2
namespace L2
open PySem PySem.Spec PyProof.Rows
theorem PI.mono{X:Cx}{tg iter:Expr}{t t':TI}(h:PI X tg iter t)(m:∀σ H R,t' σ H R→t σ H R):PI X tg iter t':=fun pins s σ H R I q=>h pins s σ H R I (m σ H R q)
theorem PI.or{X:Cx}{tg iter:Expr}{t t':TI}(h:PI X tg iter t)(h':PI X tg iter t'):PI X tg iter (fun σ H R=>t σ H R∨t' σ H R):=fun pins s σ H R I q=>by
  rcases q with q | q
  · exact h pins s σ H R I q
  · exact h' pins s σ H R I q
abbrev h_:=List (Nat × List PyData)
def uB(K:PySem.W.Frag)(σ:L2.St)(F H:Hp)(own:h_):Prop:=∀p∈own,∃l vs,σ[p.1]?=some (some (.ref l))∧H l=some (.lst vs)∧aC K F p.2 vs
def uC(K:PySem.W.Frag)(σ:L2.St)(J:It)(items:List PyData)(own:h_)(F0:Hp):Prop:=∀F H,av F0 F→av F H→uB K σ F H own→
  (∀i,i < items.length→J.go i H)∧(∀i,items.length≤i→J.stop i H)∧∀i d x H',items[i]?=some d→J.yld i H x H'→∃F',av H H'∧av F F'∧av F' H'∧(∀a,F a=none→H a≠none→F' a=none)∧DA K F' d x
abbrev FI:=En→Option (List PyData × h_ × En)
def keeps(own:h_)(e:En):Prop:=∀p∈own,e[p.1]?=some (some (.l p.2))
def fI(K:PySem.W.Frag)(f:FI):TI:=fun σ H R=>∃F e items own e',aX K F H σ e∧f e=some (items,own,e')∧∀J F' H',dw σ F H e F' H' e'→aX K F' H' σ e'→keeps own e'→uC K σ J items own F'→R J H'
section
variable{K:PySem.W.Frag}{σ:L2.St}{H0 F H F' H':Hp}{e e':En}
theorem aX.held(R:aX K F H σ e){own:h_}(h:keeps own e):uB K σ F H own:=fun p hp=>by
  obtain⟨l,vs,h1,h2,h3,h4⟩:=R.own p.1 p.2 (h p hp)
  exact⟨l,vs,h1,h3,h4⟩
theorem aX.step(R:aX K F H σ e)(s:av H H')(sF:av F F')(sm:av F' H')(fz:∀a,F a=none→H a≠none→F' a=none):aX K F' H' σ e∧dw σ F H e F' H' e:=by
  obtain⟨R',o'⟩:=R.keep sF sm (fun a ⟨i,h⟩=>by
    obtain⟨h1,vs,h2⟩:=R.fpAt h
    exact fz a h1 (by rw [h2];simp)) fun a o _ h=>s a o h
  exact⟨R',⟨sF,fun a h=>s.free h,fun a vs h1 h2 _=>fz a h1 (by rw [h2];simp),fun a vs h=>⟨vs,s _ _ h⟩,fun a o h _=>s a o h,fun _=>Iff.rfl,fun a h=>.inl ((o' a).mp h)⟩⟩
inductive yt (K:PySem.W.Frag) (σ:L2.St) (F:Hp) (p:Addr):Bool→List PyData→h_→Prop
  | tup {xs vs}:cZ K F p vs→aC K F xs vs→yt K σ F p false xs []
  | lst {xs vs}:fm K F p vs→aC K F xs vs→yt K σ F p true xs []
  | own {i xs}:σ[i]?=some (some (.ref p))→yt K σ F p true xs [(i,xs)]
theorem yt.at{p:Addr}{b:Bool}{xs:List PyData}{own:h_}{F0:Hp}(h:yt K σ F0 p b xs own)(s0:av F0 F)(s1:av F H){own':h_}(hh:uB K σ F H own')(hs:∀q∈own,q∈own'):∃vs,aC K F xs vs∧(if b=true then fm K H p vs else cZ K H p vs):=by
  cases h with
  | tup h1 h2=>exact⟨_,h2.mono s0,(s0.trans s1).tup h1⟩
  | lst h1 h2=>exact⟨_,h2.mono s0,(s0.trans s1).seq h1⟩
  | @own i xs h1=>
    obtain⟨l,vs,g1,g2,g3⟩:=hh (i,xs) (hs (i,xs) (by simp))
    dsimp only at g1 g3
    rw [h1] at g1;cases g1
    exact⟨vs,g3,.inl (.inl g2)⟩
def sJ(e:En):Rv→Option (Bool × List PyData × h_)
  | .d (.tuple xs)=>some (false,xs,[])
  | .d (.list xs)=>some (true,xs,[])
  | .l xs=>some (true,xs,[])
  | .s i=>match e[i]? with
    | some (some (.l xs))=>some (true,xs,[(i,xs)])
    | _=>none
  | _=>none
theorem lx{r:Rv}{v:V}{b:Bool}{xs:List PyData}{own:h_}(R:aX K F H σ e)(A:b7 K σ H0 F H e r v)(h:sJ e r=some (b,xs,own)):
    ∃F' p,aX K F' H σ e∧av F F'∧(∀a,F a=none→H0 a≠none→F' a=none)∧v=.ref p∧yt K σ F' p b xs own∧keeps own e:=by
  cases r with
  | d x=>
    cases x with
    | tuple ds=>
      cases h
      obtain⟨a,ys,e1,e2,e3⟩:=bN.mp A
      exact⟨F,a,R,av.refl _,fun _ h _=>h,e1,.tup e2 e3,fun p hp=>by cases hp⟩
    | list ds=>
      cases h
      obtain⟨a,ys,e1,e2,e3⟩:=cw.mp A
      exact⟨F,a,R,av.refl _,fun _ h _=>h,e1,.lst e2 e3,fun p hp=>by cases hp⟩
    | _=>cases h
  | l ys=>
    cases h
    obtain⟨F',R',s',d',f'⟩:=A.frozen R
    obtain⟨a,ys,e1,e2,e3⟩:=cw.mp d'
    exact⟨F',a,R',s',f',e1,.lst e2 e3,fun p hp=>by cases hp⟩
  | s i=>
    obtain⟨h1,ys,h2⟩:=A
    simp only [sJ,h2] at h
    cases h
    obtain⟨l,vs,e1,e2,e3,e4⟩:=R.own i _ h2
    rw [h1] at e1;cases e1
    exact⟨F,l,R,av.refl _,fun _ h _=>h,rfl,.own h1,fun p hp=>by simp only [List.mem_singleton] at hp;subst hp;exact h2⟩
theorem nD{p:Addr}{xs:List PyData}{own:h_}{F0:Hp}(h:yt K σ F0 p true xs own):uC K σ (Fq K p) xs own F0:=by
  intro F H s0 s1 hh
  obtain⟨vs,d,q⟩:=h.at s0 s1 hh fun _ h=>h
  have q:fm K H p vs:=q
  refine⟨fun i hi=>⟨vs,vs[i]'(by rw [←d.len];exact hi),q,List.getElem?_eq_getElem _⟩,fun i hi=>⟨vs,q,by rw [←d.len];exact hi⟩,fun i x v H' hx hy=>?_⟩
  obtain⟨rfl,hy⟩:=hy
  obtain⟨w,g1,g2⟩:=d.get hx
  have e:=hy vs q
  rw [g1] at e;cases e
  exact⟨F,av.refl _,av.refl _,s1,fun _ h _=>h,g2⟩
theorem wH{p:Addr}{xs:List PyData}{own:h_}{F0:Hp}(h:yt K σ F0 p false xs own):uC K σ (Fs K p) xs own F0:=by
  intro F H s0 s1 hh
  obtain⟨vs,d,q⟩:=h.at s0 s1 hh fun _ h=>h
  have q:cZ K H p vs:=q
  refine⟨fun i hi=>⟨vs,vs[i]'(by rw [←d.len];exact hi),q,List.getElem?_eq_getElem _⟩,fun i hi=>⟨vs,q,by rw [←d.len];exact hi⟩,fun i x v H' hx hy=>?_⟩
  obtain⟨rfl,hy⟩:=hy
  obtain⟨w,g1,g2⟩:=d.get hx
  have e:=hy vs q
  rw [g1] at e;cases e
  exact⟨F,av.refl _,av.refl _,s1,fun _ h _=>h,g2⟩
theorem qt{p:Addr}{x y:V}{a b:PyData}(s1:av F H)(hp:H p=none)(hx:DA K F a x)(hy:DA K F b y):∃F',av H (aV H p (.tup [x,y]))∧av F F'∧av F' (aV H p (.tup [x,y]))∧(∀c,F c=none→H c≠none→F' c=none)∧DA K F' (.tuple [a,b]) (.ref p):=by
  have hF:F p=none:=s1.free hp
  have sF:av F (aV F p (.tup [x,y])):=av.new hF
  refine⟨aV F p (.tup [x,y]),av.new hp,sF,fun b o q=>?_,fun c h n=>?_,bN.mpr ⟨p,_,rfl,.inl (.inl am),.cons (DA.mono sF hx) (.one (DA.mono sF hy))⟩⟩
  · by_cases z:b=p
    · subst z;rw [am] at q ⊢;exact q
    · rw [ax z] at q ⊢;exact s1 _ _ q
  · have z:c≠p:=fun z=>n (by rw [z];exact hp)
    rw [ax z];exact h
def ce:Nat→List PyData→List PyData
  | _,[]=>[]
  | n,x::r=>.tuple [.int n,x]::ce (n+1) r
theorem dU:∀{xs:List PyData} {n i:Nat},(ce n xs)[i]?=(xs[i]?).map fun x=>.tuple [.int ((n+i:Nat):Int),x]
  | [],n,i=>by simp [ce]
  | x::r,n,0=>by simp [ce]
  | x::r,n,i+1=>by
    simp only [ce,List.getElem?_cons_succ]
    rw [dU (xs:=r) (n:=n+1) (i:=i)]
    congr 1
    funext y
    rw [show n+1+i=n+(i+1) by lia]
theorem dW:∀(xs:List PyData) (n:Nat),(ce n xs).length=xs.length
  | [],_=>rfl
  | x::r,n=>by simp [ce,dW r (n+1)]
theorem rZ{p:Addr}{xs:List PyData}{own:h_}{F0:Hp}(h:yt K σ F0 p true xs own):uC K σ (Bf K p) (ce 0 xs) own F0:=by
  intro F H s0 s1 hh
  obtain⟨vs,d,q⟩:=h.at s0 s1 hh fun _ h=>h
  have q:fm K H p vs:=q
  rw [dW]
  refine⟨fun i hi=>⟨vs,vs[i]'(by rw [←d.len];exact hi),q,List.getElem?_eq_getElem _⟩,fun i hi=>⟨vs,q,by rw [←d.len];exact hi⟩,fun i x v H' hx hy=>?_⟩
  obtain⟨t,y,rfl,ht,rfl,hy⟩:=hy
  rw [dU] at hx
  obtain⟨x',hx2,rfl⟩:=Option.map_eq_some_iff.mp hx
  obtain⟨w,g1,g2⟩:=d.get hx2
  have e:=hy vs q
  rw [g1] at e;cases e
  exact qt s1 ht (bM.mpr (by simp)) g2
theorem r6{p:Addr}{xs:List PyData}{own:h_}{F0:Hp}(h:yt K σ F0 p false xs own):uC K σ (Bg K p) (ce 0 xs) own F0:=by
  intro F H s0 s1 hh
  obtain⟨vs,d,q⟩:=h.at s0 s1 hh fun _ h=>h
  have q:cZ K H p vs:=q
  rw [dW]
  refine⟨fun i hi=>⟨vs,vs[i]'(by rw [←d.len];exact hi),q,List.getElem?_eq_getElem _⟩,fun i hi=>⟨vs,q,by rw [←d.len];exact hi⟩,fun i x v H' hx hy=>?_⟩
  obtain⟨t,y,rfl,ht,rfl,hy⟩:=hy
  rw [dU] at hx
  obtain⟨x',hx2,rfl⟩:=Option.map_eq_some_iff.mp hx
  obtain⟨w,g1,g2⟩:=d.get hx2
  have e:=hy vs q
  rw [g1] at e;cases e
  exact qt s1 ht (bM.mpr (by simp)) g2
def be(lo:Int)(n:Nat):List PyData:=(List.range n).map fun(i:Nat)=>.int (lo+(i:Int))
theorem r8{lo:Int}{n:Nat}{F0:Hp}:uC K σ (E8 lo n) (be lo n) [] F0:=by
  intro F H s0 s1 hh
  unfold be
  rw [List.length_map,List.length_range]
  refine⟨fun i hi=>hi,fun i hi=>hi,fun i x v H' hx hy=>?_⟩
  obtain⟨rfl,rfl⟩:=hy
  rw [List.getElem?_map] at hx
  obtain⟨k,h1,rfl⟩:=Option.map_eq_some_iff.mp hx
  have h2:=(List.getElem?_eq_some_iff.mp h1).2
  simp at h2
  subst h2
  exact⟨F,av.refl _,av.refl _,s1,fun _ h _=>h,bM.mpr rfl⟩
end
inductive Fo (K:PySem.W.Frag) (own:h_) (σ0:L2.St) (F1:Hp) (P:En→Prop) (G:L2.St→Hp→Hp→En→Prop) (σ:L2.St) (H:Hp):Prop
  | mk {F:Hp} {e:En} (R:aX K F H σ e) (kp:keeps own e) (hσ:∀p∈own,σ[p.1]?=σ0[p.1]?) (sF:av F1 F) (hf:P e) (q:G σ F H e):Fo K own σ0 F1 P G σ H
section
variable{X:Cx}{K:PySem.W.Frag}{tg a b:Expr}{es:List Expr}{fa:FE}{fs:FA}{pos p tp:Pos}{k0:Nat}
def j8(fa:FE):FI:=fun e=>(fa e).bind fun p=>(sJ p.2 p.1).map fun s=>(s.2.1,s.2.2,p.2)
theorem g_(hK:X.K=K)(h:PE X a (fE K fa)):PI X tg a (fI K (j8 fa)):=((qD (tg:=tg) hK h).or (zC (tg:=tg) hK h)).mono fun σ H R hh=>by
  obtain⟨F,e,items,own,e',R0,hf,q⟩:=hh
  unfold j8 at hf
  obtain⟨⟨r,e1⟩,h1,hf⟩:=Option.bind_eq_some_iff.mp hf
  obtain⟨⟨b,xs,ow⟩,h2,hf⟩:=Option.map_eq_some_iff.mp hf
  cases hf
  cases b with
  | true=>
    refine .inl ⟨F,e,r,e1,R0,h1,fun F1 H1 v X1 R1 A1=>?_⟩
    obtain⟨F2,p,R2,s2,f2,rfl,sc,kp⟩:=lx R1 A1 h2
    obtain⟨vs,_,c⟩:=sc.at (av.refl _) R2.sm (R2.held kp) fun _ h=>h
    exact⟨p,rfl,⟨vs,c⟩,q _ F2 H1 (X1.frz s2 f2) R2 kp (nD sc)⟩
  | false=>
    refine .inr ⟨F,e,r,e1,R0,h1,fun F1 H1 v X1 R1 A1=>?_⟩
    obtain⟨F2,p,R2,s2,f2,rfl,sc,kp⟩:=lx R1 A1 h2
    obtain⟨vs,_,c⟩:=sc.at (av.refl _) R2.sm (R2.held kp) fun _ h=>h
    exact⟨p,rfl,⟨vs,c⟩,q _ F2 H1 (X1.frz s2 f2) R2 kp (wH sc)⟩
def kQ(fs:FA):FI:=fun e=>(fs e).bind fun p=>match p.1 with
  | [r]=>(sJ p.2 r).map fun s=>(ce 0 s.2.1,s.2.2,p.2)
  | _=>none
theorem o6(hK:X.K=K)(hg:Gl X "enumerate")(hm:X.mg "enumerate"=none)(ha:PA X [a] (fA K fs))(hs:starEach [a] X.env=[(false,eval a X.env)]):PI X (.Tuple es k0 tp) (.Call (.Name "enumerate" p) [a] [] pos) (fI K (kQ fs)):=((xt (es:=es) (k0:=k0) (tp:=tp) hK hg hm ha hs).or (xu (es:=es) (k0:=k0) (tp:=tp) hK hg hm ha hs)).mono fun σ H R hh=>by
  obtain⟨F,e,items,own,e',R0,hf,q⟩:=hh
  unfold kQ at hf
  obtain⟨⟨rs,e1⟩,h1,hf⟩:=Option.bind_eq_some_iff.mp hf
  match rs,h1,hf with
  | [r],h1,hf=>
  obtain⟨⟨b,xs,ow⟩,h2,hf⟩:=Option.map_eq_some_iff.mp hf
  cases hf
  cases b with
  | true=>
    refine .inl ⟨F,e,_,e1,R0,h1,fun F1 H1 vs X1 R1 A1=>?_⟩
    obtain⟨v,rfl,A2⟩:=iS A1
    obtain⟨F2,p,R2,s2,f2,rfl,sc,kp⟩:=lx R1 A2 h2
    obtain⟨vs,_,c⟩:=sc.at (av.refl _) R2.sm (R2.held kp) fun _ h=>h
    exact⟨p,rfl,⟨vs,c⟩,q _ F2 H1 (X1.frz s2 f2) R2 kp (rZ sc)⟩
  | false=>
    refine .inr ⟨F,e,_,e1,R0,h1,fun F1 H1 vs X1 R1 A1=>?_⟩
    obtain⟨v,rfl,A2⟩:=iS A1
    obtain⟨F2,p,R2,s2,f2,rfl,sc,kp⟩:=lx R1 A2 h2
    obtain⟨vs,_,c⟩:=sc.at (av.refl _) R2.sm (R2.held kp) fun _ h=>h
    exact⟨p,rfl,⟨vs,c⟩,q _ F2 H1 (X1.frz s2 f2) R2 kp (r6 sc)⟩
def xX(j:Int):Bool:=decide (-1000000≤j)&&decide (j≤1000000)
theorem xY{j:Int}(h:xX j=true): -1000000≤j∧j≤1000000:=by
  unfold xX at h
  rw [Bool.and_eq_true,decide_eq_true_iff,decide_eq_true_iff] at h
  exact h
def dc(fs:FA):FI:=fun e=>(fs e).bind fun p=>match p.1 with
  | [r]=>(bO r).bind fun j=>if xX j=true then some (be 0 j.toNat,[],p.2) else none
  | _=>none
theorem dr(hg:Gl X "range")(hm:X.mg "range"=none)(ha:PA X [a] (fA K fs))(hs:starEach [a] X.env=[(false,eval a X.env)]):PI X tg (.Call (.Name "range" p) [a] [] pos) (fI K (dc fs)):=(u_ hg hm ha hs).mono fun σ H R hh=>by
  obtain⟨F,e,items,own,e',R0,hf,q⟩:=hh
  unfold dc at hf
  obtain⟨⟨rs,e1⟩,h1,hf⟩:=Option.bind_eq_some_iff.mp hf
  match rs,h1,hf with
  | [r],h1,hf=>
  obtain⟨j,h2,hf⟩:=Option.bind_eq_some_iff.mp hf
  split at hf
  case isFalse=>cases hf
  case isTrue hj=>
  cases hf
  refine⟨F,e,_,e1,R0,h1,fun F1 H1 vs X1 R1 A1=>?_⟩
  obtain⟨v,rfl,A2⟩:=iS A1
  have:=xY hj
  exact⟨j,by rw [cg A2 h2],by lia,by lia,q _ F1 H1 X1 R1 (fun _ h=>by cases h) r8⟩
open Classical in
noncomputable def fx(own:h_)(g:FG)(f:FS):List PyData→FS
  | [],e=>some (.nx e)
  | x::r,e=>(g x e).bind fun e1=>(f e1).bind fun fl=>match fl with
    | .nx e2=>if keeps own e2 then fx own g f r e2 else none
    | .ct e2=>if keeps own e2 then fx own g f r e2 else none
    | .bk e2=>some (.nx e2)
    | .rt v e2=>some (.rt v e2)
noncomputable def eC(W:List Nat)(fi:FI)(g:FG)(f:FS):FS:=fun e=>(fi e).bind fun p=>if (p.2.1.all fun q=> !W.contains q.1)=true then fx p.2.1 g f p.1 p.2.2 else none
theorem fL{W1 W2:List Nat}{iter:Expr}{body:List Stmt}{fi:FI}{g:FG}{f:FS}(hp:PassesOwn (model X.prog X.w) X.A X.env X.xe)(hc:X.calm=true)(hi:PI X tg iter (fI K fi))(hg:PG X tg (fG K g W1))(hb:k_ X body (fS K f W2))(hs:∀x,foldedSetIterable iter X.env x=pure x):
    PS X (.For tg iter body [] pos) (fS K (eC (W1++W2) fi g f) (W1++W2)):=(Cg hp hc hi hg hb hs).mono fun D σ0 H0 hh=>by
  obtain⟨F0,e0,fl,R0,hf,q0⟩:=hh
  unfold eC at hf
  obtain⟨⟨items,own,e1⟩,h1,hf⟩:=Option.bind_eq_some_iff.mp hf
  dsimp only at hf
  split at hf
  case isFalse=>cases hf
  case isTrue hW=>
  have hW':∀p∈own,p.1∉W1++W2:=fun p hp=>by
    have:=List.all_eq_true.mp hW p hp
    simpa using this
  refine⟨F0,e0,items,own,e1,R0,h1,fun J F1 H1 X1 R1 kp ok=>?_⟩
  have s1:∀j,j∈W1→j∈W1++W2:=fun j h=>List.mem_append.mpr (.inl h)
  have s2:∀j,j∈W2→j∈W1++W2:=fun j h=>List.mem_append.mpr (.inr h)
  have q1:lL K (W1++W2) σ0 F1 H1 e1 D fl:=q0.later (W1:=[]) X1.s (fun j h=>by cases h) fun j h=>h
  refine⟨fun i m σ H=>m=items.length - i∧i≤items.length∧Fo K own σ0 F1 (fun e=>fx own g f (items.drop i) e=some fl) (fun σ F H e=>lL K (W1++W2) σ F H e D fl) σ H,
    ⟨items.length,by simp,Nat.zero_le _,.mk R1 kp (fun _ _=>rfl) (av.refl _) hf q1⟩,?_⟩
  rintro i m σ H ⟨rfl,hi,⟨R,kp,hσ,sF,hf,q⟩⟩
  rename_i F e
  have held:uB K σ0 F H own:=fun p hp=>by
    obtain⟨l,vs,g1,g2⟩:=R.held kp p hp
    exact⟨l,vs,by rw [←hσ p hp];exact g1,g2⟩
  obtain⟨go,stop,yld⟩:=ok F H sF R.sm held
  by_cases hlt:i < items.length
  · have hd:items.drop i=items[i]::items.drop (i+1):=List.drop_eq_getElem_cons hlt
    rw [hd] at hf
    unfold fx at hf
    obtain⟨e2,h2,hf⟩:=Option.bind_eq_some_iff.mp hf
    obtain⟨fl2,h3,hf⟩:=Option.bind_eq_some_iff.mp hf
    refine .inr ⟨go i hlt,Fo K own σ0 F1 (fun e=>fx own g f (items.drop (i+1)) e=some fl) (fun σ F H e=>lL K (W1++W2) σ F H e D fl),
      fun σ' H' r=>⟨items.length - (i+1),by lia,rfl,hlt,r⟩,fun x H' hy=>?_⟩
    obtain⟨F',sH,sF',sm',fz,hx⟩:=yld i items[i] x H' (List.getElem?_eq_getElem hlt) hy
    obtain⟨R',X'⟩:=R.step sH sF' sm' fz
    refine⟨F',e,items[i],e2,R',hx,h2,fun σ2 x2 R2=>⟨F',e2,fl2,R2,h3,?_⟩⟩
    have q2:lL K (W1++W2) σ2 F' H' e2 D fl:=(q.later (W1:=[]) (W2:=W1++W2) X'.s (fun j h=>by cases h) fun j h=>h).later x2 s1 fun j h=>h
    have w2:∀p∈own,σ2[p.1]?=σ0[p.1]?:=fun p hp=>(x2.wr p.1 fun z=>hW' p hp (s1 _ z)).trans (hσ p hp)
    cases fl2 with
    | nx e3=>
      intro F3 H3 σ3 x3 R3
      dsimp only at hf
      split at hf
      case isFalse=>cases hf
      case isTrue kp3=>
      exact .mk R3 kp3 (fun p hp=>(x3.wr p.1 fun z=>hW' p hp (s2 _ z)).trans (w2 p hp)) (sF.trans (sF'.trans x3.sf)) hf (q2.later x3 s2 fun j h=>h)
    | ct e3=>
      intro F3 H3 σ3 x3 R3
      dsimp only at hf
      split at hf
      case isFalse=>cases hf
      case isTrue kp3=>
      exact .mk R3 kp3 (fun p hp=>(x3.wr p.1 fun z=>hW' p hp (s2 _ z)).trans (w2 p hp)) (sF.trans (sF'.trans x3.sf)) hf (q2.later x3 s2 fun j h=>h)
    | bk e3=>
      cases hf
      exact fun F3 H3 σ3 x3 R3=>q2 F3 H3 σ3 (x3.mono s2) R3
    | rt r e3=>
      cases hf
      exact fun F3 H3 σ3 v x3 R3 A3=>q2 F3 H3 σ3 v (x3.mono s2) R3 A3
  · have hd:items.drop i=[]:=List.drop_eq_nil_of_le (by lia)
    rw [hd] at hf
    cases hf
    exact .inl ⟨stop i (by lia),q F H σ df.refl R⟩
end
end L2
namespace L2
open PySem PySem.Spec PyProof.Rows
def wA:Option (Option Sv)→Bool
  | some (some (.l _))=>true
  | _=>false
theorem tS{s:Option (Option Sv)}:wA s=true↔ ∃xs,s=some (some (.l xs)):=by
  unfold wA
  split
  · simp
  · rename_i h
    constructor
    · intro z;cases z
    · rintro⟨xs,rfl⟩;exact absurd rfl (h xs)
def jZ(pos:Nat→Option Nat)(ei e:En):En:=e.mapIdx fun i s=>match s with
  | some (.l xs)=>match pos i with
    | some k=>(ei[k]?).join
    | none=>some (.l xs)
  | s=>s
theorem bR{pos:Nat→Option Nat}{ei e:En}{i:Nat}:(jZ pos ei e)[i]?=(e[i]?).map fun s=>match s with
  | some (.l xs)=>match pos i with
    | some k=>(ei[k]?).join
    | none=>some (.l xs)
  | s=>s:=by unfold jZ;rw [List.getElem?_mapIdx]
structure pE (σ:L2.St) (e:En) (σi:L2.St) (ei:En) (pos:Nat→Option Nat):Prop where
  a:∀(i k:Nat) (xs:List PyData),e[i]?=some (some (.l xs))→pos i=some k→σi[k]?=σ[i]?
  b:∀(k:Nat) (ys:List PyData),ei[k]?=some (some (.l ys))→∃(i:Nat) (xs:List PyData),e[i]?=some (some (.l xs))∧pos i=some k∧σi[k]?=σ[i]?
section
variable{K:PySem.W.Frag}{σ σi σi':L2.St}{F H F' H':Hp}{e ei ei':En}{pos:Nat→Option Nat}
def Dd(e:En):Prop:=∀(i:Nat) (xss:List (List PyData)),e[i]?≠some (some (.n xss))
theorem pE.own(s:pE σ e σi ei pos)(hn:Dd ei){a:Addr}{H H':Hp}(h:cv σi ei H a):∃(i k:Nat) (xs:List PyData),e[i]?=some (some (.l xs))∧pos i=some k∧σ[i]?=some (some (.ref a)):=by
  obtain⟨k,⟨ys,h1,h2⟩ | ⟨xss,_,_,h1,_⟩⟩:=h
  · obtain⟨i,xs,g1,g2,g3⟩:=s.b k ys h1
    exact⟨i,k,xs,g1,g2,by rw [←g3];exact h2⟩
  · exact absurd h1 (hn k xss)
theorem mG(R:aX K F H σ e)(s:pE σ e σi ei pos)(hnn:Dd ei)(sf:av F F')(dom:∀a,H' a=none→H a=none)(fr:∀a vs,F a=none→H a=some (.lst vs)→¬cv σi ei H a→F' a=none)(lst:∀a vs,H a=some (.lst vs)→∃vs',H' a=some (.lst vs'))
    (tmp:∀a o,H a=some o→¬cv σi ei H a→H' a=some o)(R':aX K F' H' σi' ei')(hσ:∀(i k:Nat) (xs:List PyData),e[i]?=some (some (.l xs))→pos i=some k→σi'[k]?=σi[k]?)(hsh:∀(i k:Nat) (xs:List PyData),e[i]?=some (some (.l xs))→pos i=some k→∃ys,ei'[k]?=some (some (.l ys))):
    aX K F' H' σ (jZ pos ei' e)∧dw σ F H e F' H' (jZ pos ei' e)∧∀a,cv σ (jZ pos ei' e) H' a→cv σ e H a:=by
  have shp:∀i:Nat,(∃xs,(jZ pos ei' e)[i]?=some (some (.l xs)))↔ (∃xs,e[i]?=some (some (.l xs))):=by
    intro i
    rw [bR]
    match h:e[i]? with
    | none=>simp
    | some none=>simp
    | some (some (.d x))=>simp
    | some (some (.n x))=>simp
    | some (some (.l xs))=>
      simp only [Option.map_some]
      constructor
      · intro _;exact⟨xs,rfl⟩
      · intro _
        match hp:pos i with
        | none=>exact⟨xs,rfl⟩
        | some k=>
          obtain⟨ys,g⟩:=hsh i k xs h hp
          exact⟨ys,by show some ((ei'[k]?).join)=_;rw [g];rfl⟩
  have oth:∀(i:Nat) (s:Sv),(∀xs,s≠.l xs)→((jZ pos ei' e)[i]?=some (some s)↔ e[i]?=some (some s)):=by
    intro i s hs
    constructor
    · intro h
      rw [bR] at h
      match h1:e[i]?,h with
      | some (some (.d y)),h=>exact h
      | some (some (.n y)),h=>exact h
      | some (some (.l ys)),h=>
        simp only [Option.map_some,Option.some.injEq] at h
        match hp:pos i,h with
        | none,h=>cases h;exact absurd rfl (hs _)
        | some k,h=>
          obtain⟨zs,g⟩:=hsh i k ys h1 hp
          change (ei'[k]?).join=_ at h
          rw [g] at h;cases h;exact absurd rfl (hs _)
      | some none,h=>simp at h
      | none,h=>simp at h
    · intro h
      rw [bR,h]
      cases s with
      | d y=>rfl
      | n y=>rfl
      | l y=>exact absurd rfl (hs y)
  have out:∀i a,Fp σ e H i a→(∀k xs,e[i]?=some (some (.l xs))→pos i≠some k)→¬cv σi ei H a:=by
    intro i a hi hp z
    obtain⟨j,k,ws,d1,d2,d3⟩:=s.own hnn (H':=H') z
    have:i=j:=R.fp i j a hi (.inl ⟨ws,d1,d3⟩)
    subst this
    exact hp k ws d1 d2
  have keep:∀i a o,Fp σ e H i a→(∀k xs,e[i]?=some (some (.l xs))→pos i≠some k)→H a=some o→H' a=some o:=fun i a o hi hp ha=>tmp a o ha (out i a hi hp)
  have sown:∀a,cv σi ei H a→cv σ e H a:=fun a z=>by
    obtain⟨j,k,ws,d1,d2,d3⟩:=s.own hnn (H':=H') z
    exact⟨j,.inl ⟨ws,d1,d3⟩⟩
  have fs:∀i a,Fp σ (jZ pos ei' e) H' i a↔ Fp σ e H i a:=by
    intro i a
    have key:∀xss l,e[i]?=some (some (.n xss))→σ[i]?=some (some (.ref l))→H' l=H l:=fun xss l h1 h2=>by
      obtain⟨l',bs,g1,g2,g3,_⟩:=R.nst i xss h1
      rw [h2] at g1;cases g1
      rw [g3]
      exact keep i l _ (.inr ⟨xss,l,bs,h1,h2,g3,.inl rfl⟩) (fun k xs z=>by rw [h1] at z;cases z) g3
    constructor
    · rintro(⟨xs,h1,h2⟩ | ⟨xss,l,bs,h1,h2,h3,h4⟩)
      · obtain⟨ys,h⟩:=(shp i).mp ⟨xs,h1⟩
        exact .inl ⟨ys,h,h2⟩
      · have h1':=(oth i (.n xss) (fun _ z=>nomatch z)).mp h1
        exact .inr ⟨xss,l,bs,h1',h2,by rw [←key xss l h1' h2];exact h3,h4⟩
    · rintro(⟨xs,h1,h2⟩ | ⟨xss,l,bs,h1,h2,h3,h4⟩)
      · obtain⟨ys,h⟩:=(shp i).mpr ⟨xs,h1⟩
        exact .inl ⟨ys,h,h2⟩
      · exact .inr ⟨xss,l,bs,(oth i (.n xss) (fun _ z=>nomatch z)).mpr h1,h2,by rw [key xss l h1 h2];exact h3,h4⟩
  refine⟨⟨R'.sm,?_,fun i x h=>?_,fun i xs h=>?_,fun i xss h=>?_,fun i j a h1 h2=>R.fp i j a ((fs i a).mp h1) ((fs j a).mp h2)⟩,⟨sf,dom,fun a vs h1 h2 n=>fr a vs h1 h2 fun z=>n (sown a z),lst,fun a o h n=>tmp a o h fun z=>n (sown a z),shp,fun a ⟨i,h⟩=>.inl ⟨i,(fs i a).mp h⟩⟩,fun a ⟨i,h⟩=>⟨i,(fs i a).mp h⟩⟩
  · unfold jZ;rw [List.length_mapIdx];exact R.len
  · obtain⟨v,g1,g2⟩:=R.dat i x ((oth i (.d x) (fun _ z=>nomatch z)).mp h)
    exact⟨v,g1,DA.mono sf g2⟩
  · obtain⟨ys,h1⟩:=(shp i).mp ⟨xs,h⟩
    obtain⟨l,vs,g1,g2,g3,g4⟩:=R.own i ys h1
    rw [bR,h1] at h
    simp only [Option.map_some,Option.some.injEq] at h
    match hp:pos i,h with
    | none,h=>
      cases h
      have np:∀k xs,e[i]?=some (some (Sv.l xs))→pos i≠some k:=fun k xs _ z=>by rw [hp] at z;cases z
      have fi:Fp σ e H i l:=.inl ⟨_,h1,g1⟩
      exact⟨l,vs,g1,fr l vs g2 g3 (out i l fi np),keep i l _ fi np g3,g4.mono sf⟩
    | some k,h=>
      obtain⟨zs,c1⟩:=hsh i k ys h1 hp
      change (ei'[k]?).join=_ at h
      rw [c1] at h;cases h
      obtain⟨l',vs',d1,d2,d3,d4⟩:=R'.own k _ c1
      rw [hσ i k ys h1 hp,s.a i k ys h1 hp] at d1
      exact⟨l',vs',d1,d2,d3,d4⟩
  · have h1:=(oth i (.n xss) (fun _ z=>nomatch z)).mp h
    obtain⟨l,bs,g1,g2,g3,g4,g5,g6,g7⟩:=R.nst i xss h1
    have np:∀k xs,e[i]?=some (some (Sv.l xs))→pos i≠some k:=fun k xs z=>by rw [h1] at z;cases z
    have fi:Fp σ e H i l:=.inr ⟨xss,l,bs,h1,g1,g3,.inl rfl⟩
    refine⟨l,bs,g1,fr l _ g2 g3 (out i l fi np),keep i l _ fi np g3,g4,g5,g6,fun k b ys q1 q2=>?_⟩
    obtain⟨c1,us,c2,c3⟩:=g7 k b ys q1 q2
    have fb:Fp σ e H i b:=.inr ⟨xss,l,bs,h1,g1,g3,.inr (List.mem_of_getElem? q1)⟩
    exact⟨fr b _ c1 c2 (out i b fb np),us,keep i b _ fb np c2,c3.mono sf⟩
end
def dz(e:En):List Rv→Option (List Sv)
  | []=>some []
  | .d x::r=>(dz e r).map (.d x::·)
  | .l xs::r=>(dz e r).map (.d (.list xs)::·)
  | .s i::r=>match e[i]? with
    | some (some (.l xs))=>(dz e r).map (.l xs::·)
    | _=>none
def aK:List Rv→List Nat
  | []=>[]
  | .s i::r=>i::aK r
  | .d _::r=>aK r
  | .l _::r=>aK r
def jf(rs:List Rv)(i:Nat):Option Nat:=rs.findIdx? fun r=>match r with
  | .s j=>j==i
  | _=>false
def noS:Rv→Prop
  | .s _=>False
  | _=>True
abbrev FM:=List Sv→Option (Rv × List Sv)
def dR(K:PySem.W.Frag)(n:Nat)(m:FM):Sp:=fun vs H Q _=>vs.length=n∧∃F as r as',aX K F H (vs.map some) (as.map some)∧Dd (as.map some)∧m as=some (r,as')∧noS r∧
  ∀F' H' v,dw (vs.map some) F H (as.map some) F' H' (as'.map some)→aX K F' H' (vs.map some) (as'.map some)→b7 K (vs.map some) H F' H' (as'.map some) r v→Q v H'
def bz:List Rv→List Sv→Bool
  | [],[]=>true
  | .s _::r,.l _::s=>bz r s
  | .d _::r,_::s=>bz r s
  | .l _::r,_::s=>bz r s
  | _,_=>false
def BL:Rv→Bool
  | .s _=>false
  | _=>true
def fV:List Rv→List Sv→En→En
  | .s i::r,.l ys::s,e=>fV r s (e.set i (some (.l ys)))
  | .d _::r,_::s,e=>fV r s e
  | .l _::r,_::s,e=>fV r s e
  | _,_,e=>e
def dQ(n:Nat)(m:FM)(fs:FA):FE:=fun e=>(fs e).bind fun p=>(dz p.2 p.1).bind fun as=>(m as).bind fun z=>if p.1.length=n∧(aK p.1).Nodup∧bz p.1 z.2=true∧BL z.1=true then some (z.1,fV p.1 z.2 p.2) else none
theorem gX:∀{rs:List Rv} {as:List Sv},bz rs as=true→∀(k i:Nat),rs[k]?=some (.s i)→∃ys,as[k]?=some (.l ys)
  | [],[],_,k,i,h=>by simp at h
  | .s j::r,.l ys::s,h,k,i,hk=>by
    cases k with
    | zero=>exact⟨ys,rfl⟩
    | succ k=>simpa using gX (rs:=r) (as:=s) (by simpa [bz] using h) k i (by simpa using hk)
  | .d x::r,y::s,h,k,i,hk=>by
    cases k with
    | zero=>simp at hk
    | succ k=>simpa using gX (rs:=r) (as:=s) (by simpa [bz] using h) k i (by simpa using hk)
  | .l x::r,y::s,h,k,i,hk=>by
    cases k with
    | zero=>simp at hk
    | succ k=>simpa using gX (rs:=r) (as:=s) (by simpa [bz] using h) k i (by simpa using hk)
  | .s _::_,.d _::_,h,_,_,_=>by simp [bz] at h
  | .s _::_,[],h,_,_,_=>by simp [bz] at h
  | .d _::_,[],h,_,_,_=>by simp [bz] at h
  | .l _::_,[],h,_,_,_=>by simp [bz] at h
theorem ke{r0:Rv}{rs:List Rv}{i:Nat}:jf (r0::rs) i=if (match r0 with | .s j=>j==i | _=>false)=true then some 0 else(jf rs i).map (· +1):=by
  unfold jf;rw [List.findIdx?_cons]
theorem kf{rs:List Rv}{i k:Nat}(h:jf rs i=some k):rs[k]?=some (.s i):=by
  unfold jf at h
  rw [List.findIdx?_eq_some_iff_getElem] at h
  obtain⟨hk,h1,_⟩:=h
  rw [List.getElem?_eq_getElem hk]
  split at h1
  · rename_i heq
    rw [heq]
    have:=eq_of_beq h1
    rw [this]
  · cases h1
theorem e_:∀{rs:List Rv} {i:Nat},i∈aK rs↔ Rv.s i∈rs
  | [],i=>by simp [aK]
  | .s j::r,i=>by simp [aK,e_ (rs:=r)]
  | .d x::r,i=>by simp [aK,e_ (rs:=r)]
  | .l x::r,i=>by simp [aK,e_ (rs:=r)]
theorem fM:∀{rs:List Rv} {i k j:Nat},(aK rs).Nodup→rs[k]?=some (.s i)→rs[j]?=some (.s i)→k=j
  | [],i,k,j,_,h,_=>by simp at h
  | .s m::r,i,k,j,hn,h1,h2=>by
    simp only [aK,List.nodup_cons] at hn
    cases k with
    | zero=>
      simp at h1;subst h1
      cases j with
      | zero=>rfl
      | succ j=>exact absurd (e_.mpr (List.mem_of_getElem? (by simpa using h2))) hn.1
    | succ k=>
      cases j with
      | zero=>
        simp at h2;subst h2
        exact absurd (e_.mpr (List.mem_of_getElem? (by simpa using h1))) hn.1
      | succ j=>
        have:=fM (rs:=r) (i:=i) (k:=k) (j:=j) hn.2 (by simpa using h1) (by simpa using h2)
        lia
  | .d x::r,i,k,j,hn,h1,h2=>by
    cases k with
    | zero=>simp at h1
    | succ k=>
      cases j with
      | zero=>simp at h2
      | succ j=>
        have:=fM (rs:=r) (i:=i) (k:=k) (j:=j) (by simpa [aK] using hn) (by simpa using h1) (by simpa using h2)
        lia
  | .l x::r,i,k,j,hn,h1,h2=>by
    cases k with
    | zero=>simp at h1
    | succ k=>
      cases j with
      | zero=>simp at h2
      | succ j=>
        have:=fM (rs:=r) (i:=i) (k:=k) (j:=j) (by simpa [aK] using hn) (by simpa using h1) (by simpa using h2)
        lia
theorem xA{rs:List Rv}{i:Nat}(h:i∉aK rs):jf rs i=none:=by
  unfold jf
  rw [List.findIdx?_eq_none_iff]
  intro r hr
  cases r with
  | d x=>rfl
  | l x=>rfl
  | s j=>
    have:j≠i:=fun z=>h (by rw [←z];exact e_.mpr hr)
    simpa using this
theorem lq:∀{rs:List Rv} {as:List Sv} {e:En},(aK rs).Nodup→bz rs as=true→(∀j∈aK rs,∃xs,e[j]?=some (some (.l xs)))→fV rs as e=jZ (jf rs) (as.map some) e
  | [],[],e,_,_,_=>by
    refine List.ext_getElem? fun i=>?_
    rw [bR]
    have:jf [] i=none:=rfl
    rw [this]
    simp only [fV]
    match e[i]? with
    | none=>rfl
    | some none=>rfl
    | some (some (.d x))=>rfl
    | some (some (.l x))=>rfl
    | some (some (.n x))=>rfl
  | .d x::r,y::s,e,hn,hl,hs=>by
    rw [show fV (.d x::r) (y::s) e=fV r s e from rfl,lq (by simpa [aK] using hn) (by simpa [bz] using hl) (fun j hj=>hs j (by simpa [aK] using hj))]
    refine List.ext_getElem? fun i=>?_
    rw [bR,bR,ke]
    cases jf r i<;>simp
  | .l x::r,y::s,e,hn,hl,hs=>by
    rw [show fV (.l x::r) (y::s) e=fV r s e from rfl,lq (by simpa [aK] using hn) (by simpa [bz] using hl) (fun j hj=>hs j (by simpa [aK] using hj))]
    refine List.ext_getElem? fun i=>?_
    rw [bR,bR,ke]
    cases jf r i<;>simp
  | .s k::r,.l ys::s,e,hn,hl,hs=>by
    simp only [aK,List.nodup_cons] at hn
    obtain⟨xs,hk⟩:=hs k (by simp [aK])
    have hlt:k < e.length:=(List.getElem?_eq_some_iff.mp hk).1
    rw [show fV (.s k::r) (.l ys::s) e=fV r s (e.set k (some (.l ys))) from rfl,lq hn.2 (by simpa [bz] using hl) (fun j hj=>by
      have z:k≠j:=fun z=>hn.1 (by rw [z];exact hj)
      rw [List.getElem?_set_ne z]
      exact hs j (by simp [aK,hj]))]
    refine List.ext_getElem? fun i=>?_
    rw [bR,bR,ke]
    by_cases z:k=i
    · subst z
      rw [List.getElem?_set_self hlt,hk,xA hn.1]
      simp
    · rw [List.getElem?_set_ne z]
      have:((match (Rv.s k) with | .s j=>j==i | _=>false)=true)=False:=by simp [z]
      simp only [this,if_false]
      cases jf r i<;>simp
  | .s _::_,.d _::_,_,_,h,_=>by simp [bz] at h
  | .s _::_,.n _::_,_,_,h,_=>by simp [bz] at h
  | .s _::_,[],_,_,h,_=>by simp [bz] at h
  | .d _::_,[],_,_,h,_=>by simp [bz] at h
  | .l _::_,[],_,_,h,_=>by simp [bz] at h
  | [],_::_,_,_,h,_=>by simp [bz] at h
theorem eS{e:En}:∀{rs:List Rv} {as:List Sv},dz e rs=some as→∀j∈aK rs,∃xs,e[j]?=some (some (.l xs))
  | [],_,_,j,h=>by simp [aK] at h
  | .d x::rs,as,q,j,h=>by
    obtain⟨as',q1,rfl⟩:=Option.map_eq_some_iff.mp q
    exact eS q1 j (by simpa [aK] using h)
  | .l x::rs,as,q,j,h=>by
    obtain⟨as',q1,rfl⟩:=Option.map_eq_some_iff.mp q
    exact eS q1 j (by simpa [aK] using h)
  | .s k::rs,as,q,j,h=>by
    unfold dz at q
    match he:e[k]?,q with
    | some (some (.l xs)),q=>
      obtain⟨as',q1,rfl⟩:=Option.map_eq_some_iff.mp q
      simp only [aK,List.mem_cons] at h
      rcases h with rfl | h
      · exact⟨xs,he⟩
      · exact eS q1 j h
theorem jj{e:En}:∀{rs:List Rv} {as:List Sv} {k i:Nat},dz e rs=some as→rs[k]?=some (.s i)→∃xs,as[k]?=some (.l xs)
  | [],_,k,i,_,h=>by simp at h
  | .d x::rs,as,k,i,q,h=>by
    obtain⟨as',q1,rfl⟩:=Option.map_eq_some_iff.mp q
    cases k with
    | zero=>simp at h
    | succ k=>simpa using jj (k:=k) (i:=i) q1 (by simpa using h)
  | .l x::rs,as,k,i,q,h=>by
    obtain⟨as',q1,rfl⟩:=Option.map_eq_some_iff.mp q
    cases k with
    | zero=>simp at h
    | succ k=>simpa using jj (k:=k) (i:=i) q1 (by simpa using h)
  | .s j::rs,as,k,i,q,h=>by
    unfold dz at q
    match he:e[j]?,q with
    | some (some (.l xs)),q=>
      obtain⟨as',q1,rfl⟩:=Option.map_eq_some_iff.mp q
      cases k with
      | zero=>exact⟨xs,rfl⟩
      | succ k=>simpa using jj (k:=k) (i:=i) q1 (by simpa using h)
section
variable{X:Cx}{K:PySem.W.Frag}{σ:L2.St}{H0 H:Hp}{e:En}
theorem lh:∀{rs:List Rv} {vs:List V} {as:List Sv} {F:Hp},aX K F H σ e→dy K σ H0 F H e rs vs→dz e rs=some as→
    ∃F',aX K F' H σ e∧av F F'∧(∀a,F a=none→H0 a≠none→F' a=none)∧vs.length=as.length∧rs.length=as.length∧
      (∀(k:Nat) (x:PyData),as[k]?=some (.d x)→∃v,vs[k]?=some v∧DA K F' x v)∧∀(k:Nat) (xs:List PyData),as[k]?=some (.l xs)→∃i,rs[k]?=some (.s i)∧e[i]?=some (some (.l xs))∧∃v,vs[k]?=some v∧σ[i]?=some (some v)
  | [],vs,as,F,R,h,q=>by
    cases q
    have h':vs=[]:=h
    subst h'
    exact⟨F,R,av.refl _,fun _ h _=>h,rfl,rfl,fun k x h=>by simp at h,fun k x h=>by simp at h⟩
  | .d x::rs,_,as,F,R,h,q=>by
    obtain⟨v,ws,rfl,h1,h2⟩:=h
    obtain⟨as',q1,rfl⟩:=Option.map_eq_some_iff.mp q
    obtain⟨F',R',s',f',l1,l2,d',o'⟩:=lh R h2 q1
    refine⟨F',R',s',f',by simp [l1],by simp [l2],fun k y hk=>?_,fun k ys hk=>?_⟩
    · cases k with
      | zero=>simp at hk;subst hk;exact⟨v,rfl,DA.mono s' h1⟩
      | succ k=>simpa using d' k y (by simpa using hk)
    · cases k with
      | zero=>simp at hk
      | succ k=>simpa using o' k ys (by simpa using hk)
  | .l xs::rs,_,as,F,R,h,q=>by
    obtain⟨v,ws,rfl,h1,h2⟩:=h
    obtain⟨as',q1,rfl⟩:=Option.map_eq_some_iff.mp q
    obtain⟨F',R',s',f',l1,l2,d',o'⟩:=lh R h2 q1
    have key:∃F2,aX K F2 H σ e∧av F' F2∧(∀a,F' a=none→H0 a≠none→F2 a=none)∧DA K F2 (.list xs) v:=by
      obtain⟨l,us,rfl,g1,g2,g3,g4,g5⟩:=h1
      cases hl:F' l with
      | none=>
        have h1':b7 K σ H0 F' H e (.l xs) (.ref l):=⟨l,us,rfl,g1,hl,g3,aC.mono s' g4,g5⟩
        obtain⟨F2,R2,s2,d2,f2⟩:=h1'.frozen R'
        exact⟨F2,R2,s2,f2,d2⟩
      | some o=>
        have:=R'.sm _ _ hl
        rw [g3] at this;cases this
        exact⟨F',R',av.refl _,fun _ h _=>h,cw.mpr ⟨l,us,rfl,.inl (.inl hl),aC.mono s' g4⟩⟩
    obtain⟨F2,R2,s2,f2,d2⟩:=key
    refine⟨F2,R2,s'.trans s2,fun a ha hn=>f2 a (f' a ha hn) hn,by simp [l1],by simp [l2],fun k y hk=>?_,fun k ys hk=>?_⟩
    · cases k with
      | zero=>simp at hk;subst hk;exact⟨v,rfl,d2⟩
      | succ k=>
        obtain⟨u,c1,c2⟩:=d' k y (by simpa using hk)
        exact⟨u,by simpa using c1,DA.mono s2 c2⟩
    · cases k with
      | zero=>simp at hk
      | succ k=>simpa using o' k ys (by simpa using hk)
  | .s i::rs,_,as,F,R,h,q=>by
    obtain⟨v,ws,rfl,h1,h2⟩:=h
    unfold dz at q
    match he:e[i]?,q with
    | some (some (.l xs)),q=>
      obtain⟨as',q1,rfl⟩:=Option.map_eq_some_iff.mp q
      obtain⟨F',R',s',f',l1,l2,d',o'⟩:=lh R h2 q1
      refine⟨F',R',s',f',by simp [l1],by simp [l2],fun k y hk=>?_,fun k ys hk=>?_⟩
      · cases k with
        | zero=>simp at hk
        | succ k=>simpa using d' k y (by simpa using hk)
      · cases k with
        | zero=>simp at hk;subst hk;exact⟨i,rfl,he,v,rfl,h1.1⟩
        | succ k=>simpa using o' k ys (by simpa using hk)
theorem eU{α:Type}{l:List α}{k:Nat}{x:α}:(l.map some)[k]?=some (some x)↔ l[k]?=some x:=by
  rw [List.getElem?_map]
  cases l[k]?<;>simp
theorem b7.noS{σ':L2.St}{e':En}{F H:Hp}{r:Rv}{v:V}(h:b7 K σ' H0 F H e' r v)(n:L2.noS r)(ho:∀a,cv σ e H a→H0 a≠none):b7 K σ H0 F H e r v:=by
  cases r with
  | d x=>exact h
  | l xs=>
    obtain⟨l,vs,e1,h1,h2,h3,h4,_⟩:=h
    exact⟨l,vs,e1,h1,h2,h3,h4,fun z=>ho l z h1⟩
  | s i=>exact absurd n (by simp [L2.noS])
theorem gM:∀{rs:List Rv} {as:List Sv},dz e rs=some as→Dd (as.map some)
  | [],_,q=>by cases q;intro i xss h;simp at h
  | .d x::rs,as,q=>by
    obtain⟨as',q1,rfl⟩:=Option.map_eq_some_iff.mp q
    have ih:=gM q1
    intro i xss h
    cases i with
    | zero=>simp at h
    | succ i=>exact ih i xss (by simpa using h)
  | .l x::rs,as,q=>by
    obtain⟨as',q1,rfl⟩:=Option.map_eq_some_iff.mp q
    have ih:=gM q1
    intro i xss h
    cases i with
    | zero=>simp at h
    | succ i=>exact ih i xss (by simpa using h)
  | .s j::rs,as,q=>by
    unfold dz at q
    match he:e[j]?,q with
    | some (some (.l xs)),q=>
      obtain⟨as',q1,rfl⟩:=Option.map_eq_some_iff.mp q
      have ih:=gM q1
      intro i xss h
      cases i with
      | zero=>simp at h
      | succ i=>exact ih i xss (by simpa using h)
theorem C0{n:Nat}{m:FM}{fs:FA}{Q:VK}{E:XK}(h:fE K (dQ n m fs) σ H Q):yi (dR K n m) [] E (fA K fs) σ H Q:=by
  obtain⟨F,e,z,e',R,hf,q⟩:=h
  unfold dQ at hf
  obtain⟨⟨rs,e1⟩,h1,hf⟩:=Option.bind_eq_some_iff.mp hf
  obtain⟨as,h2,hf⟩:=Option.bind_eq_some_iff.mp hf
  obtain⟨⟨r,as'⟩,h3,hf⟩:=Option.bind_eq_some_iff.mp hf
  split at hf
  case isFalse=>cases hf
  case isTrue hc=>
  obtain⟨c1,c2,c3,c4⟩:=hc
  cases hf
  refine⟨F,e,rs,e1,R,h1,fun F1 H1 vs X1 R1 A1=>?_⟩
  obtain⟨F2,R2,s2,f2,l1,l2,d2,o2⟩:=lh R1 A1 h2
  have X2:=X1.frz s2 f2
  rw [List.append_nil]
  have hn:L2.noS r:=by
    cases r with
    | d x=>trivial
    | l x=>trivial
    | s i=>cases c4
  have nN:=gM h2
  have RA:aX K F2 H1 (vs.map some) (as.map some):=by
    refine⟨R2.sm,by simp [l1],fun k x hk=>?_,fun k xs hk=>?_,fun k xss hk=>absurd hk (nN k xss),fun k j l f1 f2=>?_⟩
    · obtain⟨v,g1,g2⟩:=d2 k x (eU.mp hk)
      exact⟨v,eU.mpr g1,g2⟩
    · obtain⟨i,g1,g2,v,g3,g4⟩:=o2 k xs (eU.mp hk)
      obtain⟨l,us,k1,k2,k3,k4⟩:=R2.own i xs g2
      rw [g4] at k1;cases k1
      exact⟨l,us,eU.mpr g3,k2,k3,k4⟩
    · obtain⟨xs,g1,g3⟩:=f1.resolve_right fun⟨xss,_,_,z,_⟩=>nN k xss z
      obtain⟨ys,g2,g4⟩:=f2.resolve_right fun⟨xss,_,_,z,_⟩=>nN j xss z
      obtain⟨i1,a1,a2,v1,a3,a4⟩:=o2 k xs (eU.mp g1)
      obtain⟨i2,b1,b2,v2,b3,b4⟩:=o2 j ys (eU.mp g2)
      have e1:=eU.mp g3
      have e2:=eU.mp g4
      rw [a3] at e1;cases e1
      rw [b3] at e2;cases e2
      have:i1=i2:=R2.inj i1 i2 xs ys l a2 b2 a4 b4
      subst this
      exact fM c2 a1 b1
  have sub:pE σ e1 (vs.map some) (as.map some) (jf rs):=by
    refine⟨fun i k xs g1 g2=>?_,fun k ys g1=>?_⟩
    · have g3:=kf g2
      obtain⟨zs,hs⟩:=jj h2 g3
      obtain⟨i',a1,a2,v,a3,a4⟩:=o2 k zs hs
      rw [g3] at a1;cases a1
      rw [eU.mpr a3,a4]
    · obtain⟨i,a1,a2,v,a3,a4⟩:=o2 k ys (eU.mp g1)
      refine⟨i,ys,a2,?_,by rw [eU.mpr a3,a4]⟩
      cases hp:jf rs i with
      | none=>
        unfold jf at hp
        rw [List.findIdx?_eq_none_iff] at hp
        have:=hp _ (List.mem_of_getElem? a1)
        simp at this
      | some j=>rw [fM c2 (kf hp) a1]
  refine⟨by rw [l1,←l2];exact c1,F2,as,r,as',RA,nN,h3,hn,fun F' H' v X3 R3 A3=>?_⟩
  obtain⟨R4,X4,o4⟩:=mG R2 sub nN X3.sf X3.dom X3.fr X3.lst X3.tmp R3 (fun _ _ _ _ _=>rfl) fun i k xs g1 g2=>by
    obtain⟨ys,g3⟩:=gX c3 k i (kf g2)
    exact⟨ys,eU.mpr g3⟩
  have hb:=lq (e:=e1) c2 c3 (eS h2)
  rw [←hb] at R4 X4 o4
  exact q F' H' v (X2.trans X4) R4 ((A3.noS hn fun a z=>R2.ownH a (o4 a z)).weak X2.dom)
theorem bh{x:Str}{st:Stmt}{f:Addr}{fd:FuncData}{ps:List Str}{k n:Nat}{m:FM}{a:Expr}{es:List Expr}{fs:FA}{p pos:Pos}(h:bX X.K X.mg x st f fd ps)(G:a9 X.prog X.w X.K X.mg X.base du k f fd ps (dR K n m))(hr:cz k X.A)(ha:PA X (a::es) (fA K fs))
    (hg:Gl X x)(hdb:(x==("__debug__":Str))=false)(he:starEach (a::es) X.env=(false,eval a X.env)::starEach es X.env)(hpl:(backTo pos (starEach es X.env)).any (·.1)=false):
    PE X (.Call (.Name x p) (a::es) [] pos) (fE K (dQ n m fs)):=(FZ h G hr ha hg hdb he hpl).mono fun _ _ _ h=>C0 h
def vn:List Sv→En→Option (List Sv)
  | [],_=>some []
  | .d x::r,e=>(vn r e.tail).map (.d x::·)
  | .l _::r,e=>match e.head? with
    | some (some (.l ys))=>(vn r e.tail).map (.l ys::·)
    | _=>none
  | .n _::_,_=>none
def yL(n:Nat)(e:En):Rv→Option Rv
  | .s i=>if n≤i then match e[i]? with
      | some (some (.l xs))=>some (.l xs)
      | _=>none
    else none
  | r=>some r
def qu(W:List Nat)(as:List Sv):Bool:=W.all fun j=>match as[j]? with
  | some (.l _)=>false
  | _=>true
def j_(n k:Nat)(W:List Nat)(f:FS):FM:=fun as=>if as.length=n∧qu W as=true then(f (as.map some++List.replicate k none)).bind fun fl=>match fl with
    | .rt r e=>(yL n e r).bind fun r'=>(vn as e).map fun as'=>(r',as')
    | .nx e=>(vn as e).map fun as'=>(.d .none,as')
    | _=>none
  else none
theorem lz:∀{as as':List Sv} {e:En},vn as e=some as'→as'.length=as.length∧(∀(j:Nat) (x:PyData),as'[j]?=some (.d x)↔ as[j]?=some (.d x))∧(∀(j:Nat) (ys:List PyData),as'[j]?=some (.l ys)→(∃xs,as[j]?=some (.l xs))∧e[j]?=some (some (.l ys)))∧∀(j:Nat) (xs:List PyData),as[j]?=some (.l xs)→∃ys,as'[j]?=some (.l ys)
  | [],_,e,h=>by cases h;simp
  | .d x::r,_,e,h=>by
    obtain⟨s,h1,rfl⟩:=Option.map_eq_some_iff.mp h
    obtain⟨g1,g2,g3,g4⟩:=lz h1
    refine⟨by simp [g1],fun j y=>?_,fun j ys hj=>?_,fun j xs hj=>?_⟩
    · cases j with
      | zero=>simp
      | succ j=>simpa using g2 j y
    · cases j with
      | zero=>simp at hj
      | succ j=>
        obtain⟨c1,c2⟩:=g3 j ys (by simpa using hj)
        refine⟨by simpa using c1,?_⟩
        rw [List.getElem?_tail] at c2
        exact c2
    · cases j with
      | zero=>simp at hj
      | succ j=>simpa using g4 j xs (by simpa using hj)
  | .l xs::r,_,e,h=>by
    unfold vn at h
    match he:e.head?,h with
    | some (some (.l ys)),h=>
      obtain⟨s,h1,rfl⟩:=Option.map_eq_some_iff.mp h
      obtain⟨g1,g2,g3,g4⟩:=lz h1
      refine⟨by simp [g1],fun j y=>?_,fun j zs hj=>?_,fun j zs hj=>?_⟩
      · cases j with
        | zero=>simp
        | succ j=>simpa using g2 j y
      · cases j with
        | zero=>
          simp at hj;subst hj
          exact⟨⟨xs,rfl⟩,by rw [List.head?_eq_getElem?] at he;exact he⟩
        | succ j=>
          obtain⟨c1,c2⟩:=g3 j zs (by simpa using hj)
          refine⟨by simpa using c1,?_⟩
          rw [List.getElem?_tail] at c2
          exact c2
      · cases j with
        | zero=>exact⟨ys,rfl⟩
        | succ j=>simpa using g4 j zs (by simpa using hj)
  | .n x::r,_,e,h=>by simp [vn] at h
end
end L2
namespace L2
open PySem PySem.Spec PyProof.Rows
theorem eh{α:Type}{l:List (Option α)}{k i:Nat}{x:α}(h:(l++List.replicate k none)[i]?=some (some x)):l[i]?=some (some x):=by
  rw [List.getElem?_append] at h
  split at h
  · exact h
  · rw [List.getElem?_replicate] at h
    split at h<;>simp at h
theorem et{α:Type}{l:List (Option α)}{k i:Nat}{x:α}(h:l[i]?=some (some x)):(l++List.replicate k none)[i]?=some (some x):=by
  have hi:i < l.length:=(List.getElem?_eq_some_iff.mp h).1
  rw [List.getElem?_append_left hi];exact h
section
variable{K:PySem.W.Frag}{F H:Hp}{σ:L2.St}{e:En}{k:Nat}
theorem oB{i:Nat}{a:Addr}:Fp (σ++List.replicate k none) (e++List.replicate k none) H i a↔ Fp σ e H i a:=by
  constructor
  · rintro(⟨xs,h1,h2⟩ | ⟨xss,l,bs,h1,h2,h3⟩)
    · exact .inl ⟨xs,eh h1,eh h2⟩
    · exact .inr ⟨xss,l,bs,eh h1,eh h2,h3⟩
  · rintro(⟨xs,h1,h2⟩ | ⟨xss,l,bs,h1,h2,h3⟩)
    · exact .inl ⟨xs,et h1,et h2⟩
    · exact .inr ⟨xss,l,bs,et h1,et h2,h3⟩
theorem oV{a:Addr}:cv (σ++List.replicate k none) (e++List.replicate k none) H a↔ cv σ e H a:=⟨fun⟨i,h⟩=>⟨i,oB.mp h⟩,fun⟨i,h⟩=>⟨i,oB.mpr h⟩⟩
theorem aX.pad(R:aX K F H σ e):aX K F H (σ++List.replicate k none) (e++List.replicate k none):=by
  refine⟨R.sm,by simp [R.len],fun i x h=>?_,fun i xs h=>?_,fun i xss h=>?_,fun i j a h1 h2=>R.fp i j a (oB.mp h1) (oB.mp h2)⟩
  · obtain⟨v,g1,g2⟩:=R.dat i x (eh h)
    exact⟨v,et g1,g2⟩
  · obtain⟨l,vs,g1,g2⟩:=R.own i xs (eh h)
    exact⟨l,vs,et g1,g2⟩
  · obtain⟨l,bs,g1,g2⟩:=R.nst i xss (eh h)
    exact⟨l,bs,et g1,g2⟩
end
theorem pA:∀{as as':List Sv} {e:En},vn as e=some as'→Dd (as'.map some)
  | [],_,e,h=>by cases h;intro i xss z;simp at z
  | .d x::r,_,e,h=>by
    obtain⟨s,h1,rfl⟩:=Option.map_eq_some_iff.mp h
    have ih:=pA h1
    intro i xss z
    cases i with
    | zero=>simp at z
    | succ i=>exact ih i xss (by simpa using z)
  | .l xs::r,_,e,h=>by
    unfold vn at h
    match he:e.head?,h with
    | some (some (.l ys)),h=>
      obtain⟨s,h1,rfl⟩:=Option.map_eq_some_iff.mp h
      have ih:=pA h1
      intro i xss z
      cases i with
      | zero=>simp at z
      | succ i=>exact ih i xss (by simpa using z)
  | .n x::r,_,e,h=>by simp [vn] at h
theorem qy{W:List Nat}{as:List Sv}(h:qu W as=true){j:Nat}{xs:List PyData}(hj:as[j]?=some (.l xs)):j∉W:=fun z=>by
  unfold qu at h
  have:=List.all_eq_true.mp h j z
  rw [hj] at this
  cases this
section
variable{P:Program}{w:World}{K:PySem.W.Frag}{mg:Str→Option Value}{base:Heap}
theorem bX.fn{x:Str}{st:Stmt}{f:Addr}{fd:FuncData}{N ps:List Str}{k n k0:Nat}{W:List Nat}{fb:FS}(h:bX K mg x st f fd ps)(S:aU N ps (ap st))(hn:ps.length=n)(hN:N.length=n+k0)
    (hb:∀(cdv:Value) (A:Around) (outer:List Env) (s:Shared) (H:Hp) (E:XK),cz k (A.deeper (envOfC x (ap st) s.heap.objs.size f cdv))→k_ (rQ du P w K mg base N x (ap st) f cdv A outer s H E).nox (cH st) (fS K fb W)):
    a9 P w K mg base du (k+1) f fd ps (dR K n (j_ n k0 W fb)):=by
  refine h.F.ok S (fun vs H Q E q=>?_) fun cdv A outer s H vs Q E hr hsp=>⟨_,hb cdv A outer s H E hr,?_⟩
  · rw [hn];exact q.1
  · obtain⟨hl,F,as,r,as',R,nN,hm,nr,q⟩:=hsp
    unfold j_ at hm
    split at hm
    case isFalse=>cases hm
    case isTrue hc=>
    obtain⟨la,nl⟩:=hc
    obtain⟨fl,h1,hm⟩:=Option.bind_eq_some_iff.mp hm
    have hst:eQ N vs=vs.map some++List.replicate k0 none:=by unfold eQ;rw [hN,hl];congr 2;lia
    rw [hst]
    have key:∀{as':List Sv} {e':En},vn as e'=some as'→∀F' H' σ',df W (vs.map some++List.replicate k0 none) F H (as.map some++List.replicate k0 none) σ' F' H' e'→aX K F' H' σ' e'→
        dw (vs.map some) F H (as.map some) F' H' (as'.map some)∧aX K F' H' (vs.map some) (as'.map some)∧∀a,cv (vs.map some) (as'.map some) H' a→cv (vs.map some) (as.map some) H a:=by
      intro as' e' hu F' H' σ' X' R'
      obtain⟨u1,u2,u3,u4⟩:=lz hu
      have uN:=pA hu
      have ow:∀a,cv (vs.map some) (as'.map some) H' a→cv (vs.map some) (as.map some) H a:=by
        rintro a ⟨j,⟨ys,c1,c2⟩ | ⟨xss,_,_,z,_⟩⟩
        · obtain⟨⟨xs,c3⟩,_⟩:=u3 j ys (eU.mp c1)
          exact⟨j,.inl ⟨xs,eU.mpr c3,c2⟩⟩
        · exact absurd z (uN j xss)
      have sg:∀(j:Nat) (xs:List PyData),as[j]?=some (.l xs)→σ'[j]?=(vs.map some)[j]?:=fun j xs hj=>by
        rw [X'.wr j (qy nl hj)]
        have hj2:j < (vs.map some).length:=by rw [List.length_map,hl,←la];exact(List.getElem?_eq_some_iff.mp hj).1
        rw [List.getElem?_append_left hj2]
      refine⟨⟨X'.sf,X'.dom,fun a vs h1 h2 hn=>X'.fr a vs h1 h2 fun z=>hn (oV.mp z),X'.lst,fun a o ha hn=>X'.tmp a o ha fun z=>hn (oV.mp z),fun j=>?_,fun a z=>.inl (ow a z)⟩,⟨R'.sm,?_,fun j y hj=>?_,fun j ys hj=>?_,fun j xss hj=>absurd hj (uN j xss),fun j i l f1 f2=>?_⟩,ow⟩
      · constructor
        · rintro⟨ys,hj⟩
          obtain⟨⟨xs,c⟩,_⟩:=u3 j ys (eU.mp hj)
          exact⟨xs,eU.mpr c⟩
        · rintro⟨xs,hj⟩
          obtain⟨ys,c⟩:=u4 j xs (eU.mp hj)
          exact⟨ys,eU.mpr c⟩
      · simp [u1,hl,la]
      · obtain⟨v,c1,c2⟩:=R.dat j y (eU.mpr ((u2 j y).mp (eU.mp hj)))
        exact⟨v,c1,DA.mono X'.sf c2⟩
      · obtain⟨⟨xs,c1⟩,c2⟩:=u3 j ys (eU.mp hj)
        obtain⟨l,us,d1,d2⟩:=R'.own j ys c2
        exact⟨l,us,by rw [←sg j xs c1];exact d1,d2⟩
      · obtain⟨xs,g1,g3⟩:=f1.resolve_right fun⟨xss,_,_,z,_⟩=>uN j xss z
        obtain⟨ys,g2,g4⟩:=f2.resolve_right fun⟨xss,_,_,z,_⟩=>uN i xss z
        obtain⟨⟨zs,c1⟩,c2⟩:=u3 j xs (eU.mp g1)
        obtain⟨⟨ws,c3⟩,c4⟩:=u3 i ys (eU.mp g2)
        exact R'.inj j i xs ys l c2 c4 (by rw [sg j zs c1];exact g3) (by rw [sg i ws c3];exact g4)
    refine⟨F,as.map some++List.replicate k0 none,fl,R.pad,h1,?_⟩
    cases fl with
    | bk e'=>cases hm
    | ct e'=>cases hm
    | nx e'=>
      obtain⟨as2,h2,hm⟩:=Option.map_eq_some_iff.mp hm
      cases hm
      intro F' H' σ' X' R'
      obtain⟨X2,R2,_⟩:=key h2 F' H' σ' X' R'
      exact q F' H' .non X2 R2 ((eT (K:=K) (F:=F')).mpr rfl)
    | rt r0 e'=>
      obtain⟨r1,h2,hm⟩:=Option.bind_eq_some_iff.mp hm
      obtain⟨as2,h3,hm⟩:=Option.map_eq_some_iff.mp hm
      cases hm
      intro F' H' σ' v X' R' A'
      obtain⟨X2,R2,ow2⟩:=key h3 F' H' σ' X' R'
      have noo:∀l,H l=none→¬cv (vs.map some) (as'.map some) H' l:=fun l hl z=>R.ownH l (ow2 l z) hl
      refine q F' H' v X2 R2 ?_
      cases r0 with
      | d y=>cases h2;exact A'
      | l ys=>
        cases h2
        obtain⟨l,us,d0,d1,d2,d3,d4,_⟩:=A'
        exact⟨l,us,d0,d1,d2,d3,d4,noo l d1⟩
      | s i=>
        simp only [yL] at h2
        split at h2
        case isFalse=>cases h2
        case isTrue hi=>
        obtain⟨a1,xs,a2⟩:=A'
        rw [a2] at h2
        cases h2
        obtain⟨l,us,d1,d2,d3,d4⟩:=R'.own i _ a2
        rw [a1] at d1;cases d1
        suffices hl0:H l=none from⟨l,us,rfl,hl0,d2,d3,d4,noo l hl0⟩
        rcases X'.own l ⟨i,.inl ⟨_,a2,a1⟩⟩ with z | z
        · obtain⟨j,zf⟩:=oV.mp z
          obtain⟨ys,z1,z2⟩:=zf.resolve_right fun⟨xss,_,_,z,_⟩=>nN j xss z
          have z1':=eU.mp z1
          obtain⟨u1,u2,u3,u4⟩:=lz h3
          obtain⟨ws,w1⟩:=u4 j ys z1'
          obtain⟨_,w2⟩:=u3 j ws w1
          have hj2:j < vs.length:=by rw [hl,←la];exact(List.getElem?_eq_some_iff.mp z1').1
          have e3:σ'[j]?=some (some (.ref l)):=by
            rw [X'.wr j (qy nl z1'),List.getElem?_append_left (by simpa using hj2)]
            exact z2
          have:=R'.inj i j _ ws l a2 w2 a1 e3
          lia
        · exact z
end
def D4:Option Sv→Option Sv
  | some (.n _)=>none
  | s=>s
def kS(cp:List (Nat × Str))(nT:Nat)(e:En):En:=cp.map (fun p=>D4 (e[p.1]?).join)++List.replicate nT none
def jG(cp:List (Nat × Str))(i:Nat):Option Nat:=cp.findIdx? fun p=>p.1==i
def cM(g:FG)(ft:FT)(fe:FE):List PyData→En→List PyData→Option (List PyData × En)
  | [],e,acc=>some (acc,e)
  | x::r,e,acc=>(g x e).bind fun e1=>(ft e1).bind fun b=>if b.1=true then(fe b.2).bind fun v=>(rR v.1).bind fun d=>if acc.length < 1000000 then cM g ft fe r v.2 (acc++[d]) else none else cM g ft fe r b.2 acc
def ir(cp:List (Nat × Str))(ei e:En):Bool:=cp.all fun p=> !wA e[p.1]? || wA ei[(jG cp p.1).getD 0]?
def cm(cp:List (Nat × Str))(nT:Nat)(fi:FI)(g:FG)(ft:FT)(fe:FE):FE:=fun e=>(fi e).bind fun p=>if (p.2.1.all fun q=> !(cp.any fun c=>c.1==q.1))=true then(cM g ft fe p.1 (kS cp nT p.2.2) []).bind fun z=>if ir cp z.2 p.2.2=true then some (.l z.1,jZ (jG cp) z.2 p.2.2) else none else none
section
variable{K:PySem.W.Frag}{F H:Hp}{σ:L2.St}{e:En}{cp:List (Nat × Str)}{nT:Nat}
theorem dY{i k:Nat}(h:jG cp i=some k):∃s,cp[k]?=some (i,s):=by
  unfold jG at h
  rw [List.findIdx?_eq_some_iff_getElem] at h
  obtain⟨hk,h1,_⟩:=h
  refine⟨cp[k].2,?_⟩
  rw [List.getElem?_eq_getElem hk]
  have:=eq_of_beq h1
  rw [←this]
theorem gU{k:Nat}{x:Sv}(h:(kS cp nT e)[k]?=some (some x)):∃i s,cp[k]?=some (i,s)∧e[i]?=some (some x):=by
  unfold kS at h
  have h:=eh h
  rw [List.getElem?_map] at h
  obtain⟨p,h1,h2⟩:=Option.map_eq_some_iff.mp h
  refine⟨p.1,p.2,h1,?_⟩
  cases q:e[p.1]? with
  | none=>rw [q] at h2;cases h2
  | some y=>
    rw [q] at h2
    match y,h2 with
    | some (.d z),h2=>exact congrArg some h2
    | some (.l z),h2=>exact congrArg some h2
    | some (.n z),h2=>cases h2
    | none,h2=>cases h2
theorem gW:Dd (kS cp nT e):=by
  intro k xss h
  unfold kS at h
  have h:=eh h
  rw [List.getElem?_map] at h
  obtain⟨p,h1,h2⟩:=Option.map_eq_some_iff.mp h
  match (e[p.1]?).join,h2 with
  | some (.d z),h2=>cases h2
  | some (.l z),h2=>cases h2
  | some (.n z),h2=>cases h2
  | none,h2=>cases h2
theorem lw{k i:Nat}{s:Str}{v:V}(h:cp[k]?=some (i,s))(hv:σ[i]?=some (some v)):(dN cp nT σ)[k]?=some (some v):=by
  unfold dN
  refine et ?_
  rw [List.getElem?_map,h]
  simp [hv]
theorem jX{k i:Nat}{s:Str}{v:V}(h:cp[k]?=some (i,s))(hv:(dN cp nT σ)[k]?=some (some v)):σ[i]?=some (some v):=by
  unfold dN at hv
  have hv:=eh hv
  rw [List.getElem?_map,h] at hv
  simp only [Option.map_some,Option.some.injEq] at hv
  cases q:σ[i]? with
  | none=>rw [q] at hv;cases hv
  | some y=>rw [q] at hv;exact congrArg some hv
theorem ou:∀{cp:List (Nat × Str)} {k j i:Nat} {s t:Str},(cp.map (·.1)).Nodup→cp[k]?=some (i,s)→cp[j]?=some (i,t)→k=j
  | [],k,j,i,s,t,_,h,_=>by simp at h
  | p::r,k,j,i,s,t,hn,h1,h2=>by
    simp only [List.map_cons,List.nodup_cons] at hn
    cases k with
    | zero=>
      simp at h1;subst h1
      cases j with
      | zero=>rfl
      | succ j=>
        have hm:(i,t)∈r:=List.mem_of_getElem? (i:=j) (by simpa using h2)
        exact absurd (List.mem_map.mpr ⟨(i,t),hm,rfl⟩) hn.1
    | succ k=>
      cases j with
      | zero=>
        simp at h2;subst h2
        have hm:(i,s)∈r:=List.mem_of_getElem? (i:=k) (by simpa using h1)
        exact absurd (List.mem_map.mpr ⟨(i,s),hm,rfl⟩) hn.1
      | succ j=>
        have:=ou (cp:=r) (k:=k) (j:=j) hn.2 (by simpa using h1) (by simpa using h2)
        lia
theorem aX.inn(R:aX K F H σ e)(hn:(cp.map (·.1)).Nodup):aX K F H (dN cp nT σ) (kS cp nT e)∧pE σ e (dN cp nT σ) (kS cp nT e) (jG cp):=by
  refine⟨⟨R.sm,by simp [dN,kS],fun k x h=>?_,fun k xs h=>?_,fun k xss h=>absurd h (gW k xss),fun k j l f1 f2=>?_⟩,⟨fun i k xs h1 h2=>?_,fun k ys h=>?_⟩⟩
  · obtain⟨i,s,h1,h2⟩:=gU h
    obtain⟨v,g1,g2⟩:=R.dat i x h2
    exact⟨v,lw h1 g1,g2⟩
  · obtain⟨i,s,h1,h2⟩:=gU h
    obtain⟨l,vs,g1,g2⟩:=R.own i xs h2
    exact⟨l,vs,lw h1 g1,g2⟩
  · obtain⟨xs,h1,h3⟩:=f1.resolve_right fun⟨xss,_,_,z,_⟩=>gW k xss z
    obtain⟨ys,h2,h4⟩:=f2.resolve_right fun⟨xss,_,_,z,_⟩=>gW j xss z
    obtain⟨i,s,a1,a2⟩:=gU h1
    obtain⟨i',s',b1,b2⟩:=gU h2
    have:i=i':=R.inj i i' xs ys l a2 b2 (jX a1 h3) (jX b1 h4)
    subst this
    exact ou hn a1 b1
  · obtain⟨s,g⟩:=dY h2
    obtain⟨l,vs,g1,_⟩:=R.own i xs h1
    rw [g1];exact lw g g1
  · obtain⟨i,s,h1,h2⟩:=gU h
    obtain⟨l,vs,g1,_⟩:=R.own i ys h2
    refine⟨i,ys,h2,?_,by rw [g1];exact lw h1 g1⟩
    cases hp:jG cp i with
    | none=>
      unfold jG at hp
      rw [List.findIdx?_eq_none_iff] at hp
      have:=hp _ (List.mem_of_getElem? h1)
      simp at this
    | some j=>
      obtain⟨t,g⟩:=dY hp
      rw [ou hn g h1]
theorem aX.putT(R:aX K F H σ e){l:Addr}{ws:List V}(h1:F l=none)(h2:¬cv σ e H l):aX K F (aV H l (.lst ws)) σ e∧∀a,cv σ e (aV H l (.lst ws)) a↔ cv σ e H a:=
  R.keep (av.refl F) (fun b o q=>by
    have z:b≠l:=fun z=>by rw [z,h1] at q;cases q
    rw [ax z];exact R.sm b o q) (fun a ⟨i,h⟩=>(R.fpAt h).1) fun a o ha q=>by
      have z:a≠l:=fun z=>h2 (by rw [←z];exact ha)
      rw [ax z];exact q
theorem df.putT{W:List Nat}{σ':L2.St}{F' H':Hp}{e':En}(x:df W σ F H e σ' F' H' e'){l:Addr}{o:HO}(h:H l=none)(ho:∀a,cv σ' e' (aV H' l o) a↔ cv σ' e' H' a):df W σ F H e σ' F' (aV H' l o) e':=by
  refine⟨x.sf,fun a q=>?_,x.fr,fun a vs q=>?_,fun a u q n=>?_,fun a q=>x.own a ((ho a).mp q),x.wr⟩
  · by_cases z:a=l
    · rw [z];exact h
    · rw [ax z] at q;exact x.dom a q
  · have z:a≠l:=fun z=>by rw [z,h] at q;cases q
    rw [ax z];exact x.lst a vs q
  · have z:a≠l:=fun z=>by rw [z,h] at q;cases q
    rw [ax z];exact x.tmp a u q n
inductive CI (K:PySem.W.Frag) (W:List Nat) (σ0:L2.St) (F1 H1:Hp) (e0:En) (l:Addr) (P:Hp→En→List PyData→Prop) (σ':L2.St) (H':Hp):Prop
  | mk {F':Hp} {ei:En} {acc:List PyData} {vs:List V} (R:aX K F' H' σ' ei) (X:df W σ0 F1 H1 e0 σ' F' H' ei) (fl:F' l=none) (no:¬cv σ' ei H' l) (hl:H' l=some (.lst vs)) (da:aC K F' acc vs) (hc:P F' ei acc):CI K W σ0 F1 H1 e0 l P σ' H'
theorem rm{Q:VK}{fi:FI}{g:FG}{W:List Nat}{ft:FT}{fe:FE}(hn:(cp.map (·.1)).Nodup)(hW:∀j∈W,cp.length≤j)(h:fE K (cm cp nT fi g ft fe) σ H Q):uj cp nT (fI K fi) (fG K g W) (fT K ft) (fE K fe) σ H Q:=by
  obtain⟨F0,e0,z,e',R0,hf,q⟩:=h
  unfold cm at hf
  obtain⟨⟨items,own,e1⟩,h1,hf⟩:=Option.bind_eq_some_iff.mp hf
  dsimp only at hf
  split at hf
  case isFalse=>cases hf
  case isTrue hO=>
  obtain⟨⟨out,eo⟩,h2,hf⟩:=Option.bind_eq_some_iff.mp hf
  dsimp only at hf
  split at hf
  case isFalse=>cases hf
  case isTrue hB=>
  cases hf
  refine⟨⟨F0,e0,items,own,e1,R0,h1,fun J F1 H1 X1 R1 kp ok=>?_⟩⟩
  intro l hl
  obtain⟨Ri,sub⟩:=R1.inn (nT:=nT) hn
  have hFl:F1 l=none:=R1.freeF hl
  let Iv:Nat→L2.St→Hp→Prop:=fun i=>CI K W (dN cp nT σ) F1 H1 (kS cp nT e1) l fun _ ei acc=>cM g ft fe (items.drop i) ei acc=some (out,eo)
  have notown:∀p∈own,∀a,σ[p.1]?=some (some (.ref a))→¬cv (dN cp nT σ) (kS cp nT e1) H1 a:=by
    rintro p hp a ha ⟨k,zf⟩
    obtain⟨xs,c1,c2⟩:=zf.resolve_right fun⟨xss,_,_,z,_⟩=>gW k xss z
    obtain⟨i,s,d1,d2⟩:=gU c1
    have e2:=jX d1 c2
    have:p.1=i:=R1.inj p.1 i p.2 xs a (kp p hp) d2 ha e2
    have hh:=List.all_eq_true.mp hO p hp
    simp only [Bool.not_eq_true',List.any_eq_false,beq_iff_eq] at hh
    exact hh (i,s) (List.mem_of_getElem? d1) this.symm
  refine⟨fun i m σ' H'=>m=items.length - i∧i≤items.length∧Iv i σ' H',⟨items.length,by simp,Nat.zero_le _,.mk (Ri.putT hFl (fun z=>(Ri.ownH l z) hl)).1 (df.refl.putT hl (Ri.putT hFl (fun z=>(Ri.ownH l z) hl)).2) hFl (fun z=>(Ri.ownH l (((Ri.putT hFl (fun z=>(Ri.ownH l z) hl)).2 l).mp z)) hl) am aC.nil h2⟩,?_⟩
  rintro i m σ' H' ⟨rfl,hi,⟨R',X',fl,no,hl',da,hc⟩⟩
  rename_i F' ei acc vs
  have held:uB K σ F' H' own:=fun p hp=>by
    obtain⟨a,us,c1,c2,c3,c4⟩:=R1.own p.1 p.2 (kp p hp)
    exact⟨a,us,c1,X'.tmp a _ c3 (notown p hp a c1),c4.mono X'.sf⟩
  obtain⟨go,stop,yld⟩:=ok F' H' X'.sf R'.sm held
  by_cases hlt:i < items.length
  · have hd:items.drop i=items[i]::items.drop (i+1):=List.drop_eq_getElem_cons hlt
    rw [hd] at hc
    unfold cM at hc
    obtain⟨e2,c2,hc⟩:=Option.bind_eq_some_iff.mp hc
    obtain⟨⟨b,e3⟩,c3,hc⟩:=Option.bind_eq_some_iff.mp hc
    refine .inr ⟨go i hlt,Iv (i+1),fun σ2 H2 r=>⟨items.length - (i+1),by lia,rfl,hlt,r⟩,fun x H2 hy=>?_⟩
    obtain⟨F2,sH,sF2,sm2,fz,hx⟩:=yld i items[i] x H2 (List.getElem?_eq_getElem hlt) hy
    obtain⟨R2,X2⟩:=R'.step sH sF2 sm2 fz
    refine⟨F2,ei,items[i],e2,R2,hx,c2,fun σ3 X3 R3=>⟨F2,e2,b,e3,R3,c3,fun F4 H4 X4 R4=>?_⟩⟩
    have hlH2:H2 l=some (.lst vs):=sH _ _ hl'
    have no2:¬cv σ' ei H2 l:=fun z=>by
      rcases X2.ow l z with z | z
      · exact no z
      · rw [hl'] at z;cases z
    have no3:¬cv σ3 e2 H2 l:=fun z=>by
      rcases X3.own l z with z | z
      · exact no2 z
      · rw [hlH2] at z;cases z
    have fl2:F2 l=none:=fz l fl (by rw [hl'];simp)
    have hlH4:H4 l=some (.lst vs):=X4.tmp l _ hlH2 no3
    have fl4:F4 l=none:=X4.fr l vs fl2 hlH2 no3
    have no4:¬cv σ3 e3 H4 l:=fun z=>by
      rcases X4.ow l z with z | z
      · exact no3 z
      · rw [hlH2] at z;cases z
    have E4:df W (dN cp nT σ) F1 H1 (kS cp nT e1) σ3 F4 H4 e3:=((X'.trans X2.s).trans X3).trans X4.s
    cases b with
    | false=>
      rw [if_neg (by simp)] at hc
      exact yY (.mk R4 E4 fl4 no4 hlH4 (da.mono (sF2.trans X4.sf)) hc)
    | true=>
      rw [if_pos rfl] at hc
      obtain⟨⟨r,e5⟩,c5,hc⟩:=Option.bind_eq_some_iff.mp hc
      obtain⟨d,c6,hc⟩:=Option.bind_eq_some_iff.mp hc
      split at hc
      case isFalse=>cases hc
      case isTrue hlen=>
      refine yZ ⟨F4,e3,r,e5,R4,c5,fun F5 H5 v X5 R5 A5=>?_⟩
      have hlH5:H5 l=some (.lst vs):=X5.tmp l _ hlH4 no4
      have fl5:F5 l=none:=X5.fr l vs fl4 hlH4 no4
      have no5:¬cv σ3 e5 H5 l:=fun z=>by
        rcases X5.ow l z with z | z
        · exact no4 z
        · rw [hlH4] at z;cases z
      obtain⟨F6,R6,s6,d6,f6⟩:=dy.frozen R5 (rs:=[r]) (vs:=[v]) ⟨v,[],rfl,A5,rfl⟩ (nh c6)
      have fl6:F6 l=none:=f6 l fl5 (by rw [hlH4];simp)
      have X6:=X5.frz s6 f6
      have ll:=da.len
      have sl:sizeLine=16777216:=sizeLine_eq
      have dv:DA K F6 d v:=by
        simp only [aC] at d6
        obtain⟨v',r',e',hv,_⟩:=d6
        cases e';exact hv
      obtain⟨R7,o7⟩:=R6.putT (ws:=vs++[v]) fl6 no5
      exact⟨vs,hlH5,by lia,.mk R7 ((E4.trans X6.s).putT hl o7) fl6 (fun z=>no5 ((o7 l).mp z)) am ((da.mono (sF2.trans (X4.sf.trans (X5.sf.trans s6)))).append (aC.one dv)) hc⟩
  · have hd:items.drop i=[]:=List.drop_eq_nil_of_le (by lia)
    rw [hd] at hc
    cases hc
    refine .inl ⟨stop i (by lia),?_⟩
    obtain⟨R9,X9,o9⟩:=mG R1 sub gW X'.sf X'.dom X'.fr X'.lst X'.tmp R' (fun i k xs g1 g2=>X'.wr k fun z=>by
      obtain⟨s,g⟩:=dY g2
      have:=(List.getElem?_eq_some_iff.mp g).1
      have:=hW k z
      lia) fun i k xs g1 g2=>by
        obtain⟨s,g⟩:=dY g2
        unfold ir at hB
        have hb:=List.all_eq_true.mp hB _ (List.mem_of_getElem? g)
        simp only [g1,g2,Option.getD_some,wA,Bool.not_true,Bool.false_or] at hb
        exact tS.mp hb
    exact q F' H' (.ref l) (X1.trans X9) R9 ⟨l,vs,rfl,X1.dom l hl,fl,hl',da,fun z=>R1.ownH l (o9 l z) hl⟩
end
end L2
namespace L2
open PySem PySem.Spec PyProof.Rows
section
variable{X:Cx}{K:PySem.W.Frag}{a b:Expr}{es:List Expr}{fa fb:FE}{fs:FA}{pos p p2 p3:Pos}{lo hi:Option Expr}
def p7:En→Rv→Option Rv:=fun _ x=>(bO x).map fun i=>.d (.int (-i))
theorem Ea:Dp K (rU fun i=>.int (-i)) p7:=by
  intro σ H0 F H e x z v Q R A hg q
  obtain⟨i,h5,h4⟩:=Option.map_eq_some_iff.mp hg
  cases h4
  exact⟨i,cg A h5,q F H _ (dw.refl _ _ _ _) R my⟩
theorem qI(ha:PE X a (fE K fa)):PE X (.UnaryOp .USub a pos) (fE K (mU p7 fa)):=Ew CZ Ea ha
theorem aN(hK:X.K=K)(ha:PE X a (fE K fa))(hb:PE X b (fE K fb)):PE X (.BinOp a .Add b pos) (fE K (au aJ fa fb)):=nJ (hK ▸ zi) Dr ha hb
theorem qJ(ha:PE X a (fE K fa))(hb:PE X b (fE K fb)):PE X (.BinOp a .Sub b pos) (fE K (au iB fa fb)):=nJ B7 EL ha hb
theorem ml(hK:X.K=K)(ha:PE X a (fE K fa))(hb:PE X b (fE K fb)):PE X (.BinOp a .Mult b pos) (fE K (au jc fa fb)):=nJ (hK ▸ zp) D_ ha hb
theorem cN(ha:PE X a (fE K fa))(hb:PE X b (fE K fb)):PE X (.BinOp a .FloorDiv b pos) (fE K (au bA fa fb)):=nJ xg Bu ha hb
theorem aQ(ha:PE X a (fE K fa))(hb:PE X b (fE K fb)):PE X (.BinOp a .Mod b pos) (fE K (au aM fa fb)):=nJ zo D9 ha hb
theorem xH(ha:PE X a (fE K fa))(hb:PE X b (fE K fb)):PE X (.BinOp a .Pow b pos) (fE K (au oG fa fb)):=nJ B5 Eo ha hb
theorem bf(hK:X.K=K)(ha:PE X a (fE K fa))(hb:PE X b (fE K fb))(hs:ji b):PE X (.Subscript a b pos) (fE K (au bU fa fb)):=Et (hK ▸ FR) FU ha hb hs
theorem dI{fl fh:FO}(hK:X.K=K)(he:PE X a (fE K fa))(hl:PO X lo (fO K fl))(hh:PO X hi (fO K fh)):PE X (.Subscript a (.Slice lo hi none p2) pos) (fE K (rA fa fl fh)):=by subst hK;exact xN he hl hh
structure ii (X:Cx) (K:PySem.W.Frag) (op:CmpOp) (g:En→Rv→Rv→Option Rv):Prop where
  ex:∃r,eG X (compareOp op) r∧eL K r g
theorem yF:ii X K .Lt AO:=⟨_,Eh,FX⟩
theorem Bo:ii X K .LtE C_:=⟨_,Eg,FW⟩
theorem Dy:ii X K .Gt DN:=⟨_,Ef,FK⟩
theorem Dx:ii X K .GtE DM:=⟨_,Ee,FJ⟩
theorem jn{k:Nat}(hK:X.K=K)(hr:cz k X.A):ii X K .Eq (bw false):=⟨_,hK ▸ BX hr,AB⟩
theorem vI{k:Nat}(hK:X.K=K)(hr:cz k X.A):ii X K .NotEq (bw true):=⟨_,hK ▸ B4 hr,AB⟩
theorem FC{k:Nat}(hK:X.K=K)(hr:cz k X.A):ii X K .In (uK false):=⟨_,hK ▸ BZ hr,DS⟩
theorem yG{k:Nat}(hK:X.K=K)(hr:cz k X.A):ii X K .NotIn (uK true):=⟨_,hK ▸ u7 hr,DS⟩
theorem Dz:ii X K .Is DO:=⟨_,B0,FQ⟩
theorem yE:ii X K .IsNot oF:=⟨_,uY,yX⟩
theorem kU{op:CmpOp}{g:En→Rv→Rv→Option Rv}(h:ii X K op g)(ha:PE X a (fE K fa))(hb:PE X b (fE K fb))(hm:behindInMarks op b=false):PE X (.Compare a [op] [b] pos) (fE K (au g fa fb)):=by
  obtain⟨r,h1,h2⟩:=h.ex;exact Cq h1 h2 ha hb hm
theorem bu{op:CmpOp}{g:En→Rv→Rv→Option Rv}(h:ii X K op g)(ha:PE X a (fE K fa))(hb:PE X b (fE K fb))(hm:behindInMarks op b=false):PT X (.Compare a [op] [b] pos) (fT K (aP (au g fa fb))):=by
  obtain⟨r,h1,h2⟩:=h.ex;exact Cu h1 h2 ha hb hm
theorem zO{op op':CmpOp}{g g':En→Rv→Rv→Option Rv}{c:Expr}{fc:FE}(h:ii X K op g)(h':ii X K op' g')(ha:PE X a (fE K fa))(hb:PE X b (fE K fb))(hc:PE X c (fE K fc))(hm:lastMarks [op,op'] [b,c]=false):PE X (.Compare a [op,op'] [b,c] pos) (fE K (dP g g' fa fb fc)):=by
  obtain⟨r,h1,h2⟩:=h.ex;obtain⟨r',h3,h4⟩:=h'.ex;exact xK h1 h2 h3 h4 ha hb hc hm
theorem xI{op op':CmpOp}{g g':En→Rv→Rv→Option Rv}{c:Expr}{fc:FE}(h:ii X K op g)(h':ii X K op' g')(ha:PE X a (fE K fa))(hb:PE X b (fE K fb))(hc:PE X c (fE K fc))(hm:lastMarks [op,op'] [b,c]=false):PT X (.Compare a [op,op'] [b,c] pos) (fT K (aP (dP g g' fa fb fc))):=by
  obtain⟨r,h1,h2⟩:=h.ex;obtain⟨r',h3,h4⟩:=h'.ex;exact xP h1 h2 h3 h4 ha hb hc hm
structure k8 (X:Cx) (K:PySem.W.Frag) (x:Str) (g:En→List Rv→Option Rv):Prop where
  ex:(∃id r,cL X (.builtin id) r∧cO K r g∧bootBuiltins x=some (.builtin id))∨∃T r,cL X (.type T) r∧cO K r g∧bootBuiltins x=some (.type T)
theorem aW{x:Str}{g:En→List Rv→Option Rv}(h:k8 X K x g)(hg:Gl X x)(hm:X.mg x=none)(ha:PA X (a::es) (fA K fs))(hn:x≠"__name__")(hdb:(x==("__debug__":Str))=false)
    (he:starEach (a::es) X.env=(false,eval a X.env)::starEach es X.env)(hpl:(backTo pos (starEach es X.env)).any (·.1)=false):PE X (.Call (.Name x p) (a::es) [] pos) (fE K (aF g fs)):=by
  rcases h.ex with ⟨id,r,h1,h2,h3⟩ | ⟨T,r,h1,h2,h3⟩
  · exact xJ h1 h2 hg hm h3 ha hn hdb he hpl
  · exact vb h1 h2 hg hm h3 ha hn hdb he hpl
theorem b_len(hK:X.K=K):k8 X K "len" (g1 bZ):=⟨.inl ⟨_,_,hK ▸ og,D3,PySem.boot_len⟩⟩
theorem b_abs:k8 X K "abs" (g1 uJ):=⟨.inl ⟨_,_,vJ,Dq,PyProof.Rows.boot_abs⟩⟩
theorem b_min(hc:X.calm=true):k8 X K "min" (g2 wg):=⟨.inl ⟨_,_,uG hc,D8,PyProof.Rows.boot_min⟩⟩
theorem b_max(hc:X.calm=true):k8 X K "max" (g2 p4):=⟨.inl ⟨_,_,uF hc,D7,PyProof.Rows.boot_max⟩⟩
theorem b_int:k8 X K "int" (g1 uL):=⟨.inr ⟨_,_,uE,DU,PyProof.Rows.boot_int⟩⟩
theorem b_tuple(hK:X.K=K):k8 X K "tuple" (g1 cF):=⟨.inr ⟨_,_,hK ▸ mO,Ag,PyProof.Rows.boot_tuple⟩⟩
theorem b_list(hK:X.K=K):k8 X K "list" (g1 nA):=⟨.inr ⟨_,_,hK ▸ oh,BI,PyProof.Rows.boot_list⟩⟩
theorem b_all{k:Nat}(hK:X.K=K)(hr:cz k X.A):k8 X K "all" (g1 (kP nu)):=⟨.inl ⟨_,_,vK hr hK,Ds,vH⟩⟩
theorem b_sorted(hK:X.K=K):k8 X K "sorted" (g1 rX):=⟨.inl ⟨_,_,hK ▸ rL,z5,PyProof.Rows.boot_sorted⟩⟩
theorem b_repr{k:Nat}(hK:X.K=K)(hr:cz k X.A):k8 X K "repr" (g1 jv):=⟨.inl ⟨_,_,hK ▸ rK hr,CF,PyProof.Rows.boot_repr⟩⟩
def iU(fs:FA):FE:=fun e=>(fs e).bind fun p=>match p.1 with
  | [r]=>(bO r).bind fun j=>if 0≤j∧j≤100000 then some (.l ((di j.toNat).map .int),p.2) else none
  | _=>none
theorem qH(hc:X.calm=true)(hgl:Gl X "list")(hml:X.mg "list"=none)(hg:Gl X "range")(hm:X.mg "range"=none)(ha:PA X [a] (fA K fs))(hs:starEach [a] X.env=[(false,eval a X.env)])
    (he:starEach [.Call (.Name "range" p2) [a] [] p3] X.env=[(false,eval (.Call (.Name "range" p2) [a] [] p3) X.env)]):PE X (.Call (.Name "list" p) [.Call (.Name "range" p2) [a] [] p3] [] pos) (fE K (iU fs)):=(oY hc hgl hml hg hm ha hs he).mono fun σ H Q h=>by
  obtain⟨F,e,z,e',R,hf,q⟩:=h
  unfold iU at hf
  obtain⟨⟨rs,e1⟩,h1,hf⟩:=Option.bind_eq_some_iff.mp hf
  match rs,h1,hf with
  | [r],h1,hf=>
  obtain⟨j,h2,hf⟩:=Option.bind_eq_some_iff.mp hf
  split at hf
  case isFalse=>cases hf
  case isTrue hj=>
  cases hf
  refine⟨F,e,_,e1,R,h1,fun F1 H1 vs X1 R1 A1=>?_⟩
  obtain⟨v,rfl,A2⟩:=iS A1
  refine⟨j,by rw [cg A2 h2],hj.1,hj.2,fun t ht=>?_⟩
  obtain⟨R3,X3,hF,no⟩:=R1.newL (vs:=(di j.toNat).map V.int) ht
  exact q _ _ _ (X1.trans X3) R3 ⟨t,_,rfl,X1.dom _ ht,hF,am,aC.ints.mpr rfl,no⟩
abbrev bL:FT:=fun e=>some (true,e)
theorem rB.mono{ifs:List Expr}{t t':TT}(h:rB X ifs t)(m:∀σ H Q,t' σ H Q→t σ H Q):rB X ifs t':=fun pins s σ H Q I q=>h pins s σ H Q I (m σ H Q q)
theorem fZ:rB X [] (fT K bL):=zL.mono fun σ H Q h=>by
  obtain⟨F,e,b,e',R,hf,q⟩:=h
  cases hf
  exact q F H (dw.refl _ _ _ _) R
theorem tZ{c:Expr}{ft:FT}(h:PT X c (fT K ft)):rB X [c] (fT K ft):=zM h
theorem mh{elt iter tg:Expr}{ifs:List Expr}{scope:Scope}{fi:FI}{g:FG}{ft:FT}{fe:FE}{W:List Nat}(sc0:Scope)(N0:List Str)(cp:List (Nat × Str))(tgN:List Str)
    (hc:X.calm=true)(hsc:X.env.scope=sc0)(hN0:X.N=N0)(hi:PI X tg iter (fI K fi))
    (hg:∀C s0 H0 fp,PG (ar X scope cp tgN C s0 H0 fp) tg (fG K g W))
    (ht:∀C s0 H0 fp,rB (ar X scope cp tgN C s0 H0 fp) ifs (fT K ft))
    (he:∀C s0 H0 fp,PE (ar X scope cp tgN C s0 H0 fp) elt (fE K fe))
    (hk:scope.kind=.function)(hcell:∀y∈scope.names,y.2≠.cell)(hnames:∀y∈scope.names,y.2=.local→scope.names.lookup y.1=some .local)
    (hfr:∀y∈scope.names,y.2=.free→scope.names.lookup y.1=some .free∧sc0.names.lookup y.1=some .cell)
    (hcp:∀p∈cp,N0[p.1]?=some p.2)(hcq:∀p∈cp,sc0.names.lookup p.2=some .cell∧scope.names.lookup p.2=some .free)(hnd:(cp.map (·.1)).Nodup)(hW:∀j∈W,cp.length≤j)
    (hs:∀x,foldedSetIterable iter X.env x=pure x):
    PE X (.ListComp elt [⟨tg,iter,ifs,0⟩] scope pos) (fE K (cm cp tgN.length fi g ft fe)):=(zx sc0 N0 cp tgN hc hsc hN0 hi hg ht he hk hcell hnames hfr hcp hcq hs).mono fun _ _ _ h=>rm hnd hW h
theorem kg{ix:Nat}{nm:Str}{posn poss:Pos}{elt iter tg:Expr}{ifs:List Expr}{scope:Scope}{fi:FI}{g:FG}{ft:FT}{fe:FE}{W:List Nat}(sc0:Scope)(N0:List Str)(cp:List (Nat × Str))(tgN:List Str)
    (hc:X.calm=true)(hsc:X.env.scope=sc0)(hN0:X.N=N0)(hi:PI X tg iter (fI K fi))
    (hg:∀C s0 H0 fp,PG (ar X scope cp tgN C s0 H0 fp) tg (fG K g W))
    (ht:∀C s0 H0 fp,rB (ar X scope cp tgN C s0 H0 fp) ifs (fT K ft))
    (he:∀C s0 H0 fp,PE (ar X scope cp tgN C s0 H0 fp) elt (fE K fe))
    (hk:scope.kind=.function)(hcell:∀y∈scope.names,y.2≠.cell)(hnames:∀y∈scope.names,y.2=.local→scope.names.lookup y.1=some .local)
    (hfr:∀y∈scope.names,y.2=.free→scope.names.lookup y.1=some .free∧sc0.names.lookup y.1=some .cell)
    (hcp:∀p∈cp,N0[p.1]?=some p.2)(hcq:∀p∈cp,sc0.names.lookup p.2=some .cell∧scope.names.lookup p.2=some .free)(hnd:(cp.map (·.1)).Nodup)(hW:∀j∈W,cp.length≤j)
    (hNd:X.N.Nodup)(hix:X.N[ix]?=some nm)(hlc:X.env.scope.names.lookup nm=some .local)(hsw:swapsWith (.ListComp elt [⟨tg,iter,ifs,0⟩] scope pos) (some (.Name nm posn)) poss.line X.env=pure true)
    (hs:∀x,foldedSetIterable iter X.env x=pure x):
    PS X (.Assign [.Name nm posn] (.ListComp elt [⟨tg,iter,ifs,0⟩] scope pos) poss) (fS K (aO ix (cm cp tgN.length fi g ft fe)) [ix]):=(su sc0 N0 cp tgN hc hsc hN0 hi hg ht he hk hcell hnames hfr hcp hcq hNd hix hlc hsw hs).mono fun D σ H h=>by
  obtain⟨F,e,fl,R,hf,q⟩:=h
  unfold aO at hf
  obtain⟨⟨r,e1⟩,h1,hf⟩:=Option.bind_eq_some_iff.mp hf
  obtain⟨e2,h2,hf⟩:=Option.map_eq_some_iff.mp hf
  cases hf
  refine rm hnd hW ⟨F,e,r,e1,R,h1,fun F1 H1 v X1 R1 A1=>?_⟩
  obtain⟨x,R2⟩:=sv R X1 R1 A1 h2
  exact q F1 H1 _ x R2
variable{o:Expr}{fo:FE}{apos cpos:Pos}
theorem fK(hK:X.K=K)(ho:PE X o (fE K fo))(ha:PA X (a::es) (fA K fs))(hbase:attributeBase o "append" X.env (eval o X.env)=eval o X.env)
    (hfew:((backTo cpos (starEach (a::es) X.env)).all (fun x=> !x.1)&&(backToKw cpos (keywordEach [] X.env)).all (fun x=>x.1.isSome)
      &&decide ((a::es).length+([]:List Keyword).length+(if ([]:List Keyword).isEmpty then 0 else 1) < 30))=true)
    (hline:(apos.endLine==cpos.line)=true)(hs:starEach (a::es) X.env=(false,eval a X.env)::starEach es X.env)(hplain:(backTo cpos (starEach es X.env)).any (·.1)=false):
    PE X (.Call (.Attribute o "append" apos) (a::es) [] cpos) (fE K (eR cI fo fs)):=by
  subst hK;exact AZ PySem.F.slot_list_append PySem.F.type_list_append ff vB ho ha hbase hfew hline hs hplain
theorem zQ(hK:X.K=K)(ho:PE X o (fE K fo))(ha:PA X (a::es) (fA K fs))(hbase:attributeBase o "pop" X.env (eval o X.env)=eval o X.env)
    (hfew:((backTo cpos (starEach (a::es) X.env)).all (fun x=> !x.1)&&(backToKw cpos (keywordEach [] X.env)).all (fun x=>x.1.isSome)
      &&decide ((a::es).length+([]:List Keyword).length+(if ([]:List Keyword).isEmpty then 0 else 1) < 30))=true)
    (hline:(apos.endLine==cpos.line)=true)(hs:starEach (a::es) X.env=(false,eval a X.env)::starEach es X.env)(hplain:(backTo cpos (starEach es X.env)).any (·.1)=false):
    PE X (.Call (.Attribute o "pop" apos) (a::es) [] cpos) (fE K (eR j' fo fs)):=by
  subst hK;exact AZ PySem.F.slot_list_pop PySem.F.type_list_pop wV zF ho ha hbase hfew hline hs hplain
end
end L2
namespace L2
open PySem PySem.Spec PyProof.Rows
theorem sI{K:PySem.W.Frag}{H:Hp}{a:Addr}{ns:List Int}{m:FM}{as':List Sv}{Q:VK}{E:XK}(hS:fm K H a (ns.map V.int))(hm:m [.d (.list (ns.map .int))]=some (.d (.bool true),as'))(q:∀H',Q (.bl true) H'):dR K 1 m [.ref a] H Q E:=by
  refine⟨rfl,H,[.d (.list (ns.map .int))],_,as',?_,?_,hm,trivial,fun F' H' v X' R' A'=>?_⟩
  · refine⟨av.refl _,rfl,fun i x h=>?_,fun i xs h=>?_,fun i xss h=>?_,fun i j l f1 _=>?_⟩
    · match i,h with
      | 0,h=>
        simp at h;subst h
        exact⟨.ref a,rfl,cw.mpr ⟨a,_,rfl,hS,aC.ints.mpr rfl⟩⟩
      | i+1,h=>simp at h
    · match i,h with
      | 0,h=>simp at h
      | i+1,h=>simp at h
    · match i,h with
      | 0,h=>simp at h
      | i+1,h=>simp at h
    · rcases f1 with ⟨_,h,_⟩ | ⟨_,_,_,h,_⟩
      · match i,h with
        | 0,h=>simp at h
        | i+1,h=>simp at h
      · match i,h with
        | 0,h=>simp at h
        | i+1,h=>simp at h
  · intro i xss h
    match i,h with
    | 0,h=>simp at h
    | i+1,h=>simp at h
  · rw [c_.mp (show DA K F' (.bool true) v from A')];exact q H'
end L2
namespace L2
open PySem PySem.Spec PyProof.Rows
section
variable{K:PySem.W.Frag}{σ:L2.St}{H0 F H F' H':Hp}{e e':En}
theorem aX.putN(R:aX K F H σ e){i:Nat}{xss yss:List (List PyData)}{l:Addr}{bs:List Addr}{H':Hp}(hi:e[i]?=some (some (.n xss)))(hs:σ[i]?=some (some (.ref l)))
    (hF:F l=none)(hl:H' l=some (.lst (bs.map V.ref)))(hlen:bs.length=yss.length)(hnd:bs.Nodup)(hnl:l∉bs)(hin:∀(k:Nat) (b:Addr) (ys:List PyData),bs[k]?=some b→yss[k]?=some ys→F b=none∧∃us,H' b=some (.lst us)∧aC K F ys us)
    (hbs:∀b∈bs,Fp σ e H i b∨¬cv σ e H b)(hdom:∀a,H' a=none→H a=none)(hst:∀a o,H a=some o→a≠l→a∉bs→H' a=some o)(hlst:∀a vs,H a=some (.lst vs)→∃vs',H' a=some (.lst vs')):
    aX K F H' σ (e.set i (some (.n yss)))∧(∀a,cv σ (e.set i (some (.n yss))) H' a→cv σ e H a∨a∈bs)∧∀j:Nat,(∃xs,(e.set i (some (Sv.n yss)))[j]?=some (some (.l xs)))↔ (∃xs,e[j]?=some (some (.l xs))):=by
  have hlt:i < e.length:=(List.getElem?_eq_some_iff.mp hi).1
  have gi:(e.set i (some (Sv.n yss)))[i]?=some (some (.n yss)):=List.getElem?_set_self hlt
  obtain⟨l0,bs0,a1,a2,a3,_⟩:=R.nst i xss hi
  rw [hs] at a1;cases a1
  have fl:Fp σ e H i l:=.inr ⟨xss,l,bs0,hi,hs,a3,.inl rfl⟩
  have own:∀j a,j≠i→Fp σ e H j a→a≠l∧a∉bs:=fun j a hj hq=>by
    refine⟨fun z=>hj (R.fp j i a hq (by rw [z];exact fl)),fun z=>?_⟩
    rcases hbs a z with h | h
    · exact hj (R.fp j i a hq h)
    · exact h ⟨j,hq⟩
  have fpi:∀a,Fp σ (e.set i (some (.n yss))) H' i a→a=l∨a∈bs:=fun a q=>by
    rcases q with ⟨zs,q,_⟩ | ⟨zss,l',bs',q,q2,q3,q4⟩
    · rw [gi] at q;cases q
    · rw [hs] at q2;cases q2
      rw [hl] at q3
      have e1:bs=bs':=List.map_inj_right (fun _ _ z=>V.ref.inj z) |>.mp (HO.lst.inj (Option.some.inj q3))
      subst e1;exact q4
  obtain⟨R',fs⟩:=R.upd1 (F':=F) (H':=H') (e':=e.set i (some (.n yss))) i (by rw [List.length_set];exact R.len) (fun _ _=>rfl) (fun j hj=>List.getElem?_set_ne (Ne.symm hj)) (av.refl F)
    (fun b o q=>by
      have z1:b≠l:=fun z=>by rw [z,hF] at q;cases q
      have z2:b∉bs:=fun z=>by
        obtain⟨k,hk⟩:=List.getElem?_of_mem z
        have hk2:k < yss.length:=by rw [←hlen];exact(List.getElem?_eq_some_iff.mp hk).1
        rw [(hin k b yss[k] hk (List.getElem?_eq_getElem hk2)).1] at q;cases q
      exact hst b o (R.sm b o q) z1 z2)
    (fun j a _ q=>(R.fpAt q).1) (fun j a o hj q ha=>let ⟨z1,z2⟩:=own j a hj q;hst a o ha z1 z2)
    (fun x q=>by rw [gi] at q;cases q) (fun zs q=>by rw [gi] at q;cases q) (fun zss q=>by rw [gi] at q;cases q;exact⟨l,bs,hs,hF,hl,hlen,hnd,hnl,hin⟩)
    (fun a j hj q q2=>by
      obtain⟨z1,z2⟩:=own j a hj q2
      exact(fpi a q).elim z1 z2)
  refine⟨R',fun a ⟨j,q⟩=>?_,fun j=>?_⟩
  · by_cases z:j=i
    · subst z
      rcases fpi a q with z | z
      · exact .inl ⟨j,by rw [z];exact fl⟩
      · exact .inr z
    · exact .inl ⟨j,(fs j a z).mp q⟩
  · by_cases z:j=i
    · subst z;rw [gi,hi];simp
    · rw [List.getElem?_set_ne (Ne.symm z)]
theorem aX.frzN(R:aX K F H σ e){i:Nat}{xss:List (List PyData)}(hi:e[i]?=some (some (.n xss))):∃F' v,σ[i]?=some (some v)∧DA K F' (.list (xss.map .list)) v∧aX K F' H σ (e.set i (some (.d (.list (xss.map .list)))))∧dw σ F H e F' H (e.set i (some (.d (.list (xss.map .list))))):=by
  obtain⟨l,bs,a1,a2,a3,a4,a5,a6,a7⟩:=R.nst i xss hi
  have hlt:i < e.length:=(List.getElem?_eq_some_iff.mp hi).1
  have inF:∀a,a=l∨a∈bs→Fp σ e H i a:=fun a h=>.inr ⟨xss,l,bs,hi,a1,a3,h⟩
  let F':Hp:=fun a=>if a=l∨a∈bs then H a else F a
  have pos:∀a,(a=l∨a∈bs)→F' a=H a:=fun a h=>if_pos h
  have neg:∀a,¬(a=l∨a∈bs)→F' a=F a:=fun a h=>if_neg h
  have sF:av F F':=fun b o q=>by
    have z:¬(b=l∨b∈bs):=fun z=>by rw [(R.fpAt (inF b z)).1] at q;cases q
    rw [neg b z];exact q
  have sm:av F' H:=fun b o q=>by
    by_cases z:b=l∨b∈bs
    · rw [pos b z] at q;exact q
    · rw [neg b z] at q;exact R.sm b o q
  have dd:∀(cs:List Addr) (yss:List (List PyData)),cs.length=yss.length→(∀(k:Nat) (b:Addr) (ys:List PyData),cs[k]?=some b→yss[k]?=some ys→b∈bs∧∃us,H b=some (.lst us)∧aC K F ys us)→aC K F' (yss.map .list) (cs.map V.ref):=by
    intro cs
    induction cs with
    | nil=>
      intro yss h _
      cases yss with
      | nil=>exact aC.nil
      | cons _ _=>simp at h
    | cons c cs ih=>
      intro yss h hh
      cases yss with
      | nil=>simp at h
      | cons ys yss=>
        obtain⟨c1,us,c2,c3⟩:=hh 0 c ys rfl rfl
        refine aC.cons (cw.mpr ⟨c,us,rfl,.inl (.inl ?_),c3.mono sF⟩) (ih yss (by simpa using h) fun k b zs q1 q2=>hh (k+1) b zs (by simpa using q1) (by simpa using q2))
        rw [pos c (.inr c1)];exact c2
  have da:DA K F' (.list (xss.map .list)) (.ref l):=cw.mpr ⟨l,_,rfl,.inl (.inl (by rw [pos l (.inl rfl)];exact a3)),dd bs xss a4 fun k b ys q1 q2=>by
    obtain⟨_,us,c2,c3⟩:=a7 k b ys q1 q2
    exact⟨List.mem_of_getElem? q1,us,c2,c3⟩⟩
  have gi:(e.set i (some (Sv.d (.list (xss.map .list)))))[i]?=some (some (.d (.list (xss.map .list)))):=List.getElem?_set_self hlt
  have nofp:∀a,¬Fp σ (e.set i (some (.d (.list (xss.map .list))))) H i a:=fun a q=>by
    rcases q with ⟨zs,q,_⟩ | ⟨xss,_,_,q,_⟩
    · rw [gi] at q;cases q
    · rw [gi] at q;cases q
  obtain⟨R',fs⟩:=R.upd1 (F':=F') (H':=H) (e':=e.set i (some (.d (.list (xss.map .list))))) i (by rw [List.length_set];exact R.len) (fun _ _=>rfl) (fun j hj=>List.getElem?_set_ne (Ne.symm hj)) sF sm
    (fun j a hj q=>by
      rw [neg a fun z=>hj (R.fp j i a q (inF a z))]
      exact(R.fpAt q).1)
    (fun j a o _ _ ha=>ha) (fun x q=>by rw [gi] at q;cases q;exact⟨_,a1,da⟩) (fun zs q=>by rw [gi] at q;cases q) (fun zss q=>by rw [gi] at q;cases q) (fun a j hj q=>absurd q (nofp a))
  refine⟨F',.ref l,a1,da,R',⟨sF,fun _ h=>h,fun a vs h1 h2 h3=>?_,fun a vs h=>⟨vs,h⟩,fun _ _ h _=>h,fun j=>?_,fun a ⟨j,q⟩=>?_⟩⟩
  · rw [neg a fun z=>h3 ⟨i,inF a z⟩];exact h1
  · by_cases z:j=i
    · subst z;rw [gi,hi];simp
    · rw [List.getElem?_set_ne (Ne.symm z)]
  · by_cases z:j=i
    · subst z;exact absurd q (nofp a)
    · exact .inl ⟨j,(fs j a z).mp q⟩
theorem aX.setN(R:aX K F H σ e)(i:Nat){l:Addr}(h1:F l=none)(h2:H l=some (.lst []))(h4:¬cv σ e H l):aX K F H (σ.set i (some (.ref l))) (e.set i (some (.n [])))∧∀a,cv (σ.set i (some (.ref l))) (e.set i (some (.n []))) H a→cv σ e H a∨a=l:=by
  have gi:∀s,(e.set i (some (Sv.n [])))[i]?=some (some s)→s=.n []∧i < e.length:=fun s q=>by
    have hlt:i < e.length:=by have:=(List.getElem?_eq_some_iff.mp q).1;simpa using this
    rw [List.getElem?_set_self hlt] at q
    exact⟨(Option.some.inj (Option.some.inj q)).symm,hlt⟩
  have onefp:∀a,Fp (σ.set i (some (.ref l))) (e.set i (some (.n []))) H i a→a=l:=fun a q=>by
    rcases q with ⟨zs,q,q2⟩ | ⟨xss,l',bs,q,q2,q3,q4⟩
    · cases (gi _ q).1
    · obtain⟨_,hlt⟩:=gi _ q
      rw [List.getElem?_set_self (by rw [R.len];exact hlt)] at q2
      cases q2
      rw [h2] at q3
      have:bs=[]:=by
        cases bs with
        | nil=>rfl
        | cons _ _=>have z:=HO.lst.inj (Option.some.inj q3);simp at z
      subst this
      exact q4.elim id fun z=>by cases z
  obtain⟨R',fs⟩:=R.upd1 (F':=F) (H':=H) (σ':=σ.set i (some (.ref l))) (e':=e.set i (some (.n []))) i (by rw [List.length_set,List.length_set];exact R.len) (fun j hj=>List.getElem?_set_ne (Ne.symm hj)) (fun j hj=>List.getElem?_set_ne (Ne.symm hj)) (av.refl F) R.sm
    (fun j a _ q=>(R.fpAt q).1) (fun j a o _ _ ha=>ha) (fun y q=>by cases (gi _ q).1) (fun zs q=>by cases (gi _ q).1)
    (fun zss q=>by
      obtain⟨z,hlt⟩:=gi _ q
      cases z
      exact⟨l,[],List.getElem?_set_self (by rw [R.len];exact hlt),h1,h2,rfl,List.nodup_nil,by simp,fun k b ys q=>by simp at q⟩)
    (fun a j hj q q2=>h4 ⟨j,by rw [onefp a q] at q2;exact q2⟩)
  refine⟨R',fun a ⟨j,q⟩=>?_⟩
  by_cases z:j=i
  · subst z;exact .inr (onefp a q)
  · exact .inl ⟨j,(fs j a z).mp q⟩
end
def fJ(e:En)(i:Nat):Option (List (List PyData)):=match e[i]? with
  | some (some (.n xss))=>some xss
  | _=>none
theorem fj{e:En}{i:Nat}{xss:List (List PyData)}(h:fJ e i=some xss):e[i]?=some (some (.n xss)):=by
  unfold fJ at h
  split at h
  · rename_i heq;cases h;exact heq
  · cases h
section
variable{X:Cx}{K:PySem.W.Frag}{a b:Expr}{es:List Expr}{fa fb:FE}{fs:FA}{pos p p2 p3 pos':Pos}{x:Str}{i:Nat}
def x5(i:Nat):FS:=fun e=>some (.nx (e.set i (some (.n []))))
theorem zS(hN:X.N.Nodup)(hi:X.N[i]?=some x)(hx:Bh X.env.scope x)(hs:swapsWith (.List [] p) (some (.Name x pos')) pos.line X.env=pure false)(hf:X.fn x=true∨X.env.scope.names.lookup x=some .local):
    PS X (.Assign [.Name x pos'] (.List [] p) pos) (fS K (x5 i) [i]):=(xC hN hi hx (xl md) hs hf).mono fun D σ H h=>by
  obtain⟨F,e,fl,R,hf,q⟩:=h
  cases hf
  refine⟨Nat.zero_le _,fun l hl=>?_⟩
  obtain⟨R1,X1,f1,n1⟩:=R.newL (vs:=[]) hl
  obtain⟨R2,o2⟩:=R1.setN i f1 am n1
  refine q F _ _ ⟨X1.sf,X1.dom,X1.fr,X1.lst,X1.tmp,fun a h=>?_,fun j n=>List.getElem?_set_ne (fun z=>n (by simp [z]))⟩ R2
  rcases o2 a h with z | z
  · exact X1.ow a z
  · exact .inr (by rw [z];exact hl)
def ro(i:Nat)(fa:FE):FE:=fun e=>(fJ e i).bind fun _=>(fa e).bind fun p=>match p.1 with
  | .l ys=>(fJ p.2 i).bind fun xss=>if xss.length < 1000000 then some (.d .none,p.2.set i (some (.n (xss++[ys])))) else none
  | _=>none
theorem Cp{apos cpos:Pos}(hK:X.K=K)(hN:X.N[i]?=some x)(hv:yv X.env.scope x)(hd:(x==("__debug__":Str))=false)(hcd:(x==("__classdict__":Str))=false)(ha:PE X a (fE K fa))(hst:PySem.W.isStarred a=false)
    (hbase:attributeBase (.Name x p) "append" X.env (eval (.Name x p) X.env)=eval (.Name x p) X.env)
    (hfew:((backTo cpos (starEach [a] X.env)).all (fun x=> !x.1)&&(backToKw cpos (keywordEach [] X.env)).all (fun x=>x.1.isSome)
      &&decide ([a].length+([]:List Keyword).length+(if ([]:List Keyword).isEmpty then 0 else 1) < 30))=true)
    (hline:(apos.endLine==cpos.line)=true)(hs:starEach [a] X.env=(false,eval a X.env)::starEach [] X.env)(hplain:(backTo cpos (starEach [] X.env)).any (·.1)=false):
    PE X (.Call (.Attribute (.Name x p) "append" apos) [a] [] cpos) (fE K (ro i fa)):=by
  subst hK
  refine(xh PySem.F.plainAttrs_list PySem.F.slot_list_append PySem.F.type_list_append ff (kd hN hv hd hcd) (B8 ha md hst) hbase hfew hline hs hplain).mono fun σ H Q h=>?_
  obtain⟨F,e,z,e',R,hf,q⟩:=h
  unfold ro at hf
  obtain⟨xss0,h0,hf⟩:=Option.bind_eq_some_iff.mp hf
  obtain⟨⟨r,e1⟩,h1,hf⟩:=Option.bind_eq_some_iff.mp hf
  match r,h1,hf with
  | .l ys,h1,hf=>
  obtain⟨xss,h2,hf⟩:=Option.bind_eq_some_iff.mp hf
  split at hf
  case isFalse=>cases hf
  case isTrue hlen=>
  cases hf
  obtain⟨l,bs0,a1,_,a3,_⟩:=R.nst i xss0 (fj h0)
  refine⟨_,a1,.inl ⟨rfl,_,.inl (.inl a3)⟩,F,e,_,e1,R,h1,fun F1 H1 v X1 R1 A1=>?_⟩
  obtain⟨t,us,rfl,t1,t2,t3,t4,t5⟩:=A1
  have h2':=fj h2
  obtain⟨l',bs,c1,c2,c3,c4,c5,c6,c7⟩:=R1.nst i xss h2'
  rw [a1] at c1;cases c1
  have fi:∀z,z=l∨z∈bs→Fp σ e1 H1 i z:=fun z h=>.inr ⟨xss,l,bs,h2',a1,c3,h⟩
  have tl:t≠l:=fun z=>t5 ⟨i,fi t (.inl z)⟩
  have tb:t∉bs:=fun z=>t5 ⟨i,fi t (.inr z)⟩
  have sl:sizeLine=16777216:=sizeLine_eq
  refine⟨l,_,_,rfl,rfl,c3,by rw [List.length_map,c4];lia,?_⟩
  have em:bs.map V.ref++[V.ref t]=(bs++[t]).map V.ref:=by simp
  rw [em]
  obtain⟨R2,o2,s2⟩:=R1.putN (yss:=xss++[ys]) (bs:=bs++[t]) (H':=aV H1 l (.lst ((bs++[t]).map V.ref))) h2' a1 c2 am (by simp [c4]) (by
      rw [List.nodup_append]
      exact⟨c5,by simp,fun x hx y hy=>by simp at hy;subst hy;exact fun z=>tb (z ▸ hx)⟩) (by simp [c6,Ne.symm tl]) (fun k b zs q1 q2=>by
      rw [List.getElem?_append] at q1 q2
      rw [c4] at q1
      by_cases hk:k < xss.length
      · rw [if_pos hk] at q1 q2
        obtain⟨d1,us',d2,d3⟩:=c7 k b zs q1 q2
        have zb:b≠l:=fun z=>c6 (z ▸ List.mem_of_getElem? q1)
        exact⟨d1,us',by rw [ax zb];exact d2,d3⟩
      · rw [if_neg hk] at q1 q2
        have hk0:k - xss.length=0:=by
          have:=(List.getElem?_eq_some_iff.mp q1).1
          simp at this;lia
        rw [hk0] at q1 q2
        simp at q1 q2
        subst q1 q2
        exact⟨t2,us,by rw [ax tl];exact t3,t4⟩)
    (fun b hb=>by
      rcases List.mem_append.mp hb with hb | hb
      · exact .inl (fi b (.inr hb))
      · simp at hb;subst hb;exact .inr t5)
    (fun z q=>by
      by_cases e0:z=l
      · rw [e0,am] at q;cases q
      · rw [ax e0] at q;exact q)
    (fun z o q n1 _=>by rw [ax n1];exact q) (fun z vs q=>by
      by_cases e0:z=l
      · rw [e0];exact⟨_,am⟩
      · rw [ax e0];exact⟨vs,q⟩)
  refine q F1 _ .non ⟨X1.sf,fun z q=>X1.dom z ?_,X1.fr,fun z vs h=>?_,fun z o h n=>?_,fun j=>(s2 j).trans (X1.shp j),fun z h=>?_⟩ R2 ((eT (K:=X.K) (F:=F1)).mpr rfl)
  · by_cases e0:z=l
    · rw [e0,am] at q;cases q
    · rw [ax e0] at q;exact q
  · obtain⟨vs',h'⟩:=X1.lst z vs h
    by_cases e0:z=l
    · rw [e0];exact⟨_,am⟩
    · rw [ax e0];exact⟨vs',h'⟩
  · have e0:z≠l:=fun e0=>by
      rcases X1.ow z ⟨i,fi z (.inl e0)⟩ with w | w
      · exact n w
      · rw [h] at w;cases w
    rw [ax e0];exact X1.tmp z o h n
  · rcases o2 z h with w | w
    · exact X1.ow z w
    · rcases List.mem_append.mp w with w | w
      · exact X1.ow z ⟨i,fi z (.inr w)⟩
      · simp at w;subst w;exact .inr t1
def Qt(X:Cx)(K:PySem.W.Frag)(a:Expr)(f:En→Option Int):Prop:=∃t:TE,PE X a t∧∀σ F H e i (Q:VK),aX K F H σ e→f e=some i→Q (.int i) H→t σ H Q
def kb(i:Nat):En→Option Int:=fun e=>match e[i]? with
  | some (some (.d (.int k)))=>some k
  | _=>none
theorem o8(i:Nat)(hN:X.N[i]?=some x)(hv:yv X.env.scope x)(hd:(x==("__debug__":Str))=false)(hcd:(x==("__classdict__":Str))=false):Qt X K (.Name x pos) (kb i):=⟨_,kd hN hv hd hcd,fun σ F H e k Q R hf q=>by
  unfold kb at hf
  split at hf
  · rename_i heq
    cases hf
    obtain⟨v,h1,h2⟩:=R.dat i _ heq
    exact⟨v,h1,by rw [bM.mp h2];exact q⟩
  · cases hf⟩
def nC(k:Int):En→Option Int:=fun _=>some k
theorem Cs{k:Int}{j}:Qt X K (.Constant (.int k) j pos) (nC k):=⟨_,oX,fun σ F H e i Q R hf q=>by cases hf;exact q⟩
def wy(i:Nat):FI:=fun e=>(fJ e i).map fun xss=>(xss.map .list,[],e.set i (some (.d (.list (xss.map .list)))))
theorem zR{tg:Expr}(hK:X.K=K)(hN:X.N[i]?=some x)(hv:yv X.env.scope x)(hd:(x==("__debug__":Str))=false)(hcd:(x==("__classdict__":Str))=false):PI X tg (.Name x pos) (fI K (wy i)):=(qD (tg:=tg) hK (kd hN hv hd hcd)).mono fun σ H R hh=>by
  obtain⟨F,e,items,own,e',R0,hf,q⟩:=hh
  unfold wy at hf
  obtain⟨xss,h1,hf⟩:=Option.map_eq_some_iff.mp hf
  cases hf
  obtain⟨F',v,c1,c2,R1,X1⟩:=R0.frzN (fj h1)
  obtain⟨l,vs,rfl,d1,d2⟩:=cw.mp c2
  exact⟨_,c1,l,rfl,⟨vs,R1.sm.seq d1⟩,q _ F' H X1 R1 (fun _ h=>by cases h) (nD (.lst d1 d2))⟩
end
end L2
namespace L2
open PySem PySem.Spec PyProof.Rows
theorem j6{C:Int→Int→Bool}{f:Int→Int→PyData}{e:En}{i j:Int}(h:C i j=true):gI C f e (.d (.int i)) (.d (.int j))=some (.d (f i j)):=by simp [gI,bO,h]
theorem pW{e:En}{i j:Int}:aJ e (.d (.int i)) (.d (.int j))=some (.d (.int (i+j))):=rfl
theorem lQ{e:En}{i j:Int}:iB e (.d (.int i)) (.d (.int j))=some (.d (.int (i - j))):=rfl
theorem lS{e:En}{i j:Int}(h:ka i j=true):jc e (.d (.int i)) (.d (.int j))=some (.d (.int (i*j))):=by
  unfold jc uP p6;rw [j6 h];rfl
theorem wW{i j:Int}(h1: -(2 ^ 64) < i)(h2:i < 2 ^ 64):ka i j=true:=by
  have:hU i=true:=by unfold hU;rw [decide_eq_true h1,decide_eq_true h2];rfl
  unfold ka;rw [this];simp
theorem oQ{i j:Int}(h1: -(2 ^ 64) < j)(h2:j < 2 ^ 64):ka i j=true:=by
  have:hU j=true:=by unfold hU;rw [decide_eq_true h1,decide_eq_true h2];rfl
  unfold ka;rw [this];simp
theorem aB{e:En}{i j:Int}(h:0 < j):aM e (.d (.int i)) (.d (.int j))=some (.d (.int (i % j))):=by
  unfold aM;rw [j6 (by simp;lia)]
  rw [Int.fmod_eq_emod_of_nonneg i (by lia)]
theorem bj{e:En}{i j:Int}(h:0 < j)(h2:Bt 8000 j):bA e (.d (.int i)) (.d (.int j))=some (.d (.int (i / j))):=by
  unfold bA;rw [j6 (by simp [jl.mpr h2];lia)]
  rw [Int.fdiv_eq_ediv_of_nonneg i (by lia)]
theorem gS{e:En}{i j:Int}{neg:Bool}:bw neg e (.d (.int i)) (.d (.int j))=some (.d (.bool (if neg then !(i==j) else i==j))):=by
  unfold bw;simp [eN,SeqAt.shaped,PyData.canLay0,PyData.depth,PyData.eqv]
theorem tO{e:En}{i j:Int}:AO e (.d (.int i)) (.d (.int j))=some (.d (.bool (decide (i < j)))):=rfl
theorem tM{e:En}{i j:Int}:C_ e (.d (.int i)) (.d (.int j))=some (.d (.bool (decide (i≤j)))):=rfl
theorem tL{e:En}{i j:Int}:DN e (.d (.int i)) (.d (.int j))=some (.d (.bool (decide (j < i)))):=rfl
theorem tK{e:En}{i j:Int}:DM e (.d (.int i)) (.d (.int j))=some (.d (.bool (decide (j≤i)))):=rfl
theorem p5{e:En}{i j:Int}:g2 wg e [.d (.int i),.d (.int j)]=some (.d (.int (min i j))):=by
  show some (Rv.d (.int (if j < i then j else i)))=_
  congr 3
  split<;>lia
theorem lP{e:En}{i j:Int}:g2 p4 e [.d (.int i),.d (.int j)]=some (.d (.int (max i j))):=by
  show some (Rv.d (.int (if j > i then j else i)))=_
  congr 3
  split<;>lia
theorem p8{e:En}{i:Int}:p7 e (.d (.int i))=some (.d (.int (-i))):=rfl
theorem ny{e:En}{b:Bool}:g1 uL e [.d (.bool b)]=some (.d (.int (if b then 1 else 0))):=rfl
theorem pV{e:En}{i:Int}:g1 uJ e [.d (.int i)]=some (.d (.int i.natAbs)):=by
  show some (Rv.d (.int (if i < 0 then -i else i)))=_
  congr 3
  split<;>lia
theorem dA{j:Int}(h1:0 < j)(h2:j < 2 ^ 64):Bt 8000 j:=Bt.mono (m:=64) (by unfold Bt;lia) (by decide)
theorem ik{α:Type}{xs:List α}{i:Int}(h0:0≤i)(h:i < xs.length):atI xs i=xs[i.toNat]?:=by
  unfold atI yx
  rw [if_pos h0,if_pos h];rfl
theorem pZ{e:En}{i:Nat}{xs:List PyData}{neg:Bool}(h:e[i]?=some (some (.l xs)))(hs:SeqAt.shaped (.list xs)=true):bw neg e (.s i) (.l [])=some (.d (.bool (if neg then !xs.isEmpty else xs.isEmpty))):=by
  unfold bw
  simp only [eN,h,Option.bind_some,hs]
  have h0:SeqAt.shaped (.list [])=true:=by simp [SeqAt.shaped,PyData.canLay0,PyData.canLayAll0,PyData.depth,PyData.depthAll]
  rw [h0]
  cases xs<;>simp [PyData.eqv,PyData.eqvAll]
theorem qZ(ns:List Int):SeqAt.shaped (.list (ns.map .int))=true∧SeqAt.shaped (.tuple (ns.map .int))=true:=by
  have h1:PyData.canLayAll0 (ns.map PyData.int)=true:=by
    induction ns with
    | nil=>rfl
    | cons n r ih=>simp [PyData.canLayAll0,PyData.canLay0,ih]
  have h2:PyData.depthAll (ns.map PyData.int)=0:=by
    clear h1
    induction ns with
    | nil=>rfl
    | cons n r ih=>simp [PyData.depthAll,PyData.depth,ih]
  constructor<;>simp [SeqAt.shaped,PyData.canLay0,PyData.depth,h1,h2]
theorem er{own:h_}{g:FG}{f:FS}(P:Nat→En→Prop):∀(items:List PyData) (k:Nat) (e:En),(∀i x e,items[i]?=some x→P (k+i) e→∃e1 e2,g x e=some e1∧f e1=some (.nx e2)∧keeps own e2∧P (k+i+1) e2)→P k e→∃e',fx own g f items e=some (.nx e')∧P (k+items.length) e'
  | [],k,e,_,h=>⟨e,rfl,h⟩
  | x::r,k,e,hs,h=>by
    obtain⟨e1,e2,h1,h2,h3,h4⟩:=hs 0 x e rfl h
    obtain⟨e',h5,h6⟩:=er P r (k+1) e2 (fun i y e hy hp=>by
      have:=hs (i+1) y e (by simpa using hy) (by rw [show k+(i+1)=k+1+i by lia];exact hp)
      rw [show k+(i+1)+1=k+1+i+1 by lia] at this
      exact this) h4
    refine⟨e',?_,by rw [List.length_cons,show k+(r.length+1)=k+1+r.length by lia];exact h6⟩
    unfold fx
    simp only [h1,h2,Option.bind_some,if_pos h3]
    exact h5
theorem bP{e:En}:keeps [] e:=fun _ h=>by cases h
theorem dJ{W:List Nat}{fi:FI}{g:FG}{f:FS}{e e1:En}{items:List PyData}(h:fi e=some (items,[],e1)):eC W fi g f e=fx [] g f items e1:=by
  unfold eC;rw [h];rfl
theorem hJ{lo:Int}{n i:Nat}{x:PyData}(h:(be lo n)[i]?=some x):x=.int (lo+i)∧i < n:=by
  unfold be at h
  rw [List.getElem?_map] at h
  obtain⟨k,h1,rfl⟩:=Option.map_eq_some_iff.mp h
  obtain⟨h2,h3⟩:=List.getElem?_eq_some_iff.mp h1
  simp at h2 h3
  subst h3
  exact⟨rfl,h2⟩
theorem d9{lo:Int}{n:Nat}:(be lo n).length=n:=by simp [be]
theorem fB{fs:FA}{e e1:En}{n:Int}(h:fs e=some ([.d (.int n)],e1))(h1: -1000000≤n)(h2:n≤1000000):dc fs e=some (be 0 n.toNat,[],e1):=by
  unfold dc;rw [h]
  have:xX n=true:=by unfold xX;rw [decide_eq_true h1,decide_eq_true h2];rfl
  simp [bO,this]
theorem mK{ft:FT}{f:FS}(P:En→Prop)(μ:En→Nat)(hs:∀e,P e→(∃e1,ft e=some (false,e1)∧True)∨∃e1 e2,ft e=some (true,e1)∧f e1=some (.nx e2)∧P e2∧μ e2 < μ e):
    ∀(n:Nat) (e:En),P e→μ e < n→∃e0 e',hZ ft f n e=some (.nx e')∧P e0∧ft e0=some (false,e'):=by
  intro n
  induction n with
  | zero=>intro e _ h;lia
  | succ n ih=>
    intro e hp hm
    rcases hs e hp with ⟨e1,h1,_⟩ | ⟨e1,e2,h1,h2,h3,h4⟩
    · exact⟨e,e1,by unfold hZ;rw [h1];rfl,hp,h1⟩
    · obtain⟨e0,e',g1,g2⟩:=ih e2 h3 (by lia)
      exact⟨e0,e',by unfold hZ;rw [h1];simp only [Option.bind_some,if_true,h2];exact g1,g2⟩
theorem dm{cs:En}{ft:FT}{fe:FE}{b:PyData→Bool}{y:PyData→PyData}:∀(items:List PyData) (t:Option Sv) (acc:List PyData),(∀x∈items,ft (cs++[some (.d x)])=some (b x,cs++[some (.d x)]))→(∀x∈items,b x=true→fe (cs++[some (.d x)])=some (.d (y x),cs++[some (.d x)]))→
    acc.length+items.length≤1000000→∃t',cM (ah cs.length) ft fe items (cs++[t]) acc=some (acc++(items.filter b).map y,cs++[t'])
  | [],t,acc,_,_,_=>⟨t,by simp [cM]⟩
  | x::r,t,acc,h1,h2,hl=>by
    have hg:ah cs.length x (cs++[t])=some (cs++[some (.d x)]):=by simp [ah]
    have h1x:=h1 x (by simp)
    unfold cM
    rw [hg]
    simp only [Option.bind_some,h1x]
    cases hb:b x with
    | true=>
      simp only [if_true,h2 x (by simp) hb,Option.bind_some,rR]
      rw [if_pos (by simp at hl;lia)]
      obtain⟨t',ih⟩:=dm (b:=b) (y:=y) r (some (.d x)) (acc++[y x]) (fun z hz=>h1 z (by simp [hz])) (fun z hz=>h2 z (by simp [hz])) (by simp at hl ⊢;lia)
      exact⟨t',by rw [ih];simp [hb]⟩
    | false=>
      simp only [Bool.false_eq_true,if_false]
      obtain⟨t',ih⟩:=dm (b:=b) (y:=y) r (some (.d x)) acc (fun z hz=>h1 z (by simp [hz])) (fun z hz=>h2 z (by simp [hz])) (by simp at hl;lia)
      exact⟨t',by rw [ih];simp [hb]⟩
theorem gT{fa:FE}{e e1:En}{xs:List PyData}(h:fa e=some (.d (.tuple xs),e1)):j8 fa e=some (xs,[],e1):=by
  unfold j8;rw [h];rfl
theorem gL{cp:List (Nat × Str)}{nT:Nat}{fi:FI}{g:FG}{ft:FT}{fe:FE}{e e1 cs:En}{t t':En}{items out:List PyData}(h1:fi e=some (items,[],e1))(hc:kS cp nT e1=cs++t)(hl:cs.length=cp.length)(h3:cM g ft fe items (kS cp nT e1) []=some (out,cs++t')):cm cp nT fi g ft fe e=some (.l out,e1):=by
  have key:∀i x,e1[i]?=some (some (.l x))→∀k,jG cp i=some k→(cs++t')[k]?=some (some (.l x)):=by
    intro i x hi k hk
    obtain⟨s,hs⟩:=dY hk
    have hk2:k < cp.length:=(List.getElem?_eq_some_iff.mp hs).1
    have:(kS cp nT e1)[k]?=some (some (.l x)):=by
      unfold kS
      rw [List.getElem?_append_left (by simpa using hk2),List.getElem?_map,hs]
      simp [hi,D4]
    rw [hc,List.getElem?_append_left (by lia)] at this
    rw [List.getElem?_append_left (by lia)]
    exact this
  unfold cm
  rw [h1]
  simp only [Option.bind_some,List.all_nil,if_true,h3]
  have hb:ir cp (cs++t') e1=true:=by
    unfold ir
    rw [List.all_eq_true]
    intro p hp
    match hi:e1[p.1]? with
    | none=>simp [wA]
    | some none=>simp [wA]
    | some (some (.d x))=>simp [wA]
    | some (some (.n x))=>simp [wA]
    | some (some (.l x))=>
      cases hq:jG cp p.1 with
      | none=>
        unfold jG at hq
        rw [List.findIdx?_eq_none_iff] at hq
        have:=hq p hp
        simp at this
      | some k=>simp [key p.1 x hi k hq,wA]
  rw [if_pos hb]
  congr 2
  refine List.ext_getElem? fun i=>?_
  rw [bR]
  match hi:e1[i]? with
  | none=>rfl
  | some none=>rfl
  | some (some (.d x))=>rfl
  | some (some (.n x))=>rfl
  | some (some (.l x))=>
    cases hp:jG cp i with
    | none=>simp [hp]
    | some k=>simp [hp,key i x hi k hp]
theorem f9{α:Type}{xs:List α}{i:Int}(h0:0≤i)(h1:i < xs.length):∃x∈xs,atI xs i=some x:=by
  rw [ik h0 h1]
  exact⟨xs[i.toNat]'(by lia),List.getElem_mem _,List.getElem?_eq_getElem _⟩
theorem AM{e:En}{xs:List PyData}{i:Int}:bU e (.l xs) (.d (.int i))=(atI xs i).map .d:=rfl
theorem nz{e:En}{xs:List PyData}{i:Int}:bU e (.d (.tuple xs)) (.d (.int i))=(atI xs i).map .d:=rfl
theorem wc{e:En}{xs:List PyData}{i:Int}:bU e (.d (.list xs)) (.d (.int i))=(atI xs i).map .d:=rfl
theorem AN{e:En}{j:Nat}{xs:List PyData}{i:Int}(h:e[j]?=some (some (.l xs))):bU e (.s j) (.d (.int i))=(atI xs i).map .d:=by
  simp [bU,bT,h,bO]
theorem wf{e:En}{xs:List PyData}:g1 bZ e [.d (.tuple xs)]=some (.d (.int xs.length)):=rfl
theorem tN{e:En}{xs:List PyData}:g1 bZ e [.d (.list xs)]=some (.d (.int xs.length)):=rfl
theorem wd{e:En}{xs:List PyData}:g1 bZ e [.l xs]=some (.d (.int xs.length)):=rfl
theorem we{e:En}{j:Nat}{xs:List PyData}(h:e[j]?=some (some (.l xs))):g1 bZ e [.s j]=some (.d (.int xs.length)):=by
  simp [g1,bZ,bT,h]
theorem qd{e:En}{j:Nat}{xs:List PyData}(h:e[j]?=some (some (.l xs))):g1 cF e [.s j]=some (.d (.tuple xs)):=by
  simp [g1,cF,bT,h]
theorem qc{e:En}{xs:List PyData}:g1 cF e [.l xs]=some (.d (.tuple xs)):=rfl
theorem nB{e:En}{xs:List PyData}:g1 cF e [.d (.list xs)]=some (.d (.tuple xs)):=rfl
theorem qe{e:En}{xs:List PyData}:g1 cF e [.d (.tuple xs)]=some (.d (.tuple xs)):=rfl
theorem AQ{e:En}{xs:List PyData}{lo hi:Option Int}:FH e (.d (.tuple xs)) lo hi=some (.d (.tuple (cutD xs lo hi))):=rfl
theorem dg{e:En}{xs ys:List PyData}(h:xs.length+ys.length≤1000000):aJ e (.d (.tuple xs)) (.d (.tuple ys))=some (.d (.tuple (xs++ys))):=by
  simp [aJ,uP,tI,gI,bO,nv,bT,h]
theorem Bw{e:En}{i j:Int}(h:j≠0):aM e (.d (.int i)) (.d (.int j))=some (.d (.int (i.fmod j))):=by
  unfold aM;rw [j6 (by simpa using h)]
theorem yT{e:En}{i j:Int}(h:j≠0)(h2:Bt 8000 j):bA e (.d (.int i)) (.d (.int j))=some (.d (.int (i.fdiv j))):=by
  unfold bA;rw [j6 (by simp [jl.mpr h2,h])]
theorem iC{e:En}{i j:Int}(h:xB i j=true):oG e (.d (.int i)) (.d (.int j))=some (.d (.int (i ^ j.toNat))):=by
  unfold oG;rw [j6 h]
theorem jH:xB 10 18=true:=by decide
theorem iT{f g:FS}{e e1:En}(h:f e=some (.nx e1)):aA f g e=g e1:=by unfold aA;rw [h];rfl
theorem EJ{ft:FT}{f g:FS}{e e1:En}(h:ft e=some (true,e1)):iY ft f g e=f e1:=by unfold iY;rw [h];rfl
theorem EI{ft:FT}{f g:FS}{e e1:En}(h:ft e=some (false,e1)):iY ft f g e=g e1:=by unfold iY;rw [h];rfl
def AU(i:Nat)(e:En):Nat:=match e[i]? with
  | some (some (.l xs))=>xs.length
  | _=>0
def wX(i:Nat)(e:En):Nat:=match e[i]? with
  | some (some (.d (.int k)))=>k.natAbs
  | _=>0
theorem tU{n m:Nat}(h:n < 2 ^ m)(hm:m≤4200):n < 2 ^ 4200:=Nat.lt_of_lt_of_le h (Nat.pow_le_pow_right (by decide) hm)
theorem ij{α:Type}{a:α}{r:List α}:atI (a::r) 0=some a:=by
  rw [ik (by decide) (by simp)];rfl
theorem rF{α:Type}{a b:α}{r:List α}:atI (a::b::r) 1=some b:=by
  rw [ik (by decide) (by simp;lia)];rfl
theorem rG{α:Type}{a b c:α}{r:List α}:atI (a::b::c::r) 2=some c:=by
  rw [ik (by decide) (by simp;lia)];rfl
theorem rH{α:Type}{a b c d:α}{r:List α}:atI (a::b::c::d::r) 3=some d:=by
  rw [ik (by decide) (by simp;lia)];rfl
theorem io{W:bD}{k:Int}(h:pD W k):atI (W.ties.map aG) k=some (aG (W.tie k)):=by
  rw [ik h.1 (by rw [List.length_map];exact h.2),List.getElem?_map,h.get];rfl
theorem pH{ns:List Int}{k:Int}(h0:0≤k)(h1:k < (ns.length:Int)):atI (ns.map PyData.int) k=some (.int (ns.getD k.toNat 0)):=by
  rw [ik h0 (by rw [List.length_map];exact h1),List.getElem?_map]
  have:k.toNat < ns.length:=by lia
  simp [this]
theorem Az{a b c d:PyData}:cutD [a,b,c,d] none (some 2)=[a,b]:=rfl
theorem m_{a b c d:PyData}:cutD [a,b,c,d] (some 2) none=[c,d]:=rfl
theorem m9{a b c:PyData}:cutD [a,b,c] (some 1) none=[b,c]:=rfl
theorem pI(ns:List Int):PyData.canLayAll0 (ns.map PyData.int)=true:=by
  induction ns with
  | nil=>rfl
  | cons n r ih=>simp [PyData.canLayAll0,PyData.canLay0,ih]
theorem pF{x:Int}:∀(ns:List Int),((ns.map PyData.int).any fun y=>PyData.eqv y (.int x))=ns.contains x
  | []=>rfl
  | n::r=>by
    rw [List.map_cons,List.any_cons,pF r,List.contains_cons]
    show(n==x || _)=_
    rw [show(n==x)=(x==n) by rw [Bool.eq_iff_iff];simp;exact eq_comm]
theorem jt{e:En}{x:Int}{ns:List Int}{neg:Bool}:uK neg e (.d (.int x)) (.d (.tuple (ns.map .int)))=some (.d (.bool (if neg then !ns.contains x else ns.contains x))):=by
  unfold uK
  simp only [eN,bT,Option.bind_some,pI,pF]
  simp [PyData.canLay0,PyData.depth]
theorem oE{e:En}{x a b:Int}{neg:Bool}:uK neg e (.d (.int x)) (.d (.tuple [.int a,.int b]))=some (.d (.bool (if neg then !(a==x || b==x) else(a==x || b==x)))):=by
  have h:=jt (e:=e) (x:=x) (ns:=[a,b]) (neg:=neg)
  simp only [List.map_cons,List.map_nil] at h
  rw [h]
  have:[a,b].contains x=(a==x || b==x):=by
    simp only [List.contains_cons,List.contains_nil,Bool.or_false]
    rw [show(x==a)=(a==x) by rw [Bool.eq_iff_iff];simp;exact eq_comm,show(x==b)=(b==x) by rw [Bool.eq_iff_iff];simp;exact eq_comm]
  rw [this]
theorem iw(W:bD):aD W=.tuple [.int W.things,.tuple (W.ties.map aG),.tuple (W.pat.map .int),.int W.asks]:=rfl
end L2
namespace L2
open PySem PySem.Spec PyProof.Rows
def Sh(n:Nat)(d:PyData):Prop:=d.canLay0=true∧d.depth≤n
theorem Sh.mono{n m:Nat}{d:PyData}(h:Sh n d)(l:n≤m):Sh m d:=⟨h.1,Nat.le_trans h.2 l⟩
theorem Sh.ok{n:Nat}{d:PyData}(h:Sh n d)(l:n≤64):SeqAt.shaped d=true:=by
  unfold SeqAt.shaped;rw [h.1,decide_eq_true (Nat.le_trans h.2 l)];rfl
theorem Sh.int{k:Int}:Sh 2 (.int k):=⟨by simp [PyData.canLay0],by simp [PyData.depth]⟩
theorem Sh.all{n:Nat}:∀{ds:List PyData},(∀d∈ds,Sh n d)→PyData.canLayAll0 ds=true∧PyData.depthAll ds≤n
  | [],_=>⟨rfl,by simp [PyData.depthAll]⟩
  | d::r,h=>by
    obtain⟨a1,a2⟩:=h d (by simp)
    obtain⟨b1,b2⟩:=Sh.all (ds:=r) fun x hx=>h x (by simp [hx])
    exact⟨by simp [PyData.canLayAll0,a1,b1],by simp only [PyData.depthAll];lia⟩
theorem Sh.tup{n:Nat}{ds:List PyData}(h:∀d∈ds,Sh n d):Sh (n+2) (.tuple ds):=by
  obtain⟨b1,b2⟩:=Sh.all h
  exact⟨by simp [PyData.canLay0,b1],by simp only [PyData.depth];lia⟩
theorem Sh.list{n:Nat}{ds:List PyData}(h:∀d∈ds,Sh n d):Sh (n+2) (.list ds):=by
  obtain⟨b1,b2⟩:=Sh.all h
  exact⟨by simp [PyData.canLay0,b1],by simp only [PyData.depth];lia⟩
theorem Sh.ints{ns:List Int}:Sh 4 (.tuple (ns.map .int)):=Sh.tup (n:=2) fun d hd=>by
  obtain⟨k,_,rfl⟩:=List.mem_map.mp hd
  exact Sh.int
theorem Sh.tie{t:eM}:Sh 6 (aG t):=Sh.tup (n:=4) fun d hd=>by
  simp only [List.mem_cons,List.not_mem_nil,or_false] at hd
  rcases hd with rfl | rfl | rfl | rfl
  · exact Sh.int.mono (by decide)
  · exact Sh.int.mono (by decide)
  · exact Sh.ints (ns:=[t.top,t.bot])
  · exact Sh.int.mono (by decide)
theorem Sh.web{W:bD}:Sh 10 (aD W):=Sh.tup (n:=8) fun d hd=>by
  simp only [List.mem_cons,List.not_mem_nil,or_false] at hd
  rcases hd with rfl | rfl | rfl | rfl
  · exact Sh.int.mono (by decide)
  · exact Sh.tup (n:=6) fun d hd=>by
      obtain⟨k,_,rfl⟩:=List.mem_map.mp hd
      exact Sh.tie
  · exact Sh.ints.mono (by decide)
  · exact Sh.int.mono (by decide)
mutual
theorem pP:∀{d:PyData},d.canLay0=true→bv d=true→PyData.eqv d d=true
  | .none,_,_=>by simp [PyData.eqv]
  | .bool b,_,_=>by simp [PyData.eqv]
  | .int i,_,_=>by simp [PyData.eqv]
  | .str x,_,_=>by simp [PyData.eqv]
  | .tuple ds,h,f=>by
    simp only [PyData.eqv]
    exact kL (by simpa [PyData.canLay0] using h) (by simpa [bv] using f)
  | .list ds,h,f=>by simp [bv] at f
  | .dict _,h,f=>by simp [bv] at f
theorem kL:∀{ds:List PyData},PyData.canLayAll0 ds=true→aR ds=true→PyData.eqvAll ds ds=true
  | [],_,_=>by simp [PyData.eqvAll]
  | d::r,h,f=>by
    simp only [PyData.canLayAll0,Bool.and_eq_true] at h
    simp only [aR,Bool.and_eq_true] at f
    simp only [PyData.eqvAll,pP h.1 f.1,kL h.2 f.2,Bool.and_self]
end
theorem jF:∀(n:Nat) (l:List Int),l.Nodup→(∀k∈l,0≤k∧k < (n:Int))→l.length≤n
  | 0,l,_,h=>by
    cases l with
    | nil=>simp
    | cons a r=>have:=h a (by simp);lia
  | n+1,l,hd,h=>by
    have ih:=jF n (l.erase (n:Int)) (hd.erase _) fun k hk=>by
      obtain⟨h1,h2⟩:=hd.mem_erase_iff.mp hk
      have:=h k h2
      lia
    by_cases c:(n:Int)∈l
    · rw [List.length_erase_of_mem c] at ih;lia
    · rw [List.erase_of_not_mem c] at ih;lia
abbrev Std:=List Int × List Int
structure Dn (W:bD) (s:Std):Prop where
  inw:∀k∈s.1,pD W k
  nd:s.1.Nodup
  tk:s.2.length≤2*s.1.length
  th:∀t∈s.2,0≤t∧t < W.things
def nxt(W:bD)(s:Std)(k:Int)(b:Bool):Std:=(bD.askd s.1 k,W.took s.2 k b)
structure Nd where
  tie:Int
  yes:Int
  no:Int
def Di(W:bD)(n:Nat)(S:Nat→Std)(i:Nat)(k:Int)(b:Bool)(l:Int):Prop:=l= -1∨(0≤l∧l < (n:Int)∧S l.toNat=nxt W (S i) k b)
structure Fv (W:bD) (n:Nat) (S:Nat→Std) (i:Nat) (x:Nd):Prop where
  tie:pD W x.tie
  st:Dn W (S i)
  may:W.may (S i).1 (S i).2 x.tie=true
  yes:Di W n S i x.tie true x.yes
  no:Di W n S i x.tie false x.no
def Fw(W:bD)(T:List Nd)(S:Nat→Std):Prop:=∀(i:Nat) (x:Nd),T[i]?=some x→Fv W T.length S i x
structure Wt where
  st:Std
  par:Int
  side:Int
structure GJ (W:bD) (T:List Nd) (S:Nat→Std) (ws:List Wt):Prop where
  tr:Fw W T S
  wt:∀w∈ws,Dn W w.st∧(w.par= -1∨∃(p:Nat) (x:Nd),w.par=(p:Int)∧T[p]?=some x∧((w.side=0∧w.st=L2.nxt W (S p) x.tie true)∨(w.side=1∧w.st=L2.nxt W (S p) x.tie false)))
  side:∀w∈ws,w.side=0∨w.side=1
end L2
namespace L2
open PySem PySem.Spec PyProof.Rows
theorem nj{α:Type}(x:α):∀n,(List.replicate n [x]).flatten=List.replicate n x
  | 0=>rfl
  | n+1=>by rw [List.replicate_succ,List.flatten_cons,nj x n];rfl
theorem DP{e:En}{x:PyData}{n:Int}(h0:0≤n)(h1:n≤100000):jc e (.l [x]) (.d (.int n))=some (.l (List.replicate n.toNat x)):=by
  have a:p9 e (.l [x]) (.d (.int n))=some (.l (List.replicate n.toNat [x]).flatten):=by
    simp [p9,qj,bO]
    lia
  have b:p6 e (.l [x]) (.d (.int n))=none:=by simp [p6,gI,bO]
  have c:p_ e (.l [x]) (.d (.int n))=none:=by simp [p_,bT,bO]
  unfold jc uP
  rw [b,c,a,nj]
  rfl
def nm(nums:List Int)(l:Int):Int:=(atI nums l).getD (-1)
structure Gq (order:List Int) (n:Nat) (nums:List Int):Prop where
  len:nums.length=n+1
  top:nums[n]?=some (-1)
  at':∀(j:Nat) (v:Int),j < n→nums[j]?=some v→v= -1∨∃p:Nat,v=(p:Int)∧order[p]?=some (j:Int)
def wY(T:List Nd)(w:Int):Nd:=T.getD w.toNat ⟨0,0,0⟩
end L2
namespace L2
open PySem PySem.Spec PyProof.Rows
structure GR (S:Nat→Std) (n:Nat) (ss:List Std):Prop where
  len:ss.length=n
  at':∀(j:Nat) (s:Std),ss[j]?=some s→s.1.length≤(S j).1.length∧s.2.length≤2*s.1.length∧(∀k∈s.1,0≤k∧k < 16)∧∀t∈s.2,0≤t∧t < 12
end L2
namespace L2
open PySem PySem.Spec PyProof.Rows
theorem bQ(s:String):PyData.strOk (Str.ofString s)=true:=by
  rw [Str.ofString_eq_toList]
  unfold PyData.strOk
  simp only [List.size_toArray,List.length_map]
  rw [show(List.map Char.toNat s.toList).toArray.all (fun a=>decide (a < 1114112)) 0 s.toList.length=(List.map Char.toNat s.toList).all (fun a=>decide (a < 1114112)) by simp]
  rw [List.all_map,List.all_eq_true]
  intro c _
  show decide (c.toNat < 1114112)=true
  rw [decide_eq_true_eq]
  have:=c.valid
  unfold UInt32.isValidChar Nat.isValidChar at this
  show c.val.toNat < _
  lia
theorem ed{a b:Str}(h1:PyData.strOk a=true)(h2:PyData.strOk b=true):PyData.strOk (a++b)=true:=by
  unfold PyData.strOk at*
  rw [show(a++b).cps=a.cps++b.cps from rfl]
  simp only [Array.all_append,h1,h2,Bool.and_self]
theorem mE{sep:Str}(h:PyData.strOk sep=true):∀(ts:List Str),(∀t∈ts,PyData.strOk t=true)→PyData.strOk (Str.join sep ts)=true
  | [],_=>by show PyData.strOk Str.empty=true;simp [PyData.strOk,Str.empty]
  | [x],hx=>hx x (by simp)
  | x::y::r,hx=>ed (ed (hx x (by simp)) h) (mE h (y::r) fun t ht=>hx t (by simp at ht ⊢;exact .inr ht))
theorem nV{ts:List Str}(h:∀t∈ts,PyData.strOk t=true):PyData.strOk (tupleText ts)=true:=by
  unfold tupleText
  exact ed (ed (bQ _) (mE (bQ _) ts h)) (bQ _)
structure Sz (n dep:Nat) (d:PyData):Prop where
  fl:bv d=true
  sh:d.showable=true
  dp:d.depth≤dep
  ln:d.shown.length≤n
  so:PyData.strOk d.shown=true
theorem yU{e:En}{d:PyData}(h:jV d=true):g1 jv e [.d d]=some (.d (.str d.shown)):=by
  simp [g1,jv,h]
theorem wa{e:En}{d:PyData}{n:Nat}(h:Sh n d)(hn:n≤64)(hf:bv d=true):bw true e (.d d) (.d d)=some (.d (.bool false)):=by
  unfold bw
  simp only [eN,Option.bind_some,h.ok hn,Bool.and_self,if_true,pP h.1 hf]
  rfl
theorem ja{ns:List Int}:aR (ns.map PyData.int)=true:=by
  induction ns with
  | nil=>rfl
  | cons a r ih=>simp [aR,bv,ih]
theorem pS{W:bD}:bv (aD W)=true:=by
  have:aR (W.ties.map aG)=true:=by
    induction W.ties with
    | nil=>rfl
    | cons a r ih=>simp [aR,bv,aG,ih]
  simp [aD,bv,aR,this,ja]
end L2
namespace L2
open PySem PySem.Spec PyProof.Rows
theorem oD{e:En}{i:Nat}{xs ys:List PyData}(h:e[i]?=some (some (.l xs)))(hl:xs.length+ys.length≤1000000):aJ e (.s i) (.l ys)=some (.l (xs++ys)):=by
  simp [aJ,uP,tI,gI,bO,nv,bT,pY,qj,h,hl]
theorem tJ{e:En}{xs ys:List PyData}(hl:xs.length+ys.length≤1000000):aJ e (.l xs) (.l ys)=some (.l (xs++ys)):=by
  simp [aJ,uP,tI,gI,bO,nv,bT,pY,qj,hl]
def rn(T:List Nd)(ans:List Bool):Nat→Int→List (Int × Bool)
  | 0,_=>[]
  | f+1,at'=>if at' < 0 then [] else((wY T at').tie,ans.getD (wY T at').tie.toNat false)::rn T ans f (if ans.getD (wY T at').tie.toNat false=true then(wY T at').yes else(wY T at').no)
def rt(T:List Nd):Int:=if T.length=0 then -1 else 0
structure Gu (W:bD) (T:List Nd) (S:Nat→Std) (ans:List Bool) (r:List (Int × Bool)) (a:Int):Prop where
  at':a= -1∨(0≤a∧a < (T.length:Int)∧r.length≤(S a.toNat).1.length)
  eq:r++rn T ans (17 - r.length) a=rn T ans 17 (rt T)
  len:r.length≤16
  inw:∀p∈r,pD W p.1
theorem Sz.bool{b:Bool}:Sz 5 2 (.bool b):=by
  cases b
  · exact⟨rfl,rfl,by simp [PyData.depth],by show(Str.ofString "False").length≤5;decide,bQ _⟩
  · exact⟨rfl,rfl,by simp [PyData.depth],by show(Str.ofString "True").length≤5;decide,bQ _⟩
end L2
namespace L2
open PySem PySem.Spec PyProof.Rows
abbrev Fr:=Int × Int
def tm(a b:Fr):Fr:=eI (a.1*b.1) (a.2*b.2)
def pl(a b:Fr):Fr:=eI (a.1*b.2+b.1*a.2) (a.2*b.2)
structure GO (M:Int) (f:Fr):Prop where
  pos:0 < f.2
  lo:0≤f.1
  hi:f.1≤f.2
  dv:f.2 ∣ M
structure Fd (M i:Int) (f:Fr):Prop where
  pos:0 < f.2
  lo:0≤f.1
  hi:f.1≤i*f.2
  dv:f.2 ∣ M
def bp(W:bD):List Int→Int
  | []=>1
  | k::r=>(W.tie k).bot*bp W r
def Du(W:bD):Int:=bp W W.rng
def ch(W:bD)(k:Int)(b:Bool):Fr:=if b then((W.tie k).top,(W.tie k).bot) else((W.tie k).bot - (W.tie k).top,(W.tie k).bot)
structure GQ (W:bD) (S:Nat→Std) (n:Nat) (rs:List Fr):Prop where
  len:rs.length=n
  at':∀(j:Nat) (f:Fr),rs[j]?=some f→GO (bp W (S j).1) f
structure GK (W:bD) (i:Nat) (ss:List Fr):Prop where
  len:ss.length=W.ties.length
  at':∀(j:Nat) (f:Fr),ss[j]?=some f→Fd (Du W) (i:Int) f
end L2
namespace L2
open PySem PySem.Spec PyProof.Rows
def C4(sc:Scope)(x:Str):Bool:=match sc.names.lookup x with
  | some .local=>true
  | some .cell=>true
  | some .free=>true
  | _=>false
theorem Am{sc:Scope}{x:Str}(h:C4 sc x=true):yv sc x:=by
  unfold C4 at h
  unfold yv
  split at h
  · rename_i e;exact .inl e
  · rename_i e;exact .inr (.inl e)
  · rename_i e;exact .inr (.inr e)
  · cases h
section
variable{X:Cx}{K:PySem.W.Frag}
theorem qw(i:Nat){x:Str}{pos:Pos}(hN:X.N[i]?=some x)(hv:C4 X.env.scope x=true)(hd:((x==("__debug__":Str)) || (x==("__classdict__":Str)))=false):PE X (.Name x pos) (fE K (ac i)):=qv i hN (Am hv) (Bool.or_eq_false_iff.mp hd).1 (Bool.or_eq_false_iff.mp hd).2
end
end L2
namespace L2
open PySem PySem.Spec PyProof.Rows
section
variable{X:Cx}{tg a b c:Expr}{ta:TA}{p pos p2 pos2:Pos}
end
section
variable{K:PySem.W.Frag}{σ:L2.St}
end
section
variable{X:Cx}{K:PySem.W.Frag}{tg a b c:Expr}{fs:FA}{pos p p2 pos2:Pos}
end
end L2
namespace L2
open PySem PySem.Spec PyProof.Rows
end L2
namespace L2
open PySem PySem.Spec PyProof.Rows
section
variable(P:Program)(w:World)
end
section
variable{P:Program}{w:World}{H H':Hp}{h h':Heap}{a:Addr}{o:HO}
end
section
variable{P:Program}{w:World}{H:Hp}{h h':Heap}{x e:Addr}{o':HO}
end
section
variable{fs fs' ex ex':List Addr}{H H1 H2:Hp}{h h1 h2 h':Heap}{a x e:Addr}{o:HO}
end
end L2
namespace L2
open PySem PySem.Spec PyProof.Rows
section
variable{X:Cx}{pins:List (Addr × Obj)}{σ:List (Option V)}{H H':Hp}{s:Shared}{h':Heap}
end
end L2
namespace L2
open PySem PySem.Spec PyProof.Rows
section
variable{X:Cx}
variable{a b:Expr}{ta tb:TE}{pos:Pos}
variable{tA tB':TT}{fP:List Expr}
end
end L2
namespace L2
open PySem PySem.Spec PyProof.Rows
section
variable{X:Cx}{pins:List (Addr × Obj)}{σ:St}{H:Hp}{s:Shared}{a:Addr}{xs ys:List V}
end
section
variable{X:Cx}{pins:List (Addr × Obj)}{σ:St}{H:Hp}{s:Shared}{E:Value→Shared→Prop}
end
section
variable{X:Cx}{st:Stmt}{fP:List Stmt}{t u:TS}{e:Expr}{te:TE}{pos:Pos}
end
section
variable{X:Cx}{pos:Pos}
end
section
variable{X:Cx}{pos:Pos}
end
end L2
namespace L2
open PySem PySem.Spec PyProof.Rows
section
variable{X:Cx}{tg:Expr}
end
end L2
namespace L2
open PySem PySem.Spec PyProof.Rows
section
variable{X:Cx}{a b c:Expr}{ta tb tc:TE}{pos:Pos}
end
section
variable{X:Cx}{a b c:Expr}{ta tb tc:TE}{pos:Pos}
end
end L2
namespace L2
open PySem PySem.Spec PyProof.Rows
section
variable{prog:Program}{w:World}{A:Around}{E:Value→Shared→Prop}{s:Shared}{K:PySem.W.Frag}{x dx C f:Addr}{mA:Str→Option Value}{name:Str}{v:Value}
end
section
variable{P:Program}{w:World}{H H':Hp}{h h':Heap}{a C dx:Addr}{fs fs':List (Str × V)}
end
section
variable{X:Cx}{pins:List (Addr × Obj)}{σ:St}{H:Hp}{s:Shared}{a C dx:Addr}{fs:List (Str × V)}{f:Str}{v:V}{A:Around}{E:Value→Shared→Prop}
end
section
variable{X:Cx}{o e value:Expr}{f:Str}{pos pos' tpos:Pos}{ta tv:TE}
end
section
variable{X:Cx}{pins:List (Addr × Obj)}{σ:St}{H:Hp}{s:Shared}{A:Around}{E:Value→Shared→Prop}{Q:Value→Shared→Prop}{c:Value}{b:Bool}
end
end L2
namespace L2
open PySem PySem.Spec PyProof.Rows
section
variable{X:Cx}{e:Expr}{es:List Expr}{te:TE}{t:TA}{pos:Pos}
end
section
variable{X:Cx}{pins:List (Addr × Obj)}{σ:St}{H:Hp}{s s':Shared}
end
section
variable{X:Cx}{CX:uy}{k:Nat}{f C:Addr}{fd:FuncData}{ps:List Str}{sp:Sp}{dvs:List V}{ds:List Value}{E:XK}{x m:Str}{p pos apos:Pos}{e o:Expr}{es:List Expr}{ta:TE}{t:TA}
end
section
variable{X:Cx}{CX:uy}{k:Nat}{f C:Addr}{fd:FuncData}{ps ks:List Str}{sp:Sp}{E:XK}{x m:Str}{p pos apos kpos:Pos}{e o:Expr}{es:List Expr}{kws:List Keyword}{te ta:TE}{t tk:TA}{nm:Option Str}
variable{g:List Value→List Value→List Value}{gV:List V→List V→List V}
end
end L2
namespace L2
open PySem PySem.Spec PyProof.Rows
section
variable{X:Cx}{x:Str}{p pos:Pos}{e:Expr}{es:List Expr}{t:TA}{id T:String}{r:List V→Hp→VK→Prop}
end
end L2
namespace L2
open PySem PySem.Spec PyProof.Rows
section
variable{κ:Type}[DecidableEq κ]
def qG(kvs:List (κ × V))(k:κ)(v:V):List (κ × V):=
  if (kvs.any fun kv=>decide (kv.1=k))=true then kvs.map (fun kv=>if kv.1=k then(kv.1,v) else kv) else kvs++[(k,v)]
theorem qg(kvs:List (κ × V))(k:κ)(v:V):(qG kvs k v).length≤kvs.length+1:=by
  unfold qG
  split
  · rw [List.length_map];lia
  · rw [List.length_append,List.length_cons,List.length_nil];lia
theorem KV.any{kvs:List (κ × V)}{vs:List (κ × Value)}(r:KV kvs vs)(k:κ):(kvs.any fun kv=>decide (kv.1=k))=vs.any fun kv=>decide (kv.1=k):=by
  unfold KV at r
  induction r with
  | nil=>rfl
  | cons h t ih=>rw [List.any_cons,List.any_cons,ih,h.1]
theorem KV.repl{kvs:List (κ × V)}{vs:List (κ × Value)}(r:KV kvs vs)(k:κ){y:V}{u:Value}(ry:bC y u):
    KV (kvs.map fun kv=>if kv.1=k then(kv.1,y) else kv) (vs.map fun kv=>if kv.1=k then(kv.1,u) else kv):=by
  unfold KV at r ⊢
  induction r with
  | nil=>exact .nil
  | @cons p q ps qs h t ih=>
    rw [List.map_cons,List.map_cons]
    refine .cons ?_ ih
    obtain⟨h1,h2⟩:=h
    by_cases e:p.1=k
    · rw [if_pos e,if_pos (h1.symm.trans e)];exact⟨h1,ry⟩
    · rw [if_neg e,if_neg (fun z=>e (h1.trans z))];exact⟨h1,h2⟩
theorem KV.put{kvs:List (κ × V)}{vs:List (κ × Value)}(r:KV kvs vs)(k:κ){y:V}{u:Value}(ry:bC y u):KV (qG kvs k y) (stored vs k u):=by
  unfold qG stored
  rw [r.any k]
  by_cases e:(vs.any fun kv=>decide (kv.1=k))=true
  · rw [if_pos e,if_pos e];exact r.repl k ry
  · rw [if_neg e,if_neg e];exact Paired.snoc r ⟨rfl,ry⟩
end
theorem D2{P:Program}{w:World}{k:fQ}{u:Value}(r:bC (kV k) u):(dH P w).is k u=true:=by
  cases k with
  | inl i=>obtain⟨t,e⟩:=(show ∃t,u=Value.int i t from r);subst e;exact qq P w i t
  | inr x=>obtain⟨t,e⟩:=(show ∃t,u=Value.str x t from r);subst e;exact qr P w x t
section
variable{P:Program}{w:World}{H:Hp}{h:Heap}{a:Addr}
theorem EH{u:HO}(ok:ku P w H h)(e:Rd H a u):cP P w H h a u:=e.ok ok
theorem DE{kvs:List (fQ × V)}(ok:ku P w H h)(e:Rd H a (.dK kvs)):kvs.length≤sizeLine∧(a==sysModules)=false∧∃vs,KV kvs vs∧h.DictOf (dH P w) a vs:=
  show cP P w H h a (.dK kvs) from EH ok e
theorem DD{kvs:List (fQ × V)}(ok:ku P w H h)(e:H a=some (.dK kvs)):kvs.length≤sizeLine∧(a==sysModules)=false∧∃vs,KV kvs vs∧h.DictOf (dH P w) a vs:=DE ok (.inl e)
end
section
variable{X:Cx}{pins:List (Addr × Obj)}{σ:St}{H:Hp}{s:Shared}{a:Addr}{y v:V}{u r:Value}{o:Option V}{A:Around}{E:Value→Shared→Prop}
theorem az.big(I:az X pins σ H s):sysModules < s.heap.objs.size:=by
  have h:mainGlobals < s.heap.objs.size:=(I.mod.glob.keeps I.bk).lt
  exact Nat.lt_trans (by decide) h
theorem yK{h':Heap}{t':Nat}{ob:HO}(I:az X pins σ H s)(mu:Dj (H a))(hs:Heap.SameBut a s.heap h')(he:∃q,h'.get? a=some q)(new:cP X.prog X.w (aV H a ob) h' a ob):
    az X pins σ (aV H a ob) {s with heap:=h',toks:=t'}:=
  I.write (x:=a) (e:=a) mu (.inl rfl) (fun b q hb z=>(hs.2 b hb).trans z) he new
theorem Bs{P:Program}{w:World}{H':Hp}{h':Heap}{kvs:List (fQ × V)}{vs:List (fQ × Value)}(z:kvs.length≤sizeLine)(hd:(a==sysModules)=false)(rel:KV kvs vs)(dd:h'.DictOf (dH P w) a vs):
    cP P w H' h' a (.dK kvs):=⟨z,hd,vs,rel,dd⟩
end
section
variable{X:Cx}{pins:List (Addr × Obj)}{σ:St}{H:Hp}{s:Shared}{a:Addr}{kvs:List (fQ × V)}{k:fQ}{u:Value}{A:Around}{E:Value→Shared→Prop}
end
section
variable{X:Cx}{o i e value:Expr}{pos pos' tpos:Pos}{td ty tv:TE}
end
theorem pO{P:Program}{w:World}{H:Hp}(h:Heap)(hb:sysModules < h.objs.size):cP P w H (h.push {cls:=.type "dict",data:=.dict #[]}) h.objs.size (.dK []):=
  ⟨Nat.zero_le _,beq_eq_false_iff_ne.mpr (Ne.symm (Nat.ne_of_lt hb)),[],.nil,Heap.DictOf.new h⟩
def CO:TE:=fun _ H Q=>∀p,H p=none→Q (.ref p) (aV H p (.dK []))
section
variable{X:Cx}{pos:Pos}
theorem xj:PE X (.Dict [] [] pos) CO:=fun pins s σ H Q I h=>
  wpAny_Dict_empty ⟨.ref s.heap.objs.size,_,I.laid (a:=s.heap.objs.size) (o:=.dK []) (t':=s.toks) (fun _ _ q=>Heap.get?_push_of_some _ q) (Nat.le_refl _) (pO s.heap I.big),rfl,h _ (I.hok.fresh (Nat.le_refl _))⟩
end
def pv:List (TE × TE)→St→Hp→(List (V × V)→Hp→Prop)→Prop
  | [],_,H,Q=>Q [] H
  | (tk,tv)::r,σ,H,Q=>tk σ H fun x H1=>tv σ H1 fun y H2=>pv r σ H2 fun ps H3=>Q ((x,y)::ps) H3
abbrev VV:List (V × V)→List (Value × Value)→Prop:=Paired fun p q=>bC p.1 q.1∧bC p.2 q.2
def E_(X:Cx)(pos:Pos)(keys:List (Option Expr))(values:List Expr)(trs:List (TE × TE)):Prop:=
  ∀(pins:List (Addr × Obj)) (s:Shared) (σ:St) (H:Hp) (Q:List (V × V)→Hp→Prop),az X pins σ H s→pv trs σ H Q→
    wpAny (model X.prog X.w) X.A (evalPairs (pairTrees keys values X.env pos)) (fun vs s'=>∃ps H',az X pins σ H' s'∧VV ps vs∧Q ps H') X.xe s
theorem tY{X:Cx}{pos:Pos}:E_ X pos [] [] []:=fun pins s σ H Q I h=>pairTrees_nil_walk ⟨[],H,I,.nil,h⟩
theorem qE{X:Cx}{pos:Pos}{k v:Expr}{ks:List (Option Expr)}{vs:List Expr}{tk tv:TE}{trs:List (TE × TE)}(hk:PE X k tk)(hv:PE X v tv)(hr:E_ X pos ks vs trs):
    E_ X pos (some k::ks) (v::vs) ((tk,tv)::trs):=fun pins s σ H Q I h=>
  pairTrees_cons_walk (bF (hk pins s σ H _ I h) fun u s1 ⟨x,H1,I1,rx,q1⟩=>bF (hv pins s1 σ H1 _ I1 q1) fun w2 s2 ⟨y,H2,I2,ry,q2⟩=>
    bF (hr pins s2 σ H2 _ I2 q2) fun ws s3 ⟨ps,H3,I3,rel,q3⟩=>⟨(x,y)::ps,H3,I3,.cons ⟨rx,ry⟩ rel,q3⟩)
def fH(kvs more:List (fQ × V)):List (fQ × V):=more.foldl (fun acc kv=>qG acc kv.1 kv.2) kvs
theorem KV.merge:∀{more:List (fQ × V)} {rs:List (fQ × Value)} {kvs:List (fQ × V)} {vs:List (fQ × Value)},KV more rs→KV kvs vs→KV (fH kvs more) (merged vs rs):=by
  intro more rs kvs vs r
  unfold KV at r
  induction r generalizing kvs vs with
  | nil=>intro q;exact q
  | @cons p q ps qs h t ih=>
    intro r0
    have e:KV (qG kvs p.1 p.2) (stored vs q.1 q.2):=by
      have:=r0.put p.1 h.2
      rw [←h.1];exact this
    exact ih e
theorem i7:∀(more kvs:List (fQ × V)),(fH kvs more).length≤kvs.length+more.length
  | [],kvs=>by show kvs.length≤kvs.length+0;lia
  | p::r,kvs=>by
    have h1:=i7 r (qG kvs p.1 p.2)
    have h2:=qg kvs p.1 p.2
    show(fH (qG kvs p.1 p.2) r).length≤_
    rw [List.length_cons];lia
theorem lI{P:Program}{w:World}:∀{kvs:List (fQ × V)} {ws:List (Value × Value)},VV (kvs.map fun kv=>(kV kv.1,kv.2)) ws→∃rs,Carries (dH P w) ws rs∧KV kvs rs
  | [],_,r=>by rw [List.map_nil] at r;cases r;exact⟨[],True.intro,.nil⟩
  | p::kvs,_,r=>by
    rw [List.map_cons] at r
    cases r with
    | @cons a b as bs h t=>
      obtain⟨rs,c,q⟩:=lI (P:=P) (w:=w) t
      obtain⟨b1,b2⟩:=b
      exact⟨(p.1,b2)::rs,⟨D2 h.1,rfl,c⟩,.cons ⟨rfl,h.2⟩ q⟩
def EQ(trs:List (TE × TE)):TE:=fun σ H Q=>∀p,H p=none→pv trs σ (aV H p (.dK [])) fun ps H2=>H2 p=some (.dK [])∧∃kvs:List (fQ × V),ps=kvs.map (fun kv=>(kV kv.1,kv.2))∧kvs.length≤15∧Q (.ref p) (aV H2 p (.dK (fH [] kvs)))
theorem tW{X:Cx}{pos:Pos}{keys:List (Option Expr)}{values:List Expr}{trs:List (TE × TE)}(h:E_ X pos keys values trs)(hall:keys.all (·.isSome)=true)(hl:keys.length=values.length)(h0:keys≠[])
    (h15:keys.length≤15):PE X (.Dict keys values pos) (EQ trs):=by
  intro pins s σ H Q I q
  have hn:=I.hok.fresh (Nat.le_refl s.heap.objs.size)
  have I1:=I.laid (a:=s.heap.objs.size) (o:=.dK []) (h':=s.heap.push {cls:=.type "dict",data:=.dict #[]}) (t':=s.toks) (fun _ _ q=>Heap.get?_push_of_some _ q) (Nat.le_refl _) (pO s.heap I.big)
  refine wpAny_Dict_walk (knd:=dH X.prog X.w) hall hl h0 h15 (bF (h pins _ σ _ _ I1 (q _ hn)) fun ws s2 ⟨ps,H2,I2,rel,e,kvs,ep,lk,q2⟩=>?_)
  subst ep
  obtain⟨rs,c,rk⟩:=lI (P:=X.prog) (w:=X.w) rel
  obtain⟨z,hd,vs0,r0,dd⟩:=DD I2.hok e
  cases r0
  refine⟨rs,c,dd,fun h' dd' hs=>⟨.ref s.heap.objs.size,_,?_,rfl,q2⟩⟩
  have hz:(fH [] kvs).length≤sizeLine:=by
    have h1:=i7 kvs []
    rw [List.length_nil] at h1
    rw [sizeLine_eq];lia
  have he:∃q,h'.get? s.heap.objs.size=some q:=let ⟨q,_,_,hq,_⟩:=dd';⟨q,hq⟩
  exact yK I2 (by rw [e];exact True.intro) hs he (Bs hz hd (rk.merge .nil) dd')
section
variable{X:Cx}{pins:List (Addr × Obj)}{σ:St}{H:Hp}{s:Shared}{a:Addr}{y d:V}{u r:Value}{o:Option V}{A:Around}{E:Value→Shared→Prop}
end
section
variable{X:Cx}{o e f:Expr}{apos cpos:Pos}{td ty tx:TE}
end
section
variable{X:Cx}{pins:List (Addr × Obj)}{σ:St}{H:Hp}{s:Shared}{a:Addr}{kvs:List (fQ × V)}{A:Around}{E:Value→Shared→Prop}
end
section
variable{X:Cx}{pins:List (Addr × Obj)}{σ:St}{H:Hp}{s:Shared}{a:Addr}{y:V}{u:Value}{A:Around}{E:Value→Shared→Prop}
end
end L2
namespace Att
open PySem PySem.W PySem.Calls PyProof.Rows
section
variable{prog:Program}{w:World}{A:Around}{E:Value→Shared→Prop}{s:Shared}{K:Frag}
end
end Att
namespace L2
open PySem PySem.Spec PyProof.Rows
end L2
namespace L2
open PySem PySem.Spec PyProof.Rows
end L2
namespace L2
open PySem PySem.Spec PyProof.Rows
section
variable{P:Program}{w:World}{K:PySem.W.Frag}{mg:Str→Option Value}{base:Heap}
end
section
variable{X:Cx}
end
section
variable{κ:Type}[DecidableEq κ]
end
end L2
namespace L2
open PySem PySem.Spec PyProof.Rows
def E6:PyData→String
  | .none=>"NoneType"
  | .bool _=>"bool"
  | .int _=>"int"
  | .str _=>"str"
  | .tuple _=>"tuple"
  | .list _=>"list"
  | .dict _=>"dict"
def CM(t T:String):Bool:=t==T || (t=="bool"&&T=="int")
def DY(T:String)(d:PyData):Bool:=CM (E6 d) T
def jb(T:String):En→Rv→Option Rv:=fun _ r=>match r with
  | .d x=>some (.d (.bool (DY T x)))
  | _=>some (.d (.bool (DY T (.list []))))
section
variable{X:Cx}{K:PySem.W.Frag}{a:Expr}{fa:FE}{pos p p2:Pos}
def Fx(K:PySem.W.Frag)(H:Hp):V→String→Prop
  | .non,t=>t="NoneType"
  | .bl _,t=>t="bool"
  | .int _,t=>t="int"
  | .str _,t=>t="str"
  | .ref a,t=>(t="tuple"∧∃xs,cZ K H a xs)∨(t="list"∧∃xs,fm K H a xs)∨(t="dict"∧∃m,H a=some (.dK m))
  | _,_=>False
theorem vL{T:String}:cL X (.builtin "isinstance") (fun xs H Q=>∃x t b,xs=[x,.ty T]∧Fx X.K H x t∧PySem.W.kitOne X.K (.type t) (.type T)=some b∧Q (.bl b) H):=by
  intro pins s σ H xs us Q I r h
  obtain⟨x,t,b,rfl,ht,hk,q⟩:=h
  obtain⟨u1,u2,rfl,r1,r2⟩:∃u1 u2,us=[u1,u2]∧bC x u1∧bC (.ty T) u2:=by
    cases r with
    | cons p q=>cases q with
      | cons p' q'=>cases q';exact⟨_,_,rfl,p,p'⟩
  cases r2
  have q':∀tk,EP X pins σ Q (.bool b) {s with toks:=tk}:=fun tk=>⟨.bl b,H,I.tok _,rfl,q⟩
  cases x with
  | non=>cases (show u1=Value.none from r1);cases (show t=_ from ht);exact PySem.W.kia_one PySem.W.kitx_none I.kIn True.intro hk (fun z=>nomatch z) q'
  | bl y=>cases (show u1=Value.bool y from r1);cases (show t=_ from ht);exact PySem.W.kia_one PySem.W.kitx_bool I.kIn True.intro hk (fun z=>nomatch z) q'
  | int i=>obtain⟨tt,rfl⟩:=r1;cases (show t=_ from ht);exact PySem.W.kia_one PySem.W.kitx_int I.kIn True.intro hk (fun z=>nomatch z) q'
  | str y=>obtain⟨tt,rfl⟩:=r1;cases (show t=_ from ht);exact PySem.W.kia_one PySem.W.kitx_str I.kIn True.intro hk (fun z=>nomatch z) q'
  | ref a=>
    cases (show u1=Value.ref a from r1)
    rcases ht with ⟨rfl,xs,hs⟩ | ⟨rfl,xs,hs⟩ | ⟨rfl,m,hs⟩
    · obtain⟨its,rv,pl,hz⟩:=I.tuple hs
      obtain⟨o,h1,h2⟩:=pl.typeIs
      exact PySem.W.kia_one PySem.W.kitx_tuple I.kIn ⟨o,h1,h2⟩ hk (fun z=>nomatch z) q'
    · obtain⟨its,rv,pl,hz⟩:=I.list hs
      obtain⟨o,h1,h2⟩:=pl.isList.typeIs
      exact PySem.W.kia_one PySem.W.kitx_list I.kIn ⟨o,h1,h2⟩ hk (fun z=>nomatch z) q'
    · obtain⟨_,_,vs,_,pp⟩:=(show cP X.prog X.w H s.heap a (.dK m) from I.hok a _ hs)
      obtain⟨o,es,ep,h1,h2,_⟩:=pp
      exact PySem.W.kia_one PySem.W.kitx_dict I.kIn ⟨o,h1,h2.1⟩ hk (fun z=>nomatch z) q'
  | _=>exact False.elim ht
theorem xo{x:Str}{T:String}(hg:Gl X x)(hm:X.mg x=none)(hv:bootBuiltins x=some (.type T))(hn:x≠"__name__")(hd:(x==("__debug__":Str))=false):PE X (.Name x pos) (tC (.ty T)):=fun pins s σ H Q I h=>
  iF I hg hm hv ⟨.ty T,H,I,rfl,h⟩ hn hd
theorem BG{t T:String}(ht:t∈["NoneType","bool","int","str","tuple","list","dict"])(hT:T∈["int","bool","tuple","str"]):PySem.W.kitOne K (.type t) (.type T)=some (CM t T):=by
  simp only [List.mem_cons,List.not_mem_nil,or_false] at ht hT
  rcases ht with rfl | rfl | rfl | rfl | rfl | rfl | rfl<;>rcases hT with rfl | rfl | rfl | rfl<;>rfl
theorem Ai(d:PyData):E6 d∈["NoneType","bool","int","str","tuple","list","dict"]:=by cases d<;>simp [E6]
theorem CW{F H:Hp}{d:PyData}{v:V}(h:DA K F d v)(s:av F H):Fx K H v (E6 d):=by
  have h:=DA.mono s h
  cases d with
  | none=>rw [eT.mp h];rfl
  | bool b=>rw [c_.mp h];rfl
  | int b=>rw [bM.mp h];rfl
  | str b=>rw [ox.mp h];rfl
  | tuple ds=>obtain⟨a,xs,rfl,h1,_⟩:=bN.mp h;exact .inl ⟨rfl,xs,h1⟩
  | list ds=>obtain⟨a,xs,rfl,h1,_⟩:=cw.mp h;exact .inr (.inl ⟨rfl,xs,h1⟩)
  | dict m=>simp only [DA] at h;obtain⟨a,m,rfl,h1,_⟩:=h;exact .inr (.inr ⟨rfl,_,h1⟩)
theorem yO{f:FE}{σ:L2.St}{H:Hp}{Q Q':VK}(h:fE K f σ H Q)(m:∀v H1,Q v H1→Q' v H1):fE K f σ H Q':=by
  obtain⟨F,e,r,e',R,hf,q⟩:=h
  exact⟨F,e,r,e',R,hf,fun F' H' v x R' A=>m _ _ (q F' H' v x R' A)⟩
theorem DZ{T:String}:Dp K (fun v H Q=>∃t,t∈["NoneType","bool","int","str","tuple","list","dict"]∧Fx K H v t∧Q (.bl (CM t T)) H) (jb T):=by
  intro σ H0 F H e x z v Q R A hg q
  unfold jb at hg
  cases x with
  | d d=>
    cases hg
    exact⟨E6 d,Ai d,CW A R.sm,q F H _ (dw.refl _ _ _ _) R cK⟩
  | l xs=>
    cases hg
    obtain⟨l,vs,rfl,h1,h2,h3,h4⟩:=A
    exact⟨"list",by simp,.inr (.inl ⟨rfl,vs,fm.of h3⟩),q F H _ (dw.refl _ _ _ _) R cK⟩
  | s i=>
    cases hg
    obtain⟨h1,xs,h2⟩:=A
    obtain⟨l,vs,h3,h4,h5,h6⟩:=R.own i xs h2
    rw [h1] at h3;cases h3
    exact⟨"list",by simp,.inr (.inl ⟨rfl,vs,fm.of h5⟩),q F H _ (dw.refl _ _ _ _) R cK⟩
theorem jI{x:Str}{T:String}(hK:X.K=K)(hT:T∈["int","bool","tuple","str"])(hg:Gl X "isinstance")(hm:X.mg "isinstance"=none)(hgT:Gl X x)(hmT:X.mg x=none)(Gw:bootBuiltins x=some (.type T))(hn:x≠"__name__")(hd:(x==("__debug__":Str))=false)
    (ha:PE X a (fE K fa))(he:starEach [a,.Name x p2] X.env=(false,eval a X.env)::starEach [.Name x p2] X.env)(hpl:(backTo pos (starEach [.Name x p2] X.env)).any (·.1)=false):
    PE X (.Call (.Name "isinstance" p) [a,.Name x p2] [] pos) (fE K (mU (jb T) fa)):=
  (qC (vL (T:=T)) hg hm boot_isinstance (oW ha (oW (xo hgT hmT Gw hn hd) md) he) (by decide) (by decide) he hpl).mono fun σ H Q h=>by
    subst hK
    have h1:=yo (DZ (T:=T)) h
    refine yO h1 fun v H1 ⟨t,ht,k,q⟩=>?_
    exact⟨v,t,_,rfl,k,BG ht hT,q⟩
end
end L2
namespace L2
open PySem PySem.Spec PyProof.Rows
section
variable{X:Cx}{K:PySem.W.Frag}
end
end L2
namespace L2
open PySem PySem.Spec PyProof.Rows
section
variable{X:Cx}{K:PySem.W.Frag}{σ:L2.St}{F H:Hp}{e:En}{pos p1 p2:Pos}
theorem aX.newD(R:aX K F H σ e){p:Addr}{m:List (fQ × V)}(hp:H p=none):aX K (aV F p (.dK m)) (aV H p (.dK m)) σ e∧dw σ F H e (aV F p (.dK m)) (aV H p (.dK m)) e:=by
  have hF:=R.freeF hp
  obtain⟨R1,X1⟩:=R.same (av.new hp (o:=.dK m))
  obtain⟨R2,s2⟩:=R1.freeze (p:=p) hF am (R1.notOwn am (fun _ z=>nomatch z))
  refine⟨R2,⟨s2,X1.dom,fun a ws h n _=>?_,X1.lst,X1.tmp,X1.shp,X1.ow⟩⟩
  have z:a≠p:=fun z=>by rw [z,hp] at n;cases n
  rw [ax z];exact h
def j3(m:List (Int × Int)):FE:=fun e=>some (.d (.dict (m.map fun p=>(PyData.int p.1,PyData.int p.2))),e)
theorem mn:PE X (.Dict [] [] pos) (fE K (j3 [])):=xj.mono fun σ H Q h=>by
  obtain⟨F,e,z,e2,R,hf,q⟩:=h
  cases hf
  intro p hp
  obtain⟨R3,X3⟩:=R.newD (m:=[]) hp
  exact q _ _ _ X3 R3 (by simp only [b7,DA];exact⟨p,[],rfl,am,rfl⟩)
theorem xM{i j:Int}{k1 k2}:PE X (.Dict [some (.Constant (.int i) k1 p1)] [.Constant (.int j) k2 p2] pos) (fE K (j3 [(i,j)])):=
  (tW (qE (@oX X i k1 p1) (@oX X j k2 p2) tY) rfl rfl (by simp) (by simp)).mono fun σ H Q h=>by
  obtain⟨F,e,z,e2,R,hf,q⟩:=h
  cases hf
  intro p hp
  refine⟨am,[(Sum.inl i,.int j)],rfl,by simp,?_⟩
  have e1:aV (aV H p (.dK [])) p (.dK (fH [] [((Sum.inl i:fQ),V.int j)]))=aV H p (.dK (fH [] [((Sum.inl i:fQ),V.int j)])):=by
    funext a;by_cases h:a=p
    · subst h;rw [am,am]
    · rw [ax h,ax h,ax h]
  rw [e1]
  obtain⟨R3,X3⟩:=R.newD (m:=fH [] [((Sum.inl i:fQ),V.int j)]) hp
  exact q _ _ _ X3 R3 (by simp only [b7,DA];exact⟨p,[(i,j)],rfl,am,rfl⟩)
end
end L2
namespace L2
open PySem PySem.Spec PyProof.Rows
section
variable{X:Cx}{K:PySem.W.Frag}{a b c d:Expr}{ta tb tc td:TE}{fa fb fc fd:FE}{pos:Pos}
end
end L2
namespace L2
open PySem PySem.Spec PyProof.Rows
section
variable{X:Cx}{K:PySem.W.Frag}{a b:Expr}{es:List Expr}{fa fb:FE}{fs:FA}{pos p apos:Pos}
end
end L2
namespace L2
open PySem PySem.Spec PyProof.Rows
section
variable{X:Cx}{K:PySem.W.Frag}{a b:Expr}{fa fb:FE}{fs:FA}{pos p p2 p3:Pos}
end
end L2
namespace L2
open PySem PySem.Spec PyProof.Rows
def bq(W:bD)(as:List Int):Int:=bp W (W.rng.filter fun k=> !as.contains k)
def wI(l:Nat):Int:=1000*(2 ^ (16 - l) - 1)
structure GH (W:bD) (k:Int) (as:List Int) (y n:Fr):Prop where
  y:Fd (bq W (bD.askd as k)) (wI (as.length+1)) y
  n:Fd (bq W (bD.askd as k)) (wI (as.length+1)) n
  len:as.length≤15
  inw:pD W k
  new:k∉as
def lk(ws:List Fr)(l:Int):Fr:=if l= -1 then(0,1) else ws.getD l.toNat (0,1)
structure GT (W:bD) (S:Nat→Std) (n:Nat) (ws:List Fr):Prop where
  len:ws.length=n
  at':∀(j:Nat) (f:Fr),ws[j]?=some f→Fd (bq W (S j).1) (wI (S j).1.length) f
theorem Sz.int10{n m:Nat}{k:Int}(hb:Bt m k)(m0:0 < m)(m1:m≤1900)(h:k.natAbs < 10 ^ n)(h0:0 < n):Sz (n+1) 2 (.int k):=by
  refine⟨rfl,?_,by simp [PyData.depth],?_,bQ _⟩
  · show decide (k.natAbs.log2 < 1920)=true
    rw [decide_eq_true_eq]
    have:=hb.log m0
    lia
  · have:=int_text_length_le10 h0 h
    show(Str.ofString (toString k)).length≤n+1
    rw [PySem.ofString_length];exact this
end L2
namespace L2
open PySem PySem.Spec PyProof.Rows
theorem gQ{cs:En}{g:FG}{ft:FT}{fe:FE}{b:PyData→Bool}{y:PyData→PyData}{u:PyData→En}(n:Nat):∀(items:List PyData) (t:En) (acc:List PyData),t.length=n→(∀x∈items,∀t:En,t.length=n→g x (cs++t)=some (cs++u x))→(∀x∈items,(u x).length=n)→
    (∀x∈items,ft (cs++u x)=some (b x,cs++u x))→(∀x∈items,b x=true→fe (cs++u x)=some (.d (y x),cs++u x))→acc.length+items.length≤1000000→
    ∃t',t'.length=n∧cM g ft fe items (cs++t) acc=some (acc++(items.filter b).map y,cs++t')
  | [],t,acc,h,_,_,_,_,_=>⟨t,h,by simp [cM]⟩
  | x::r,t,acc,h,hg,hu,h1,h2,hl=>by
    have h1x:=h1 x (by simp)
    unfold cM
    rw [hg x (by simp) t h]
    simp only [Option.bind_some,h1x]
    cases hb:b x with
    | true=>
      simp only [if_true,h2 x (by simp) hb,Option.bind_some,rR]
      rw [if_pos (by simp at hl;lia)]
      obtain⟨t',e1,ih⟩:=gQ (b:=b) (y:=y) (u:=u) n r (u x) (acc++[y x]) (hu x (by simp)) (fun z hz=>hg z (by simp [hz])) (fun z hz=>hu z (by simp [hz])) (fun z hz=>h1 z (by simp [hz])) (fun z hz=>h2 z (by simp [hz])) (by simp at hl ⊢;lia)
      exact⟨t',e1,by rw [ih];simp [hb]⟩
    | false=>
      simp only [Bool.false_eq_true,if_false]
      obtain⟨t',e1,ih⟩:=gQ (b:=b) (y:=y) (u:=u) n r (u x) acc (hu x (by simp)) (fun z hz=>hg z (by simp [hz])) (fun z hz=>hu z (by simp [hz])) (fun z hz=>h1 z (by simp [hz])) (fun z hz=>h2 z (by simp [hz])) (by simp at hl;lia)
      exact⟨t',e1,by rw [ih];simp [hb]⟩
theorem nX{nT:Nat}{fi:FI}{g:FG}{ft:FT}{fe:FE}{e e1 eo:En}{items out:List PyData}{own:h_}(h1:fi e=some (items,own,e1))(h3:cM g ft fe items (List.replicate nT none) []=some (out,eo)):cm [] nT fi g ft fe e=some (.l out,e1):=by
  unfold cm
  rw [h1]
  simp only [Option.bind_some]
  rw [if_pos (by simp),show kS [] nT e1=List.replicate nT none from rfl,h3]
  simp only [Option.bind_some]
  rw [if_pos (by simp [ir])]
  congr 2
  refine List.ext_getElem? fun i=>?_
  rw [bR]
  match h:e1[i]? with
  | none=>rfl
  | some none=>rfl
  | some (some (.d x))=>rfl
  | some (some (.n x))=>rfl
  | some (some (.l x))=>rfl
noncomputable def yw(ls:List Str):Str:=ls.foldr (· ++·) Str.empty
theorem nU{x:Str}(h:PyData.strOk x=true):∀c∈x.cps.toList,c < 1114112:=by
  intro c hc
  unfold PyData.strOk at h
  rw [Array.all_eq_true'] at h
  have:=h c (by simpa using hc)
  simpa using this
theorem yg{l:Array Nat}(h:∀c∈l.toList,c < 1114112):PyData.strOk ⟨l⟩=true:=by
  unfold PyData.strOk
  rw [Array.all_eq_true']
  intro c hc
  simpa using h c (by simpa using hc)
theorem yH(c:Char):c.toNat < 1114112:=by
  have:=c.valid
  unfold UInt32.isValidChar Nat.isValidChar at this
  show c.val.toNat < _
  lia
open PySem.Builtin.Str in
theorem qM{q c:Nat}(hc:c < 1114112):∀d∈reprChar q c,d < 1114112:=by
  intro d hd
  unfold reprChar at hd
  have hx:∀w:Nat,∀d∈(List.replicate (w - ((Nat.toDigits 16 c).map Char.toNat).length) 48++(Nat.toDigits 16 c).map Char.toNat),d < 1114112:=by
    intro w d hd
    rcases List.mem_append.mp hd with h | h
    · have:=List.eq_of_mem_replicate h;lia
    · obtain⟨ch,_,rfl⟩:=List.mem_map.mp h;exact yH ch
  dsimp only at hd
  split at hd
  · simp only [List.mem_cons,List.not_mem_nil,or_false] at hd;lia
  split at hd
  · simp only [List.mem_cons,List.not_mem_nil,or_false] at hd;lia
  split at hd
  · simp only [List.mem_cons,List.not_mem_nil,or_false] at hd;lia
  split at hd
  · simp only [List.mem_cons,List.not_mem_nil,or_false] at hd;lia
  split at hd
  · simp only [List.mem_cons,List.not_mem_nil,or_false] at hd;lia
  split at hd
  · rcases List.mem_append.mp hd with h | h
    · simp only [List.mem_cons,List.not_mem_nil,or_false] at h;lia
    · exact hx 2 d h
  split at hd
  · rcases List.mem_append.mp hd with h | h
    · simp only [List.mem_cons,List.not_mem_nil,or_false] at h;lia
    · exact hx 4 d h
  · rcases List.mem_append.mp hd with h | h
    · simp only [List.mem_cons,List.not_mem_nil,or_false] at h;lia
    · exact hx 8 d h
open PySem.Builtin.Str in
theorem nK{q:Nat}:∀(l:List Nat) (acc:Array Nat),(∀c∈l,c < 1114112)→(∀c∈acc.toList,c < 1114112)→∀c∈(l.foldl (fun out c=>out++(reprChar q c).toArray) acc).toList,c < 1114112
  | [],acc,_,h=>h
  | x::r,acc,h1,h2=>nK r _ (fun c hc=>h1 c (by simp [hc])) fun c hc=>by
    simp only [Array.toList_append,List.mem_append] at hc
    rcases hc with hc | hc
    · exact h2 c hc
    · exact qM (h1 x (by simp)) c hc
theorem qN{x:Str}(h:PyData.strOk x=true):PyData.strOk (reprText x)=true:=by
  unfold reprText
  refine yg fun c hc=>?_
  have hq:reprQuote x < 1114112:=by unfold reprQuote;split<;>lia
  rw [Array.toList_push] at hc
  rcases List.mem_append.mp hc with hc | hc
  · rw [←Array.foldl_toList] at hc
    exact nK _ _ (nU h) (fun c hc=>by simp at hc;lia) c hc
  · simp at hc;lia
theorem Sz.str{x:Str}{n:Nat}(h:PyData.strOk x=true)(hl:x.length≤n):Sz (10*n+2) 2 (.str x):=by
  refine⟨rfl,rfl,by simp [PyData.depth],?_,qN h⟩
  have:=PySem.StrLaws.reprText_len x fun c hc=>Nat.lt_of_lt_of_le (nU h c hc) (by decide)
  show(reprText x).length≤_
  lia
end L2
namespace L2
open PySem PySem.Spec PyProof.Rows
section
variable{X:Cx}{K:PySem.W.Frag}{a:Expr}{fa:FE}{pos p pos2 p2:Pos}
end
end L2
namespace L2
open PySem PySem.Spec PyProof.Rows
section
variable{X:Cx}{K:PySem.W.Frag}{a:Expr}{fa:FE}
end
end L2
namespace L2
open PySem PySem.Spec PyProof.Rows
abbrev Rn:=List (Int × Bool)
def yQ(R:Rn):List Int:=R.map (·.1)
def AA(W:bD)(R:Rn):List Int:=(R.filter (·.2)).flatMap fun r=>[(W.tie r.1).one,(W.tie r.1).other]
theorem pk(ns:List Int):(bi ns).Pairwise (· ≤·):=by
  have:=List.pairwise_mergeSort (le:=fun a b:Int=>decide (a≤b)) (fun a b c h1 h2=>by simp at*;lia) (fun a b=>by simp;lia) ns
  exact this.imp (by simp)
structure GP (W:bD) (R:Rn) (asked taken:List Int):Prop where
  pa:asked.Perm (yQ R)
  pt:taken.Perm (AA W R)
  inw:∀k∈yQ R,pD W k
  nd:(yQ R).Nodup
  nk:(AA W R).Nodup
  bd:∀t:Int,0≤t→t < W.things→W.many (yQ R) t≤W.pat.getD t.toNat 0
  ak:(R.length:Int)≤W.asks
  sa:asked.Pairwise (· ≤·)
  st:taken.Pairwise (· ≤·)
theorem Bv{e:En}{i:Nat}{x:Int}{ns:List Int}{neg:Bool}(h:e[i]?=some (some (.l (ns.map .int)))):uK neg e (.d (.int x)) (.s i)=some (.d (.bool (if neg then !ns.contains x else ns.contains x))):=by
  have:=jt (e:=e) (x:=x) (ns:=ns) (neg:=neg)
  unfold uK at this ⊢
  simp only [eN,bT,h,Option.bind_some] at this ⊢
  exact this
end L2
namespace L2
open PySem PySem.Spec PyProof.Rows
section
variable{prog:Program}{w:World}{A:Around}{R:Result→Shared→Prop}
def jA(elt tg iter tg2 iter2:Expr)(ifs ifs2:List Expr)(scope:Scope)(pos:Pos)(acc:Value)(env:Env)(k:Sem PySem.Fin):Sem PySem.Fin:=do
  let x ←eval iter2 env
  standAt iter2.pos
  let x ←foldedSetIterable iter2 env x
  let _ ←runOwn (.compStart (.ListComp elt [⟨tg,iter,ifs,0⟩,⟨tg2,iter2,ifs2,0⟩] scope pos) 1 (←holding [x] (pyIter x)) acc env) env
  k
theorem oq(elt tg iter tg2 iter2:Expr)(ifs ifs2:List Expr)(scope:Scope)(pos:Pos)(it acc:Value)(env:Env):
    compTurn (.ListComp elt [⟨tg,iter,ifs,0⟩,⟨tg2,iter2,ifs2,0⟩] scope pos) 0 it acc env=(do
      standAt iter.pos
      match ←pyNext it with
      | none=>pure (.done .next)
      | some v=>
        letOwnedTupleGo tg it v
        assign tg env v
        let mut ok:=true
        for c in ifs do
          if ok then ok ←isTrue c env (eval c env)
        if ok then jA elt tg iter tg2 iter2 ifs ifs2 scope pos acc env (again (.compLoop (.ListComp elt [⟨tg,iter,ifs,0⟩,⟨tg2,iter2,ifs2,0⟩] scope pos) 0 it acc env))
        else again (.compLoop (.ListComp elt [⟨tg,iter,ifs,0⟩,⟨tg2,iter2,ifs2,0⟩] scope pos) 0 it acc env)):=by rfl
theorem pM(elt tg iter tg2 iter2:Expr)(ifs ifs2:List Expr)(scope:Scope)(pos:Pos)(it acc:Value)(env:Env):
    compTurn (.ListComp elt [⟨tg,iter,ifs,0⟩,⟨tg2,iter2,ifs2,0⟩] scope pos) 1 it acc env=(do
      standAt iter2.pos
      match ←pyNext it with
      | none=>pure (.done .next)
      | some v=>
        letOwnedTupleGo tg2 it v
        assign tg2 env v
        let mut ok:=true
        for c in ifs2 do
          if ok then ok ←isTrue c env (eval c env)
        if ok then
          (do let _ ←call (.builtin "list.append") [acc,←eval elt env])
        again (.compLoop (.ListComp elt [⟨tg,iter,ifs,0⟩,⟨tg2,iter2,ifs2,0⟩] scope pos) 1 it acc env)):=by rfl
def yI(prog:Program)(w:World)(A:Around)(B:Sem PySem.Fin→Sem PySem.Fin)(tg:Expr)(ifs:List Expr)(env:Env)(it:Value)(onward:Shared→Prop)(v:Value)(u:Shared):Prop:=
  wpAny (model prog w) A (letOwnedTupleGo tg it v) (fun _ u1=>wpAny (model prog w) A (assign tg env v) (fun _ u2=>wpAny (model prog w) A
    (forIn ifs true fun c r=>if r=true then do let ok ←isTrue c env (eval c env);pure (ForInStep.yield ok) else pure (ForInStep.yield r)) (fun ok u3=>if ok=true then(∀(k:Sem PySem.Fin) (Q:PySem.Fin→Shared→Prop) (E:Value→Shared→Prop),(∀u5,onward u5→wpAny (model prog w) A k Q E u5)→wpAny (model prog w) A (B k) Q E u3) else onward u3) tV u2) tV u1) tV u
theorem om{elt tg iter tg2 iter2:Expr}{ifs ifs2:List Expr}{scope:Scope}{pos:Pos}{it acc:Value}{env:Env}(J:Nat→Shared→Prop)
    (turn:∀n u,J n u→wpAny (model prog w) A (pyNext it) (fun r u1=>(r=none→R (.ok .next) u1)∧∀v,r=some v→yI prog w A (jA elt tg iter tg2 iter2 ifs ifs2 scope pos acc env) tg ifs env it (fun u2=>∃m,m < n∧J m u2) v u1) tV u){n0:Nat}{u0:Shared}(eQ:J n0 u0):
    codeAny (model prog w) A (.compLoop (.ListComp elt [⟨tg,iter,ifs,0⟩,⟨tg2,iter2,ifs2,0⟩] scope pos) 0 it acc env) R u0:=by
  refine codeAny_loop rfl J (fun n u ju=>?_) n0 eQ
  show wpAny _ A ((compTurn (.ListComp elt [⟨tg,iter,ifs,0⟩,⟨tg2,iter2,ifs2,0⟩] scope pos) 0 it acc env).onRaise _) _ _ u;refine wpAny_noted ?_;rw [oq]
  refine wpAny_bind (wpAny_standAt (wpAny_bind (wpAny_mono (turn n u ju) (fun r u1 k1=>?_) fun _ _ z=>z.elim)))
  cases r with
  | none=>exact wpAny_pure (k1.1 rfl)
  | some v=>
    refine wpAny_bind (wpAny_mono (k1.2 v rfl) (fun _ u2 k2=>wpAny_bind (wpAny_mono k2 (fun _ u3 k3=>wpAny_bind (wpAny_mono k3 (fun ok u4 k4=>?_) fun _ _ z=>z.elim)) fun _ _ z=>z.elim)) fun _ _ z=>z.elim)
    cases ok with
    | false=>rw [if_neg Bool.false_ne_true] at k4;exact wpAny_pure ⟨rfl,k4⟩
    | true=>
      rw [if_pos rfl] at k4
      exact k4 _ _ _ fun u6 k6=>wpAny_pure ⟨rfl,k6⟩
theorem pL{elt tg iter tg2 iter2:Expr}{ifs ifs2:List Expr}{scope:Scope}{pos:Pos}{it acc:Value}{env:Env}(J:Nat→Shared→Prop)
    (turn:∀n u,J n u→wpAny (model prog w) A (pyNext it) (fun r u1=>(r=none→R (.ok .next) u1)∧∀v,r=some v→vM prog w A elt tg2 ifs2 env it acc (fun u2=>∃m,m < n∧J m u2) v u1) tV u){n0:Nat}{u0:Shared}(eQ:J n0 u0):
    codeAny (model prog w) A (.compLoop (.ListComp elt [⟨tg,iter,ifs,0⟩,⟨tg2,iter2,ifs2,0⟩] scope pos) 1 it acc env) R u0:=by
  refine codeAny_loop rfl J (fun n u ju=>?_) n0 eQ
  show wpAny _ A ((compTurn (.ListComp elt [⟨tg,iter,ifs,0⟩,⟨tg2,iter2,ifs2,0⟩] scope pos) 1 it acc env).onRaise _) _ _ u;refine wpAny_noted ?_;rw [pM]
  refine wpAny_bind (wpAny_standAt (wpAny_bind (wpAny_mono (turn n u ju) (fun r u1 k1=>?_) fun _ _ z=>z.elim)))
  cases r with
  | none=>exact wpAny_pure (k1.1 rfl)
  | some v=>
    refine wpAny_bind (wpAny_mono (k1.2 v rfl) (fun _ u2 k2=>wpAny_bind (wpAny_mono k2 (fun _ u3 k3=>wpAny_bind (wpAny_mono k3 (fun ok u4 k4=>?_) fun _ _ z=>z.elim)) fun _ _ z=>z.elim)) fun _ _ z=>z.elim)
    cases ok with
    | false=>rw [if_neg Bool.false_ne_true] at k4;exact wpAny_pure ⟨rfl,k4⟩
    | true=>
      rw [if_pos rfl] at k4
      refine wpAny_bind (wpAny_bind (wpAny_mono k4 (fun x u5 k5=>wpAny_bind (wpAny_mono k5 (fun _ u6 k6=>?_) fun _ _ z=>z.elim)) fun _ _ z=>z.elim));exact wpAny_pure (wpAny_pure ⟨rfl,k6⟩)
theorem oo{elt tg iter tg2 iter2:Expr}{ifs ifs2:List Expr}{scope:Scope}{pos:Pos}{it acc:Value}{env:Env}{s:Shared}
    (h0:codeAny (model prog w) A (.compLoop (.ListComp elt [⟨tg,iter,ifs,0⟩,⟨tg2,iter2,ifs2,0⟩] scope pos) 1 it acc env) R s)
    (h:wpAny (model prog w) A (pyIter it) (fun it' s'=>codeAny (model prog w) A (.compLoop (.ListComp elt [⟨tg,iter,ifs,0⟩,⟨tg2,iter2,ifs2,0⟩] scope pos) 1 it' acc env) R s') (notedBy (model prog w) A env fun x s'=>R (.error x) s') s):
    codeAny (model prog w) A (.compStart (.ListComp elt [⟨tg,iter,ifs,0⟩,⟨tg2,iter2,ifs2,0⟩] scope pos) 1 it acc env) R s:=by
  refine codeAny_of_tree ?_;show wpAny _ _ ((compStart (.ListComp elt [⟨tg,iter,ifs,0⟩,⟨tg2,iter2,ifs2,0⟩] scope pos) 1 it acc env).onRaise (fun x=>do noteFrame x env;standAt theWindowsPlace)) _ _ s
  refine wpAny_notedAt ?_;unfold compStart
  show wpAny _ _ (ask >>= _) _ _ s
  refine wpAny_bind (wpAny_askSetting (wpAny_ite ?_));split
  · first | exact wpAny_bind (wpAny_pure (wpAny_pure (And.intro rfl h0))) | exact wpAny_pure (And.intro rfl h0)
  · first | exact wpAny_bind (wpAny_rule (wpAny_bind (wpAny_standAt (wpAny_bind (wpAny_mono h (fun it' s' h'=>wpAny_pure (And.intro rfl h')) fun _ _ x=>x))))) | (refine wpAny_bind (wpAny_rule ?_);show wpAny _ _ (standAt iter2.pos >>= _) _ _ s;exact wpAny_bind (wpAny_standAt (wpAny_bind (wpAny_mono h (fun it' s' h'=>wpAny_pure (And.intro rfl h')) fun _ _ x=>x))))
end
def yj(l:Addr)(wi:TI)(g:TG)(tc:TT)(te:TE)(σ:L2.St)(H:Hp)(N:L2.St→Hp→Prop):Prop:=
  wi σ H fun J H1=>∃W:Nat→Nat→L2.St→Hp→Prop,(∃m,W 0 m σ H1)∧∀i m σ' H',W i m σ' H'→
    (J.stop i H'∧N σ' H')∨(J.go i H'∧∃N2:L2.St→Hp→Prop,(∀σ2 H2,N2 σ2 H2→∃m',m' < m∧W (i+1) m' σ2 H2)∧
      ∀x H2,J.yld i H' x H2→g x σ' H2 fun σ2 H3=>tc σ2 H3 fun b H4=>if b=true then te σ2 H4 fun v H5=>∃ys,H5 l=some (.lst ys)∧ys.length < sizeLine∧N2 σ2 (aV H5 l (.lst (ys++[v]))) else N2 σ2 H4)
theorem wz{Y:Cx}{elt tg iter tg2 iter2:Expr}{ifs ifs2:List Expr}{scope:Scope}{pos:Pos}{wi:TI}{g:TG}{tc:TT}{te:TE}(hc:Y.calm=true)(hxe:Y.xe=tV)(hi:PI Y tg2 iter2 wi)(hg:PG Y tg2 g)(ht:rB Y ifs2 tc)(he:PE Y elt te)
    (hs:∀x,foldedSetIterable iter2 Y.env x=pure x){pins:List (Addr × Obj)}{s:Shared}{σ:L2.St}{H:Hp}{D:Addr}{N:L2.St→Hp→Prop}(I:az Y pins σ H s)(h:yj D wi g tc te σ H N)(k:Sem PySem.Fin)(Q:PySem.Fin→Shared→Prop)(E:Value→Shared→Prop)(hk:∀s',(∃σ' H',az Y pins σ' H' s'∧N σ' H')→wpAny (model Y.prog Y.w) Y.A k Q E s'):
    wpAny (model Y.prog Y.w) Y.A (jA elt tg iter tg2 iter2 ifs ifs2 scope pos (.ref D) Y.env k) Q E s:=by
  unfold jA
  have hi':=hi pins s σ H _ I h
  rw [hxe] at hi'
  refine wpAny_bind (wpAny_mono hi' (fun v s1 h1=>wpAny_bind (wpAny_standAt (wpAny_bind (wpAny_of_eq (hs v) (wpAny_bind (wpAny_holding (wpAny_mono h1 (fun itv s2 h2=>?_) fun _ _ z=>z.elim))))))) fun _ _ z=>z.elim)
  obtain⟨it,fp,tn,J,H2,rfl,I2,T,st2,f2,W,⟨m0,w0⟩,turn⟩:=h2
  have stat:∀{H':Hp},(∀b∈fp,H' b=none)→∀b∈fp,gv Y pins H' b:=fun hn b hb=>⟨hn b hb,(f2 b hb).2⟩
  have loop:codeAny (model Y.prog Y.w) Y.A (.compLoop (.ListComp elt [⟨tg,iter,ifs,0⟩,⟨tg2,iter2,ifs2,0⟩] scope pos) 1 (.ref it) (.ref D) Y.env) (fun r s'=>match r with | .ok f=>wpAny (model Y.prog Y.w) Y.A k Q E s' | .error e=>cameBackBy (model Y.prog Y.w) Y.A Y.env E e s') s2:=by
    refine pL (fun n s'=>∃i σ' H',az Y pins σ' H' s'∧tn i s'.heap∧(∀b∈fp,H' b=none)∧W i n σ' H') ?_ (n0:=m0) ⟨0,σ,H2,I2,st2,fun b hb=>(f2 b hb).1,w0⟩
    rintro n s3 ⟨i,σ3,H3,I3,st3,fr3,w3⟩
    rcases turn i n σ3 H3 w3 with ⟨stop,qn⟩ | ⟨go,N2,hN,step⟩
    · refine bF (T.done Y rfl rfl rfl hc i pins s3 σ3 H3 tV I3 (stat fr3) st3 stop) fun r s4 ⟨hr,I4⟩=>?_
      subst hr
      exact⟨fun _=>hk _ ⟨σ3,H3,I4,qn⟩,fun v z=>by cases z⟩
    · refine bF (T.item Y rfl rfl rfl hc i pins s3 σ3 H3 tV I3 (stat fr3) st3 go) fun r s4 ⟨u,hr,h4⟩=>?_
      subst hr
      refine⟨fun z=>(by cases z),fun v z=>?_⟩
      cases z
      refine bF h4 fun _ s5 ⟨x,H5,I5,r5,y5,st5,fr5⟩=>?_
      have I5':=I5.pinned (stat fr5) (T.obj _ _ st5)
      have again:∀{σ8:L2.St} {H8:Hp} {s8:Shared},az Y (pins++iH fp s5.heap) σ8 H8 s8→N2 σ8 H8→∃m,m < n∧∃i σ' H',az Y pins σ' H' s8∧tn i s8.heap∧(∀b∈fp,H' b=none)∧W i m σ' H':=fun{σ8 H8 s8} I8 n8=>by
        obtain⟨m',hm,w8⟩:=hN σ8 H8 n8
        refine⟨m',hm,i+1,σ8,H8,I8.unpinned,T.keep _ _ _ st5 fun b hb o e=>(I8.pin (b,o) (List.mem_append_right _ (List.mem_append_right _ (bK hb e)))).1,fun b hb=>?_,w8⟩
        obtain⟨o,e,d⟩:=T.obj _ _ st5 b hb
        exact(I8.pin (b,o) (List.mem_append_right _ (List.mem_append_right _ (bK hb e)))).2.1
      have hg':=hg _ s5 σ3 H5 x u _ I5' r5 (step x H5 y5)
      rw [hxe] at hg'
      refine bF hg' fun _ s8 ⟨σ8,H8,I8,q8⟩=>?_
      have ht':=ht _ s8 σ8 H8 _ I8 q8
      rw [hxe] at ht'
      refine bF ht' fun ok s9 ⟨H9,I9,q9⟩=>?_
      cases ok with
      | false=>
        rw [if_neg Bool.false_ne_true] at q9 ⊢
        exact again I9 q9
      | true=>
        rw [if_pos rfl] at q9 ⊢
        have he':=he _ s9 σ8 H9 _ I9 q9
        rw [hxe] at he'
        refine bF he' fun v s10 ⟨xv,H10,I10,r10,ys,hl,hz,n10⟩=>?_
        have ha:=ff _ s10 σ8 H10 (.ref D) [xv] (.ref D) [v] (fun _ H=>N2 σ8 H) I10 rfl (.cons r10 .nil) ⟨D,ys,xv,rfl,rfl,hl,hz,n10⟩
        rw [hxe] at ha
        refine bF ha fun _ s11 ⟨_,H11,I11,_,q11⟩=>?_
        exact again I11 q11
  exact wpAny_bind (wpAny_runOwn (oo loop (T.self Y.A 0 _ _ _ st2 loop)))
structure sN (cp:List (Nat × Str)) (nT:Nat) (wi:TI) (g:TG) (tc:TT) (wi2:TI) (g2:TG) (tc2:TT) (te:TE) (σ:L2.St) (H:Hp) (Q:VK):Prop where
  go:wi σ H fun J H1=>∀l,H1 l=none→
  ∃W:Nat→Nat→L2.St→Hp→Prop,(∃m,W 0 m (dN cp nT σ) (aV H1 l (.lst [])))∧∀i m σ' H',W i m σ' H'→
    (J.stop i H'∧Q (.ref l) H')∨(J.go i H'∧∃N:L2.St→Hp→Prop,(∀σ2 H2,N σ2 H2→∃m',m' < m∧W (i+1) m' σ2 H2)∧
      ∀x H2,J.yld i H' x H2→g x σ' H2 fun σ2 H3=>tc σ2 H3 fun b H4=>if b=true then yj l wi2 g2 tc2 te σ2 H4 N else N σ2 H4)
def gP(g:FG)(ft:FT)(fi2:FI)(g2:FG)(ft2:FT)(fe:FE):List PyData→En→List PyData→Option (List PyData × En)
  | [],e,acc=>some (acc,e)
  | x::r,e,acc=>(g x e).bind fun e1=>(ft e1).bind fun b=>if b.1=true then(fi2 b.2).bind fun p=>if p.2.1=[] then(cM g2 ft2 fe p.1 p.2.2 acc).bind fun z=>gP g ft fi2 g2 ft2 fe r z.2 z.1 else none else gP g ft fi2 g2 ft2 fe r b.2 acc
def ko(cp:List (Nat × Str))(nT:Nat)(fi:FI)(g:FG)(ft:FT)(fi2:FI)(g2:FG)(ft2:FT)(fe:FE):FE:=fun e=>(fi e).bind fun p=>if (p.2.1.all fun q=> !(cp.any fun c=>c.1==q.1))=true then(gP g ft fi2 g2 ft2 fe p.1 (kS cp nT p.2.2) []).bind fun z=>if ir cp z.2 p.2.2=true then some (.l z.1,jZ (jG cp) z.2 p.2.2) else none else none
section
variable{K:PySem.W.Frag}{F H:Hp}{σ:L2.St}{e:En}{cp:List (Nat × Str)}{nT:Nat}
theorem vp{Q:VK}{fi fi2:FI}{g g2:FG}{W:List Nat}{ft ft2:FT}{fe:FE}(hn:(cp.map (·.1)).Nodup)(hW:∀j∈W,cp.length≤j)(h:fE K (ko cp nT fi g ft fi2 g2 ft2 fe) σ H Q):sN cp nT (fI K fi) (fG K g W) (fT K ft) (fI K fi2) (fG K g2 W) (fT K ft2) (fE K fe) σ H Q:=by
  obtain⟨F0,e0,z,e',R0,hf,q⟩:=h
  unfold ko at hf
  obtain⟨⟨items,own,e1⟩,h1,hf⟩:=Option.bind_eq_some_iff.mp hf
  dsimp only at hf
  split at hf
  case isFalse=>cases hf
  case isTrue hO=>
  obtain⟨⟨out,eo⟩,h2,hf⟩:=Option.bind_eq_some_iff.mp hf
  dsimp only at hf
  split at hf
  case isFalse=>cases hf
  case isTrue hB=>
  cases hf
  refine⟨⟨F0,e0,items,own,e1,R0,h1,fun J F1 H1 X1 R1 kp ok=>?_⟩⟩
  intro l hl
  obtain⟨Ri,sub⟩:=R1.inn (nT:=nT) hn
  have hFl:F1 l=none:=R1.freeF hl
  let Iv:Nat→L2.St→Hp→Prop:=fun i=>CI K W (dN cp nT σ) F1 H1 (kS cp nT e1) l fun _ ei acc=>gP g ft fi2 g2 ft2 fe (items.drop i) ei acc=some (out,eo)
  have notown:∀p∈own,∀a,σ[p.1]?=some (some (.ref a))→¬cv (dN cp nT σ) (kS cp nT e1) H1 a:=by
    rintro p hp a ha ⟨k,zf⟩
    obtain⟨xs,c1,c2⟩:=zf.resolve_right fun⟨xss,_,_,z,_⟩=>gW k xss z
    obtain⟨i,s,d1,d2⟩:=gU c1
    have e2:=jX d1 c2
    have:p.1=i:=R1.inj p.1 i p.2 xs a (kp p hp) d2 ha e2
    have hh:=List.all_eq_true.mp hO p hp
    simp only [Bool.not_eq_true',List.any_eq_false,beq_iff_eq] at hh
    exact hh (i,s) (List.mem_of_getElem? d1) this.symm
  refine⟨fun i m σ' H'=>m=items.length - i∧i≤items.length∧Iv i σ' H',⟨items.length,by simp,Nat.zero_le _,.mk (Ri.putT hFl (fun z=>(Ri.ownH l z) hl)).1 (df.refl.putT hl (Ri.putT hFl (fun z=>(Ri.ownH l z) hl)).2) hFl (fun z=>(Ri.ownH l (((Ri.putT hFl (fun z=>(Ri.ownH l z) hl)).2 l).mp z)) hl) am aC.nil h2⟩,?_⟩
  rintro i m σ' H' ⟨rfl,hi,⟨R',X',fl,no,hl',da,hc⟩⟩
  rename_i F' ei acc vs
  have held:uB K σ F' H' own:=fun p hp=>by
    obtain⟨a,us,c1,c2,c3,c4⟩:=R1.own p.1 p.2 (kp p hp)
    exact⟨a,us,c1,X'.tmp a _ c3 (notown p hp a c1),c4.mono X'.sf⟩
  obtain⟨go,stop,yld⟩:=ok F' H' X'.sf R'.sm held
  by_cases hlt:i < items.length
  · have hd:items.drop i=items[i]::items.drop (i+1):=List.drop_eq_getElem_cons hlt
    rw [hd] at hc
    unfold gP at hc
    obtain⟨e2,c2,hc⟩:=Option.bind_eq_some_iff.mp hc
    obtain⟨⟨b,e3⟩,c3,hc⟩:=Option.bind_eq_some_iff.mp hc
    refine .inr ⟨go i hlt,Iv (i+1),fun σ2 H2 r=>⟨items.length - (i+1),by lia,rfl,hlt,r⟩,fun x H2 hy=>?_⟩
    obtain⟨F2,sH,sF2,sm2,fz,hx⟩:=yld i items[i] x H2 (List.getElem?_eq_getElem hlt) hy
    obtain⟨R2,X2⟩:=R'.step sH sF2 sm2 fz
    refine⟨F2,ei,items[i],e2,R2,hx,c2,fun σ3 X3 R3=>⟨F2,e2,b,e3,R3,c3,fun F4 H4 X4 R4=>?_⟩⟩
    have hlH2:H2 l=some (.lst vs):=sH _ _ hl'
    have no2:¬cv σ' ei H2 l:=fun z=>by
      rcases X2.ow l z with z | z
      · exact no z
      · rw [hl'] at z;cases z
    have no3:¬cv σ3 e2 H2 l:=fun z=>by
      rcases X3.own l z with z | z
      · exact no2 z
      · rw [hlH2] at z;cases z
    have fl2:F2 l=none:=fz l fl (by rw [hl'];simp)
    have hlH4:H4 l=some (.lst vs):=X4.tmp l _ hlH2 no3
    have fl4:F4 l=none:=X4.fr l vs fl2 hlH2 no3
    have no4:¬cv σ3 e3 H4 l:=fun z=>by
      rcases X4.ow l z with z | z
      · exact no3 z
      · rw [hlH2] at z;cases z
    have E4:df W (dN cp nT σ) F1 H1 (kS cp nT e1) σ3 F4 H4 e3:=((X'.trans X2.s).trans X3).trans X4.s
    have da4:=da.mono (sF2.trans X4.sf)
    cases b with
    | false=>
      rw [if_neg (by simp)] at hc
      exact yY (.mk R4 E4 fl4 no4 hlH4 da4 hc)
    | true=>
      rw [if_pos rfl] at hc
      obtain⟨⟨its2,own2,e5⟩,c5,hc⟩:=Option.bind_eq_some_iff.mp hc
      dsimp only at hc
      split at hc
      case isFalse=>cases hc
      case isTrue ho2=>
      subst ho2
      obtain⟨⟨acc2,e6⟩,c6,hc⟩:=Option.bind_eq_some_iff.mp hc
      refine yZ ⟨F4,e3,its2,[],e5,R4,c5,fun J2 F5 H5 X5 R5 _ ok2=>?_⟩
      have hlH5:H5 l=some (.lst vs):=X5.tmp l _ hlH4 no4
      have fl5:F5 l=none:=X5.fr l vs fl4 hlH4 no4
      have no5:¬cv σ3 e5 H5 l:=fun z=>by
        rcases X5.ow l z with z | z
        · exact no4 z
        · rw [hlH4] at z;cases z
      let Iv2:Nat→L2.St→Hp→Prop:=fun j=>CI K W (dN cp nT σ) F1 H1 (kS cp nT e1) l fun F' ei acc=>av F5 F'∧cM g2 ft2 fe (its2.drop j) ei acc=some (acc2,e6)
      refine⟨fun j m σ' H'=>m=its2.length - j∧j≤its2.length∧Iv2 j σ' H',⟨its2.length,by simp,Nat.zero_le _,.mk R5 (E4.trans X5.s) fl5 no5 hlH5 (da4.mono X5.sf) ⟨av.refl _,c6⟩⟩,?_⟩
      rintro j m σ6 H6 ⟨rfl,hj,⟨R6,X6,fl6,no6,hl6,da6,s6,hc6⟩⟩
      rename_i F6 ei6 acc6 vs6
      obtain⟨go2,stop2,yld2⟩:=ok2 F6 H6 s6 R6.sm (fun p hp=>by cases hp)
      by_cases hjt:j < its2.length
      · have hd2:its2.drop j=its2[j]::its2.drop (j+1):=List.drop_eq_getElem_cons hjt
        rw [hd2] at hc6
        unfold cM at hc6
        obtain⟨e7,c7,hc6⟩:=Option.bind_eq_some_iff.mp hc6
        obtain⟨⟨b8,e8⟩,c8,hc6⟩:=Option.bind_eq_some_iff.mp hc6
        refine .inr ⟨go2 j hjt,Iv2 (j+1),fun σ2 H2 r=>⟨its2.length - (j+1),by lia,rfl,hjt,r⟩,fun x7 H7 hy7=>?_⟩
        obtain⟨F7,sH7,sF7,sm7,fz7,hx7⟩:=yld2 j its2[j] x7 H7 (List.getElem?_eq_getElem hjt) hy7
        obtain⟨R7,X7⟩:=R6.step sH7 sF7 sm7 fz7
        refine⟨F7,ei6,its2[j],e7,R7,hx7,c7,fun σ8 X8 R8=>⟨F7,e7,b8,e8,R8,c8,fun F9 H9 X9 R9=>?_⟩⟩
        have hlH7:H7 l=some (.lst vs6):=sH7 _ _ hl6
        have no7:¬cv σ6 ei6 H7 l:=fun z=>by
          rcases X7.ow l z with z | z
          · exact no6 z
          · rw [hl6] at z;cases z
        have no8:¬cv σ8 e7 H7 l:=fun z=>by
          rcases X8.own l z with z | z
          · exact no7 z
          · rw [hlH7] at z;cases z
        have fl7:F7 l=none:=fz7 l fl6 (by rw [hl6];simp)
        have hlH9:H9 l=some (.lst vs6):=X9.tmp l _ hlH7 no8
        have fl9:F9 l=none:=X9.fr l vs6 fl7 hlH7 no8
        have no9:¬cv σ8 e8 H9 l:=fun z=>by
          rcases X9.ow l z with z | z
          · exact no8 z
          · rw [hlH7] at z;cases z
        have E9:df W (dN cp nT σ) F1 H1 (kS cp nT e1) σ8 F9 H9 e8:=((X6.trans X7.s).trans X8).trans X9.s
        have s9:av F5 F9:=(s6.trans sF7).trans X9.sf
        cases b8 with
        | false=>
          rw [if_neg (by simp)] at hc6
          exact yY (.mk R9 E9 fl9 no9 hlH9 (da6.mono (sF7.trans X9.sf)) ⟨s9,hc6⟩)
        | true=>
          rw [if_pos rfl] at hc6
          obtain⟨⟨r,e10⟩,c10,hc6⟩:=Option.bind_eq_some_iff.mp hc6
          obtain⟨d,c11,hc6⟩:=Option.bind_eq_some_iff.mp hc6
          split at hc6
          case isFalse=>cases hc6
          case isTrue hlen=>
          refine yZ ⟨F9,e8,r,e10,R9,c10,fun Fa Ha v Xa Ra Aa=>?_⟩
          have hlHa:Ha l=some (.lst vs6):=Xa.tmp l _ hlH9 no9
          have fla:Fa l=none:=Xa.fr l vs6 fl9 hlH9 no9
          have noa:¬cv σ8 e10 Ha l:=fun z=>by
            rcases Xa.ow l z with z | z
            · exact no9 z
            · rw [hlH9] at z;cases z
          obtain⟨Fb,Rb,sb,db,fb⟩:=dy.frozen Ra (rs:=[r]) (vs:=[v]) ⟨v,[],rfl,Aa,rfl⟩ (nh c11)
          have flb:Fb l=none:=fb l fla (by rw [hlH9];simp)
          have Xb:=Xa.frz sb fb
          have ll:=da6.len
          have sl:sizeLine=16777216:=sizeLine_eq
          have dv:DA K Fb d v:=by
            simp only [aC] at db
            obtain⟨v',r',e',hv,_⟩:=db
            cases e';exact hv
          obtain⟨Rc,oc⟩:=Rb.putT (ws:=vs6++[v]) flb noa
          exact⟨vs6,hlHa,by lia,.mk Rc ((E9.trans Xb.s).putT hl oc) flb (fun z=>noa ((oc l).mp z)) am ((da6.mono (sF7.trans (X9.sf.trans (Xa.sf.trans sb)))).append (aC.one dv)) ⟨s9.trans (Xa.sf.trans sb),hc6⟩⟩
      · have hd2:its2.drop j=[]:=List.drop_eq_nil_of_le (by lia)
        rw [hd2] at hc6
        cases hc6
        exact .inl ⟨stop2 j (by lia),.mk R6 X6 fl6 no6 hl6 da6 hc⟩
  · have hd:items.drop i=[]:=List.drop_eq_nil_of_le (by lia)
    rw [hd] at hc
    cases hc
    refine .inl ⟨stop i (by lia),?_⟩
    obtain⟨R9,X9,o9⟩:=mG R1 sub gW X'.sf X'.dom X'.fr X'.lst X'.tmp R' (fun i k xs g1 g2=>X'.wr k fun z=>by
      obtain⟨s,g⟩:=dY g2
      have:=(List.getElem?_eq_some_iff.mp g).1
      have:=hW k z
      lia) fun i k xs g1 g2=>by
        obtain⟨s,g⟩:=dY g2
        unfold ir at hB
        have hb:=List.all_eq_true.mp hB _ (List.mem_of_getElem? g)
        simp only [g1,g2,Option.getD_some,wA,Bool.not_true,Bool.false_or] at hb
        exact tS.mp hb
    exact q F' H' (.ref l) (X1.trans X9) R9 ⟨l,vs,rfl,X1.dom l hl,fl,hl',da,fun z=>R1.ownH l (o9 l z) hl⟩
end
theorem PG.wide{X:Cx}{K:PySem.W.Frag}{tg:Expr}{g:FG}{W W':List Nat}(h:PG X tg (fG K g W))(hw:∀j,j∈W→j∈W'):PG X tg (fG K g W'):=h.mono fun v σ H Q ⟨F,e,x,e',R,d,hg,q⟩=>⟨F,e,x,e',R,d,hg,fun σ' x=>q σ' (x.mono hw)⟩
section
variable{X:Cx}{K:PySem.W.Frag}{pos:Pos}
end
theorem qF{X:Cx}{ix:Nat}{nm:Str}{posn poss:Pos}{elt iter tg iter2 tg2:Expr}{ifs ifs2:List Expr}{scope:Scope}{pos:Pos}{wi wi2:TI}{g g2:TG}{tc tc2:TT}{te:TE}(sc0:Scope)(N0:List Str)(cp:List (Nat × Str))(tgN:List Str)
    (hc:X.calm=true)(hsc:X.env.scope=sc0)(hN0:X.N=N0)(hi:PI X tg iter wi)
    (hg:∀C s0 H0 fp,PG (ar X scope cp tgN C s0 H0 fp) tg g)
    (ht:∀C s0 H0 fp,rB (ar X scope cp tgN C s0 H0 fp) ifs tc)
    (hi2:∀C s0 H0 fp,PI (ar X scope cp tgN C s0 H0 fp) tg2 iter2 wi2)
    (hg2:∀C s0 H0 fp,PG (ar X scope cp tgN C s0 H0 fp) tg2 g2)
    (ht2:∀C s0 H0 fp,rB (ar X scope cp tgN C s0 H0 fp) ifs2 tc2)
    (he:∀C s0 H0 fp,PE (ar X scope cp tgN C s0 H0 fp) elt te)
    (hk:scope.kind=.function)(hcell:∀y∈scope.names,y.2≠.cell)(hnames:∀y∈scope.names,y.2=.local→scope.names.lookup y.1=some .local)
    (hfr:∀y∈scope.names,y.2=.free→scope.names.lookup y.1=some .free∧sc0.names.lookup y.1=some .cell)
    (hcp:∀p∈cp,N0[p.1]?=some p.2)(hcq:∀p∈cp,sc0.names.lookup p.2=some .cell∧scope.names.lookup p.2=some .free)
    (hNd:X.N.Nodup)(hix:X.N[ix]?=some nm)(hlc:X.env.scope.names.lookup nm=some .local)(hsw:swapsWith (.ListComp elt [⟨tg,iter,ifs,0⟩,⟨tg2,iter2,ifs2,0⟩] scope pos) (some (.Name nm posn)) poss.line X.env=pure true)
    (hs2:∀C s0 H0 fp x,foldedSetIterable iter2 (ar X scope cp tgN C s0 H0 fp).env x=pure x)(hs:∀x,foldedSetIterable iter X.env x=pure x:=by intro _;rfl):
    PS X (.Assign [.Name nm posn] (.ListComp elt [⟨tg,iter,ifs,0⟩,⟨tg2,iter2,ifs2,0⟩] scope pos) poss) (z_ (sN cp tgN.length wi g tc wi2 g2 tc2 te) (tP ix)):=by
  intro pins s σ H D0 I h
  let Q:VK:=fun x H1=>D0.nx (σ.set ix (some x)) H1
  have h:sN cp tgN.length wi g tc wi2 g2 tc2 te σ H Q:=h
  have hkind:∀x,X.env.kindOf x=sc0.names.lookup x:=fun x=>by unfold Env.kindOf;rw [hsc]
  have hfree:∀y∈scope.names,y.2=.free→∃c,X.env.cells.lookup y.1=some c:=fun y hy e=>I.ok.has y.1 (.inl (by rw [hkind];exact(hfr y hy e).2))
  rw [exec_Assign_Name_used _ _ _ _ hsw]
  refine wpAny_bind (wpAny_standAt (wpAny_bind ?_))
  unfold evalThenUse
  refine wpAny_bind ?_
  refine wpAny_comprehension_free (use:=some (assign (.Name nm posn) X.env)) rfl hs (i9 hfree) hk hnames (wpAny_mono (hi pins s σ H _ I h.go) (fun xv s₁ h₁=>wpAny_mono h₁ (fun itv s₂ h₂=>?_) fun _ _ e=>e) fun _ _ e=>e)
  obtain⟨it,fp,tn,J,H2,rfl,I2,T,st2,f2,hq⟩:=h₂
  refine wpAny_newObj_type ?_
  have hlF:H2 s₂.heap.objs.size=none:=I2.hok.fresh (Nat.le_refl _)
  have I3:az X pins σ (aV H2 s₂.heap.objs.size (.lst [])) {s₂ with heap:=s₂.heap.push {cls:=.type "list",data:=.seq ([]:List Value).toArray}}:=I2.lnew (t':=s₂.toks) .nil (Nat.zero_le _)
  obtain⟨W,⟨m0,w0⟩,turn⟩:=hq _ hlF
  have f3:∀b∈fp,gv X pins (aV H2 s₂.heap.objs.size (.lst [])) b:=fun b hb=>by
    obtain⟨f0,fr⟩:=f2 b hb
    obtain⟨o,ho,_⟩:=T.obj _ _ st2 b hb
    exact⟨by rw [ax (Nat.ne_of_lt (Heap.lt_size ho))];exact f0,fr⟩
  have st3:tn 0 (s₂.heap.push {cls:=.type "list",data:=.seq ([]:List Value).toArray}):=T.keep _ _ _ st2 fun b _ o e=>Heap.get?_push_of_some _ e
  generalize hD:s₂.heap.objs.size=D at*
  generalize hs3:({s₂ with heap:=s₂.heap.push {cls:=.type "list",data:=.seq ([]:List Value).toArray}}:Shared)=s₃ at*
  have hst3:tn 0 s₃.heap:=by rw [←hs3];exact st3
  refine wpAny_newFunctionEnv hcell (by intro y hy;simp at hy) (fun h₁ hns₁ hsb₁=>?_) hk
  generalize hC:s₃.heap.objs.size=C at*
  have old:∀b o,s₃.heap.get? b=some o→h₁.get? b=some o:=fun b o e=>hsb₁.extBut b o (by rw [←hC];exact Nat.ne_of_lt (Heap.lt_size e)) (Heap.get?_push_of_some _ e)
  have nC:∀b o,s₃.heap.get? b=some o→b≠C:=fun b o e=>by rw [←hC];exact Nat.ne_of_lt (Heap.lt_size e)
  have hHC:(aV H2 D (.lst [])) C=none:=I3.hok.fresh (by rw [hC];exact Nat.le_refl _)
  have clS:∀x c,(fw X.env scope.names []).lookup x=some c→X.env.cells.lookup x=some c:=fun x c e=>gO _ _ x c hfree (fun _ _ z=>by simp at z) e
  have clH:∀x,(∃y∈scope.names,y.1=x∧y.2=.free)→∃c,(fw X.env scope.names []).lookup x=some c:=fun x e=>jo _ _ x (.inl e)
  have ok':(ar X scope cp tgN C s₃ (aV H2 D (.lst [])) fp).Ok:=by
    refine⟨I.ok.mod,hk,I.ok.glob,I.ok.blt,by rw [←hC];exact Nat.le_refl _,fun x y c e1 e2=>I.ok.inj x y c (clS _ _ e1) (clS _ _ e2),fun x e=>clH x (b6 hcell e),fun x c e1 e2=>?_,I.ok.hd,I.ok.frames,.inl rfl,fun b hb=>?_,fun b o e=>I3.bs b o e,?_,fun b o e hb=>?_,fun b hb z=>?_,I3.stack,fun b hb=>I3.stkFree b hb⟩
    · exfalso
      have e1':scope.names.lookup x=some .local:=by simpa [ar] using e1
      have e2':=clS x c e2
      obtain⟨c',hc'⟩:∃y∈scope.names,y.1=x∧y.2=.free:=by
        by_cases q:∃y∈scope.names,y.1=x∧y.2=.free
        · exact q
        · exfalso
          have:∀(names:List (Str × NameKind)) (cs:List (Str × Addr)),(¬∃y∈names,y.1=x∧y.2=.free)→cs.lookup x=none→(fw X.env names cs).lookup x=none:=by
            intro names
            induction names with
            | nil=>intro cs _ h;exact h
            | cons y r ih=>
              intro cs hn hcs
              obtain⟨n,k⟩:=y
              refine ih _ (fun⟨y,hy,z⟩=>hn ⟨y,List.mem_cons_of_mem _ hy,z⟩) ?_
              by_cases hk:(k==NameKind.free)=true
              · rw [if_pos hk,List.lookup_cons]
                cases hx:x==n with
                | true=>exact absurd ⟨(n,k),List.mem_cons_self,(by simpa using hx:x=n).symm,by simpa using hk⟩ hn
                | false=>exact hcs
              · rw [if_neg hk];exact hcs
          have z:=this scope.names [] q rfl
          have e2'':(fw X.env scope.names []).lookup x=some c:=e2
          rw [z] at e2'';cases e2''
      have z:=(hfr c' hc'.1 hc'.2.2).1
      rw [hc'.2.1,e1'] at z;cases z
    · obtain⟨f0,f1,f4,f5,f6,f7⟩:=f3 b hb
      obtain⟨o,ho,_⟩:=T.obj _ _ hst3 b hb
      exact⟨nC b o ho,fun x c e=>f6 x c (clS x c e)⟩
    · exact Nat.le_trans I.ok.bsz I3.sz
    · obtain⟨f0,f1,f4,f5,f6,f7⟩:=f3 b hb
      rcases f5 with z | z
      · exact I.ok.noex b o e z
      · have:=(I.ok.bs b o e).1
        exact absurd (Nat.lt_of_lt_of_le (Heap.lt_size this) z) (Nat.lt_irrefl _)
    · obtain⟨f0,f1,f4,f5,f6,f7⟩:=f3 b hb
      rcases List.mem_cons.mp (I3.stkSub b z) with z | z
      · exact f1 z
      · exact f4 z
  have I4:az (ar X scope cp tgN C s₃ (aV H2 D (.lst [])) fp) [] (dN cp tgN.length σ) (aV H2 D (.lst [])) {s₃ with heap:=h₁,toks:=s₃.toks+([]:List (Str × Value)).length}:=by
    refine⟨ok',rfl,I3.bare,Un.kept old,⟨_,hns₁,fun i x v e1 e2 e3=>?_⟩,fun x c e=>?_,hHC,fun x c e=>I3.freeC x c (clS x c e),fun p hp=>by simp [ar] at hp,I3.hok.kept old,by simp [dN,ar]⟩
    · have hlt:i < cp.length:=by
        by_cases q:i < cp.length
        · exact q
        · exfalso
          unfold dN at e2
          rw [List.getElem?_append_right (by simp;lia)] at e2
          rw [List.getElem?_replicate] at e2
          split at e2<;>cases e2
      have e1':(cp.map (·.2))[i]?=some x:=by
        have e1'':(cp.map (·.2)++tgN)[i]?=some x:=e1
        rwa [List.getElem?_append_left (by simp;exact hlt)] at e1''
      have e2':(cp.map (fun p=>(σ[p.1]?).join))[i]?=some (some v):=by
        unfold dN at e2
        rwa [List.getElem?_append_left (by simp;exact hlt)] at e2
      rw [List.getElem?_map,List.getElem?_eq_getElem hlt] at e1' e2'
      have ex:(cp[i]).2=x:=by simpa using e1'
      have ev:(σ[(cp[i]).1]?).join=some v:=by simpa using e2'
      have ev':σ[(cp[i]).1]?=some (some v):=by
        cases q:σ[(cp[i]).1]? with
        | none=>rw [q] at ev;cases ev
        | some z=>rw [q] at ev;simp only [Option.join_some] at ev;rw [ev]
      have hN:=hcp cp[i] (List.getElem_mem hlt)
      rw [←hN0] at hN
      obtain⟨hcl,hcf⟩:=hcq cp[i] (List.getElem_mem hlt)
      rw [ex] at hN hcl hcf
      obtain⟨m,hn,hl⟩:=I3.loc
      obtain⟨u,r,l⟩:=hl _ x v hN ev' (.inr (.inl (by rw [hsc];exact hcl)))
      refine⟨u,r,.inr ?_⟩
      rcases l with ⟨k1,_⟩ | ⟨k1,c,hcc,o,ho,hd⟩
      · rw [hkind,hcl] at k1;cases k1
      · have e3':(relabel scope X.env).names.lookup x=some .local∨(relabel scope X.env).names.lookup x=some .cell∨(relabel scope X.env).names.lookup x=some .free:=e3
        have nl:(relabel scope X.env).names.lookup x=some .cell∨(relabel scope X.env).names.lookup x=some .free:=by
          rcases e3' with z | z | z
          · exact absurd z (de hcf)
          · exact .inl z
          · exact .inr z
        obtain⟨c',hc'⟩:=clH x (b6 hcell nl)
        have:=clS x c' hc'
        rw [hcc] at this;cases this
        exact⟨nl,c,hc',o,old c o ho,hd⟩
    · obtain⟨v,o,ho,hd⟩:=I3.cell x c (clS x c e)
      exact⟨v,o,old c o ho,hd⟩
  have hst4:tn 0 h₁:=T.keep _ _ _ hst3 fun b _ o e=>old b o e
  have loop:codeAny (model X.prog X.w) X.A (.compLoop (.ListComp elt [⟨tg,iter,ifs,0⟩,⟨tg2,iter2,ifs2,0⟩] scope pos) 0 (.ref it) (.ref D) (compEnvC scope (fw X.env scope.names []) C X.env))
      (compPost (model X.prog X.w) X.A X.xe (some (assign (.Name nm posn) X.env)) (fun _ s'=>wpAny (model X.prog X.w) X.A (pure ()) (fun _ s''=>wpAny (model X.prog X.w) X.A (pure Flow.next) (SP X pins D0) X.xe s'') X.xe s') (.ref D) C) {s₃ with heap:=h₁,toks:=s₃.toks+([]:List (Str × Value)).length}:=by
    refine om (fun n s'=>∃i σ' H',az (ar X scope cp tgN C s₃ (aV H2 D (.lst [])) fp) [] σ' H' s'∧tn i s'.heap∧(∀b∈fp,H' b=none)∧W i n σ' H') ?_ (n0:=m0) ⟨0,_,_,I4,hst4,fun b hb=>(f3 b hb).1,w0⟩
    rintro n s5 ⟨i,σ5,H5,I5,st5,fr5,w5⟩
    have stat:∀{H':Hp},(∀b∈fp,H' b=none)→∀b∈fp,gv (ar X scope cp tgN C s₃ (aV H2 D (.lst [])) fp) [] H' b:=fun hn b hb=>
      ⟨hn b hb,(ok'.exf b hb).1,ok'.exfs b hb,.inl hb,(ok'.exf b hb).2,fun p hp=>by simp [ar] at hp⟩
    rcases turn i n σ5 H5 w5 with ⟨stop,qn⟩ | ⟨go,N,hN,step⟩
    · refine bF (T.done (ar X scope cp tgN C s₃ (aV H2 D (.lst [])) fp) rfl rfl rfl hc i [] s5 σ5 H5 (fun _ _=>False) I5 (stat fr5) st5 stop) fun r s6 ⟨hr,I6⟩=>?_
      subst hr
      refine⟨fun _=>?_,fun v z=>by cases z⟩
      obtain⟨m,hn,_⟩:=I6.loc
      have I7:az X pins σ H5 s6:=by
        have key:∀h':Heap,Heap.SameBut C s6.heap h'→az X pins σ H5 {s6 with heap:=h'}:=fun h' sb=>by
          have ub:=I6.base
          have kp:∀b u,b≠C→s6.heap.get? b=some u→h'.get? b=some u:=fun b u ne e=>sb.extBut b u ne e
          have nit:∀b u,H5 b=some u→b≠C:=fun b u e z=>by
            have:=I6.free
            rw [z] at e
            rw [show H5 C=none from this] at e;cases e
          refine I3.call' (s':={s6 with heap:=h'}) (ch:=fp) I6.os ⟨fun b o e n hb hx=>kp b o (nC b o e) (ub.keep b o e n hb hx),fun b o e n hb hx=>?_,ub.free,fun b o e hx=>?_,ub.tups,ub.frzs,ub.tbls⟩ (fun b u e=>?_) I6.bare (fun b hb=>?_)
          · obtain⟨sl,q⟩:=ub.slot b o e n hb hx
            exact⟨sl,kp b _ (nC b o e) q⟩
          · obtain⟨o',q⟩:=ub.there b o e hx
            exact⟨o',kp b _ (nC b o e) q⟩
          · refine(I6.hok b u e).stay (fun c v hc q=>kp c v ?_ q) (fun _ q=>q) fun _ _ q=>q
            rcases hc with z | z
            · rw [z];exact nit b u e
            · exact nit c _ z
          · obtain⟨f0,f1,f4,f5,f6,f7⟩:=f3 b hb
            exact⟨f5,f1,f6,f7⟩
        exact key s6.heap ⟨rfl,fun _ _=>rfl⟩
      have fC:gv X pins H5 C:=I3.fpOk (by rw [hC];exact Nat.le_refl _) I6.free
      show wpAny (model X.prog X.w) X.A (assign (.Name nm posn) X.env (.ref D)) _ X.xe s6
      refine wpAny_assign_Name (kl (v:=.ref D) I7 hNd hix (Or.inl hlc) rfl (fun s' I' hsb=>?_) (Or.inr hlc))
      obtain⟨a,sb,ha⟩:=hsb
      have nCa:C≠a:=by
        rcases ha with z | z
        · rw [z];exact fC.2.1
        · exact fun e=>fC.2.2.2.2.1 _ _ z e.symm
      obtain⟨oN,esN,epN,hoN,rN⟩:=hn
      refine⟨m,⟨oN,esN,epN,(sb.2 C nCa).trans hoN,rN⟩,fun h' sb'=>wpAny_pure (wpAny_pure ?_)⟩
      have I8:az X pins (σ.set ix (some (.ref D))) H5 {s' with heap:=h',toks:=s'.toks}:=I'.turnedL (t':=s'.toks) (fp:=[C]) (fun b hb=>by rw [List.mem_singleton.mp hb];exact fC) fun b o nb e=>sb'.extBut b o (by simpa using nb) e
      exact⟨_,H5,I8,qn⟩
    · refine bF (T.item (ar X scope cp tgN C s₃ (aV H2 D (.lst [])) fp) rfl rfl rfl hc i [] s5 σ5 H5 (fun _ _=>False) I5 (stat fr5) st5 go) fun r s6 ⟨u,hr,h6⟩=>?_
      subst hr
      refine⟨fun z=>(by cases z),fun v z=>?_⟩
      cases z
      refine bF h6 fun _ s7 ⟨x,H7,I7,r7,y7,st7,fr7⟩=>?_
      have I7':=I7.pinned (stat fr7) (T.obj _ _ st7)
      have again:∀{σ8:L2.St} {H8:Hp} {s8:Shared},az (ar X scope cp tgN C s₃ (aV H2 D (.lst [])) fp) ([]++iH fp s7.heap) σ8 H8 s8→N σ8 H8→∃m,m < n∧∃i σ' H',az (ar X scope cp tgN C s₃ (aV H2 D (.lst [])) fp) [] σ' H' s8∧tn i s8.heap∧(∀b∈fp,H' b=none)∧W i m σ' H':=fun{σ8 H8 s8} I8 n8=>by
        obtain⟨m',hm,w8⟩:=hN σ8 H8 n8
        refine⟨m',hm,i+1,σ8,H8,I8.unpinned,T.keep _ _ _ st7 fun b hb o e=>(I8.pin (b,o) (List.mem_append_right _ (List.mem_append_right _ (bK hb e)))).1,fun b hb=>?_,w8⟩
        obtain⟨o,e,d⟩:=T.obj _ _ st7 b hb
        exact(I8.pin (b,o) (List.mem_append_right _ (List.mem_append_right _ (bK hb e)))).2.1
      refine bF (hg C s₃ (aV H2 D (.lst [])) fp _ s7 σ5 H7 x u _ I7' r7 (step x H7 y7)) fun _ s8 ⟨σ8,H8,I8,q8⟩=>?_
      refine bF (ht C s₃ (aV H2 D (.lst [])) fp _ s8 σ8 H8 _ I8 q8) fun ok s9 ⟨H9,I9,q9⟩=>?_
      cases ok with
      | false=>
        rw [if_neg Bool.false_ne_true] at q9 ⊢
        exact again I9 q9
      | true=>
        rw [if_pos rfl] at q9 ⊢
        exact fun k Q' E' hk=>wz (Y:=ar X scope cp tgN C s₃ (aV H2 D (.lst [])) fp) hc rfl (hi2 C s₃ _ fp) (hg2 C s₃ _ fp) (ht2 C s₃ _ fp) (he C s₃ _ fp) (hs2 C s₃ _ fp) I9 q9 k Q' E' fun s' ⟨σ11,H11,I11,q11⟩=>hk s' (again I11 q11)
  exact codeAny_compStart_list loop (T.self X.A 0 _ _ _ hst4 loop)
section
variable{X:Cx}{K:PySem.W.Frag}{pos:Pos}
theorem sy{ix:Nat}{nm:Str}{posn poss:Pos}{elt iter tg iter2 tg2:Expr}{ifs ifs2:List Expr}{scope:Scope}{fi fi2:FI}{g g2:FG}{ft ft2:FT}{fe:FE}{W W2:List Nat}(sc0:Scope)(N0:List Str)(cp:List (Nat × Str))(tgN:List Str)
    (hc:X.calm=true)(hsc:X.env.scope=sc0)(hN0:X.N=N0)(hi:PI X tg iter (fI K fi))
    (hg:∀C s0 H0 fp,PG (ar X scope cp tgN C s0 H0 fp) tg (fG K g W))
    (ht:∀C s0 H0 fp,rB (ar X scope cp tgN C s0 H0 fp) ifs (fT K ft))
    (hi2:∀C s0 H0 fp,PI (ar X scope cp tgN C s0 H0 fp) tg2 iter2 (fI K fi2))
    (hg2:∀C s0 H0 fp,PG (ar X scope cp tgN C s0 H0 fp) tg2 (fG K g2 W2))
    (ht2:∀C s0 H0 fp,rB (ar X scope cp tgN C s0 H0 fp) ifs2 (fT K ft2))
    (he:∀C s0 H0 fp,PE (ar X scope cp tgN C s0 H0 fp) elt (fE K fe))
    (hk:scope.kind=.function)(hcell:∀y∈scope.names,y.2≠.cell)(hnames:∀y∈scope.names,y.2=.local→scope.names.lookup y.1=some .local)
    (hfr:∀y∈scope.names,y.2=.free→scope.names.lookup y.1=some .free∧sc0.names.lookup y.1=some .cell)
    (hcp:∀p∈cp,N0[p.1]?=some p.2)(hcq:∀p∈cp,sc0.names.lookup p.2=some .cell∧scope.names.lookup p.2=some .free)(hnd:(cp.map (·.1)).Nodup)(hW:∀j∈W++W2,cp.length≤j)
    (hNd:X.N.Nodup)(hix:X.N[ix]?=some nm)(hlc:X.env.scope.names.lookup nm=some .local)(hsw:swapsWith (.ListComp elt [⟨tg,iter,ifs,0⟩,⟨tg2,iter2,ifs2,0⟩] scope pos) (some (.Name nm posn)) poss.line X.env=pure true)
    (hs2:∀C s0 H0 fp x,foldedSetIterable iter2 (ar X scope cp tgN C s0 H0 fp).env x=pure x)(hs:∀x,foldedSetIterable iter X.env x=pure x):
    PS X (.Assign [.Name nm posn] (.ListComp elt [⟨tg,iter,ifs,0⟩,⟨tg2,iter2,ifs2,0⟩] scope pos) poss) (fS K (aO ix (ko cp tgN.length fi g ft fi2 g2 ft2 fe)) [ix]):=(qF sc0 N0 cp tgN hc hsc hN0 hi (fun C s0 H0 fp=>(hg C s0 H0 fp).wide fun j hj=>List.mem_append_left W2 hj) ht hi2 (fun C s0 H0 fp=>(hg2 C s0 H0 fp).wide fun j hj=>List.mem_append_right W hj) ht2 he hk hcell hnames hfr hcp hcq hNd hix hlc hsw hs2 hs).mono fun D σ H h=>by
  obtain⟨F,e,fl,R,hf,q⟩:=h
  unfold aO at hf
  obtain⟨⟨r,e1⟩,h1,hf⟩:=Option.bind_eq_some_iff.mp hf
  obtain⟨e2,h2,hf⟩:=Option.map_eq_some_iff.mp hf
  cases hf
  refine vp hnd hW ⟨F,e,r,e1,R,h1,fun F1 H1 v X1 R1 A1=>?_⟩
  obtain⟨x,R2⟩:=sv R X1 R1 A1 h2
  exact q F1 H1 _ x R2
variable{o:Expr}{fo:FE}{apos cpos:Pos}
end
end L2
namespace L2
open PySem PySem.Spec PyProof.Rows
section
variable{X:Cx}{K:PySem.W.Frag}
def G0:List Int→Int
  | []=>0
  | x::r=>r.foldl max x
end
end L2
namespace L2
open PySem PySem.Spec PyProof.Rows
structure GL (f:Fr):Prop where
  pos:0 < f.2
  cop:Int.gcd f.1 f.2=1
def GU(t:eM)(b:Bool):Fr:=if b then(t.top,t.bot) else(t.bot - t.top,t.bot)
abbrev Pg:=List Int × Int
def G4(t:eM)(p:Pg):Bool:= !p.1.contains t.one&& !p.1.contains t.other
def FB(t:eM)(p:Pg):Pg:=(p.1++[t.one,t.other],p.2+t.worth)
def G6(ps:List Pg)(t:eM):List Pg:=ps++(ps.filter (G4 t)).map (FB t)
def G5(ts:List eM):List Pg:=ts.foldl G6 [([],0)]
structure Gs (k:Nat) (ps:List Pg):Prop where
  ne:ps≠[]
  len:ps.length≤2 ^ k
  pt:∀p∈ps,p.1.length≤2*k∧0≤p.2∧p.2≤1000*(k:Int)
def Gw(ts:List eM):Int:=G0 ((G5 ts).map (·.2))
end L2
namespace L2
open PySem PySem.Spec PyProof.Rows
end L2
namespace L2
open PySem PySem.Spec PyProof.Rows
section
variable{prog:Program}{w:World}{A:Around}{E:Value→Shared→Prop}{s:Shared}
end
section
variable{X:Cx}{a:Expr}{ta:TA}{p p2 pos pos2:Pos}
variable{K:PySem.W.Frag}{fs:FA}{p3:Pos}
end
end L2
namespace L2
open PySem PySem.Spec PyProof.Rows
def C':PyData→Bool
  | .int _=>true
  | _=>false
def fF(lo hi:Int):PyData→Bool
  | .int i=>decide (lo≤i)&&decide (i≤hi)
  | _=>false
theorem m7{α:Type}(p:α→Bool):∀(ds:List α),lH (ds.map fun d=>PyData.bool (p d))=some (ds.map p)
  | []=>rfl
  | d::r=>by simp [lH,m7 p r]
theorem pX{α:Type}{e:En}(p:α→Bool)(ds:List α):g1 (kP nu) e [.l (ds.map fun d=>.bool (p d))]=some (.d (.bool (ds.all p))):=by
  simp [g1,kP,bT,nu,m7 p,List.all_map]
theorem cut_len{xs:List PyData}{lo hi:Option Int}:(cutD xs lo hi).length≤xs.length:=by
  unfold cutD
  rw [List.length_take,List.length_drop]
  lia
theorem m8{g:FG}{ft:FT}{fe:FE}(P:Nat→En→Prop)(R:PyData→Prop):∀(items:List PyData) (k:Nat) (e:En) (acc:List PyData),(∀i x e,items[i]?=some x→P (k+i) e→∃e1 r d e2,g x e=some e1∧ft e1=some (true,e1)∧fe e1=some (r,e2)∧rR r=some d∧R d∧P (k+i+1) e2)→P k e→acc.length+items.length≤1000000→
    ∃out e',cM g ft fe items e acc=some (acc++out,e')∧out.length=items.length∧(∀d∈out,R d)∧P (k+items.length) e'
  | [],k,e,acc,_,h,_=>⟨[],e,by simp [cM],rfl,(fun _ h=>by cases h),h⟩
  | x::r,k,e,acc,hs,h,hl=>by
    obtain⟨e1,v,d,e2,h1,h2,h3,h3',h4,h5⟩:=hs 0 x e rfl h
    simp only [List.length_cons] at hl
    obtain⟨out,e',h6,h7,h8,h9⟩:=m8 P R r (k+1) e2 (acc++[d]) (fun i y e hy hp=>by
      have:=hs (i+1) y e (by simpa using hy) (by rw [show k+(i+1)=k+1+i by lia];exact hp)
      rw [show k+(i+1)+1=k+1+i+1 by lia] at this
      exact this) (by simpa using h5) (by simp;lia)
    refine⟨d::out,e',?_,by simp [h7],fun y hy=>?_,by rw [List.length_cons,show k+(r.length+1)=k+1+r.length by lia];exact h9⟩
    · unfold cM
      simp only [h1,h2,h3,h3',Option.bind_some,if_true]
      rw [if_pos (by lia),h6]
      simp
    · rcases List.mem_cons.mp hy with rfl | hy
      · exact h4
      · exact h8 y hy
theorem vq{cp:List (Nat × Str)}{nT:Nat}{fi:FI}{g:FG}{ft:FT}{fe:FE}{e e1 eo:En}{items out:List PyData}(h1:fi e=some (items,[],e1))(h3:cM g ft fe items (kS cp nT e1) []=some (out,eo))(hb:ir cp eo e1=true):cm cp nT fi g ft fe e=some (.l out,jZ (jG cp) eo e1):=by
  unfold cm
  rw [h1]
  simp only [Option.bind_some,List.all_nil,if_true,h3]
  rw [if_pos hb]
end L2
namespace L2
open PySem PySem.Spec PyProof.Rows
mutual
def yy:Nat→PyData→Bool
  | _,.none=>true
  | _,.bool _=>true
  | _,.int i=>decide (i.natAbs < 2 ^ 128)
  | _,.str x=>PyData.strOk x&&decide (x.length≤10)
  | k,.list xs=>decide (0 < k)&&nI (k - 1) xs
  | k,.tuple xs=>decide (0 < k)&&nI (k - 1) xs
  | _,.dict _=>false
def nI:Nat→List PyData→Bool
  | _,[]=>true
  | k,x::r=>yy k x&&nI k r
end
mutual
def wt:PyData→Nat
  | .list xs=>n5 xs+1
  | .tuple xs=>n5 xs+1
  | .dict _=>1
  | .none=>1
  | .bool _=>1
  | .int _=>1
  | .str _=>1
def n5:List PyData→Nat
  | []=>0
  | x::r=>wt x+n5 r
end
theorem ri:∀(ts:List Str) (k:Nat) (acc:Str),(textFrom k acc ts).length≤acc.length+piled ts
  | [],_,acc=>by show acc.length≤acc.length+0;lia
  | t::r,k,acc=>by
    have ih:=ri r (k+1) (acc++(if k > 0 then ", " else "":String)++t)
    have e:(acc++(if k > 0 then ", " else "":String)++t).length≤acc.length+2+t.length:=by
      rw [strLen_append,strLen_append]
      have:(Str.ofString (if k > 0 then ", " else "")).length≤2:=by split<;>decide
      lia
    show(textFrom (k+1) _ r).length≤_
    rw [gZ];lia
theorem qh(ts:List Str):(listText ts).length≤piled ts+2:=by
  unfold listText
  rw [strLen_append]
  have h:=ri ts 0 "["
  have h1:(("[":Str)).length=1:=by decide
  have h2:(("]":Str)).length=1:=by decide
  lia
theorem mF:∀(ts:List Str) (k:Nat) (acc:Str),PyData.strOk acc=true→(∀t∈ts,PyData.strOk t=true)→PyData.strOk (textFrom k acc ts)=true
  | [],_,acc,h,_=>h
  | t::r,k,acc,h,hs=>mF r (k+1) _ (ed (ed h (bQ _)) (hs t (by simp))) fun u hu=>hs u (by simp [hu])
theorem nS{ts:List Str}(h:∀t∈ts,PyData.strOk t=true):PyData.strOk (listText ts)=true:=ed (mF ts 0 _ (bQ _) h) (bQ _)
structure C6 (d:PyData) (k:Nat):Prop where
  lay:d.canLay0=true
  sh:d.showable=true
  dp:d.depth≤k
  ln:d.shown.length+2≤104*wt d
  so:PyData.strOk d.shown=true
theorem lE{d:PyData}{n:Nat}{k:Nat}(h:Sz n 0 d∨Sz n 2 d)(hn:n≤102)(hw:wt d=1)(hl:d.canLay0=true)(hd:d.depth=0):C6 d k:=by
  rcases h with h | h<;>exact⟨hl,h.sh,by lia,by have:=h.ln;lia,h.so⟩
mutual
theorem lF{k:Nat}:∀{d:PyData},yy k d=true→C6 d k
  | .none,_=>⟨rfl,rfl,by simp [PyData.depth],by show(Str.ofString "None").length+2≤104*1;decide,bQ _⟩
  | .bool b,_=>lE (.inr Sz.bool) (by decide) rfl rfl (by simp [PyData.depth])
  | .int i,h=>by
    simp only [yy,decide_eq_true_eq] at h
    exact lE (.inr (Sz.int10 (n:=39) (m:=128) (show Bt 128 i from h) (by decide) (by decide) (Nat.lt_of_lt_of_le h (by decide)) (by decide))) (by decide) rfl rfl (by simp [PyData.depth])
  | .str x,h=>by
    simp only [yy,Bool.and_eq_true,decide_eq_true_eq] at h
    exact lE (.inr (Sz.str (n:=10) h.1 h.2)) (by decide) rfl (by simpa [PyData.canLay0] using h.1) (by simp [PyData.depth])
  | .dict _,h=>by simp [yy] at h
  | .list xs,h=>by
    simp only [yy,Bool.and_eq_true,decide_eq_true_eq] at h
    obtain⟨a1,a2,a3,a4,a5⟩:=oe h.2
    have:=qh (PyData.shownAll xs)
    refine⟨by simpa [PyData.canLay0] using a1,a2,by simp only [PyData.depth];lia,by simp only [PyData.shown,wt];lia,by simp only [PyData.shown];exact nS a5⟩
  | .tuple xs,h=>by
    simp only [yy,Bool.and_eq_true,decide_eq_true_eq] at h
    obtain⟨a1,a2,a3,a4,a5⟩:=oe h.2
    have:=km (PyData.shownAll xs)
    refine⟨by simpa [PyData.canLay0] using a1,a2,by simp only [PyData.depth];lia,by simp only [PyData.shown,wt];lia,by simp only [PyData.shown];exact nV a5⟩
theorem oe{k:Nat}:∀{ds:List PyData},nI k ds=true→PyData.canLayAll0 ds=true∧PyData.showableAll ds=true∧PyData.depthAll ds≤k∧piled (PyData.shownAll ds)≤104*n5 ds∧∀t∈PyData.shownAll ds,PyData.strOk t=true
  | [],_=>⟨rfl,rfl,by simp [PyData.depthAll],by simp [PyData.shownAll,piled],by simp [PyData.shownAll]⟩
  | d::r,h=>by
    simp only [nI,Bool.and_eq_true] at h
    obtain⟨a1,a2,a3,a4,a5⟩:=lF h.1
    obtain⟨b1,b2,b3,b4,b5⟩:=oe h.2
    refine⟨by simp only [PyData.canLayAll0,a1,b1,Bool.and_self],by simp only [PyData.showableAll,a2,b2,Bool.and_self],by simp only [PyData.depthAll];lia,by simp only [PyData.shownAll,gZ,n5];lia,fun t ht=>?_⟩
    simp only [PyData.shownAll,List.mem_cons] at ht
    rcases ht with rfl | ht
    · exact a5
    · exact b5 t ht
end
theorem wb{e:En}{s:Str}(h:PyData.strOk s=true):bw true e (.d (.str s)) (.d (.str s))=some (.d (.bool false)):=by
  unfold bw
  simp only [eN,Option.bind_some]
  have h0:SeqAt.shaped (.str s)=true:=by simp [SeqAt.shaped,PyData.canLay0,PyData.depth,h]
  rw [h0]
  simp [PyData.eqv]
theorem gC{lo hi:Int}{d:PyData}(h:fF lo hi d=true):∃i,d=.int i∧lo≤i∧i≤hi:=by
  cases d with
  | int i=>exact⟨i,rfl,by simpa [fF] using h⟩
  | _=>simp [fF] at h
theorem lO{e:En}{a b c d:Int}:bw false e (.d (.tuple [.int a,.int b])) (.d (.tuple [.int c,.int d]))=some (.d (.bool (a==c&&b==d))):=by
  unfold bw
  have h0:∀x y:Int,SeqAt.shaped (.tuple [.int x,.int y])=true:=fun x y=>by simp [SeqAt.shaped,PyData.canLay0,PyData.canLayAll0,PyData.depth,PyData.depthAll]
  simp only [eN,Option.bind_some,h0,Bool.and_self,if_true]
  simp [PyData.eqv,PyData.eqvAll]
end L2
namespace L2
open PySem PySem.Spec PyProof.Rows
section
variable{X:Cx}{K:PySem.W.Frag}
variable{a b:Expr}{fa fb:FE}{pos:Pos}
end
end L2
namespace L2
open PySem PySem.Spec PyProof.Rows
def tx(s:Str):List Nat:=s.cps.toList
end L2
namespace L2
open PySem PySem.Spec PyProof.Rows
end L2
namespace L2
open PySem PySem.Spec PyProof.Rows
end L2
namespace L2
open PySem PySem.Spec PyProof.Rows
section
variable{X:Cx}{K:PySem.W.Frag}{es:List Expr}{k0:Nat}{tp:Pos}{a b:Expr}{fs:FA}{p pos:Pos}
end
end L2
namespace L2
open PySem PySem.Spec PyProof.Rows
def GZ(x:Nd)(b:Bool):Int:=if b=true then x.yes else x.no
def AW(T:List Nd)(i:Nat)(b:Bool):Int:=match T[i]? with
  | some x=>GZ x b
  | none=> -1
def Fy(T:List Nd):Prop:=∀(i j:Nat) (a b:Bool),AW T i a=AW T j b→AW T i a≠ -1→i=j∧a=b
def Gj(w:Wt):Int × Int:=(w.par,w.side)
structure Hc (T:List Nd) (ws:List Wt):Prop where
  unq:Fy T
  rng:∀i a,AW T i a= -1∨(0 < AW T i a∧AW T i a < (T.length:Int))
  free:∀w∈ws,w.par= -1∨(0≤w.par∧w.par < (T.length:Int)∧AW T w.par.toNat (w.side==0)= -1)
  dst:(ws.map Gj).Nodup
  side:∀w∈ws,w.side=0∨w.side=1
structure He (T:List Nd) (w0 ws order:List Int):Prop where
  nd:(order++ws).Nodup
  par:∀v∈order++ws,v=0∨∃u∈order,∃b,AW T u.toNat b=v∧v≠ -1
  fst:(order=[]∧ws=w0)∨order[0]?=some 0
theorem vo{cp:List (Nat × Str)}{nT:Nat}{fi fi2:FI}{g g2:FG}{ft ft2:FT}{fe:FE}{e e1 cs:En}{t t':En}{items out:List PyData}(h1:fi e=some (items,[],e1))(hc:kS cp nT e1=cs++t)(hl:cs.length=cp.length)(h3:gP g ft fi2 g2 ft2 fe items (kS cp nT e1) []=some (out,cs++t')):ko cp nT fi g ft fi2 g2 ft2 fe e=some (.l out,e1):=by
  have key:=gL (cp:=cp) (nT:=nT) (fi:=fun _=>some ([.none],[],e1)) (g:=fun _ _=>some (cs++t')) (ft:=fun e=>some (false,e)) (fe:=fe) (e:=e) (cs:=cs) (t:=t) (t':=t') (out:=[]) rfl hc hl rfl
  have c0:cM (fun _ _=>some (cs++t')) (fun e=>some (false,e)) fe [.none] (kS cp nT e1) []=some ([],cs++t'):=rfl
  unfold cm at key
  unfold ko
  rw [h1]
  simp only [Option.bind_some,List.all_nil,if_true,h3,c0] at key ⊢
  split at key
  · rename_i q
    rw [if_pos q]
    have:=Option.some.inj key
    have e2:jZ (jG cp) (cs++t') e1=e1:=(Prod.ext_iff.mp this).2
    rw [e2]
  · cases key
end L2
namespace L2
open PySem PySem.Spec PyProof.Rows
section
variable{prog:Program}{w:World}{A:Around}{E:Value→Shared→Prop}{s:Shared}
end
section
variable{X:Cx}{tg a:Expr}{ta:TA}{p pos:Pos}
end
section
variable{X:Cx}{K:PySem.W.Frag}{σ:L2.St}{tg a:Expr}{fs:FA}{p pos:Pos}
end
end L2
namespace L2
open PySem PySem.Spec PyProof.Rows
section
variable{X:Cx}{a k:Expr}{p2 pos:Pos}{fa fk:FE}{K:PySem.W.Frag}
theorem sr(n:Nat):Builtin.Slice.slicePlaces ((n:Int) - 1) (-1) (-1)=n:=by
  unfold Builtin.Slice.slicePlaces
  rw [if_neg (by decide),show(- -1:Int)=1 from rfl]
  split<;>lia
theorem pT{α β:Type}{f g:α→Option β}:∀{l:List α},(∀x∈l,f x=g x)→l.filterMap f=l.filterMap g
  | [],_=>rfl
  | x::r,h=>by rw [List.filterMap_cons,List.filterMap_cons,h x (by simp),pT fun y hy=>h y (by simp [hy])]
theorem xx(xs:Array Value):((List.range xs.size).filterMap fun(m:Nat)=>xs[((xs.size:Int) - 1+(m:Int)*(-1)).toNat]?).toArray=xs.toList.reverse.toArray:=by
  have e:(List.range xs.size).filterMap (fun(m:Nat)=>xs[((xs.size:Int) - 1+(m:Int)*(-1)).toNat]?)=((List.range xs.size).map fun k=>xs.size - 1 - k).filterMap (xs[·]?):=by
    rw [List.filterMap_map]
    refine pT fun m hm=>?_
    have:=List.mem_range.mp hm
    show xs[_]?=xs[xs.size - 1 - m]?
    congr 1
    lia
  rw [e,PySem.W.krv_range,List.filterMap_reverse,PySem.W.krv_all]
section
variable{prog:Program}{w:World}{A:Around}{E:Value→Shared→Prop}{s:Shared}
theorem kj{sl:Addr}{t:Tok}{n:Nat}{Q:Int × Int × Nat→Shared→Prop}(hs:s.heap.IsSliceOf sl .none .none (.int (-1) t))(h:Q ((n:Int) - 1, -1,n) s):wpAny (model prog w) A (Builtin.Slice.sliceApplied (.ref sl) (pure (n:Int))) Q E s:=by
  obtain⟨os,hos,hcs,hds⟩:=id hs
  unfold Builtin.Slice.sliceApplied Builtin.Slice.sliceFields
  refine wpAny_bind (wpAny_bind (wpAny_field hos hds (x:=.none) rfl (wpAny_bind (wpAny_field hos hds (x:=.none) rfl (wpAny_bind (wpAny_field hos hds (x:=.int (-1) t) rfl (wpAny_pure ?_)))))))
  refine wpAny_bind (HT.slicePart_ (.int (-1) t) ?_)
  show wpAny _ _ (if ((-1:Int)==0)=true then _ else _) _ _ s
  rw [if_neg (by decide)]
  refine wpAny_bind (HT.slicePart_ .none (wpAny_bind (HT.slicePart_ .none (wpAny_bind (wpAny_pure ?_)))))
  show wpAny _ _ (pure ((n:Int) - 1,(-1:Int),Builtin.Slice.slicePlaces ((n:Int) - 1) (-1) (-1))) _ _ s
  rw [sr]
  exact wpAny_pure h
theorem jw{t sl:Addr}{items:Array Value}{tk:Tok}{Q:Value→Shared→Prop}(ht:IsTup s.heap t items)(hs:s.heap.IsSliceOf sl .none .none (.int (-1) tk))
    (h:Q (.ref s.heap.objs.size) {s with heap:=s.heap.push {cls:=.type "tuple",data:=.seq items.toList.reverse.toArray}})(hsz:items.size≤sizeLine):wpAny (model prog w) A (getItem (.ref t) (.ref sl)) Q E s:=by
  have htake:sizeOk (.seq items.toList.reverse.toArray):=by
    show items.toList.reverse.toArray.size≤sizeLine
    rw [List.size_toArray,List.length_reverse,Array.length_toList]
    exact hsz
  obtain⟨os,hos,hcs,hds⟩:=id hs
  have hTs:s.TypeIs (.ref sl) "slice":=⟨os,hos,hcs⟩
  unfold getItem
  try with_reducible refine wpAny_holding ?_
  first | refine wpAny_bind (wpAny_pure ?_) | skip
  refine wpAny_bind (wpAny_sequenceKey ht.typeIs (by decide) ?_)
  refine wpAny_bind (wpAny_callSpecial?_slot (name:=Str.ofString "__getitem__") ht.typeIs PyProof.Rows.slot_tuple_getitem
    (wpAny_call_entry PyProof.Rows.slot_tuple_getitem ht.typeIs entry_tuple_getitem ?_ (args_tuple_getitem _ _)))
  show wpAny _ _ (Builtin.Tuple.tupleItemsOf (.ref t) >>= _) _ _ s
  refine wpAny_bind (tupleItemsOf_ ht ?_)
  refine wpAny_bind (wpAny_typeOf hTs ?_)
  rw [if_pos (by decide)]
  refine wpAny_bind (kj hs ?_)
  have hno:¬((((items.size:Int) - 1)==0&&(-1:Int)==1&&items.size==items.size)=true):=by
    intro q
    rw [Bool.and_eq_true,Bool.and_eq_true] at q
    have q1:((-1:Int)==1)=true:=q.1.2
    exact absurd q1 (by decide)
  show wpAny _ _ (if (((items.size:Int) - 1)==0&&(-1:Int)==1&&items.size==items.size)=true then _ else _) _ _ s
  rw [if_neg hno,xx]
  first
    | exact wpAny_bind (m:=Builtin.Tuple.tupleExact _) (wpAny_newObj_type (wpAny_pure ⟨_,rfl,wpAny_pure h⟩) htake)
    | exact wpAny_bind (m:=Builtin.Tuple.tupleExact _) (wpAny_newObj_type (wpAny_bind (wpAny_pure (wpAny_pure ⟨_,rfl,wpAny_pure h⟩))) htake)
    | exact wpAny_bind (wpAny_bind (m:=Builtin.Tuple.tupleExact _) (wpAny_newObj_type (wpAny_pure (wpAny_pure ⟨_,rfl,wpAny_pure h⟩)) htake))
    | exact wpAny_bind (wpAny_bind (m:=Builtin.Tuple.tupleExact _) (wpAny_newObj_type (wpAny_pure ⟨_,rfl,wpAny_pure h⟩) htake))
end
def G8(K:PySem.W.Frag)(te tk:TE):TE:=fun σ H Q=>te σ H fun x H1=>tk σ H1 fun y H2=>y=.int (-1)∧((∃a xs,x=.ref a∧fm K H2 a xs∧∀p,H2 p=none→Q (.ref p) (aV H2 p (.lst xs.reverse)))∨∃a xs,x=.ref a∧cZ K H2 a xs∧∀p,H2 p=none→Q (.ref p) (aV H2 p (.tup xs.reverse)))
theorem El{te tk:TE}(he:PE X a te)(hk:PE X k tk):PE X (.Subscript a (.Slice none none (some k) p2) pos) (G8 X.K te tk):=by
  intro pins s σ H Q I h
  refine Subscript_ (bF (he pins s σ H _ I h) fun v s1 ⟨x,H1,I1,r1,q1⟩=>?_)
  refine wpAny_Slice ?_
  rw [evalPart_none]
  refine wpAny_pure (wpAny_pure ?_)
  refine bF (hk pins s1 σ H1 _ I1 q1) fun vk s3 ⟨y,H3,I3,rk,e,q⟩=>?_
  subst e
  obtain⟨t,rfl⟩:∃t,vk=.int (-1) t:=rk
  have I4:az X pins σ H3 {s3 with heap:=s3.heap.push {cls:=.type "slice",data:=.fields #[.none,.none,.int (-1) t]}}:=I3.kept (t':=s3.toks) fun b ob q=>Heap.get?_push_of_some _ q
  rcases q with ⟨b,xs,ex,hx,q⟩ | ⟨b,xs,ex,hx,q⟩
  · subst ex
    cases r1
    obtain⟨its,r,ht,hz⟩:=I4.list hx
    have hlen:=r.length
    show wpAny (model X.prog X.w) X.A (subscriptTail a (.Slice none none (some k) p2) (.ref b) (.ref s3.heap.objs.size)) (EP X pins σ Q) X.xe {s3 with heap:=s3.heap.push {cls:=.type "slice",data:=.fields #[.none,.none,.int (-1) t]}}
    refine tail_any (T:="list") ht.isList.typeIs slot_list_getitem.lookup ?_ (by with_unfolding_all rfl)
    refine wpAny_getItem_list_slice ht.isList (Heap.IsSliceOf.new ..) .none .none (.int (-1) t) (by decide) ?_ (by rw [List.size_toArray]<;>lia)
    rw [PySem.W.krv_pick]
    refine⟨.ref _,_,I4.laid (t':=s3.toks) (o:=.lst xs.reverse) (fun b ob q=>Heap.get?_push_of_some _ q) (Nat.le_refl _) ?_,rfl,q _ (I4.hok.fresh (Nat.le_refl _))⟩
    exact⟨by rw [List.length_reverse];exact hz,_,0,r.reverse,Heap.get?_push_size _ rfl⟩
  · subst ex
    cases r1
    obtain⟨its,r,ht,hz⟩:=I4.tuple hx
    have hlen:=r.length
    show wpAny (model X.prog X.w) X.A (subscriptTail a (.Slice none none (some k) p2) (.ref b) (.ref s3.heap.objs.size)) (EP X pins σ Q) X.xe {s3 with heap:=s3.heap.push {cls:=.type "slice",data:=.fields #[.none,.none,.int (-1) t]}}
    refine tail_any (T:="tuple") ht.typeIs slot_tuple_getitem.lookup ?_ (by with_unfolding_all rfl)
    refine jw ht (Heap.IsSliceOf.new ..) ?_ (by rw [List.size_toArray]<;>lia)
    refine⟨.ref _,_,I4.laid (t':=s3.toks) (o:=.tup xs.reverse) (fun b ob q=>Heap.get?_push_of_some _ q) (Nat.le_refl _) ?_,rfl,q _ (I4.hok.fresh (Nat.le_refl _))⟩
    exact⟨by rw [List.length_reverse];exact hz,_,r.reverse,k9.new _ _⟩
def Fi(e:En)(x y:Rv):Option Rv:=match y with
  | .d (.int i)=>if i= -1 then(bT e x).bind fun p=>some (if p.1=true then .l p.2.reverse else .d (.tuple p.2.reverse)) else none
  | _=>none
def C3(fa fk:FE):FE:=fun e=>(fa e).bind fun p=>(fk p.2).bind fun k=>(Fi k.2 p.1 k.1).map fun z=>(z,k.2)
theorem oy:∀{F:Hp} {ds:List PyData} {vs:List V},aC K F ds vs→aC K F ds.reverse vs.reverse
  | F,[],vs,h=>by simp only [aC] at h;subst h;exact aC.nil
  | F,d::ds,vs,h=>by
    simp only [aC] at h
    obtain⟨v,ws,rfl,h1,h2⟩:=h
    rw [List.reverse_cons,List.reverse_cons]
    exact(oy h2).append (aC.one h1)
theorem Eu(he:PE X a (fE X.K fa))(hk:PE X k (fE X.K fk)):PE X (.Subscript a (.Slice none none (some k) p2) pos) (fE X.K (C3 fa fk)):=(El he hk).mono fun σ H Q h=>by
  obtain⟨F,e,z,e',R,hf,q⟩:=h
  unfold C3 at hf
  obtain⟨⟨x,e1⟩,h1,hf⟩:=Option.bind_eq_some_iff.mp hf
  obtain⟨⟨y,e2⟩,h2,hf⟩:=Option.bind_eq_some_iff.mp hf
  obtain⟨z',h4,hf⟩:=Option.map_eq_some_iff.mp hf
  cases hf
  refine⟨F,e,x,e1,R,h1,fun F1 H1 v X1 R1 A1=>⟨F1,e1,y,_,R1,h2,fun F2 H2 u X2 R2 A2=>?_⟩⟩
  unfold Fi at h4
  split at h4
  · rename_i i hy
    have hy:y=.d (.int i):=hy
    subst hy
    by_cases hi:i= -1
    case neg=>rw [if_neg hi] at h4;cases h4
    rw [if_pos hi] at h4
    subst hi
    obtain⟨⟨b,xs⟩,h5,h4⟩:=Option.bind_eq_some_iff.mp h4
    cases b with
    | false=>
      cases h4
      obtain⟨p,vs,rfl,d1,s1⟩:=bJ R2 (A1.ext X2) h5
      refine⟨by first | exact A2 | cases A2;rfl,.inr ⟨p,vs,rfl,s1,fun t ht=>?_⟩⟩
      obtain⟨R4,X4⟩:=R2.newT (vs:=vs.reverse) ht
      exact q _ _ _ ((X1.trans X2).trans X4) R4 (bN.mpr ⟨t,_,rfl,.inl (.inl am),(oy d1).mono X4.sf⟩)
    | true=>
      cases h4
      obtain⟨p,vs,rfl,d1,s1⟩:=bJ R2 (A1.ext X2) h5
      refine⟨by first | exact A2 | cases A2;rfl,.inl ⟨p,vs,rfl,s1,fun t ht=>?_⟩⟩
      obtain⟨R4,X4,hF,no⟩:=R2.newL (vs:=vs.reverse) ht
      exact q _ _ _ ((X1.trans X2).trans X4) R4 ⟨t,_,rfl,(X1.trans X2).dom _ ht,hF,am,oy d1,no⟩
  · cases h4
theorem Es(hK:X.K=K)(he:PE X a (fE K fa))(hk:PE X k (fE K fk)):PE X (.Subscript a (.Slice none none (some k) p2) pos) (fE K (C3 fa fk)):=by subst hK;exact Eu he hk
end
end L2
namespace L2
open PySem PySem.Spec PyProof.Rows
section
variable{X:Cx}{a b:Expr}{ta:TA}{p p2 pos pos2:Pos}{K:PySem.W.Frag}{fs:FA}
end
section
variable{X:Cx}{o i e:Expr}{fo fi:FE}{tpos pos:Pos}{K:PySem.W.Frag}
end
end L2
namespace L2
open PySem PySem.Spec PyProof.Rows
section
variable{X:Cx}{K:PySem.W.Frag}
end
end L2
namespace L2
open PySem PySem.Spec PyProof.Rows
section
open PySem.MeetsSeq2 PySem.AutoSeq1 PySem.SeqAt
end
section
variable{X:Cx}{K:PySem.W.Frag}{o a:Expr}{to te:TE}{name:Str}{apos cpos:Pos}{T id:String}{r:V→List V→Hp→VK→Prop}{fo fa:FE}
end
end L2
namespace L2
open PySem PySem.Spec PyProof.Rows
section
variable{X:Cx}{K:PySem.W.Frag}{o a:Expr}{apos cpos:Pos}{fo fa:FE}
end
end L2
namespace L2
open PySem PySem.Spec PyProof.Rows
section
variable{K:PySem.W.Frag}{F H:Hp}{σ:L2.St}{e:En}{cp:List (Nat × Str)}{nT:Nat}
end
section
variable{X:Cx}{K:PySem.W.Frag}{a b:Expr}{es:List Expr}{fa fb:FE}{fs:FA}{pos p p2 p3:Pos}{lo hi:Option Expr}
end
end L2
namespace L2
open PySem PySem.Spec PyProof.Rows
section
variable{X:Cx}{K:PySem.W.Frag}
end
end L2
namespace L2
open PySem PySem.Spec PyProof.Rows
section
variable{X:Cx}{K:PySem.W.Frag}{a b:Expr}{fa fb:FE}{pos:Pos}
end
end L2
namespace L2
open PySem PySem.Spec PyProof.Rows
section
variable{X:Cx}{K:PySem.W.Frag}
theorem kG{prog:Program}{w:World}{A:Around}{E:Value→Shared→Prop}{s:Shared}{t:Addr}{vs:List Value}{Q:List Value→Shared→Prop}(ht:s.heap.IsList t vs.toArray)
    (h:Q vs {s with heap:=(s.heap.push (seqObj "list" #[] 0)).update s.heap.objs.size (Obj.mapSeq (· ++vs.toArray))})(hsz:vs.length≤sizeLine):wpAny (model prog w) A (collect (.ref t)) Q E s:=by
  obtain⟨o,ho,hc,n,hd⟩:=id ht;unfold collect;refine wpAny_bind (wpAny_runValue (codeAny_builtin entry_proto_collect' ?_))
  show wpAny _ _ (do again (.builtin "list.__iadd__" ⟨[←newList [],.ref t],[]⟩)) _ _ s
  refine wpAny_bind (wpAny_newList (wpAny_pure ⟨Code.quiet_builtin _ (by decide+kernel),?_⟩));refine codeAny_builtin entry_list_iadd' ?_
  show wpAny _ _ (Builtin.List.listExtendWith (.ref s.heap.objs.size) (.ref t) (.ref s.heap.objs.size)) _ _ {s with heap:=s.heap.push (seqObj "list" #[] 0)}
  unfold Builtin.List.listExtendWith;have ho':(s.heap.push (seqObj "list" #[] 0)).get? t=some o:=Heap.get?_push_of_some _ ho
  refine wpAny_bind (wpAny_typeOf (T:="list") ⟨o,ho',hc⟩ ?_)
  rw [if_pos (by rw [show(Value.type "list"==Value.type "list")=true from rfl,Bool.or_true,Bool.true_or])]
  refine wpAny_bind (listItems_at ho' hd ?_);refine wpAny_bind (listItems_at (xs:=#[]) (n:=0) (Heap.get?_push_size _ rfl) rfl ?_)
  rw [if_neg (by simp)];refine wpAny_bind (listUpdate_at (xs:=#[]) (n:=0) (Heap.get?_push_size _ rfl) rfl ?_ (Nat.zero_le _) (by show(#[]++vs.toArray).size≤sizeLine+1;simp only [Array.size_append,List.size_toArray,List.length_nil];lia))
  refine wpAny_pure ?_
  show wpAny (model prog w) A (load s.heap.objs.size >>= fun o=>match o.data with | .seq xs _=>pure xs.toList | _=>unsupported "internal:collect") Q E {s with heap:=(s.heap.push (seqObj "list" #[] 0)).update s.heap.objs.size (Obj.mapSeq (· ++vs.toArray))}
  refine wpAny_bind (wpAny_load (get?_update_seq (Heap.get?_push_size _ rfl) _) ?_);show wpAny _ _ (pure ((#[]:Array Value)++vs.toArray).toList) Q E _;rw [show((#[]:Array Value)++vs.toArray).toList=vs by simp];exact wpAny_pure h
theorem sE{prog:Program}{w:World}{A:Around}{E:Value→Shared→Prop}{s:Shared}{t:Addr}{vs:List Value}{ns:List Int}{Q:Value→Shared→Prop}(ht:s.heap.IsList t vs.toArray)(hI:IntsAre vs ns)(h64:vs.length < 64)
    (h:∀(out:Array Value) (ns':List Int),IntsAre out.toList ns'→ns'.Perm ns→ns'.Pairwise (· ≤·)→Q (.ref (s.heap.objs.size+1)) {s with heap:=sortedAll s.heap vs out}):wpAny (model prog w) A (call (.builtin "sorted") [.ref t]) Q E s:=by
  refine Calls.call_function_entry kind_sorted plain_sorted entry_sorted (args_sorted1 _) ?_;unfold Builtin.«sorted»
  refine wpAny_bind (m:=checkCount "sorted" 1 1 _) (wpAny_pure ?_);refine wpAny_bind (kG ht ?_ (Nat.le_trans (Nat.le_of_lt h64) (by decide)))
  have z:((s.heap.push (seqObj "list" #[] 0)).update s.heap.objs.size (Obj.mapSeq (· ++vs.toArray))).objs.size=s.heap.objs.size+1:=by rw [Heap.size_update,size_push']
  have o:(((s.heap.push (seqObj "list" #[] 0)).update s.heap.objs.size (Obj.mapSeq (· ++vs.toArray))).push (seqObj "list" vs.toArray 0)).get? (s.heap.objs.size+1)=some (seqObj "list" vs.toArray 0):=by rw [←z];exact Heap.get?_push_size _ rfl
  refine wpAny_bind (wpAny_newList ?_);show wpAny _ _ _ _ _ {s with heap:=((s.heap.push (seqObj "list" #[] 0)).update s.heap.objs.size (Obj.mapSeq (· ++vs.toArray))).push (seqObj "list" vs.toArray 0)}
  rw [z];refine wpAny_bind (wpAny_holding (wpAny_call_entry slot_list_sort ⟨_,o,rfl⟩ entry_list_sort (list_sort_tree o hI h64 fun out ns' b1 b2 b3=>⟨_,rfl,?_⟩) (args_list_sort _)))
  exact wpAny_pure ⟨_,rfl,h out ns' b1 b2 b3⟩
theorem oi:cL X (.builtin "sorted") (fun xs H Q=>∃(a:Addr) (ns:List Int),xs=[.ref a]∧fm X.K H a (ns.map V.int)∧ns.length < 64∧∀(l:Addr) (ns':List Int) (H':Hp),av H H'→H l=none→H' l=some (.lst (ns'.map V.int))→ns'.Perm ns→ns'.Pairwise (· ≤·)→Q (.ref l) H'):=by
  intro pins s σ H xs us Q I r h
  obtain⟨a,ns,rfl,hs,h64,q⟩:=h
  obtain⟨u,rfl,ru⟩:=je r
  cases ru
  obtain⟨its,rv,p,hz⟩:=I.list hs
  have hl:=rv.length
  rw [List.length_map] at hl
  refine sE p.isList (jd rv) (by lia) fun out ns' a1 a2 a3=>?_
  obtain⟨e,he⟩:=sortedAll_at s.heap its out
  have hf:H (s.heap.objs.size+1)=none:=I.hok.fresh (Nat.le_succ _)
  refine⟨.ref (s.heap.objs.size+1),aV H (s.heap.objs.size+1) (.lst (ns'.map V.int)),I.laid (t':=s.toks) (fun _ _=>sortedAll_old) (Nat.le_succ _) ⟨?_,out.toList,e,iV a1,?_⟩,rfl,q _ ns' _ (av.new hf) hf am a2 a3⟩
  · rw [List.length_map,a2.length_eq]
    exact Nat.le_trans (Nat.le_of_lt h64) (by decide)
  · simpa [seqObj] using he
def eH:En→Rv→Option Rv:=fun e x=>(bT e x).bind fun z=>(kT z.2).bind fun ns=>if ns.length < 64 then some (.l ((bi ns).map .int)) else none
def pb(K:PySem.W.Frag):List V→Hp→VK→Prop:=fun xs H Q=>∃(a:Addr) (ns:List Int),xs=[.ref a]∧(fm K H a (ns.map V.int)∨cZ K H a (ns.map V.int))∧ns.length < 64∧∀(l:Addr) (H':Hp),av H H'→H l=none→H' l=some (.lst ((bi ns).map V.int))→Q (.ref l) H'
theorem rM:cL X (.builtin "sorted") (pb X.K):=by
  intro pins s σ H xs us Q I rv h
  obtain⟨a,ns,e1,e2,e3,q⟩:=h
  rcases e2 with e2 | e2
  · exact oi pins s σ H xs us Q I rv ⟨a,ns,e1,e2,e3,fun l ns' H' sm hn hl hp hs=>q l H' sm hn (by rw [←gK hp hs];exact hl)⟩
  · exact kz pins s σ H xs us Q I rv ⟨a,ns,e1,e2,e3,fun l ns' H' sm hn hl hp hs=>q l H' sm hn (by rw [←gK hp hs];exact hl)⟩
theorem z6:cO K (pb K) (g1 eH):=ee fun σ H0 F H e x z v Q R A hg q=>by
  unfold eH at hg
  obtain⟨⟨b,ds⟩,h1,hg⟩:=Option.bind_eq_some_iff.mp hg
  obtain⟨ns,h6,hg⟩:=Option.bind_eq_some_iff.mp hg
  split at hg
  case isFalse=>cases hg
  case isTrue hl=>
  cases hg
  obtain⟨p,vs,rfl,d1,s1⟩:=bJ R A h1
  have e1:ds=ns.map .int:=jB h6
  subst e1
  have e2:=aC.ints.mp d1
  subst e2
  refine⟨p,ns,rfl,?_,hl,fun l H' sm hn hl'=>?_⟩
  · cases b with
    | true=>exact .inl s1
    | false=>exact .inr s1
  obtain⟨R4,X4⟩:=R.same sm
  exact q F H' _ X4 R4 ⟨l,_,rfl,hn,R.freeF hn,hl',aC.ints.mpr rfl,fun z=>R.ownH l ((R.sameOwn sm l).mp z) hn⟩
theorem wj{e:En}{i:Nat}{ns:List Int}(hi:e[i]?=some (some (.l (ns.map .int))))(h:ns.length < 64):g1 eH e [.s i]=some (.l ((bi ns).map .int)):=by
  simp [g1,eH,bT,hi,iQ,h]
theorem wk{e:En}{ns:List Int}(h:ns.length < 64):g1 eH e [.d (.tuple (ns.map .int))]=some (.l ((bi ns).map .int)):=by
  simp [g1,eH,bT,iQ,h]
end
end L2
namespace L2
open PySem PySem.Spec PyProof.Rows
mutual
theorem lN:∀(d:PyData),bv d=true→eJ d=true
  | .none,_=>rfl
  | .bool _,_=>rfl
  | .int _,_=>rfl
  | .str _,_=>rfl
  | .tuple ds,h=>by simp only [eJ];exact kN ds (by simpa [bv] using h)
  | .list ds,h=>by simp [bv] at h
  | .dict _,h=>by simp [bv] at h
theorem kN:∀(ds:List PyData),aR ds=true→eA ds=true
  | [],_=>rfl
  | d::r,h=>by
    simp only [aR,Bool.and_eq_true] at h
    simp only [eA,lN d h.1,kN r h.2,Bool.and_self]
end
structure Sw (b:Bool) (n dep:Nat) (d:PyData):Prop where
  dl:bif b then eJ d=true else d.hasDict=false
  sh:d.showable=true
  dp:d.depth≤dep
  ln:d.shown.length+2≤n
  so:PyData.strOk d.shown=true
theorem Sw.mono{b:Bool}{n m dep e:Nat}{d:PyData}(h:Sw b n dep d)(h1:n≤m)(h2:dep≤e):Sw b m e d:=⟨h.dl,h.sh,Nat.le_trans h.dp h2,Nat.le_trans h.ln h1,h.so⟩
theorem C6.sw{k:Nat}{d:PyData}(h:C6 d k):Sw false (104*wt d) k d:=⟨PyData.hasDict_of_canLay d h.lay,h.sh,h.dp,h.ln,h.so⟩
theorem C6.swF{k:Nat}{d:PyData}(h:C6 d k)(f:bv d=true)(b:Bool):Sw b (104*wt d) k d:=⟨by cases b;exact iA d f;exact lN d f,h.sh,h.dp,h.ln,h.so⟩
theorem Sw.all{b:Bool}{n dep:Nat}:∀{ds:List PyData},(∀d∈ds,Sw b n dep d)→(bif b then eA ds=true else PyData.hasDictAll ds=false)∧PyData.showableAll ds=true∧PyData.depthAll ds≤dep∧piled (PyData.shownAll ds)≤ds.length*n∧∀t∈PyData.shownAll ds,PyData.strOk t=true
  | [],_=>⟨by cases b<;>rfl,rfl,by simp [PyData.depthAll],by simp [PyData.shownAll,piled],by simp [PyData.shownAll]⟩
  | d::r,h=>by
    obtain⟨a1,a2,a3,a4,a5⟩:=h d (by simp)
    obtain⟨b1,b2,b3,b4,b5⟩:=Sw.all (ds:=r) fun x hx=>h x (by simp [hx])
    refine⟨?_,?_,?_,?_,?_⟩
    · cases b
      · simp only [cond_false] at a1 b1 ⊢;simp only [PyData.hasDictAll,a1,b1,Bool.or_self]
      · simp only [cond_true] at a1 b1 ⊢;simp only [eA,a1,b1,Bool.and_self]
    · simp only [PyData.showableAll,a2,b2,Bool.and_self]
    · simp only [PyData.depthAll];lia
    · simp only [PyData.shownAll,gZ,List.length_cons,Nat.succ_mul];lia
    · intro t ht
      simp only [PyData.shownAll,List.mem_cons] at ht
      rcases ht with rfl | ht
      · exact a5
      · exact b5 t ht
theorem Sw.tup{b:Bool}{n dep m:Nat}{ds:List PyData}(h:∀d∈ds,Sw b n dep d)(hl:ds.length≤m):Sw b (m*n+5) (dep+1) (.tuple ds):=by
  obtain⟨b1,b2,b3,b4,b5⟩:=Sw.all h
  refine⟨by cases b<;>simpa [eJ,PyData.hasDict] using b1,b2,by simp only [PyData.depth];lia,?_,by simp only [PyData.shown];exact nV b5⟩
  have h2:=km (PyData.shownAll ds)
  have:=Nat.mul_le_mul_right n hl
  simp only [PyData.shown]
  lia
theorem Sw.lst{n dep m:Nat}{ds:List PyData}(h:∀d∈ds,Sw false n dep d)(hl:ds.length≤m):Sw false (m*n+5) (dep+1) (.list ds):=by
  obtain⟨b1,b2,b3,b4,b5⟩:=Sw.all h
  refine⟨by simpa [PyData.hasDict] using b1,b2,by simp only [PyData.depth];lia,?_,by simp only [PyData.shown];exact nS b5⟩
  have h2:=qh (PyData.shownAll ds)
  have:=Nat.mul_le_mul_right n hl
  simp only [PyData.shown]
  lia
theorem Sw.ok{b:Bool}{n dep:Nat}{d:PyData}(h:Sw b n dep d)(h1:n≤16777216)(h2:dep≤60):jV d=true:=by
  have sl:sizeLine=16777216:=sizeLine_eq
  have hd:(!d.hasDict || eJ d)=true:=by
    have:=h.dl
    cases b
    · simp only [cond_false] at this;simp [this]
    · simp only [cond_true] at this;simp [this]
  have:=h.ln
  unfold jV
  rw [hd,h.sh,decide_eq_true (Nat.le_trans h.dp h2),decide_eq_true (show d.shown.length≤sizeLine by rw [sl];lia)]
  simp
theorem Sw.repr{b:Bool}{n dep:Nat}{d:PyData}(h:Sw b n dep d)(h1:n≤16777216)(h2:dep≤60)(e:En):g1 jv e [.d d]=some (.d (.str d.shown)):=yU (h.ok h1 h2)
theorem Sw.int{b:Bool}{i:Int}(h:i.natAbs < 2 ^ 128):Sw b 200 0 (.int i):=((lF (k:=0) (d:=.int i) (by simp only [yy,decide_eq_true_eq];exact h)).swF rfl b).mono (by simp [wt]) (by decide)
theorem Sw.bool{b c:Bool}:Sw b 200 0 (.bool c):=((lF (k:=0) (d:=.bool c) rfl).swF rfl b).mono (by simp [wt]) (by decide)
end L2
namespace L2
open PySem PySem.Spec PyProof.Rows
structure S1 (n:Nat) (f:Fr):Prop where
  low:GL f
  lo:0≤f.1
  hi:f.1≤f.2
  bt:Bt n f.2
def GY(e:Int)(t:eM):Bool:=t.one==e || t.other==e
structure Hf (b f g:Fr):Prop where
  pf:0 < f.2
  pg:0 < g.2
  eq:g.1*(f.2*b.1)=g.2*(f.1*b.2)
end L2
namespace L2
open PySem PySem.Spec PyProof.Rows
def vR(f:Fr):Rat:=(f.1:Rat) / (f.2:Rat)
def cR(t:eM)(b:Bool):Rat:=vR (GU t b)
def wR:List eM→List Bool→Rat
  | t::ts,b::bs=>cR t b*wR ts bs
  | _,_=>1
end L2
namespace L2
open PySem PySem.Spec PyProof.Rows
theorem tX{l m:List Int}(hl:l.Nodup)(hm:m.Nodup)(h:∀x,x∈l↔ x∈m):l.Perm m:=by
  induction l generalizing m with
  | nil=>
    cases m with
    | nil=>exact .refl _
    | cons y r=>exact absurd ((h y).mpr (by simp)) (by simp)
  | cons x r ih=>
    have hx:x∈m:=(h x).mp (by simp)
    have nd:=List.nodup_cons.mp hl
    refine List.Perm.trans (.cons x (ih nd.2 (hm.erase x) fun y=>?_)) (List.perm_cons_erase hx).symm
    rw [hm.mem_erase_iff]
    constructor
    · intro hy
      exact⟨fun e=>nd.1 (e ▸ hy),(h y).mp (by simp [hy])⟩
    · rintro⟨ne,hy⟩
      rcases List.mem_cons.mp ((h y).mpr hy) with e | e
      · exact absurd e ne
      · exact e
def hR(t:eM):Rat:=cR t true*(t.worth:Rat)
end L2
namespace L2
open PySem PySem.Spec PyProof.Rows
structure Hd (O:bD) (ss ws:List Std):Prop where
  len:ss.length=ws.length
  at':∀j,(ss.getD j ([],[])).1=(ws.getD j ([],[])).1∧(ss.getD j ([],[])).2.length≤2*(ss.getD j ([],[])).1.length∧∀k∈(ss.getD j ([],[])).1,pD O k
structure Hb (O:bD) (T:List Nd):Prop where
  tie:∀(i:Nat) (x:Nd),T[i]?=some x→pD O x.tie
  lk:∀(i:Nat) (x:Nd),T[i]?=some x→(-1≤x.yes∧x.yes < (T.length:Int))∧(-1≤x.no∧x.no < (T.length:Int))
end L2
namespace L2
open PySem PySem.Spec PyProof.Rows
section
variable{K:PySem.W.Frag}
variable{X:Cx}{σ:L2.St}{H0 H:Hp}{e:En}
end
end L2
namespace L2
open PySem PySem.Spec PyProof.Rows
section
variable{X:Cx}{a b:Expr}{ta:TA}{p p2 pos pos2:Pos}
end
end L2
namespace L2
open PySem PySem.Spec PyProof.Rows
section
variable{X:Cx}{K:PySem.W.Frag}{fs:FA}{a b:Expr}{p p2 pos pos2:Pos}
end
end L2
namespace L2
open PySem PySem.Spec PyProof.Rows
end L2
namespace L2
open PySem PySem.Spec PyProof.Rows PySem.W
def rT(lt:Nat→Nat→Bool)(n:Nat){α:Type}:KasT α→(α→Prop)→Prop
  | .ret a,Q=>Q a
  | .ask i j k,Q=>i < n∧j < n∧rT lt n (k (lt i j)) Q
theorem gB{lt:Nat→Nat→Bool}{n:Nat}{α β:Type}{f:α→KasT β}{Q:β→Prop}:∀(t:KasT α),rT lt n t (fun a=>rT lt n (f a) Q)→rT lt n (t.bind f) Q
  | .ret _,h=>h
  | .ask i j k,h=>⟨h.1,h.2.1,gB (k (lt i j)) h.2.2⟩
theorem cV{lt:Nat→Nat→Bool}{n:Nat}{α:Type}{Q Q':α→Prop}(hq:∀a,Q a→Q' a):∀(t:KasT α),rT lt n t Q→rT lt n t Q'
  | .ret a,h=>hq a h
  | .ask i j k,h=>⟨h.1,h.2.1,cV hq (k (lt i j)) h.2.2⟩
theorem vQ{lt:Nat→Nat→Bool}{n:Nat}{α:Type}{Q:α→Prop}{cmp:Nat→Nat→(Bool→Shared→Prop)→Shared→Prop}{s:Shared}(hc:∀i j C,i < n→j < n→C (lt i j) s→cmp i j C s):∀(t:KasT α),rT lt n t Q→t.kasWp cmp (fun a s'=>s'=s∧Q a) s
  | .ret _,h=>⟨rfl,h⟩
  | .ask i j k,h=>hc i j _ h.1 h.2.1 (vQ hc (k (lt i j)) h.2.2)
structure yC (lt:Nat→Nat→Bool):Prop where
  irr:∀i,lt i i=false
  tr:∀{i j k},lt i j=false→lt j k=false→lt i k=false
  asy:∀{i j},lt i j=true→lt j i=false
abbrev gA(p:Array Nat)(i:Nat):Nat:=p.getD i 0
structure mN (n:Nat) (p:Array Nat):Prop where
  sz:p.size=n
  pm:p.Perm (List.toArray (List.range n))
theorem mN.lt{n:Nat}{p:Array Nat}(h:mN n p){i:Nat}(hi:i < n):gA p i < n:=by
  have hi':i < p.size:=by rw [h.sz];exact hi
  have e:gA p i=p[i]:=by simp [gA,Array.getD,hi']
  rw [e]
  have:=(h.pm.mem_iff (a:=p[i])).mp (Array.getElem_mem hi')
  simpa using this
def SA(lt:Nat→Nat→Bool)(p:Array Nat)(m:Nat):Prop:=∀i j,i < j→j < m→lt (gA p j) (gA p i)=false
def pC(lt:Nat→Nat→Bool)(p:Array Nat)(m:Nat):Prop:=∀i j,i < j→j < m→lt (gA p i) (gA p j)=false
def EA(lt:Nat→Nat→Bool)(p:Array Nat)(a b:Nat):Prop:=∀i j,a≤i→i < b→a≤j→j < b→lt (gA p i) (gA p j)=false
theorem pU{p q:Array Nat}{i j:Nat}(h:p[i]?=q[j]?):gA p i=gA q j:=by
  unfold gA
  rw [Array.getD_eq_getD_getElem?,Array.getD_eq_getD_getElem?,h]
theorem oC{p:Array Nat}{a b k:Nat}(hb:b≤p.size):gA (kas_rev p a b) k=if a≤k∧k < b then gA p (a+b - 1 - k) else gA p k:=by
  have h:=getElem?_mirror_all (xs:=p) (i:=a) hb k
  split
  · rename_i c;rw [if_pos c] at h;exact pU h
  · rename_i c;rw [if_neg c] at h;exact pU h
theorem mN.rev{n:Nat}{p:Array Nat}(h:mN n p)(a b:Nat):mN n (kas_rev p a b):=⟨by rw [kas_rev_size];exact h.sz,(mirror_perm _ _ _ _).trans h.pm⟩
section
variable{lt:Nat→Nat→Bool}{n:Nat}(O:yC lt)
include O
theorem SA.snoc{p:Array Nat}{m:Nat}(h:SA lt p m)(h1:1≤m)(hl:lt (gA p m) (gA p (m - 1))=false):SA lt p (m+1):=fun i j hij hj=>by
  by_cases e:j=m
  · subst e
    by_cases e2:i=j - 1
    · rw [e2];exact hl
    · exact O.tr hl (h i (j - 1) (by lia) (by lia))
  · exact h i j hij (by lia)
theorem pC.snoc{p:Array Nat}{m:Nat}(h:pC lt p m)(h1:1≤m)(hl:lt (gA p (m - 1)) (gA p m)=false):pC lt p (m+1):=fun i j hij hj=>by
  by_cases e:j=m
  · subst e
    by_cases e2:i=j - 1
    · rw [e2];exact hl
    · exact O.tr (h i (j - 1) (by lia) (by lia)) hl
  · exact h i j hij (by lia)
theorem rV{p:Array Nat}(hp:mN n p){N:Nat}(hN:N≤n):∀(f m:Nat),1≤m→m+f=N→SA lt p m→rT lt n (kas_asc p f m) fun r=>m≤r∧r≤N∧SA lt p r∧(r < N→lt (gA p r) (gA p (r - 1))=true)
  | 0,m,h1,hm,hs=>⟨Nat.le_refl _,by lia,hs,fun h=>by lia⟩
  | f+1,m,h1,hm,hs=>by
    refine⟨hp.lt (by lia),hp.lt (by lia),?_⟩
    dsimp only
    by_cases c:lt (gA p m) (gA p (m - 1))=true
    · rw [if_pos c]
      exact⟨Nat.le_refl _,by lia,hs,fun _=>c⟩
    · rw [if_neg c]
      have c':lt (gA p m) (gA p (m - 1))=false:=by simpa using c
      exact cV (fun r ⟨a,b⟩=>⟨by lia,b⟩) _ (rV hp hN f (m+1) (by lia) (by lia) (SA.snoc O hs h1 c'))
theorem pC.rev{p:Array Nat}{a b m:Nat}(h:pC lt p m)(he:EA lt p a b)(hb:b≤m)(hm:m≤p.size):pC lt (kas_rev p a b) m:=fun i j hij hj=>by
  rw [oC (by lia),oC (by lia)]
  by_cases ci:a≤i∧i < b
  · rw [if_pos ci]
    by_cases cj:a≤j∧j < b
    · rw [if_pos cj];exact he _ _ (by lia) (by lia) (by lia) (by lia)
    · rw [if_neg cj];exact h _ _ (by lia) hj
  · rw [if_neg ci]
    by_cases cj:a≤j∧j < b
    · rw [if_pos cj];exact h _ _ (by lia) (by lia)
    · rw [if_neg cj];exact h _ _ hij hj
theorem lu{N:Nat}(hN:N≤n):∀(f:Nat) (p:Array Nat) (m q:Nat),mN n p→q+1≤m→m+f=N→pC lt p m→EA lt p (m - (q+1)) m→
    rT lt n (kas_desc f p m q) fun r=>mN n r.1∧m≤r.2.1∧r.2.1≤N∧pC lt r.1 r.2.1∧r.2.2+1≤r.2.1∧EA lt r.1 (r.2.1 - (r.2.2+1)) r.2.1
  | 0,p,m,q,hp,hq,hm,hd,he=>⟨hp,Nat.le_refl _,by show m≤N;lia,hd,hq,he⟩
  | f+1,p,m,q,hp,hq,hm,hd,he=>by
    have sz:=hp.sz
    refine⟨hp.lt (by lia),hp.lt (by lia),?_⟩
    dsimp only
    by_cases c:lt (gA p m) (gA p (m - 1))=true
    · rw [if_pos c]
      have d2:=pC.snoc O hd (by lia) (O.asy c)
      have e1:∀p':Array Nat,EA lt p' (m+1 - (0+1)) (m+1):=fun p' i j a b c d=>by
        obtain rfl:i=j:=by lia
        exact O.irr _
      split
      · exact cV (fun r ⟨a,b,c⟩=>⟨a,by lia,c⟩) _ (lu hN f _ (m+1) 0 (hp.rev _ _) (by lia) (by lia) (pC.rev O d2 he (by lia) (by lia)) (e1 _))
      · exact cV (fun r ⟨a,b,c⟩=>⟨a,by lia,c⟩) _ (lu hN f _ (m+1) 0 hp (by lia) (by lia) d2 (e1 _))
    · rw [if_neg c]
      have c':lt (gA p m) (gA p (m - 1))=false:=by simpa using c
      refine⟨hp.lt (by lia),hp.lt (by lia),?_⟩
      dsimp only
      by_cases d:lt (gA p (m - 1)) (gA p m)=true
      · rw [if_pos d];exact⟨hp,Nat.le_refl _,by show m≤N;lia,hd,hq,he⟩
      · rw [if_neg d]
        have d':lt (gA p (m - 1)) (gA p m)=false:=by simpa using d
        refine cV (fun r ⟨a,b,c⟩=>⟨a,by lia,c⟩) _ (lu hN f _ (m+1) (q+1) hp (by lia) (by lia) (pC.snoc O hd (by lia) d') fun i j a b c e=>?_)
        by_cases i1:i=m
        · subst i1
          by_cases j1:j=i
          · subst j1;exact O.irr _
          · exact O.tr c' (he _ _ (by lia) (by lia) (by lia) (by lia))
        · by_cases j1:j=m
          · subst j1;exact O.tr (he i (j - 1) (by lia) (by lia) (by lia) (by lia)) d'
          · exact he _ _ (by lia) (by lia) (by lia) (by lia)
abbrev Fn(lt:Nat→Nat→Bool)(n N:Nat)(r:Nat × Array Nat):Prop:=mN n r.2∧1≤r.1∧r.1≤N∧SA lt r.2 r.1
theorem pQ{N m:Nat}(hN:N≤n){p:Array Nat}(hp:mN n p)(h1:1≤m)(hm:m≤N)(hd:pC lt p m):rT lt n (kas_tail3 m N p) (Fn lt n N):=by
  have sz:=hp.sz
  refine gB _ (cV (fun r ⟨a,b,c,_⟩=>⟨hp.rev _ _,by show 1≤r;lia,b,c⟩) _ (rV O (hp.rev 0 m) hN (N - m) m h1 (by lia) fun i j hij hj=>?_))
  rw [oC (by lia),oC (by lia),if_pos (by lia),if_pos (by lia)]
  exact hd _ _ (by lia) (by lia)
theorem kM{N m:Nat}(hN:N≤n){p:Array Nat}(hp:mN n p)(hm:m+1≤N)(hd:pC lt p (m+1)):rT lt n (kas_descPart m N p) (Fn lt n N):=by
  refine gB _ (cV (fun r ⟨a,b,c,d,e,f⟩=>?_) _ (lu O hN (N - (m+1)) p (m+1) 0 hp (by lia) (by lia) hd fun i j a b c d=>by
    obtain rfl:i=j:=by lia
    exact O.irr _))
  have:=a.sz
  split
  · exact pQ O hN (a.rev _ _) (by lia) c (pC.rev O d f (Nat.le_refl _) (by lia))
  · exact pQ O hN a (by lia) c d
theorem vT{p:Array Nat}(hp:mN n p)(h1:1≤n):rT lt n (kas_count n p) (Fn lt n n):=by
  refine gB _ (cV (fun m ⟨a,b,c,d⟩=>?_) _ (rV O hp (Nat.le_refl n) (n - 1) 1 (Nat.le_refl _) (by lia) fun i j hij hj=>by lia))
  by_cases e:m=n
  · subst e
    rw [if_pos (by simp)]
    exact⟨hp,a,Nat.le_refl _,c⟩
  · rw [if_neg (by simpa using e)]
    have dl:=O.asy (d (by lia))
    have sz:=hp.sz
    split
    · refine⟨hp.lt (by lia),hp.lt (by lia),?_⟩
      dsimp only
      by_cases q:lt (gA p 0) (gA p (m - 1))=true
      · rw [if_pos q];exact⟨hp,a,b,c⟩
      · rw [if_neg q]
        have q':lt (gA p 0) (gA p (m - 1))=false:=by simpa using q
        have ea:EA lt p 0 m:=fun i j _ hi _ hj=>by
          have x1:lt (gA p i) (gA p 0)=false:=by
            by_cases z:i=0
            · rw [z];exact O.irr _
            · exact c 0 i (by lia) hi
          have x2:lt (gA p (m - 1)) (gA p j)=false:=by
            by_cases z:j=m - 1
            · rw [z];exact O.irr _
            · exact c j (m - 1) (by lia) (by lia)
          exact O.tr x1 (O.tr q' x2)
        have da:pC lt p (m+1):=pC.snoc O (fun i j hij hj=>ea i j (by lia) (by lia) (by lia) hj) a dl
        exact kM O (Nat.le_refl n) (hp.rev 0 m) (by lia) (pC.rev O da ea (by lia) (by lia))
    · obtain rfl:m=1:=by lia
      exact kM O (Nat.le_refl n) hp (by lia) (pC.snoc O (fun i j hij hj=>by lia) a dl)
theorem lK{p:Array Nat}(hp:mN n p){k:Nat}(hk:k < n)(hs:SA lt p k):∀(f l r:Nat),l≤r→r≤k→r - l≤f→(∀i,i < l→lt (gA p k) (gA p i)=false)→(∀i,r≤i→i < k→lt (gA p k) (gA p i)=true)→
    rT lt n (kas_place p k f l r) fun x=>x≤k∧(∀i,i < x→lt (gA p k) (gA p i)=false)∧∀i,x≤i→i < k→lt (gA p k) (gA p i)=true
  | 0,l,r,h1,h2,h3,hl,hr=>⟨by lia,hl,fun i a b=>hr i (by lia) b⟩
  | f+1,l,r,h1,h2,h3,hl,hr=>by
    unfold kas_place
    split
    · exact⟨by lia,hl,fun i a b=>hr i (by lia) b⟩
    · refine⟨hp.lt hk,hp.lt (by lia),?_⟩
      dsimp only
      by_cases c:lt (gA p k) (gA p ((l+r) / 2))=true
      · rw [if_pos c]
        refine lK hp hk hs f l ((l+r) / 2) (by lia) (by lia) (by lia) hl fun i a b=>?_
        by_cases z:i=(l+r) / 2
        · rw [z];exact c
        · cases q:lt (gA p k) (gA p i) with
          | true=>rfl
          | false=>
            have:=O.tr q (hs ((l+r) / 2) i (by lia) b)
            rw [c] at this;cases this
      · rw [if_neg c]
        have c':lt (gA p k) (gA p ((l+r) / 2))=false:=by simpa using c
        refine lK hp hk hs f ((l+r) / 2+1) r (by lia) h2 (by lia) (fun i a=>?_) hr
        by_cases z:i=(l+r) / 2
        · rw [z];exact c'
        · exact O.tr c' (hs i ((l+r) / 2) (by lia) (by lia))
theorem v0{p:Array Nat}{k d i:Nat}(hk:k < p.size)(hd:d≤k):gA (bubble p k d) i=if i=k - d then gA p k else if k - d < i∧i≤k then gA p (i - 1) else gA p i:=by
  have h:=getElem?_bubble hk d hd i
  by_cases c:i=k - d
  · rw [if_pos c] at h ⊢;exact pU h
  · rw [if_neg c] at h ⊢
    by_cases c2:k - d < i∧i≤k
    · rw [if_pos c2] at h ⊢;exact pU h
    · rw [if_neg c2] at h ⊢;exact pU h
theorem vS:∀(f:Nat) (p:Array Nat) (k:Nat),mN n p→k+f=n→SA lt p k→rT lt n (kas_bin f p k) fun p'=>mN n p'∧SA lt p' n
  | 0,p,k,hp,hk,hs=>by
    obtain rfl:k=n:=by lia
    exact⟨hp,hs⟩
  | f+1,p,k,hp,hk,hs=>by
    have sz:=hp.sz
    refine gB _ (cV (fun l ⟨a,L,R⟩=>?_) _ (lK O hp (by lia) hs k 0 k (by lia) (Nat.le_refl _) (by lia) (fun i h=>by lia) (fun i h1 h2=>by lia)))
    refine vS f _ (k+1) ⟨by rw [bubble_size];exact sz,(bubble_perm _ _ _).trans hp.pm⟩ (by lia) fun i j hij hj=>?_
    rw [v0 O (by lia) (by lia),v0 O (by lia) (by lia)]
    have e:k - (k - l)=l:=by lia
    rw [e]
    by_cases j1:j=l
    · rw [if_pos j1,if_neg (by lia),if_neg (by lia)]
      exact L i (by lia)
    · rw [if_neg j1]
      by_cases j2:l < j∧j≤k
      · rw [if_pos j2]
        by_cases i1:i=l
        · rw [if_pos i1];exact O.asy (R (j - 1) (by lia) (by lia))
        · rw [if_neg i1]
          by_cases i2:l < i∧i≤k
          · rw [if_pos i2];exact hs _ _ (by lia) (by lia)
          · rw [if_neg i2];exact hs _ _ (by lia) (by lia)
      · rw [if_neg j2,if_neg (by lia),if_neg (by lia)]
        exact hs _ _ hij (by lia)
theorem yN(h1:1≤n):rT lt n (kas_sort n) fun p=>mN n p∧SA lt p n:=by
  refine gB _ (cV (fun r ⟨a,b,c,d⟩=>?_) _ (vT O (p:=List.toArray (List.range n)) ⟨by simp,Array.Perm.refl _⟩ h1))
  split
  · refine vS O _ _ _ a (by lia) ?_
    rw [show max r.1 1=r.1 by lia]
    exact d
  · obtain e:r.1=n:=by lia
    rw [e] at d
    exact⟨a,d⟩
end
end L2
namespace L2
open PySem PySem.Spec PyProof.Rows PySem.W
section
variable{prog:Program}{w:World}{A:Around}{E:Value→Shared→Prop}{s:Shared}
theorem r_{a:Addr}{vs:List Value}{n:Nat}{P:PySem.Fin→Shared→Prop}(ho:s.heap.get? a=some (seqObj "list" vs.toArray n))(h64:vs.length < 64){κ:SortKind}{lt:Nat→Nat→Bool}(O:yC lt)
    (hk:2≤vs.length→∀h':Heap,(∀b o,b≠a→s.heap.get? b=some o→h'.get? b=some o)→∀Q:SortKind→Shared→Prop,Q κ {s with heap:=h'}→wpAny (model prog w) A (keyKind' vs.toArray) Q (fun _ _=>False) {s with heap:=h'})
    (hlt:∀h':Heap,(∀b o,b≠a→s.heap.get? b=some o→h'.get? b=some o)→∀i j (C:Bool→Shared→Prop),i < vs.length→j < vs.length→C (lt i j) {s with heap:=h'}→wpAny (model prog w) A (keyLt' κ (vs.getD i Value.none) (vs.getD j Value.none)) C (fun _ _=>False) {s with heap:=h'})
    (h:∀p:Array Nat,mN vs.length p→SA lt p vs.length→P (.done (.ret .none)) {s with heap:=sortedHeap s.heap a vs (List.toArray (p.toList.map fun i=>vs.getD i Value.none))}):
    wpAny (model prog w) A (Builtin.«list.sort» ⟨[.ref a],[]⟩) P E s:=by
  rw [list_sort_plain]
  have ha:a < s.heap.objs.size:=Heap.lt_size ho
  refine wpAny_bind (listItems_at ho rfl ?_)
  refine wpAny_bind (listUpdate_at ho rfl ?_ (by rw [List.size_toArray,sizeLine_eq];lia) (Nat.zero_le _))
  obtain⟨e1,ho1⟩:∃e1,(s.heap.update a (Obj.mapSeq fun _=>#[])).get? a=some (seqObj "list" #[] e1):=⟨_,get?_update_seq ho (fun _=>#[])⟩
  refine wpAny_bind (seqEpoch_at ho1 rfl ?_)
  refine wpAny_bind (wpAny_newTuple ?_ (by show vs.length≤_;rw [sizeLine_eq];lia))
  refine wpAny_bind (wpAny_newList ?_ (Nat.zero_le _))
  refine wpAny_holding ?_
  have ho6:(((s.heap.update a (Obj.mapSeq fun _=>#[])).push (seqObj "tuple" vs.toArray 0)).push (seqObj "list" #[] 0)).get? a=some (seqObj "list" #[] e1):=by
    rw [Heap.get?_push_ne _ _ _ (by rw [size_push',Heap.size_update];exact Nat.ne_of_lt (Nat.lt_succ_of_lt ha)),Heap.get?_push_ne _ _ _ (by rw [Heap.size_update];exact Nat.ne_of_lt ha)]
    exact ho1
  have kp:∀b o,b≠a→s.heap.get? b=some o→(((s.heap.update a (Obj.mapSeq fun _=>#[])).push (seqObj "tuple" vs.toArray 0)).push (seqObj "list" #[] 0)).get? b=some o:=fun b o ne e=>
    Heap.get?_push_of_some _ (Heap.get?_push_of_some _ (by rw [Heap.get?_update_ne _ _ _ _ ne];exact e))
  show wpAny (model prog w) A _ P E {s with heap:=((s.heap.update a (Obj.mapSeq fun _=>#[])).push (seqObj "tuple" vs.toArray 0)).push (seqObj "list" #[] 0)}
  dsimp only
  by_cases h2:vs.toArray.size < 2
  · rw [if_pos h2,if_pos h2]
    refine wpAny_bind (wpAny_pure ?_)
    rw [StateT.run_pure]
    refine wpAny_bind (wpAny_pure ?_)
    dsimp only
    refine wpAny_bind (seqEpoch_at ho6 rfl ?_)
    refine wpAny_bind (listUpdate_at ho6 rfl ?_ (hsz2:=by rw [Array.size_map];show(vs.toArray.zip vs.toArray).size≤_;rw [show(vs.toArray.zip vs.toArray).size=vs.length by simp,sizeLine_eq];lia))
    simp only [bne_self_eq_false,Bool.false_eq_true,if_false]
    refine wpAny_pure ?_
    have q:=h (List.toArray (List.range vs.length)) ⟨by simp,Array.Perm.refl _⟩ (fun i j hij hj=>by simp at h2;lia)
    have e:(arrOf (SortSt.mk' general' (vs.toArray.zip vs.toArray) #[] 7 none)).map (·.2)=List.toArray ((List.toArray (List.range vs.length)).toList.map fun i=>vs.getD i Value.none):=by
      refine kat_snds (ks:=vs) rfl (p:=List.toArray (List.range vs.length)) ?_
      have e:=kas_range (vs.toArray.zip vs.toArray)
      rw [show(vs.toArray.zip vs.toArray).size=vs.length by simp] at e
      exact e.symm
    rw [e]
    exact q
  · have l2:2≤vs.length:=by simp at h2;lia
    rw [if_neg h2,if_neg h2]
    refine wpAny_bind (wpAny_mono (hk l2 _ kp (fun κ' s'=>κ'=κ∧s'={s with heap:=((s.heap.update a (Obj.mapSeq fun _=>#[])).push (seqObj "tuple" vs.toArray 0)).push (seqObj "list" #[] 0)}) ⟨rfl,rfl⟩) (fun κ' s0 hk=>?_) fun _ _ x=>x.elim)
    obtain⟨rfl,rfl⟩:=hk
    have ev:=vQ (cmp:=kas_ask prog w A κ' vs) (s:={s with heap:=((s.heap.update a (Obj.mapSeq fun _=>#[])).push (seqObj "tuple" vs.toArray 0)).push (seqObj "list" #[] 0)}) (fun i j C hi hj hc=>hlt _ kp i j C hi hj hc) _ (yN O (n:=vs.length) (by lia))
    refine wpAny_bind (wpAny_mono (kat_run (E:=E) (Q:=fun st' s'=>∃p:Array Nat,arrOf st'=p.map (kas_item (vs.toArray.zip vs.toArray))∧failedOf st'=none∧s'={s with heap:=((s.heap.update a (Obj.mapSeq fun _=>#[])).push (seqObj "tuple" vs.toArray 0)).push (seqObj "list" #[] 0)}∧mN vs.length p∧SA lt p vs.length) (ks:=vs) rfl l2 h64 (fun p st' s' a1 a2 a3 a4=>⟨p,a2,a3,a4.1,a4.2⟩) ev) ?_ fun _ _ e=>e)
    rintro⟨⟨⟩,st'⟩ s' ⟨p,har,hf,rfl,hp,hs⟩
    dsimp only
    have hout:=kat_snds (ks:=vs) rfl har
    rw [hout]
    refine wpAny_bind (seqEpoch_at ho6 rfl ?_)
    refine wpAny_bind (listUpdate_at ho6 rfl ?_ (hsz2:=by rw [List.size_toArray,List.length_map,Array.length_toList,hp.sz,sizeLine_eq];lia))
    rw [hf]
    simp only [bne_self_eq_false,Bool.false_eq_true,if_false]
    exact wpAny_pure (h p hp hs)
theorem q_{t:Addr}{vs:List Value}{Q:Value→Shared→Prop}(ht:s.heap.IsList t vs.toArray)(h64:vs.length < 64){κ:SortKind}{lt:Nat→Nat→Bool}(O:yC lt)
    (hk:2≤vs.length→∀h':Heap,(∀b o,s.heap.get? b=some o→h'.get? b=some o)→∀Q:SortKind→Shared→Prop,Q κ {s with heap:=h'}→wpAny (model prog w) A.in1.in1 (keyKind' vs.toArray) Q (fun _ _=>False) {s with heap:=h'})
    (hlt:∀h':Heap,(∀b o,s.heap.get? b=some o→h'.get? b=some o)→∀i j (C:Bool→Shared→Prop),i < vs.length→j < vs.length→C (lt i j) {s with heap:=h'}→wpAny (model prog w) A.in1.in1 (keyLt' κ (vs.getD i Value.none) (vs.getD j Value.none)) C (fun _ _=>False) {s with heap:=h'})
    (h:∀p:Array Nat,mN vs.length p→SA lt p vs.length→Q (.ref (s.heap.objs.size+1)) {s with heap:=sortedAll s.heap vs (List.toArray (p.toList.map fun i=>vs.getD i Value.none))}):wpAny (model prog w) A (call (.builtin "sorted") [.ref t]) Q E s:=by
  refine Calls.call_function_entry kind_sorted plain_sorted entry_sorted (args_sorted1 _) ?_;unfold Builtin.«sorted»
  refine wpAny_bind (m:=checkCount "sorted" 1 1 _) (wpAny_pure ?_);refine wpAny_bind (kG ht ?_ (Nat.le_trans (Nat.le_of_lt h64) (by decide)))
  have z:((s.heap.push (seqObj "list" #[] 0)).update s.heap.objs.size (Obj.mapSeq (· ++vs.toArray))).objs.size=s.heap.objs.size+1:=by rw [Heap.size_update,size_push']
  have o:(((s.heap.push (seqObj "list" #[] 0)).update s.heap.objs.size (Obj.mapSeq (· ++vs.toArray))).push (seqObj "list" vs.toArray 0)).get? (s.heap.objs.size+1)=some (seqObj "list" vs.toArray 0):=by rw [←z];exact Heap.get?_push_size _ rfl
  have keep:∀b o,s.heap.get? b=some o→(((s.heap.push (seqObj "list" #[] 0)).update s.heap.objs.size (Obj.mapSeq (· ++vs.toArray))).push (seqObj "list" vs.toArray 0)).get? b=some o:=fun b o q=>by
    have hlt:b < s.heap.objs.size:=Heap.lt_size q
    rw [Heap.get?_push_ne _ _ _ (by rw [z];exact Nat.ne_of_lt (Nat.lt_succ_of_lt hlt)),Heap.get?_update_ne _ _ _ _ (Nat.ne_of_lt hlt),Heap.get?_push_ne _ _ _ (Nat.ne_of_lt hlt)]
    exact q
  have ne:∀b o,s.heap.get? b=some o→b≠s.heap.objs.size+1:=fun b o q=>Nat.ne_of_lt (Nat.lt_succ_of_lt (Heap.lt_size q))
  refine wpAny_bind (wpAny_newList ?_ (by rw [sizeLine_eq];lia));show wpAny _ _ _ _ _ {s with heap:=((s.heap.push (seqObj "list" #[] 0)).update s.heap.objs.size (Obj.mapSeq (· ++vs.toArray))).push (seqObj "list" vs.toArray 0)}
  rw [z];refine wpAny_bind (wpAny_holding (wpAny_call_entry slot_list_sort ⟨_,o,rfl⟩ entry_list_sort (r_ (s:={s with heap:=((s.heap.push (seqObj "list" #[] 0)).update s.heap.objs.size (Obj.mapSeq (· ++vs.toArray))).push (seqObj "list" vs.toArray 0)}) o h64 O (fun l2 h' hh Q' hq=>hk l2 h' (fun b o e=>hh b o (ne b o e) (keep b o e)) Q' hq) (fun h' hh i j C hi hj hc=>hlt h' (fun b o e=>hh b o (ne b o e) (keep b o e)) i j C hi hj hc) fun p hp hs=>⟨_,rfl,?_⟩) (args_list_sort _)))
  exact wpAny_pure ⟨_,rfl,h p hp hs⟩
end
def AX(fin:Bool):List Int→List Int→Bool
  | a::r,b::t=>if a=b then AX fin r t else decide (a < b)
  | _,_=>fin
theorem wU:∀(r t:List Int),AX (decide (r.length < t.length)) r t=decide (r < t)
  | [],[]=>by simp [AX]
  | [],b::t=>by simp [AX]
  | a::r,[]=>by simp [AX]
  | a::r,b::t=>by
    unfold AX
    have e:decide ((a::r).length < (b::t).length)=decide (r.length < t.length):=by simp
    rw [e]
    by_cases c:a=b
    · rw [if_pos c,wU r t]
      subst c
      simp [List.cons_lt_cons_iff]
    · rw [if_neg c]
      simp [List.cons_lt_cons_iff,c]
theorem wO{prog:Program}{w:World}{A:Around}{fin:Bool}{Q:Bool→Shared→Prop}{s:Shared}:∀{xs ys:List Value} {r t:List Int} (i:Nat),IntsAre xs r→IntsAre ys t→Q (AX fin r t) s→KatLex prog w A true fin Q (xs.zip ys) i s
  | [],_,_,_,i,h1,h2,h=>by cases h1;exact kat_nil h
  | _::_,[],_,_,i,h1,h2,h=>by cases h2;cases h1;exact kat_nil h
  | _,_,_,_,i,.cons a u h1,.cons b v h2,h=>by
    refine kat_cons (wpAny_eqBool_int ?_)
    unfold AX at h
    by_cases c:a=b
    · rw [if_pos c] at h
      rw [beq_iff_eq.mpr c]
      exact kat_yes (wO (i+1) h1 h2 h)
    · rw [if_neg c] at h
      rw [beq_false_of_ne c]
      refine kat_no ?_
      cases i with
      | zero=>exact oneLt_int h
      | succ j=>exact kat_one _ _ (wpAny_lt_int h)
def eP(rs:List (List Int)):List (List Int):=rs.mergeSort fun a b=>decide (a≤b)
theorem yf{rs rs':List (List Int)}(p:rs'.Perm rs)(h:rs'.Pairwise (· ≤·)):rs'=eP rs:=by
  have h2:=List.pairwise_mergeSort (le:=fun a b:List Int=>decide (a≤b)) (fun a b c h1 h2=>by simp only [decide_eq_true_eq] at*;exact List.le_trans h1 h2) (fun a b=>by simp only [Bool.or_eq_true,decide_eq_true_eq];exact List.le_total a b) rs
  exact List.Perm.eq_of_pairwise (le:=(· ≤·)) (fun a b _ _ h1 h2=>List.le_antisymm h1 h2) h (h2.imp fun h=>by simpa using h) (p.trans (List.mergeSort_perm rs _).symm)
theorem FY(rs:List (List Int)):yC fun i j=>decide (rs.getD i [] < rs.getD j []) where
  irr i:=decide_eq_false (List.lt_irrefl _)
  tr {i j k} h1 h2:=by
    simp only [decide_eq_false_iff_not,List.not_lt] at*
    exact List.le_trans h2 h1
  asy {i j} h:=by
    simp only [decide_eq_true_eq,decide_eq_false_iff_not] at*
    exact List.lt_asymm h
end L2
namespace L2
open PySem PySem.Spec PyProof.Rows PySem.W
section
variable{X:Cx}{K:PySem.W.Frag}
def Dm(K:PySem.W.Frag)(H:Hp)(us:List V)(rs:List (List Int)):Prop:=us.length=rs.length∧∀(i:Nat) (r:List Int),rs[i]?=some r→∃p,us[i]?=some (.ref p)∧cZ K H p (r.map V.int)
def vz(h:Heap)(v:Value)(r:List Int):Prop:=∃(a:Addr) (o:Obj) (xs:List Value) (n:Nat),v=.ref a∧h.get? a=some o∧o.cls=.type "tuple"∧o.data=.seq xs.toArray n∧IntsAre xs r
theorem vz.kept{h h':Heap}{v:Value}{r:List Int}(x:vz h v r)(k:∀b o,h.get? b=some o→h'.get? b=some o):vz h' v r:=
  let ⟨a,o,xs,n,e1,e2,e3⟩:=x;⟨a,o,xs,n,e1,k _ _ e2,e3⟩
theorem lZ{h:Heap}:∀(vs:List Value) (rs:List (List Int)),vs.length=rs.length→(∀(i:Nat) (r:List Int),rs[i]?=some r→r≠[]∧∃v,vs[i]?=some v∧vz h v r)→∃fs,KatTups h vs fs∧fs.length=vs.length∧∀v∈fs,∃n t,v=Value.int n t
  | [],[],_,_=>⟨[],.nil,rfl,fun v hv=>by cases hv⟩
  | [],_::_,hl,_=>by simp at hl
  | _::_,[],hl,_=>by simp at hl
  | v::vs,r::rs,hl,hh=>by
    obtain⟨fs,t,l,hf⟩:=lZ vs rs (by simpa using hl) fun i r hr=>hh (i+1) r (by simpa using hr)
    obtain⟨ne,v',hv,a,o,xs,n,e1,e2,e3,e4,e5⟩:=hh 0 r rfl
    have:v'=v:=by simpa using hv.symm
    subst this
    subst e1
    cases e5 with
    | nil=>exact absurd rfl ne
    | cons m t' h5=>
      refine⟨_::fs,KatTups.cons e2 e3 e4 (by rfl) t,by simp [l],fun v hv=>?_⟩
      rcases List.mem_cons.mp hv with rfl | hv
      · exact⟨_,_,rfl⟩
      · exact hf v hv
theorem iE:∀{vs:List Value} {ns:List Int},IntsAre vs ns→vs.length=ns.length
  | _,_,.nil=>rfl
  | _,_,.cons _ _ h=>by simp [iE h]
theorem me{rs:List (List Int)}{p:Array Nat}{n:Nat}(hp:mN n p)(hs:SA (fun i j=>decide (rs.getD i [] < rs.getD j [])) p n):(p.toList.map fun i=>rs.getD i []).Pairwise (· ≤·):=by
  rw [List.pairwise_iff_getElem]
  intro i j hi hj hij
  rw [List.length_map,Array.length_toList,hp.sz] at hi hj
  have:=hs i j hij hj
  simp only [decide_eq_false_iff_not,List.not_lt] at this
  have ei:gA p i=p[i]'(by rw [hp.sz];exact hi):=by simp [gA,Array.getD,hp.sz,hi]
  have ej:gA p j=p[j]'(by rw [hp.sz];exact hj):=by simp [gA,Array.getD,hp.sz,hj]
  rw [ei,ej] at this
  simpa using this
theorem l8{α:Type}(l:List α)(d:α):(List.range l.length).map (fun i=>l.getD i d)=l:=by
  refine List.ext_getElem? fun i=>?_
  rw [List.getElem?_map]
  by_cases h:i < l.length
  · rw [List.getElem?_range h];simp [h]
  · rw [List.getElem?_eq_none (by simp;lia),List.getElem?_eq_none (by lia)];rfl
theorem qQ{rs:List (List Int)}{p:Array Nat}(hp:mN rs.length p)(hs:SA (fun i j=>decide (rs.getD i [] < rs.getD j [])) p rs.length):(p.toList.map fun i=>rs.getD i [])=eP rs:=by
  refine yf ?_ (me hp hs)
  have q:p.toList.Perm (List.range rs.length):=by simpa using Array.perm_iff_toList_perm.mp hp.pm
  have:=q.map fun i=>rs.getD i []
  rwa [l8] at this
theorem nZ{us:List V}{vs:List Value}(h:aI us vs):∀(p:List Nat),(∀i∈p,i < us.length)→aI (p.map fun i=>us.getD i .non) (p.map fun i=>vs.getD i Value.none)
  | [],_=>.nil
  | i::p,hp=>by
    refine .cons ?_ (nZ h p fun j hj=>hp j (List.mem_cons_of_mem _ hj))
    have hi:=hp i (by simp)
    obtain⟨u,h1,h2⟩:=h.get (i:=i) (x:=us[i]) (List.getElem?_eq_getElem hi)
    simp only [List.getD_eq_getElem?_getD,h1,List.getElem?_eq_getElem hi,Option.getD_some]
    exact h2
def pd(K:PySem.W.Frag):List V→Hp→VK→Prop:=fun xs H Q=>∃(a:Addr) (us:List V) (rs:List (List Int)),xs=[.ref a]∧fm K H a us∧Dm K H us rs∧(∀r∈rs,r≠[])∧rs.length < 64∧
  ∀(p:List Nat) (l:Addr) (H':Hp),(∀i∈p,i < rs.length)→(p.map fun i=>rs.getD i [])=eP rs→av H H'→H l=none→H' l=some (.lst (p.map fun i=>us.getD i .non))→Q (.ref l) H'
theorem rO:cL X (.builtin "sorted") (pd X.K):=by
  intro pins s σ H xs us0 Q I r h
  obtain⟨a,us,rs,rfl,hs,⟨ul,hr⟩,hne,h64,q⟩:=h
  obtain⟨u,rfl,ru⟩:=je r
  cases ru
  obtain⟨its,rv,p0,hz⟩:=I.list hs
  have hl:=rv.length
  have rows:∀(i:Nat) (r:List Int),rs[i]?=some r→r≠[]∧∃v,its[i]?=some v∧vz s.heap v r:=fun i r e=>by
    obtain⟨p,h1,h2⟩:=hr i r e
    obtain⟨v,h3,h4⟩:=rv.get h1
    obtain⟨xs,rx,⟨o,h5,h6,n,h7⟩,_⟩:=I.tuple h2
    exact⟨hne r (List.mem_of_getElem? e),v,h3,p,o,xs,n,h4,h5,h6,h7,jd rx⟩
  refine q_ p0.isList (by lia) (κ:=tuples' true) (FY rs) (fun l2 h' kp Q' hq=>?_) (fun h' kp i j C hi hj hc=>?_) fun p hp hss=>?_
  · obtain⟨fs,t,fl,hf⟩:=lZ (h:=h') its rs (by lia) fun i r e=>let ⟨n,v,x,y⟩:=rows i r e;⟨n,v,x,y.kept kp⟩
    refine kat_kind (fs:=fs) (T:=.type "int") t (by lia) (fun v hv=>?_) rfl hq
    obtain⟨n,t,rfl⟩:=hf v hv
    exact Looks.of_pure rfl
  · have gi:rs[i]?=some rs[i]:=List.getElem?_eq_getElem (by lia)
    have gj:rs[j]?=some rs[j]:=List.getElem?_eq_getElem (by lia)
    obtain⟨-,v,h1,h2⟩:=rows i _ gi
    obtain⟨-,v2,h3,h4⟩:=rows j _ gj
    obtain⟨a1,o1,xs,n1,rfl,e2,e3,e4,e5⟩:=h2.kept kp
    obtain⟨a2,o2,ys,n2,rfl,f2,f3,f4,f5⟩:=h4.kept kp
    rw [List.getD_eq_getElem?_getD,List.getD_eq_getElem?_getD,h1,h3,Option.getD_some,Option.getD_some]
    refine kat_lt e2 e4 f2 f4 (wO 0 e5 f5 ?_)
    rw [List.size_toArray,List.size_toArray,iE e5,iE f5,wU]
    have e:(decide (rs.getD i [] < rs.getD j []))=decide (rs[i] < rs[j]):=by
      rw [List.getD_eq_getElem?_getD,List.getD_eq_getElem?_getD,gi,gj];rfl
    rw [e] at hc
    exact hc
  · have hn:its.length=rs.length:=by lia
    rw [hn] at hp hss
    have hpl:∀i∈p.toList,i < rs.length:=fun i hi=>by
      have q:p.toList.Perm (List.range rs.length):=by simpa using Array.perm_iff_toList_perm.mp hp.pm
      simpa using q.mem_iff.mp hi
    obtain⟨e,he⟩:=sortedAll_at s.heap its (List.toArray (p.toList.map fun i=>its.getD i Value.none))
    have hf:H (s.heap.objs.size+1)=none:=I.hok.fresh (Nat.le_succ _)
    refine⟨.ref (s.heap.objs.size+1),aV H (s.heap.objs.size+1) (.lst (p.toList.map fun i=>us.getD i .non)),I.laid (t':=s.toks) (fun _ _=>sortedAll_old) (Nat.le_succ _) ⟨?_,p.toList.map (fun i=>its.getD i Value.none),e,nZ rv _ (fun i hi=>by rw [ul];exact hpl i hi),?_⟩,rfl,q p.toList _ _ hpl (qQ hp hss) (av.new hf) hf am⟩
    · rw [List.length_map,Array.length_toList,hp.sz]
      exact Nat.le_trans (Nat.le_of_lt h64) (by decide)
    · simpa [seqObj] using he
def aq(r:List Int):PyData:=.tuple (r.map .int)
def qP:PyData→Option (List Int)
  | .tuple ds=>(kT ds).bind fun ns=>if ns.isEmpty then none else some ns
  | _=>none
def kh:List PyData→Option (List (List Int))
  | []=>some []
  | d::ds=>(qP d).bind fun r=>(kh ds).map fun rs=>r::rs
theorem xZ{d:PyData}{r:List Int}(h:qP d=some r):d=aq r∧r≠[]:=by
  unfold qP at h
  split at h
  · obtain⟨ns,h1,h2⟩:=Option.bind_eq_some_iff.mp h
    split at h2
    · cases h2
    · rename_i c
      cases h2
      exact⟨by rw [jB h1];rfl,fun z=>c (by rw [z];rfl)⟩
  · cases h
theorem nL:∀{ds:List PyData} {rs:List (List Int)},kh ds=some rs→ds=rs.map aq∧∀r∈rs,r≠[]
  | [],rs,h=>by cases h;exact⟨rfl,fun r hr=>by cases hr⟩
  | d::ds,rs,h=>by
    unfold kh at h
    obtain⟨r,h1,h2⟩:=Option.bind_eq_some_iff.mp h
    obtain⟨rs',h3,rfl⟩:=Option.map_eq_some_iff.mp h2
    obtain⟨e1,e2⟩:=xZ h1
    obtain⟨e3,e4⟩:=nL h3
    subst e1 e3
    exact⟨rfl,fun r' hr=>(List.mem_cons.mp hr).elim (fun z=>z ▸ e2) (e4 r')⟩
theorem mx:∀{rs:List (List Int)},(∀r∈rs,r≠[])→kh (rs.map aq)=some rs
  | [],_=>rfl
  | r::rs,h=>by
    have ih:=mx fun r' hr=>h r' (List.mem_cons_of_mem r hr)
    have ne:=h r (by simp)
    have e:qP (aq r)=some r:=by
      show((kT (r.map .int)).bind fun ns=>if ns.isEmpty then none else some ns)=some r
      rw [iQ]
      cases r with
      | nil=>exact absurd rfl ne
      | cons a t=>rfl
    show((qP (aq r)).bind fun r'=>(kh (rs.map aq)).map fun rs'=>r'::rs')=_
    rw [e,ih];rfl
def lT:En→Rv→Option Rv:=fun e x=>(bT e x).bind fun z=>(kh z.2).bind fun rs=>if z.1=true∧rs.length < 64 then some (.l ((eP rs).map aq)) else none
theorem pN{F:Hp}{ds:List PyData}{us:List V}(h:aC K F ds us):∀(p:List Nat),(∀i∈p,i < ds.length)→aC K F (p.map fun i=>ds.getD i .none) (p.map fun i=>us.getD i .non)
  | [],_=>aC.nil
  | i::p,hp=>by
    have hi:=hp i (by simp)
    obtain⟨v,h1,h2⟩:=h.get (List.getElem?_eq_getElem hi)
    refine aC.cons ?_ (pN h p fun j hj=>hp j (List.mem_cons_of_mem _ hj))
    simp only [List.getD_eq_getElem?_getD,h1,List.getElem?_eq_getElem hi,Option.getD_some]
    exact h2
theorem z7:cO K (pd K) (g1 lT):=ee fun σ H0 F H e x z v Q R A hg q=>by
  unfold lT at hg
  obtain⟨⟨b,ds⟩,h1,hg⟩:=Option.bind_eq_some_iff.mp hg
  obtain⟨rs,h6,hg⟩:=Option.bind_eq_some_iff.mp hg
  split at hg
  case isFalse=>cases hg
  case isTrue hl=>
  cases hg
  obtain⟨hb,hl⟩:=hl
  dsimp only at hb
  subst hb
  obtain⟨p,vs,rfl,d1,s1⟩:=bJ R A h1
  rw [if_pos rfl] at s1
  obtain⟨e1,ne⟩:=nL h6
  dsimp only at e1
  subst e1
  have dl:=d1.len
  rw [List.length_map] at dl
  refine⟨p,vs,rs,rfl,s1,⟨dl.symm,fun i r hr=>?_⟩,ne,hl,fun pl l H' hpl hs sm hn hl'=>?_⟩
  · obtain⟨v,h1,h2⟩:=d1.get (i:=i) (d:=aq r) (by rw [List.getElem?_map,hr];rfl)
    obtain⟨a,xs,rfl,h3,h4⟩:=bN.mp h2
    have:=aC.ints.mp h4
    subst this
    exact⟨a,h1,R.sm.tup h3⟩
  · obtain⟨R4,X4⟩:=R.same sm
    have dp:=pN d1 pl (fun i hi=>by rw [List.length_map];exact hpl i hi)
    have e:(pl.map fun i=>(rs.map aq).getD i .none)=(eP rs).map aq:=by
      rw [←hs,List.map_map]
      refine List.map_congr_left fun i hi=>?_
      have il:=hpl i hi
      simp [List.getD_eq_getElem?_getD,il]
    rw [e] at dp
    exact q F H' _ X4 R4 ⟨l,_,rfl,hn,R.freeF hn,hl',dp,fun z=>R.ownH l ((R.sameOwn sm l).mp z) hn⟩
theorem wm{e:En}{i:Nat}{rs:List (List Int)}(hi:e[i]?=some (some (.l (rs.map aq))))(hn:∀r∈rs,r≠[])(h:rs.length < 64):g1 lT e [.s i]=some (.l ((eP rs).map aq)):=by
  simp [g1,lT,bT,hi,mx hn,h]
def bG:En→Rv→Option Rv:=fun e x=>match eH e x with
  | some z=>some z
  | none=>lT e x
theorem rP:cL X (.builtin "sorted") (fun xs H Q=>pb X.K xs H Q∨pd X.K xs H Q):=fun pins s σ H xs us Q I rv h=>h.elim (rM pins s σ H xs us Q I rv) (rO pins s σ H xs us Q I rv)
theorem z8:cO K (fun xs H Q=>pb K xs H Q∨pd K xs H Q) (g1 bG):=fun σ H0 F H e xs z vs Q R A hg q=>by
  match xs,A,hg with
  | [x],A,hg=>
    have hg':bG e x=some z:=hg
    unfold bG at hg'
    cases c:eH e x with
    | some y=>rw [c] at hg';exact .inl (z6 σ H0 F H e [x] y vs Q R A c (fun F' H' w a b d=>q F' H' w a b (by cases hg';exact d)))
    | none=>rw [c] at hg';exact .inr (z7 σ H0 F H e [x] z vs Q R A hg' q)
theorem lm(hK:X.K=K):k8 X K "sorted" (g1 bG):=by
  subst hK
  exact⟨.inl ⟨_,_,rP,z8,PyProof.Rows.boot_sorted⟩⟩
theorem qa{e:En}{i:Nat}{r:List Int}{rs:List (List Int)}(hi:e[i]?=some (some (.l ((r::rs).map aq))))(hn:∀x∈r::rs,x≠[])(h:(r::rs).length < 64):g1 bG e [.s i]=some (.l ((eP (r::rs)).map aq)):=by
  have z:eH e (.s i)=none:=by
    have:bT e (.s i)=some (true,(r::rs).map aq):=by simp [bT,hi]
    unfold eH
    rw [this]
    rfl
  show bG e (.s i)=_
  unfold bG
  rw [z]
  exact wm hi hn h
theorem lU{e:En}{i:Nat}{ns:List Int}(hi:e[i]?=some (some (.l (ns.map .int))))(h:ns.length < 64):g1 bG e [.s i]=some (.l ((bi ns).map .int)):=by
  have:=wj hi h
  show bG e (.s i)=_
  unfold bG
  rw [show eH e (.s i)=_ from this]
theorem wn{e:En}{i:Nat}{rs:List (List Int)}(hi:e[i]?=some (some (.l (rs.map aq))))(hn:∀x∈rs,x≠[])(h:rs.length < 64):g1 bG e [.s i]=some (.l ((eP rs).map aq)):=by
  cases rs with
  | nil=>
    have:=lU (ns:=[]) hi (by decide)
    rw [this]
    have e1:eP []=[]:=by simp [eP]
    have e2:bi []=[]:=by simp [bi]
    rw [e1,e2];rfl
  | cons r rs=>exact qa hi hn h
theorem wo{e:En}{ns:List Int}(h:ns.length < 64):g1 bG e [.d (.tuple (ns.map .int))]=some (.l ((bi ns).map .int)):=by
  have:=wk (e:=e) h
  show bG e (.d (.tuple (ns.map .int)))=_
  unfold bG
  rw [show eH e (.d (.tuple (ns.map .int)))=_ from this]
end
end L2
namespace L2
open PySem PySem.Spec PyProof.Rows
section
variable{X:Cx}{K:PySem.W.Frag}
variable{o a:Expr}{es:List Expr}{fo:FE}{fs:FA}{apos cpos:Pos}
end
end L2
namespace L2
open PySem PySem.Spec PyProof.Rows
end L2
namespace L2
open PySem PySem.Spec PyProof.Rows
section
variable{X:Cx}{K:PySem.W.Frag}{σ σ2:L2.St}{H0 F H F2 H2 F3:Hp}{e e2:En}
mutual
theorem DA.dropL(hd:∀a o,F2 a=some o→(∀xs,o≠.lst xs)→F3 a=some o):∀{d:PyData} {v:V},bv d=true→DA K F2 d v→DA K F3 d v
  | .none,_,_,h=>h
  | .bool _,_,_,h=>h
  | .int _,_,_,h=>h
  | .str _,_,_,h=>h
  | .tuple ds,v,f,h=>by
    obtain⟨a,xs,e1,h1,h2⟩:=bN.mp h
    refine bN.mpr ⟨a,xs,e1,?_,aC.dropL hd (by simpa [bv] using f) h2⟩
    rcases h1 with (h1 | ⟨o,h1⟩) | h1
    · exact .inl (.inl (hd a _ h1 fun xs z=>by cases z))
    · exact .inl (.inr ⟨o,hd a _ h1 fun xs z=>by cases z⟩)
    · exact .inr h1
  | .list _,_,f,_=>by simp [bv] at f
  | .dict _,_,f,_=>by simp [bv] at f
theorem aC.dropL(hd:∀a o,F2 a=some o→(∀xs,o≠.lst xs)→F3 a=some o):∀{ds:List PyData} {vs:List V},aR ds=true→aC K F2 ds vs→aC K F3 ds vs
  | [],_,_,h=>h
  | d::ds,vs,f,h=>by
    simp only [aC] at h ⊢
    obtain⟨x,r,e1,h1,h2⟩:=h
    simp only [aR,Bool.and_eq_true] at f
    exact⟨x,r,e1,DA.dropL hd f.1 h1,aC.dropL hd f.2 h2⟩
end
def iz:Sv→Bool
  | .d x=>bv x
  | .l xs=>aR xs
  | .n yss=>yss.all aR
def vX(i:Nat)(e:En):Prop:=∀(j:Nat) (s:Sv),j≠i→e[j]?=some (some s)→iz s=true
theorem aX.unfrz(R2:aX K F2 H2 σ2 e2){i:Nat}{xss:List (List PyData)}{d:PyData}{l:Addr}{bs:List Addr}(hi:e2[i]?=some (some (.d d)))(hs:σ2[i]?=some (some (.ref l)))(hl:F2 l=some (.lst (bs.map V.ref)))
    (len:bs.length=xss.length)(nd:bs.Nodup)(nl:l∉bs)(sF:av F F2)(nF:∀a,a=l∨a∈bs→F a=none)
    (hb:∀(k:Nat) (b:Addr) (ys:List PyData),bs[k]?=some b→xss[k]?=some ys→∃us,F2 b=some (.lst us)∧aC K F ys us)(hf:vX i e2):
    ∃F3,aX K F3 H2 σ2 (e2.set i (some (.n xss)))∧av F F3∧(∀a o,F2 a=some o→(∀xs,o≠.lst xs)→F3 a=some o)∧(∀a,F2 a=none→F3 a=none)∧
      (∀a,cv σ2 (e2.set i (some (.n xss))) H2 a→cv σ2 e2 H2 a∨a=l∨a∈bs):=by
  have hlt:i < e2.length:=(List.getElem?_eq_some_iff.mp hi).1
  let F3:Hp:=fun a=>if a=l∨a∈bs then none else F2 a
  have pos:∀a,(a=l∨a∈bs)→F3 a=none:=fun a h=>if_pos h
  have neg:∀a,¬(a=l∨a∈bs)→F3 a=F2 a:=fun a h=>if_neg h
  have lstAt:∀a,(a=l∨a∈bs)→∃us,F2 a=some (.lst us):=fun a h=>by
    rcases h with rfl | h
    · exact⟨_,hl⟩
    · obtain⟨k,hk⟩:=List.getElem?_of_mem h
      have hk2:k < xss.length:=by rw [←len];exact(List.getElem?_eq_some_iff.mp hk).1
      obtain⟨us,q,_⟩:=hb k a xss[k] hk (List.getElem?_eq_getElem hk2)
      exact⟨us,q⟩
  have hd:∀a o,F2 a=some o→(∀xs,o≠.lst xs)→F3 a=some o:=fun a o h n=>by
    by_cases z:a=l∨a∈bs
    · obtain⟨us,q⟩:=lstAt a z
      rw [q] at h;cases h
      exact absurd rfl (n us)
    · rw [neg a z];exact h
  have s3:av F F3:=fun a o q=>by
    have z:¬(a=l∨a∈bs):=fun z=>by rw [nF a z] at q;cases q
    rw [neg a z];exact sF a o q
  have sub:∀a,F2 a=none→F3 a=none:=fun a h=>by
    by_cases z:a=l∨a∈bs
    · exact pos a z
    · rw [neg a z];exact h
  have sm:av F3 H2:=fun a o q=>by
    by_cases z:a=l∨a∈bs
    · rw [pos a z] at q;cases q
    · rw [neg a z] at q;exact R2.sm a o q
  have gi:(e2.set i (some (Sv.n xss)))[i]?=some (some (.n xss)):=List.getElem?_set_self hlt
  have gj:∀j,j≠i→(e2.set i (some (Sv.n xss)))[j]?=e2[j]?:=fun j h=>List.getElem?_set_ne (Ne.symm h)
  have fpI:∀a,Fp σ2 (e2.set i (some (.n xss))) H2 i a→a=l∨a∈bs:=fun a q=>by
    rcases q with ⟨zs,q,_⟩ | ⟨zss,l',bs',q,q1,q2,q3⟩
    · rw [gi] at q;cases q
    · rw [hs] at q1;cases q1
      rw [R2.sm l _ hl] at q2
      have e1:bs=bs':=List.map_inj_right (fun _ _ z=>V.ref.inj z) |>.mp (HO.lst.inj (Option.some.inj q2))
      subst e1
      exact q3
  have fpJ:∀j a,j≠i→(Fp σ2 (e2.set i (some (.n xss))) H2 j a↔ Fp σ2 e2 H2 j a):=fun j a hj=>by
    unfold Fp
    rw [gj j hj]
  refine⟨F3,⟨sm,by rw [List.length_set];exact R2.len,fun j x q=>?_,fun j xs q=>?_,fun j yss q=>?_,fun j k a p q=>?_⟩,s3,hd,sub,fun a ⟨j,q⟩=>?_⟩
  · by_cases z:j=i
    · subst z;rw [gi] at q;cases q
    · rw [gj j z] at q
      obtain⟨v,h1,h2⟩:=R2.dat j x q
      exact⟨v,h1,DA.dropL hd (hf j _ z q) h2⟩
  · by_cases z:j=i
    · subst z;rw [gi] at q;cases q
    · rw [gj j z] at q
      obtain⟨l',vs,h1,h2,h3,h4⟩:=R2.own j xs q
      exact⟨l',vs,h1,sub l' h2,h3,aC.dropL hd (hf j _ z q) h4⟩
  · by_cases z:j=i
    · subst z
      rw [gi] at q
      cases q
      refine⟨l,bs,hs,pos l (.inl rfl),R2.sm l _ hl,len,nd,nl,fun k b ys q1 q2=>?_⟩
      obtain⟨us,h1,h2⟩:=hb k b ys q1 q2
      exact⟨pos b (.inr (List.mem_of_getElem? q1)),us,R2.sm b _ h1,h2.mono s3⟩
    · rw [gj j z] at q
      obtain⟨l',bs',h1,h2,h3,h4,h5,h6,h7⟩:=R2.nst j yss q
      refine⟨l',bs',h1,sub l' h2,h3,h4,h5,h6,fun k b ys q1 q2=>?_⟩
      obtain⟨h8,us,h9,h10⟩:=h7 k b ys q1 q2
      have fy:aR ys=true:=by
        have:=hf j _ z q
        simp only [iz,List.all_eq_true] at this
        exact this ys (List.mem_of_getElem? q2)
      exact⟨sub b h8,us,h9,aC.dropL hd fy h10⟩
  · have out:∀j,j≠i→Fp σ2 e2 H2 j a→¬(a=l∨a∈bs):=fun j _ hp z=>by
      obtain⟨us,q⟩:=lstAt a z
      rw [(R2.fpAt hp).1] at q;cases q
    by_cases zj:j=i
    · by_cases zk:k=i
      · rw [zj,zk]
      · subst zj
        exact absurd (fpI a p) (out k zk ((fpJ k a zk).mp q))
    · by_cases zk:k=i
      · subst zk
        exact absurd (fpI a q) (out j zj ((fpJ j a zj).mp p))
      · exact R2.fp j k a ((fpJ j a zj).mp p) ((fpJ k a zk).mp q)
  · by_cases z:j=i
    · subst z;exact .inr (fpI a q)
    · exact .inl ⟨j,(fpJ j a z).mp q⟩
theorem aX.frzN2(R:aX K F H σ e){i:Nat}{xss:List (List PyData)}(hi:e[i]?=some (some (.n xss))):∃(F':Hp) (l:Addr) (bs:List Addr),aX K F' H σ (e.set i (some (.d (.list (xss.map .list)))))∧dw σ F H e F' H (e.set i (some (.d (.list (xss.map .list)))))∧
    σ[i]?=some (some (.ref l))∧F' l=some (.lst (bs.map V.ref))∧bs.length=xss.length∧bs.Nodup∧l∉bs∧(∀a,a=l∨a∈bs→F a=none∧cv σ e H a)∧
    (∀(k:Nat) (b:Addr) (ys:List PyData),bs[k]?=some b→xss[k]?=some ys→∃us,F' b=some (.lst us)∧aC K F ys us):=by
  obtain⟨l,bs,a1,a2,a3,a4,a5,a6,a7⟩:=R.nst i xss hi
  have hlt:i < e.length:=(List.getElem?_eq_some_iff.mp hi).1
  have inF:∀a,a=l∨a∈bs→Fp σ e H i a:=fun a h=>.inr ⟨xss,l,bs,hi,a1,a3,h⟩
  let F':Hp:=fun a=>if a=l∨a∈bs then H a else F a
  have pos:∀a,(a=l∨a∈bs)→F' a=H a:=fun a h=>if_pos h
  have neg:∀a,¬(a=l∨a∈bs)→F' a=F a:=fun a h=>if_neg h
  have sF:av F F':=fun b o q=>by
    have z:¬(b=l∨b∈bs):=fun z=>by rw [(R.fpAt (inF b z)).1] at q;cases q
    rw [neg b z];exact q
  have sm:av F' H:=fun b o q=>by
    by_cases z:b=l∨b∈bs
    · rw [pos b z] at q;exact q
    · rw [neg b z] at q;exact R.sm b o q
  have dd:∀(cs:List Addr) (yss:List (List PyData)),cs.length=yss.length→(∀(k:Nat) (b:Addr) (ys:List PyData),cs[k]?=some b→yss[k]?=some ys→b∈bs∧∃us,H b=some (.lst us)∧aC K F ys us)→aC K F' (yss.map .list) (cs.map V.ref):=by
    intro cs
    induction cs with
    | nil=>
      intro yss h _
      cases yss with
      | nil=>exact aC.nil
      | cons _ _=>simp at h
    | cons c cs ih=>
      intro yss h hh
      cases yss with
      | nil=>simp at h
      | cons ys yss=>
        obtain⟨c1,us,c2,c3⟩:=hh 0 c ys rfl rfl
        refine aC.cons (cw.mpr ⟨c,us,rfl,.inl (.inl ?_),c3.mono sF⟩) (ih yss (by simpa using h) fun k b zs q1 q2=>hh (k+1) b zs (by simpa using q1) (by simpa using q2))
        rw [pos c (.inr c1)];exact c2
  have da:DA K F' (.list (xss.map .list)) (.ref l):=cw.mpr ⟨l,_,rfl,.inl (.inl (by rw [pos l (.inl rfl)];exact a3)),dd bs xss a4 fun k b ys q1 q2=>by
    obtain⟨_,us,c2,c3⟩:=a7 k b ys q1 q2
    exact⟨List.mem_of_getElem? q1,us,c2,c3⟩⟩
  have gi:(e.set i (some (Sv.d (.list (xss.map .list)))))[i]?=some (some (.d (.list (xss.map .list)))):=List.getElem?_set_self hlt
  have nofp:∀a,¬Fp σ (e.set i (some (.d (.list (xss.map .list))))) H i a:=fun a q=>by
    rcases q with ⟨zs,q,_⟩ | ⟨xss,_,_,q,_⟩
    · rw [gi] at q;cases q
    · rw [gi] at q;cases q
  obtain⟨R',fs⟩:=R.upd1 (F':=F') (H':=H) (e':=e.set i (some (.d (.list (xss.map .list))))) i (by rw [List.length_set];exact R.len) (fun _ _=>rfl) (fun j hj=>List.getElem?_set_ne (Ne.symm hj)) sF sm
    (fun j a hj q=>by
      rw [neg a fun z=>hj (R.fp j i a q (inF a z))]
      exact(R.fpAt q).1)
    (fun j a o _ _ ha=>ha) (fun x q=>by rw [gi] at q;cases q;exact⟨_,a1,da⟩) (fun zs q=>by rw [gi] at q;cases q) (fun zss q=>by rw [gi] at q;cases q) (fun a j hj q=>absurd q (nofp a))
  refine⟨F',l,bs,R',⟨sF,fun _ h=>h,fun a vs h1 h2 h3=>?_,fun a vs h=>⟨vs,h⟩,fun _ _ h _=>h,fun j=>?_,fun a ⟨j,q⟩=>?_⟩,a1,by rw [pos l (.inl rfl)];exact a3,a4,a5,a6,fun a h=>⟨(R.fpAt (inF a h)).1,i,inF a h⟩,fun k b ys q1 q2=>?_⟩
  · rw [neg a fun z=>h3 ⟨i,inF a z⟩];exact h1
  · by_cases z:j=i
    · subst z;rw [gi,hi];simp
    · rw [List.getElem?_set_ne (Ne.symm z)]
  · by_cases z:j=i
    · subst z;exact absurd q (nofp a)
    · exact .inl ⟨j,(fs j a z).mp q⟩
  · obtain⟨_,us,c2,c3⟩:=a7 k b ys q1 q2
    exact⟨us,by rw [pos b (.inr (List.mem_of_getElem? q1))];exact c2,c3⟩
def gR:Nat→En→Bool
  | _,[]=>true
  | 0,_::e=>e.all fun o=>match o with | some s=>iz s | none=>true
  | i+1,o::e=>(match o with | some s=>iz s | none=>true)&&gR i e
theorem lM:∀{i:Nat} {e:En},gR i e=true→vX i e
  | _,[],_=>fun j s _ q=>by simp at q
  | 0,o::e,h=>fun j s n q=>by
    cases j with
    | zero=>exact absurd rfl n
    | succ j=>
      rw [List.getElem?_cons_succ] at q
      simp only [gR,List.all_eq_true] at h
      exact h _ (List.mem_of_getElem? q)
  | i+1,o::e,h=>fun j s n q=>by
    simp only [gR,Bool.and_eq_true] at h
    cases j with
    | zero=>
      rw [List.getElem?_cons_zero] at q
      cases q
      exact h.1
    | succ j=>
      rw [List.getElem?_cons_succ] at q
      exact lM h.2 j s (fun z=>n (by rw [z])) q
def nO(i:Nat)(f:FS):FS:=fun e=>(fJ e i).bind fun xss=>(f (e.set i (some (.d (.list (xss.map .list)))))).bind fun fl=>match fl with
  | .nx e2=>if gR i e2=true then(match e2[i]? with
    | some (some (.d _))=>some (.nx (e2.set i (some (.n xss))))
    | _=>none) else none
  | _=>none
theorem zT{s:Stmt}{f:FS}{W:List Nat}{i:Nat}(hi:i∉W)(h:PS X s (fS K f W)):PS X s (fS K (nO i f) W):=h.mono fun D σ H h=>by
  obtain⟨F,e,fl,R,hf,q⟩:=h
  unfold nO at hf
  obtain⟨xss,h1,hf⟩:=Option.bind_eq_some_iff.mp hf
  obtain⟨fl2,h2,hf⟩:=Option.bind_eq_some_iff.mp hf
  have hn:=fj h1
  obtain⟨F1,l,bs,R1,X1,a1,a2,a3,a4,a5,a6,a7⟩:=R.frzN2 hn
  refine⟨F1,_,fl2,R1,h2,?_⟩
  cases fl2 with
  | nx e2=>
    dsimp only at hf
    split at hf
    case isFalse=>cases hf
    case isTrue hfl=>
    split at hf
    case h_2=>cases hf
    case h_1 d heq=>
    cases hf
    intro F2 H2 σ2 X2 R2
    have hs2:σ2[i]?=some (some (.ref l)):=by rw [X2.wr i hi];exact a1
    obtain⟨F3,R3,s3,hd3,sub3,o3⟩:=R2.unfrz (F:=F) (xss:=xss) (bs:=bs) heq hs2 (X2.sf _ _ a2) a3 a4 a5 (X1.sf.trans X2.sf) (fun a h=>(a6 a h).1)
      (fun k b ys q1 q2=>let ⟨us,c1,c2⟩:=a7 k b ys q1 q2;⟨us,X2.sf _ _ c1,c2⟩) (lM hfl)
    have no:∀a o,H a=some o→¬cv σ e H a→¬cv σ (e.set i (some (.d (.list (xss.map .list))))) H a:=fun a o h n z=>(X1.ow a z).elim n fun z=>by rw [h] at z;cases z
    refine q F3 H2 σ2 ⟨s3,X2.dom,fun a vs c1 c2 c3=>sub3 a (X2.fr a vs (X1.fr a vs c1 c2 c3) c2 (no a _ c2 c3)),X2.lst,fun a o c1 c2=>X2.tmp a o c1 (no a o c1 c2),fun a h=>?_,X2.wr⟩ R3
    rcases o3 a h with z | z
    · exact(X2.own a z).elim (X1.ow a) .inr
    · exact .inl (a6 a z).2
  | _=>cases hf
end
end L2
namespace L2
open PySem PySem.Spec PyProof.Rows
section
variable{X:Cx}{K:PySem.W.Frag}{a b:Expr}{fa fb:FE}{pos p p1 p2 p3 pos':Pos}{x:Str}{i:Nat}
def mI(i:Nat)(fp:FE)(fq:En→Option Int):FE:=fun e=>(fJ e i).bind fun _=>(fp e).bind fun p=>(bO p.1).bind fun k=>(fJ p.2 i).bind fun xss=>(yx xss.length k).bind fun kn=>(xss[kn]?).bind fun ys=>(fq p.2).bind fun j=>if ys.length < 1000000 then some (.d .none,p.2.set i (some (.n (xss.set kn (ys++[.int j]))))) else none
theorem zP{pq:Expr}{fp:FE}{fq:En→Option Int}{ps2 apos cpos:Pos}(hK:X.K=K)(hN:X.N[i]?=some x)(hv:yv X.env.scope x)(hd:(x==("__debug__":Str))=false)(hcd:(x==("__classdict__":Str))=false)(hp:PE X a (fE K fp))(hpl:ji a)(hq:Qt X K pq fq)(hst:PySem.W.isStarred pq=false)
    (hbase:attributeBase (.Subscript (.Name x p) a ps2) "append" X.env (eval (.Subscript (.Name x p) a ps2) X.env)=eval (.Subscript (.Name x p) a ps2) X.env)
    (hfew:((backTo cpos (starEach [pq] X.env)).all (fun x=> !x.1)&&(backToKw cpos (keywordEach [] X.env)).all (fun x=>x.1.isSome)
      &&decide ([pq].length+([]:List Keyword).length+(if ([]:List Keyword).isEmpty then 0 else 1) < 30))=true)
    (hline:(apos.endLine==cpos.line)=true)(hs:starEach [pq] X.env=(false,eval pq X.env)::starEach [] X.env)(hplain:(backTo cpos (starEach [] X.env)).any (·.1)=false):
    PE X (.Call (.Attribute (.Subscript (.Name x p) a ps2) "append" apos) [pq] [] cpos) (fE K (mI i fp fq)):=by
  subst hK
  obtain⟨tq,q1,q2⟩:=hq
  refine(xh PySem.F.plainAttrs_list PySem.F.slot_list_append PySem.F.type_list_append ff (xk (wJ rfl) (kd hN hv hd hcd) hp hpl) (B8 q1 md hst) hbase hfew hline hs hplain).mono fun σ H Q h=>?_
  obtain⟨F,e,z,e',R,hf,q⟩:=h
  unfold mI at hf
  obtain⟨xs0,g3,hf⟩:=Option.bind_eq_some_iff.mp hf
  obtain⟨⟨rp,e2⟩,g4,hf⟩:=Option.bind_eq_some_iff.mp hf
  obtain⟨k,g5,hf⟩:=Option.bind_eq_some_iff.mp hf
  obtain⟨xss,g6,hf⟩:=Option.bind_eq_some_iff.mp hf
  obtain⟨kn,g7,hf⟩:=Option.bind_eq_some_iff.mp hf
  obtain⟨ys,g8,hf⟩:=Option.bind_eq_some_iff.mp hf
  obtain⟨j,g9,hf⟩:=Option.bind_eq_some_iff.mp hf
  split at hf
  case isFalse=>cases hf
  case isTrue hlen=>
  cases hf
  obtain⟨l,bs0,a1,_⟩:=R.nst i xs0 (fj g3)
  refine⟨_,a1,F,e,rp,e2,R,g4,fun F2 H2 w X2 R2 A2=>?_⟩
  have g6':=fj g6
  obtain⟨l',bs,c1,c2,c3,c4,c5,c6,c7⟩:=R2.nst i xss g6'
  rw [a1] at c1;cases c1
  obtain⟨b,hb⟩:∃b,bs[kn]?=some b:=⟨bs[kn]'(by rw [c4];exact(List.getElem?_eq_some_iff.mp g8).1),List.getElem?_eq_getElem _⟩
  obtain⟨b1,us,b2,b3⟩:=c7 kn b ys hb g8
  have fi:∀z,z=l∨z∈bs→Fp σ e2 H2 i z:=fun z h=>.inr ⟨xss,l,bs,g6',a1,c3,h⟩
  have bm:b∈bs:=List.mem_of_getElem? hb
  have bl:b≠l:=fun z=>c6 (z ▸ bm)
  have sl:sizeLine=16777216:=sizeLine_eq
  refine⟨l,_,k,.ref b,rfl,cg A2 g5,.inl (.inl c3),?_,.inl ⟨rfl,us,.inl (.inl b2)⟩,q2 σ F2 H2 e2 j _ R2 g9 ?_⟩
  · unfold atI
    rw [List.length_map,c4,g7]
    show(bs.map V.ref)[kn]?=_
    rw [List.getElem?_map,hb];rfl
  refine⟨b,us,_,rfl,rfl,b2,by rw [←b3.len];lia,?_⟩
  have dv:DA X.K F2 (.int j) (.int j):=bM.mpr rfl
  obtain⟨R4,o4,s4⟩:=R2.putN (yss:=xss.set kn (ys++[.int j])) (bs:=bs) (H':=aV H2 b (.lst (us++[V.int j]))) g6' a1 c2 (by rw [ax (Ne.symm bl)];exact c3) (by simp [c4]) c5 c6 (fun m z zs z1 z2=>by
      by_cases em:m=kn
      · subst em
        rw [hb] at z1;cases z1
        rw [List.getElem?_set_self (by exact(List.getElem?_eq_some_iff.mp g8).1)] at z2
        cases z2
        exact⟨b1,_,am,b3.append (aC.one dv)⟩
      · rw [List.getElem?_set_ne (Ne.symm em)] at z2
        obtain⟨d1,us',d2,d3⟩:=c7 m z zs z1 z2
        have zb:z≠b:=fun ez=>by
          subst ez
          exact em ((List.getElem?_inj (List.getElem?_eq_some_iff.mp z1).1 c5).mp (z1.trans hb.symm))
        exact⟨d1,us',by rw [ax zb];exact d2,d3⟩)
    (fun z hz=>.inl (fi z (.inr hz)))
    (fun z q=>by
      by_cases e0:z=b
      · rw [e0,am] at q;cases q
      · rw [ax e0] at q;exact q)
    (fun z o q _ n2=>by
      have e0:z≠b:=fun e0=>n2 (by rw [e0];exact bm)
      rw [ax e0];exact q) (fun z vs q=>by
      by_cases e0:z=b
      · rw [e0];exact⟨_,am⟩
      · rw [ax e0];exact⟨vs,q⟩)
  refine q F2 _ .non ⟨X2.sf,fun z q=>X2.dom z ?_,X2.fr,fun z vs h=>?_,fun z o h n=>?_,fun j=>(s4 j).trans (X2.shp j),fun z h=>?_⟩ R4 ((eT (K:=X.K) (F:=F2)).mpr rfl)
  · by_cases e0:z=b
    · rw [e0,am] at q;cases q
    · rw [ax e0] at q;exact q
  · obtain⟨vs',h'⟩:=X2.lst z vs h
    by_cases e0:z=b
    · rw [e0];exact⟨_,am⟩
    · rw [ax e0];exact⟨vs',h'⟩
  · have e0:z≠b:=fun e0=>by
      rcases X2.ow z ⟨i,fi z (.inr (by rw [e0];exact bm))⟩ with w | w
      · exact n w
      · rw [h] at w;cases w
    rw [ax e0];exact X2.tmp z o h n
  · rcases o4 z h with w | w
    · exact X2.ow z w
    · exact X2.ow z ⟨i,fi z (.inr w)⟩
def D'(i:Nat)(g:En→Option Int):En→Option Int:=fun e=>match e[i]? with
  | some (some (.d (.tuple ds)))=>(g e).bind fun j=>match atI ds j with
    | some (.int k)=>some k
    | _=>none
  | _=>none
theorem Ex{g:En→Option Int}(i:Nat)(hK:X.K=K)(hN:X.N[i]?=some x)(hv:yv X.env.scope x)(hd:(x==("__debug__":Str))=false)(hcd:(x==("__classdict__":Str))=false)(hb:Qt X K b g)(hs:ji b):Qt X K (.Subscript (.Name x p) b pos) (D' i g):=by
  subst hK
  obtain⟨tb,h3,h4⟩:=hb
  refine⟨_,xk wK (kd hN hv hd hcd) h3 hs,fun σ F H e k Q R hf q=>?_⟩
  unfold D' at hf
  split at hf
  case h_2=>cases hf
  case h_1 ds heq=>
  obtain⟨j,g1,hf⟩:=Option.bind_eq_some_iff.mp hf
  split at hf
  case h_2=>cases hf
  case h_1 k' heq2=>
  cases hf
  obtain⟨v,h1,h2⟩:=R.dat i _ heq
  obtain⟨a,xs,rfl,s1,s2⟩:=bN.mp h2
  refine⟨_,h1,h4 σ F H e j _ R g1 ⟨a,xs,j,.int k,rfl,rfl,R.sm.tup s1,?_,q⟩⟩
  unfold atI at heq2 ⊢
  obtain⟨n,n1,n2⟩:=Option.bind_eq_some_iff.mp heq2
  obtain⟨u,u1,u2⟩:=s2.get n2
  rw [←s2.len,n1]
  rw [bM.mp u2] at u1
  exact u1
def iL(f g:En→Option Int):FE:=fun e=>(f e).bind fun i=>(g e).map fun j=>(.d (.dict [(PyData.int i,PyData.int j)]),e)
theorem qK{f g:En→Option Int}(ha:Qt X K a f)(hb:Qt X K b g):PE X (.Dict [some a] [b] pos) (fE K (iL f g)):=by
  obtain⟨ta,h1,h2⟩:=ha
  obtain⟨tb,h3,h4⟩:=hb
  refine(tW (qE h1 h3 tY) rfl rfl (by simp) (by simp)).mono fun σ H Q h=>?_
  obtain⟨F,e,z,e2,R,hf,q⟩:=h
  unfold iL at hf
  obtain⟨i,g1,hf⟩:=Option.bind_eq_some_iff.mp hf
  obtain⟨j,g2,hf⟩:=Option.map_eq_some_iff.mp hf
  cases hf
  intro p hp
  obtain⟨R1,X1⟩:=R.newD (m:=[]) hp
  refine h2 σ _ _ e i _ R1 g1 (h4 σ _ _ e j _ R1 g2 ?_)
  refine⟨am,[(Sum.inl i,.int j)],rfl,by simp,?_⟩
  have e1:aV (aV H p (.dK [])) p (.dK (fH [] [((Sum.inl i:fQ),V.int j)]))=aV H p (.dK (fH [] [((Sum.inl i:fQ),V.int j)])):=by
    funext a;by_cases h:a=p
    · subst h;rw [am,am]
    · rw [ax h,ax h,ax h]
  rw [e1]
  obtain⟨R3,X3⟩:=R.newD (m:=fH [] [((Sum.inl i:fQ),V.int j)]) hp
  exact q _ _ _ X3 R3 (by simp only [b7,DA];exact⟨p,[(i,j)],rfl,am,rfl⟩)
end
section
variable{X:Cx}{K:PySem.W.Frag}
def Ez(K:PySem.W.Frag):R2:=fun x y H Q=>∃a b xs,x=.ref a∧y=.ref b∧cZ K H a xs∧cZ K H b []∧Q (.bl xs.isEmpty) H
theorem BY(hu:X.A.units < cLine):eG X (compareOp .Eq) (Ez X.K):=by
  intro pins s σ H x y v u Q I rx ry h
  obtain⟨a,b,xs,rfl,rfl,ha,hb,q⟩:=h
  cases rx
  cases ry
  obtain⟨its,r,p,hz⟩:=I.tuple ha
  obtain⟨its2,r2,p2,hz2⟩:=I.tuple hb
  cases r2
  refine SeqAt.eq_tupleAt (e:=fun _=>true) p p2 hu (fun j h1 h2=>by simp at h2) ?_
  cases r with
  | nil=>exact⟨.bl true,H,I,rfl,q⟩
  | cons r rr=>exact⟨.bl false,H,I,rfl,q⟩
def rW:En→Rv→Rv→Option Rv:=fun e x y=>(bT e x).bind fun a=>(bT e y).bind fun b=>if a.1=false∧b.1=false∧b.2.isEmpty=true then some (.d (.bool a.2.isEmpty)) else none
theorem DG:eL K (Ez K) rW:=by
  intro σ H0 F H e x y z v u Q R A B hg q
  unfold rW at hg
  obtain⟨⟨b1,xs⟩,h1,hg⟩:=Option.bind_eq_some_iff.mp hg
  obtain⟨⟨b2,ys⟩,h2,hg⟩:=Option.bind_eq_some_iff.mp hg
  split at hg
  case isFalse=>cases hg
  case isTrue hl=>
  cases hg
  obtain⟨z1,z2,z3⟩:=hl
  dsimp only at z1 z2 z3
  subst z1 z2
  have z4:ys=[]:=List.isEmpty_iff.mp z3
  subst z4
  obtain⟨p,vs,rfl,d1,s1⟩:=bJ R A h1
  obtain⟨p',vs',rfl,d2,s2⟩:=bJ R B h2
  have e2:vs'=[]:=by simpa only [aC] using d2
  subst e2
  rw [if_neg (by simp)] at s1 s2
  refine⟨p,p',vs,rfl,rfl,s1,s2,?_⟩
  have e1:vs.isEmpty=xs.isEmpty:=by
    have:=d1.len
    cases xs with
    | nil=>cases vs with
      | nil=>rfl
      | cons=>simp at this
    | cons=>cases vs with
      | nil=>simp at this
      | cons=>rfl
  rw [e1]
  exact q F H _ (dw.refl _ _ _ _) R cK
theorem Ay{k:Nat}(hK:X.K=K)(hr:cz k X.A):ii X K .Eq rW:=⟨_,hK ▸ BY hr.units0,DG⟩
theorem v_{e:En}{xs:List PyData}:rW e (.d (.tuple xs)) (.d (.tuple []))=some (.d (.bool xs.isEmpty)):=by
  simp [rW,bT]
end
end L2
namespace V69
open PySem PySem.Spec PyProof.Rows L2
variable{P:Program}{w:World}{K:W.Frag}{mg:Str→Option Value}{base:Heap}{f:Addr}{fd:FuncData}
local macro_rules|`(tactic|trivial)=>`(tactic|first|exact .inl rfl|exact .inr rfl|assumption)
local macro_rules|`(¬$n:num)=>`(@qw _ _ $n _ _ (by rfl) (by rfl) (by decide))
local macro_rules|`($a∘$b)=>`(@F8 _ _ _ _ _ _ $a $b (by rfl))
def top(i:Nat):Stmt:=PySem.Challenge.pw_askedpairs_k69_groups_of_anything.main.body.getD i (.Pass ⟨0,0,0,0⟩)
theorem AI{α:Type u}{β:Type v}{f:α→β}:List.map f []=[]:=rfl
theorem AH{α:Type u}{β:Type v}{f:α→β}{a:α}{l:List α}:List.map f (a::l)=f a::List.map f l:=rfl
theorem AD{α:Type u}{l:List α}:[]++l=l:=rfl
theorem AC{α:Type u}{a:α}{l m:List α}:(a::l)++m=a::(l++m):=rfl
theorem AF{α:Type u}{a:α}{l:List α}:(a::l)[0]?=some a:=rfl
theorem AG{α:Type u}{a:α}{l:List α}{i:Nat}:(a::l)[i+1]?=l[i]?:=rfl
theorem AE{α:Type u}{β:Type v}{a:α}{f:α→Option β}:Option.bind (some a) f=f a:=rfl
theorem AJ{α:Type u}{β:Type v}{a:α}{f:α→β}:Option.map f (some a)=some (f a):=rfl
abbrev eF:Stmt:=top 1
abbrev bE:Stmt:=top 2
abbrev ck:Stmt:=top 3
abbrev ec:Stmt:=top 5
abbrev bW:Stmt:=top 6
abbrev jP:Stmt:=top 8
abbrev jO:Stmt:=top 9
abbrev iI:Stmt:=top 10
abbrev qR:Stmt:=top 11
abbrev qS:Stmt:=top 12
abbrev mz:Stmt:=top 13
abbrev gG:Stmt:=top 14
abbrev jQ:Stmt:=top 15
abbrev mB:Stmt:=top 16
abbrev qU:Stmt:=top 17
abbrev qT:Stmt:=top 18
abbrev eE:Stmt:=top 19
abbrev dt:Stmt:=top 20
abbrev nM:Stmt:=top 21
abbrev eD:Stmt:=top 22
abbrev dM:Stmt:=top 23
abbrev cq:Stmt:=top 24
abbrev kW:Stmt:=top 25
structure lg (mg:Str→Option Value):Prop where
  b_abs:mg "abs"=none
  b_len:mg "len"=none
  b_min:mg "min"=none
  b_max:mg "max"=none
  b_range:mg "range"=none
  b_repr:mg "repr"=none
  b_tuple:mg "tuple"=none
  b_int:mg "int"=none
  b_sorted:mg "sorted"=none
  b_enumerate:mg "enumerate"=none
  b_isinstance:mg "isinstance"=none
  b_bool:mg "bool"=none
  b_all:mg "all"=none
  b_list:mg "list"=none
noncomputable def ky:FS:=(bI (mH (mU (jb "int") (ac 0)) (rq (mU (jb "bool") (ac 0)))))
noncomputable def ey:FM:=j_ 1 0 [] ky
theorem jU:aU ["thing"] ["thing"] (ap eF):=⟨rfl,rfl,rfl,by decide+kernel,rfl,by decide+kernel,by decide+kernel⟩
theorem oU(h:bX K mg "is_number" eF f fd ["thing"])(T:lg mg):a9 P w K mg base du 1 f fd ["thing"] (dR K 1 ey):=by
  have nd:=jU.nd
  exact h.fn jU rfl rfl (fun cdv A outer s H E hr=>(@ao _ _ _ _ _ (@aE _ _ _ _ _ (@sA _ _ _ _ _ _ _ _ (@jI _ _ _ _ _ _ _ _ "int" rfl (by decide) rfl T.b_isinstance rfl T.b_int PyProof.Rows.boot_int (by decide) (by decide) (¬0) (by rfl) (by rfl)) (@sC _ _ _ _ _ _ (@Cr _ _ _ _ _ (@jI _ _ _ _ _ _ _ _ "bool" rfl (by decide) rfl T.b_isinstance rfl T.b_bool PyProof.Rows.boot_bool (by decide) (by decide) (¬0) (by rfl) (by rfl))))))))
noncomputable def bY:FS:=(bI (mH (dQ 1 ey (aa (ac 0) ag)) (dP C_ C_ (ac 1) (ac 0) (ac 2))))
noncomputable def aZ:FM:=j_ 3 0 [] bY
theorem eO:aU ["thing","low","high"] ["thing","low","high"] (ap bE):=⟨rfl,rfl,rfl,by decide+kernel,rfl,by decide+kernel,by decide+kernel⟩
theorem iX(h:bX K mg "is_number_within" bE f fd ["thing","low","high"])(T:lg mg){f_is_number:Addr}{e_is_number:FuncData}(h_is_number:bX K mg "is_number" eF f_is_number e_is_number ["thing"])(G_is_number:a9 P w K mg base du 1 f_is_number e_is_number ["thing"] (dR K 1 ey)):a9 P w K mg base du 2 f fd ["thing","low","high"] (dR K 3 aZ):=by
  have nd:=eO.nd
  exact h.fn eO rfl rfl (fun cdv A outer s H E hr=>(@ao _ _ _ _ _ (@aE _ _ _ _ _ (@sA _ _ _ _ _ _ _ _ (@bh _ _ _ _ _ _ _ _ _ _ _ _ _ _ _ h_is_number G_is_number (hr.mono (by decide)) ((¬0)∘ab) (by rfl) (by decide) (by rfl) (by rfl)) (@sC _ _ _ _ _ _ (@zO _ _ _ _ _ _ _ _ _ _ _ _ _ (@Bo _ _) (@Bo _ _) (¬1) (¬0) (¬2) (by with_unfolding_all rfl)))))))
noncomputable def dF:FI:=(j8 (ac 0))
noncomputable def ba:FS:=(aA (iY (iM (aP (dQ 3 aZ (aa (ac 3) (aa (ac 2) (aa (au iB (ac 1) (vC (.int 1))) ag))))))
    (bI (vC (.bool false)))
    d_)
    (aO 2 (au aJ (ac 3) (vC (.int 1)))))
noncomputable def c9:FS:=(aA (iY (iM (aP (mU (jb "tuple") (ac 0))))
    (bI (vC (.bool false)))
    d_)
    (aA (aO 2 (vC (.int 0)))
    (aA (eC ([3]++(([]++[])++[2])) dF (ah 3) ba)
    (bI (vC (.bool true))))))
noncomputable def br:FM:=j_ 2 2 (([]++[])++([2]++(([3]++(([]++[])++[2]))++[]))) c9
theorem gH:aU ["thing","many","least","part"] ["thing","many"] (ap ck):=⟨rfl,rfl,rfl,by decide+kernel,rfl,by decide+kernel,by decide+kernel⟩
theorem kc(h:bX K mg "is_rising_row" ck f fd ["thing","many"])(T:lg mg){f_is_number_within:Addr}{e_is_number_within:FuncData}(h_is_number_within:bX K mg "is_number_within" bE f_is_number_within e_is_number_within ["thing","low","high"])(G_is_number_within:a9 P w K mg base du 2 f_is_number_within e_is_number_within ["thing","low","high"] (dR K 3 aZ)):a9 P w K mg base du 3 f fd ["thing","many"] (dR K 2 br):=by
  have nd:=gH.nd
  exact h.fn gH rfl rfl (fun cdv A outer s H E hr=>(@af _ _ _ _ _ _ _ _ (@cy _ _ _ _ _ _ _ _ _ _ _ (@eK _ _ _ _ _ (@dZ _ _ _ _ (@jI _ _ _ _ _ _ _ _ "tuple" rfl (by decide) rfl T.b_isinstance rfl T.b_tuple PyProof.Rows.boot_tuple (by decide) (by decide) (¬0) (by rfl) (by rfl)) (by intro _;rfl)))
      (@ao _ _ _ _ _ (@aE _ _ _ _ _ (@cx _ _ _ _ _)))
      (@bc _ _))
      (@af _ _ _ _ _ _ _ _ (@ay _ _ _ _ _ 2 _ _ nd rfl (Or.inl rfl) ae (by rfl) (by trivial))
      (@af _ _ _ _ _ _ _ _ (@fL _ _ _ _ _ _ _ _ _ _ _ PassesOwn.never rfl (@g_ _ _ _ _ _ rfl (¬0)) (@aS _ _ _ 3 _ nd rfl (Or.inl rfl) (by trivial))
      (@af _ _ _ _ _ _ _ _ (@cy _ _ _ _ _ _ _ _ _ _ _ (@eK _ _ _ _ _ (@dZ _ _ _ _ (@bh _ _ _ _ _ _ _ _ _ _ _ _ _ _ _ h_is_number_within G_is_number_within (hr.mono (by decide)) ((¬3)∘((¬2)∘((@qJ _ _ _ _ _ _ _ (¬1) ae)∘ab))) (by rfl) (by decide) (by rfl) (by rfl)) (by intro _;rfl)))
      (@ao _ _ _ _ _ (@aE _ _ _ _ _ (@cx _ _ _ _ _)))
      (@bc _ _))
      (@ao _ _ _ _ _ (@ay _ _ _ _ _ 2 _ _ nd rfl (Or.inl rfl) (@aN _ _ _ _ _ _ _ rfl (¬3) ae) (by rfl) (by trivial)))) (by intro _;rfl))
      (@ao _ _ _ _ _ (@aE _ _ _ _ _ (@cx _ _ _ _ _)))))))
noncomputable def jz:FI:=(j8 (ac 1))
noncomputable def dC:FE:=(au (bw false) (au bU (au bU (au bU (ac 0) (vC (.int 1))) (ac 2)) (vC (.int 2))) (au bU (au bU (au bU (ac 0) (vC (.int 1))) (au bU (ac 1) (vC (.int 0)))) (vC (.int 2))))
noncomputable def gN:FS:=(aA (iY (ur (iM (aP (dQ 2 br (aa (ac 1) (aa (aF (g1 bZ) (aa (au bU (ac 0) (vC (.int 1))) ag)) ag))))) (aP (au (bw false) (aF (g1 bZ) (aa (ac 1) ag)) (vC (.int 0)))))
    (bI (vC (.bool false)))
    d_)
    (bI (aF (g1 (kP nu)) (aa (cm [(0,"web"),(1,"thing")] 1 jz (ah 2) bL dC) ag))))
noncomputable def dh:FM:=j_ 2 0 (([]++[])++[]) gN
theorem kX:aU ["web","thing"] ["web","thing"] (ap ec):=⟨rfl,rfl,rfl,by decide+kernel,rfl,by decide+kernel,by decide+kernel⟩
theorem qA(h:bX K mg "is_group" ec f fd ["web","thing"])(T:lg mg){f_is_rising_row:Addr}{e_is_rising_row:FuncData}(h_is_rising_row:bX K mg "is_rising_row" ck f_is_rising_row e_is_rising_row ["thing","many"])(G_is_rising_row:a9 P w K mg base du 3 f_is_rising_row e_is_rising_row ["thing","many"] (dR K 2 br)):a9 P w K mg base du 4 f fd ["web","thing"] (dR K 2 dh):=by
  have nd:=kX.nd
  exact h.fn kX rfl rfl (fun cdv A outer s H E hr=>(@af _ _ _ _ _ _ _ _ (@cy _ _ _ _ _ _ _ _ _ _ _ (@o_ _ _ _ _ (@jK _ _ _ _ _ _ _ _ (@eK _ _ _ _ _ (@dZ _ _ _ _ (@bh _ _ _ _ _ _ _ _ _ _ _ _ _ _ _ h_is_rising_row G_is_rising_row (hr.mono (by decide)) ((¬1)∘((@aW _ _ _ _ _ _ _ _ _ (@b_len _ _ rfl) (by rfl) T.b_len ((@bf _ _ _ _ _ _ _ rfl (¬0) ae (fun _ _=>rfl))∘ab) (by decide) (by decide) (by rfl) (by rfl))∘ab)) (by rfl) (by decide) (by rfl) (by rfl)) (by intro _;rfl))) (@jg _ _ _ _ _ (@bu _ _ _ _ _ _ _ _ _ (@jn _ _ _ rfl hr) (@aW _ _ _ _ _ _ _ _ _ (@b_len _ _ rfl) (by rfl) T.b_len ((¬1)∘ab) (by decide) (by decide) (by rfl) (by rfl)) ae (a8 _)))))
      (@ao _ _ _ _ _ (@aE _ _ _ _ _ (@cx _ _ _ _ _)))
      (@bc _ _))
      (@ao _ _ _ _ _ (@aE _ _ _ _ _ (@aW _ _ _ _ _ _ _ _ _ (@b_all _ _ _ rfl hr) (by rfl) T.b_all ((@mh _ _ _ _ _ _ _ _ _ _ _ _ _ (ap ec) ["web","thing"] [(0,"web"),(1,"thing")] ["tie"] rfl rfl rfl (@g_ _ _ _ _ _ rfl (¬1))
        (fun C s0 H0 fp=>(@aS _ _ _ 2 _ (show List.Nodup (["web","thing","tie"]:List Str) by decide+kernel) rfl (Or.inl rfl) (by trivial))) (fun C s0 H0 fp=>(@fZ _ _))
        (fun C s0 H0 fp=>(@kU _ _ _ _ _ _ _ _ _ (@jn _ _ _ rfl hr) (@bf _ _ _ _ _ _ _ rfl (@bf _ _ _ _ _ _ _ rfl (@bf _ _ _ _ _ _ _ rfl (¬0) ae (fun _ _=>rfl)) (¬2) (fun _ _=>rfl)) ae (fun _ _=>rfl)) (@bf _ _ _ _ _ _ _ rfl (@bf _ _ _ _ _ _ _ rfl (@bf _ _ _ _ _ _ _ rfl (¬0) ae (fun _ _=>rfl)) (@bf _ _ _ _ _ _ _ rfl (¬1) ae (fun _ _=>rfl)) (fun _ _=>rfl)) ae (fun _ _=>rfl)) (a8 _))) rfl (by decide+kernel) (by decide+kernel) (by decide+kernel) (by decide+kernel) (by decide+kernel) (by decide+kernel) (by decide+kernel) (by intro _;rfl))∘ab) (by decide) (by decide) (by rfl) (by rfl))))))
noncomputable def i4:FI:=(j8 (ac 1))
noncomputable def el:FI:=(j8 (ac 0))
noncomputable def cS:FE:=(ac 1)
noncomputable def i5:FI:=(j8 (ac 1))
noncomputable def cT:FE:=(au bU (ac 0) (vC (.int 0)))
noncomputable def i6:FI:=(j8 (ac 1))
noncomputable def cU:FE:=(dQ 2 dh (aa (ac 0) (aa (ac 1) ag)))
noncomputable def fU:FS:=(aA (iY (ur (iM (aP (mU (jb "tuple") (ac 1)))) (iM (aP (aF (g1 (kP nu)) (aa (cm [(0,"web")] 1 i6 (ah 1) bL cU) ag)))))
    (bI (vC (.bool false)))
    d_)
    (aA (aO 2 (cm [] 1 i5 (ah 0) bL cT))
    (aA (aO 3 (ko [] 2 i4 (ah 0) bL el (ah 1) bL cS))
    (bI (mH (au (bw false) (ac 2) (aF (g1 bG) (aa (ac 2) ag))) (au (bw false) (aF (g1 bG) (aa (ac 3) ag)) (iU (aa (aF (g1 bZ) (aa (au bU (ac 0) (vC (.int 1))) ag)) ag))))))))
noncomputable def bH:FM:=j_ 2 2 (([]++[])++([2]++([3]++[]))) fU
theorem jT:aU ["web","thing","firsts","ties"] ["web","thing"] (ap bW):=⟨rfl,rfl,rfl,by decide+kernel,rfl,by decide+kernel,by decide+kernel⟩
theorem oT(h:bX K mg "is_groups" bW f fd ["web","thing"])(T:lg mg){f_is_group:Addr}{e_is_group:FuncData}(h_is_group:bX K mg "is_group" ec f_is_group e_is_group ["web","thing"])(G_is_group:a9 P w K mg base du 4 f_is_group e_is_group ["web","thing"] (dR K 2 dh)):a9 P w K mg base du 5 f fd ["web","thing"] (dR K 2 bH):=by
  have nd:=jT.nd
  exact h.fn jT rfl rfl (fun cdv A outer s H E hr=>(@af _ _ _ _ _ _ _ _ (@cy _ _ _ _ _ _ _ _ _ _ _ (@o_ _ _ _ _ (@jK _ _ _ _ _ _ _ _ (@eK _ _ _ _ _ (@dZ _ _ _ _ (@jI _ _ _ _ _ _ _ _ "tuple" rfl (by decide) rfl T.b_isinstance rfl T.b_tuple PyProof.Rows.boot_tuple (by decide) (by decide) (¬1) (by rfl) (by rfl)) (by intro _;rfl))) (@jg _ _ _ _ _ (@eK _ _ _ _ _ (@dZ _ _ _ _ (@aW _ _ _ _ _ _ _ _ _ (@b_all _ _ _ rfl hr) (by rfl) T.b_all ((@mh _ _ _ _ _ _ _ _ _ _ _ _ _ (ap bW) ["web","thing","firsts","ties"] [(0,"web")] ["group"] rfl rfl rfl (@g_ _ _ _ _ _ rfl (¬1))
        (fun C s0 H0 fp=>(@aS _ _ _ 1 _ (show List.Nodup (["web","group"]:List Str) by decide+kernel) rfl (Or.inl rfl) (by trivial))) (fun C s0 H0 fp=>(@fZ _ _))
        (fun C s0 H0 fp=>(@bh _ _ _ _ _ _ _ _ _ _ _ _ _ _ _ h_is_group G_is_group (hr.mono (by decide)) ((¬0)∘((¬1)∘ab)) (by rfl) (by decide) (by rfl) (by rfl))) rfl (by decide+kernel) (by decide+kernel) (by decide+kernel) (by decide+kernel) (by decide+kernel) (by decide+kernel) (by decide+kernel) (by intro _;rfl))∘ab) (by decide) (by decide) (by rfl) (by rfl)) (by intro _;rfl))))))
      (@ao _ _ _ _ _ (@aE _ _ _ _ _ (@cx _ _ _ _ _)))
      (@bc _ _))
      (@af _ _ _ _ _ _ _ _ (@kg _ _ _ (2) _ _ _ _ _ _ _ _ _ _ _ _ _ (ap bW) ["web","thing","firsts","ties"] [] ["group"] rfl rfl rfl (@g_ _ _ _ _ _ rfl (¬1))
        (fun C s0 H0 fp=>(@aS _ _ _ 0 _ (show List.Nodup (["group"]:List Str) by decide+kernel) rfl (Or.inl rfl) (by trivial))) (fun C s0 H0 fp=>(@fZ _ _))
        (fun C s0 H0 fp=>(@bf _ _ _ _ _ _ _ rfl (¬0) ae (fun _ _=>rfl))) rfl (by decide+kernel) (by decide+kernel) (by decide+kernel) (by decide+kernel) (by decide+kernel) (by decide+kernel) (by decide+kernel) nd rfl rfl (by rfl) (by intro _;rfl))
      (@af _ _ _ _ _ _ _ _ (@sy _ _ _ (3) _ _ _ _ _ _ _ _ _ _ _ _ _ _ _ _ _ _ _ _ (ap bW) ["web","thing","firsts","ties"] [] ["group","tie"] rfl rfl rfl (@g_ _ _ _ _ _ rfl (¬1))
        (fun C s0 H0 fp=>(@aS _ _ _ 0 _ (show List.Nodup (["group","tie"]:List Str) by decide+kernel) rfl (Or.inl rfl) (by trivial))) (fun C s0 H0 fp=>(@fZ _ _)) (fun C s0 H0 fp=>(@g_ _ _ _ _ _ rfl (¬0))) (fun C s0 H0 fp=>(@aS _ _ _ 1 _ (show List.Nodup (["group","tie"]:List Str) by decide+kernel) rfl (Or.inl rfl) (by trivial))) (fun C s0 H0 fp=>(@fZ _ _))
        (fun C s0 H0 fp=>(¬1)) rfl (by decide+kernel) (by decide+kernel) (by decide+kernel) (by decide+kernel) (by decide+kernel) (by decide+kernel) (by decide+kernel) nd rfl rfl (by rfl) (by intro _ _ _ _ _;rfl) (by intro _;rfl))
      (@ao _ _ _ _ _ (@aE _ _ _ _ _ (@sA _ _ _ _ _ _ _ _ (@kU _ _ _ _ _ _ _ _ _ (@jn _ _ _ rfl hr) (¬2) (@aW _ _ _ _ _ _ _ _ _ (@lm _ _ rfl) (by rfl) T.b_sorted ((¬2)∘ab) (by decide) (by decide) (by rfl) (by rfl)) (a8 _)) (@sC _ _ _ _ _ _ (@kU _ _ _ _ _ _ _ _ _ (@jn _ _ _ rfl hr) (@aW _ _ _ _ _ _ _ _ _ (@lm _ _ rfl) (by rfl) T.b_sorted ((¬3)∘ab) (by decide) (by decide) (by rfl) (by rfl)) (@qH _ _ _ _ _ _ _ _ rfl rfl T.b_list rfl T.b_range ((@aW _ _ _ _ _ _ _ _ _ (@b_len _ _ rfl) (by rfl) T.b_len ((@bf _ _ _ _ _ _ _ rfl (¬0) ae (fun _ _=>rfl))∘ab) (by decide) (by decide) (by rfl) (by rfl))∘ab) (by rfl) (by rfl)) (a8 _))))))))))
noncomputable def s_:FS:=(aA (aO 2 (au aM (au aJ (au aJ (au jc (au aM (ac 0) (vC (.int 2147483647))) (vC (.int 48271))) (au jc (au jc (vC (.int 7919)) (ac 1)) (ac 1))) (vC (.int 104729))) (vC (.int 2147483647))))
    (bI (au aM (au jc (ac 2) (ac 2)) (vC (.int 2147483629)))))
noncomputable def iR:FM:=j_ 2 1 ([2]++[]) s_
theorem qW:aU ["_law_cell","_law_k","_law_number"] ["_law_cell","_law_k"] (ap jP):=⟨rfl,rfl,rfl,by decide+kernel,rfl,by decide+kernel,by decide+kernel⟩
theorem xc(h:bX K mg "_law_mixed" jP f fd ["_law_cell","_law_k"])(T:lg mg):a9 P w K mg base du 1 f fd ["_law_cell","_law_k"] (dR K 2 iR):=by
  have nd:=qW.nd
  exact h.fn qW rfl rfl (fun cdv A outer s H E hr=>(@af _ _ _ _ _ _ _ _ (@ay _ _ _ _ _ 2 _ _ nd rfl (Or.inl rfl) (@aQ _ _ _ _ _ _ _ (@aN _ _ _ _ _ _ _ rfl (@aN _ _ _ _ _ _ _ rfl (@ml _ _ _ _ _ _ _ rfl (@aQ _ _ _ _ _ _ _ (¬0) ae) ae) (@ml _ _ _ _ _ _ _ rfl (@ml _ _ _ _ _ _ _ rfl ae (¬1)) (¬1))) ae) ae) (by rfl) (by trivial))
      (@ao _ _ _ _ _ (@aE _ _ _ _ _ (@aQ _ _ _ _ _ _ _ (@ml _ _ _ _ _ _ _ rfl (¬2) (¬2)) ae)))))
noncomputable def eY:FT:=(sT (aP (au DM (ac 3) (au oG (vC (.int 10)) (vC (.int 18))))) (aP (au AO (aF (g1 bZ) (aa (ac 1) ag)) (vC (.int 900)))))
noncomputable def iN:FS:=(aA (gF (eR cI (ac 1) (aa (au aM (ac 3) (vC (.int 2147483629))) ag)))
    (aO 3 (au bA (ac 3) (vC (.int 2147483629)))))
noncomputable def iP:FI:=(dc (aa (vC (.int 12)) ag))
noncomputable def gw:FS:=(gF (eR cI (ac 1) (aa (dQ 2 iR (aa (dQ 2 iR (aa (ac 3) (aa (au aJ (au jc (vC (.int 3)) (ac 4)) (vC (.int 1))) ag))) (aa (au aJ (au aJ (ac 4) (ac 2)) (vC (.int 2))) ag))) ag)))
noncomputable def j7:FI:=(dc (aa (aF (g2 wg) (aa (aF (g1 bZ) (aa (ac 0) ag)) (aa (vC (.int 63)) ag))) ag))
noncomputable def eX:FS:=(aA (aO 3 (aF (g1 uJ) (aa (au bU (ac 0) (ac 2)) ag)))
    (aA (iY (aP (au AO (ac 3) (au oG (vC (.int 10)) (vC (.int 18)))))
    (eC ([4]++[]) iP (ah 4) gw)
    d_)
    (aA (mC (2 ^ 4200) eY iN)
    (iY (aP (au DM (ac 3) (vC (.int 2147483629))))
    (gF (eR cI (ac 1) (aa (au aM (ac 3) (vC (.int 2147483629))) ag)))
    d_))))
noncomputable def sZ:FS:=(aA (aO 1 (bS ag))
    (aA (eC ([2]++([3]++((([4]++[])++[])++(([]++[3])++([]++[]))))) j7 (ah 2) eX)
    (bI (ac 1))))
noncomputable def jD:FM:=j_ 1 4 ([1]++(([2]++([3]++((([4]++[])++[])++(([]++[3])++([]++[])))))++[])) sZ
theorem qV:aU ["_law_script","_law_drawn","_law_k","_law_cell","_law_j"] ["_law_script"] (ap jO):=⟨rfl,rfl,rfl,by decide+kernel,rfl,by decide+kernel,by decide+kernel⟩
theorem xb(h:bX K mg "_law_draws" jO f fd ["_law_script"])(T:lg mg){fLmixed:Addr}{eLmixed:FuncData}(hLmixed:bX K mg "_law_mixed" jP fLmixed eLmixed ["_law_cell","_law_k"])(GLmixed:a9 P w K mg base du 1 fLmixed eLmixed ["_law_cell","_law_k"] (dR K 2 iR)):a9 P w K mg base du 2 f fd ["_law_script"] (dR K 1 jD):=by
  have nd:=qV.nd
  exact h.fn qV rfl rfl (fun cdv A outer s H E hr=>(@af _ _ _ _ _ _ _ _ (@ay _ _ _ _ _ 1 _ _ nd rfl (Or.inl rfl) (@aT _ _ _ _ _ ab) (by rfl) (by trivial))
      (@af _ _ _ _ _ _ _ _ (@fL _ _ _ _ _ _ _ _ _ _ _ PassesOwn.never rfl (@dr _ _ _ _ _ _ _ rfl T.b_range ((@aW _ _ _ _ _ _ _ _ _ (@b_min _ _ rfl) (by rfl) T.b_min ((@aW _ _ _ _ _ _ _ _ _ (@b_len _ _ rfl) (by rfl) T.b_len ((¬0)∘ab) (by decide) (by decide) (by rfl) (by rfl))∘(ae∘ab)) (by decide) (by decide) (by rfl) (by rfl))∘ab) (by rfl)) (@aS _ _ _ 2 _ nd rfl (Or.inl rfl) (by trivial))
      (@af _ _ _ _ _ _ _ _ (@ay _ _ _ _ _ 3 _ _ nd rfl (Or.inl rfl) (@aW _ _ _ _ _ _ _ _ _ (@b_abs _ _) (by rfl) T.b_abs ((@bf _ _ _ _ _ _ _ rfl (¬0) (¬2) (fun _ _=>rfl))∘ab) (by decide) (by decide) (by rfl) (by rfl)) (by rfl) (by trivial))
      (@af _ _ _ _ _ _ _ _ (@cy _ _ _ _ _ _ _ _ _ _ _ (@bu _ _ _ _ _ _ _ _ _ (@yF _ _) (¬3) (@xH _ _ _ _ _ _ _ ae ae) (a8 _))
      (@ao _ _ _ _ _ (@fL _ _ _ _ _ _ _ _ _ _ _ PassesOwn.never rfl (@dr _ _ _ _ _ _ _ rfl T.b_range (ae∘ab) (by rfl)) (@aS _ _ _ 4 _ nd rfl (Or.inl rfl) (by trivial))
      (@ao _ _ _ _ _ (@eW _ _ _ _ _ (@fK _ _ _ _ _ _ _ _ _ rfl (¬1) ((@bh _ _ _ _ _ _ _ _ _ _ _ _ _ _ _ hLmixed GLmixed (hr.mono (by decide)) ((@bh _ _ _ _ _ _ _ _ _ _ _ _ _ _ _ hLmixed GLmixed (hr.mono (by decide)) ((¬3)∘((@aN _ _ _ _ _ _ _ rfl (@ml _ _ _ _ _ _ _ rfl ae (¬4)) ae)∘ab)) (by rfl) (by decide) (by rfl) (by rfl))∘((@aN _ _ _ _ _ _ _ rfl (@aN _ _ _ _ _ _ _ rfl (¬4) (¬2)) ae)∘ab)) (by rfl) (by decide) (by rfl) (by rfl))∘ab) (by rfl) (by rfl) (by rfl) (by rfl) (by rfl)) (by rfl))) (by intro _;rfl)))
      (@bc _ _))
      (@af _ _ _ _ _ _ _ _ (@qL _ _ _ _ _ _ _ _ _ PassesOwn.never (@o_ _ _ _ _ (@xQ _ _ _ _ _ _ _ _ (@bu _ _ _ _ _ _ _ _ _ (@Dx _ _) (¬3) (@xH _ _ _ _ _ _ _ ae ae) (a8 _)) (@t9 _ _ _ _ _ (@bu _ _ _ _ _ _ _ _ _ (@yF _ _) (@aW _ _ _ _ _ _ _ _ _ (@b_len _ _ rfl) (by rfl) T.b_len ((¬1)∘ab) (by decide) (by decide) (by rfl) (by rfl)) ae (a8 _)))))
      (@af _ _ _ _ _ _ _ _ (@eW _ _ _ _ _ (@fK _ _ _ _ _ _ _ _ _ rfl (¬1) ((@aQ _ _ _ _ _ _ _ (¬3) ae)∘ab) (by rfl) (by rfl) (by rfl) (by rfl) (by rfl)) (by rfl))
      (@ao _ _ _ _ _ (@ay _ _ _ _ _ 3 _ _ nd rfl (Or.inl rfl) (@cN _ _ _ _ _ _ _ (¬3) ae) (by rfl) (by trivial)))))
      (@ao _ _ _ _ _ (@cy _ _ _ _ _ _ _ _ _ _ _ (@bu _ _ _ _ _ _ _ _ _ (@Dx _ _) (¬3) ae (a8 _))
      (@ao _ _ _ _ _ (@eW _ _ _ _ _ (@fK _ _ _ _ _ _ _ _ _ rfl (¬1) ((@aQ _ _ _ _ _ _ _ (¬3) ae)∘ab) (by rfl) (by rfl) (by rfl) (by rfl) (by rfl)) (by rfl)))
      (@bc _ _)))))) (by intro _;rfl))
      (@ao _ _ _ _ _ (@aE _ _ _ _ _ (¬1))))))
noncomputable def rJ:FS:=(aA (iY (aP (au (bw false) (ac 0) (bS ag)))
    (bI (vC (.int 0)))
    d_)
    (bI (eR j' (ac 0) (aa (vC (.int 0)) ag))))
noncomputable def bg:FM:=j_ 1 0 (([]++[])++[]) rJ
theorem uf:aU ["_law_drawn"] ["_law_drawn"] (ap iI):=⟨rfl,rfl,rfl,by decide+kernel,rfl,by decide+kernel,by decide+kernel⟩
theorem zc(h:bX K mg "_law_next" iI f fd ["_law_drawn"])(T:lg mg):a9 P w K mg base du 1 f fd ["_law_drawn"] (dR K 1 bg):=by
  have nd:=uf.nd
  exact h.fn uf rfl rfl (fun cdv A outer s H E hr=>(@af _ _ _ _ _ _ _ _ (@cy _ _ _ _ _ _ _ _ _ _ _ (@bu _ _ _ _ _ _ _ _ _ (@jn _ _ _ rfl hr) (¬0) (@aT _ _ _ _ _ ab) (a8 _))
      (@ao _ _ _ _ _ (@aE _ _ _ _ _ ae))
      (@bc _ _))
      (@ao _ _ _ _ _ (@aE _ _ _ _ _ (@zQ _ _ _ _ _ _ _ _ _ rfl (¬0) (ae∘ab) (by rfl) (by rfl) (by rfl) (by rfl) (by rfl))))))
noncomputable def jm:FT:=(aP (au (bw true) (ac 1) (vC (.int 0))))
noncomputable def li:FS:=(x6 0 1 (aa (ac 1) (aa (au aM (ac 0) (ac 1)) ag)))
noncomputable def Aq:FS:=(aA (mC (2 ^ 4200) jm li)
    (bI (aF (g1 uJ) (aa (ac 0) ag))))
noncomputable def qk:FM:=j_ 2 0 ([0,1]++[]) Aq
theorem x8:aU ["_law_one","_law_other"] ["_law_one","_law_other"] (ap qR):=⟨rfl,rfl,rfl,by decide+kernel,rfl,by decide+kernel,by decide+kernel⟩
theorem BO(h:bX K mg "_law_gcd" qR f fd ["_law_one","_law_other"])(T:lg mg):a9 P w K mg base du 1 f fd ["_law_one","_law_other"] (dR K 2 qk):=by
  have nd:=x8.nd
  exact h.fn x8 rfl rfl (fun cdv A outer s H E hr=>(@af _ _ _ _ _ _ _ _ (@qL _ _ _ _ _ _ _ _ _ PassesOwn.never (@bu _ _ _ _ _ _ _ _ _ (@vI _ _ _ rfl hr) (¬1) ae (a8 _))
      (@ao _ _ _ _ _ (@Ct _ _ _ _ _ 0 1 _ _ _ _ _ _ _ _ _ rfl nd rfl rfl (by decide) rfl rfl ((¬1)∘((@aQ _ _ _ _ _ _ _ (¬0) (¬1))∘ab)) (by rfl) (by rfl))))
      (@ao _ _ _ _ _ (@aE _ _ _ _ _ (@aW _ _ _ _ _ _ _ _ _ (@b_abs _ _) (by rfl) T.b_abs ((¬0)∘ab) (by decide) (by decide) (by rfl) (by rfl))))))
noncomputable def Ar:FS:=(aA (aO 2 (dQ 2 qk (aa (ac 0) (aa (ac 1) ag))))
    (bI (aY (aa (au bA (ac 0) (ac 2)) (aa (au bA (ac 1) (ac 2)) ag)))))
noncomputable def nH:FM:=j_ 2 1 ([2]++[]) Ar
theorem x9:aU ["_law_top","_law_bottom","_law_common"] ["_law_top","_law_bottom"] (ap qS):=⟨rfl,rfl,rfl,by decide+kernel,rfl,by decide+kernel,by decide+kernel⟩
theorem BP(h:bX K mg "_law_low" qS f fd ["_law_top","_law_bottom"])(T:lg mg){fLgcd:Addr}{eLgcd:FuncData}(hLgcd:bX K mg "_law_gcd" qR fLgcd eLgcd ["_law_one","_law_other"])(GLgcd:a9 P w K mg base du 1 fLgcd eLgcd ["_law_one","_law_other"] (dR K 2 qk)):a9 P w K mg base du 2 f fd ["_law_top","_law_bottom"] (dR K 2 nH):=by
  have nd:=x9.nd
  exact h.fn x9 rfl rfl (fun cdv A outer s H E hr=>(@af _ _ _ _ _ _ _ _ (@ay _ _ _ _ _ 2 _ _ nd rfl (Or.inl rfl) (@bh _ _ _ _ _ _ _ _ _ _ _ _ _ _ _ hLgcd GLgcd (hr.mono (by decide)) ((¬0)∘((¬1)∘ab)) (by rfl) (by decide) (by rfl) (by rfl)) (by rfl) (by trivial))
      (@ao _ _ _ _ _ (@aE _ _ _ _ _ (@aw _ _ _ _ _ _ ((@cN _ _ _ _ _ _ _ (¬0) (¬2))∘((@cN _ _ _ _ _ _ _ (¬1) (¬2))∘ab)))))))
noncomputable def vD:FS:=(aA (iY (aP (ac 1))
    (bI (au DO (ac 0) (vC (.bool true))))
    d_)
    (bI (au DO (ac 0) (vC (.bool false)))))
noncomputable def j9:FM:=j_ 2 0 (([]++[])++[]) vD
theorem ug:aU ["_law_found","_law_due"] ["_law_found","_law_due"] (ap mz):=⟨rfl,rfl,rfl,by decide+kernel,rfl,by decide+kernel,by decide+kernel⟩
theorem ze(h:bX K mg "_law_says" mz f fd ["_law_found","_law_due"])(T:lg mg):a9 P w K mg base du 1 f fd ["_law_found","_law_due"] (dR K 2 j9):=by
  have nd:=ug.nd
  exact h.fn ug rfl rfl (fun cdv A outer s H E hr=>(@af _ _ _ _ _ _ _ _ (@cy _ _ _ _ _ _ _ _ _ _ _ (@dZ _ _ _ _ (¬1) (by intro _;rfl))
      (@ao _ _ _ _ _ (@aE _ _ _ _ _ (@kU _ _ _ _ _ _ _ _ _ (@Dz _ _) (¬0) (@cx _ _ _ _ _) (a8 _))))
      (@bc _ _))
      (@ao _ _ _ _ _ (@aE _ _ _ _ _ (@kU _ _ _ _ _ _ _ _ _ (@Dz _ _) (¬0) (@cx _ _ _ _ _) (a8 _))))))
noncomputable def ip:FS:=(aA (iY (aP (au (bw false) (ac 1) (vC (.int 0))))
    (bI (au bU (bS (aa (aY (aa (vC (.int 1)) (aa (vC (.int 2)) ag))) (aa (aY (aa (vC (.int 1)) (aa (vC (.int 3)) ag))) (aa (aY (aa (vC (.int 2)) (aa (vC (.int 3)) ag))) (aa (aY (aa (vC (.int 1)) (aa (vC (.int 1)) ag))) (aa (aY (aa (vC (.int 0)) (aa (vC (.int 1)) ag))) (aa (aY (aa (vC (.int 3)) (aa (vC (.int 4)) ag))) ag))))))) (au aM (ac 0) (vC (.int 6)))))
    d_)
    (aA (iY (aP (au (bw false) (ac 1) (vC (.int 1))))
    (aA (aO 2 (au aJ (vC (.int 2)) (au aM (ac 0) (vC (.int 9)))))
    (bI (dQ 2 nH (aa (au aJ (vC (.int 1)) (au aM (au bA (ac 0) (vC (.int 9))) (au iB (ac 2) (vC (.int 1))))) (aa (ac 2) ag)))))
    d_)
    (aA (iY (aP (au (bw false) (ac 1) (vC (.int 2))))
    (aA (aO 2 (au aJ (vC (.int 1)) (au aM (ac 0) (vC (.int 100)))))
    (bI (dQ 2 nH (aa (au aM (au bA (ac 0) (vC (.int 100))) (au aJ (ac 2) (vC (.int 1)))) (aa (ac 2) ag)))))
    d_)
    (bI (aY (aa (vC (.int 1)) (aa (vC (.int 1)) ag)))))))
noncomputable def cX:FM:=j_ 2 1 (([]++[])++((([2]++[])++[])++((([2]++[])++[])++[]))) ip
theorem nP:aU ["_law_number","_law_kind","_law_bottom"] ["_law_number","_law_kind"] (ap gG):=⟨rfl,rfl,rfl,by decide+kernel,rfl,by decide+kernel,by decide+kernel⟩
theorem uX(h:bX K mg "_law_chance" gG f fd ["_law_number","_law_kind"])(T:lg mg){fLlow:Addr}{eLlow:FuncData}(hLlow:bX K mg "_law_low" qS fLlow eLlow ["_law_top","_law_bottom"])(GLlow:a9 P w K mg base du 2 fLlow eLlow ["_law_top","_law_bottom"] (dR K 2 nH)):a9 P w K mg base du 3 f fd ["_law_number","_law_kind"] (dR K 2 cX):=by
  have nd:=nP.nd
  exact h.fn nP rfl rfl (fun cdv A outer s H E hr=>(@af _ _ _ _ _ _ _ _ (@cy _ _ _ _ _ _ _ _ _ _ _ (@bu _ _ _ _ _ _ _ _ _ (@jn _ _ _ rfl hr) (¬1) ae (a8 _))
      (@ao _ _ _ _ _ (@aE _ _ _ _ _ (@bf _ _ _ _ _ _ _ rfl (@aT _ _ _ _ _ ((@aw _ _ _ _ _ _ (ae∘(ae∘ab)))∘((@aw _ _ _ _ _ _ (ae∘(ae∘ab)))∘((@aw _ _ _ _ _ _ (ae∘(ae∘ab)))∘((@aw _ _ _ _ _ _ (ae∘(ae∘ab)))∘((@aw _ _ _ _ _ _ (ae∘(ae∘ab)))∘((@aw _ _ _ _ _ _ (ae∘(ae∘ab)))∘ab))))))) (@aQ _ _ _ _ _ _ _ (¬0) ae) (fun _ _=>rfl))))
      (@bc _ _))
      (@af _ _ _ _ _ _ _ _ (@cy _ _ _ _ _ _ _ _ _ _ _ (@bu _ _ _ _ _ _ _ _ _ (@jn _ _ _ rfl hr) (¬1) ae (a8 _))
      (@af _ _ _ _ _ _ _ _ (@ay _ _ _ _ _ 2 _ _ nd rfl (Or.inl rfl) (@aN _ _ _ _ _ _ _ rfl ae (@aQ _ _ _ _ _ _ _ (¬0) ae)) (by rfl) (by trivial))
      (@ao _ _ _ _ _ (@aE _ _ _ _ _ (@bh _ _ _ _ _ _ _ _ _ _ _ _ _ _ _ hLlow GLlow (hr.mono (by decide)) ((@aN _ _ _ _ _ _ _ rfl ae (@aQ _ _ _ _ _ _ _ (@cN _ _ _ _ _ _ _ (¬0) ae) (@qJ _ _ _ _ _ _ _ (¬2) ae)))∘((¬2)∘ab)) (by rfl) (by decide) (by rfl) (by rfl)))))
      (@bc _ _))
      (@af _ _ _ _ _ _ _ _ (@cy _ _ _ _ _ _ _ _ _ _ _ (@bu _ _ _ _ _ _ _ _ _ (@jn _ _ _ rfl hr) (¬1) ae (a8 _))
      (@af _ _ _ _ _ _ _ _ (@ay _ _ _ _ _ 2 _ _ nd rfl (Or.inl rfl) (@aN _ _ _ _ _ _ _ rfl ae (@aQ _ _ _ _ _ _ _ (¬0) ae)) (by rfl) (by trivial))
      (@ao _ _ _ _ _ (@aE _ _ _ _ _ (@bh _ _ _ _ _ _ _ _ _ _ _ _ _ _ _ hLlow GLlow (hr.mono (by decide)) ((@aQ _ _ _ _ _ _ _ (@cN _ _ _ _ _ _ _ (¬0) ae) (@aN _ _ _ _ _ _ _ rfl (¬2) ae))∘((¬2)∘ab)) (by rfl) (by decide) (by rfl) (by rfl)))))
      (@bc _ _))
      (@ao _ _ _ _ _ (@aE _ _ _ _ _ (@aw _ _ _ _ _ _ (ae∘(ae∘ab)))))))))
noncomputable def tf:FS:=(bI (au bU (bS (aa (au aM (ac 0) (vC (.int 7))) (aa (au aJ (vC (.int 5)) (au aM (ac 0) (vC (.int 2)))) (aa (au aM (ac 0) (vC (.int 1001))) (aa (au iB (vC (.int 1000)) (au aM (ac 0) (vC (.int 3)))) ag))))) (au aM (ac 1) (vC (.int 4)))))
noncomputable def jE:FM:=j_ 2 0 [] tf
theorem qX:aU ["_law_number","_law_kind"] ["_law_number","_law_kind"] (ap jQ):=⟨rfl,rfl,rfl,by decide+kernel,rfl,by decide+kernel,by decide+kernel⟩
theorem xf(h:bX K mg "_law_worth" jQ f fd ["_law_number","_law_kind"])(T:lg mg):a9 P w K mg base du 1 f fd ["_law_number","_law_kind"] (dR K 2 jE):=by
  have nd:=qX.nd
  exact h.fn qX rfl rfl (fun cdv A outer s H E hr=>(@ao _ _ _ _ _ (@aE _ _ _ _ _ (@bf _ _ _ _ _ _ _ rfl (@aT _ _ _ _ _ ((@aQ _ _ _ _ _ _ _ (¬0) ae)∘((@aN _ _ _ _ _ _ _ rfl ae (@aQ _ _ _ _ _ _ _ (¬0) ae))∘((@aQ _ _ _ _ _ _ _ (¬0) ae)∘((@qJ _ _ _ _ _ _ _ ae (@aQ _ _ _ _ _ _ _ (¬0) ae))∘ab))))) (@aQ _ _ _ _ _ _ _ (¬1) ae) (fun _ _=>rfl)))))
noncomputable def lY:FI:=(dc (aa (ac 2) ag))
noncomputable def gy:FS:=(aA (aO 8 (dQ 1 bg (aa (ac 0) ag)))
    (aA (aO 9 (au bU (bS (aa (au aM (ac 8) (ac 1)) (aa (vC (.int 0)) (aa (au aM (ac 7) (ac 1)) (aa (au aM (ac 8) (ac 1)) (aa (au aM (ac 8) (vC (.int 2))) (aa (au aM (ac 8) (ac 1)) ag))))))) (ac 3)))
    (aA (aO 10 (au aM (au aJ (au aJ (ac 9) (vC (.int 1))) (au aM (au bA (ac 8) (vC (.int 12))) (au iB (ac 1) (vC (.int 1))))) (ac 1)))
    (aA (iY (aP (au (bw false) (ac 3) (vC (.int 4))))
    (vc (aY (aa (vC (.int 0)) (aa (vC (.int 1)) ag))) (cW (aH (ah 9) (aH (ah 10) cG))))
    d_)
    (aA (aO 11 (dQ 1 bg (aa (ac 0) ag)))
    (aA (aO 12 (aY (aa (aF (g2 wg) (aa (ac 9) (aa (ac 10) ag))) (aa (aF (g2 p4) (aa (ac 9) (aa (ac 10) ag))) ag))))
    (gF (eR cI (ac 6) (aa (au aJ (ac 12) (aY (aa (dQ 2 cX (aa (ac 11) (aa (ac 4) ag))) (aa (dQ 2 jE (aa (au bA (ac 11) (vC (.int 10007))) (aa (ac 5) ag))) ag)))) ag)))))))))
noncomputable def vE:FS:=(aA (aO 3 (au aM (dQ 1 bg (aa (ac 0) ag)) (vC (.int 6))))
    (aA (aO 4 (au aM (dQ 1 bg (aa (ac 0) ag)) (vC (.int 4))))
    (aA (aO 5 (au aM (dQ 1 bg (aa (ac 0) ag)) (vC (.int 4))))
    (aA (aO 6 (bS ag))
    (aA (eC ([7]++([8]++([9]++([10]++((([9]++([10]++[]))++[])++([11]++([12]++[]))))))) lY (ah 7) gy)
    (bI (aF (g1 cF) (aa (ac 6) ag))))))))
noncomputable def l6:FM:=j_ 3 10 ([3]++([4]++([5]++([6]++(([7]++([8]++([9]++([10]++((([9]++([10]++[]))++[])++([11]++([12]++[])))))))++[]))))) vE
theorem uh:aU ["_law_drawn","_law_things","_law_many","_law_shape","_law_odds","_law_worths","_law_found","_law_k","_law_number","_law_one","_law_other","_law_cell","_law_ends"] ["_law_drawn","_law_things","_law_many"] (ap mB):=⟨rfl,rfl,rfl,by decide+kernel,rfl,by decide+kernel,by decide+kernel⟩
theorem zg(h:bX K mg "_law_ties" mB f fd ["_law_drawn","_law_things","_law_many"])(T:lg mg){fLnext:Addr}{eLnext:FuncData}(hLnext:bX K mg "_law_next" iI fLnext eLnext ["_law_drawn"])(GLnext:a9 P w K mg base du 1 fLnext eLnext ["_law_drawn"] (dR K 1 bg)){fLchance:Addr}{eLchance:FuncData}(hLchance:bX K mg "_law_chance" gG fLchance eLchance ["_law_number","_law_kind"])(GLchance:a9 P w K mg base du 3 fLchance eLchance ["_law_number","_law_kind"] (dR K 2 cX)){fLworth:Addr}{eLworth:FuncData}(hLworth:bX K mg "_law_worth" jQ fLworth eLworth ["_law_number","_law_kind"])(GLworth:a9 P w K mg base du 1 fLworth eLworth ["_law_number","_law_kind"] (dR K 2 jE)):a9 P w K mg base du 4 f fd ["_law_drawn","_law_things","_law_many"] (dR K 3 l6):=by
  have nd:=uh.nd
  exact h.fn uh rfl rfl (fun cdv A outer s H E hr=>(@af _ _ _ _ _ _ _ _ (@ay _ _ _ _ _ 3 _ _ nd rfl (Or.inl rfl) (@aQ _ _ _ _ _ _ _ (@bh _ _ _ _ _ _ _ _ _ _ _ _ _ _ _ hLnext GLnext (hr.mono (by decide)) ((¬0)∘ab) (by rfl) (by decide) (by rfl) (by rfl)) ae) (by rfl) (by trivial))
      (@af _ _ _ _ _ _ _ _ (@ay _ _ _ _ _ 4 _ _ nd rfl (Or.inl rfl) (@aQ _ _ _ _ _ _ _ (@bh _ _ _ _ _ _ _ _ _ _ _ _ _ _ _ hLnext GLnext (hr.mono (by decide)) ((¬0)∘ab) (by rfl) (by decide) (by rfl) (by rfl)) ae) (by rfl) (by trivial))
      (@af _ _ _ _ _ _ _ _ (@ay _ _ _ _ _ 5 _ _ nd rfl (Or.inl rfl) (@aQ _ _ _ _ _ _ _ (@bh _ _ _ _ _ _ _ _ _ _ _ _ _ _ _ hLnext GLnext (hr.mono (by decide)) ((¬0)∘ab) (by rfl) (by decide) (by rfl) (by rfl)) ae) (by rfl) (by trivial))
      (@af _ _ _ _ _ _ _ _ (@ay _ _ _ _ _ 6 _ _ nd rfl (Or.inl rfl) (@aT _ _ _ _ _ ab) (by rfl) (by trivial))
      (@af _ _ _ _ _ _ _ _ (@fL _ _ _ _ _ _ _ _ _ _ _ PassesOwn.never rfl (@dr _ _ _ _ _ _ _ rfl T.b_range ((¬2)∘ab) (by rfl)) (@aS _ _ _ 7 _ nd rfl (Or.inl rfl) (by trivial))
      (@af _ _ _ _ _ _ _ _ (@ay _ _ _ _ _ 8 _ _ nd rfl (Or.inl rfl) (@bh _ _ _ _ _ _ _ _ _ _ _ _ _ _ _ hLnext GLnext (hr.mono (by decide)) ((¬0)∘ab) (by rfl) (by decide) (by rfl) (by rfl)) (by rfl) (by trivial))
      (@af _ _ _ _ _ _ _ _ (@ay _ _ _ _ _ 9 _ _ nd rfl (Or.inl rfl) (@bf _ _ _ _ _ _ _ rfl (@aT _ _ _ _ _ ((@aQ _ _ _ _ _ _ _ (¬8) (¬1))∘(ae∘((@aQ _ _ _ _ _ _ _ (¬7) (¬1))∘((@aQ _ _ _ _ _ _ _ (¬8) (¬1))∘((@aQ _ _ _ _ _ _ _ (¬8) ae)∘((@aQ _ _ _ _ _ _ _ (¬8) (¬1))∘ab))))))) (¬3) (fun _ _=>rfl)) (by rfl) (by trivial))
      (@af _ _ _ _ _ _ _ _ (@ay _ _ _ _ _ 10 _ _ nd rfl (Or.inl rfl) (@aQ _ _ _ _ _ _ _ (@aN _ _ _ _ _ _ _ rfl (@aN _ _ _ _ _ _ _ rfl (¬9) ae) (@aQ _ _ _ _ _ _ _ (@cN _ _ _ _ _ _ _ (¬8) ae) (@qJ _ _ _ _ _ _ _ (¬1) ae))) (¬1)) (by rfl) (by trivial))
      (@af _ _ _ _ _ _ _ _ (@cy _ _ _ _ _ _ _ _ _ _ _ (@bu _ _ _ _ _ _ _ _ _ (@jn _ _ _ rfl hr) (¬3) ae (a8 _))
      (@ao _ _ _ _ _ (@xO _ _ _ _ _ _ _ _ (@aw _ _ _ _ _ _ (ae∘(ae∘ab))) (@mq _ _ _ _ _ _ _ _ rfl rfl (@cY _ _ _ _ _ _ _ _ (@aS _ _ _ 9 _ nd rfl (Or.inl rfl) (by trivial)) (@cY _ _ _ _ _ _ _ _ (@aS _ _ _ 10 _ nd rfl (Or.inl rfl) (by trivial)) (@jJ _ _) (by rfl)) (by rfl)) (ek (ek lV)) (by rfl) (by rfl)) (by rfl) (by rfl) (by rfl)))
      (@bc _ _))
      (@af _ _ _ _ _ _ _ _ (@ay _ _ _ _ _ 11 _ _ nd rfl (Or.inl rfl) (@bh _ _ _ _ _ _ _ _ _ _ _ _ _ _ _ hLnext GLnext (hr.mono (by decide)) ((¬0)∘ab) (by rfl) (by decide) (by rfl) (by rfl)) (by rfl) (by trivial))
      (@af _ _ _ _ _ _ _ _ (@ay _ _ _ _ _ 12 _ _ nd rfl (Or.inl rfl) (@aw _ _ _ _ _ _ ((@aW _ _ _ _ _ _ _ _ _ (@b_min _ _ rfl) (by rfl) T.b_min ((¬9)∘((¬10)∘ab)) (by decide) (by decide) (by rfl) (by rfl))∘((@aW _ _ _ _ _ _ _ _ _ (@b_max _ _ rfl) (by rfl) T.b_max ((¬9)∘((¬10)∘ab)) (by decide) (by decide) (by rfl) (by rfl))∘ab))) (by rfl) (by trivial))
      (@ao _ _ _ _ _ (@eW _ _ _ _ _ (@fK _ _ _ _ _ _ _ _ _ rfl (¬6) ((@aN _ _ _ _ _ _ _ rfl (¬12) (@aw _ _ _ _ _ _ ((@bh _ _ _ _ _ _ _ _ _ _ _ _ _ _ _ hLchance GLchance (hr.mono (by decide)) ((¬11)∘((¬4)∘ab)) (by rfl) (by decide) (by rfl) (by rfl))∘((@bh _ _ _ _ _ _ _ _ _ _ _ _ _ _ _ hLworth GLworth (hr.mono (by decide)) ((@cN _ _ _ _ _ _ _ (¬11) ae)∘((¬5)∘ab)) (by rfl) (by decide) (by rfl) (by rfl))∘ab))))∘ab) (by rfl) (by rfl) (by rfl) (by rfl) (by rfl)) (by rfl))))))))) (by intro _;rfl))
      (@ao _ _ _ _ _ (@aE _ _ _ _ _ (@aW _ _ _ _ _ _ _ _ _ (@b_tuple _ _ rfl) (by rfl) T.b_tuple ((¬6)∘ab) (by decide) (by decide) (by rfl) (by rfl))))))))))
noncomputable def oK:FI:=(dc (aa (ac 3) ag))
noncomputable def lj:FS:=(gF (eR cI (ac 7) (aa (au bU (bS (aa (vC (.int 20)) (aa (au aJ (vC (.int 1)) (au aM (dQ 1 bg (aa (ac 0) ag)) (vC (.int 3)))) (aa (au aM (dQ 1 bg (aa (ac 0) ag)) (vC (.int 21))) ag)))) (ac 6)) ag)))
noncomputable def Av:FS:=(aA (aO 3 (au aM (dQ 1 bg (aa (ac 0) ag)) (au aJ (ac 1) (vC (.int 1)))))
    (aA (aO 4 (au jc (au aM (dQ 1 bg (aa (ac 0) ag)) (au aJ (ac 2) (vC (.int 1)))) (aF (g1 uL) (aa (au DN (ac 3) (vC (.int 1))) ag))))
    (aA (aO 5 (dQ 3 l6 (aa (ac 0) (aa (aF (g2 p4) (aa (vC (.int 2)) (aa (ac 3) ag))) (aa (ac 4) ag)))))
    (aA (aO 6 (au aM (dQ 1 bg (aa (ac 0) ag)) (vC (.int 3))))
    (aA (aO 7 (bS ag))
    (aA (eC ([8]++[]) oK (ah 8) lj)
    (aA (aO 9 (au bU (bS (aa (vC (.int 40)) (aa (au aJ (vC (.int 1)) (au aM (dQ 1 bg (aa (ac 0) ag)) (aF (g2 p4) (aa (vC (.int 1)) (aa (ac 4) ag))))) (aa (au aM (dQ 1 bg (aa (ac 0) ag)) (vC (.int 41))) ag)))) (au aM (dQ 1 bg (aa (ac 0) ag)) (vC (.int 3)))))
    (bI (aY (aa (ac 3) (aa (ac 5) (aa (aF (g1 cF) (aa (ac 7) ag)) (aa (ac 9) ag)))))))))))))
noncomputable def qo:FM:=j_ 3 7 ([3]++([4]++([5]++([6]++([7]++(([8]++[])++([9]++[]))))))) Av
theorem yc:aU ["_law_drawn","_law_most","_law_ties_here","_law_things","_law_many","_law_rows","_law_way","_law_patience","_law_k","_law_asks"] ["_law_drawn","_law_most","_law_ties_here"] (ap qU):=⟨rfl,rfl,rfl,by decide+kernel,rfl,by decide+kernel,by decide+kernel⟩
theorem BS(h:bX K mg "_law_web" qU f fd ["_law_drawn","_law_most","_law_ties_here"])(T:lg mg){fLties:Addr}{eLties:FuncData}(hLties:bX K mg "_law_ties" mB fLties eLties ["_law_drawn","_law_things","_law_many"])(GLties:a9 P w K mg base du 4 fLties eLties ["_law_drawn","_law_things","_law_many"] (dR K 3 l6)){fLnext:Addr}{eLnext:FuncData}(hLnext:bX K mg "_law_next" iI fLnext eLnext ["_law_drawn"])(GLnext:a9 P w K mg base du 1 fLnext eLnext ["_law_drawn"] (dR K 1 bg)):a9 P w K mg base du 5 f fd ["_law_drawn","_law_most","_law_ties_here"] (dR K 3 qo):=by
  have nd:=yc.nd
  exact h.fn yc rfl rfl (fun cdv A outer s H E hr=>(@af _ _ _ _ _ _ _ _ (@ay _ _ _ _ _ 3 _ _ nd rfl (Or.inl rfl) (@aQ _ _ _ _ _ _ _ (@bh _ _ _ _ _ _ _ _ _ _ _ _ _ _ _ hLnext GLnext (hr.mono (by decide)) ((¬0)∘ab) (by rfl) (by decide) (by rfl) (by rfl)) (@aN _ _ _ _ _ _ _ rfl (¬1) ae)) (by rfl) (by trivial))
      (@af _ _ _ _ _ _ _ _ (@ay _ _ _ _ _ 4 _ _ nd rfl (Or.inl rfl) (@ml _ _ _ _ _ _ _ rfl (@aQ _ _ _ _ _ _ _ (@bh _ _ _ _ _ _ _ _ _ _ _ _ _ _ _ hLnext GLnext (hr.mono (by decide)) ((¬0)∘ab) (by rfl) (by decide) (by rfl) (by rfl)) (@aN _ _ _ _ _ _ _ rfl (¬2) ae)) (@aW _ _ _ _ _ _ _ _ _ (@b_int _ _) (by rfl) T.b_int ((@kU _ _ _ _ _ _ _ _ _ (@Dy _ _) (¬3) ae (a8 _))∘ab) (by decide) (by decide) (by rfl) (by rfl))) (by rfl) (by trivial))
      (@af _ _ _ _ _ _ _ _ (@ay _ _ _ _ _ 5 _ _ nd rfl (Or.inl rfl) (@bh _ _ _ _ _ _ _ _ _ _ _ _ _ _ _ hLties GLties (hr.mono (by decide)) ((¬0)∘((@aW _ _ _ _ _ _ _ _ _ (@b_max _ _ rfl) (by rfl) T.b_max (ae∘((¬3)∘ab)) (by decide) (by decide) (by rfl) (by rfl))∘((¬4)∘ab))) (by rfl) (by decide) (by rfl) (by rfl)) (by rfl) (by trivial))
      (@af _ _ _ _ _ _ _ _ (@ay _ _ _ _ _ 6 _ _ nd rfl (Or.inl rfl) (@aQ _ _ _ _ _ _ _ (@bh _ _ _ _ _ _ _ _ _ _ _ _ _ _ _ hLnext GLnext (hr.mono (by decide)) ((¬0)∘ab) (by rfl) (by decide) (by rfl) (by rfl)) ae) (by rfl) (by trivial))
      (@af _ _ _ _ _ _ _ _ (@ay _ _ _ _ _ 7 _ _ nd rfl (Or.inl rfl) (@aT _ _ _ _ _ ab) (by rfl) (by trivial))
      (@af _ _ _ _ _ _ _ _ (@fL _ _ _ _ _ _ _ _ _ _ _ PassesOwn.never rfl (@dr _ _ _ _ _ _ _ rfl T.b_range ((¬3)∘ab) (by rfl)) (@aS _ _ _ 8 _ nd rfl (Or.inl rfl) (by trivial))
      (@ao _ _ _ _ _ (@eW _ _ _ _ _ (@fK _ _ _ _ _ _ _ _ _ rfl (¬7) ((@bf _ _ _ _ _ _ _ rfl (@aT _ _ _ _ _ (ae∘((@aN _ _ _ _ _ _ _ rfl ae (@aQ _ _ _ _ _ _ _ (@bh _ _ _ _ _ _ _ _ _ _ _ _ _ _ _ hLnext GLnext (hr.mono (by decide)) ((¬0)∘ab) (by rfl) (by decide) (by rfl) (by rfl)) ae))∘((@aQ _ _ _ _ _ _ _ (@bh _ _ _ _ _ _ _ _ _ _ _ _ _ _ _ hLnext GLnext (hr.mono (by decide)) ((¬0)∘ab) (by rfl) (by decide) (by rfl) (by rfl)) ae)∘ab)))) (¬6) (fun _ _=>rfl))∘ab) (by rfl) (by rfl) (by rfl) (by rfl) (by rfl)) (by rfl))) (by intro _;rfl))
      (@af _ _ _ _ _ _ _ _ (@ay _ _ _ _ _ 9 _ _ nd rfl (Or.inl rfl) (@bf _ _ _ _ _ _ _ rfl (@aT _ _ _ _ _ (ae∘((@aN _ _ _ _ _ _ _ rfl ae (@aQ _ _ _ _ _ _ _ (@bh _ _ _ _ _ _ _ _ _ _ _ _ _ _ _ hLnext GLnext (hr.mono (by decide)) ((¬0)∘ab) (by rfl) (by decide) (by rfl) (by rfl)) (@aW _ _ _ _ _ _ _ _ _ (@b_max _ _ rfl) (by rfl) T.b_max (ae∘((¬4)∘ab)) (by decide) (by decide) (by rfl) (by rfl))))∘((@aQ _ _ _ _ _ _ _ (@bh _ _ _ _ _ _ _ _ _ _ _ _ _ _ _ hLnext GLnext (hr.mono (by decide)) ((¬0)∘ab) (by rfl) (by decide) (by rfl) (by rfl)) ae)∘ab)))) (@aQ _ _ _ _ _ _ _ (@bh _ _ _ _ _ _ _ _ _ _ _ _ _ _ _ hLnext GLnext (hr.mono (by decide)) ((¬0)∘ab) (by rfl) (by decide) (by rfl) (by rfl)) ae) (fun _ _=>rfl)) (by rfl) (by trivial))
      (@ao _ _ _ _ _ (@aE _ _ _ _ _ (@aw _ _ _ _ _ _ ((¬3)∘((¬5)∘((@aW _ _ _ _ _ _ _ _ _ (@b_tuple _ _ rfl) (by rfl) T.b_tuple ((¬7)∘ab) (by decide) (by decide) (by rfl) (by rfl))∘((¬9)∘ab)))))))))))))))
noncomputable def As:FS:=(aA (aO 1 (bS (aa (vC .none) (aa (vC (.bool true)) (aa (vC (.bool false)) (aa (vC (.int 0)) (aa (vC (.int 1)) (aa (mU p7 (vC (.int 1))) (aa (vC (.int 5)) (aa (vC (.str ("":Str))) (aa (vC (.str ("a":Str))) (aa (vC (.str ("0":Str))) (aa (aY ag) (aa (aY (aa (vC (.int 0)) ag)) (aa (aY (aa (vC (.int 0)) (aa (vC (.int 1)) ag))) (aa (aY (aa (aY ag) (aa (aY ag) ag))) (aa (bS ag) (aa (bS (aa (vC (.int 0)) ag)) (aa (j3 []) (aa (j3 [(0,1)]) ag))))))))))))))))))))
    (aA (aO 1 (au aJ (ac 1) (bS (aa (aY (aa (vC .none) ag)) (aa (aY (aa (aY ag) ag)) (aa (bS (aa (aY ag) ag)) (aa (aY (aa (vC (.bool true)) (aa (vC (.bool false)) ag))) (aa (aY (aa (aY (aa (vC (.int 0)) (aa (vC (.int 1)) ag))) (aa (aY (aa (vC (.int 1)) (aa (vC (.int 2)) ag))) ag))) (aa (aY (aa (aY (aa (aY ag) (aa (aY ag) ag))) ag)) (aa (aY (aa (vC (.str ("a":Str))) (aa (vC (.int 1)) ag))) (aa (aY (aa (aY (aa (vC (.int 0)) (aa (vC (.int 1)) ag))) ag)) (aa (au oG (vC (.int 10)) (vC (.int 30))) ag))))))))))))
    (bI (au bU (ac 1) (au aM (ac 0) (aF (g1 bZ) (aa (ac 1) ag)))))))
noncomputable def qm:FM:=j_ 1 1 ([1]++([1]++[])) As
theorem x_:aU ["_law_number","_law_odd_here"] ["_law_number"] (ap qT):=⟨rfl,rfl,rfl,by decide+kernel,rfl,by decide+kernel,by decide+kernel⟩
theorem BQ(h:bX K mg "_law_odd" qT f fd ["_law_number"])(T:lg mg):a9 P w K mg base du 1 f fd ["_law_number"] (dR K 1 qm):=by
  have nd:=x_.nd
  exact h.fn x_ rfl rfl (fun cdv A outer s H E hr=>(@af _ _ _ _ _ _ _ _ (@ay _ _ _ _ _ 1 _ _ nd rfl (Or.inl rfl) (@aT _ _ _ _ _ ((@oZ _ _ _ _)∘((@cx _ _ _ _ _)∘((@cx _ _ _ _ _)∘(ae∘(ae∘((@qI _ _ _ _ _ ae)∘(ae∘((@o5 _ _ _ _ _)∘((@o5 _ _ _ _ _)∘((@o5 _ _ _ _ _)∘((@aw _ _ _ _ _ _ ab)∘((@aw _ _ _ _ _ _ (ae∘ab))∘((@aw _ _ _ _ _ _ (ae∘(ae∘ab)))∘((@aw _ _ _ _ _ _ ((@aw _ _ _ _ _ _ ab)∘((@aw _ _ _ _ _ _ ab)∘ab)))∘((@aT _ _ _ _ _ ab)∘((@aT _ _ _ _ _ (ae∘ab))∘((@mn _ _ _)∘((@xM _ _ _ _ _ _ _ _ _)∘ab))))))))))))))))))) (by rfl) (by trivial))
      (@af _ _ _ _ _ _ _ _ (@ay _ _ _ _ _ 1 _ _ nd rfl (Or.inl rfl) (@aN _ _ _ _ _ _ _ rfl (¬1) (@aT _ _ _ _ _ ((@aw _ _ _ _ _ _ ((@oZ _ _ _ _)∘ab))∘((@aw _ _ _ _ _ _ ((@aw _ _ _ _ _ _ ab)∘ab))∘((@aT _ _ _ _ _ ((@aw _ _ _ _ _ _ ab)∘ab))∘((@aw _ _ _ _ _ _ ((@cx _ _ _ _ _)∘((@cx _ _ _ _ _)∘ab)))∘((@aw _ _ _ _ _ _ ((@aw _ _ _ _ _ _ (ae∘(ae∘ab)))∘((@aw _ _ _ _ _ _ (ae∘(ae∘ab)))∘ab)))∘((@aw _ _ _ _ _ _ ((@aw _ _ _ _ _ _ ((@aw _ _ _ _ _ _ ab)∘((@aw _ _ _ _ _ _ ab)∘ab)))∘ab))∘((@aw _ _ _ _ _ _ ((@o5 _ _ _ _ _)∘(ae∘ab)))∘((@aw _ _ _ _ _ _ ((@aw _ _ _ _ _ _ (ae∘(ae∘ab)))∘ab))∘((@xH _ _ _ _ _ _ _ ae ae)∘ab))))))))))) (by rfl) (by trivial))
      (@ao _ _ _ _ _ (@aE _ _ _ _ _ (@bf _ _ _ _ _ _ _ rfl (¬1) (@aQ _ _ _ _ _ _ _ (¬0) (@aW _ _ _ _ _ _ _ _ _ (@b_len _ _ rfl) (by rfl) T.b_len ((¬1)∘ab) (by decide) (by decide) (by rfl) (by rfl))) (fun _ _=>rfl)))))))
noncomputable def gh:FI:=(j8 (ac 0))
noncomputable def a_:FS:=(aA (iY (ur (iM (aP (mU (jb "int") (ac 3)))) (ur (aP (mU (jb "bool") (ac 3))) (iM (aP (dP C_ AO (ac 2) (ac 3) (ac 1))))))
    (bI (vC (.bool false)))
    d_)
    (aO 2 (au aJ (ac 3) (vC (.int 1)))))
noncomputable def iq:FS:=(aA (iY (iM (aP (mU (jb "tuple") (ac 0))))
    (bI (vC (.bool false)))
    d_)
    (aA (aO 2 (vC (.int 0)))
    (aA (eC ([3]++(([]++[])++[2])) gh (ah 3) a_)
    (bI (vC (.bool true))))))
noncomputable def dq:FM:=j_ 2 2 (([]++[])++([2]++(([3]++(([]++[])++[2]))++[]))) iq
theorem jS:aU ["_law_thing","_law_most","_law_least","_law_one"] ["_law_thing","_law_most"] (ap eE):=⟨rfl,rfl,rfl,by decide+kernel,rfl,by decide+kernel,by decide+kernel⟩
theorem oS(h:bX K mg "_law_is_rising" eE f fd ["_law_thing","_law_most"])(T:lg mg):a9 P w K mg base du 1 f fd ["_law_thing","_law_most"] (dR K 2 dq):=by
  have nd:=jS.nd
  exact h.fn jS rfl rfl (fun cdv A outer s H E hr=>(@af _ _ _ _ _ _ _ _ (@cy _ _ _ _ _ _ _ _ _ _ _ (@eK _ _ _ _ _ (@dZ _ _ _ _ (@jI _ _ _ _ _ _ _ _ "tuple" rfl (by decide) rfl T.b_isinstance rfl T.b_tuple PyProof.Rows.boot_tuple (by decide) (by decide) (¬0) (by rfl) (by rfl)) (by intro _;rfl)))
      (@ao _ _ _ _ _ (@aE _ _ _ _ _ (@cx _ _ _ _ _)))
      (@bc _ _))
      (@af _ _ _ _ _ _ _ _ (@ay _ _ _ _ _ 2 _ _ nd rfl (Or.inl rfl) ae (by rfl) (by trivial))
      (@af _ _ _ _ _ _ _ _ (@fL _ _ _ _ _ _ _ _ _ _ _ PassesOwn.never rfl (@g_ _ _ _ _ _ rfl (¬0)) (@aS _ _ _ 3 _ nd rfl (Or.inl rfl) (by trivial))
      (@af _ _ _ _ _ _ _ _ (@cy _ _ _ _ _ _ _ _ _ _ _ (@o_ _ _ _ _ (@jK _ _ _ _ _ _ _ _ (@eK _ _ _ _ _ (@dZ _ _ _ _ (@jI _ _ _ _ _ _ _ _ "int" rfl (by decide) rfl T.b_isinstance rfl T.b_int PyProof.Rows.boot_int (by decide) (by decide) (¬3) (by rfl) (by rfl)) (by intro _;rfl))) (@jK _ _ _ _ _ _ _ _ (@dZ _ _ _ _ (@jI _ _ _ _ _ _ _ _ "bool" rfl (by decide) rfl T.b_isinstance rfl T.b_bool PyProof.Rows.boot_bool (by decide) (by decide) (¬3) (by rfl) (by rfl)) (by intro _;rfl)) (@jg _ _ _ _ _ (@eK _ _ _ _ _ (@xI _ _ _ _ _ _ _ _ _ _ _ _ _ (@Bo _ _) (@yF _ _) (¬2) (¬3) (¬1) (by with_unfolding_all rfl)))))))
      (@ao _ _ _ _ _ (@aE _ _ _ _ _ (@cx _ _ _ _ _)))
      (@bc _ _))
      (@ao _ _ _ _ _ (@ay _ _ _ _ _ 2 _ _ nd rfl (Or.inl rfl) (@aN _ _ _ _ _ _ _ rfl (¬3) ae) (by rfl) (by trivial)))) (by intro _;rfl))
      (@ao _ _ _ _ _ (@aE _ _ _ _ _ (@cx _ _ _ _ _)))))))
noncomputable def kR:FI:=(wy 4)
noncomputable def fW:FE:=(aF (g1 cF) (aa (ac 0) ag))
noncomputable def dn:FI:=(kQ (aa (ac 4) ag))
noncomputable def cE:FT:=(aP (au (bw false) (au bU (au bU (ac 1) (au bU (ac 3) (vC (.int 0)))) (vC (.int 2))) (ac 0)))
noncomputable def en:FE:=(ac 2)
noncomputable def fY:FI:=(kQ (aa (au bU (ac 1) (vC (.int 1))) ag))
noncomputable def dj:FS:=(aA (aO 7 (dQ 1 bg (aa (ac 0) ag)))
    (aA (aO 8 (au bU (bS (aa (au bU (ac 2) (vC (.int 0))) (aa (au bU (ac 2) (vC (.int 1))) (aa (au bU (ac 2) (vC (.int 0))) (aa (au bU (ac 6) (vC (.int 2))) ag))))) (au aM (ac 7) (vC (.int 4)))))
    (aA (gF (eR cI (ac 3) (aa (au aJ (rA (ac 6) gE (dS (vC (.int 2)))) (aY (aa (ac 8) (aa (au bU (ac 6) (vC (.int 3))) ag)))) ag)))
    (aA (nO 4 (aO 9 (cm [(8,"_law_own"),(3,"_law_ties_here")] 2 dn (cW (aH (ah 2) (aH (ah 3) cG))) cE en)))
    (iY (sT (aP (au (bw true) (ac 9) (bS ag))) (aP (au DN (au aM (au bA (ac 7) (vC (.int 4))) (vC (.int 3))) (vC (.int 0)))))
    (gF (mI 4 (au bU (ac 9) (au aM (au bA (ac 7) (vC (.int 12))) (aF (g1 bZ) (aa (ac 9) ag)))) (kb 5)))
    (gF (ro 4 (bS (aa (ac 5) ag)))))))))
noncomputable def iD:FI:=(dc (aa (vC (.int 2)) ag))
noncomputable def fX:FE:=(dQ 2 cX (aa (dQ 1 bg (aa (ac 0) ag)) (aa (au aM (dQ 1 bg (aa (ac 0) ag)) (vC (.int 3))) ag)))
noncomputable def mX:FS:=(aA (aO 2 (cm [(0,"_law_drawn")] 1 iD (ah 1) bL fX))
    (aA (aO 3 (bS ag))
    (aA (x5 4)
    (aA (eC (([5]++([6]++[]))++([7]++([8]++([]++([9]++([]++[])))))) fY (cW (aH (ah 5) (aH (ah 6) cG))) dj)
    (bI (aY (aa (aY (aa (au bU (ac 1) (vC (.int 0))) (aa (aF (g1 cF) (aa (ac 3) ag)) (aa (au bU (ac 1) (vC (.int 2))) (aa (au bU (ac 1) (vC (.int 3))) ag))))) (aa (aF (g1 cF) (aa (cm [] 1 kR (ah 0) bL fW) ag)) ag))))))))
noncomputable def eZ:FM:=j_ 2 8 ([2]++([3]++([4]++((([5]++([6]++[]))++([7]++([8]++([]++([9]++([]++[]))))))++[])))) mX
theorem mD:aU ["_law_drawn","_law_web_here","_law_some","_law_ties_here","_law_groups","_law_tie","_law_row","_law_number","_law_own","_law_alike"] ["_law_drawn","_law_web_here"] (ap dt):=⟨rfl,rfl,rfl,by decide+kernel,rfl,by decide+kernel,by decide+kernel⟩
theorem si(h:bX K mg "_law_grouped" dt f fd ["_law_drawn","_law_web_here"])(T:lg mg){fLchance:Addr}{eLchance:FuncData}(hLchance:bX K mg "_law_chance" gG fLchance eLchance ["_law_number","_law_kind"])(GLchance:a9 P w K mg base du 3 fLchance eLchance ["_law_number","_law_kind"] (dR K 2 cX)){fLnext:Addr}{eLnext:FuncData}(hLnext:bX K mg "_law_next" iI fLnext eLnext ["_law_drawn"])(GLnext:a9 P w K mg base du 1 fLnext eLnext ["_law_drawn"] (dR K 1 bg)):a9 P w K mg base du 4 f fd ["_law_drawn","_law_web_here"] (dR K 2 eZ):=by
  have nd:=mD.nd
  exact h.fn mD rfl rfl (fun cdv A outer s H E hr=>(@af _ _ _ _ _ _ _ _ (@kg _ _ _ (2) _ _ _ _ _ _ _ _ _ _ _ _ _ (ap dt) ["_law_drawn","_law_web_here","_law_some","_law_ties_here","_law_groups","_law_tie","_law_row","_law_number","_law_own","_law_alike"] [(0,"_law_drawn")] ["_law_k"] rfl rfl rfl (@dr _ _ _ _ _ _ _ rfl T.b_range (ae∘ab) (by rfl))
        (fun C s0 H0 fp=>(@aS _ _ _ 1 _ (show List.Nodup (["_law_drawn","_law_k"]:List Str) by decide+kernel) rfl (Or.inl rfl) (by trivial))) (fun C s0 H0 fp=>(@fZ _ _))
        (fun C s0 H0 fp=>(@bh _ _ _ _ _ _ _ _ _ _ _ _ _ _ _ hLchance GLchance (hr.mono (by decide)) ((@bh _ _ _ _ _ _ _ _ _ _ _ _ _ _ _ hLnext GLnext (hr.mono (by decide)) ((¬0)∘ab) (by rfl) (by decide) (by rfl) (by rfl))∘((@aQ _ _ _ _ _ _ _ (@bh _ _ _ _ _ _ _ _ _ _ _ _ _ _ _ hLnext GLnext (hr.mono (by decide)) ((¬0)∘ab) (by rfl) (by decide) (by rfl) (by rfl)) ae)∘ab)) (by rfl) (by decide) (by rfl) (by rfl))) rfl (by decide+kernel) (by decide+kernel) (by decide+kernel) (by decide+kernel) (by decide+kernel) (by decide+kernel) (by decide+kernel) nd rfl rfl (by rfl) (by intro _;rfl))
      (@af _ _ _ _ _ _ _ _ (@ay _ _ _ _ _ 3 _ _ nd rfl (Or.inr rfl) (@aT _ _ _ _ _ ab) (by rfl) (by trivial))
      (@af _ _ _ _ _ _ _ _ (@zS _ _ _ _ _ _ 4 nd rfl (Or.inl rfl) (by rfl) (by trivial))
      (@af _ _ _ _ _ _ _ _ (@fL _ _ _ _ _ _ _ _ _ _ _ PassesOwn.never rfl (@o6 _ _ _ _ _ _ _ _ _ rfl rfl T.b_enumerate ((@bf _ _ _ _ _ _ _ rfl (¬1) ae (fun _ _=>rfl))∘ab) (by rfl)) (@mq _ _ _ _ _ _ _ _ rfl rfl (@cY _ _ _ _ _ _ _ _ (@aS _ _ _ 5 _ nd rfl (Or.inl rfl) (by trivial)) (@cY _ _ _ _ _ _ _ _ (@aS _ _ _ 6 _ nd rfl (Or.inl rfl) (by trivial)) (@jJ _ _) (by rfl)) (by rfl)) (ek (ek lV)) (by rfl) (by rfl))
      (@af _ _ _ _ _ _ _ _ (@ay _ _ _ _ _ 7 _ _ nd rfl (Or.inl rfl) (@bh _ _ _ _ _ _ _ _ _ _ _ _ _ _ _ hLnext GLnext (hr.mono (by decide)) ((¬0)∘ab) (by rfl) (by decide) (by rfl) (by rfl)) (by rfl) (by trivial))
      (@af _ _ _ _ _ _ _ _ (@ay _ _ _ _ _ 8 _ _ nd rfl (Or.inr rfl) (@bf _ _ _ _ _ _ _ rfl (@aT _ _ _ _ _ ((@bf _ _ _ _ _ _ _ rfl (¬2) ae (fun _ _=>rfl))∘((@bf _ _ _ _ _ _ _ rfl (¬2) ae (fun _ _=>rfl))∘((@bf _ _ _ _ _ _ _ rfl (¬2) ae (fun _ _=>rfl))∘((@bf _ _ _ _ _ _ _ rfl (¬6) ae (fun _ _=>rfl))∘ab))))) (@aQ _ _ _ _ _ _ _ (¬7) ae) (fun _ _=>rfl)) (by rfl) (by trivial))
      (@af _ _ _ _ _ _ _ _ (@eW _ _ _ _ _ (@fK _ _ _ _ _ _ _ _ _ rfl (¬3) ((@aN _ _ _ _ _ _ _ rfl (@dI _ _ _ _ _ _ _ _ _ _ rfl (¬6) (@eV _ _) (@cJ _ _ _ _ ae)) (@aw _ _ _ _ _ _ ((¬8)∘((@bf _ _ _ _ _ _ _ rfl (¬6) ae (fun _ _=>rfl))∘ab))))∘ab) (by rfl) (by rfl) (by rfl) (by rfl) (by rfl)) (by rfl))
      (@af _ _ _ _ _ _ _ _ (@zT _ _ _ _ _ 4 (by decide) (@kg _ _ _ (9) _ _ _ _ _ _ _ _ _ _ _ _ _ (ap dt) ["_law_drawn","_law_web_here","_law_some","_law_ties_here","_law_groups","_law_tie","_law_row","_law_number","_law_own","_law_alike"] [(8,"_law_own"),(3,"_law_ties_here")] ["_law_k","_law_group"] rfl rfl rfl (@o6 _ _ _ _ _ _ _ _ _ rfl rfl T.b_enumerate ((¬4)∘ab) (by rfl))
        (fun C s0 H0 fp=>(@mq _ _ _ _ _ _ _ _ rfl rfl (@cY _ _ _ _ _ _ _ _ (@aS _ _ _ 2 _ (show List.Nodup (["_law_own","_law_ties_here","_law_k","_law_group"]:List Str) by decide+kernel) rfl (Or.inl rfl) (by trivial)) (@cY _ _ _ _ _ _ _ _ (@aS _ _ _ 3 _ (show List.Nodup (["_law_own","_law_ties_here","_law_k","_law_group"]:List Str) by decide+kernel) rfl (Or.inl rfl) (by trivial)) (@jJ _ _) (by rfl)) (by rfl)) (ek (ek lV)) (by rfl) (by rfl))) (fun C s0 H0 fp=>(@tZ _ _ _ _ (@bu _ _ _ _ _ _ _ _ _ (@jn _ _ _ rfl hr) (@bf _ _ _ _ _ _ _ rfl (@bf _ _ _ _ _ _ _ rfl (¬1) (@bf _ _ _ _ _ _ _ rfl (¬3) ae (fun _ _=>rfl)) (fun _ _=>rfl)) ae (fun _ _=>rfl)) (¬0) (a8 _))))
        (fun C s0 H0 fp=>(¬2)) rfl (by decide+kernel) (by decide+kernel) (by decide+kernel) (by decide+kernel) (by decide+kernel) (by decide+kernel) (by decide+kernel) nd rfl rfl (by rfl) (by intro _;rfl)))
      (@ao _ _ _ _ _ (@cy _ _ _ _ _ _ _ _ _ _ _ (@o_ _ _ _ _ (@xQ _ _ _ _ _ _ _ _ (@bu _ _ _ _ _ _ _ _ _ (@vI _ _ _ rfl hr) (¬9) (@aT _ _ _ _ _ ab) (a8 _)) (@t9 _ _ _ _ _ (@bu _ _ _ _ _ _ _ _ _ (@Dy _ _) (@aQ _ _ _ _ _ _ _ (@cN _ _ _ _ _ _ _ (¬7) ae) ae) ae (a8 _)))))
      (@ao _ _ _ _ _ (@eW _ _ _ _ _ (@zP _ _ _ _ _ 4 _ _ _ _ _ _ rfl (by rfl) (by first | exact Or.inl rfl | exact Or.inr (Or.inl rfl) | exact Or.inr (Or.inr rfl)) (by decide) (by decide) (@bf _ _ _ _ _ _ _ rfl (¬9) (@aQ _ _ _ _ _ _ _ (@cN _ _ _ _ _ _ _ (¬7) ae) (@aW _ _ _ _ _ _ _ _ _ (@b_len _ _ rfl) (by rfl) T.b_len ((¬9)∘ab) (by decide) (by decide) (by rfl) (by rfl))) (fun _ _=>rfl)) (fun _ _=>rfl) (@o8 _ _ _ _ 5 (by rfl) (by first | exact Or.inl rfl | exact Or.inr (Or.inl rfl) | exact Or.inr (Or.inr rfl)) (by decide) (by decide)) (by rfl) (by rfl) (by rfl) (by rfl) (by rfl) (by rfl)) (by rfl)))
      (@ao _ _ _ _ _ (@eW _ _ _ _ _ (@Cp _ _ _ _ _ _ 4 _ _ rfl (by rfl) (by first | exact Or.inl rfl | exact Or.inr (Or.inl rfl) | exact Or.inr (Or.inr rfl)) (by decide) (by decide) (@aT _ _ _ _ _ ((¬5)∘ab)) (by rfl) (by rfl) (by rfl) (by rfl) (by rfl) (by rfl)) (by rfl))))))))) (by intro _;rfl))
      (@ao _ _ _ _ _ (@aE _ _ _ _ _ (@aw _ _ _ _ _ _ ((@aw _ _ _ _ _ _ ((@bf _ _ _ _ _ _ _ rfl (¬1) ae (fun _ _=>rfl))∘((@aW _ _ _ _ _ _ _ _ _ (@b_tuple _ _ rfl) (by rfl) T.b_tuple ((¬3)∘ab) (by decide) (by decide) (by rfl) (by rfl))∘((@bf _ _ _ _ _ _ _ rfl (¬1) ae (fun _ _=>rfl))∘((@bf _ _ _ _ _ _ _ rfl (¬1) ae (fun _ _=>rfl))∘ab)))))∘((@aW _ _ _ _ _ _ _ _ _ (@b_tuple _ _ rfl) (by rfl) T.b_tuple ((@mh _ _ _ _ _ _ _ _ _ _ _ _ _ (ap dt) ["_law_drawn","_law_web_here","_law_some","_law_ties_here","_law_groups","_law_tie","_law_row","_law_number","_law_own","_law_alike"] [] ["_law_group"] rfl rfl rfl (@zR _ _ _ _ 4 _ rfl (by rfl) (by first | exact Or.inl rfl | exact Or.inr (Or.inl rfl) | exact Or.inr (Or.inr rfl)) (by decide) (by decide))
        (fun C s0 H0 fp=>(@aS _ _ _ 0 _ (show List.Nodup (["_law_group"]:List Str) by decide+kernel) rfl (Or.inl rfl) (by trivial))) (fun C s0 H0 fp=>(@fZ _ _))
        (fun C s0 H0 fp=>(@aW _ _ _ _ _ _ _ _ _ (@b_tuple _ _ rfl) (by rfl) T.b_tuple ((¬0)∘ab) (by decide) (by decide) (by rfl) (by rfl))) rfl (by decide+kernel) (by decide+kernel) (by decide+kernel) (by decide+kernel) (by decide+kernel) (by decide+kernel) (by decide+kernel) (by intro _;rfl))∘ab) (by decide) (by decide) (by rfl) (by rfl))∘ab))))))))))
noncomputable def Au:FS:=(bI (au aJ (au aJ (rA (ac 0) gE (dS (ac 1))) (aY (aa (ac 2) ag))) (rA (ac 0) (dS (au aJ (ac 1) (vC (.int 1)))) gE)))
noncomputable def eu:FM:=j_ 3 0 [] Au
theorem ya:aU ["_law_row","_law_at","_law_thing"] ["_law_row","_law_at","_law_thing"] (ap nM):=⟨rfl,rfl,rfl,by decide+kernel,rfl,by decide+kernel,by decide+kernel⟩
theorem BR(h:bX K mg "_law_put" nM f fd ["_law_row","_law_at","_law_thing"])(T:lg mg):a9 P w K mg base du 1 f fd ["_law_row","_law_at","_law_thing"] (dR K 3 eu):=by
  have nd:=ya.nd
  exact h.fn ya rfl rfl (fun cdv A outer s H E hr=>(@ao _ _ _ _ _ (@aE _ _ _ _ _ (@aN _ _ _ _ _ _ _ rfl (@aN _ _ _ _ _ _ _ rfl (@dI _ _ _ _ _ _ _ _ _ _ rfl (¬0) (@eV _ _) (@cJ _ _ _ _ (¬1))) (@aw _ _ _ _ _ _ ((¬2)∘ab))) (@dI _ _ _ _ _ _ _ _ _ _ rfl (¬0) (@cJ _ _ _ _ (@aN _ _ _ _ _ _ _ rfl (¬1) ae)) (@eV _ _))))))
noncomputable def gf:FI:=(j8 (ac 4))
noncomputable def cQ:FS:=(aA (iY (ur (aP (au (uK false) (ac 5) (ac 2))) (aP (au (bw true) (au bU (au bU (au bU (ac 0) (vC (.int 1))) (ac 5)) (vC (.int 2))) (au bU (au bU (au bU (ac 0) (vC (.int 1))) (au bU (ac 4) (vC (.int 0)))) (vC (.int 2))))))
    (bI (vC (.bool false)))
    d_)
    (gF (eR cI (ac 2) (aa (ac 5) ag))))
noncomputable def gg:FI:=(j8 (ac 1))
noncomputable def aL:FS:=(aA (iY (ur (iM (aP (mU (jb "tuple") (ac 4)))) (ur (aP (au rW (ac 4) (aY ag))) (iM (aP (dQ 2 dq (aa (ac 4) (aa (aF (g1 bZ) (aa (au bU (ac 0) (vC (.int 1))) ag)) ag)))))))
    (bI (vC (.bool false)))
    d_)
    (aA (eC ([5]++(([]++[])++[])) gf (ah 5) cQ)
    (aA (iY (aP (au AO (au bU (ac 4) (vC (.int 0))) (ac 3)))
    (bI (vC (.bool false)))
    d_)
    (aO 3 (au bU (ac 4) (vC (.int 0)))))))
noncomputable def fR:FS:=(aA (iY (iM (aP (mU (jb "tuple") (ac 1))))
    (bI (vC (.bool false)))
    d_)
    (aA (aO 2 (bS ag))
    (aA (aO 3 (mU p7 (vC (.int 1))))
    (aA (eC ([4]++(([]++[])++(([5]++(([]++[])++[]))++(([]++[])++[3])))) gg (ah 4) aL)
    (bI (au (bw false) (aF (g1 bZ) (aa (ac 2) ag)) (aF (g1 bZ) (aa (au bU (ac 0) (vC (.int 1))) ag))))))))
noncomputable def bV:FM:=j_ 2 4 (([]++[])++([2]++([3]++(([4]++(([]++[])++(([5]++(([]++[])++[]))++(([]++[])++[3]))))++[])))) fR
theorem jR:aU ["_law_web_here","_law_thing","_law_seen","_law_last","_law_group","_law_tie"] ["_law_web_here","_law_thing"] (ap eD):=⟨rfl,rfl,rfl,by decide+kernel,rfl,by decide+kernel,by decide+kernel⟩
theorem oR(h:bX K mg "_law_is_groups" eD f fd ["_law_web_here","_law_thing"])(T:lg mg){fLis_rising:Addr}{eLis_rising:FuncData}(hLis_rising:bX K mg "_law_is_rising" eE fLis_rising eLis_rising ["_law_thing","_law_most"])(GLis_rising:a9 P w K mg base du 1 fLis_rising eLis_rising ["_law_thing","_law_most"] (dR K 2 dq)):a9 P w K mg base du 2 f fd ["_law_web_here","_law_thing"] (dR K 2 bV):=by
  have nd:=jR.nd
  exact h.fn jR rfl rfl (fun cdv A outer s H E hr=>(@af _ _ _ _ _ _ _ _ (@cy _ _ _ _ _ _ _ _ _ _ _ (@eK _ _ _ _ _ (@dZ _ _ _ _ (@jI _ _ _ _ _ _ _ _ "tuple" rfl (by decide) rfl T.b_isinstance rfl T.b_tuple PyProof.Rows.boot_tuple (by decide) (by decide) (¬1) (by rfl) (by rfl)) (by intro _;rfl)))
      (@ao _ _ _ _ _ (@aE _ _ _ _ _ (@cx _ _ _ _ _)))
      (@bc _ _))
      (@af _ _ _ _ _ _ _ _ (@ay _ _ _ _ _ 2 _ _ nd rfl (Or.inl rfl) (@aT _ _ _ _ _ ab) (by rfl) (by trivial))
      (@af _ _ _ _ _ _ _ _ (@ay _ _ _ _ _ 3 _ _ nd rfl (Or.inl rfl) (@qI _ _ _ _ _ ae) (by rfl) (by trivial))
      (@af _ _ _ _ _ _ _ _ (@fL _ _ _ _ _ _ _ _ _ _ _ PassesOwn.never rfl (@g_ _ _ _ _ _ rfl (¬1)) (@aS _ _ _ 4 _ nd rfl (Or.inl rfl) (by trivial))
      (@af _ _ _ _ _ _ _ _ (@cy _ _ _ _ _ _ _ _ _ _ _ (@o_ _ _ _ _ (@jK _ _ _ _ _ _ _ _ (@eK _ _ _ _ _ (@dZ _ _ _ _ (@jI _ _ _ _ _ _ _ _ "tuple" rfl (by decide) rfl T.b_isinstance rfl T.b_tuple PyProof.Rows.boot_tuple (by decide) (by decide) (¬4) (by rfl) (by rfl)) (by intro _;rfl))) (@jK _ _ _ _ _ _ _ _ (@bu _ _ _ _ _ _ _ _ _ (@Ay _ _ _ rfl hr) (¬4) (@aw _ _ _ _ _ _ ab) (a8 _)) (@jg _ _ _ _ _ (@eK _ _ _ _ _ (@dZ _ _ _ _ (@bh _ _ _ _ _ _ _ _ _ _ _ _ _ _ _ hLis_rising GLis_rising (hr.mono (by decide)) ((¬4)∘((@aW _ _ _ _ _ _ _ _ _ (@b_len _ _ rfl) (by rfl) T.b_len ((@bf _ _ _ _ _ _ _ rfl (¬0) ae (fun _ _=>rfl))∘ab) (by decide) (by decide) (by rfl) (by rfl))∘ab)) (by rfl) (by decide) (by rfl) (by rfl)) (by intro _;rfl)))))))
      (@ao _ _ _ _ _ (@aE _ _ _ _ _ (@cx _ _ _ _ _)))
      (@bc _ _))
      (@af _ _ _ _ _ _ _ _ (@fL _ _ _ _ _ _ _ _ _ _ _ PassesOwn.never rfl (@g_ _ _ _ _ _ rfl (¬4)) (@aS _ _ _ 5 _ nd rfl (Or.inl rfl) (by trivial))
      (@af _ _ _ _ _ _ _ _ (@cy _ _ _ _ _ _ _ _ _ _ _ (@o_ _ _ _ _ (@jK _ _ _ _ _ _ _ _ (@bu _ _ _ _ _ _ _ _ _ (@FC _ _ _ rfl hr) (¬5) (¬2) (by with_unfolding_all rfl)) (@jg _ _ _ _ _ (@bu _ _ _ _ _ _ _ _ _ (@vI _ _ _ rfl hr) (@bf _ _ _ _ _ _ _ rfl (@bf _ _ _ _ _ _ _ rfl (@bf _ _ _ _ _ _ _ rfl (¬0) ae (fun _ _=>rfl)) (¬5) (fun _ _=>rfl)) ae (fun _ _=>rfl)) (@bf _ _ _ _ _ _ _ rfl (@bf _ _ _ _ _ _ _ rfl (@bf _ _ _ _ _ _ _ rfl (¬0) ae (fun _ _=>rfl)) (@bf _ _ _ _ _ _ _ rfl (¬4) ae (fun _ _=>rfl)) (fun _ _=>rfl)) ae (fun _ _=>rfl)) (a8 _)))))
      (@ao _ _ _ _ _ (@aE _ _ _ _ _ (@cx _ _ _ _ _)))
      (@bc _ _))
      (@ao _ _ _ _ _ (@eW _ _ _ _ _ (@fK _ _ _ _ _ _ _ _ _ rfl (¬2) ((¬5)∘ab) (by rfl) (by rfl) (by rfl) (by rfl) (by rfl)) (by rfl)))) (by intro _;rfl))
      (@af _ _ _ _ _ _ _ _ (@cy _ _ _ _ _ _ _ _ _ _ _ (@bu _ _ _ _ _ _ _ _ _ (@yF _ _) (@bf _ _ _ _ _ _ _ rfl (¬4) ae (fun _ _=>rfl)) (¬3) (a8 _))
      (@ao _ _ _ _ _ (@aE _ _ _ _ _ (@cx _ _ _ _ _)))
      (@bc _ _))
      (@ao _ _ _ _ _ (@ay _ _ _ _ _ 3 _ _ nd rfl (Or.inl rfl) (@bf _ _ _ _ _ _ _ rfl (¬4) ae (fun _ _=>rfl)) (by rfl) (by trivial)))))) (by intro _;rfl))
      (@ao _ _ _ _ _ (@aE _ _ _ _ _ (@kU _ _ _ _ _ _ _ _ _ (@jn _ _ _ rfl hr) (@aW _ _ _ _ _ _ _ _ _ (@b_len _ _ rfl) (by rfl) T.b_len ((¬2)∘ab) (by decide) (by decide) (by rfl) (by rfl)) (@aW _ _ _ _ _ _ _ _ _ (@b_len _ _ rfl) (by rfl) T.b_len ((@bf _ _ _ _ _ _ _ rfl (¬0) ae (fun _ _=>rfl))∘ab) (by decide) (by decide) (by rfl) (by rfl)) (a8 _)))))))))
noncomputable def jk:FS:=(aA (aO 3 (au aM (au bA (ac 1) (vC (.int 16))) (aF (g1 bZ) (aa (ac 0) ag))))
    (aA (aO 4 (bS (aa (au aJ (rA (ac 0) gE (dS (ac 3))) (rA (ac 0) (dS (au aJ (ac 3) (vC (.int 1)))) gE)) (aa (au aJ (ac 0) (rA (ac 0) (dS (ac 3)) (dS (au aJ (ac 3) (vC (.int 1)))))) (aa (C3 (ac 0) (mU p7 (vC (.int 1)))) (aa (aF (g1 nA) (aa (ac 0) ag)) (aa (aY ag) (aa (au aJ (ac 0) (aY (aa (ac 2) ag))) ag))))))))
    (aA (aO 4 (au aJ (ac 4) (bS (aa (dQ 3 eu (aa (ac 0) (aa (ac 3) (aa (vC (.bool true)) ag)))) (aa (dQ 3 eu (aa (ac 0) (aa (ac 3) (aa (vC .none) ag)))) (aa (dQ 3 eu (aa (ac 0) (aa (ac 3) (aa (mU p7 (vC (.int 1))) ag)))) (aa (au aJ (ac 0) (aY (aa (au iB (ac 2) (vC (.int 1))) ag))) ag)))))))
    (aA (aO 4 (au aJ (ac 4) (bS (aa (dQ 3 eu (aa (ac 0) (aa (ac 3) (aa (vC (.bool false)) ag)))) (aa (dQ 3 eu (aa (ac 0) (aa (ac 3) (aa (au (bw false) (au bU (ac 0) (ac 3)) (vC (.int 1))) ag)))) ag)))))
    (aA (aO 4 (au aJ (ac 4) (bS (aa (dQ 3 eu (aa (ac 0) (aa (ac 3) (aa (aY (aa (au bU (ac 0) (ac 3)) ag)) ag)))) (aa (dQ 3 eu (aa (ac 0) (aa (ac 3) (aa (au aM (au bA (ac 1) (vC (.int 64))) (ac 2)) ag)))) (aa (au bU (ac 0) (ac 3)) ag))))))
    (aA (aO 4 (au aJ (ac 4) (bS (aa (dQ 3 eu (aa (ac 0) (aa (ac 3) (aa (bS (aa (au bU (ac 0) (ac 3)) ag)) ag)))) (aa (dQ 3 eu (aa (ac 0) (aa (ac 3) (aa (j3 []) ag)))) (aa (au aJ (ac 0) (aY (aa (iL (D' 0 (kb 3)) (kb 3)) ag))) (aa (au aJ (ac 0) (aY (aa (bS ag) ag))) ag)))))))
    (bI (au bU (ac 4) (au aM (ac 1) (aF (g1 bZ) (aa (ac 4) ag)))))))))))
noncomputable def dG:FM:=j_ 3 2 ([3]++([4]++([4]++([4]++([4]++([4]++[])))))) jk
theorem i8:aU ["_law_group","_law_number","_law_many","_law_at","_law_some"] ["_law_group","_law_number","_law_many"] (ap dM):=⟨rfl,rfl,rfl,by decide+kernel,rfl,by decide+kernel,by decide+kernel⟩
theorem mR(h:bX K mg "_law_bent_group" dM f fd ["_law_group","_law_number","_law_many"])(T:lg mg){fLput:Addr}{eLput:FuncData}(hLput:bX K mg "_law_put" nM fLput eLput ["_law_row","_law_at","_law_thing"])(GLput:a9 P w K mg base du 1 fLput eLput ["_law_row","_law_at","_law_thing"] (dR K 3 eu)):a9 P w K mg base du 2 f fd ["_law_group","_law_number","_law_many"] (dR K 3 dG):=by
  have nd:=i8.nd
  exact h.fn i8 rfl rfl (fun cdv A outer s H E hr=>(@af _ _ _ _ _ _ _ _ (@ay _ _ _ _ _ 3 _ _ nd rfl (Or.inl rfl) (@aQ _ _ _ _ _ _ _ (@cN _ _ _ _ _ _ _ (¬1) ae) (@aW _ _ _ _ _ _ _ _ _ (@b_len _ _ rfl) (by rfl) T.b_len ((¬0)∘ab) (by decide) (by decide) (by rfl) (by rfl))) (by rfl) (by trivial))
      (@af _ _ _ _ _ _ _ _ (@ay _ _ _ _ _ 4 _ _ nd rfl (Or.inl rfl) (@aT _ _ _ _ _ ((@aN _ _ _ _ _ _ _ rfl (@dI _ _ _ _ _ _ _ _ _ _ rfl (¬0) (@eV _ _) (@cJ _ _ _ _ (¬3))) (@dI _ _ _ _ _ _ _ _ _ _ rfl (¬0) (@cJ _ _ _ _ (@aN _ _ _ _ _ _ _ rfl (¬3) ae)) (@eV _ _)))∘((@aN _ _ _ _ _ _ _ rfl (¬0) (@dI _ _ _ _ _ _ _ _ _ _ rfl (¬0) (@cJ _ _ _ _ (¬3)) (@cJ _ _ _ _ (@aN _ _ _ _ _ _ _ rfl (¬3) ae))))∘((@Es _ _ _ _ _ _ _ _ rfl (¬0) (@qI _ _ _ _ _ ae))∘((@aW _ _ _ _ _ _ _ _ _ (@b_list _ _ rfl) (by rfl) T.b_list ((¬0)∘ab) (by decide) (by decide) (by rfl) (by rfl))∘((@aw _ _ _ _ _ _ ab)∘((@aN _ _ _ _ _ _ _ rfl (¬0) (@aw _ _ _ _ _ _ ((¬2)∘ab)))∘ab))))))) (by rfl) (by trivial))
      (@af _ _ _ _ _ _ _ _ (@ay _ _ _ _ _ 4 _ _ nd rfl (Or.inl rfl) (@aN _ _ _ _ _ _ _ rfl (¬4) (@aT _ _ _ _ _ ((@bh _ _ _ _ _ _ _ _ _ _ _ _ _ _ _ hLput GLput (hr.mono (by decide)) ((¬0)∘((¬3)∘((@cx _ _ _ _ _)∘ab))) (by rfl) (by decide) (by rfl) (by rfl))∘((@bh _ _ _ _ _ _ _ _ _ _ _ _ _ _ _ hLput GLput (hr.mono (by decide)) ((¬0)∘((¬3)∘((@oZ _ _ _ _)∘ab))) (by rfl) (by decide) (by rfl) (by rfl))∘((@bh _ _ _ _ _ _ _ _ _ _ _ _ _ _ _ hLput GLput (hr.mono (by decide)) ((¬0)∘((¬3)∘((@qI _ _ _ _ _ ae)∘ab))) (by rfl) (by decide) (by rfl) (by rfl))∘((@aN _ _ _ _ _ _ _ rfl (¬0) (@aw _ _ _ _ _ _ ((@qJ _ _ _ _ _ _ _ (¬2) ae)∘ab)))∘ab)))))) (by rfl) (by trivial))
      (@af _ _ _ _ _ _ _ _ (@ay _ _ _ _ _ 4 _ _ nd rfl (Or.inl rfl) (@aN _ _ _ _ _ _ _ rfl (¬4) (@aT _ _ _ _ _ ((@bh _ _ _ _ _ _ _ _ _ _ _ _ _ _ _ hLput GLput (hr.mono (by decide)) ((¬0)∘((¬3)∘((@cx _ _ _ _ _)∘ab))) (by rfl) (by decide) (by rfl) (by rfl))∘((@bh _ _ _ _ _ _ _ _ _ _ _ _ _ _ _ hLput GLput (hr.mono (by decide)) ((¬0)∘((¬3)∘((@kU _ _ _ _ _ _ _ _ _ (@jn _ _ _ rfl hr) (@bf _ _ _ _ _ _ _ rfl (¬0) (¬3) (fun _ _=>rfl)) ae (a8 _))∘ab))) (by rfl) (by decide) (by rfl) (by rfl))∘ab)))) (by rfl) (by trivial))
      (@af _ _ _ _ _ _ _ _ (@ay _ _ _ _ _ 4 _ _ nd rfl (Or.inl rfl) (@aN _ _ _ _ _ _ _ rfl (¬4) (@aT _ _ _ _ _ ((@bh _ _ _ _ _ _ _ _ _ _ _ _ _ _ _ hLput GLput (hr.mono (by decide)) ((¬0)∘((¬3)∘((@aw _ _ _ _ _ _ ((@bf _ _ _ _ _ _ _ rfl (¬0) (¬3) (fun _ _=>rfl))∘ab))∘ab))) (by rfl) (by decide) (by rfl) (by rfl))∘((@bh _ _ _ _ _ _ _ _ _ _ _ _ _ _ _ hLput GLput (hr.mono (by decide)) ((¬0)∘((¬3)∘((@aQ _ _ _ _ _ _ _ (@cN _ _ _ _ _ _ _ (¬1) ae) (¬2))∘ab))) (by rfl) (by decide) (by rfl) (by rfl))∘((@bf _ _ _ _ _ _ _ rfl (¬0) (¬3) (fun _ _=>rfl))∘ab))))) (by rfl) (by trivial))
      (@af _ _ _ _ _ _ _ _ (@ay _ _ _ _ _ 4 _ _ nd rfl (Or.inl rfl) (@aN _ _ _ _ _ _ _ rfl (¬4) (@aT _ _ _ _ _ ((@bh _ _ _ _ _ _ _ _ _ _ _ _ _ _ _ hLput GLput (hr.mono (by decide)) ((¬0)∘((¬3)∘((@aT _ _ _ _ _ ((@bf _ _ _ _ _ _ _ rfl (¬0) (¬3) (fun _ _=>rfl))∘ab))∘ab))) (by rfl) (by decide) (by rfl) (by rfl))∘((@bh _ _ _ _ _ _ _ _ _ _ _ _ _ _ _ hLput GLput (hr.mono (by decide)) ((¬0)∘((¬3)∘((@mn _ _ _)∘ab))) (by rfl) (by decide) (by rfl) (by rfl))∘((@aN _ _ _ _ _ _ _ rfl (¬0) (@aw _ _ _ _ _ _ ((@qK _ _ _ _ _ _ _ (@Ex _ _ _ _ _ _ _ 0 rfl (by rfl) (by first | exact Or.inl rfl | exact Or.inr (Or.inl rfl) | exact Or.inr (Or.inr rfl)) (by decide) (by decide) (@o8 _ _ _ _ 3 (by rfl) (by first | exact Or.inl rfl | exact Or.inr (Or.inl rfl) | exact Or.inr (Or.inr rfl)) (by decide) (by decide)) (fun _ _=>rfl)) (@o8 _ _ _ _ 3 (by rfl) (by first | exact Or.inl rfl | exact Or.inr (Or.inl rfl) | exact Or.inr (Or.inr rfl)) (by decide) (by decide)))∘ab)))∘((@aN _ _ _ _ _ _ _ rfl (¬0) (@aw _ _ _ _ _ _ ((@aT _ _ _ _ _ ab)∘ab)))∘ab)))))) (by rfl) (by trivial))
      (@ao _ _ _ _ _ (@aE _ _ _ _ _ (@bf _ _ _ _ _ _ _ rfl (¬4) (@aQ _ _ _ _ _ _ _ (¬1) (@aW _ _ _ _ _ _ _ _ _ (@b_len _ _ rfl) (by rfl) T.b_len ((¬4)∘ab) (by decide) (by decide) (by rfl) (by rfl))) (fun _ _=>rfl)))))))))))
noncomputable def cf:FI:=(kQ (aa (ac 0) ag))
noncomputable def bo:FT:=(aP (au (uK true) (ac 2) (aY (aa (ac 0) (aa (ac 1) ag)))))
noncomputable def b_:FE:=(ac 3)
noncomputable def f_:FS:=(aA (iY (aP (au rW (ac 0) (aY ag)))
    (bI (au bU (bS (aa (aY ag) (aa (aY (aa (aY ag) ag)) (aa (bS ag) (aa (aY (aa (aY (aa (vC (.int 0)) ag)) ag)) (aa (vC .none) (aa (aY (aa (vC (.int 0)) ag)) ag))))))) (au aM (ac 1) (vC (.int 6)))))
    d_)
    (aA (aO 3 (au aM (au bA (ac 1) (vC (.int 64))) (aF (g1 bZ) (aa (ac 0) ag))))
    (aA (aO 4 (au aM (au bA (ac 1) (vC (.int 1024))) (aF (g1 bZ) (aa (ac 0) ag))))
    (aA (aO 5 (dQ 3 dG (aa (au bU (ac 0) (ac 3)) (aa (au bA (ac 1) (vC (.int 16))) (aa (ac 2) ag)))))
    (aA (aO 6 (aF (g1 cF) (aa (aF (g1 bG) (aa (au aJ (au bU (ac 0) (ac 3)) (au bU (ac 0) (ac 4))) ag)) ag)))
    (aA (aO 7 (au aJ (rA (ac 0) gE (dS (ac 3))) (rA (ac 0) (dS (au aJ (ac 3) (vC (.int 1)))) gE)))
    (aA (aO 8 (au aJ (au jc (bS (aa (dQ 3 eu (aa (ac 0) (aa (ac 3) (aa (ac 5) ag)))) ag)) (vC (.int 6))) (bS (aa (ac 7) (aa (au aJ (ac 0) (rA (ac 0) (dS (ac 3)) (dS (au aJ (ac 3) (vC (.int 1)))))) (aa (C3 (ac 0) (mU p7 (vC (.int 1)))) (aa (aF (g1 nA) (aa (ac 0) ag)) ag)))))))
    (aA (aO 9 (au aJ (cm [(3,"_law_at"),(4,"_law_other")] 2 cf (cW (aH (ah 2) (aH (ah 3) cG))) bo b_) (bS (aa (ac 6) ag))))
    (aA (aO 8 (au aJ (ac 8) (bS (aa (aF (g1 cF) (aa (aF (g1 bG) (aa (ac 9) ag)) ag)) (aa (au aJ (au aJ (rA (ac 0) gE (dS (ac 3))) (aY (aa (aY ag) ag))) (rA (ac 0) (dS (ac 3)) gE)) (aa (au aJ (ac 7) (aY (aa (au bU (ac 0) (ac 3)) ag))) ag))))))
    (aA (aO 8 (au aJ (ac 8) (bS (aa (dQ 3 eu (aa (ac 0) (aa (ac 3) (aa (bS (aa (au bU (ac 0) (ac 3)) ag)) ag)))) (aa (dQ 3 eu (aa (ac 0) (aa (ac 3) (aa (iL (nC 0) (kb 3)) ag)))) (aa (au aJ (ac 0) (aY (aa (j3 []) ag))) (aa (au aJ (ac 0) (aY (aa (bS ag) ag))) ag)))))))
    (bI (au bU (ac 8) (au aM (ac 1) (aF (g1 bZ) (aa (ac 8) ag)))))))))))))))
noncomputable def cn:FM:=j_ 3 7 (([]++[])++([3]++([4]++([5]++([6]++([7]++([8]++([9]++([8]++([8]++[])))))))))) f_
theorem iJ:aU ["_law_groups","_law_number","_law_many","_law_at","_law_other","_law_one","_law_both","_law_others","_law_some","_law_merged"] ["_law_groups","_law_number","_law_many"] (ap cq):=⟨rfl,rfl,rfl,by decide+kernel,rfl,by decide+kernel,by decide+kernel⟩
theorem ma(h:bX K mg "_law_bent_groups" cq f fd ["_law_groups","_law_number","_law_many"])(T:lg mg){fLbent_group:Addr}{eLbent_group:FuncData}(hLbent_group:bX K mg "_law_bent_group" dM fLbent_group eLbent_group ["_law_group","_law_number","_law_many"])(GLbent_group:a9 P w K mg base du 2 fLbent_group eLbent_group ["_law_group","_law_number","_law_many"] (dR K 3 dG)){fLput:Addr}{eLput:FuncData}(hLput:bX K mg "_law_put" nM fLput eLput ["_law_row","_law_at","_law_thing"])(GLput:a9 P w K mg base du 1 fLput eLput ["_law_row","_law_at","_law_thing"] (dR K 3 eu)):a9 P w K mg base du 3 f fd ["_law_groups","_law_number","_law_many"] (dR K 3 cn):=by
  have nd:=iJ.nd
  exact h.fn iJ rfl rfl (fun cdv A outer s H E hr=>(@af _ _ _ _ _ _ _ _ (@cy _ _ _ _ _ _ _ _ _ _ _ (@bu _ _ _ _ _ _ _ _ _ (@Ay _ _ _ rfl hr) (¬0) (@aw _ _ _ _ _ _ ab) (a8 _))
      (@ao _ _ _ _ _ (@aE _ _ _ _ _ (@bf _ _ _ _ _ _ _ rfl (@aT _ _ _ _ _ ((@aw _ _ _ _ _ _ ab)∘((@aw _ _ _ _ _ _ ((@aw _ _ _ _ _ _ ab)∘ab))∘((@aT _ _ _ _ _ ab)∘((@aw _ _ _ _ _ _ ((@aw _ _ _ _ _ _ (ae∘ab))∘ab))∘((@oZ _ _ _ _)∘((@aw _ _ _ _ _ _ (ae∘ab))∘ab))))))) (@aQ _ _ _ _ _ _ _ (¬1) ae) (fun _ _=>rfl))))
      (@bc _ _))
      (@af _ _ _ _ _ _ _ _ (@ay _ _ _ _ _ 3 _ _ nd rfl (Or.inr rfl) (@aQ _ _ _ _ _ _ _ (@cN _ _ _ _ _ _ _ (¬1) ae) (@aW _ _ _ _ _ _ _ _ _ (@b_len _ _ rfl) (by rfl) T.b_len ((¬0)∘ab) (by decide) (by decide) (by rfl) (by rfl))) (by rfl) (by trivial))
      (@af _ _ _ _ _ _ _ _ (@ay _ _ _ _ _ 4 _ _ nd rfl (Or.inr rfl) (@aQ _ _ _ _ _ _ _ (@cN _ _ _ _ _ _ _ (¬1) ae) (@aW _ _ _ _ _ _ _ _ _ (@b_len _ _ rfl) (by rfl) T.b_len ((¬0)∘ab) (by decide) (by decide) (by rfl) (by rfl))) (by rfl) (by trivial))
      (@af _ _ _ _ _ _ _ _ (@ay _ _ _ _ _ 5 _ _ nd rfl (Or.inl rfl) (@bh _ _ _ _ _ _ _ _ _ _ _ _ _ _ _ hLbent_group GLbent_group (hr.mono (by decide)) ((@bf _ _ _ _ _ _ _ rfl (¬0) (¬3) (fun _ _=>rfl))∘((@cN _ _ _ _ _ _ _ (¬1) ae)∘((¬2)∘ab))) (by rfl) (by decide) (by rfl) (by rfl)) (by rfl) (by trivial))
      (@af _ _ _ _ _ _ _ _ (@ay _ _ _ _ _ 6 _ _ nd rfl (Or.inl rfl) (@aW _ _ _ _ _ _ _ _ _ (@b_tuple _ _ rfl) (by rfl) T.b_tuple ((@aW _ _ _ _ _ _ _ _ _ (@lm _ _ rfl) (by rfl) T.b_sorted ((@aN _ _ _ _ _ _ _ rfl (@bf _ _ _ _ _ _ _ rfl (¬0) (¬3) (fun _ _=>rfl)) (@bf _ _ _ _ _ _ _ rfl (¬0) (¬4) (fun _ _=>rfl)))∘ab) (by decide) (by decide) (by rfl) (by rfl))∘ab) (by decide) (by decide) (by rfl) (by rfl)) (by rfl) (by trivial))
      (@af _ _ _ _ _ _ _ _ (@ay _ _ _ _ _ 7 _ _ nd rfl (Or.inl rfl) (@aN _ _ _ _ _ _ _ rfl (@dI _ _ _ _ _ _ _ _ _ _ rfl (¬0) (@eV _ _) (@cJ _ _ _ _ (¬3))) (@dI _ _ _ _ _ _ _ _ _ _ rfl (¬0) (@cJ _ _ _ _ (@aN _ _ _ _ _ _ _ rfl (¬3) ae)) (@eV _ _))) (by rfl) (by trivial))
      (@af _ _ _ _ _ _ _ _ (@ay _ _ _ _ _ 8 _ _ nd rfl (Or.inl rfl) (@aN _ _ _ _ _ _ _ rfl (@ml _ _ _ _ _ _ _ rfl (@aT _ _ _ _ _ ((@bh _ _ _ _ _ _ _ _ _ _ _ _ _ _ _ hLput GLput (hr.mono (by decide)) ((¬0)∘((¬3)∘((¬5)∘ab))) (by rfl) (by decide) (by rfl) (by rfl))∘ab)) ae) (@aT _ _ _ _ _ ((¬7)∘((@aN _ _ _ _ _ _ _ rfl (¬0) (@dI _ _ _ _ _ _ _ _ _ _ rfl (¬0) (@cJ _ _ _ _ (¬3)) (@cJ _ _ _ _ (@aN _ _ _ _ _ _ _ rfl (¬3) ae))))∘((@Es _ _ _ _ _ _ _ _ rfl (¬0) (@qI _ _ _ _ _ ae))∘((@aW _ _ _ _ _ _ _ _ _ (@b_list _ _ rfl) (by rfl) T.b_list ((¬0)∘ab) (by decide) (by decide) (by rfl) (by rfl))∘ab)))))) (by rfl) (by trivial))
      (@af _ _ _ _ _ _ _ _ (@ay _ _ _ _ _ 9 _ _ nd rfl (Or.inl rfl) (@aN _ _ _ _ _ _ _ rfl (@mh _ _ _ _ _ _ _ _ _ _ _ _ _ (ap cq) ["_law_groups","_law_number","_law_many","_law_at","_law_other","_law_one","_law_both","_law_others","_law_some","_law_merged"] [(3,"_law_at"),(4,"_law_other")] ["_law_k","_law_group"] rfl rfl rfl (@o6 _ _ _ _ _ _ _ _ _ rfl rfl T.b_enumerate ((¬0)∘ab) (by rfl))
        (fun C s0 H0 fp=>(@mq _ _ _ _ _ _ _ _ rfl rfl (@cY _ _ _ _ _ _ _ _ (@aS _ _ _ 2 _ (show List.Nodup (["_law_at","_law_other","_law_k","_law_group"]:List Str) by decide+kernel) rfl (Or.inl rfl) (by trivial)) (@cY _ _ _ _ _ _ _ _ (@aS _ _ _ 3 _ (show List.Nodup (["_law_at","_law_other","_law_k","_law_group"]:List Str) by decide+kernel) rfl (Or.inl rfl) (by trivial)) (@jJ _ _) (by rfl)) (by rfl)) (ek (ek lV)) (by rfl) (by rfl))) (fun C s0 H0 fp=>(@tZ _ _ _ _ (@bu _ _ _ _ _ _ _ _ _ (@yG _ _ _ rfl hr) (¬2) (@aw _ _ _ _ _ _ ((¬0)∘((¬1)∘ab))) (by with_unfolding_all rfl))))
        (fun C s0 H0 fp=>(¬3)) rfl (by decide+kernel) (by decide+kernel) (by decide+kernel) (by decide+kernel) (by decide+kernel) (by decide+kernel) (by decide+kernel) (by intro _;rfl)) (@aT _ _ _ _ _ ((¬6)∘ab))) (by rfl) (by trivial))
      (@af _ _ _ _ _ _ _ _ (@ay _ _ _ _ _ 8 _ _ nd rfl (Or.inl rfl) (@aN _ _ _ _ _ _ _ rfl (¬8) (@aT _ _ _ _ _ ((@aW _ _ _ _ _ _ _ _ _ (@b_tuple _ _ rfl) (by rfl) T.b_tuple ((@aW _ _ _ _ _ _ _ _ _ (@lm _ _ rfl) (by rfl) T.b_sorted ((¬9)∘ab) (by decide) (by decide) (by rfl) (by rfl))∘ab) (by decide) (by decide) (by rfl) (by rfl))∘((@aN _ _ _ _ _ _ _ rfl (@aN _ _ _ _ _ _ _ rfl (@dI _ _ _ _ _ _ _ _ _ _ rfl (¬0) (@eV _ _) (@cJ _ _ _ _ (¬3))) (@aw _ _ _ _ _ _ ((@aw _ _ _ _ _ _ ab)∘ab))) (@dI _ _ _ _ _ _ _ _ _ _ rfl (¬0) (@cJ _ _ _ _ (¬3)) (@eV _ _)))∘((@aN _ _ _ _ _ _ _ rfl (¬7) (@aw _ _ _ _ _ _ ((@bf _ _ _ _ _ _ _ rfl (¬0) (¬3) (fun _ _=>rfl))∘ab)))∘ab))))) (by rfl) (by trivial))
      (@af _ _ _ _ _ _ _ _ (@ay _ _ _ _ _ 8 _ _ nd rfl (Or.inl rfl) (@aN _ _ _ _ _ _ _ rfl (¬8) (@aT _ _ _ _ _ ((@bh _ _ _ _ _ _ _ _ _ _ _ _ _ _ _ hLput GLput (hr.mono (by decide)) ((¬0)∘((¬3)∘((@aT _ _ _ _ _ ((@bf _ _ _ _ _ _ _ rfl (¬0) (¬3) (fun _ _=>rfl))∘ab))∘ab))) (by rfl) (by decide) (by rfl) (by rfl))∘((@bh _ _ _ _ _ _ _ _ _ _ _ _ _ _ _ hLput GLput (hr.mono (by decide)) ((¬0)∘((¬3)∘((@qK _ _ _ _ _ _ _ (@Cs _ _ _ _ _) (@o8 _ _ _ _ 3 (by rfl) (by first | exact Or.inl rfl | exact Or.inr (Or.inl rfl) | exact Or.inr (Or.inr rfl)) (by decide) (by decide)))∘ab))) (by rfl) (by decide) (by rfl) (by rfl))∘((@aN _ _ _ _ _ _ _ rfl (¬0) (@aw _ _ _ _ _ _ ((@mn _ _ _)∘ab)))∘((@aN _ _ _ _ _ _ _ rfl (¬0) (@aw _ _ _ _ _ _ ((@aT _ _ _ _ _ ab)∘ab)))∘ab)))))) (by rfl) (by trivial))
      (@ao _ _ _ _ _ (@aE _ _ _ _ _ (@bf _ _ _ _ _ _ _ rfl (¬8) (@aQ _ _ _ _ _ _ _ (¬1) (@aW _ _ _ _ _ _ _ _ _ (@b_len _ _ rfl) (by rfl) T.b_len ((¬8)∘ab) (by decide) (by decide) (by rfl) (by rfl))) (fun _ _=>rfl)))))))))))))))
noncomputable def Gx:FI:=(dc (aa (aF (g1 bZ) (aa (au bU (ac 3) (vC (.int 1))) ag)) ag))
noncomputable def DF:FE:=(aY (aa (ac 0) ag))
noncomputable def FP:FI:=(dc (aa (vC (.int 12)) ag))
noncomputable def Bk:FS:=(aA (aO 7 (dQ 1 bg (aa (ac 1) ag)))
    (aA (aO 8 (dQ 3 cn (aa (ac 4) (aa (au bA (ac 7) (vC (.int 4))) (aa (aF (g2 p4) (aa (vC (.int 1)) (aa (aF (g1 bZ) (aa (au bU (ac 3) (vC (.int 1))) ag)) ag))) ag)))))
    (aA (iY (aP (au (bw false) (au aM (ac 7) (vC (.int 16))) (vC (.int 3))))
    (aO 8 (dQ 1 qm (aa (au bA (ac 7) (vC (.int 16))) ag)))
    d_)
    (aA (iY (aP (au (bw false) (au aM (ac 7) (vC (.int 16))) (vC (.int 5))))
    (aO 8 (aF (g1 cF) (aa (cm [] 1 Gx (ah 0) bL DF) ag)))
    d_)
    (aA (aO 9 (dQ 2 bV (aa (ac 3) (aa (ac 8) ag))))
    (aA (aO 10 (aF (g1 jv) (aa (ac 8) ag)))
    (iY (ur (iM (aP (dQ 2 j9 (aa (dQ 2 bH (aa (ac 3) (aa (ac 8) ag))) (aa (ac 9) ag))))) (aP (au (bw true) (aF (g1 jv) (aa (ac 8) ag)) (ac 10))))
    (bI (vC (.bool false)))
    d_)))))))
noncomputable def Gy:FI:=(dc (aa (vC (.int 4)) ag))
noncomputable def Ff:FS:=(aA (vc (dQ 2 eZ (aa (ac 1) (aa (dQ 3 qo (aa (ac 1) (aa (vC (.int 12)) (aa (vC (.int 16)) ag)))) ag))) (cW (aH (ah 3) (aH (ah 4) cG))))
    (aA (aO 5 (aY (aa (ac 3) (aa (ac 4) ag))))
    (aA (eC ([6]++([7]++([8]++(([8]++[])++(([8]++[])++([9]++([10]++([]++[])))))))) FP (ah 6) Bk)
    (iY (ur (aP (au oF (dQ 2 bH (aa (ac 3) (aa (ac 4) ag))) (vC (.bool true)))) (aP (au (bw true) (aY (aa (ac 3) (aa (ac 4) ag))) (ac 5))))
    (bI (vC (.bool false)))
    d_))))
noncomputable def Aw:FS:=(aA (aO 1 (dQ 1 jD (aa (ac 0) ag)))
    (aA (eC ([2]++(([3]++([4]++[]))++([5]++(([6]++([7]++([8]++(([8]++[])++(([8]++[])++([9]++([10]++([]++[]))))))))++([]++[]))))) Gy (ah 2) Ff)
    (bI (vC (.bool true)))))
noncomputable def l7:FM:=j_ 1 10 ([1]++(([2]++(([3]++([4]++[]))++([5]++(([6]++([7]++([8]++(([8]++[])++(([8]++[])++([9]++([10]++([]++[]))))))))++([]++[])))))++[])) Aw
theorem yd:aU ["_law_script","_law_drawn","_law_turn","_law_web_here","_law_groups","_law_kept","_law_again","_law_number","_law_thing","_law_due","_law_before"] ["_law_script"] (ap kW):=⟨rfl,rfl,rfl,by decide+kernel,rfl,by decide+kernel,by decide+kernel⟩
theorem BU(h:bX K mg "law" kW f fd ["_law_script"])(T:lg mg){fLdraws:Addr}{eLdraws:FuncData}(hLdraws:bX K mg "_law_draws" jO fLdraws eLdraws ["_law_script"])(GLdraws:a9 P w K mg base du 2 fLdraws eLdraws ["_law_script"] (dR K 1 jD)){fLgrouped:Addr}{eLgrouped:FuncData}(hLgrouped:bX K mg "_law_grouped" dt fLgrouped eLgrouped ["_law_drawn","_law_web_here"])(GLgrouped:a9 P w K mg base du 4 fLgrouped eLgrouped ["_law_drawn","_law_web_here"] (dR K 2 eZ)){fLweb:Addr}{eLweb:FuncData}(hLweb:bX K mg "_law_web" qU fLweb eLweb ["_law_drawn","_law_most","_law_ties_here"])(GLweb:a9 P w K mg base du 5 fLweb eLweb ["_law_drawn","_law_most","_law_ties_here"] (dR K 3 qo)){fLnext:Addr}{eLnext:FuncData}(hLnext:bX K mg "_law_next" iI fLnext eLnext ["_law_drawn"])(GLnext:a9 P w K mg base du 1 fLnext eLnext ["_law_drawn"] (dR K 1 bg)){fLbent_groups:Addr}{eLbent_groups:FuncData}(hLbent_groups:bX K mg "_law_bent_groups" cq fLbent_groups eLbent_groups ["_law_groups","_law_number","_law_many"])(GLbent_groups:a9 P w K mg base du 3 fLbent_groups eLbent_groups ["_law_groups","_law_number","_law_many"] (dR K 3 cn)){fLis_groups:Addr}{eLis_groups:FuncData}(hLis_groups:bX K mg "_law_is_groups" eD fLis_groups eLis_groups ["_law_web_here","_law_thing"])(GLis_groups:a9 P w K mg base du 2 fLis_groups eLis_groups ["_law_web_here","_law_thing"] (dR K 2 bV)){fLodd:Addr}{eLodd:FuncData}(hLodd:bX K mg "_law_odd" qT fLodd eLodd ["_law_number"])(GLodd:a9 P w K mg base du 1 fLodd eLodd ["_law_number"] (dR K 1 qm)){f_is_groups:Addr}{e_is_groups:FuncData}(h_is_groups:bX K mg "is_groups" bW f_is_groups e_is_groups ["web","thing"])(G_is_groups:a9 P w K mg base du 5 f_is_groups e_is_groups ["web","thing"] (dR K 2 bH)){fLsays:Addr}{eLsays:FuncData}(hLsays:bX K mg "_law_says" mz fLsays eLsays ["_law_found","_law_due"])(GLsays:a9 P w K mg base du 1 fLsays eLsays ["_law_found","_law_due"] (dR K 2 j9)):a9 P w K mg base du 6 f fd ["_law_script"] (dR K 1 l7):=by
  have nd:=yd.nd
  exact h.fn yd rfl rfl (fun cdv A outer s H E hr=>(@af _ _ _ _ _ _ _ _ (@ay _ _ _ _ _ 1 _ _ nd rfl (Or.inl rfl) (@bh _ _ _ _ _ _ _ _ _ _ _ _ _ _ _ hLdraws GLdraws (hr.mono (by decide)) ((¬0)∘ab) (by rfl) (by decide) (by rfl) (by rfl)) (by rfl) (by trivial))
      (@af _ _ _ _ _ _ _ _ (@fL _ _ _ _ _ _ _ _ _ _ _ PassesOwn.never rfl (@dr _ _ _ _ _ _ _ rfl T.b_range (ae∘ab) (by rfl)) (@aS _ _ _ 2 _ nd rfl (Or.inl rfl) (by trivial))
      (@af _ _ _ _ _ _ _ _ (@xO _ _ _ _ _ _ _ _ (@bh _ _ _ _ _ _ _ _ _ _ _ _ _ _ _ hLgrouped GLgrouped (hr.mono (by decide)) ((¬1)∘((@bh _ _ _ _ _ _ _ _ _ _ _ _ _ _ _ hLweb GLweb (hr.mono (by decide)) ((¬1)∘(ae∘(ae∘ab))) (by rfl) (by decide) (by rfl) (by rfl))∘ab)) (by rfl) (by decide) (by rfl) (by rfl)) (@mq _ _ _ _ _ _ _ _ rfl rfl (@cY _ _ _ _ _ _ _ _ (@aS _ _ _ 3 _ nd rfl (Or.inl rfl) (by trivial)) (@cY _ _ _ _ _ _ _ _ (@aS _ _ _ 4 _ nd rfl (Or.inl rfl) (by trivial)) (@jJ _ _) (by rfl)) (by rfl)) (ek (ek lV)) (by rfl) (by rfl)) (by rfl) (by rfl) (by rfl))
      (@af _ _ _ _ _ _ _ _ (@ay _ _ _ _ _ 5 _ _ nd rfl (Or.inl rfl) (@aw _ _ _ _ _ _ ((¬3)∘((¬4)∘ab))) (by rfl) (by trivial))
      (@af _ _ _ _ _ _ _ _ (@fL _ _ _ _ _ _ _ _ _ _ _ PassesOwn.never rfl (@dr _ _ _ _ _ _ _ rfl T.b_range (ae∘ab) (by rfl)) (@aS _ _ _ 6 _ nd rfl (Or.inl rfl) (by trivial))
      (@af _ _ _ _ _ _ _ _ (@ay _ _ _ _ _ 7 _ _ nd rfl (Or.inl rfl) (@bh _ _ _ _ _ _ _ _ _ _ _ _ _ _ _ hLnext GLnext (hr.mono (by decide)) ((¬1)∘ab) (by rfl) (by decide) (by rfl) (by rfl)) (by rfl) (by trivial))
      (@af _ _ _ _ _ _ _ _ (@ay _ _ _ _ _ 8 _ _ nd rfl (Or.inl rfl) (@bh _ _ _ _ _ _ _ _ _ _ _ _ _ _ _ hLbent_groups GLbent_groups (hr.mono (by decide)) ((¬4)∘((@cN _ _ _ _ _ _ _ (¬7) ae)∘((@aW _ _ _ _ _ _ _ _ _ (@b_max _ _ rfl) (by rfl) T.b_max (ae∘((@aW _ _ _ _ _ _ _ _ _ (@b_len _ _ rfl) (by rfl) T.b_len ((@bf _ _ _ _ _ _ _ rfl (¬3) ae (fun _ _=>rfl))∘ab) (by decide) (by decide) (by rfl) (by rfl))∘ab)) (by decide) (by decide) (by rfl) (by rfl))∘ab))) (by rfl) (by decide) (by rfl) (by rfl)) (by rfl) (by trivial))
      (@af _ _ _ _ _ _ _ _ (@cy _ _ _ _ _ _ _ _ _ _ _ (@bu _ _ _ _ _ _ _ _ _ (@jn _ _ _ rfl hr) (@aQ _ _ _ _ _ _ _ (¬7) ae) ae (a8 _))
      (@ao _ _ _ _ _ (@ay _ _ _ _ _ 8 _ _ nd rfl (Or.inl rfl) (@bh _ _ _ _ _ _ _ _ _ _ _ _ _ _ _ hLodd GLodd (hr.mono (by decide)) ((@cN _ _ _ _ _ _ _ (¬7) ae)∘ab) (by rfl) (by decide) (by rfl) (by rfl)) (by rfl) (by trivial)))
      (@bc _ _))
      (@af _ _ _ _ _ _ _ _ (@cy _ _ _ _ _ _ _ _ _ _ _ (@bu _ _ _ _ _ _ _ _ _ (@jn _ _ _ rfl hr) (@aQ _ _ _ _ _ _ _ (¬7) ae) ae (a8 _))
      (@ao _ _ _ _ _ (@ay _ _ _ _ _ 8 _ _ nd rfl (Or.inl rfl) (@aW _ _ _ _ _ _ _ _ _ (@b_tuple _ _ rfl) (by rfl) T.b_tuple ((@mh _ _ _ _ _ _ _ _ _ _ _ _ _ (ap kW) ["_law_script","_law_drawn","_law_turn","_law_web_here","_law_groups","_law_kept","_law_again","_law_number","_law_thing","_law_due","_law_before"] [] ["_law_tie"] rfl rfl rfl (@dr _ _ _ _ _ _ _ rfl T.b_range ((@aW _ _ _ _ _ _ _ _ _ (@b_len _ _ rfl) (by rfl) T.b_len ((@bf _ _ _ _ _ _ _ rfl (¬3) ae (fun _ _=>rfl))∘ab) (by decide) (by decide) (by rfl) (by rfl))∘ab) (by rfl))
        (fun C s0 H0 fp=>(@aS _ _ _ 0 _ (show List.Nodup (["_law_tie"]:List Str) by decide+kernel) rfl (Or.inl rfl) (by trivial))) (fun C s0 H0 fp=>(@fZ _ _))
        (fun C s0 H0 fp=>(@aw _ _ _ _ _ _ ((¬0)∘ab))) rfl (by decide+kernel) (by decide+kernel) (by decide+kernel) (by decide+kernel) (by decide+kernel) (by decide+kernel) (by decide+kernel) (by intro _;rfl))∘ab) (by decide) (by decide) (by rfl) (by rfl)) (by rfl) (by trivial)))
      (@bc _ _))
      (@af _ _ _ _ _ _ _ _ (@ay _ _ _ _ _ 9 _ _ nd rfl (Or.inl rfl) (@bh _ _ _ _ _ _ _ _ _ _ _ _ _ _ _ hLis_groups GLis_groups (hr.mono (by decide)) ((¬3)∘((¬8)∘ab)) (by rfl) (by decide) (by rfl) (by rfl)) (by rfl) (by trivial))
      (@af _ _ _ _ _ _ _ _ (@ay _ _ _ _ _ 10 _ _ nd rfl (Or.inl rfl) (@aW _ _ _ _ _ _ _ _ _ (@b_repr _ _ _ rfl hr) (by rfl) T.b_repr ((¬8)∘ab) (by decide) (by decide) (by rfl) (by rfl)) (by rfl) (by trivial))
      (@ao _ _ _ _ _ (@cy _ _ _ _ _ _ _ _ _ _ _ (@o_ _ _ _ _ (@jK _ _ _ _ _ _ _ _ (@eK _ _ _ _ _ (@dZ _ _ _ _ (@bh _ _ _ _ _ _ _ _ _ _ _ _ _ _ _ hLsays GLsays (hr.mono (by decide)) ((@bh _ _ _ _ _ _ _ _ _ _ _ _ _ _ _ h_is_groups G_is_groups (hr.mono (by decide)) ((¬3)∘((¬8)∘ab)) (by rfl) (by decide) (by rfl) (by rfl))∘((¬9)∘ab)) (by rfl) (by decide) (by rfl) (by rfl)) (by intro _;rfl))) (@jg _ _ _ _ _ (@bu _ _ _ _ _ _ _ _ _ (@vI _ _ _ rfl hr) (@aW _ _ _ _ _ _ _ _ _ (@b_repr _ _ _ rfl hr) (by rfl) T.b_repr ((¬8)∘ab) (by decide) (by decide) (by rfl) (by rfl)) (¬10) (a8 _)))))
      (@ao _ _ _ _ _ (@aE _ _ _ _ _ (@cx _ _ _ _ _)))
      (@bc _ _))))))))) (by intro _;rfl))
      (@ao _ _ _ _ _ (@cy _ _ _ _ _ _ _ _ _ _ _ (@o_ _ _ _ _ (@jK _ _ _ _ _ _ _ _ (@bu _ _ _ _ _ _ _ _ _ (@yE _ _) (@bh _ _ _ _ _ _ _ _ _ _ _ _ _ _ _ h_is_groups G_is_groups (hr.mono (by decide)) ((¬3)∘((¬4)∘ab)) (by rfl) (by decide) (by rfl) (by rfl)) (@cx _ _ _ _ _) (a8 _)) (@jg _ _ _ _ _ (@bu _ _ _ _ _ _ _ _ _ (@vI _ _ _ rfl hr) (@aw _ _ _ _ _ _ ((¬3)∘((¬4)∘ab))) (¬5) (a8 _)))))
      (@ao _ _ _ _ _ (@aE _ _ _ _ _ (@cx _ _ _ _ _)))
      (@bc _ _)))))) (by intro _;rfl))
      (@ao _ _ _ _ _ (@aE _ _ _ _ _ (@cx _ _ _ _ _))))))
local macro_rules | `(tactic| simp? [$ts,*]) => `(tactic| simp [$ts,*, j_, qu, aA, iY, bI, d_, aO, gF, vc, x6, xG, aP, au, mU, ac, vC, bS, ag, aa, aY, aF, dQ, sT, ur, iM, GF, mH, E7, rq, rA, gE, dS, eR, cI, D6, j', jr, rR, fv, bO, yL, vn, cW, aH, ah, cG, dz, aK, bz, BL, fV, pW, lQ, gS, tO, tM, tL, tK, p5, lP, p8, ny, pV, AM, nz, wc, AN, wf, tN, wd, we, qd, qc, nB, qe, AQ, ij, rF, rG, rH, Az, m_, m9, jt, oE, List.replicate, -List.map_nil, -List.map_cons, -List.nil_append, -List.cons_append, -Option.bind_some, -Option.map_some, -getElem?_pos, -List.append_nil, AI, AH, AD, AC, AF, AG, AE, AJ])
theorem oz{n k:Int}(h:0 < k):0≤n % k:=Int.emod_nonneg _ (Int.ne_of_gt h)
theorem oA{n k:Int}(h:0 < k):n % k < k:=Int.emod_lt_of_pos _ h
def nx:List Int→Int
  | []=>0
  | d::_=>d
def ig(ds:List Int):Prop:=∀d∈ds,0≤d∧d < 2147483648
theorem AY{ds:List Int}(h:ig ds):0≤nx ds∧nx ds < 2147483648:=by
  cases ds with
  | nil=>exact⟨Int.le_refl 0,by show(0:Int) < 2147483648;decide⟩
  | cons d r=>exact h d (by simp)
theorem E5{ds:List Int}(h:ig ds):ig ds.tail:=fun d hd=>h d (List.mem_of_mem_tail hd)
theorem CS(ds:List Int):bg [.l (ds.map .int)]=some (.d (.int (nx ds)),[.l (ds.tail.map .int)]):=by
  have hq:∀e:En,e[0]?=some (some (.l (ds.map .int)))→bw false e (.s 0) (.l [])=some (.d (.bool (ds.map PyData.int).isEmpty)):=fun e he=>pZ he (qZ ds).1
  cases ds with
  | nil=>simp? [bg,rJ,hq,nx]
  | cons d r=>simp? [bg,rJ,hq,nx]
theorem iK{ds:List Int}(hd:ig ds):∃(n:Int) (ds':List Int),bg [.l (ds.map .int)]=some (.d (.int n),[.l (ds'.map .int)])∧0≤n∧n < 2147483648∧ig ds':=⟨nx ds,ds.tail,CS ds,(AY hd).1,(AY hd).2,E5 hd⟩
theorem um(cell k:Int)(h0:0≤k)(h1:k≤1000):∃r,iR [.d (.int cell),.d (.int k)]=some (.d (.int r),[.d (.int cell),.d (.int k)])∧0≤r∧r < 2147483648:=by
  have a1:ka (cell % 2147483647) 48271=true:=oQ (by decide) (by decide)
  have a2:ka 7919 k=true:=wW (by decide) (by decide)
  have a3:ka (7919*k) k=true:=oQ (by lia) (by lia)
  have a4:ka ((cell % 2147483647*48271+7919*k*k+104729) % 2147483647) ((cell % 2147483647*48271+7919*k*k+104729) % 2147483647)=true:=oQ (by lia) (by lia)
  refine⟨_,by simp? [iR,s_,aB,lS,a1,a2,a3,a4];rfl,?_,?_⟩
  · lia
  · lia
theorem ov{ds:List Int}(h:ig ds){r:Int}(h0:0≤r)(h1:r < 2147483648):ig (ds++[r]):=fun d hd=>by
  rcases List.mem_append.mp hd with hd | hd
  · exact h d hd
  · simp at hd;subst hd;exact⟨h0,h1⟩
abbrev dE(ns ds:List Int)(v2 v3 v4:Option Sv):En:=[some (.d (.list (ns.map .int))),some (.l (ds.map .int)),v2,v3,v4]
inductive DI (ns:List Int) (i:Nat):En→Prop
  | mk {ds v2 v3 v4} (hd:ig ds) (hl:ds.length≤1000*i):DI ns i (dE ns ds v2 v3 v4)
inductive DJ (ns:List Int) (k cell:Int) (n i:Nat):En→Prop
  | mk {ds v4} (hd:ig ds) (hl:ds.length=n+i):DJ ns k cell n i (dE ns ds (some (.d (.int k))) (some (.d (.int cell))) v4)
inductive DW (ns:List Int) (k:Int) (v4:Option Sv) (n:Nat):En→Prop
  | mk {cell ds} (hc:0≤cell) (hd:ig ds) (hl:ds.length≤max n 900):DW ns k v4 n (dE ns ds (some (.d (.int k))) (some (.d (.int cell))) v4)
theorem Ad(ns:List Int)(hn:ns.length≤63):∃ds,jD [.d (.list (ns.map .int))]=some (.l (ds.map .int),[.d (.list (ns.map .int))])∧ig ds:=by
  have inner:∀(cell k:Int) (ds:List Int) (v4:Option Sv),0≤k→k≤63→ig ds→ds.length≤63000→∃ds' v4',(∀W,eC W iP (ah 4) gw (dE ns ds (some (.d (.int k))) (some (.d (.int cell))) v4)=some (.nx (dE ns ds' (some (.d (.int k))) (some (.d (.int cell))) v4')))∧ig ds'∧ds'.length=ds.length+12:=by
    intro cell k ds v4 k0 k1 hd hl
    obtain⟨e',h1,h2⟩:=er (own:=[]) (g:=ah 4) (f:=gw) (DJ ns k cell ds.length) (be 0 12) 0 (dE ns ds (some (.d (.int k))) (some (.d (.int cell))) v4) (fun i x e hx hI=>by
      obtain⟨rfl,hi⟩:=hJ hx
      obtain⟨hd',hl'⟩:=hI
      rename_i ds' v4'
      obtain⟨r1,c1,_,_⟩:=um cell (3*(0+(i:Int))+1) (by lia) (by lia)
      obtain⟨r2,c2,c3,c4⟩:=um r1 (0+(i:Int)+k+2) (by lia) (by lia)
      have a1:ka 3 (0+(i:Int))=true:=wW (by decide) (by decide)
      refine⟨_,dE ns (ds'++[r2]) (some (.d (.int k))) (some (.d (.int cell))) (some (.d (.int (0+(i:Int))))),rfl,?_,bP,.mk (ov hd' c3 c4) (by simp;lia)⟩
      have hlen:ds'.length < 1000000:=by lia
      simp only [Int.zero_add] at a1 c1 c2
      simp? [dE,gw,c1,c2,lS,a1,hlen]) (.mk hd rfl)
    obtain⟨hd',hl'⟩:=h2
    rename_i ds' v4'
    rw [d9] at hl'
    refine⟨ds',v4',fun W=>?_,hd',by lia⟩
    rw [dJ (show iP _=some (be 0 12,[],_) from fB (n:=12) rfl (by decide) (by decide))]
    exact h1
  have wh:∀(cell k:Int) (ds:List Int) (v4:Option Sv),0≤cell→ig ds→ds.length≤63100→∃cell' ds',mC (2 ^ 4200) eY iN (dE ns ds (some (.d (.int k))) (some (.d (.int cell))) v4)=some (.nx (dE ns ds' (some (.d (.int k))) (some (.d (.int cell'))) v4))∧0≤cell'∧ig ds'∧ds'.length≤max ds.length 900:=by
    intro cell k ds v4 hc hd hl
    have tst:∀(cell:Int) (ds:List Int),eY (dE ns ds (some (.d (.int k))) (some (.d (.int cell))) v4)=some (decide (1000000000000000000≤cell)&&decide ((ds.length:Int) < 900),dE ns ds (some (.d (.int k))) (some (.d (.int cell))) v4):=by
      intro cell ds
      by_cases h:(1000000000000000000:Int)≤cell
      · simp? [dE,eY,iC,jH,h]
      · simp? [dE,eY,iC,jH,h]
    obtain⟨e0,e',h1,hI,h3⟩:=mK (ft:=eY) (f:=iN) (DW ns k v4 ds.length)
      (fun e=>1000000 - AU 1 e) (fun e hI=>by
        obtain⟨hc',hd',hl'⟩:=hI
        rename_i cell' ds'
        rw [tst]
        by_cases c1:(1000000000000000000:Int)≤cell'
        · by_cases c2:(ds'.length:Int) < 900
          · refine .inr ⟨_,dE ns (ds'++[cell' % 2147483629]) (some (.d (.int k))) (some (.d (.int (cell' / 2147483629)))) v4,by rw [decide_eq_true c1,decide_eq_true c2];rfl,?_,.mk (by lia) (ov hd' (by lia) (by lia)) (by simp;lia),?_⟩
            · have hlen:ds'.length < 1000000:=by lia
              have b8:Bt 8000 2147483629:=dA (by decide) (by decide)
              simp? [dE,iN,aB,bj,b8,hlen]
            · simp [AU,dE];lia
          · exact .inl ⟨_,by rw [decide_eq_true c1,decide_eq_false c2];rfl,trivial⟩
        · exact .inl ⟨_,by rw [decide_eq_false c1];rfl,trivial⟩) (2 ^ 4200) _ (.mk hc hd (by lia)) (tU (m:=20) (Nat.lt_of_le_of_lt (Nat.sub_le _ _) (by decide)) (by decide))
    obtain⟨hc',hd',hl'⟩:=hI
    rename_i cell' ds'
    rw [tst] at h3
    have h4:=(Prod.mk.inj (Option.some.inj h3)).2
    subst h4
    exact⟨cell',ds',h1,hc',hd',hl'⟩
  have turn:∀(i:Nat) (ds:List Int) (v3 v4:Option Sv) (hi:i < ns.length),ig ds→ds.length≤1000*i→∃ds2 v3' v4',eX (dE ns ds (some (.d (.int (i:Int)))) v3 v4)=some (.nx (dE ns ds2 (some (.d (.int (i:Int)))) v3' v4'))∧ig ds2∧ds2.length≤1000*(i+1):=by
    intro i ds v3 v4 hi hd hl
    have hcell:atI (ns.map PyData.int) (i:Int)=some (.int ns[i]):=by
      rw [ik (by lia) (by rw [List.length_map];lia)]
      simp [hi]
    have c0:(0:Int)≤(ns[i].natAbs:Int):=by lia
    have st:aO 3 (aF (g1 uJ) (aa (au bU (ac 0) (ac 2)) ag)) (dE ns ds (some (.d (.int (i:Int)))) v3 v4)=some (.nx (dE ns ds (some (.d (.int (i:Int)))) (some (.d (.int (ns[i].natAbs:Int)))) v4)):=by
      simp? [dE,hcell]
    generalize (ns[i].natAbs:Int)=cell at c0 st
    have mid:∃ds1 v4',iY (aP (au AO (ac 3) (au oG (vC (.int 10)) (vC (.int 18))))) (eC ([4]++[]) iP (ah 4) gw) d_ (dE ns ds (some (.d (.int (i:Int)))) (some (.d (.int cell))) v4)=some (.nx (dE ns ds1 (some (.d (.int (i:Int)))) (some (.d (.int cell))) v4'))∧ig ds1∧ds1.length≤ds.length+12:=by
      by_cases cb:cell < 1000000000000000000
      · obtain⟨ds1,v4',f1,f2,f3⟩:=inner cell (i:Int) ds v4 (by lia) (by lia) hd (by lia)
        refine⟨ds1,v4',?_,f2,by lia⟩
        rw [EJ (e1:=dE ns ds (some (.d (.int (i:Int)))) (some (.d (.int cell))) v4) (by simp? [dE,iC,jH,cb])]
        exact f1 _
      · refine⟨ds,v4,?_,hd,by lia⟩
        rw [EI (e1:=dE ns ds (some (.d (.int (i:Int)))) (some (.d (.int cell))) v4) (by simp? [dE,iC,jH,cb])]
        rfl
    obtain⟨ds1,v4',m1,m2,m3⟩:=mid
    obtain⟨cell2,ds2,w1,w2,w3,w4⟩:=wh cell (i:Int) ds1 v4' c0 m2 (by lia)
    by_cases c2:(2147483629:Int)≤cell2
    · refine⟨ds2++[cell2 % 2147483629],some (.d (.int cell2)),v4',?_,ov w3 (by lia) (by lia),by simp;lia⟩
      have hlen:ds2.length < 1000000:=by lia
      unfold eX
      rw [iT st,iT m1,iT w1]
      simp? [dE,c2,aB,hlen]
    · refine⟨ds2,some (.d (.int cell2)),v4',?_,w3,by lia⟩
      unfold eX
      rw [iT st,iT m1,iT w1]
      simp? [dE,c2]
  obtain⟨e',h1,hI⟩:=er (own:=[]) (g:=ah 2) (f:=eX) (DI ns) (be 0 (min (ns.length:Int) 63).toNat) 0 (dE ns [] none none none) (fun i x e hx hI=>by
    obtain⟨rfl,hi⟩:=hJ hx
    obtain⟨hd,hl⟩:=hI
    rename_i ds v2 v3 v4
    rw [Nat.zero_add] at hl ⊢
    obtain⟨ds2,v3',v4',t1,t2,t3⟩:=turn i ds v3 v4 (by lia) hd hl
    exact⟨dE ns ds (some (.d (.int (i:Int)))) v3 v4,_,by simp [ah,dE],t1,bP,.mk t2 t3⟩) (.mk (fun d hd=>by cases hd) (by simp))
  obtain⟨hd,hl⟩:=hI
  rename_i ds v2 v3 v4
  refine⟨ds,?_,hd⟩
  have hf:∀W,eC W j7 (ah 2) eX (dE ns [] none none none)=some (.nx (dE ns ds v2 v3 v4)):=fun W=>by
    rw [dJ (show j7 _=some (be 0 (min (ns.length:Int) 63).toNat,[],dE ns [] none none none) from fB (n:=min (ns.length:Int) 63) (by simp? [dE]) (by lia) (by lia))]
    exact h1
  unfold dE at hf
  simp only [List.map_nil] at hf
  simp? [jD,sZ,hf]
theorem EZ(a b:Int)(hb:Bt 4000 b):qk [.d (.int a),.d (.int b)]=some (.d (.int (Int.gcd a b)),[.d (.int a),.d (.int b)]):=by
  have tst:∀x y:Int,jm [some (.d (.int x)),some (.d (.int y))]=some (!(y==0),[some (.d (.int x)),some (.d (.int y))]):=fun x y=>by simp? [jm]
  obtain⟨e0,e',h1,⟨x,y,he,hg,hy⟩,h3⟩:=mK (ft:=jm) (f:=li) (fun e=>∃x y,e=[some (.d (.int x)),some (.d (.int y))]∧Int.gcd x y=Int.gcd a b∧Bt 4000 y) (wX 1) (fun e ⟨x,y,he,hg,hy⟩=>by
    subst he
    rw [tst]
    by_cases c:y=0
    · subst c;exact .inl ⟨_,rfl,trivial⟩
    · refine .inr ⟨_,[some (.d (.int y)),some (.d (.int (x.fmod y)))],by rw [beq_false_of_ne c];rfl,by simp? [li,Bw c],⟨y,x.fmod y,rfl,by rw [wq,hg],?_⟩,?_⟩
      · have:=kO x c
        exact Bt.of_le hy (by lia)
      · have:=kO x c
        simpa [wX] using this) (2 ^ 4200) _ ⟨a,b,rfl,rfl,hb⟩ (tU (m:=4000) (by simpa [wX,Bt] using hb) (by decide))
  subst he
  rw [tst] at h3
  have h4:=Prod.mk.inj (Option.some.inj h3)
  have hy0:y=0:=by simpa using h4.1
  subst hy0
  have h5:=h4.2
  subst h5
  have hs:mC (2 ^ 4200) jm li [some (.d (.int a)),some (.d (.int b))]=some (.nx [some (.d (.int x)),some (.d (.int 0))]):=h1
  have hg':(x.natAbs:Int)=(Int.gcd a b:Int):=by rw [←hg];simp
  simp only [qk,Aq,j_,qu,aA,iY,bI,d_,aO,gF,vc,x6,xG,aP,au,mU,ac,vC,bS,ag,aa,aY,aF,dQ,sT,ur,iM,GF,mH,E7,rq,rA,gE,dS,eR,cI,D6,j',jr,rR,fv,bO,yL,vn,cW,aH,ah,cG,dz,aK,bz,BL,fV,pW,lQ,gS,tO,tM,tL,tK,p5,lP,p8,ny,pV,AM,nz,wc,AN,wf,tN,wd,we,qd,qc,nB,qe,AQ,ij,rF,rG,rH,Az,m_,m9,jt,oE,List.replicate, -List.map_nil, -List.map_cons, -List.nil_append, -List.cons_append, -Option.bind_some, -Option.map_some, -getElem?_pos, -List.append_nil,AI,AH,AD,AC,AF,AG,AE,AJ]
  simp? [hs,hg']
theorem A_(t b:Int)(hb:0 < b)(h:Bt 4000 b):nH [.d (.int t),.d (.int b)]=some (.d (.tuple [.int (eI t b).1,.int (eI t b).2]),[.d (.int t),.d (.int b)]):=by
  have g0:=tQ (t:=t) (b:=b) (by lia)
  have g1:(Int.gcd t b:Int)≠0:=by lia
  have g8:Bt 8000 (Int.gcd t b:Int):=(Bx (t:=t) (by lia) h).mono (by decide)
  have e:eI t b=(t.fdiv (Int.gcd t b:Int),b.fdiv (Int.gcd t b:Int)):=by unfold eI;rw [if_neg (by lia)]
  rw [e]
  simp? [nH,Ar,EZ t b h,yT g1 g8]
theorem Ax{i:Int}{n:Nat}(h1: -2147483648 < i)(h2:i < 2147483648)(hn:31≤n):Bt n i:=Bt.mono (m:=31) (by unfold Bt;lia) hn
def lJ(t b:Int):Prop:=0≤t∧t≤b∧1≤b∧b≤100∧Int.gcd t b=1
theorem rh(n k:Int)(hn:0≤n):∃t b,cX [.d (.int n),.d (.int k)]=some (.d (.tuple [.int t,.int b]),[.d (.int n),.d (.int k)])∧lJ t b:=by
  have b9:Bt 8000 9:=dA (by decide) (by decide)
  have b100:Bt 8000 100:=dA (by decide) (by decide)
  have low:∀t b:Int,0 < b→0≤t→t≤b→b≤100→lJ (eI t b).1 (eI t b).2:=fun t b hb h0 h1 h2=>by
    obtain⟨r1,r2,r3,r4⟩:=sd hb h0 h1 h2
    exact⟨r1,r2,r3,r4,wQ (by lia)⟩
  by_cases c0:k=0
  · subst c0
    obtain⟨x,hx,ha⟩:=f9 (xs:=[PyData.tuple [.int 1,.int 2],.tuple [.int 1,.int 3],.tuple [.int 2,.int 3],.tuple [.int 1,.int 1],.tuple [.int 0,.int 1],.tuple [.int 3,.int 4]]) (i:=n % 6) (by lia) (by simp;lia)
    obtain⟨t,b,rfl,hc⟩:∃t b,x=.tuple [.int t,.int b]∧lJ t b:=by
      simp only [List.mem_cons,List.not_mem_nil,or_false] at hx
      rcases hx with rfl | rfl | rfl | rfl | rfl | rfl<;>exact⟨_,_,rfl,by unfold lJ;decide⟩
    exact⟨t,b,by simp? [cX,ip,aB,ha],hc⟩
  · by_cases c1:k=1
    · subst c1
      have hm:(n / 9) % (2+n % 9 - 1) < 2+n % 9 - 1:=Int.emod_lt_of_pos _ (by lia)
      have hm0:0≤(n / 9) % (2+n % 9 - 1):=Int.emod_nonneg _ (by lia)
      refine⟨_,_,?_,low (1+(n / 9) % (2+n % 9 - 1)) (2+n % 9) (by lia) (by lia) (by lia) (by lia)⟩
      have hpos:∀e:En,aM e (.d (.int (n / 9))) (.d (.int (2+n % 9 - 1)))=_:=fun e=>aB (by lia)
      have hl:=A_ (1+(n / 9) % (2+n % 9 - 1)) (2+n % 9) (by lia) (Ax (by lia) (by lia) (by decide))
      simp? [cX,ip,aB,bj,b9,hpos,hl]
    · by_cases c2:k=2
      · subst c2
        have hm:(n / 100) % (1+n % 100+1) < 1+n % 100+1:=Int.emod_lt_of_pos _ (by lia)
        have hm0:0≤(n / 100) % (1+n % 100+1):=Int.emod_nonneg _ (by lia)
        refine⟨_,_,?_,low ((n / 100) % (1+n % 100+1)) (1+n % 100) (by lia) (by lia) (by lia) (by lia)⟩
        have hpos:∀e:En,aM e (.d (.int (n / 100))) (.d (.int (1+n % 100+1)))=_:=fun e=>aB (by lia)
        have hl:=A_ ((n / 100) % (1+n % 100+1)) (1+n % 100) (by lia) (Ax (by lia) (by lia) (by decide))
        simp? [cX,ip,aB,bj,b100,hpos,hl]
      · refine⟨1,1,?_,by unfold lJ;decide⟩
        simp? [cX,ip,c0,c1,c2]
theorem Ae(n k:Int):∃r,jE [.d (.int n),.d (.int k)]=some (.d (.int r),[.d (.int n),.d (.int k)])∧0≤r∧r≤1000:=by
  obtain⟨x,hx,ha⟩:=f9 (xs:=[PyData.int (n % 7),.int (5+n % 2),.int (n % 1001),.int (1000 - n % 3)]) (i:=k % 4) (by lia) (by simp;lia)
  obtain⟨r,rfl,hr⟩:∃r,x=.int r∧0≤r∧r≤1000:=by
    simp only [List.mem_cons,List.not_mem_nil,or_false] at hx
    rcases hx with rfl | rfl | rfl | rfl<;>exact⟨_,rfl,by lia,by lia⟩
  exact⟨r,by simp? [jE,tf,aB,ha],hr⟩
abbrev tE(ds:List Int)(things many shape odds ws:Int)(ts:List eM)(v7 v8 v9 v10 v11 v12:Option Sv):En:=[some (.l (ds.map .int)),some (.d (.int things)),some (.d (.int many)),some (.d (.int shape)),some (.d (.int odds)),some (.d (.int ws)),some (.l (ts.map aG)),v7,v8,v9,v10,v11,v12]
inductive TR (things many shape odds ws:Int) (ts:List eM) (k:Option Sv):En→Prop
  | mk {t ds w8 w9 w10 w11 w12} (hd:ig ds) (ht:t.Ok things):TR things many shape odds ws ts k (tE ds things many shape odds ws (ts++[t]) k w8 w9 w10 w11 w12)
inductive TI (things many a b c:Int) (i:Nat):En→Prop
  | mk {ts ds w7 w8 w9 w10 w11 w12} (hd:ig ds) (hl:ts.length=i) (ht:∀t∈ts,t.Ok things):TI things many a b c i (tE ds things many a b c ts w7 w8 w9 w10 w11 w12)
theorem E2(ds:List Int)(things many shape odds ws:Int)(ts:List eM)(k:Int)(v8 v9 v10 v11 v12:Option Sv)(hd:ig ds)(h2:2≤things)(h12:things≤100)(s0:0≤shape)(s1:shape < 6)(k0:0≤k)(hl:ts.length≤1000):
    ∃e',gy (tE ds things many shape odds ws ts (some (.d (.int k))) v8 v9 v10 v11 v12)=some (.nx e')∧TR things many shape odds ws ts (some (.d (.int k))) e':=by
  obtain⟨n,d1,tn, -, -,hd1⟩:=iK hd
  obtain⟨m,d2,tm,m0, -,hd2⟩:=iK hd1
  obtain⟨x,hx,ha⟩:=f9 (xs:=[PyData.int (n % things),.int 0,.int (k % things),.int (n % things),.int (n % 2),.int (n % things)]) (i:=shape) s0 (by simp;lia)
  have tp:0 < things:=Int.lt_of_lt_of_le (by decide) h2
  have tq:0 < things - 1:=Int.sub_pos_of_lt (Int.lt_of_lt_of_le (by decide) h2)
  have nt:0≤n % things∧n % things < things:=⟨oz tp,oA tp⟩
  have kt:0≤k % things∧k % things < things:=⟨oz tp,oA tp⟩
  obtain⟨one,rfl,o0,o1⟩:∃r,x=.int r∧0≤r∧r < things:=by
    simp only [List.mem_cons,List.not_mem_nil,or_false] at hx
    rcases hx with rfl | rfl | rfl | rfl | rfl | rfl<;>exact⟨_,rfl,by lia,by lia⟩
  have r0:0≤(n / 12) % (things - 1):=oz tq
  have r1:(n / 12) % (things - 1) < things - 1:=oA tq
  have q0:0≤(one+1+(n / 12) % (things - 1)) % things:=oz tp
  have q1:(one+1+(n / 12) % (things - 1)) % things < things:=oA tp
  have qn:(one+1+(n / 12) % (things - 1)) % things≠one:=fun z=>by
    by_cases c:one+1+(n / 12) % (things - 1) < things
    · rw [Int.emod_eq_of_lt (by lia) c] at z;lia
    · have e:(one+1+(n / 12) % (things - 1)) % things=(one+1+(n / 12) % (things - 1) - things) % things:=by rw [Int.sub_emod_right]
      rw [e,Int.emod_eq_of_lt (by lia) (by lia)] at z;lia
  obtain⟨t,b,c1,c2,c3,c4,c5,c6⟩:=rh m odds m0
  obtain⟨w,w1,w2,w3⟩:=Ae (m / 10007) ws
  have b12:Bt 8000 12:=dA (by decide) (by decide)
  have b107:Bt 8000 10007:=dA (by decide) (by decide)
  have g1:∀(e:En) (i:Int),aM e (.d (.int i)) (.d (.int things))=some (.d (.int (i % things))):=fun e i=>aB tp
  have g2:∀(e:En) (i:Int),aM e (.d (.int i)) (.d (.int (things - 1)))=some (.d (.int (i % (things - 1)))):=fun e i=>aB tq
  have hlen:ts.length < 1000000:=by lia
  by_cases c:shape=4
  · subst c
    refine⟨tE d2 things many 4 odds ws (ts++[⟨0,1,t,b,w⟩]) (some (.d (.int k))) (some (.d (.int n))) (some (.d (.int 0))) (some (.d (.int 1))) (some (.d (.int m))) (some (.d (.tuple [.int 0,.int 1]))),?_,.mk hd2 ⟨by show(0:Int)≤0;decide,by show(0:Int) < 1;decide,by show(1:Int) < things;lia,c2,c3,c4,c5,w2,w3,c6⟩⟩
    simp? [tE,gy,tn,tm,aB,g1,g2,bj,b12,b107,ha,c1,w1,dg,aG,hlen]
    decide
  · refine⟨tE d2 things many shape odds ws (ts++[⟨min one ((one+1+(n / 12) % (things - 1)) % things),max one ((one+1+(n / 12) % (things - 1)) % things),t,b,w⟩]) (some (.d (.int k))) (some (.d (.int n))) (some (.d (.int one))) (some (.d (.int ((one+1+(n / 12) % (things - 1)) % things)))) (some (.d (.int m))) (some (.d (.tuple [.int (min one ((one+1+(n / 12) % (things - 1)) % things)),.int (max one ((one+1+(n / 12) % (things - 1)) % things))]))),?_,.mk hd2 ⟨by show 0≤min _ _;lia,by show min _ _ < max _ _;lia,by show max _ _ < _;lia,c2,c3,c4,c5,w2,w3,c6⟩⟩
    simp? [tE,gy,tn,tm,aB,g1,g2,bj,b12,b107,ha,c1,w1,dg,aG,hlen,c]
theorem CV(ds:List Int)(things many:Int)(hd:ig ds)(h2:2≤things)(h12:things≤100)(m0:0≤many)(m1:many≤1000):∃(ts:List eM) (ds':List Int),l6 [.l (ds.map .int),.d (.int things),.d (.int many)]=some (.d (.tuple (ts.map aG)),[.l (ds'.map .int),.d (.int things),.d (.int many)])∧ig ds'∧(ts.length:Int)=many∧∀t∈ts,t.Ok things:=by
  obtain⟨n0,d1,t0, -, -,hd1⟩:=iK hd
  obtain⟨n1,d2,t1, -, -,hd2⟩:=iK hd1
  obtain⟨n2,d3,t2, -, -,hd3⟩:=iK hd2
  obtain⟨e',h1,hI⟩:=er (own:=[]) (g:=ah 7) (f:=gy) (TI things many (n0 % 6) (n1 % 4) (n2 % 4)) (be 0 many.toNat) 0 (tE d3 things many (n0 % 6) (n1 % 4) (n2 % 4) [] none none none none none none) (fun i x e hx hI=>by
    obtain⟨rfl,hi⟩:=hJ hx
    obtain⟨hd',hl,ht⟩:=hI
    rename_i ts ds' w7 w8 w9 w10 w11 w12
    obtain⟨e9,s1,⟨s2,s3⟩⟩:=E2 ds' things many (n0 % 6) (n1 % 4) (n2 % 4) ts (0+(i:Int)) w8 w9 w10 w11 w12 hd' h2 h12 (oz (by decide)) (oA (by decide)) (by lia) (by lia)
    exact⟨_,_,rfl,s1,bP,.mk s2 (by simp;lia) fun z hz=>by
      rcases List.mem_append.mp hz with hz | hz
      · exact ht z hz
      · simp at hz;subst hz;exact s3⟩) (.mk hd3 rfl fun t ht=>by cases ht)
  obtain⟨hd',hl,ht⟩:=hI
  rename_i ts ds' w7 w8 w9 w10 w11 w12
  refine⟨ts,ds',?_,hd',by rw [hl,d9];lia,ht⟩
  have hf:∀W,eC W lY (ah 7) gy (tE d3 things many (n0 % 6) (n1 % 4) (n2 % 4) [] none none none none none none)=some (.nx (tE ds' things many (n0 % 6) (n1 % 4) (n2 % 4) ts w7 w8 w9 w10 w11 w12)):=fun W=>by
    rw [dJ (show lY _=some (be 0 many.toNat,[],tE d3 things many (n0 % 6) (n1 % 4) (n2 % 4) [] none none none none none none) from fB (n:=many) (by simp? [tE]) (by lia) (by lia))]
    exact h1
  unfold tE at hf
  simp only [List.map_nil] at hf
  simp? [l6,vE,t0,t1,t2,aB,hf]
abbrev wE(ds:List Int)(most tn things many:Int)(ts:List eM)(way:Int)(ps:List Int)(v8 v9:Option Sv):En:=[some (.l (ds.map .int)),some (.d (.int most)),some (.d (.int tn)),some (.d (.int things)),some (.d (.int many)),some (.d (.tuple (ts.map aG))),some (.d (.int way)),some (.l (ps.map .int)),v8,v9]
inductive WI (most tn things many:Int) (ts:List eM) (way:Int) (i:Nat):En→Prop
  | mk {ps ds w8} (hd:ig ds) (hpl:ps.length=i) (hps:∀p∈ps,0≤p∧p≤20):WI most tn things many ts way i (wE ds most tn things many ts way ps w8 none)
theorem E3(ds:List Int)(most tn:Int)(hd:ig ds)(m0:0≤most)(m1:most≤12)(k0:0≤tn)(k1:tn≤16):∃(W:bD) (ds':List Int),qo [.l (ds.map .int),.d (.int most),.d (.int tn)]=some (.d (aD W),[.l (ds'.map .int),.d (.int most),.d (.int tn)])∧ig ds'∧W.Ok∧W.things≤most∧(W.ties.length:Int)≤tn:=by
  obtain⟨n0,d1,t0, -, -,hd1⟩:=iK hd
  obtain⟨n1,d2,t1, -, -,hd2⟩:=iK hd1
  have mp:0 < most+1:=Int.lt_add_one_of_le m0
  have kp:0 < tn+1:=Int.lt_add_one_of_le k0
  have g0:∀(e:En),aM e (.d (.int n0)) (.d (.int (most+1)))=some (.d (.int (n0 % (most+1)))):=fun e=>aB mp
  have g1':∀(e:En),aM e (.d (.int n1)) (.d (.int (tn+1)))=some (.d (.int (n1 % (tn+1)))):=fun e=>aB kp
  have th0:0≤n0 % (most+1):=oz mp
  have th1:n0 % (most+1) < most+1:=oA mp
  have ti0:0≤n1 % (tn+1):=oz kp
  have ti1:n1 % (tn+1) < tn+1:=oA kp
  clear mp kp
  generalize n0 % (most+1)=things at th0 th1 g0
  generalize n1 % (tn+1)=tm at ti0 ti1 g1'
  obtain⟨many,hmany,mm,m00,m01⟩:∃many:Int,many=tm*(if decide (1 < things)=true then 1 else 0)∧(1 < things∨many=0)∧0≤many∧many≤tn:=by
    by_cases c:1 < things
    · exact⟨tm,by simp [c],.inl c,ti0,by lia⟩
    · exact⟨0,by simp [c],.inr rfl,by lia,by lia⟩
  have gm:∀e:En,jc e (.d (.int tm)) (.d (.int (if decide (1 < things)=true then 1 else 0)))=some (.d (.int many)):=fun e=>by
    rw [lS (oQ (by split<;>decide) (by split<;>decide)),hmany]
  have gi:∀e:En,g1 uL e [.d (.bool (decide (1 < things)))]=some (.d (.int (if decide (1 < things)=true then 1 else 0))):=fun e=>rfl
  generalize (if decide (1 < things)=true then 1 else 0:Int)=one at gm gi
  obtain⟨ts,d3,t3,hd3,hlen,hts⟩:=CV d2 (max 2 things) many hd2 (by lia) (by lia) m00 (by lia)
  obtain⟨n4,d4,t4, -, -,hd4⟩:=iK hd3
  obtain⟨e',h1,hI⟩:=er (own:=[]) (g:=ah 8) (f:=lj) (WI most tn things many ts (n4 % 3)) (be 0 things.toNat) 0 (wE d4 most tn things many ts (n4 % 3) [] none none) (fun i x e hx hI=>by
    obtain⟨rfl,hi⟩:=hJ hx
    obtain⟨hd5,hpl,hps⟩:=hI
    rename_i ps d5 w8
    obtain⟨p1,d6,t6, -, -,hd6⟩:=iK hd5
    obtain⟨p2,d7,t7, -, -,hd7⟩:=iK hd6
    obtain⟨z,hz,ha⟩:=f9 (xs:=[PyData.int 20,.int (1+p1 % 3),.int (p2 % 21)]) (i:=n4 % 3) (oz (by decide)) (oA (k:=3) (by decide))
    obtain⟨p,rfl,hp⟩:∃r,z=.int r∧0≤r∧r≤20:=by
      simp only [List.mem_cons,List.not_mem_nil,or_false] at hz
      rcases hz with rfl | rfl | rfl<;>exact⟨_,rfl,by lia,by lia⟩
    refine⟨wE d5 most tn things many ts (n4 % 3) ps (some (.d (.int (0+(i:Int))))) none,wE d7 most tn things many ts (n4 % 3) (ps++[p]) (some (.d (.int (0+(i:Int))))) none,rfl,?_,bP,.mk hd7 (by simp;lia) fun q hq=>by
      rcases List.mem_append.mp hq with hq | hq
      · exact hps q hq
      · simp at hq;subst hq;exact hp⟩
    have hlen:ps.length < 1000000:=by lia
    simp? [wE,lj,t6,t7,aB,ha,hlen]) (.mk hd4 rfl fun p hp=>by cases hp)
  obtain⟨hd5,hpl,hps⟩:=hI
  rename_i ps d5 w8
  have hf:∀W,eC W oK (ah 8) lj (wE d4 most tn things many ts (n4 % 3) [] none none)=some (.nx (wE d5 most tn things many ts (n4 % 3) ps w8 none)):=fun W=>by
    rw [dJ (show oK _=some (be 0 things.toNat,[],wE d4 most tn things many ts (n4 % 3) [] none none) from fB (n:=things) (by simp? [wE]) (by lia) (by lia))]
    exact h1
  obtain⟨p1,d6,t6, -, -,hd6⟩:=iK hd5
  obtain⟨p2,d7,t7, -, -,hd7⟩:=iK hd6
  obtain⟨p3,d8,t8, -, -,hd8⟩:=iK hd7
  have xp:0 < max 1 many:=Int.lt_of_lt_of_le Int.zero_lt_one (Int.le_max_left _ _)
  have gx:∀(e:En),aM e (.d (.int p1)) (.d (.int (max 1 many)))=some (.d (.int (p1 % max 1 many))):=fun e=>aB xp
  have x0:0≤p1 % max 1 many:=oz xp
  have x1:p1 % max 1 many < max 1 many:=oA xp
  obtain⟨z,hz,ha⟩:=f9 (xs:=[PyData.int 40,.int (1+p1 % max 1 many),.int (p2 % 41)]) (i:=p3 % 3) (oz (by decide)) (oA (k:=3) (by decide))
  obtain⟨asks,rfl,hasks⟩:∃r,z=.int r∧0≤r∧r≤40:=by
    simp only [List.mem_cons,List.not_mem_nil,or_false] at hz
    rcases hz with rfl | rfl | rfl<;>exact⟨_,rfl,by lia,by lia⟩
  rw [d9] at hpl
  refine⟨⟨things,ts,ps,asks⟩,d8,?_,hd8,⟨th0,by show things≤12;lia,fun t ht=>?_,by show ts.length≤16;lia,by show(ps.length:Int)=things;lia,hps,hasks.1,hasks.2⟩,by show things≤most;lia,by show(ts.length:Int)≤tn;lia⟩
  · unfold wE at hf
    simp only [List.map_nil] at hf
    simp? [qo,Av,t0,t1,g0,g1',gm,gi,t3,t4,aB,hf,t6,t7,t8,gx,ha,aD]
  · rcases mm with c | c
    · have:=hts t ht
      rw [show max 2 things=things by lia] at this
      exact this
    · have:ts=[]:=List.length_eq_zero_iff.mp (by lia)
      subst this;cases ht
def uS:PyData→Bool
  | .int _=>true
  | .bool _=>true
  | _=>false
def rY:PyData→Bool
  | .bool _=>true
  | _=>false
def qf:PyData→Bool
  | .tuple _=>true
  | _=>false
theorem AK{e:En}{d:PyData}:jb "int" e (.d d)=some (.d (.bool (uS d))):=by cases d<;>rfl
theorem DK{e:En}{d:PyData}:jb "bool" e (.d d)=some (.d (.bool (rY d))):=by cases d<;>rfl
theorem qb{e:En}{d:PyData}:jb "tuple" e (.d d)=some (.d (.bool (qf d))):=by cases d<;>rfl
theorem jC{d:PyData}(h:qf d=true):∃ds,d=.tuple ds:=by cases d<;>first | exact⟨_,rfl⟩ | cases h
theorem wB(d:PyData):C' d=(uS d&& !rY d):=by cases d<;>rfl
theorem CT(d:PyData):ey [.d d]=some (.d (.bool (C' d)),[.d d]):=by
  rw [wB]
  have g1:=fun e=>AK (e:=e) (d:=d)
  have g2:=fun e=>DK (e:=e) (d:=d)
  generalize uS d=a at*
  generalize rY d=b at*
  cases a<;>simp? [ey,ky,g1,g2]
def xa:List PyData:=[.none,.bool true,.bool false,.int 0,.int 1,.int (-1),.int 5,.str "",.str "a",.str "0",.tuple [],.tuple [.int 0],.tuple [.int 0,.int 1],.tuple [.tuple [],.tuple []],.list [],.list [.int 0],.dict [],.dict [(.int 0,.int 1)],.tuple [.none],.tuple [.tuple []],.list [.tuple []],.tuple [.bool true,.bool false],.tuple [.tuple [.int 0,.int 1],.tuple [.int 1,.int 2]],.tuple [.tuple [.tuple [],.tuple []]],.tuple [.str "a",.int 1],.tuple [.tuple [.int 0,.int 1]],.int (10 ^ 30)]
theorem E1(n:Int):∃d∈xa,qm [.d (.int n)]=some (.d d,[.d (.int n)]):=by
  have m0:0≤n % 27:=Int.emod_nonneg _ (by decide)
  have m1:n % 27 < 27:=Int.emod_lt_of_pos _ (by decide)
  obtain⟨d,hd,ha⟩:=f9 (xs:=xa) m0 (by show n % 27 < 27;exact m1)
  have gm:∀e,aM e (.d (.int n)) (.d (.int 27))=some (.d (.int (n % 27))):=fun e=>aB (by decide)
  have gp:∀e,oG e (.d (.int 10)) (.d (.int 30))=some (.d (.int (10 ^ 30))):=fun e=>iC (i:=10) (j:=30) (by decide)
  refine⟨d,hd,?_⟩
  generalize n % 27=k at*
  generalize hb:(10 ^ 30:Int)=big at*
  rw [show xa=[.none,.bool true,.bool false,.int 0,.int 1,.int (-1),.int 5,.str "",.str "a",.str "0",.tuple [],.tuple [.int 0],.tuple [.int 0,.int 1],.tuple [.tuple [],.tuple []],.list [],.list [.int 0],.dict [],.dict [(.int 0,.int 1)],.tuple [.none],.tuple [.tuple []],.list [.tuple []],.tuple [.bool true,.bool false],.tuple [.tuple [.int 0,.int 1],.tuple [.int 1,.int 2]],.tuple [.tuple [.tuple [],.tuple []]],.tuple [.str "a",.int 1],.tuple [.tuple [.int 0,.int 1]],.int big] by rw [←hb];rfl] at ha
  have gc:∀(e:En) (xs ys:List PyData),e[1]?=some (some (.l xs))→xs.length+ys.length≤1000000→aJ e (.s 1) (.l ys)=some (.l (xs++ys)):=fun e xs ys he h=>oD he h
  simp? [qm,As,gm,gp,gc,ha,j3]
theorem CU(a b:Bool):j9 [.d (.bool a),.d (.bool b)]=some (.d (.bool (a==b)),[.d (.bool a),.d (.bool b)]):=by
  have gi:∀(e:En) (x y:Bool),DO e (.d (.bool x)) (.d (.bool y))=some (.d (.bool (x==y))):=fun e x y=>rfl
  cases a<;>cases b<;>simp? [j9,vD,gi]
theorem GV{W:bD}(e:En):bU e (.d (aD W)) (.d (.int 0))=some (.d (.int W.things)):=by rw [iw,nz,ij];rfl
theorem BA{W:bD}(e:En):bU e (.d (aD W)) (.d (.int 1))=some (.d (.tuple (W.ties.map aG))):=by rw [iw,nz,rF];rfl
theorem GW{W:bD}(e:En):bU e (.d (aD W)) (.d (.int 2))=some (.d (.tuple (W.pat.map .int))):=by rw [iw,nz,rG];rfl
theorem GX{W:bD}(e:En):bU e (.d (aD W)) (.d (.int 3))=some (.d (.int W.asks)):=by rw [iw,nz,rH];rfl
def Ah:PyData→En
  | .tuple [a,b]=>[some (.d a),some (.d b)]
  | _=>[]
theorem Bb{cs:En}{i j:Nat}(hi:i=cs.length)(hj:j=cs.length+1){x a b:PyData}(hx:x=.tuple [a,b])(t:En)(ht:t.length=2):cW (aH (ah i) (aH (ah j) cG)) x (cs++t)=some (cs++Ah x):=by
  subst hx hi hj
  match t,ht with
  | [p,q],_=>simp [cW,aH,ah,cG,Ah]
theorem vi(d:PyData)(lo hi:Int):aZ [.d d,.d (.int lo),.d (.int hi)]=some (.d (.bool (fF lo hi d)),[.d d,.d (.int lo),.d (.int hi)]):=by
  have t:=CT d
  cases d with
  | int i=>
    by_cases c:lo≤i
    · simp? [aZ,bY,t,C',fF,dP,c]
    · simp? [aZ,bY,t,C',fF,dP,c]
  | _=>simp? [aZ,bY,t,C',fF,dP]
def fN:PyData→Int
  | .int i=>i
  | _=>0
def ki(many:Int):Int→List PyData→Bool
  | _,[]=>true
  | lo,d::r=>fF lo (many - 1) d&&ki many (fN d+1) r
theorem gC{lo hi:Int}{d:PyData}(h:fF lo hi d=true):∃i,d=.int i∧lo≤i∧i≤hi:=by
  cases d with
  | int i=>exact⟨i,rfl,by simpa [fF] using h⟩
  | _=>cases h
theorem uc{thing:Sv}{many:Int}:∀(ds:List PyData) (lo:Int) (v3:Option Sv),∃w2 w3,fx [] (ah 3) ba ds [some thing,some (.d (.int many)),some (.d (.int lo)),v3]=some (if ki many lo ds=true then .nx [some thing,some (.d (.int many)),w2,w3] else .rt (.d (.bool false)) [some thing,some (.d (.int many)),w2,w3])
  | [],lo,v3=>⟨_,_,rfl⟩
  | x::r,lo,v3=>by
    have t:=vi x lo (many - 1)
    have hg:ah 3 x [some thing,some (.d (.int many)),some (.d (.int lo)),v3]=some [some thing,some (.d (.int many)),some (.d (.int lo)),some (.d x)]:=rfl
    cases c:fF lo (many - 1) x with
    | false=>
      rw [c] at t
      have hb:ba [some thing,some (.d (.int many)),some (.d (.int lo)),some (.d x)]=some (.rt (.d (.bool false)) [some thing,some (.d (.int many)),some (.d (.int lo)),some (.d x)]):=by
        simp? [ba,t]
      refine⟨some (.d (.int lo)),some (.d x),?_⟩
      simp only [fx,hg,Option.bind_some,hb,ki,c,Bool.false_and,Bool.false_eq_true,if_false]
    | true=>
      rw [c] at t
      obtain⟨i,rfl,_,_⟩:=gC c
      have hb:ba [some thing,some (.d (.int many)),some (.d (.int lo)),some (.d (.int i))]=some (.nx [some thing,some (.d (.int many)),some (.d (.int (i+1))),some (.d (.int i))]):=by
        simp? [ba,t]
      obtain⟨w2,w3,ih⟩:=uc (thing:=thing) (many:=many) r (i+1) (some (.d (.int i)))
      refine⟨w2,w3,?_⟩
      simp only [fx,hg,Option.bind_some,hb,ki,c,Bool.true_and,fN]
      rw [if_pos bP]
      exact ih
def De(many:Int):PyData→Bool
  | .tuple ds=>ki many 0 ds
  | _=>false
theorem vj{d:PyData}{many:Int}:br [.d d,.d (.int many)]=some (.d (.bool (De many d)),[.d d,.d (.int many)]):=by
  have gt:=fun e=>qb (e:=e) (d:=d)
  cases c:qf d with
  | false=>
    rw [c] at gt
    have e:De many d=false:=by cases d<;>first | rfl | cases c
    rw [e]
    simp? [br,c9,gt]
  | true=>
    rw [c] at gt
    obtain⟨ds,rfl⟩:=jC c
    obtain⟨w2,w3,hf⟩:=uc (thing:=.d (.tuple ds)) (many:=many) ds 0 none
    have hs:∀Wl,eC Wl dF (ah 3) ba [some (.d (.tuple ds)),some (.d (.int many)),some (.d (.int 0)),none]=some (if ki many 0 ds=true then .nx [some (.d (.tuple ds)),some (.d (.int many)),w2,w3] else .rt (.d (.bool false)) [some (.d (.tuple ds)),some (.d (.int many)),w2,w3]):=fun Wl=>by
      rw [dJ (show dF _=_ from gT rfl)]
      exact hf
    rw [show De many (.tuple ds)=ki many 0 ds from rfl]
    cases c2:ki many 0 ds with
    | false=>
      rw [c2] at hs
      simp only [Bool.false_eq_true,if_false] at hs
      simp? [br,c9,gt,hs]
    | true=>
      rw [c2] at hs
      simp only [if_true] at hs
      simp? [br,c9,gt,hs]
theorem jN{many:Int}:∀{ds:List PyData} {lo:Int},ki many lo ds=true→∃ns:List Int,ds=ns.map .int∧ns.Nodup∧∀k∈ns,lo≤k∧k < many
  | [],lo,_=>⟨[],rfl,List.nodup_nil,fun _ h=>by cases h⟩
  | d::r,lo,h=>by
    simp only [ki,Bool.and_eq_true] at h
    obtain⟨i,rfl,h1,h2⟩:=gC h.1
    obtain⟨ns,rfl,nd,hk⟩:=jN h.2
    refine⟨i::ns,rfl,List.nodup_cons.mpr ⟨fun hi=>?_,nd⟩,fun k hk'=>?_⟩
    · have:=hk i hi
      simp only [fN] at this
      lia
    · rcases List.mem_cons.mp hk' with rfl | hk'
      · lia
      · have:=hk k hk'
        simp only [fN] at this
        lia
theorem qO{n:Nat}{x:Int}(h:x∈di n):0≤x∧x < (n:Int):=by
  unfold di at h
  obtain⟨i,hi,rfl⟩:=List.mem_map.mp h
  have:=List.mem_range.mp hi
  have e:(Int.ofNat i)=(i:Int):=rfl
  simp only [e]
  lia
theorem zV(n:Nat):(di n).Nodup:=by
  unfold di
  exact List.pairwise_map.mpr (List.Pairwise.imp (fun h e=>by have:_=_:=e;simp at this;lia) List.nodup_range)
theorem xq{names:List Int}{n:Nat}(h:names.Perm (di n)):names.length=n∧names.Nodup∧∀x∈names,0≤x∧x < (n:Int):=by
  refine⟨by rw [h.length_eq,jL],h.nodup_iff.mpr ?_,fun x hx=>?_⟩
  · unfold di
    refine List.Pairwise.map _ (fun a b h=>?_) (List.nodup_range (n:=n))
    intro e
    exact h (by have:(a:Int)=b:=e;lia)
  · have:=h.mem_iff.mp hx
    unfold di at this
    obtain⟨k,hk,rfl⟩:=List.mem_map.mp this
    have:=List.mem_range.mp hk
    exact⟨by simp,by simpa using this⟩
theorem Ba{xs:List PyData}(h:xs.length≤1000)(i:Int)(z:PyData):eu [.d (.tuple xs),.d (.int i),.d z]=some (.d (.tuple (cutD xs none (some i)++[z]++cutD xs (some (i+1)) none)),[.d (.tuple xs),.d (.int i),.d z]):=by
  have c0:∀lo hi,(cutD xs lo hi).length≤1000:=fun lo hi=>Nat.le_trans cut_len h
  have q1:=c0 none (some i);have q2:=c0 (some (i+1)) none
  generalize y1:cutD xs none (some i)=A1 at*
  generalize y2:cutD xs (some (i+1)) none=A2 at*
  have k1:∀e,aJ e (.d (.tuple A1)) (.d (.tuple [z]))=some (.d (.tuple (A1++[z]))):=fun e=>dg (by simp;lia)
  have k2:∀e,aJ e (.d (.tuple (A1++[z]))) (.d (.tuple A2))=some (.d (.tuple (A1++[z]++A2))):=fun e=>dg (by simp;lia)
  generalize A1++[z]=A3 at*
  simp? [eu,Au,y1,y2,k1,k2]
theorem ud{many:Int}:∀{ns:List Int} {lo:Int},ki many lo (ns.map .int)=true→ns.Pairwise (· < ·)∧∀k∈ns,lo≤k∧k < many
  | [],_,_=>⟨List.Pairwise.nil,fun _ h=>by cases h⟩
  | x::r,lo,h=>by
    simp only [List.map_cons,ki,fN,Bool.and_eq_true] at h
    obtain⟨i,e,h1,h2⟩:=gC h.1
    cases e
    obtain⟨p,q⟩:=ud h.2
    refine⟨List.pairwise_cons.mpr ⟨fun y hy=>by have:=q y hy;lia,p⟩,fun k hk=>?_⟩
    rcases List.mem_cons.mp hk with rfl | hk
    · lia
    · have:=q k hk;lia
theorem A7{many:Int}:∀{ns:List Int} {lo:Int},ns.Pairwise (· < ·)→(∀k∈ns,lo≤k∧k < many)→ki many lo (ns.map .int)=true
  | [],_,_,_=>rfl
  | x::r,lo,h,q=>by
    simp only [List.map_cons,ki,fN,Bool.and_eq_true]
    have:=q x (by simp)
    refine⟨by simp only [fF,Bool.and_eq_true,decide_eq_true_eq];lia,A7 (List.pairwise_cons.mp h).2 fun k hk=>?_⟩
    have a:=(List.pairwise_cons.mp h).1 k hk
    have b:=q k (by simp [hk])
    lia
def oj(W:bD)(a b:Int):Bool:=(W.tie a).top==(W.tie b).top&&(W.tie a).bot==(W.tie b).bot
def vw(W:bD)(ns:List Int):Bool:= !ns.isEmpty&&ns.all fun k=>oj W k (ns.headD 0)
def mM(W:bD):PyData→Bool
  | .tuple ds=>ki (W.ties.length:Int) 0 ds&&vw W (ds.map fN)
  | _=>false
theorem fD(ns:List Int):(ns.map PyData.int).map fN=ns:=by
  rw [List.map_map]
  exact List.map_id' ns
theorem oH{W:bD}{ns:List Int}:mM W (aq ns)=(ki (W.ties.length:Int) 0 (ns.map .int)&&vw W ns):=by
  show(ki (W.ties.length:Int) 0 (ns.map .int)&&vw W ((ns.map PyData.int).map fN))=_
  rw [fD]
theorem sO{W:bD}(ok:W.Ok)(d:PyData):dh [.d (aD W),.d d]=some (.d (.bool (mM W d)),[.d (aD W),.d d]):=by
  have wl:=ok.len
  have g1':=BA (W:=W)
  have ql:(((W.ties.map aG).length:Nat):Int)=(W.ties.length:Int):=by simp
  have tr:=vj (d:=d) (many:=(W.ties.length:Int))
  cases c:De (W.ties.length:Int) d with
  | false=>
    rw [c] at tr
    have e:mM W d=false:=by
      cases d with
      | tuple ds=>simp only [De] at c;simp only [mM,c,Bool.false_and]
      | _=>rfl
    rw [e]
    generalize W.ties.map aG=TT at*
    generalize aD W=WW at*
    simp? [dh,gN,g1',ql,tr]
  | true=>
    rw [c] at tr
    obtain⟨ds,rfl⟩:∃ds,d=.tuple ds:=by cases d<;>first | exact⟨_,rfl⟩ | cases c
    simp only [De] at c
    obtain⟨ns,rfl,nd,hk⟩:=jN c
    have e:mM W (.tuple (ns.map .int))=vw W ns:=by
      rw [show PyData.tuple (ns.map .int)=aq ns from rfl,oH,c,Bool.true_and]
    rw [e]
    cases ns with
    | nil=>
      rw [show vw W []=false from rfl]
      generalize W.ties.map aG=TT at*
      generalize aD W=WW at*
      simp only [List.map_nil] at*
      simp? [dh,gN,g1',ql,tr]
    | cons x r=>
      have hx:pD W x:=⟨(hk x (by simp)).1,(hk x (by simp)).2⟩
      have i2:=io hx
      have i3:atI ((x::r).map PyData.int) 0=some (.int x):=by rw [List.map_cons];exact ij
      have nl:=ud c
      have rl:(x::r).length≤16:=by
        have a2:=jF W.ties.length (x::r) nd hk
        lia
      obtain⟨t',hf⟩:=dm (cs:=[some (.d (aD W)),some (.d (.tuple ((x::r).map .int)))]) (ft:=bL) (fe:=dC) (b:=fun _=>true) (y:=fun y=>.bool (oj W (fN y) x)) ((x::r).map .int) none [] (fun _ _=>rfl) (fun y hy _=>by
        obtain⟨k,hk',rfl⟩:=List.mem_map.mp hy
        have i1:=io (W:=W) (k:=k) ⟨(hk k hk').1,(hk k hk').2⟩
        have ge:=fun e=>lO (e:=e) (a:=(W.tie k).top) (b:=(W.tie k).bot) (c:=(W.tie x).top) (d:=(W.tie x).bot)
        show dC [some (.d (aD W)),some (.d (.tuple ((x::r).map .int))),some (.d (.int k))]=some (.d (.bool ((W.tie k).top==(W.tie x).top&&(W.tie k).bot==(W.tie x).bot)),[some (.d (aD W)),some (.d (.tuple ((x::r).map .int))),some (.d (.int k))])
        generalize W.ties.map aG=TT at*
        generalize (x::r).map PyData.int=XX at*
        generalize aD W=WW at*
        unfold aG at i1 i2
        simp? [dC,g1',i1,i2,i3,ge]) (by simp at rl ⊢;lia)
      have eo:[]++(((x::r).map PyData.int).filter fun _=>true).map (fun y=>PyData.bool (oj W (fN y) x))=(x::r).map fun k=>.bool (oj W k x):=by
        rw [List.nil_append,List.filter_eq_self.mpr (fun _ _=>rfl),List.map_map]
        rfl
      rw [eo] at hf
      have hv:=gL (cp:=[(0,"web"),(1,"thing")]) (nT:=1) (fi:=jz) (g:=ah 2) (ft:=bL) (fe:=dC) (e:=[some (.d (aD W)),some (.d (.tuple ((x::r).map .int)))]) (cs:=[some (.d (aD W)),some (.d (.tuple ((x::r).map .int)))]) (t:=[none]) (t':=[t']) (gT rfl) rfl rfl hf
      have ga:=fun e=>pX (e:=e) (fun k=>oj W k x) (x::r)
      have eg:vw W (x::r)=(x::r).all fun k=>oj W k x:=by simp only [vw,List.isEmpty_cons,Bool.not_false,Bool.true_and,List.headD_cons]
      rw [←eg] at ga
      have gl:∀e,g1 bZ e [.d (.tuple ((x::r).map .int))]=some (.d (.int ((r.length:Int)+1))):=fun e=>by
        show some (Rv.d (.int ((((x::r).map PyData.int).length:Nat):Int)))=_
        simp
      have gz:∀e,bw false e (.d (.int ((r.length:Int)+1))) (.d (.int 0))=some (.d (.bool false)):=fun e=>by
        rw [gS]
        have:((r.length:Int)+1==0)=false:=by rw [beq_eq_false_iff_ne];lia
        rw [this];rfl
      have gl2:∀e,g1 bZ e [.d (.tuple (W.ties.map aG))]=some (.d (.int (W.ties.length:Int))):=fun e=>by
        show some (Rv.d (.int (((W.ties.map aG).length:Nat):Int)))=_
        rw [ql]
      generalize (r.length:Int)+1=L at*
      generalize vw W (x::r)=bb at*
      generalize ((x::r).map fun k=>PyData.bool (oj W k x))=OO at*
      generalize (x::r).map PyData.int=XX at*
      generalize W.ties.map aG=TT at*
      generalize aD W=WW at*
      simp? [dh,gN,g1',gl,gl2,gz,tr,hv,ga]
def ic:PyData→List Int
  | .tuple ds=>ds.map fN
  | _=>[]
theorem mw(ns:List Int):ic (aq ns)=ns:=fD ns
theorem jM(gss:List (List Int)):(gss.map aq).map ic=gss:=by
  rw [List.map_map]
  exact(List.map_congr_left fun g _=>mw g).trans (List.map_id' gss)
def dD(gss:List (List Int)):List Int:=gss.map (·.headD 0)
def Eb(n:Nat)(gss:List (List Int)):Bool:=(dD gss==bi (dD gss))&&(bi gss.flatten==di n)
def lW(W:bD):PyData→Bool
  | .tuple ds=>ds.all (mM W)&&Eb W.ties.length (ds.map ic)
  | _=>false
structure uA (W:bD) (g:List Int):Prop where
  rs:ki (W.ties.length:Int) 0 (g.map .int)=true
  gb:vw W g=true
theorem uA.ne{W:bD}{g:List Int}(h:uA W g):g≠[]:=fun e=>by
  have:=h.gb
  rw [e] at this
  cases this
theorem By{W:bD}{d:PyData}(h:mM W d=true):∃g,d=aq g∧uA W g:=by
  cases d with
  | tuple ds=>
    simp only [mM,Bool.and_eq_true] at h
    obtain⟨ns,rfl,_,_⟩:=jN h.1
    rw [fD] at h
    exact⟨ns,rfl,h.1,h.2⟩
  | _=>cases h
theorem oI{W:bD}:∀{ds:List PyData},ds.all (mM W)=true→∃gss:List (List Int),ds=gss.map aq∧∀g∈gss,uA W g
  | [],_=>⟨[],rfl,fun _ h=>by cases h⟩
  | d::r,h=>by
    simp only [List.all_cons,Bool.and_eq_true] at h
    obtain⟨g,rfl,hg⟩:=By h.1
    obtain⟨gss,rfl,hr⟩:=oI h.2
    exact⟨g::gss,rfl,fun x hx=>by
      rcases List.mem_cons.mp hx with rfl | hx
      · exact hg
      · exact hr x hx⟩
theorem yW{W:bD}{gss:List (List Int)}(h:∀g∈gss,uA W g):(gss.map aq).all (mM W)=true:=by
  rw [List.all_eq_true]
  intro d hd
  obtain⟨g,hg,rfl⟩:=List.mem_map.mp hd
  rw [oH,(h g hg).rs,(h g hg).gb]
  rfl
def yz(d:PyData):Prop:=∀ds,d=.tuple ds→ds.length≤50∧∀gss:List (List Int),ds=gss.map aq→gss.length < 64∧gss.flatten.length < 64
theorem j5:∀(ns ms:List Int),PyData.eqvAll (ns.map .int) (ms.map .int)=(ns==ms)
  | [],[]=>by simp [PyData.eqvAll]
  | [],_::_=>by simp [PyData.eqvAll]
  | _::_,[]=>by simp [PyData.eqvAll]
  | x::r,y::s=>by simp [PyData.eqvAll,PyData.eqv,j5 r s]
theorem ph(ns:List Int):SeqAt.shaped (.list (ns.map .int))=true:=(Sh.list (n:=2) fun d hd=>by
  obtain⟨x,_,rfl⟩:=List.mem_map.mp hd
  exact Sh.int).ok (by decide)
theorem yR{e:En}{ns ms:List Int}:bw false e (.l (ns.map .int)) (.l (ms.map .int))=some (.d (.bool (ns==ms))):=by
  unfold bw
  simp only [eN,Option.bind_some,ph,Bool.and_self,if_true,PyData.eqv,j5]
  rfl
theorem yS{e:En}{i:Nat}{ns ms:List Int}(h:e[i]?=some (some (.l (ns.map .int)))):bw false e (.s i) (.l (ms.map .int))=some (.d (.bool (ns==ms))):=by
  unfold bw
  simp only [eN,h,Option.bind_some,ph,Bool.and_self,if_true,PyData.eqv,j5]
  rfl
theorem CG(ns:List Int)(a b:Option Sv)(acc:List PyData)(h:acc.length+ns.length≤1000000):∃b',cM (ah 1) bL cS (ns.map .int) [a,b] acc=some (acc++ns.map .int,[a,b']):=by
  obtain⟨t',hf⟩:=dm (cs:=[a]) (ft:=bL) (fe:=cS) (b:=fun _=>true) (y:=fun y=>y) (ns.map .int) b acc (fun _ _=>rfl) (fun y hy _=>rfl) (by rw [List.length_map];exact h)
  rw [List.filter_eq_self.mpr (fun _ _=>rfl),List.map_id'] at hf
  exact⟨t',hf⟩
theorem tG:∀(gss:List (List Int)) (a b:Option Sv) (acc:List PyData),acc.length+gss.flatten.length≤1000000→∃a' b',gP (ah 0) bL el (ah 1) bL cS (gss.map aq) [a,b] acc=some (acc++gss.flatten.map .int,[a',b'])
  | [],a,b,acc,_=>⟨a,b,by simp [gP]⟩
  | g::r,a,b,acc,h=>by
    simp only [List.flatten_cons,List.length_append] at h
    obtain⟨b1,h1⟩:=CG g (some (.d (aq g))) b acc (by lia)
    obtain⟨a2,b2,h2⟩:=tG r (some (.d (aq g))) b1 (acc++g.map .int) (by rw [List.length_append,List.length_map];lia)
    refine⟨a2,b2,?_⟩
    have hg:ah 0 (aq g) [a,b]=some [some (.d (aq g)),b]:=rfl
    have hi:el [some (.d (aq g)),b]=some (g.map .int,[],[some (.d (aq g)),b]):=gT rfl
    rw [List.map_cons]
    simp only [gP,hg,Option.bind_some,bL,if_true,hi,h1,h2]
    rw [List.flatten_cons,List.map_append,List.append_assoc]
theorem kZ{W:bD}(ok:W.Ok){d:PyData}(hb:yz d):bH [.d (aD W),.d d]=some (.d (.bool (lW W d)),[.d (aD W),.d d]):=by
  have gt:=fun e=>qb (e:=e) (d:=d)
  have wl:=ok.len
  cases c0:qf d with
  | false=>
    rw [c0] at gt
    have e:lW W d=false:=by cases d<;>first | rfl | cases c0
    rw [e]
    generalize aD W=WW at*
    simp? [bH,fU,gt]
  | true=>
    rw [c0] at gt
    obtain⟨ds,rfl⟩:=jC c0
    obtain⟨hb1,hb2⟩:=hb ds rfl
    obtain⟨t',hf⟩:=dm (cs:=[some (.d (aD W))]) (ft:=bL) (fe:=cU) (b:=fun _=>true) (y:=fun y=>.bool (mM W y)) ds none [] (fun _ _=>rfl) (fun y hy _=>by
      have tg:=sO ok y
      show cU [some (.d (aD W)),some (.d y)]=some (.d (.bool (mM W y)),[some (.d (aD W)),some (.d y)])
      generalize mM W y=bb at*
      generalize aD W=WW at*
      simp? [cU,tg]) (by simp;lia)
    rw [List.nil_append,List.filter_eq_self.mpr (fun _ _=>rfl)] at hf
    have hv:=gL (cp:=[(0,"web")]) (nT:=1) (fi:=i6) (g:=ah 1) (ft:=bL) (fe:=cU) (e:=[some (.d (aD W)),some (.d (.tuple ds)),none,none]) (cs:=[some (.d (aD W))]) (t:=[none]) (t':=[t']) (gT rfl) rfl rfl hf
    have ga:=fun e=>pX (e:=e) (mM W) ds
    rw [show lW W (.tuple ds)=(ds.all (mM W)&&Eb W.ties.length (ds.map ic)) from rfl]
    cases c1:ds.all (mM W) with
    | false=>
      rw [c1] at ga
      rw [Bool.false_and]
      generalize (ds.map fun y=>PyData.bool (mM W y))=OO at*
      generalize aD W=WW at*
      simp? [bH,fU,gt,hv,ga]
    | true=>
      rw [c1] at ga
      rw [Bool.true_and]
      obtain⟨gss,rfl,hg⟩:=oI c1
      obtain⟨l1,l2⟩:=hb2 gss rfl
      rw [jM]
      obtain⟨t4,hf4⟩:=dm (cs:=[]) (ft:=bL) (fe:=cT) (b:=fun _=>true) (y:=fun y=>.int ((ic y).headD 0)) (gss.map aq) none [] (fun _ _=>rfl) (fun y hy _=>by
        obtain⟨g,hg',rfl⟩:=List.mem_map.mp hy
        rw [mw]
        have:=(hg g hg').ne
        cases g with
        | nil=>exact absurd rfl this
        | cons x r=>
          have i3:atI ((x::r).map PyData.int) 0=some (.int x):=by rw [List.map_cons];exact ij
          rw [List.headD_cons]
          show cT [some (.d (.tuple ((x::r).map .int)))]=some (.d (.int x),[some (.d (.tuple ((x::r).map .int)))])
          generalize (x::r).map PyData.int=XX at*
          simp? [cT,i3]) (by simp;lia)
      have ef:[]++((gss.map aq).filter fun _=>true).map (fun y=>PyData.int ((ic y).headD 0))=(dD gss).map .int:=by
        rw [List.nil_append,List.filter_eq_self.mpr (fun _ _=>rfl),List.map_map,dD,List.map_map]
        exact List.map_congr_left fun g _=>by show PyData.int ((ic (aq g)).headD 0)=_;rw [mw];rfl
      rw [ef] at hf4
      have hv4:=nX (nT:=1) (fi:=i5) (g:=ah 0) (ft:=bL) (fe:=cT) (e:=[some (.d (aD W)),some (.d (.tuple (gss.map aq))),none,none]) (gT rfl) hf4
      obtain⟨a5,b5,hf5⟩:=tG gss none none [] (by rw [List.length_nil];lia)
      rw [List.nil_append] at hf5
      have hv5:=vo (cp:=[]) (nT:=2) (fi:=i4) (g:=ah 0) (ft:=bL) (fi2:=el) (g2:=ah 1) (ft2:=bL) (fe:=cS) (e:=[some (.d (aD W)),some (.d (.tuple (gss.map aq))),some (.l ((dD gss).map .int)),none]) (cs:=[]) (t:=[none,none]) (t':=[a5,b5]) (gT rfl) rfl rfl hf5
      have s1:∀e:En,e[2]?=some (some (.l ((dD gss).map .int)))→g1 bG e [.s 2]=some (.l ((bi (dD gss)).map .int)):=fun e he=>lU he (by rw [dD,List.length_map];exact l1)
      have s2:∀e:En,e[3]?=some (some (.l (gss.flatten.map .int)))→g1 bG e [.s 3]=some (.l ((bi gss.flatten).map .int)):=fun e he=>lU he l2
      have e1:∀e:En,e[2]?=some (some (.l ((dD gss).map .int)))→bw false e (.s 2) (.l ((bi (dD gss)).map .int))=some (.d (.bool (dD gss==bi (dD gss)))):=fun e he=>yS he
      have e2:∀e:En,bw false e (.l ((bi gss.flatten).map .int)) (.l ((di W.ties.length).map .int))=some (.d (.bool (bi gss.flatten==di W.ties.length))):=fun e=>yR
      have g1':=BA (W:=W)
      have gl2:∀e,g1 bZ e [.d (.tuple (W.ties.map aG))]=some (.d (.int (W.ties.length:Int))):=fun e=>by
        show some (Rv.d (.int (((W.ties.map aG).length:Nat):Int)))=_
        rw [List.length_map]
      have lr:∀(fs:FA) (e e1:En) (n:Nat),n≤16→fs e=some ([.d (.int (n:Int))],e1)→iU fs e=some (.l ((di n).map .int),e1):=fun fs e e1 n hn h=>by
        unfold iU;rw [h]
        simp only [Option.bind_some,bO]
        rw [if_pos (by lia),Int.toNat_natCast]
      have hr:∀e:En,iU (aa (aF (g1 bZ) (aa (au bU (ac 0) (vC (.int 1))) ag)) ag) (some (.d (aD W))::e)=some (.l ((di W.ties.length).map .int),some (.d (aD W))::e):=fun e=>lr _ _ _ _ wl (by
        generalize W.ties.map aG=TT at*
        generalize aD W=WW at*
        simp? [g1',gl2])
      clear hf hf4 hf5 ef lr
      unfold Eb
      generalize (dD gss==bi (dD gss))=b1 at*
      generalize (bi gss.flatten==di W.ties.length)=b2 at*
      generalize (dD gss).map PyData.int=FF at*
      generalize (bi (dD gss)).map PyData.int=SF at*
      generalize gss.flatten.map PyData.int=LL at*
      generalize (bi gss.flatten).map PyData.int=SL at*
      generalize (di W.ties.length).map PyData.int=RR at*
      generalize ((gss.map aq).map fun y=>PyData.bool (mM W y))=OO at*
      generalize gss.map aq=GG at*
      generalize aD W=WW at*
      cases b1<;>simp? [bH,fU,gt,hv,ga,hv4,hv5,s1,s2,e1,e2,hr]
theorem qi{thing:Sv}{many:Int}:∀(ds:List PyData) (lo:Int) (v3:Option Sv),∃w2 w3,fx [] (ah 3) a_ ds [some thing,some (.d (.int many)),some (.d (.int lo)),v3]=some (if ki many lo ds=true then .nx [some thing,some (.d (.int many)),w2,w3] else .rt (.d (.bool false)) [some thing,some (.d (.int many)),w2,w3])
  | [],lo,v3=>⟨_,_,rfl⟩
  | x::r,lo,v3=>by
    have q1:=fun e=>AK (e:=e) (d:=x)
    have q2:=fun e=>DK (e:=e) (d:=x)
    have hg:ah 3 x [some thing,some (.d (.int many)),some (.d (.int lo)),v3]=some [some thing,some (.d (.int many)),some (.d (.int lo)),some (.d x)]:=rfl
    cases c:fF lo (many - 1) x with
    | false=>
      have hb:a_ [some thing,some (.d (.int many)),some (.d (.int lo)),some (.d x)]=some (.rt (.d (.bool false)) [some thing,some (.d (.int many)),some (.d (.int lo)),some (.d x)]):=by
        cases hn:C' x with
        | false=>
          rw [wB] at hn
          cases p:uS x with
          | false=>
            rw [p] at q1
            simp? [a_,q1]
          | true=>
            have p2:rY x=true:=by
              rw [p] at hn
              cases z:rY x with
              | true=>rfl
              | false=>rw [z] at hn;cases hn
            rw [p] at q1
            rw [p2] at q2
            simp? [a_,q1,q2]
        | true=>
          cases x with
          | int i=>
            have z1:uS (.int i)=true:=rfl
            have z2:rY (.int i)=false:=rfl
            rw [z1] at q1
            rw [z2] at q2
            by_cases k1:lo≤i
            · have k2:¬i < many:=fun k2=>by
                have:fF lo (many - 1) (.int i)=true:=by simp only [fF,Bool.and_eq_true,decide_eq_true_eq];lia
                rw [this] at c;cases c
              simp? [a_,q1,q2,dP,k1,k2]
            · simp? [a_,q1,q2,dP,k1]
          | _=>cases hn
      refine⟨some (.d (.int lo)),some (.d x),?_⟩
      simp only [fx,hg,Option.bind_some,hb,ki,c,Bool.false_and,Bool.false_eq_true,if_false]
    | true=>
      obtain⟨i,rfl,i1,i2⟩:=gC c
      have z1:uS (.int i)=true:=rfl
      have z2:rY (.int i)=false:=rfl
      rw [z1] at q1
      rw [z2] at q2
      have i3:i < many:=by lia
      have hb:a_ [some thing,some (.d (.int many)),some (.d (.int lo)),some (.d (.int i))]=some (.nx [some thing,some (.d (.int many)),some (.d (.int (i+1))),some (.d (.int i))]):=by
        simp? [a_,q1,q2,dP,i1,i3]
      obtain⟨w2,w3,ih⟩:=qi (thing:=thing) (many:=many) r (i+1) (some (.d (.int i)))
      refine⟨w2,w3,?_⟩
      simp only [fx,hg,Option.bind_some,hb,ki,c,Bool.true_and,fN]
      rw [if_pos bP]
      exact ih
theorem vh{ds:List PyData}{many:Int}:dq [.d (.tuple ds),.d (.int many)]=some (.d (.bool (ki many 0 ds)),[.d (.tuple ds),.d (.int many)]):=by
  have gt:=fun e=>qb (e:=e) (d:=.tuple ds)
  rw [show qf (.tuple ds)=true from rfl] at gt
  obtain⟨w2,w3,hf⟩:=qi (thing:=.d (.tuple ds)) (many:=many) ds 0 none
  have hs:∀Wl,eC Wl gh (ah 3) a_ [some (.d (.tuple ds)),some (.d (.int many)),some (.d (.int 0)),none]=some (if ki many 0 ds=true then .nx [some (.d (.tuple ds)),some (.d (.int many)),w2,w3] else .rt (.d (.bool false)) [some (.d (.tuple ds)),some (.d (.int many)),w2,w3]):=fun Wl=>by
    rw [dJ (show gh _=_ from gT rfl)]
    exact hf
  cases c2:ki many 0 ds with
  | false=>
    rw [c2] at hs
    simp only [Bool.false_eq_true,if_false] at hs
    simp? [dq,iq,gt,hs]
  | true=>
    rw [c2] at hs
    simp only [if_true] at hs
    simp? [dq,iq,gt,hs]
abbrev lc(W:bD)(thing:PyData)(seen:List Int)(last:Int)(v4 v5:Option Sv):En:=[some (.d (aD W)),some (.d thing),some (.l (seen.map .int)),some (.d (.int last)),v4,v5]
def vx(W:bD)(x:Int):List Int→List Int→Bool
  | _,[]=>true
  | seen,k::r=> !seen.contains k&&oj W k x&&vx W x (seen++[k]) r
theorem AS{W:bD}{thing:PyData}{last x:Int}{xs:List Int}(hx:pD W x):∀(ns:List Int) (seen:List Int) (v5:Option Sv),(∀k∈ns,pD W k)→seen.length+ns.length≤1000→∃w2 w5,fx [] (ah 5) cQ (ns.map .int) (lc W thing seen last (some (.d (aq (x::xs)))) v5)=some (if vx W x seen ns=true then .nx (lc W thing (seen++ns) last (some (.d (aq (x::xs)))) w5) else .rt (.d (.bool false)) [some (.d (aD W)),some (.d thing),w2,some (.d (.int last)),some (.d (aq (x::xs))),w5])
  | [],seen,v5,_,_=>⟨none,v5,by rw [List.append_nil];rfl⟩
  | k::r,seen,v5,hk,hl=>by
    simp only [List.length_cons] at hl
    have hg:ah 5 (.int k) (lc W thing seen last (some (.d (aq (x::xs)))) v5)=some (lc W thing seen last (some (.d (aq (x::xs)))) (some (.d (.int k)))):=rfl
    have i1:=io (hk k (by simp))
    have i2:=io hx
    have i3:atI ((x::xs).map PyData.int) 0=some (.int x):=by rw [List.map_cons];exact ij
    have g1':=BA (W:=W)
    have gn:∀e:En,e[2]?=some (some (.l (seen.map .int)))→uK false e (.d (.int k)) (.s 2)=some (.d (.bool (seen.contains k))):=fun e he=>Bv he
    have ge:∀e:En,bw true e (.d (.tuple [.int (W.tie k).top,.int (W.tie k).bot])) (.d (.tuple [.int (W.tie x).top,.int (W.tie x).bot]))=some (.d (.bool (!oj W k x))):=fun e=>by
      have:=lO (e:=e) (a:=(W.tie k).top) (b:=(W.tie k).bot) (c:=(W.tie x).top) (d:=(W.tie x).bot)
      unfold bw at this ⊢
      simp only [eN,Option.bind_some] at this ⊢
      split at this
      case isFalse=>cases this
      case isTrue hh=>
      rw [if_pos hh]
      have:=PyData.bool.inj (Rv.d.inj (Option.some.inj this))
      simp only [Bool.false_eq_true,if_false] at this
      rw [if_pos trivial,this]
      rfl
    have hbody:cQ (lc W thing seen last (some (.d (aq (x::xs)))) (some (.d (.int k))))=some (if (!seen.contains k&&oj W k x)=true then .nx (lc W thing (seen++[k]) last (some (.d (aq (x::xs)))) (some (.d (.int k)))) else .rt (.d (.bool false)) (lc W thing seen last (some (.d (aq (x::xs)))) (some (.d (.int k))))):=by
      have lt:(seen.map PyData.int).length < 1000000:=by rw [List.length_map];lia
      unfold lc aq
      rw [List.map_append,show [k].map PyData.int=[PyData.int k] from rfl]
      generalize seen.contains k=s at*
      generalize oj W k x=q at*
      generalize seen.map PyData.int=SS at*
      generalize (x::xs).map PyData.int=XX at*
      generalize W.ties.map aG=TT at*
      generalize aD W=WW at*
      unfold aG at i1 i2
      cases s<;>cases q<;>simp? [cQ,gn,g1',i1,i2,i3,ge,lt]
    rw [List.map_cons]
    cases c:(!seen.contains k&&oj W k x) with
    | false=>
      rw [c] at hbody
      simp only [Bool.false_eq_true,if_false] at hbody
      refine⟨some (.l (seen.map .int)),some (.d (.int k)),?_⟩
      simp only [fx,hg,Option.bind_some,hbody,vx,c,Bool.false_and,Bool.false_eq_true,if_false]
    | true=>
      rw [c] at hbody
      simp only [if_true] at hbody
      obtain⟨w2,w5,ih⟩:=AS (thing:=thing) (last:=last) (xs:=xs) hx r (seen++[k]) (some (.d (.int k))) (fun y hy=>hk y (by simp [hy])) (by simp;lia)
      refine⟨w2,w5,?_⟩
      simp only [fx,hg,Option.bind_some,hbody,vx,c,Bool.true_and]
      rw [if_pos bP,ih,List.append_assoc]
      rfl
def l5(W:bD):List Int→Int→List PyData→Bool
  | _,_,[]=>true
  | seen,last,d::r=>match d with
    | .tuple ds=>ki (W.ties.length:Int) 0 ds&& !ds.isEmpty&&vx W ((ds.map fN).headD 0) seen (ds.map fN)&&decide (last≤(ds.map fN).headD 0)&&l5 W (seen++ds.map fN) ((ds.map fN).headD 0) r
    | _=>false
theorem AV{W:bD}(ok:W.Ok){thing:PyData}:∀(ds:List PyData) (seen:List Int) (last:Int) (v4 v5:Option Sv),seen.length+17*ds.length≤900→∃w2 w3 w4 w5 seen',fx [] (ah 4) aL ds (lc W thing seen last v4 v5)=some (if l5 W seen last ds=true then .nx [some (.d (aD W)),some (.d thing),some (.l (seen'.map .int)),w3,w4,w5] else .rt (.d (.bool false)) [some (.d (aD W)),some (.d thing),w2,w3,w4,w5])∧(l5 W seen last ds=true→seen'=seen++(ds.map ic).flatten)
  | [],seen,last,v4,v5,_=>⟨none,_,_,_,seen,rfl,fun _=>by simp⟩
  | d::r,seen,last,v4,v5,hl=>by
    simp only [List.length_cons] at hl
    have wl:=ok.len
    have g1':=BA (W:=W)
    have gl2:∀e,g1 bZ e [.d (.tuple (W.ties.map aG))]=some (.d (.int (W.ties.length:Int))):=fun e=>by
      show some (Rv.d (.int (((W.ties.map aG).length:Nat):Int)))=_
      rw [List.length_map]
    have hg:ah 4 d (lc W thing seen last v4 v5)=some (lc W thing seen last (some (.d d)) v5):=rfl
    have gt:=fun e=>qb (e:=e) (d:=d)
    have stop:l5 W seen last (d::r)=false→(∃w,aL (lc W thing seen last (some (.d d)) v5)=some (.rt (.d (.bool false)) [some (.d (aD W)),some (.d thing),w,some (.d (.int last)),some (.d d),v5])∨∃w5,aL (lc W thing seen last (some (.d d)) v5)=some (.rt (.d (.bool false)) [some (.d (aD W)),some (.d thing),w,some (.d (.int last)),some (.d d),w5]))→∃w2 w3 w4 w5 seen',fx [] (ah 4) aL (d::r) (lc W thing seen last v4 v5)=some (if l5 W seen last (d::r)=true then .nx [some (.d (aD W)),some (.d thing),some (.l (seen'.map .int)),w3,w4,w5] else .rt (.d (.bool false)) [some (.d (aD W)),some (.d thing),w2,w3,w4,w5])∧(l5 W seen last (d::r)=true→seen'=seen++((d::r).map ic).flatten):=fun e hh=>by
      obtain⟨w,hh | ⟨w5,hh⟩⟩:=hh
      · refine⟨w,some (.d (.int last)),some (.d d),v5,[],?_,fun z=>by rw [e] at z;cases z⟩
        rw [e]
        simp only [fx,hg,Option.bind_some,hh,Bool.false_eq_true,if_false]
      · refine⟨w,some (.d (.int last)),some (.d d),w5,[],?_,fun z=>by rw [e] at z;cases z⟩
        rw [e]
        simp only [fx,hg,Option.bind_some,hh,Bool.false_eq_true,if_false]
    cases c0:qf d with
    | false=>
      rw [c0] at gt
      refine stop (by cases d<;>first | rfl | cases c0) ⟨some (.l (seen.map .int)),.inl ?_⟩
      unfold lc
      generalize seen.map PyData.int=SS at*
      generalize aD W=WW at*
      simp? [aL,gt]
    | true=>
      rw [c0] at gt
      obtain⟨ds,rfl⟩:=jC c0
      have tr:=vh (ds:=ds) (many:=(W.ties.length:Int))
      have ge:=fun e=>v_ (e:=e) (xs:=ds)
      cases c1:ds.isEmpty with
      | true=>
        rw [c1] at ge
        refine stop (by simp [l5,c1]) ⟨some (.l (seen.map .int)),.inl ?_⟩
        unfold lc
        generalize seen.map PyData.int=SS at*
        generalize aD W=WW at*
        simp? [aL,gt,ge]
      | false=>
        rw [c1] at ge
        cases c2:ki (W.ties.length:Int) 0 ds with
        | false=>
          rw [c2] at tr
          refine stop (by simp [l5,c2]) ⟨some (.l (seen.map .int)),.inl ?_⟩
          unfold lc
          generalize seen.map PyData.int=SS at*
          generalize W.ties.map aG=TT at*
          generalize aD W=WW at*
          simp? [aL,gt,ge,g1',gl2,tr]
        | true=>
          rw [c2] at tr
          obtain⟨ns,rfl,nd,hk⟩:=jN c2
          cases ns with
          | nil=>cases c1
          | cons x xs=>
            have hx:pD W x:=⟨(hk x (by simp)).1,(hk x (by simp)).2⟩
            have nl:=jF W.ties.length (x::xs) nd hk
            obtain⟨w2,w5,hi⟩:=AS (thing:=thing) (last:=last) (xs:=xs) hx (x::xs) seen v5 (fun k h=>⟨(hk k h).1,(hk k h).2⟩) (by lia)
            have hs:∀Wl,eC Wl gf (ah 5) cQ (lc W thing seen last (some (.d (.tuple ((x::xs).map .int)))) v5)=some (if vx W x seen (x::xs)=true then .nx (lc W thing (seen++(x::xs)) last (some (.d (.tuple ((x::xs).map .int)))) w5) else .rt (.d (.bool false)) [some (.d (aD W)),some (.d thing),w2,some (.d (.int last)),some (.d (.tuple ((x::xs).map .int))),w5]):=fun Wl=>by
              rw [dJ (show gf _=_ from gT rfl)]
              exact hi
            have i3:atI ((x::xs).map PyData.int) 0=some (.int x):=by rw [List.map_cons];exact ij
            have iv:=fD (x::xs)
            have eB:l5 W seen last (.tuple ((x::xs).map .int)::r)=(vx W x seen (x::xs)&&decide (last≤x)&&l5 W (seen++(x::xs)) x r):=by
              simp only [l5,iv,c2,c1,Bool.not_false,Bool.true_and,List.headD_cons]
            unfold lc at hs
            cases c3:vx W x seen (x::xs) with
            | false=>
              rw [c3] at hs
              simp only [Bool.false_eq_true,if_false] at hs
              refine stop (by rw [eB,c3];rfl) ⟨w2,.inr ⟨w5,?_⟩⟩
              clear hi stop
              unfold lc
              generalize seen.map PyData.int=SS at*
              generalize (x::xs).map PyData.int=XX at*
              generalize W.ties.map aG=TT at*
              generalize aD W=WW at*
              simp? [aL,gt,ge,g1',gl2,tr,hs]
            | true=>
              rw [c3] at hs
              simp only [if_true] at hs
              by_cases c4:last≤x
              · have c5:¬x < last:=by lia
                have hb:aL (lc W thing seen last (some (.d (.tuple ((x::xs).map .int)))) v5)=some (.nx (lc W thing (seen++(x::xs)) x (some (.d (.tuple ((x::xs).map .int)))) w5)):=by
                  clear hi stop
                  unfold lc
                  generalize (seen++(x::xs)).map PyData.int=S2 at*
                  generalize seen.map PyData.int=SS at*
                  generalize (x::xs).map PyData.int=XX at*
                  generalize W.ties.map aG=TT at*
                  generalize aD W=WW at*
                  simp? [aL,gt,ge,g1',gl2,tr,hs,i3,c5]
                obtain⟨a2,a3,a4,a5,s',ih,ih2⟩:=AV ok (thing:=thing) r (seen++(x::xs)) x (some (.d (.tuple ((x::xs).map .int)))) w5 (by simp only [List.length_append];lia)
                have eB2:l5 W seen last (.tuple ((x::xs).map .int)::r)=l5 W (seen++(x::xs)) x r:=by rw [eB,c3,decide_eq_true c4];rfl
                refine⟨a2,a3,a4,a5,s',?_,fun z=>?_⟩
                · rw [eB2]
                  simp only [fx,hg,Option.bind_some,hb]
                  rw [if_pos bP]
                  exact ih
                · rw [eB2] at z
                  rw [ih2 z,List.map_cons,List.flatten_cons,show ic (.tuple ((x::xs).map .int))=x::xs from iv,List.append_assoc]
              · have c5:x < last:=by lia
                refine stop (by rw [eB,decide_eq_false c4,Bool.and_false];rfl) ⟨some (.l ((seen++(x::xs)).map .int)),.inr ⟨w5,?_⟩⟩
                clear hi stop
                unfold lc
                generalize (seen++(x::xs)).map PyData.int=S2 at*
                generalize seen.map PyData.int=SS at*
                generalize (x::xs).map PyData.int=XX at*
                generalize W.ties.map aG=TT at*
                generalize aD W=WW at*
                simp? [aL,gt,ge,g1',gl2,tr,hs,i3,c5]
theorem tX{l m:List Int}(hl:l.Nodup)(hm:m.Nodup)(h:∀x,x∈l↔ x∈m):l.Perm m:=by
  induction l generalizing m with
  | nil=>
    cases m with
    | nil=>exact .refl _
    | cons y r=>exact absurd ((h y).mpr (by simp)) (by simp)
  | cons x r ih=>
    have hx:x∈m:=(h x).mp (by simp)
    have nd:=List.nodup_cons.mp hl
    refine List.Perm.trans (.cons x (ih nd.2 (hm.erase x) fun y=>?_)) (List.perm_cons_erase hx).symm
    rw [hm.mem_erase_iff]
    constructor
    · intro hy
      exact⟨fun e=>nd.1 (e ▸ hy),(h y).mp (by simp [hy])⟩
    · rintro⟨ne,hy⟩
      rcases List.mem_cons.mp ((h y).mpr hy) with e | e
      · exact absurd e ne
      · exact e
theorem qp{n:Nat}{x:Int}:x∈di n↔ 0≤x∧x < (n:Int):=by
  refine⟨qO,fun h=>?_⟩
  unfold di
  exact List.mem_map.mpr ⟨x.toNat,List.mem_range.mpr (by lia),by show((x.toNat:Nat):Int)=x;lia⟩
theorem zW(n:Nat):(di n).Pairwise (· ≤·):=by
  unfold di
  rw [List.pairwise_map]
  exact List.pairwise_lt_range.imp fun{a b} h=>by show(a:Int)≤(b:Int);lia
theorem mf{n:Nat}{l:List Int}(h:∀x∈l,0≤x∧x < (n:Int)):bi l=di n↔ l.Nodup∧l.length=n:=by
  constructor
  · intro e
    obtain⟨a,b,_⟩:=xq (names:=l) (n:=n) ((e ▸ (hV l)).symm)
    exact⟨b,a⟩
  · rintro⟨nd,hl⟩
    have p:l.Perm (di n):=tX nd (zV n) fun x=>by
      refine⟨fun hx=>qp.mpr (h x hx),fun hx=>?_⟩
      by_cases z:x∈l
      · exact z
      · have:=jF n (x::l) (List.nodup_cons.mpr ⟨z,nd⟩) (fun k hk=>by
          rcases List.mem_cons.mp hk with rfl | hk
          · exact qp.mp hx
          · exact h k hk)
        simp at this
        lia
    exact(gK p.symm (zW n)).symm
theorem tR{W:bD}{x:Int}:∀{ns seen:List Int},ns.Nodup→(vx W x seen ns=true↔ (∀k∈ns,k∉seen)∧(ns.all fun k=>oj W k x)=true)
  | [],seen,_=>by simp [vx]
  | k::r,seen,nd=>by
    have n2:=List.nodup_cons.mp nd
    simp only [vx,Bool.and_eq_true,tR n2.2,List.all_cons,Bool.not_eq_true',List.contains_eq_mem,decide_eq_false_iff_not]
    constructor
    · rintro⟨⟨a,b⟩,c,d⟩
      refine⟨fun y hy=>?_,b,d⟩
      rcases List.mem_cons.mp hy with rfl | hy
      · exact a
      · exact fun z=>c y hy (List.mem_append.mpr (.inl z))
    · rintro⟨a,b,d⟩
      refine⟨⟨a k (by simp),b⟩,fun y hy z=>?_,d⟩
      rcases List.mem_append.mp z with z | z
      · exact a y (by simp [hy]) z
      · simp at z
        subst z
        exact n2.1 hy
theorem oO{W:bD}:∀{ds:List PyData} {seen:List Int} {last:Int},seen.Nodup→(l5 W seen last ds=true↔ ds.all (mM W)=true∧(seen++(ds.map ic).flatten).Nodup∧(last::dD (ds.map ic)).Pairwise (· ≤·))
  | [],seen,last,h=>by simp [l5,dD,h]
  | d::r,seen,last,h=>by
    cases c0:qf d with
    | false=>
      have e1:l5 W seen last (d::r)=false:=by cases d<;>first | rfl | cases c0
      have e2:mM W d=false:=by cases d<;>first | rfl | cases c0
      simp [e1,e2]
    | true=>
      obtain⟨ds,rfl⟩:=jC c0
      cases c1:ki (W.ties.length:Int) 0 ds with
      | false=>simp [l5,mM,c1]
      | true=>
        obtain⟨ns,rfl,nd,hk⟩:=jN c1
        have iv:=fD ns
        have ie:(ns.map PyData.int).isEmpty=ns.isEmpty:=by cases ns<;>rfl
        have e1:ic (.tuple (ns.map .int))=ns:=iv
        have eB:l5 W seen last (.tuple (ns.map .int)::r)=(!ns.isEmpty&&vx W (ns.headD 0) seen ns&&decide (last≤ns.headD 0)&&l5 W (seen++ns) (ns.headD 0) r):=by
          simp only [l5,iv,c1,ie,Bool.true_and]
        have eg:mM W (.tuple (ns.map .int))=vw W ns:=by
          rw [show PyData.tuple (ns.map .int)=aq ns from rfl,oH,c1,Bool.true_and]
        rw [eB,List.all_cons,eg,List.map_cons,e1,List.flatten_cons,show dD (ns::r.map ic)=ns.headD 0::dD (r.map ic) from rfl]
        simp only [Bool.and_eq_true,vw,tR nd,decide_eq_true_eq]
        generalize hx:ns.headD 0=x at*
        have app:seen++(ns++(r.map ic).flatten)=(seen++ns)++(r.map ic).flatten:=by rw [List.append_assoc]
        rw [app]
        constructor
        · rintro⟨⟨⟨a,b,c⟩,d⟩,e⟩
          have n2:(seen++ns).Nodup:=List.nodup_append.mpr ⟨h,nd,fun p hp q hq z=>b q hq (z ▸ hp)⟩
          obtain⟨f1,f2,f3⟩:=(oO n2).mp e
          refine⟨⟨⟨a,c⟩,f1⟩,f2,List.pairwise_cons.mpr ⟨fun y hy=>?_,f3⟩⟩
          rcases List.mem_cons.mp hy with rfl | hy
          · exact d
          · exact Int.le_trans d ((List.pairwise_cons.mp f3).1 y hy)
        · rintro⟨⟨⟨a,c⟩,f1⟩,f2,f3⟩
          have n2:(seen++ns).Nodup:=(List.nodup_append.mp f2).1
          have f4:=List.pairwise_cons.mp f3
          refine⟨⟨⟨a,fun k hk z=>(List.nodup_append.mp n2).2.2 k z k hk rfl,c⟩,f4.1 x (by simp)⟩,(oO n2).mpr ⟨f1,f2,f4.2⟩⟩
theorem Bz{W:bD}(ds:List PyData):lW W (.tuple ds)=(l5 W [] (-1) ds&&((ds.map ic).flatten.length==W.ties.length)):=by
  rw [Bool.eq_iff_iff]
  simp only [lW,Bool.and_eq_true,oO List.nodup_nil,beq_iff_eq,Eb,List.nil_append]
  constructor
  · rintro⟨a,b,c⟩
    obtain⟨gss,rfl,hg⟩:=oI a
    rw [jM] at*
    have rg:∀g∈gss,∀k∈g,0≤k∧k < (W.ties.length:Int):=fun g h=>(ud (hg g h).rs).2
    have rf:∀k∈gss.flatten,0≤k∧k < (W.ties.length:Int):=fun k hk=>by
      obtain⟨g,h1,h2⟩:=List.mem_flatten.mp hk
      exact rg g h1 k h2
    obtain⟨p1,p2⟩:=(mf rf).mp c
    refine⟨⟨a,p1,List.pairwise_cons.mpr ⟨fun y hy=>?_,by rw [b];exact pk _⟩⟩,p2⟩
    obtain⟨g,h1,rfl⟩:=List.mem_map.mp hy
    have:=(hg g h1).ne
    cases g with
    | nil=>exact absurd rfl this
    | cons x r=>
      have:=(rg _ h1 x (by simp)).1
      show -1≤x
      lia
  · rintro⟨⟨a,b,c⟩,d⟩
    obtain⟨gss,rfl,hg⟩:=oI a
    rw [jM] at*
    have rf:∀k∈gss.flatten,0≤k∧k < (W.ties.length:Int):=fun k hk=>by
      obtain⟨g,h1,h2⟩:=List.mem_flatten.mp hk
      exact(ud (hg g h1).rs).2 k h2
    exact⟨a,gK (.refl _) (List.pairwise_cons.mp c).2,(mf rf).mpr ⟨b,d⟩⟩
theorem vg{W:bD}(ok:W.Ok){d:PyData}(hb:yz d):bV [.d (aD W),.d d]=some (.d (.bool (lW W d)),[.d (aD W),.d d]):=by
  have gt:=fun e=>qb (e:=e) (d:=d)
  cases c0:qf d with
  | false=>
    rw [c0] at gt
    have e:lW W d=false:=by cases d<;>first | rfl | cases c0
    rw [e]
    generalize aD W=WW at*
    simp? [bV,fR,gt]
  | true=>
    rw [c0] at gt
    obtain⟨ds,rfl⟩:=jC c0
    obtain⟨w2,w3,w4,w5,s',hf,he⟩:=AV ok (thing:=.tuple ds) ds [] (-1) none none (by have:=(hb ds rfl).1;simp;lia)
    have hs:∀Wl,eC Wl gg (ah 4) aL [some (.d (aD W)),some (.d (.tuple ds)),some (.l []),some (.d (.int (-1))),none,none]=some (if l5 W [] (-1) ds=true then .nx [some (.d (aD W)),some (.d (.tuple ds)),some (.l (s'.map .int)),w3,w4,w5] else .rt (.d (.bool false)) [some (.d (aD W)),some (.d (.tuple ds)),w2,w3,w4,w5]):=fun Wl=>by
      rw [dJ (show gg _=_ from gT rfl)]
      exact hf
    rw [Bz]
    cases c:l5 W [] (-1) ds with
    | false=>
      rw [c] at hs
      simp only [Bool.false_eq_true,if_false] at hs
      rw [Bool.false_and]
      generalize aD W=WW at*
      simp? [bV,fR,gt,hs]
    | true=>
      rw [c] at hs
      simp only [if_true] at hs
      rw [Bool.true_and]
      have e:=he c
      rw [List.nil_append] at e
      rw [←e]
      have g1':=BA (W:=W)
      have gl2:∀e,g1 bZ e [.d (.tuple (W.ties.map aG))]=some (.d (.int (W.ties.length:Int))):=fun e=>by
        show some (Rv.d (.int (((W.ties.map aG).length:Nat):Int)))=_
        rw [List.length_map]
      have gl:∀e:En,e[2]?=some (some (.l (s'.map .int)))→g1 bZ e [.s 2]=some (.d (.int (s'.length:Int))):=fun e h=>by
        simp [g1,bZ,bT,h]
      have ge:∀e:En,bw false e (.d (.int (s'.length:Int))) (.d (.int (W.ties.length:Int)))=some (.d (.bool (s'.length==W.ties.length))):=fun e=>by
        rw [gS]
        have:((s'.length:Int)==(W.ties.length:Int))=(s'.length==W.ties.length):=by
          rw [Bool.eq_iff_iff,beq_iff_eq,beq_iff_eq]
          lia
        rw [this];rfl
      clear he hf
      generalize (s'.length==W.ties.length)=bb at*
      generalize (s'.length:Int)=n1 at*
      generalize (W.ties.length:Int)=n2 at*
      generalize s'.map PyData.int=SS at*
      generalize W.ties.map aG=TT at*
      generalize aD W=WW at*
      simp? [bV,fR,gt,hs,g1',gl,gl2,ge]
def j4(W:bD)(ts:List eM):bD:=⟨W.things,ts,W.pat,W.asks⟩
structure GS (W:bD) (ts:List eM) (gss:List (List Int)):Prop where
  ne:∀g∈gss,g≠[]
  pw:∀g∈gss,g.Pairwise (· < ·)
  inr:∀g∈gss,∀k∈g,0≤k∧k < (ts.length:Int)
  nd:gss.flatten.Nodup
  len:gss.flatten.length=ts.length
  fs:(dD gss).Pairwise (· ≤·)
  ch:∀g∈gss,∀k∈g,oj (j4 W ts) k (g.headD 0)=true
theorem jy{g:List Int}(h:g≠[]):g.headD 0∈g:=by
  cases g with
  | nil=>exact absurd rfl h
  | cons x r=>simp
theorem uo{W:bD}{ts:List eM}{t:eM}{k:Int}(h0:0≤k)(h1:k < (ts.length:Int)):(j4 W (ts++[t])).tie k=(j4 W ts).tie k:=by
  unfold bD.tie j4
  rw [List.getD_eq_getElem?_getD,List.getD_eq_getElem?_getD]
  show((ts++[t])[k.toNat]?).getD default=(ts[k.toNat]?).getD default
  rw [List.getElem?_append_left (by lia)]
theorem Af{W:bD}{ts:List eM}{t:eM}:(j4 W (ts++[t])).tie (ts.length:Int)=t:=by
  unfold bD.tie j4
  rw [List.getD_eq_getElem?_getD]
  show((ts++[t])[((ts.length:Int)).toNat]?).getD default=t
  rw [Int.toNat_natCast]
  simp
theorem ol{W:bD}{ts:List eM}{t:eM}{a b:Int}(h0:0≤a∧a < (ts.length:Int))(h1:0≤b∧b < (ts.length:Int)):oj (j4 W (ts++[t])) a b=oj (j4 W ts) a b:=by
  unfold oj
  rw [uo h0.1 h0.2,uo h1.1 h1.2]
theorem jx:∀{gss:List (List Int)},(∀g∈gss,g≠[])→gss.length≤gss.flatten.length
  | [],_=>Nat.le_refl _
  | g::r,h=>by
    have:=jx (gss:=r) fun x hx=>h x (by simp [hx])
    have:=List.length_pos_iff.mpr (h g (by simp))
    simp only [List.length_cons,List.flatten_cons,List.length_append]
    lia
theorem pR{x:Int}:∀{gss:List (List Int)} {j:Nat} {g:List Int},gss[j]?=some g→(gss.set j (g++[x])).flatten.Perm (gss.flatten++[x])
  | [],_,_,h=>by simp at h
  | h::r,0,g,e=>by
    simp at e
    subst e
    rw [List.set_cons_zero,List.flatten_cons,List.flatten_cons,List.append_assoc,List.append_assoc]
    exact(List.perm_append_comm).append_left h
  | h::r,j+1,g,e=>by
    rw [List.set_cons_succ,List.flatten_cons,List.flatten_cons,List.append_assoc]
    exact(pR (by simpa using e)).append_left h
theorem tH{x:Int}:∀{gss:List (List Int)} {j:Nat} {g:List Int},gss[j]?=some g→g≠[]→dD (gss.set j (g++[x]))=dD gss
  | [],_,_,h,_=>by simp at h
  | h::r,0,g,e,n=>by
    simp at e
    subst e
    cases h with
    | nil=>exact absurd rfl n
    | cons a b=>rfl
  | h::r,j+1,g,e,n=>by
    show h.headD 0::dD (r.set j (g++[x]))=h.headD 0::dD r
    rw [tH (by simpa using e) n]
theorem GS.new{W:bD}{ts:List eM}{gss:List (List Int)}(h:GS W ts gss)(t:eM):GS W (ts++[t]) (gss++[[(ts.length:Int)]]):=by
  have l1:((ts++[t]).length:Int)=(ts.length:Int)+1:=by simp
  have fl:(gss++[[(ts.length:Int)]]).flatten=gss.flatten++[(ts.length:Int)]:=by simp
  refine⟨fun g hg=>?_,fun g hg=>?_,fun g hg k hk=>?_,?_,?_,?_,fun g hg k hk=>?_⟩
  · rcases List.mem_append.mp hg with hg | hg
    · exact h.ne g hg
    · simp at hg;subst hg;simp
  · rcases List.mem_append.mp hg with hg | hg
    · exact h.pw g hg
    · simp at hg;subst hg;simp
  · rw [l1]
    rcases List.mem_append.mp hg with hg | hg
    · have:=h.inr g hg k hk;lia
    · simp at hg;subst hg;simp at hk;subst hk;lia
  · rw [fl,List.nodup_append]
    refine⟨h.nd,by simp,fun a ha b hb e=>?_⟩
    simp at hb
    obtain⟨g,h1,h2⟩:=List.mem_flatten.mp ha
    have:=h.inr g h1 a h2
    lia
  · rw [fl,List.length_append,h.len,List.length_append];rfl
  · rw [show dD (gss++[[(ts.length:Int)]])=dD gss++[(ts.length:Int)] by simp [dD],List.pairwise_append]
    refine⟨h.fs,by simp,fun a ha b hb=>?_⟩
    simp at hb
    obtain⟨g,h1,rfl⟩:=List.mem_map.mp ha
    have:=h.inr g h1 _ (jy (h.ne g h1))
    lia
  · rcases List.mem_append.mp hg with hg | hg
    · rw [ol (h.inr g hg k hk) (h.inr g hg _ (jy (h.ne g hg)))]
      exact h.ch g hg k hk
    · simp at hg;subst hg;simp at hk;subst hk
      simp [oj]
theorem GS.add{W:bD}{ts:List eM}{gss:List (List Int)}(h:GS W ts gss){t:eM}{j:Nat}{g:List Int}(hj:gss[j]?=some g)(hc:((j4 W (ts++[t])).tie (g.headD 0)).top=t.top∧((j4 W (ts++[t])).tie (g.headD 0)).bot=t.bot):GS W (ts++[t]) (gss.set j (g++[(ts.length:Int)])):=by
  have l1:((ts++[t]).length:Int)=(ts.length:Int)+1:=by simp
  have hg0:=List.mem_of_getElem? hj
  have hn:=h.ne g hg0
  have fl:=pR (x:=(ts.length:Int)) hj
  have hd:(g++[(ts.length:Int)]).headD 0=g.headD 0:=by
    cases g with
    | nil=>exact absurd rfl hn
    | cons a b=>rfl
  have hh:=h.inr g hg0 _ (jy hn)
  refine⟨fun g' hg=>?_,fun g' hg=>?_,fun g' hg k hk=>?_,?_,?_,?_,fun g' hg k hk=>?_⟩
  · rcases List.mem_or_eq_of_mem_set hg with hg | rfl
    · exact h.ne g' hg
    · simp
  · rcases List.mem_or_eq_of_mem_set hg with hg | rfl
    · exact h.pw g' hg
    · rw [List.pairwise_append]
      refine⟨h.pw g hg0,by simp,fun a ha b hb=>?_⟩
      simp at hb
      have:=h.inr g hg0 a ha
      lia
  · rw [l1]
    rcases List.mem_or_eq_of_mem_set hg with hg | rfl
    · have:=h.inr g' hg k hk;lia
    · rcases List.mem_append.mp hk with hk | hk
      · have:=h.inr g hg0 k hk;lia
      · simp at hk;lia
  · rw [fl.nodup_iff,List.nodup_append]
    refine⟨h.nd,by simp,fun a ha b hb e=>?_⟩
    simp at hb
    obtain⟨g,h1,h2⟩:=List.mem_flatten.mp ha
    have:=h.inr g h1 a h2
    lia
  · rw [fl.length_eq,List.length_append,h.len,List.length_append];rfl
  · rw [tH hj hn];exact h.fs
  · rcases List.mem_or_eq_of_mem_set hg with hg | rfl
    · rw [ol (h.inr g' hg k hk) (h.inr g' hg _ (jy (h.ne g' hg)))]
      exact h.ch g' hg k hk
    · rw [hd]
      rcases List.mem_append.mp hk with hk | hk
      · rw [ol (h.inr g hg0 k hk) hh]
        exact h.ch g hg0 k hk
      · simp at hk
        subst hk
        unfold oj
        rw [Af,hc.1,hc.2]
        simp
theorem GS.right{W:bD}{gss:List (List Int)}(h:GS W W.ties gss):lW W (.tuple (gss.map aq))=true:=by
  have hw:j4 W W.ties=W:=rfl
  have gp:∀g∈gss,uA W g:=fun g hg=>⟨A7 (h.pw g hg) (h.inr g hg),by
    have:=h.ne g hg
    have c:=h.ch g hg
    rw [hw] at c
    simp only [vw,Bool.and_eq_true,List.all_eq_true]
    exact⟨by cases g with | nil=>exact absurd rfl this | cons=>rfl,c⟩⟩
  have rf:∀k∈gss.flatten,0≤k∧k < (W.ties.length:Int):=fun k hk=>by
    obtain⟨g,h1,h2⟩:=List.mem_flatten.mp hk
    exact h.inr g h1 k h2
  simp only [lW,yW gp,jM,Bool.true_and,Eb,Bool.and_eq_true,beq_iff_eq]
  exact⟨gK (.refl _) h.fs,(mf rf).mpr ⟨h.nd,h.len⟩⟩
abbrev iZ(ds:List Int)(W:bD)(so:List PyData)(ts:List eM)(gss:List (List Int))(v5 v6 v7 v8 v9:Option Sv):En:=[some (.l (ds.map .int)),some (.d (aD W)),some (.l so),some (.l (ts.map aG)),some (.n (gss.map fun g=>g.map .int)),v5,v6,v7,v8,v9]
def se(g:List Int):PyData:=.list (g.map .int)
def D1:PyData→Int
  | .tuple [.int j,_]=>j
  | _=>0
def C9(W:bD)(a b:Int):PyData→Bool
  | .tuple [_,.list gl]=>(W.tie ((gl.map fN).headD 0)).top==a&&(W.tie ((gl.map fN).headD 0)).bot==b
  | _=>false
theorem uI{ts:List eM}:aR (ts.map aG)=true:=by
  induction ts with
  | nil=>rfl
  | cons t r ih=>
    rw [List.map_cons]
    simp only [aR,ih,Bool.and_true]
    unfold aG
    simp [bv,aR]
theorem Ac{W:bD}{a b:Int}{ds:List Int}{so:List PyData}{ts:List eM}{gss:List (List Int)}{v5 v6 v7 v9:Option Sv}(hn:∀g∈gss,g≠[])(hk:∀g∈gss,∀k∈g,0≤k∧k < (ts.length:Int))(hl:gss.length≤100)(fso:aR so=true)(f5:∀s,v5=some s→iz s=true)(f6:∀s,v6=some s→iz s=true)(f7:∀s,v7=some s→iz s=true):
    ∃al:List Int,nO 4 (aO 9 (cm [(8,"_law_own"),(3,"_law_ties_here")] 2 dn (cW (aH (ah 2) (aH (ah 3) cG))) cE en)) (iZ ds W so ts gss v5 v6 v7 (some (.d (.tuple [.int a,.int b]))) v9)=some (.nx (iZ ds W so ts gss v5 v6 v7 (some (.d (.tuple [.int a,.int b]))) (some (.l (al.map .int)))))∧al.length≤gss.length∧
      ∀k∈al,∃(j:Nat) (g:List Int),k=(j:Int)∧gss[j]?=some g∧((j4 W ts).tie (g.headD 0)).top=a∧((j4 W ts).tie (g.headD 0)).bot=b:=by
  have em:∀x∈ce 0 (gss.map se),∃(j:Nat) (g:List Int),x=.tuple [.int (j:Int),.list (g.map .int)]∧gss[j]?=some g:=fun x hx=>by
    obtain⟨j,hj⟩:=List.getElem?_of_mem hx
    rw [dU,List.getElem?_map] at hj
    obtain⟨y,h1,h2⟩:=Option.map_eq_some_iff.mp hj
    obtain⟨g,h3,h4⟩:=Option.map_eq_some_iff.mp h1
    refine⟨j,g,?_,h3⟩
    rw [←h2,←h4,Nat.zero_add]
    rfl
  obtain⟨t',lt',hf⟩:=gQ (cs:=[some (.d (.tuple [.int a,.int b])),some (.l (ts.map aG))]) (g:=cW (aH (ah 2) (aH (ah 3) cG))) (ft:=cE) (fe:=en) (b:=C9 (j4 W ts) a b) (y:=fun x=>.int (D1 x)) (u:=Ah) 2 (ce 0 (gss.map se)) [none,none] [] rfl (fun x hx t ht=>by
      obtain⟨j,g,rfl,_⟩:=em x hx
      exact Bb (cs:=[some (.d (.tuple [.int a,.int b])),some (.l (ts.map aG))]) rfl rfl rfl t ht) (fun x hx=>by
      obtain⟨j,g,rfl,_⟩:=em x hx
      rfl) (fun x hx=>by
      obtain⟨j,g,rfl,hg⟩:=em x hx
      have gm:=List.mem_of_getElem? hg
      have iv:=fD g
      have hh:=hk g gm _ (jy (hn g gm))
      have i1:=io (W:=j4 W ts) (k:=g.headD 0) hh
      rw [show(j4 W ts).ties=ts from rfl] at i1
      have i3:atI (g.map PyData.int) 0=some (.int (g.headD 0)):=by
        have:=hn g gm
        cases g with
        | nil=>exact absurd rfl this
        | cons x r=>rw [List.map_cons];exact ij
      have ge:=fun e=>lO (e:=e) (a:=((j4 W ts).tie (g.headD 0)).top) (b:=((j4 W ts).tie (g.headD 0)).bot) (c:=a) (d:=b)
      show cE [some (.d (.tuple [.int a,.int b])),some (.l (ts.map aG)),some (.d (.int (j:Int))),some (.d (.list (g.map .int)))]=some (((j4 W ts).tie (((g.map PyData.int).map fN).headD 0)).top==a&&((j4 W ts).tie (((g.map PyData.int).map fN).headD 0)).bot==b,[some (.d (.tuple [.int a,.int b])),some (.l (ts.map aG)),some (.d (.int (j:Int))),some (.d (.list (g.map .int)))])
      rw [iv]
      clear iv
      generalize g.map PyData.int=GG at*
      generalize ts.map aG=TT at*
      unfold aG at i1
      generalize g.headD 0=h0 at*
      simp? [cE,i1,i3,ge]) (fun x hx _=>by
      obtain⟨j,g,rfl,_⟩:=em x hx
      rfl) (by simp [dW];lia)
  have hi:dn ((iZ ds W so ts gss v5 v6 v7 (some (.d (.tuple [.int a,.int b]))) v9).set 4 (some (.d (.list (gss.map se)))))=some (ce 0 (gss.map se),[],(iZ ds W so ts gss v5 v6 v7 (some (.d (.tuple [.int a,.int b]))) v9).set 4 (some (.d (.list (gss.map se))))):=by
    generalize gss.map se=LL at*
    simp? [dn,kQ,sJ]
  have hv:=gL (cp:=[(8,"_law_own"),(3,"_law_ties_here")]) (nT:=2) (fi:=dn) (g:=cW (aH (ah 2) (aH (ah 3) cG))) (ft:=cE) (fe:=en) (cs:=[some (.d (.tuple [.int a,.int b])),some (.l (ts.map aG))]) (t:=[none,none]) (t':=t') hi rfl rfl hf
  refine⟨((ce 0 (gss.map se)).filter (C9 (j4 W ts) a b)).map D1,?_,?_,fun k hk'=>?_⟩
  · have eo:[]++((ce 0 (gss.map se)).filter (C9 (j4 W ts) a b)).map (fun x=>PyData.int (D1 x))=(((ce 0 (gss.map se)).filter (C9 (j4 W ts) a b)).map D1).map .int:=by
      rw [List.nil_append,List.map_map];rfl
    rw [eo] at hv
    generalize ((ce 0 (gss.map se)).filter (C9 (j4 W ts) a b)).map D1=al at*
    have fb:∀o:Option Sv,(∀s,o=some s→iz s=true)→(match o with | some s=>iz s | none=>true)=true:=fun o h=>by
      cases o with
      | none=>rfl
      | some s=>exact h s rfl
    have xm:(gss.map fun g=>g.map PyData.int).map PyData.list=gss.map se:=by rw [List.map_map];rfl
    unfold nO
    rw [show fJ (iZ ds W so ts gss v5 v6 v7 (some (.d (.tuple [.int a,.int b]))) v9) 4=some (gss.map fun g=>g.map .int) from rfl,Option.bind_some,xm]
    unfold aO
    rw [hv]
    have fl:gR 4 (((iZ ds W so ts gss v5 v6 v7 (some (.d (.tuple [.int a,.int b]))) v9).set 4 (some (.d (.list (gss.map se))))).set 9 (some (.l (al.map .int))))=true:=by
      have q5:=fb v5 f5;have q6:=fb v6 f6;have q7:=fb v7 f7
      simp [gR,iz,ja,pS,fso,uI,bv,aR]
      exact⟨q5,q6,q7⟩
    rw [Option.bind_some,show(xG 9 (Rv.l (al.map .int),(iZ ds W so ts gss v5 v6 v7 (some (.d (.tuple [.int a,.int b]))) v9).set 4 (some (.d (.list (gss.map se))))).1 (Rv.l (al.map .int),(iZ ds W so ts gss v5 v6 v7 (some (.d (.tuple [.int a,.int b]))) v9).set 4 (some (.d (.list (gss.map se))))).2).map Fl.nx=some (.nx (((iZ ds W so ts gss v5 v6 v7 (some (.d (.tuple [.int a,.int b]))) v9).set 4 (some (.d (.list (gss.map se))))).set 9 (some (.l (al.map .int))))) from rfl,Option.bind_some]
    dsimp only
    rw [if_pos fl]
    rfl
  · rw [List.length_map]
    refine Nat.le_trans (List.length_filter_le _ _) ?_
    rw [dW,List.length_map]
    exact Nat.le_refl _
  · obtain⟨x,h1,rfl⟩:=List.mem_map.mp hk'
    obtain⟨h2,h3⟩:=List.mem_filter.mp h1
    obtain⟨j,g,rfl,hg⟩:=em x h2
    simp only [C9,fD,Bool.and_eq_true,beq_iff_eq] at h3
    exact⟨j,g,rfl,hg,h3.1,h3.2⟩
theorem yV{W:bD}(ok:W.Ok){a0 b0 a1 b1:Int}(h0:lJ a0 b0)(h1:lJ a1 b1){ds:List Int}(hd:ig ds){ts:List eM}{gss:List (List Int)}(hG:GS W ts gss)(hts:ts.length≤16){t:eM}(hto:t.Ok W.things){v7 v8 v9:Option Sv}:
    ∃ds' t' gss' w7 w8 w9,dj (iZ ds W [.tuple [.int a0,.int b0],.tuple [.int a1,.int b1]] ts gss (some (.d (.int (ts.length:Int)))) (some (.d (aG t))) v7 v8 v9)=some (.nx (iZ ds' W [.tuple [.int a0,.int b0],.tuple [.int a1,.int b1]] (ts++[t']) gss' (some (.d (.int (ts.length:Int)))) (some (.d (aG t))) w7 w8 w9))∧ig ds'∧GS W (ts++[t']) gss'∧t'.Ok W.things:=by
  obtain⟨n,d1,t1,n0,n1,hd1⟩:=iK hd
  have q4:∀e:En,aM e (.d (.int n)) (.d (.int 4))=some (.d (.int (n % 4))):=fun e=>aB (by decide)
  obtain⟨z,hz,ha⟩:=f9 (xs:=[PyData.tuple [.int a0,.int b0],.tuple [.int a1,.int b1],.tuple [.int a0,.int b0],.tuple [.int t.top,.int t.bot]]) (i:=n % 4) (oz (by decide)) (oA (k:=4) (by decide))
  obtain⟨a,b,rfl,hc⟩:∃a b,z=.tuple [.int a,.int b]∧lJ a b:=by
    simp only [List.mem_cons,List.not_mem_nil,or_false] at hz
    rcases hz with rfl | rfl | rfl | rfl
    · exact⟨_,_,rfl,h0⟩
    · exact⟨_,_,rfl,h1⟩
    · exact⟨_,_,rfl,h0⟩
    · exact⟨_,_,rfl,hto.c0,hto.c1,hto.b0,hto.b1,hto.cop⟩
  obtain⟨c0,c1,c2,c3,c4⟩:=hc
  have gl:=jx hG.ne
  have glen:=hG.len
  obtain⟨t',rfl⟩:∃t':eM,t'=⟨t.one,t.other,a,b,t.worth⟩:=⟨_,rfl⟩
  have hto':eM.Ok W.things ⟨t.one,t.other,a,b,t.worth⟩:=⟨hto.o0,hto.o1,hto.o2,c0,c1,c2,c3,hto.w0,hto.w1,c4⟩
  have hn:=hG.ne
  have hk:∀g∈gss,∀k∈g,0≤k∧k < ((ts++[(⟨t.one,t.other,a,b,t.worth⟩:eM)]).length:Int):=fun g hg k hk=>by
    have:=hG.inr g hg k hk
    simp
    lia
  obtain⟨al,hal,hall,hin⟩:=Ac (W:=W) (a:=a) (b:=b) (ds:=d1) (so:=[.tuple [.int a0,.int b0],.tuple [.int a1,.int b1]]) (ts:=ts++[⟨t.one,t.other,a,b,t.worth⟩]) (gss:=gss) (v5:=some (.d (.int (ts.length:Int)))) (v6:=some (.d (aG t))) (v7:=some (.d (.int n))) (v9:=v9) hn hk (by lia) (by simp [aR,bv]) (fun s e=>by cases e;rfl) (fun s e=>by cases e;unfold aG;simp [iz,bv,aR]) (fun s e=>by cases e;rfl)
  have f4:∀e:En,bA e (.d (.int n)) (.d (.int 4))=some (.d (.int (n / 4))):=fun e=>bj (by decide) (dA (by decide) (by decide))
  have f12:∀e:En,bA e (.d (.int n)) (.d (.int 12))=some (.d (.int (n / 12))):=fun e=>bj (by decide) (dA (by decide) (by decide))
  have m3:∀e:En,aM e (.d (.int (n / 4))) (.d (.int 3))=some (.d (.int (n / 4 % 3))):=fun e=>aB (by decide)
  have cu:L2.cutD [PyData.int t.one,.int t.other,.tuple [.int t.top,.int t.bot],.int t.worth] none (some 2)=[.int t.one,.int t.other]:=rfl
  have gad:∀e:En,aJ e (.d (.tuple [.int t.one,.int t.other])) (.d (.tuple [.tuple [.int a,.int b],.int t.worth]))=some (.d (.tuple [.int t.one,.int t.other,.tuple [.int a,.int b],.int t.worth])):=fun e=>dg (by simp)
  have lt:(ts.map aG).length < 1000000:=by rw [List.length_map];lia
  have eap:(ts++[(⟨t.one,t.other,a,b,t.worth⟩:eM)]).map aG=ts.map aG++[.tuple [.int t.one,.int t.other,.tuple [.int a,.int b],.int t.worth]]:=by
    rw [List.map_append];rfl
  have h4:∀g:FS,aA (aO 7 (dQ 1 bg (aa (ac 0) ag)))
    (aA (aO 8 (au bU (bS (aa (au bU (ac 2) (vC (.int 0))) (aa (au bU (ac 2) (vC (.int 1))) (aa (au bU (ac 2) (vC (.int 0))) (aa (au bU (ac 6) (vC (.int 2))) ag))))) (au aM (ac 7) (vC (.int 4)))))
    (aA (gF (eR cI (ac 3) (aa (au aJ (rA (ac 6) gE (dS (vC (.int 2)))) (aY (aa (ac 8) (aa (au bU (ac 6) (vC (.int 3))) ag)))) ag)))
    (aA (nO 4 (aO 9 (cm [(8,"_law_own"),(3,"_law_ties_here")] 2 dn (cW (aH (ah 2) (aH (ah 3) cG))) cE en))) g))) (iZ ds W [.tuple [.int a0,.int b0],.tuple [.int a1,.int b1]] ts gss (some (.d (.int (ts.length:Int)))) (some (.d (aG t))) v7 v8 v9)=g (iZ d1 W [.tuple [.int a0,.int b0],.tuple [.int a1,.int b1]] (ts++[⟨t.one,t.other,a,b,t.worth⟩]) gss (some (.d (.int (ts.length:Int)))) (some (.d (aG t))) (some (.d (.int n))) (some (.d (.tuple [.int a,.int b]))) (some (.l (al.map .int)))):=fun g=>by
    unfold iZ at hal ⊢
    rw [eap] at hal ⊢
    generalize (gss.map fun g=>g.map PyData.int)=GG at*
    generalize al.map PyData.int=AL at*
    clear eap hin hk
    generalize hTT:ts.map aG=TT at*
    clear hTT
    generalize aD W=WW at*
    unfold aG at hal ⊢
    simp? [t1,q4,ha,cu,gad,lt,hal]
  have gz:∀e:En,e[9]?=some (some (.l (al.map .int)))→bw true e (.s 9) (.l [])=some (.d (.bool (!(al.map PyData.int).isEmpty))):=fun e he=>by
    have:=pZ (neg:=true) he (ph al)
    simpa using this
  have hN:∀v7 v8 v9,ro 4 (bS (aa (ac 5) ag)) (iZ d1 W [.tuple [.int a0,.int b0],.tuple [.int a1,.int b1]] (ts++[⟨t.one,t.other,a,b,t.worth⟩]) gss (some (.d (.int (ts.length:Int)))) (some (.d (aG t))) v7 v8 v9)=some (.d .none,iZ d1 W [.tuple [.int a0,.int b0],.tuple [.int a1,.int b1]] (ts++[⟨t.one,t.other,a,b,t.worth⟩]) (gss++[[(ts.length:Int)]]) (some (.d (.int (ts.length:Int)))) (some (.d (aG t))) v7 v8 v9):=fun v7 v8 v9=>by
    have l:gss.length < 1000000:=by lia
    unfold iZ
    rw [show(gss++[[(ts.length:Int)]]).map (fun g=>g.map PyData.int)=(gss.map fun g=>g.map PyData.int)++[[.int (ts.length:Int)]] by rw [List.map_append];rfl]
    have l2:(gss.map fun g=>g.map PyData.int).length < 1000000:=by rw [List.length_map];exact l
    generalize (gss.map fun g=>g.map PyData.int)=GG at*
    generalize (ts++[(⟨t.one,t.other,a,b,t.worth⟩:eM)]).map aG=TT at*
    generalize aD W=WW at*
    generalize aG t=DT at*
    simp? [ro,fJ,l2]
  by_cases cc:al≠[]∧0 < n / 4 % 3
  · obtain⟨ne,r0⟩:=cc
    have lp:0 < (al.length:Int):=by
      have:=List.length_pos_iff.mpr ne
      lia
    have m12:∀e:En,aM e (.d (.int (n / 12))) (.d (.int (al.length:Int)))=some (.d (.int (n / 12 % (al.length:Int)))):=fun e=>aB lp
    have p0:=oz (n:=n / 12) lp;have p1:=oA (n:=n / 12) lp
    generalize n / 12 % (al.length:Int)=r at*
    have ai:=pH (ns:=al) (k:=r) p0 p1
    obtain⟨j,g,ej,hg,hc1,hc2⟩:=hin (al.getD r.toNat 0) (by
      rw [List.getD_eq_getElem?_getD,List.getElem?_eq_getElem (by lia)]
      exact List.getElem_mem _)
    rw [ej] at ai
    have hjl:j < gss.length:=(List.getElem?_eq_some_iff.mp hg).1
    have gj:(gss.map fun g=>g.map PyData.int)[j]?=some (g.map .int):=by rw [List.getElem?_map,hg];rfl
    have gle:g.length≤gss.flatten.length:=by
      have:=List.mem_of_getElem? hg
      exact List.Sublist.length_le (List.sublist_flatten_of_mem this)
    refine⟨d1,⟨t.one,t.other,a,b,t.worth⟩,gss.set j (g++[(ts.length:Int)]),some (.d (.int n)),some (.d (.tuple [.int a,.int b])),some (.l (al.map .int)),?_,hd1,hG.add hg ⟨hc1,hc2⟩,hto'⟩
    have hS:mI 4 (au bU (ac 9) (au aM (au bA (ac 7) (vC (.int 12))) (aF (g1 bZ) (aa (ac 9) ag)))) (kb 5) (iZ d1 W [.tuple [.int a0,.int b0],.tuple [.int a1,.int b1]] (ts++[⟨t.one,t.other,a,b,t.worth⟩]) gss (some (.d (.int (ts.length:Int)))) (some (.d (aG t))) (some (.d (.int n))) (some (.d (.tuple [.int a,.int b]))) (some (.l (al.map .int))))=some (.d .none,iZ d1 W [.tuple [.int a0,.int b0],.tuple [.int a1,.int b1]] (ts++[⟨t.one,t.other,a,b,t.worth⟩]) (gss.set j (g++[(ts.length:Int)])) (some (.d (.int (ts.length:Int)))) (some (.d (aG t))) (some (.d (.int n))) (some (.d (.tuple [.int a,.int b]))) (some (.l (al.map .int)))):=by
      have ix:yx (gss.map fun g=>g.map PyData.int).length (j:Int)=some j:=by
        unfold yx
        rw [List.length_map]
        simp [hjl]
      have gl2:∀e:En,e[9]?=some (some (.l (al.map .int)))→g1 bZ e [.s 9]=some (.d (.int (al.length:Int))):=fun e h=>by
        simp [g1,bZ,bT,h]
      have l3:(g.map PyData.int).length < 1000000:=by rw [List.length_map];lia
      have es:(gss.set j (g++[(ts.length:Int)])).map (fun g=>g.map PyData.int)=(gss.map fun g=>g.map PyData.int).set j (g.map .int++[.int (ts.length:Int)]):=by
        rw [List.map_set,List.map_append];rfl
      have ai2:∀e:En,e[9]?=some (some (.l (al.map .int)))→bU e (.s 9) (.d (.int r))=some (.d (.int (j:Int))):=fun e h=>by
        unfold bU
        simp only [bT,h,Option.bind_some,bO,ai,Option.map_some]
      unfold iZ
      rw [es]
      clear es hal hin h4 hN eap ai hk
      generalize al.map PyData.int=AL at*
      generalize (al.length:Int)=LA at*
      generalize (gss.map fun g=>g.map PyData.int)=GG at*
      generalize g.map PyData.int=G1 at*
      generalize (ts++[(⟨t.one,t.other,a,b,t.worth⟩:eM)]).map aG=TT at*
      generalize aD W=WW at*
      generalize aG t=DT at*
      simp? [mI,fJ,kb,f12,m12,gl2,ai2,ix,gj,l3]
    have nb:(al.map PyData.int).isEmpty=false:=by cases al with | nil=>exact absurd rfl ne | cons=>rfl
    unfold dj
    rw [h4]
    have gz2:=gz (iZ d1 W [.tuple [.int a0,.int b0],.tuple [.int a1,.int b1]] (ts++[⟨t.one,t.other,a,b,t.worth⟩]) gss (some (.d (.int (ts.length:Int)))) (some (.d (aG t))) (some (.d (.int n))) (some (.d (.tuple [.int a,.int b]))) (some (.l (al.map .int)))) rfl
    rw [nb] at gz2
    clear h4 hal hin gz hN eap ai hk
    generalize (gss.set j (g++[(ts.length:Int)])).map (fun g=>g.map PyData.int)=G2 at*
    generalize (gss.map fun g=>g.map PyData.int)=GG at*
    generalize al.map PyData.int=AL at*
    generalize (ts++[(⟨t.one,t.other,a,b,t.worth⟩:eM)]).map aG=TT at*
    generalize aD W=WW at*
    generalize aG t=DT at*
    simp? [gz2,f4,m3,r0,hS]
  · refine⟨d1,⟨t.one,t.other,a,b,t.worth⟩,gss++[[(ts.length:Int)]],some (.d (.int n)),some (.d (.tuple [.int a,.int b])),some (.l (al.map .int)),?_,hd1,hG.new _,hto'⟩
    unfold dj
    rw [h4]
    have gz2:=gz (iZ d1 W [.tuple [.int a0,.int b0],.tuple [.int a1,.int b1]] (ts++[⟨t.one,t.other,a,b,t.worth⟩]) gss (some (.d (.int (ts.length:Int)))) (some (.d (aG t))) (some (.d (.int n))) (some (.d (.tuple [.int a,.int b]))) (some (.l (al.map .int)))) rfl
    have hN2:=hN (some (.d (.int n))) (some (.d (.tuple [.int a,.int b]))) (some (.l (al.map .int)))
    have hbool:(al.map PyData.int).isEmpty=true∨¬0 < n / 4 % 3:=by
      cases al with
      | nil=>exact .inl rfl
      | cons x r=>exact .inr fun z=>cc ⟨by simp,z⟩
    clear h4 hal hin gz hN eap hk cc
    generalize (gss++[[(ts.length:Int)]]).map (fun g=>g.map PyData.int)=G2 at*
    generalize (gss.map fun g=>g.map PyData.int)=GG at*
    generalize (al.map PyData.int).isEmpty=eb at*
    generalize al.map PyData.int=AL at*
    generalize (ts++[(⟨t.one,t.other,a,b,t.worth⟩:eM)]).map aG=TT at*
    generalize aD W=WW at*
    generalize aG t=DT at*
    rcases hbool with rfl | r0
    · simp? [gz2,hN2]
    · cases eb<;>simp? [gz2,f4,m3,r0,hN2]
theorem DC{xs:List PyData}{i:Nat}:L2.cutD xs none (some (i:Int))=xs.take i:=by
  unfold L2.cutD
  rw [HT.sIx_none,HT.sIx_nat,List.drop_zero,Nat.sub_zero]
  by_cases h:i≤xs.length
  · rw [Nat.min_eq_left h]
  · rw [Nat.min_eq_right (by lia),List.take_of_length_le (Nat.le_refl _),List.take_of_length_le (by lia)]
theorem DB{xs:List PyData}{i:Nat}:L2.cutD xs (some (i:Int)) none=xs.drop i:=by
  unfold L2.cutD
  rw [HT.sIx_none,HT.sIx_nat]
  by_cases h:i≤xs.length
  · rw [Nat.min_eq_left h]
    exact List.take_of_length_le (by rw [List.length_drop];exact Nat.le_refl _)
  · rw [Nat.min_eq_right (by lia),List.drop_of_length_le (Nat.le_refl _),List.drop_of_length_le (by lia),List.take_nil]
theorem gY{x:PyData}{xs:List PyData}{lo hi:Option Int}(h:x∈L2.cutD xs lo hi):x∈xs:=List.mem_of_mem_drop (List.mem_of_mem_take h)
theorem vf{W:bD}(ok:W.Ok){ds:List Int}(hd:ig ds):∃ds' ts gss,eZ [.l (ds.map .int),.d (aD W)]=some (.d (.tuple [aD (j4 W ts),.tuple (gss.map aq)]),[.l (ds'.map .int),.d (aD W)])∧ig ds'∧GS (j4 W ts) ts gss∧(j4 W ts).Ok:=by
  have wl:=ok.len
  obtain⟨out,e',c1,c2,c3,⟨d1,v,he,hd1⟩⟩:=m8 (g:=ah 1) (ft:=bL) (fe:=fX) (fun i e=>∃ds v,e=[some (.l (ds.map .int)),v]∧ig ds) (fun d=>∃t b,d=.tuple [.int t,.int b]∧lJ t b) (be 0 2) 0 [some (.l (ds.map .int)),none] [] (fun i x e hx ⟨ds,v,he,hd⟩=>by
    subst he
    obtain⟨n,d2,t1,n0, -,hd2⟩:=iK hd
    obtain⟨m,d3,t2, -, -,hd3⟩:=iK hd2
    obtain⟨t,b,t3,hc⟩:=rh n (m % 3) n0
    have gm:∀e:En,aM e (.d (.int m)) (.d (.int 3))=some (.d (.int (m % 3))):=fun e=>aB (by decide)
    refine⟨_,.d (.tuple [.int t,.int b]),_,_,rfl,rfl,?_,rfl,⟨t,b,rfl,hc⟩,d3,some (.d x),rfl,hd3⟩
    simp? [fX,t1,t2,t3,gm]) ⟨ds,none,rfl,hd⟩ (by rw [d9];simp)
  subst he
  rw [List.nil_append] at c1
  rw [d9] at c2
  obtain⟨a0,b0,a1,b1,rfl,h0,h1⟩:∃a0 b0 a1 b1,out=[PyData.tuple [.int a0,.int b0],.tuple [.int a1,.int b1]]∧lJ a0 b0∧lJ a1 b1:=by
    match out,c2,c3 with
    | [x,y],_,c3=>
      obtain⟨a,b,rfl,h⟩:=c3 x (by simp)
      obtain⟨c,d,rfl,h'⟩:=c3 y (by simp)
      exact⟨_,_,_,_,rfl,h,h'⟩
  have hv:cm [(0,"_law_drawn")] 1 iD (ah 1) bL fX [some (.l (ds.map .int)),some (.d (aD W)),none,none,none,none,none,none,none,none]=some (.l [PyData.tuple [.int a0,.int b0],.tuple [.int a1,.int b1]],[some (.l (d1.map .int)),some (.d (aD W)),none,none,none,none,none,none,none,none]):=by
    rw [vq (cp:=[(0,"_law_drawn")]) (nT:=1) (fi:=iD) (e:=[some (.l (ds.map .int)),some (.d (aD W)),none,none,none,none,none,none,none,none]) (e1:=[some (.l (ds.map .int)),some (.d (aD W)),none,none,none,none,none,none,none,none]) (items:=be 0 2) rfl c1 rfl]
    rfl
  obtain⟨e3,hl,hI⟩:=er (own:=[]) (g:=cW (aH (ah 5) (aH (ah 6) cG))) (f:=dj) (fun i e=>∃ds ts gss v5 v6 v7 v8 v9,e=iZ ds W [PyData.tuple [.int a0,.int b0],.tuple [.int a1,.int b1]] ts gss v5 v6 v7 v8 v9∧ig ds∧ts.length=i∧(∀t∈ts,t.Ok W.things)∧GS W ts gss) (ce 0 (W.ties.map aG)) 0 (iZ d1 W [PyData.tuple [.int a0,.int b0],.tuple [.int a1,.int b1]] [] [] none none none none none) (fun i x e hx ⟨ds,ts,gss,v5,v6,v7,v8,v9,he,hd,hlen,hto,hG⟩=>by
    subst he
    rw [dU,List.getElem?_map] at hx
    obtain⟨y,hx1,hx2⟩:=Option.map_eq_some_iff.mp hx
    obtain⟨t,hx3,hx4⟩:=Option.map_eq_some_iff.mp hx1
    subst hx4 hx2
    have ht:=ok.ties t (List.mem_of_getElem? hx3)
    have il:i < W.ties.length:=(List.getElem?_eq_some_iff.mp hx3).1
    obtain⟨ds',t',gss',w7,w8,w9,hb,hd',hG',hto'⟩:=yV ok h0 h1 hd hG (by lia) ht (v7:=v7) (v8:=v8) (v9:=v9)
    refine⟨_,_,?_,hb,bP,ds',ts++[t'],gss',_,_,w7,w8,w9,rfl,hd',by simp;lia,fun t hm=>?_,hG'⟩
    · rw [hlen]
      rfl
    · rcases List.mem_append.mp hm with hm | hm
      · exact hto t hm
      · simp at hm;subst hm;exact hto') ⟨d1,[],[],none,none,none,none,none,rfl,hd1,rfl,fun t h=>(by cases h),⟨fun g h=>(by cases h),fun g h=>(by cases h),fun g h=>(by cases h),by simp,rfl,by simp [dD],fun g h=>(by cases h)⟩⟩
  obtain⟨d2,ts,gss,v5,v6,v7,v8,v9,rfl,hd2,hlen,hto,hG⟩:=hI
  rw [dW,List.length_map,Nat.zero_add] at hlen
  have g1':=BA (W:=W)
  have g0':=GV (W:=W)
  have g2':=GW (W:=W)
  have g3':=GX (W:=W)
  have hs:∀Wl,eC Wl fY (cW (aH (ah 5) (aH (ah 6) cG))) dj (iZ d1 W [PyData.tuple [.int a0,.int b0],.tuple [.int a1,.int b1]] [] [] none none none none none)=some (.nx (iZ d2 W [PyData.tuple [.int a0,.int b0],.tuple [.int a1,.int b1]] ts gss v5 v6 v7 v8 v9)):=fun Wl=>by
    rw [dJ (show fY (iZ d1 W [PyData.tuple [.int a0,.int b0],.tuple [.int a1,.int b1]] [] [] none none none none none)=some (ce 0 (W.ties.map aG),[],iZ d1 W [PyData.tuple [.int a0,.int b0],.tuple [.int a1,.int b1]] [] [] none none none none none) by
      unfold iZ
      generalize W.ties.map aG=TT at*
      generalize aD W=WW at*
      simp? [fY,kQ,sJ,g1'])]
    exact hl
  have gl:=jx hG.ne
  have glen:=hG.len
  obtain⟨t',hc⟩:=dm (cs:=[]) (ft:=bL) (fe:=fW) (b:=fun _=>true) (y:=fun x=>match x with | .list xs=>.tuple xs | d=>d) ((gss.map fun g=>g.map PyData.int).map PyData.list) none [] (fun x hx=>rfl) (fun x hx _=>by
    obtain⟨xs,_,rfl⟩:=List.mem_map.mp hx
    simp? [fW]) (by simp;lia)
  have hv2:=gL (cp:=[]) (nT:=1) (fi:=kR) (g:=ah 0) (ft:=bL) (fe:=fW) (e:=iZ d2 W [PyData.tuple [.int a0,.int b0],.tuple [.int a1,.int b1]] ts gss v5 v6 v7 v8 v9) (e1:=(iZ d2 W [PyData.tuple [.int a0,.int b0],.tuple [.int a1,.int b1]] ts gss v5 v6 v7 v8 v9).set 4 (some (.d (.list ((gss.map fun g=>g.map PyData.int).map .list))))) (cs:=[]) (t:=[none]) (t':=[t']) rfl rfl rfl hc
  have ho:[]++(((gss.map fun g=>g.map PyData.int).map PyData.list).filter fun _=>true).map (fun x=>match x with | .list xs=>PyData.tuple xs | d=>d)=gss.map aq:=by
    rw [List.nil_append,List.filter_eq_self.mpr (fun _ _=>rfl),List.map_map,List.map_map]
    exact List.map_congr_left fun x _=>rfl
  rw [ho] at hv2
  refine⟨d2,ts,gss,?_,hd2,⟨hG.ne,hG.pw,hG.inr,hG.nd,hG.len,hG.fs,hG.ch⟩,⟨ok.t0,ok.t1,hto,by show ts.length≤16;lia,ok.pl,ok.pat,ok.a0,ok.a1⟩⟩
  rw [iw (j4 W ts)]
  show eZ [.l (ds.map .int),.d (aD W)]=some (.d (.tuple [.tuple [.int W.things,.tuple (ts.map aG),.tuple (W.pat.map .int),.int W.asks],.tuple (gss.map aq)]),[.l (d2.map .int),.d (aD W)])
  unfold iZ at hv2 hs
  simp only [List.set_cons_succ,List.set_cons_zero,List.map_nil] at hv2 hs
  clear hc ho hl c1
  generalize gss.map aq=RR at*
  generalize ((gss.map fun g=>g.map PyData.int).map PyData.list)=G3 at*
  generalize (gss.map fun g=>g.map PyData.int)=GG at*
  generalize ts.map aG=T2 at*
  generalize W.ties.map aG=TT at*
  generalize W.pat.map PyData.int=PP at*
  generalize aD W=WW at*
  simp? [eZ,mX,x5,hv,hs,hv2,g0',g2',g3']
def wl:PyData→Nat
  | .tuple xs=>xs.length
  | _=>0
def WS(ds:List PyData):Nat:=(ds.map wl).sum
theorem gu(a b:List PyData):WS (a++b)=WS a+WS b:=by simp [WS]
theorem kr(d:PyData):WS [d]=wl d:=by simp [WS]
theorem uw:∀(xs:List PyData) (n:Nat),WS (xs.take n)≤WS xs
  | [],n=>by simp
  | x::r,0=>by simp [WS]
  | x::r,n+1=>by
    have:=uw r n
    simp only [WS,List.take_succ_cons,List.map_cons,List.sum_cons] at this ⊢
    lia
theorem uu:∀(xs:List PyData) (n:Nat),WS (xs.drop n)≤WS xs
  | [],n=>by simp
  | x::r,0=>Nat.le_refl _
  | x::r,n+1=>by
    have:=uu r n
    simp only [WS,List.drop_succ_cons,List.map_cons,List.sum_cons] at this ⊢
    lia
theorem yq:∀(xs:List PyData) (n:Nat),WS (xs.take n)+WS (xs.drop (n+1))≤WS xs
  | [],n=>by simp [WS]
  | x::r,0=>by
    simp only [List.take_zero,List.drop_succ_cons,List.drop_zero,WS,List.map_nil,List.sum_nil,List.map_cons,List.sum_cons]
    lia
  | x::r,n+1=>by
    have:=yq r n
    simp only [WS,List.take_succ_cons,List.drop_succ_cons,List.map_cons,List.sum_cons] at this ⊢
    lia
theorem yp(xs:List PyData)(lo hi:Option Int):WS (L2.cutD xs lo hi)≤WS xs:=Nat.le_trans (uw _ _) (uu _ _)
theorem uv{a b:List PyData}(h:a.Perm b):WS a=WS b:=by
  induction h with
  | nil=>rfl
  | cons x _ ih=>simp only [WS,List.map_cons,List.sum_cons] at ih ⊢;lia
  | swap x y l=>simp only [WS,List.map_cons,List.sum_cons];lia
  | trans _ _ h1 h2=>exact h1.trans h2
theorem sU(g:List Int):wl (aq g)=g.length:=by simp [wl,aq]
theorem iW:∀(gss:List (List Int)),WS (gss.map aq)=gss.flatten.length
  | []=>rfl
  | g::r=>by
    have:=iW r
    rw [List.flatten_cons,List.length_append,←this,List.map_cons]
    simp only [WS,List.map_cons,List.sum_cons,sU]
structure vA (d:PyData):Prop where
  bd:yz d
  sw:∃b,Sw b 2000000 6 d
theorem dO{b:Bool}{ds:List PyData}(h:∀d∈ds,Sw b 30000 4 d)(hl:ds.length≤50)(hw:WS ds < 64):vA (.tuple ds):=by
  refine⟨fun ds' e=>?_,b,(Sw.tup (n:=30000) (dep:=4) (m:=50) h hl).mono (by decide) (by decide)⟩
  cases e
  refine⟨hl,fun gss e=>?_⟩
  subst e
  rw [iW] at hw
  rw [List.length_map] at hl
  exact⟨by lia,hw⟩
theorem ly{b:Bool}{d:PyData}(h:Sw b 2000000 6 d)(hn:∀ds,d≠.tuple ds):vA d:=⟨fun ds e=>absurd e (hn ds),b,h⟩
structure C8 (z:PyData):Prop where
  sw:∃b,Sw b 30000 4 z
  ln:wl z≤33
def Br(d:PyData):Bool:=eJ d&&d.showable&&decide (d.depth≤2)&&decide (d.shown.length+2≤300)&&PyData.strOk d.shown
theorem tj{d:PyData}(h:Br d=true):Sw true 300 2 d:=by
  simp only [Br,Bool.and_eq_true,decide_eq_true_eq] at h
  exact⟨h.1.1.1.1,h.1.1.1.2,h.1.1.2,h.1.2,h.2⟩
theorem vO:((List.range 17).all fun x=>(List.range 17).all fun i=>Br (.dict [(.int (x:Int),.int (i:Int))]))=true:=by decide+kernel
theorem tD{x i:Int}(h0:0≤x)(h1:x < 17)(h2:0≤i)(h3:i < 17):Sw true 300 2 (.dict [(.int x,.int i)]):=by
  have:=List.all_eq_true.mp (List.all_eq_true.mp vO x.toNat (List.mem_range.mpr (by lia))) i.toNat (List.mem_range.mpr (by lia))
  have:=tj this
  rw [Int.toNat_of_nonneg h0,Int.toNat_of_nonneg h2] at this
  exact this
theorem sL{b:Bool}{i:Int}(h0: -100≤i)(h1:i≤100):Sw b 300 2 (.int i):=(Sw.int (b:=b) (i:=i) (by lia)).mono (by decide) (by decide)
theorem CN{b c:Bool}:Sw b 300 2 (.bool c):=Sw.bool.mono (by decide) (by decide)
theorem EM{b:Bool}:Sw b 300 2 .none:=((lF (k:=0) (d:=.none) rfl).swF rfl b).mono (by simp [wt]) (by decide)
theorem yh:Sw false 300 2 (.list []):=(Sw.lst (n:=200) (dep:=1) (m:=1) (ds:=[]) (fun d h=>by cases h) (by simp)).mono (by decide) (by decide)
theorem A8:Sw true 300 2 (.dict []):=tj (by decide+kernel)
theorem n6{b:Bool}{L:List PyData}(h:∀d∈L,Sw b 300 2 d)(hl:L.length≤33):C8 (.tuple L):=⟨⟨b,(Sw.tup (n:=300) (dep:=2) (m:=33) h hl).mono (by decide) (by decide)⟩,hl⟩
def Dt(A B C XX:List PyData)(x q many:Int)(i:Nat):List PyData:=
  [.tuple (A++B),.tuple (XX++C),.tuple XX.reverse,.list XX,.tuple [],.tuple (XX++[.int many]),
   .tuple (A++[.bool true]++B),.tuple (A++[.none]++B),.tuple (A++[.int (-1)]++B),.tuple (XX++[.int (many - 1)]),
   .tuple (A++[.bool false]++B),.tuple (A++[.bool (x==1)]++B),
   .tuple (A++[.tuple [.int x]]++B),.tuple (A++[.int q]++B),.int x,
   .tuple (A++[.list [.int x]]++B),.tuple (A++[.dict []]++B),.tuple (XX++[.dict [(.int x,.int (i:Int))]]),.tuple (XX++[.list []])]
theorem Bl{A B C XX:List PyData}{x q many:Int}{i:Nat}(hX:∀b,∀d∈XX,Sw b 300 2 d)(hA:∀d∈A,d∈XX)(hB:∀d∈B,d∈XX)(hC:∀d∈C,d∈XX)(lX:XX.length≤16)(lA:A.length≤16)(lB:B.length≤16)(lC:C.length≤16)(x0:0≤x)(x1:x < 17)(q0:0≤q)(q1:q < 17)(m0:0≤many)(m1:many < 17)(i1:i < 17):∀z∈Dt A B C XX x q many i,C8 z:=fun z hz=>by
  have put:∀(b:Bool) (d:PyData),Sw b 300 2 d→C8 (.tuple (A++[d]++B)):=fun b d h=>n6 (b:=b) (fun y hy=>by
    rcases List.mem_append.mp hy with hy | hy
    · rcases List.mem_append.mp hy with hy | hy
      · exact hX b y (hA y hy)
      · simp at hy;subst hy;exact h
    · exact hX b y (hB y hy)) (by simp only [List.length_append,List.length_singleton];lia)
  have yw:∀(b:Bool) (d:PyData),Sw b 300 2 d→C8 (.tuple (XX++[d])):=fun b d h=>n6 (b:=b) (fun y hy=>by
    rcases List.mem_append.mp hy with hy | hy
    · exact hX b y hy
    · simp at hy;subst hy;exact h) (by simp only [List.length_append,List.length_singleton];lia)
  unfold Dt at hz
  simp only [List.mem_cons,List.not_mem_nil,or_false] at hz
  rcases hz with rfl | rfl | rfl | rfl | rfl | rfl | rfl | rfl | rfl | rfl | rfl | rfl | rfl | rfl | rfl | rfl | rfl | rfl | rfl
  · exact n6 (b:=true) (fun y hy=>by
      rcases List.mem_append.mp hy with hy | hy
      · exact hX _ y (hA y hy)
      · exact hX _ y (hB y hy)) (by rw [List.length_append];lia)
  · exact n6 (b:=true) (fun y hy=>by
      rcases List.mem_append.mp hy with hy | hy
      · exact hX _ y hy
      · exact hX _ y (hC y hy)) (by rw [List.length_append];lia)
  · exact n6 (b:=true) (fun y hy=>hX _ y (List.mem_reverse.mp hy)) (by rw [List.length_reverse];lia)
  · exact⟨⟨false,(Sw.lst (n:=300) (dep:=2) (m:=16) (hX false) lX).mono (by decide) (by decide)⟩,by simp [wl]⟩
  · exact n6 (b:=true) (fun y hy=>by cases hy) (by simp)
  · exact yw true _ (sL (by lia) (by lia))
  · exact put true _ CN
  · exact put true _ EM
  · exact put true _ (sL (by lia) (by lia))
  · exact yw true _ (sL (by lia) (by lia))
  · exact put true _ CN
  · exact put true _ CN
  · exact put true _ ((Sw.tup (n:=200) (dep:=0) (m:=1) (fun y hy=>by
      simp at hy
      subst hy
      exact Sw.int (by lia)) (by simp)).mono (by decide) (by decide))
  · exact put true _ (sL (by lia) (by lia))
  · exact⟨⟨true,(sL (by lia) (by lia)).mono (by decide) (by decide)⟩,by simp [wl]⟩
  · exact put false _ ((Sw.lst (n:=200) (dep:=0) (m:=1) (fun y hy=>by
      simp at hy
      subst hy
      exact Sw.int (by lia)) (by simp)).mono (by decide) (by decide))
  · exact put true _ A8
  · exact yw true _ (tD x0 x1 (by lia) (by lia))
  · exact yw false _ yh
theorem x4{g:List Int}(hg:∀k∈g,0≤k∧k < 16):∀b,∀d∈g.map PyData.int,Sw b 300 2 d:=fun b d hd=>by
  obtain⟨x,hx,rfl⟩:=List.mem_map.mp hd
  have:=hg x hx
  exact sL (by lia) (by lia)
theorem pz{g:List Int}(hn:g≠[])(hg:∀k∈g,0≤k∧k < 16)(gl:g.length≤16){n many:Int}(n0:0≤n)(m1:1≤many)(m2:many≤16):∃z,dG [.d (.tuple (g.map .int)),.d (.int n),.d (.int many)]=some (.d z,[.d (.tuple (g.map .int)),.d (.int n),.d (.int many)])∧C8 z:=by
  have lp:0 < (g.length:Int):=by
    have:=List.length_pos_iff.mpr hn
    lia
  have f16:∀e:En,bA e (.d (.int n)) (.d (.int 16))=some (.d (.int (n / 16))):=fun e=>bj (by decide) (dA (by decide) (by decide))
  have f64:∀e:En,bA e (.d (.int n)) (.d (.int 64))=some (.d (.int (n / 64))):=fun e=>bj (by decide) (dA (by decide) (by decide))
  have mL:∀e:En,aM e (.d (.int (n / 16))) (.d (.int (g.length:Int)))=some (.d (.int (n / 16 % (g.length:Int)))):=fun e=>aB lp
  have p0:=oz (n:=n / 16) lp;have p1:=oA (n:=n / 16) lp
  generalize n / 16 % (g.length:Int)=at_ at*
  obtain⟨i,rfl⟩:∃i:Nat,at_=(i:Int):=⟨at_.toNat,by lia⟩
  have mm:∀e:En,aM e (.d (.int (n / 64))) (.d (.int many))=some (.d (.int (n / 64 % many))):=fun e=>aB (by lia)
  have q0:=oz (n:=n / 64) (k:=many) (by lia);have q1:=oA (n:=n / 64) (k:=many) (by lia)
  generalize n / 64 % many=q at*
  have ai:=pH (ns:=g) (k:=(i:Int)) p0 p1
  rw [Int.toNat_natCast] at ai
  have hx:=hg (g.getD i 0) (by
    rw [List.getD_eq_getElem?_getD,List.getElem?_eq_getElem (by lia)]
    exact List.getElem_mem _)
  generalize g.getD i 0=x at*
  have gln:∀e:En,g1 bZ e [.d (.tuple (g.map .int))]=some (.d (.int (g.length:Int))):=fun e=>by
    show some (Rv.d (.int (((g.map PyData.int).length:Nat):Int)))=_
    rw [List.length_map]
  have lX:(g.map PyData.int).length≤16:=by rw [List.length_map];exact gl
  have tp:=fun z=>Ba (xs:=g.map PyData.int) (by lia) (i:Int) z
  have sX:=x4 hg
  generalize g.map PyData.int=XX at*
  have kA:=fun d=>gY (x:=d) (xs:=XX) (lo:=none) (hi:=some (i:Int))
  have kB:=fun d=>gY (x:=d) (xs:=XX) (lo:=some ((i:Int)+1)) (hi:=none)
  have kC:=fun d=>gY (x:=d) (xs:=XX) (lo:=some (i:Int)) (hi:=some ((i:Int)+1))
  have cA:=L2.cut_len (xs:=XX) (lo:=none) (hi:=some (i:Int))
  have cB:=L2.cut_len (xs:=XX) (lo:=some ((i:Int)+1)) (hi:=none)
  have cC:=L2.cut_len (xs:=XX) (lo:=some (i:Int)) (hi:=some ((i:Int)+1))
  generalize y1:L2.cutD XX none (some (i:Int))=A at*
  generalize y2:L2.cutD XX (some ((i:Int)+1)) none=B at*
  generalize y3:L2.cutD XX (some (i:Int)) (some ((i:Int)+1))=C at*
  have k1:∀e:En,aJ e (.d (.tuple A)) (.d (.tuple B))=some (.d (.tuple (A++B))):=fun e=>dg (by lia)
  have k2:∀e:En,aJ e (.d (.tuple XX)) (.d (.tuple C))=some (.d (.tuple (XX++C))):=fun e=>dg (by lia)
  have k3:∀(e:En) (z:PyData),aJ e (.d (.tuple XX)) (.d (.tuple [z]))=some (.d (.tuple (XX++[z]))):=fun e z=>dg (by rw [List.length_singleton];lia)
  have glst:∀(e:En) (xs:List PyData),g1 nA e [.d (.tuple xs)]=some (.l xs):=fun e xs=>rfl
  have gr:∀(e:En) (xs:List PyData),Fi e (.d (.tuple xs)) (.d (.int (-1)))=some (.d (.tuple xs.reverse)):=fun e xs=>rfl
  have gc:∀(e:En) (xs ys:List PyData),e[4]?=some (some (.l xs))→xs.length+ys.length≤1000000→aJ e (.s 4) (.l ys)=some (.l (xs++ys)):=fun e xs ys he h=>oD he h
  have gq:∀e:En,bw false e (.d (.int x)) (.d (.int 1))=some (.d (.bool (x==1))):=fun e=>by rw [gS];rfl
  have gm:∀e:En,aM e (.d (.int n)) (.d (.int 19))=some (.d (.int (n % 19))):=fun e=>aB (by decide)
  obtain⟨z,hz,ha⟩:=f9 (xs:=Dt A B C XX x q many i) (i:=n % 19) (oz (by decide)) (by have:=oA (n:=n) (k:=19) (by decide);simpa [Dt] using this)
  refine⟨z,?_,Bl sX (fun d=>kA d) (fun d=>kB d) (fun d=>kC d) (by lia) (by lia) (by lia) (by lia) hx.1 (by lia) q0 (by lia) (by lia) (by lia) (by lia) z hz⟩
  clear hz kA kB kC sX
  unfold Dt at ha
  generalize hb:(x==1)=bx at*
  generalize n % 19=r at*
  have bd1:∀e:En,iL (D' 0 (kb 3)) (kb 3) (some (.d (.tuple XX))::some (.d (.int n))::some (.d (.int many))::some (.d (.int (i:Int)))::e)=some (.d (.dict [(.int x,.int (i:Int))]),some (.d (.tuple XX))::some (.d (.int n))::some (.d (.int many))::some (.d (.int (i:Int)))::e):=fun e=>by
    simp [iL,D',kb,ai]
  simp only [List.append_assoc,List.cons_append,List.nil_append] at tp ha
  simp? [dG,jk,f16,f64,mL,mm,gln,tp,ai,y1,y2,y3,k1,k2,k3,glst,gr,gc,gq,gm,ha,bd1,j3,C3]
theorem C5{a b:List PyData}(h:a.Sublist b):WS a≤WS b:=by
  induction h with
  | slnil=>exact Nat.le_refl _
  | cons x _ ih=>simp only [WS,List.map_cons,List.sum_cons] at ih ⊢;lia
  | cons_cons x _ ih=>simp only [WS,List.map_cons,List.sum_cons] at ih ⊢;lia
theorem pe{g:List Int}{m:Nat}(hg:∀k∈g,0≤k∧k < 16)(gl:g.length≤m)(b:Bool):Sw b (m*300+5) 3 (aq g):=Sw.tup (n:=300) (dep:=2) (m:=m) (x4 hg b) (by rw [List.length_map];exact gl)
def Dv(A B C C2 GG:List PyData)(one x:PyData)(RS:List PyData)(i:Nat):List PyData:=
  [.tuple (A++[one]++B),.tuple (A++[one]++B),.tuple (A++[one]++B),.tuple (A++[one]++B),.tuple (A++[one]++B),.tuple (A++[one]++B),
   .tuple (A++B),.tuple (GG++C),.tuple GG.reverse,.list GG,.tuple RS,.tuple (A++[.tuple []]++C2),.tuple (A++B++[x]),
   .tuple (A++[.list [x]]++B),.tuple (A++[.dict [(.int 0,.int (i:Int))]]++B),.tuple (GG++[.dict []]),.tuple (GG++[.list []])]
theorem Bn{A B C C2 GG RS:List PyData}{one x:PyData}{i:Nat}(hX:∀b,∀d∈GG,Sw b 5000 3 d)(hA:∀d∈A,d∈GG)(hB:∀d∈B,d∈GG)(hC:∀d∈C,d∈GG)(hC2:∀d∈C2,d∈GG)(lG:GG.length≤16)(lA:A.length≤16)(lB:B.length≤16)(lC:C.length≤16)(lC2:C2.length≤16)
    (wG:WS GG≤16)(wAB:WS A+WS B≤16)(wC:WS C≤16)(wC2:WS C2≤16)(h1:C8 one)(hx:x∈GG)(wx:wl x≤16)(hR:∀d∈RS,Sw true 30000 4 d)(lR:RS.length≤17)(wR:WS RS≤48)(i1:i < 17):∀z∈Dv A B C C2 GG one x RS i,vA z:=fun z hz=>by
  have hX4:∀b,∀d∈GG,Sw b 30000 4 d:=fun b d h=>(hX b d h).mono (by decide) (by decide)
  have put:∀(b:Bool) (d:PyData),Sw b 30000 4 d→wl d≤33→vA (.tuple (A++[d]++B)):=fun b d h w=>dO (b:=b) (fun y hy=>by
    rcases List.mem_append.mp hy with hy | hy
    · rcases List.mem_append.mp hy with hy | hy
      · exact hX4 b y (hA y hy)
      · simp at hy;subst hy;exact h
    · exact hX4 b y (hB y hy)) (by simp only [List.length_append,List.length_singleton];lia) (by rw [gu,gu,kr];lia)
  have yw:∀(b:Bool) (d:PyData),Sw b 30000 4 d→wl d≤33→vA (.tuple (GG++[d])):=fun b d h w=>dO (b:=b) (fun y hy=>by
    rcases List.mem_append.mp hy with hy | hy
    · exact hX4 b y hy
    · simp at hy;subst hy;exact h) (by simp only [List.length_append,List.length_singleton];lia) (by rw [gu,kr];lia)
  obtain⟨b1,s1⟩:=h1.sw
  have p1:=put b1 one s1 h1.ln
  unfold Dv at hz
  simp only [List.mem_cons,List.not_mem_nil,or_false] at hz
  rcases hz with rfl | rfl | rfl | rfl | rfl | rfl | rfl | rfl | rfl | rfl | rfl | rfl | rfl | rfl | rfl | rfl | rfl
  · exact p1
  · exact p1
  · exact p1
  · exact p1
  · exact p1
  · exact p1
  · exact dO (b:=true) (fun y hy=>by
      rcases List.mem_append.mp hy with hy | hy
      · exact hX4 _ y (hA y hy)
      · exact hX4 _ y (hB y hy)) (by rw [List.length_append];lia) (by rw [gu];lia)
  · exact dO (b:=true) (fun y hy=>by
      rcases List.mem_append.mp hy with hy | hy
      · exact hX4 _ y hy
      · exact hX4 _ y (hC y hy)) (by rw [List.length_append];lia) (by rw [gu];lia)
  · exact dO (b:=true) (fun y hy=>hX4 _ y (List.mem_reverse.mp hy)) (by rw [List.length_reverse];lia) (by rw [uv (List.reverse_perm GG)];lia)
  · exact ly ((Sw.lst (n:=5000) (dep:=3) (m:=16) (hX false) lG).mono (by decide) (by decide)) (fun ds e=>by cases e)
  · exact dO hR (by lia) (by lia)
  · exact dO (b:=true) (fun y hy=>by
      rcases List.mem_append.mp hy with hy | hy
      · rcases List.mem_append.mp hy with hy | hy
        · exact hX4 _ y (hA y hy)
        · simp at hy;subst hy;exact(Sw.tup (n:=1) (dep:=0) (m:=0) (ds:=[]) (fun d h=>by cases h) (by simp)).mono (by decide) (by decide)
      · exact hX4 _ y (hC2 y hy)) (by simp only [List.length_append,List.length_singleton];lia) (by rw [gu,gu,kr];simp only [wl,List.length_nil];lia)
  · exact dO (b:=true) (fun y hy=>by
      rcases List.mem_append.mp hy with hy | hy
      · rcases List.mem_append.mp hy with hy | hy
        · exact hX4 _ y (hA y hy)
        · exact hX4 _ y (hB y hy)
      · simp at hy;subst hy;exact hX4 _ y hx) (by simp only [List.length_append,List.length_singleton];lia) (by rw [gu,gu,kr];lia)
  · exact put false _ ((Sw.lst (n:=5000) (dep:=3) (m:=1) (fun y hy=>by
      simp at hy
      subst hy
      exact hX false y hx) (by simp)).mono (by decide) (by decide)) (by simp [wl])
  · exact put true _ ((tD (x:=0) (by decide) (by decide) (by lia) (by lia)).mono (by decide) (by decide)) (by simp [wl])
  · exact yw true _ (A8.mono (by decide) (by decide)) (by simp [wl])
  · exact yw false _ (yh.mono (by decide) (by decide)) (by simp [wl])
def z0:PyData→PyData
  | .tuple [_,d]=>d
  | _=>.none
theorem vP:∀(xs:List PyData) (k:Nat),(ce k xs).map z0=xs:=fun xs k=>by
  refine List.ext_getElem? fun i=>?_
  rw [List.getElem?_map,dU]
  cases xs[i]?<;>rfl
def BM(i j:Int):PyData→Bool
  | .tuple [.int k,_]=> !(i==k || j==k)
  | _=>false
theorem yk{gss:List (List Int)}(hl:gss.length≤16){i j:Int}:∃mr:List (List Int),mr.Sublist gss∧∀v1 v2 v5 v6 v7 v8 v9,cm [(3,"_law_at"),(4,"_law_other")] 2 cf (cW (aH (ah 2) (aH (ah 3) cG))) bo b_ [some (.d (.tuple (gss.map aq))),v1,v2,some (.d (.int i)),some (.d (.int j)),v5,v6,v7,v8,v9]=some (.l (mr.map aq),[some (.d (.tuple (gss.map aq))),v1,v2,some (.d (.int i)),some (.d (.int j)),v5,v6,v7,v8,v9]):=by
  have em:∀x∈ce 0 (gss.map aq),∃(k:Nat) (g:List Int),x=.tuple [.int (k:Int),aq g]:=fun x hx=>by
    obtain⟨k,hk⟩:=List.getElem?_of_mem hx
    rw [dU,List.getElem?_map] at hk
    obtain⟨y,h1,h2⟩:=Option.map_eq_some_iff.mp hk
    obtain⟨g,h3,h4⟩:=Option.map_eq_some_iff.mp h1
    exact⟨k,g,by rw [←h2,←h4,Nat.zero_add]⟩
  obtain⟨t',lt',hf⟩:=gQ (cs:=[some (.d (.int i)),some (.d (.int j))]) (g:=cW (aH (ah 2) (aH (ah 3) cG))) (ft:=bo) (fe:=b_) (b:=BM i j) (y:=z0) (u:=Ah) 2 (ce 0 (gss.map aq)) [none,none] [] rfl (fun x hx t ht=>by
      obtain⟨k,g,rfl⟩:=em x hx
      exact Bb (cs:=[some (.d (.int i)),some (.d (.int j))]) rfl rfl rfl t ht) (fun x hx=>by
      obtain⟨k,g,rfl⟩:=em x hx
      rfl) (fun x hx=>by
      obtain⟨k,g,rfl⟩:=em x hx
      have gi:∀e:En,uK true e (.d (.int (k:Int))) (.d (.tuple [.int i,.int j]))=some (.d (.bool (!(i==(k:Int) || j==(k:Int))))):=fun e=>by rw [oE];rfl
      show bo [some (.d (.int i)),some (.d (.int j)),some (.d (.int (k:Int))),some (.d (aq g))]=some (!(i==(k:Int) || j==(k:Int)),[some (.d (.int i)),some (.d (.int j)),some (.d (.int (k:Int))),some (.d (aq g))])
      generalize (!(i==(k:Int) || j==(k:Int)))=bb at*
      generalize aq g=GD at*
      simp? [bo,gi]) (fun x hx _=>by
      obtain⟨k,g,rfl⟩:=em x hx
      rfl) (by simp [dW];lia)
  have sb:(((ce 0 (gss.map aq)).filter (BM i j)).map z0).Sublist (gss.map aq):=by
    have:=(List.filter_sublist (p:=BM i j) (l:=ce 0 (gss.map aq))).map z0
    rw [vP] at this
    exact this
  obtain⟨mr,h1,h2⟩:=List.sublist_map_iff.mp sb
  refine⟨mr,h1,fun v1 v2 v5 v6 v7 v8 v9=>?_⟩
  rw [List.nil_append,h2] at hf
  refine gL (cp:=[(3,"_law_at"),(4,"_law_other")]) (nT:=2) (fi:=cf) (g:=cW (aH (ah 2) (aH (ah 3) cG))) (ft:=bo) (fe:=b_) (cs:=[some (.d (.int i)),some (.d (.int j))]) (t:=[none,none]) (t':=t') (items:=ce 0 (gss.map aq)) ?_ rfl rfl hf
  generalize gss.map aq=GG at*
  simp? [cf,kQ,sJ]
theorem mT{gss:List (List Int)}(hn:∀g∈gss,g≠[])(hk:∀g∈gss,∀k∈g,0≤k∧k < 16)(hf:gss.flatten.length≤16){n many:Int}(n0:0≤n)(m1:1≤many)(m2:many≤16):∃z,cn [.d (.tuple (gss.map aq)),.d (.int n),.d (.int many)]=some (.d z,[.d (.tuple (gss.map aq)),.d (.int n),.d (.int many)])∧vA z:=by
  have ge:=fun e=>v_ (e:=e) (xs:=gss.map aq)
  by_cases c0:gss=[]
  · subst c0
    have g6:∀e:En,aM e (.d (.int n)) (.d (.int 6))=some (.d (.int (n % 6))):=fun e=>aB (by decide)
    obtain⟨z,hz,ha⟩:=f9 (xs:=[PyData.tuple [],.tuple [.tuple []],.list [],.tuple [.tuple [.int 0]],.none,.tuple [.int 0]]) (i:=n % 6) (oz (by decide)) (oA (k:=6) (by decide))
    refine⟨z,?_,?_⟩
    · simp only [List.map_nil,List.isEmpty_nil] at*
      simp? [cn,f_,ge,g6,ha]
    · have e0:Sw true 300 2 (.tuple []):=(Sw.tup (n:=1) (dep:=0) (m:=0) (ds:=[]) (fun d h=>by cases h) (by simp)).mono (by decide) (by decide)
      have i0:Sw true 300 2 (.int 0):=sL (by decide) (by decide)
      have r0:Sw true 305 3 (.tuple [.int 0]):=Sw.tup (n:=300) (dep:=2) (m:=1) (fun d h=>by simp at h;subst h;exact i0) (by simp)
      have one:∀d,Sw true 30000 4 d→wl d≤33→vA (.tuple [d]):=fun d h w=>dO (b:=true) (fun y hy=>by simp at hy;subst hy;exact h) (by simp) (by rw [kr];lia)
      simp only [List.mem_cons,List.not_mem_nil,or_false] at hz
      rcases hz with rfl | rfl | rfl | rfl | rfl | rfl
      · exact dO (b:=true) (fun y hy=>by cases hy) (by simp) (by simp [WS])
      · exact one _ (e0.mono (by decide) (by decide)) (by simp [wl])
      · exact ly (yh.mono (by decide) (by decide)) (fun ds e=>by cases e)
      · exact one _ (r0.mono (by decide) (by decide)) (by simp [wl])
      · exact ly (EM (b:=true) |>.mono (by decide) (by decide)) (fun ds e=>by cases e)
      · exact one _ (i0.mono (by decide) (by decide)) (by simp [wl])
  · have l0:=List.length_pos_iff.mpr c0
    have gl:=jx hn
    have ie:(gss.map aq).isEmpty=false:=by cases gss with | nil=>exact absurd rfl c0 | cons=>rfl
    rw [ie] at ge
    have lp:0 < (gss.length:Int):=by lia
    have f64:∀e:En,bA e (.d (.int n)) (.d (.int 64))=some (.d (.int (n / 64))):=fun e=>bj (by decide) (dA (by decide) (by decide))
    have f1024:∀e:En,bA e (.d (.int n)) (.d (.int 1024))=some (.d (.int (n / 1024))):=fun e=>bj (by decide) (dA (by decide) (by decide))
    have f16:∀e:En,bA e (.d (.int n)) (.d (.int 16))=some (.d (.int (n / 16))):=fun e=>bj (by decide) (dA (by decide) (by decide))
    have mL:∀e:En,aM e (.d (.int (n / 64))) (.d (.int (gss.length:Int)))=some (.d (.int (n / 64 % (gss.length:Int)))):=fun e=>aB lp
    have mL2:∀e:En,aM e (.d (.int (n / 1024))) (.d (.int (gss.length:Int)))=some (.d (.int (n / 1024 % (gss.length:Int)))):=fun e=>aB lp
    have p0:=oz (n:=n / 64) lp;have p1:=oA (n:=n / 64) lp
    have p2:=oz (n:=n / 1024) lp;have p3:=oA (n:=n / 1024) lp
    generalize n / 64 % (gss.length:Int)=at_ at*
    generalize n / 1024 % (gss.length:Int)=ot_ at*
    obtain⟨i,rfl⟩:∃i:Nat,at_=(i:Int):=⟨at_.toNat,by lia⟩
    obtain⟨j,rfl⟩:∃j:Nat,ot_=(j:Int):=⟨ot_.toNat,by lia⟩
    have hi:i < gss.length:=by lia
    have hj:j < gss.length:=by lia
    have mi:=List.getElem_mem hi
    have mj:=List.getElem_mem hj
    have ati:∀(k:Nat) (h:k < gss.length),atI (gss.map aq) (k:Int)=some (aq gss[k]):=fun k h=>by
      unfold atI
      have:yx (gss.map aq).length (k:Int)=some k:=by
        unfold yx
        rw [List.length_map]
        simp [h]
      rw [this]
      show(gss.map aq)[k]?=_
      rw [List.getElem?_map,List.getElem?_eq_getElem h]
      rfl
    have ai:=ati i hi
    have aj:=ati j hj
    clear ati
    have sub1:gss[i].length≤16:=Nat.le_trans (List.Sublist.length_le (List.sublist_flatten_of_mem mi)) hf
    have sub2:gss[j].length≤16:=Nat.le_trans (List.Sublist.length_le (List.sublist_flatten_of_mem mj)) hf
    obtain⟨one,tone,hone⟩:=pz (hn _ mi) (hk _ mi) sub1 (n:=n / 16) (many:=many) (by lia) m1 m2
    have hki:=hk _ mi;have hkj:=hk _ mj
    have rowi:aq gss[i]∈gss.map aq:=List.mem_map_of_mem mi
    have wxi:wl (aq gss[i])≤16:=by rw [sU];exact sub1
    have nei:=hn _ mi
    generalize gss[i]=g at*
    generalize gss[j]=g' at*
    have sw2:∀b,∀d∈gss.map aq,Sw b 5000 3 d:=fun b d hd=>by
      obtain⟨r,hr,rfl⟩:=List.mem_map.mp hd
      exact(pe (m:=16) (hk r hr) (Nat.le_trans (List.Sublist.length_le (List.sublist_flatten_of_mem hr)) hf) b).mono (by decide) (by decide)
    have yw:∀e:En,aJ e (.d (.tuple (g.map .int))) (.d (.tuple (g'.map .int)))=some (.d (.tuple ((g++g').map .int))):=fun e=>by
      rw [dg (by simp only [List.length_map];lia),List.map_append]
    have srt:∀e:En,g1 bG e [.d (.tuple ((g++g').map .int))]=some (.l ((bi (g++g')).map .int)):=fun e=>wo (by rw [List.length_append];lia)
    have sp:=hV (g++g')
    have sl:(bi (g++g')).length≤32:=by rw [sp.length_eq,List.length_append];lia
    have sk:∀k∈bi (g++g'),0≤k∧k < 16:=fun k h=>by
      rcases List.mem_append.mp (sp.mem_iff.mp h) with h | h
      · exact hki k h
      · exact hkj k h
    have sne:bi (g++g')≠[]:=fun e=>by
      have:=sp.length_eq
      rw [e,List.length_append] at this
      have:=List.length_pos_iff.mpr nei
      simp at*
      lia
    generalize bi (g++g')=s at*
    generalize (g++g').map PyData.int=GC at*
    obtain⟨mr,hsub,hm⟩:=yk (gss:=gss) (by lia) (i:=(i:Int)) (j:=(j:Int))
    have hR:∀r∈mr++[s],r≠[]∧(∀k∈r,0≤k∧k < 16)∧r.length≤32:=fun r hr=>by
      rcases List.mem_append.mp hr with hr | hr
      · have hm:=hsub.mem hr
        exact⟨hn r hm,hk r hm,Nat.le_trans (List.Sublist.length_le (List.sublist_flatten_of_mem hm)) (by lia)⟩
      · simp at hr
        subst hr
        exact⟨sne,sk,sl⟩
    have lmr:=hsub.length_le
    have lrs:(mr++[s]).length≤17:=by rw [List.length_append,List.length_singleton];lia
    have sx:∀e:En,e[9]?=some (some (.l (mr.map aq++[aq s])))→g1 bG e [.s 9]=some (.l ((eP (mr++[s])).map aq)):=fun e he=>wn (by rw [he,List.map_append];rfl) (fun r hr=>(hR r hr).1) (by lia)
    have rp:(eP (mr++[s])).Perm (mr++[s]):=List.mergeSort_perm _ _
    have RSs:∀d∈(eP (mr++[s])).map aq,Sw true 30000 4 d:=fun d hd=>by
      obtain⟨r,hr,rfl⟩:=List.mem_map.mp hd
      have:=hR r (rp.mem_iff.mp hr)
      exact(pe (m:=32) this.2.1 this.2.2 true).mono (by decide) (by decide)
    have RSl:((eP (mr++[s])).map aq).length≤17:=by rw [List.length_map,rp.length_eq];exact lrs
    have wG:WS (gss.map aq)≤16:=by rw [iW];exact hf
    have RSw:WS ((eP (mr++[s])).map aq)≤48:=by
      rw [uv (rp.map aq),List.map_append,gu]
      have:=C5 (hsub.map aq)
      have e1:WS ([s].map aq)=s.length:=by rw [show [s].map aq=[aq s] from rfl,kr,sU]
      lia
    generalize (eP (mr++[s])).map aq=RS at*
    have lG:(gss.map aq).length≤16:=by rw [List.length_map];lia
    have gln:∀e:En,g1 bZ e [.d (.tuple (gss.map aq))]=some (.d (.int (gss.length:Int))):=fun e=>by
      show some (Rv.d (.int (((gss.map aq).length:Nat):Int)))=_
      rw [List.length_map]
    have tp:=fun z=>Ba (xs:=gss.map aq) (by lia) (i:Int) z
    have wAB:=yq (gss.map aq) i
    rw [←DC,←DB,show((i+1:Nat):Int)=(i:Int)+1 from rfl] at wAB
    generalize hGG:gss.map aq=GG at*
    have kA:=fun d=>gY (x:=d) (xs:=GG) (lo:=none) (hi:=some (i:Int))
    have kB:=fun d=>gY (x:=d) (xs:=GG) (lo:=some ((i:Int)+1)) (hi:=none)
    have kC:=fun d=>gY (x:=d) (xs:=GG) (lo:=some (i:Int)) (hi:=some ((i:Int)+1))
    have kD:=fun d=>gY (x:=d) (xs:=GG) (lo:=some (i:Int)) (hi:=none)
    have cA:=L2.cut_len (xs:=GG) (lo:=none) (hi:=some (i:Int))
    have cB:=L2.cut_len (xs:=GG) (lo:=some ((i:Int)+1)) (hi:=none)
    have cC:=L2.cut_len (xs:=GG) (lo:=some (i:Int)) (hi:=some ((i:Int)+1))
    have cD:=L2.cut_len (xs:=GG) (lo:=some (i:Int)) (hi:=none)
    have wC:=yp GG (some (i:Int)) (some ((i:Int)+1))
    have wD:=yp GG (some (i:Int)) none
    generalize y1:L2.cutD GG none (some (i:Int))=A at*
    generalize y2:L2.cutD GG (some ((i:Int)+1)) none=B at*
    generalize y3:L2.cutD GG (some (i:Int)) (some ((i:Int)+1))=C at*
    generalize y4:L2.cutD GG (some (i:Int)) none=D at*
    have k1:∀e:En,aJ e (.d (.tuple A)) (.d (.tuple B))=some (.d (.tuple (A++B))):=fun e=>dg (by lia)
    have k2:∀e:En,aJ e (.d (.tuple GG)) (.d (.tuple C))=some (.d (.tuple (GG++C))):=fun e=>dg (by lia)
    have k3:∀(e:En) (z:PyData),aJ e (.d (.tuple GG)) (.d (.tuple [z]))=some (.d (.tuple (GG++[z]))):=fun e z=>dg (by rw [List.length_singleton];lia)
    have k4:∀(e:En) (z:PyData),aJ e (.d (.tuple A)) (.d (.tuple [z]))=some (.d (.tuple (A++[z]))):=fun e z=>dg (by rw [List.length_singleton];lia)
    have k5:∀(e:En) (z:PyData),aJ e (.d (.tuple (A++[z]))) (.d (.tuple D))=some (.d (.tuple (A++[z]++D))):=fun e z=>dg (by rw [List.length_append,List.length_singleton];lia)
    have k6:∀(e:En) (z:PyData),aJ e (.d (.tuple (A++B))) (.d (.tuple [z]))=some (.d (.tuple (A++B++[z]))):=fun e z=>dg (by rw [List.length_append,List.length_singleton];lia)
    have glst:∀(e:En) (xs:List PyData),g1 nA e [.d (.tuple xs)]=some (.l xs):=fun e xs=>rfl
    have gr:∀(e:En) (xs:List PyData),Fi e (.d (.tuple xs)) (.d (.int (-1)))=some (.d (.tuple xs.reverse)):=fun e xs=>rfl
    have gc:∀(e:En) (xs ys:List PyData),e[8]?=some (some (.l xs))→xs.length+ys.length≤1000000→aJ e (.s 8) (.l ys)=some (.l (xs++ys)):=fun e xs ys he h=>oD he h
    have gm:∀e:En,aM e (.d (.int n)) (.d (.int 17))=some (.d (.int (n % 17))):=fun e=>aB (by decide)
    have gr6:∀(e:En) (z:PyData),jc e (.l [z]) (.d (.int 6))=some (.l [z,z,z,z,z,z]):=fun e z=>DP (by decide) (by decide)
    have gll:∀(e:En) (xs ys:List PyData),xs.length+ys.length≤1000000→aJ e (.l xs) (.l ys)=some (.l (xs++ys)):=fun e xs ys h=>tJ h
    have gmr:∀e:En,aJ e (.l (mr.map aq)) (.l [aq s])=some (.l (mr.map aq++[aq s])):=fun e=>tJ (by rw [List.length_map,List.length_singleton];lia)
    obtain⟨z,hz,ha⟩:=f9 (xs:=Dv A B C D GG one (aq g) RS i) (i:=n % 17) (oz (by decide)) (by have:=oA (n:=n) (k:=17) (by decide);simpa [Dv] using this)
    refine⟨z,?_,Bn sw2 (fun d=>kA d) (fun d=>kB d) (fun d=>kC d) (fun d=>kD d) lG (by lia) (by lia) (by lia) (by lia) wG (by lia) (by lia) (by lia) hone rowi wxi RSs RSl RSw (by lia) z hz⟩
    have bd1:∀v1 v2 e,iL (nC 0) (kb 3) (some (.d (.tuple GG))::v1::v2::some (.d (.int (i:Int)))::e)=some (.d (.dict [(.int 0,.int (i:Int))]),some (.d (.tuple GG))::v1::v2::some (.d (.int (i:Int)))::e):=fun v1 v2 e=>by
      simp [iL,nC,kb]
    have gtl:∀(e:En) (xs:List PyData),g1 cF e [.l xs]=some (.d (.tuple xs)):=fun e xs=>rfl
    clear hz kA kB kC kD sw2 hR RSs hn hk hsub rp
    unfold Dv at ha
    unfold aq at ai aj ha gmr sx rowi wxi
    simp only [List.append_assoc,List.cons_append,List.nil_append] at tp ha k5 k6
    generalize n % 17=r at*
    generalize hMR:(mr.map fun r=>PyData.tuple (r.map .int))=MR at*
    have hm':∀v1 v2 v5 v6 v7 v8 v9,cm [(3,"_law_at"),(4,"_law_other")] 2 cf (cW (aH (ah 2) (aH (ah 3) cG))) bo b_ [some (.d (.tuple GG)),v1,v2,some (.d (.int (i:Int))),some (.d (.int (j:Int))),v5,v6,v7,v8,v9]=some (.l MR,[some (.d (.tuple GG)),v1,v2,some (.d (.int (i:Int))),some (.d (.int (j:Int))),v5,v6,v7,v8,v9]):=fun v1 v2 v5 v6 v7 v8 v9=>by
      rw [hm,←hMR];rfl
    clear hm
    generalize g.map PyData.int=XG at*
    generalize g'.map PyData.int=XH at*
    generalize s.map PyData.int=XS at*
    simp? [cn,f_,ge,f64,f1024,f16,mL,mL2,gln,ai,aj,tone,yw,srt,gtl,y1,y2,y3,y4,k1,k2,k3,k4,k5,k6,tp,glst,gr,gc,gr6,gll,gmr,hm',sx,gm,ha,bd1,j3,C3]
def Fg:PyData→Bool
  | .tuple ds=>decide (ds.length≤50)&&decide (WS ds < 64)
  | _=>true
theorem vF{d:PyData}(h:Fg d=true):yz d:=fun ds e=>by
  subst e
  simp only [Fg,Bool.and_eq_true,decide_eq_true_eq] at h
  refine⟨h.1,fun gss e=>?_⟩
  subst e
  rw [iW,List.length_map] at h
  exact⟨by lia,h.2⟩
theorem z9:∀d∈xa,vA d:=fun d h=>by
  have s0:PyData.strOk ""=true:=bQ _
  have s1:PyData.strOk "a"=true:=bQ _
  have s2:PyData.strOk "0"=true:=bQ _
  have k0:("":Str).length≤10:=by decide
  have k1:("a":Str).length≤10:=by decide
  have k2:("0":Str).length≤10:=by decide
  have yes:∀d,Fg d=true→yy 4 d=true→wt d≤9→vA d:=fun d hb hd hw=>⟨vF hb,false,((lF hd).sw).mono (by lia) (by decide)⟩
  unfold xa at h
  simp only [List.mem_cons,List.not_mem_nil,or_false] at h
  rcases h with rfl | rfl | rfl | rfl | rfl | rfl | rfl | rfl | rfl | rfl | rfl | rfl | rfl | rfl | rfl | rfl | rfl | rfl | rfl | rfl | rfl | rfl | rfl | rfl | rfl | rfl | rfl
  all_goals first
    | exact yes _ (by first | rfl | decide) (by first | rfl | decide | (simp only [yy,nI,s0,s1,s2,k0,k1,k2];first | done | decide)) (by first | decide | (simp only [wt,n5];decide))
    | exact ly (b:=true) ⟨rfl,by decide+kernel,by simp [PyData.depth,PyData.depthKv],by decide+kernel,by decide+kernel⟩ (fun ds e=>by cases e)
abbrev ia(ns ds:List Int)(v2:Option Sv)(W:bD)(GG:List PyData)(v6 v7 v8 v9 v10:Option Sv):En:=[some (.d (.list (ns.map .int))),some (.l (ds.map .int)),v2,some (.d (aD W)),some (.d (.tuple GG)),some (.d (.tuple [aD W,.tuple GG])),v6,v7,v8,v9,v10]
theorem wN{ns ds:List Int}(hd:ig ds){W:bD}(ok:W.Ok){gss:List (List Int)}(hG:GS W W.ties gss){v2 v6 v7 v8 v9 v10:Option Sv}:∃ds' w7 w8 w9 w10,Bk (ia ns ds v2 W (gss.map aq) v6 v7 v8 v9 v10)=some (.nx (ia ns ds' v2 W (gss.map aq) v6 w7 w8 w9 w10))∧ig ds':=by
  have wlen:=ok.len
  obtain⟨n,d1,t1,n0, -,hd1⟩:=iK hd
  have f4:∀e:En,bA e (.d (.int n)) (.d (.int 4))=some (.d (.int (n / 4))):=fun e=>bj (by decide) (dA (by decide) (by decide))
  have f16:∀e:En,bA e (.d (.int n)) (.d (.int 16))=some (.d (.int (n / 16))):=fun e=>bj (by decide) (dA (by decide) (by decide))
  have m16:∀e:En,aM e (.d (.int n)) (.d (.int 16))=some (.d (.int (n % 16))):=fun e=>aB (by decide)
  have g1':=BA (W:=W)
  have gl2:∀e:En,g1 bZ e [.d (.tuple (W.ties.map aG))]=some (.d (.int (W.ties.length:Int))):=fun e=>by
    show some (Rv.d (.int (((W.ties.map aG).length:Nat):Int)))=_
    rw [List.length_map]
  have gmx:∀e:En,g2 p4 e [.d (.int 1),.d (.int (W.ties.length:Int))]=some (.d (.int (max 1 (W.ties.length:Int)))):=fun e=>lP
  obtain⟨z1,tz1,hz1⟩:=mT (gss:=gss) hG.ne (fun g hg k hk=>by have:=hG.inr g hg k hk;lia) (by rw [hG.len];exact wlen) (n:=n / 4) (many:=max 1 (W.ties.length:Int)) (by lia) (by lia) (by lia)
  obtain⟨z2,mz2,tz2⟩:=E1 (n / 16)
  have hz2:=z9 z2 mz2
  obtain⟨t',hf⟩:=dm (cs:=[]) (ft:=bL) (fe:=DF) (b:=fun _=>true) (y:=fun x=>.tuple [x]) (be 0 W.ties.length) none [] (fun _ _=>rfl) (fun x hx _=>by
    show DF [some (.d x)]=some (.d (.tuple [x]),[some (.d x)])
    simp? [DF]) (by simp [d9];lia)
  rw [List.nil_append,List.filter_eq_self.mpr (fun _ _=>rfl)] at hf
  have hv3:∀v7 v8,cm [] 1 Gx (ah 0) bL DF (ia ns d1 v2 W (gss.map aq) v6 v7 v8 v9 v10)=some (.l ((be 0 W.ties.length).map fun x=>.tuple [x]),ia ns d1 v2 W (gss.map aq) v6 v7 v8 v9 v10):=fun v7 v8=>by
    refine nX (items:=be 0 W.ties.length) (own:=[]) ?_ hf
    have:=fB (n:=(W.ties.length:Int)) (fs:=(aa (aF (g1 bZ) (aa (au bU (ac 3) (vC (.int 1))) ag)) ag)) (e:=ia ns d1 v2 W (gss.map aq) v6 v7 v8 v9 v10) (e1:=ia ns d1 v2 W (gss.map aq) v6 v7 v8 v9 v10) (by
      unfold ia
      generalize W.ties.map aG=TT at*
      generalize gss.map aq=GG at*
      generalize aD W=WW at*
      simp? [g1',gl2]) (by lia) (by lia)
    rw [Int.toNat_natCast] at this
    exact this
  have hz3:vA (.tuple ((be 0 W.ties.length).map fun x=>.tuple [x])):=by
    have e:((be 0 W.ties.length).map fun x=>PyData.tuple [x])=((di W.ties.length).map fun k=>[k]).map aq:=by
      unfold be di
      rw [List.map_map,List.map_map,List.map_map]
      refine List.map_congr_left fun i _=>?_
      show PyData.tuple [.int ((0:Int)+(i:Int))]=.tuple [.int (i:Int)]
      rw [Int.zero_add]
    rw [e]
    refine dO (b:=true) (fun d hd=>?_) (by rw [List.length_map,List.length_map,jL];lia) ?_
    · obtain⟨r,hr,rfl⟩:=List.mem_map.mp hd
      obtain⟨k,hk,rfl⟩:=List.mem_map.mp hr
      have:=qO hk
      exact(pe (m:=1) (fun y hy=>by simp at hy;subst hy;lia) (by simp) true).mono (by decide) (by decide)
    · rw [iW]
      have:(((di W.ties.length).map fun k=>[k]).flatten).length=W.ties.length:=by
        have e2:∀l:List Int,(l.map fun k=>[k]).flatten=l:=fun l=>by
          induction l with
          | nil=>rfl
          | cons a r ih=>rw [List.map_cons,List.flatten_cons,ih];rfl
        rw [e2,jL]
      lia
  have gtl:∀(e:En) (xs:List PyData),g1 cF e [.l xs]=some (.d (.tuple xs)):=fun e xs=>rfl
  generalize ((be 0 W.ties.length).map fun x=>PyData.tuple [x])=L3 at*
  have words:∀z,vA z→bV [.d (aD W),.d z]=some (.d (.bool (lW W z)),[.d (aD W),.d z])∧bH [.d (aD W),.d z]=some (.d (.bool (lW W z)),[.d (aD W),.d z])∧j9 [.d (.bool (lW W z)),.d (.bool (lW W z))]=some (.d (.bool true),[.d (.bool (lW W z)),.d (.bool (lW W z))])∧(∀e,g1 jv e [.d z]=some (.d (.str z.shown)))∧∀e,bw true e (.d (.str z.shown)) (.d (.str z.shown))=some (.d (.bool false)):=fun z h=>by
    obtain⟨b,sw⟩:=h.sw
    have r3:=CU (lW W z) (lW W z)
    rw [beq_self_eq_true] at r3
    exact⟨vg ok h.bd,kZ ok h.bd,r3,fun e=>sw.repr (by decide) (by decide) e,fun e=>wb sw.so⟩
  have q3:∀e:En,bw false e (.d (.int (n % 16))) (.d (.int 3))=some (.d (.bool (n % 16==3))):=fun e=>by rw [gS];rfl
  have q5:∀e:En,bw false e (.d (.int (n % 16))) (.d (.int 5))=some (.d (.bool (n % 16==5))):=fun e=>by rw [gS];rfl
  have both:(n % 16==3)=true→(n % 16==5)=false:=fun h=>by
    rw [beq_iff_eq] at h
    rw [beq_eq_false_iff_ne]
    lia
  generalize (n % 16==3)=c3 at*
  generalize (n % 16==5)=c5 at*
  generalize n % 16=r16 at*
  generalize (max 1 (W.ties.length:Int))=mny at*
  cases c5 with
  | true=>
    obtain⟨r1,r2,r3,r4,r5⟩:=words _ hz3
    clear words
    refine⟨d1,some (.d (.int n)),some (.d (.tuple L3)),some (.d (.bool (lW W (.tuple L3)))),some (.d (.str (PyData.tuple L3).shown)),?_,hd1⟩
    unfold ia at hv3 ⊢
    generalize (PyData.tuple L3).shown=sh at*
    generalize lW W (.tuple L3)=bb at*
    generalize W.ties.map aG=TT at*
    generalize gss.map aq=GG at*
    generalize aD W=WW at*
    cases c3<;>simp? [Bk,t1,f4,f16,m16,q3,q5,g1',gl2,gmx,tz1,tz2,hv3,gtl,r1,r2,r3,r4,r5]
  | false=>
    cases c3 with
    | true=>
      obtain⟨r1,r2,r3,r4,r5⟩:=words _ hz2
      clear words
      refine⟨d1,some (.d (.int n)),some (.d z2),some (.d (.bool (lW W z2))),some (.d (.str z2.shown)),?_,hd1⟩
      unfold ia
      generalize z2.shown=sh at*
      generalize lW W z2=bb at*
      generalize W.ties.map aG=TT at*
      generalize gss.map aq=GG at*
      generalize aD W=WW at*
      simp? [Bk,t1,f4,f16,m16,q3,q5,g1',gl2,gmx,tz1,tz2,r1,r2,r3,r4,r5]
    | false=>
      obtain⟨r1,r2,r3,r4,r5⟩:=words _ hz1
      clear words
      refine⟨d1,some (.d (.int n)),some (.d z1),some (.d (.bool (lW W z1))),some (.d (.str z1.shown)),?_,hd1⟩
      unfold ia
      generalize z1.shown=sh at*
      generalize lW W z1=bb at*
      generalize W.ties.map aG=TT at*
      generalize gss.map aq=GG at*
      generalize aD W=WW at*
      simp? [Bk,t1,f4,f16,m16,q3,q5,g1',gl2,gmx,tz1,r1,r2,r3,r4,r5]
inductive Dh (ns:List Int):En→Prop
  | mk {ds v2 v3 v4 v5 v6 v7 v8 v9 v10} (hd:ig ds):Dh ns [some (.d (.list (ns.map .int))),some (.l (ds.map .int)),v2,v3,v4,v5,v6,v7,v8,v9,v10]
theorem wM(ns:List Int)(hl:ns.length≤63):∃as',l7 [.d (.list (ns.map .int))]=some (.d (.bool true),as'):=by
  obtain⟨ds,td,hd⟩:=Ad ns hl
  have it:∀e:En,oF e (.d (.bool true)) (.d (.bool true))=some (.d (.bool false)):=fun e=>rfl
  obtain⟨e2,h1,hI⟩:=er (own:=[]) (g:=ah 2) (f:=Ff) (fun _=>Dh ns) (be 0 4) 0 [some (.d (.list (ns.map .int))),some (.l (ds.map .int)),none,none,none,none,none,none,none,none,none] (fun i x e hx hI=>by
    obtain⟨hd⟩:=hI
    rename_i ds v2 v3 v4 v5 v6 v7 v8 v9 v10
    obtain⟨W0,d1,tw,hd1,ok0, -, -⟩:=E3 ds 12 16 hd (by decide) (by decide) (by decide) (by decide)
    obtain⟨d2,ts,gss,tg,hd2,hG,ok⟩:=vf ok0 hd1
    generalize hW:j4 W0 ts=W at*
    have hT:ts=W.ties:=by rw [←hW];rfl
    rw [hT] at hG
    obtain⟨e3,h3,⟨d3,w6,w7,w8,w9,w10,he3,hd3⟩⟩:=er (own:=[]) (g:=ah 6) (f:=Bk) (fun _ e=>∃ds v6 v7 v8 v9 v10,e=ia ns ds (some (.d x)) W (gss.map aq) v6 v7 v8 v9 v10∧ig ds) (be 0 12) 0 (ia ns d2 (some (.d x)) W (gss.map aq) v6 v7 v8 v9 v10) (fun i y e hy ⟨ds,v6,v7,v8,v9,v10,he,hd⟩=>by
      subst he
      obtain⟨ds',w7,w8,w9,w10,hb,hd'⟩:=wN (ns:=ns) hd ok hG (v2:=some (.d x)) (v6:=some (.d y)) (v7:=v7) (v8:=v8) (v9:=v9) (v10:=v10)
      exact⟨_,_,rfl,hb,bP,ds',_,w7,w8,w9,w10,rfl,hd'⟩) ⟨d2,v6,v7,v8,v9,v10,rfl,hd2⟩
    subst he3
    have hf:∀Wl,eC Wl FP (ah 6) Bk (ia ns d2 (some (.d x)) W (gss.map aq) v6 v7 v8 v9 v10)=some (.nx (ia ns d3 (some (.d x)) W (gss.map aq) w6 w7 w8 w9 w10)):=fun Wl=>by
      rw [dJ (show FP (ia ns d2 (some (.d x)) W (gss.map aq) v6 v7 v8 v9 v10)=some (be 0 12,[],ia ns d2 (some (.d x)) W (gss.map aq) v6 v7 v8 v9 v10) from rfl)]
      exact h3
    have gl:=jx hG.ne
    have glen:=hG.len
    have wl:=ok.len
    have tr:=kZ ok (d:=.tuple (gss.map aq)) (vF (by
      simp only [Fg,Bool.and_eq_true,decide_eq_true_eq]
      rw [iW,List.length_map]
      lia))
    rw [hG.right] at tr
    have fg:aR (gss.map aq)=true:=by
      clear tr hf h3 tg gl glen hG
      induction gss with
      | nil=>rfl
      | cons g r ih=>
        rw [List.map_cons]
        simp only [aR,ih,Bool.and_true]
        unfold aq
        simp only [bv,ja]
    have gs:∀e:En,bw true e (.d (.tuple [aD W,.tuple (gss.map aq)])) (.d (.tuple [aD W,.tuple (gss.map aq)]))=some (.d (.bool false)):=fun e=>wa (n:=12) (Sh.tup (n:=10) fun d hd=>by
      simp only [List.mem_cons,List.not_mem_nil,or_false] at hd
      rcases hd with rfl | rfl
      · exact Sh.web
      · exact(Sh.tup (n:=4) fun d hd=>by
          obtain⟨g,_,rfl⟩:=List.mem_map.mp hd
          exact Sh.ints).mono (by decide)) (by decide) (by simp only [bv,aR,pS,fg,Bool.and_self])
    refine⟨[some (.d (.list (ns.map .int))),some (.l (ds.map .int)),some (.d x),v3,v4,v5,v6,v7,v8,v9,v10],ia ns d3 (some (.d x)) W (gss.map aq) w6 w7 w8 w9 w10,rfl,?_,bP,.mk hd3⟩
    unfold ia at hf ⊢
    clear h3 hG fg
    generalize gss.map aq=GG at*
    generalize aD W=WW at*
    generalize aD W0=WW0 at*
    simp? [Ff,tw,tg,hf,tr,it,gs]) (.mk hd)
  obtain⟨hd2⟩:=hI
  rename_i ds2 v2 v3 v4 v5 v6 v7 v8 v9 v10
  have hfor:=fun Wl=>dJ (W:=Wl) (g:=ah 2) (f:=Ff) (show Gy [some (.d (.list (ns.map .int))),some (.l (ds.map .int)),none,none,none,none,none,none,none,none,none]=some (be 0 4,[],[some (.d (.list (ns.map .int))),some (.l (ds.map .int)),none,none,none,none,none,none,none,none,none]) from rfl)
  rw [h1] at hfor
  simp? [l7,Aw,td,hfor]
def kE(P:Params)(k:Str)(t:Tok)(v:Value):DictEntry:=⟨PyData.keyHash P k,.str k t,v⟩
def kF(n:Str)(s:Stmt)(doc pm:Value)(c:Addr):Obj:=⟨.type "function",none,.func (W.fnOf n n (dB s) (cH s) (ap s) .none .none doc pm none (.ref c) .none),#[]⟩
def kI(n:Int):Value:=.int n 0
def kC(n:Str)(a:Nat)(l:List Value)(z:Nat):Obj:=⟨.type "code",none,.fields (Value.str n a::Value.str n (a+1)::Value.str "/claim/cut.py" (a+2)::l++[Value.str "/claim/cut.py" z]).toArray,#[]⟩
def Da:Value:=.str "askedpairs.forms" 187
def Fj:Value:=.str "askedpairs.groups" 215
def ib:Value:=.str "law_askedpairs_k69_groups_of_anything" 229
def kK(P:Params):W.Frag:=[(3,⟨.type "dict",none,.dict (List.toArray [kE P "__name__" 165 (.str "law_askedpairs_k69_groups_of_anything" 229),kE P "__doc__" 166 (.none),kE P "__package__" 167 (.none),kE P "__loader__" 168 (.builtin "__main__.__loader__#opaque"),kE P "__spec__" 169 (.none),kE P "__annotations__" 170 (.ref 6),kE P "__builtins__" 171 (.ref 4),kE P "__file__" 173 (.str "/claim/cut.py" 172),kE P "__cached__" 174 (.none),kE P "is_number" 195 (.ref 21),kE P "is_number_within" 204 (.ref 28),kE P "is_rising_row" 214 (.ref 35),kE P "is_group" 222 (.ref 40),kE P "is_groups" 228 (.ref 45),kE P "_law_mixed" 239 (.ref 52),kE P "_law_draws" 250 (.ref 59),kE P "_law_next" 257 (.ref 66),kE P "_law_gcd" 265 (.ref 73),kE P "_law_low" 274 (.ref 80),kE P "_law_says" 282 (.ref 87),kE P "_law_chance" 291 (.ref 94),kE P "_law_worth" 299 (.ref 101),kE P "_law_ties" 318 (.ref 108),kE P "_law_web" 334 (.ref 115),kE P "_law_odd" 342 (.ref 122),kE P "_law_is_rising" 352 (.ref 129),kE P "_law_grouped" 358 (.ref 134),kE P "_law_put" 367 (.ref 141),kE P "_law_is_groups" 379 (.ref 148),kE P "_law_bent_group" 390 (.ref 155),kE P "_law_bent_groups" 396 (.ref 160),kE P "law" 402 (.ref 165)]) 32,#[]⟩),
  (21,kF "is_number" eF (.none) Da 20),
  (20,kC "is_number" 189 [kI 2,kI 1,kI 0,kI 0,kI 3,.ref 15,.bool true,kI 181,.ref 16,.none,.ref 17,.ref 18,.ref 19,kI 193,kI 2] 194),
  (28,kF "is_number_within" bE (.none) Da 27),
  (27,kC "is_number_within" 196 [kI 4,kI 3,kI 0,kI 0,kI 3,.ref 22,.bool true,kI 181,.ref 23,.none,.ref 24,.ref 25,.ref 26,kI 202,kI 4] 203),
  (35,kF "is_rising_row" ck (.none) Da 34),
  (34,kC "is_rising_row" 205 [kI 6,kI 2,kI 0,kI 0,kI 3,.ref 29,.bool true,kI 181,.ref 30,.none,.ref 31,.ref 32,.ref 33,kI 212,kI 6] 213),
  (40,kF "is_group" ec (.none) Fj 39),
  (39,kC "is_group" 217 [kI 16,kI 2,kI 0,kI 0,kI 3,.ref 36,.bool true,kI 181,.ref 37,.none,.none,.none,.ref 38,kI 220,kI 16] 221),
  (45,kF "is_groups" bW (.none) Fj 44),
  (44,kC "is_groups" 223 [kI 20,kI 2,kI 0,kI 0,kI 3,.ref 41,.bool true,kI 181,.ref 42,.none,.none,.none,.ref 43,kI 226,kI 20] 227),
  (52,kF "_law_mixed" jP (.none) ib 51),
  (51,kC "_law_mixed" 231 [kI 27,kI 2,kI 0,kI 0,kI 3,.ref 46,.bool true,kI 181,.ref 47,.none,.ref 48,.ref 49,.ref 50,kI 237,kI 27] 238),
  (59,kF "_law_draws" jO (.none) ib 58),
  (58,kC "_law_draws" 240 [kI 30,kI 1,kI 0,kI 0,kI 3,.ref 53,.bool true,kI 181,.ref 54,.none,.ref 55,.ref 56,.ref 57,kI 248,kI 30] 249),
  (66,kF "_law_next" iI (.none) ib 65),
  (65,kC "_law_next" 251 [kI 43,kI 1,kI 0,kI 0,kI 3,.ref 60,.bool true,kI 181,.ref 61,.none,.ref 62,.ref 63,.ref 64,kI 255,kI 43] 256),
  (73,kF "_law_gcd" qR (.none) ib 72),
  (72,kC "_law_gcd" 258 [kI 47,kI 2,kI 0,kI 0,kI 3,.ref 67,.bool true,kI 181,.ref 68,.none,.ref 69,.ref 70,.ref 71,kI 263,kI 47] 264),
  (80,kF "_law_low" qS (.none) ib 79),
  (79,kC "_law_low" 266 [kI 51,kI 2,kI 0,kI 0,kI 3,.ref 74,.bool true,kI 181,.ref 75,.none,.ref 76,.ref 77,.ref 78,kI 272,kI 51] 273),
  (87,kF "_law_says" mz (.none) ib 86),
  (86,kC "_law_says" 275 [kI 54,kI 2,kI 0,kI 0,kI 3,.ref 81,.bool true,kI 181,.ref 82,.none,.ref 83,.ref 84,.ref 85,kI 280,kI 54] 281),
  (94,kF "_law_chance" gG (.none) ib 93),
  (93,kC "_law_chance" 283 [kI 58,kI 2,kI 0,kI 0,kI 3,.ref 88,.bool true,kI 181,.ref 89,.none,.ref 90,.ref 91,.ref 92,kI 289,kI 58] 290),
  (101,kF "_law_worth" jQ (.none) ib 100),
  (100,kC "_law_worth" 292 [kI 68,kI 2,kI 0,kI 0,kI 3,.ref 95,.bool true,kI 181,.ref 96,.none,.ref 97,.ref 98,.ref 99,kI 297,kI 68] 298),
  (108,kF "_law_ties" mB (.none) ib 107),
  (107,kC "_law_ties" 300 [kI 70,kI 3,kI 0,kI 0,kI 3,.ref 102,.bool true,kI 181,.ref 103,.none,.ref 104,.ref 105,.ref 106,kI 316,kI 70] 317),
  (115,kF "_law_web" qU (.none) ib 114),
  (114,kC "_law_web" 319 [kI 85,kI 3,kI 0,kI 0,kI 3,.ref 109,.bool true,kI 181,.ref 110,.none,.ref 111,.ref 112,.ref 113,kI 332,kI 85] 333),
  (122,kF "_law_odd" qT (.none) ib 121),
  (121,kC "_law_odd" 335 [kI 95,kI 1,kI 0,kI 0,kI 3,.ref 116,.bool true,kI 181,.ref 117,.none,.ref 118,.ref 119,.ref 120,kI 340,kI 95] 341),
  (129,kF "_law_is_rising" eE (.none) ib 128),
  (128,kC "_law_is_rising" 343 [kI 99,kI 2,kI 0,kI 0,kI 3,.ref 123,.bool true,kI 181,.ref 124,.none,.ref 125,.ref 126,.ref 127,kI 350,kI 99] 351),
  (134,kF "_law_grouped" dt (.none) ib 133),
  (133,kC "_law_grouped" 353 [kI 108,kI 2,kI 0,kI 0,kI 3,.ref 130,.bool true,kI 181,.ref 131,.none,.none,.none,.ref 132,kI 356,kI 108] 357),
  (141,kF "_law_put" nM (.none) ib 140),
  (140,kC "_law_put" 359 [kI 122,kI 3,kI 0,kI 0,kI 3,.ref 135,.bool true,kI 181,.ref 136,.none,.ref 137,.ref 138,.ref 139,kI 365,kI 122] 366),
  (148,kF "_law_is_groups" eD (.none) ib 147),
  (147,kC "_law_is_groups" 368 [kI 124,kI 2,kI 0,kI 0,kI 3,.ref 142,.bool true,kI 181,.ref 143,.none,.ref 144,.ref 145,.ref 146,kI 377,kI 124] 378),
  (155,kF "_law_bent_group" dM (.none) ib 154),
  (154,kC "_law_bent_group" 380 [kI 140,kI 3,kI 0,kI 0,kI 3,.ref 149,.bool true,kI 181,.ref 150,.none,.ref 151,.ref 152,.ref 153,kI 388,kI 140] 389),
  (160,kF "_law_bent_groups" cq (.none) ib 159),
  (159,kC "_law_bent_groups" 391 [kI 148,kI 3,kI 0,kI 0,kI 3,.ref 156,.bool true,kI 181,.ref 157,.none,.none,.none,.ref 158,kI 394,kI 148] 395),
  (165,kF "law" kW (.none) ib 164),
  (164,kC "law" 397 [kI 161,kI 1,kI 0,kI 0,kI 3,.ref 161,.bool true,kI 181,.ref 162,.none,.none,.none,.ref 163,kI 400,kI 161] 401)]
def kA:List Addr:=[3,21,20,28,27,35,34,40,39,45,44,52,51,59,58,66,65,73,72,80,79,87,86,94,93,101,100,108,107,115,114,122,121,129,128,134,133,141,140,148,147,155,154,160,159,165,164]
def kq:Program:={PySem.Challenge.pw_askedpairs_k69_groups_of_anything with main:={PySem.Challenge.pw_askedpairs_k69_groups_of_anything.main with body:=[top 1,top 2,top 3,top 5,top 6,top 8,top 9,top 10,top 11,top 12,top 13,top 14,top 15,top 16,top 17,top 18,top 19,top 20,top 21,top 22,top 23,top 24,top 25]}}
def kH:W.Hook:=W.kHook kK kA (fun _=>by kernel_rfl)
theorem left:W.LeftO PySem.Challenge.pw_askedpairs_k69_groups_of_anything kq [] (fun s=>W.xlAt kq [] s&&W.recOk (W.RowW.records (W.OpenRow.toRowW (W.OpenLaw.row PySem.Challenge.rw_askedpairs_k69_groups_of_anything))) s) (W.Hook.obs kH) (W.Hook.val kH) 1592:=fun w=>by kernel_rfl
theorem D5{P:List Value→Prop}(h:∀a0,P [a0]):∀us:List Value,us.length=1→P us:=fun us e=>match us,e with | [a0],_=>h a0
theorem vy{P:List Value→Prop}(h:∀a0 a1,P [a0,a1]):∀us:List Value,us.length=2→P us:=fun us e=>match us,e with | [a0,a1],_=>h a0 a1
theorem Dc{P:List Value→Prop}(h:∀a0 a1 a2,P [a0,a1,a2]):∀us:List Value,us.length=3→P us:=fun us e=>match us,e with | [a0,a1,a2],_=>h a0 a1 a2
theorem hm{w:World}{h:Heap}{mg:Str→Option Value}{n:Str}{s:Stmt}{a:Addr}{ps:List Str}(c:Addr)(d p:Value)(X:(kK w.params).In h)(G:h.Ns mainGlobals mg)
    (e:(W.nsIn (kK w.params) mainGlobals n,List.lookup a (kK w.params),W.codeIn (kK w.params) (.ref c) n,W.keepIn (kK w.params) (.ref a))=(some (some (.ref a)),some (kF n s d p c),true,true))
    (b:∀(kV doc pm:Value) (an:Option Addr) (cdv ct:Value) (us:List Value),us.length=ps.length→bindArgs (W.fnOf n n (dB s) (cH s) (ap s) .none kV doc pm an cdv ct) ⟨us,[]⟩=pure (ps.zip us)):
    bX (kK w.params) mg n s a (W.fnOf n n (dB s) (cH s) (ap s) .none .none d p none (.ref c) .none) ps:=BB X G (congrArg (·.1) e) (congrArg (·.2.1) e) (congrArg (·.2.2.1) e) (congrArg (·.2.2.2) e) b
theorem all_mk{l:W.OpenLaw}{w:World}{h:Heap}{mg:Str→Option Value}{fa:Addr}(X:(kK w.params).In h)(G:h.Ns mainGlobals mg)(hfa:mg "law"=some (.ref fa)):
    ∃fd:FuncData,(∀(s:Shared) (v:Value),BindsTo s fd ⟨[v],[]⟩ [("_law_script",v)])∧∀base:Heap,(kK w.params).In base→base.Ns mainGlobals mg→a9 l.prog w (kK w.params) mg base du 6 fa fd ["_law_script"] (dR (kK w.params) 1 l7):=by
  have e:=hfa.symm.trans (W.mg_of X G (show W.nsIn (kK w.params) mainGlobals "law"=some (some (.ref 165)) by kernel_rfl))
  cases e
  have T:lg mg:=⟨W.mg_none_of X G (show W.nsIn (kK w.params) mainGlobals "abs"=some none by kernel_rfl),W.mg_none_of X G (show W.nsIn (kK w.params) mainGlobals "len"=some none by kernel_rfl),W.mg_none_of X G (show W.nsIn (kK w.params) mainGlobals "min"=some none by kernel_rfl),W.mg_none_of X G (show W.nsIn (kK w.params) mainGlobals "max"=some none by kernel_rfl),W.mg_none_of X G (show W.nsIn (kK w.params) mainGlobals "range"=some none by kernel_rfl),W.mg_none_of X G (show W.nsIn (kK w.params) mainGlobals "repr"=some none by kernel_rfl),W.mg_none_of X G (show W.nsIn (kK w.params) mainGlobals "tuple"=some none by kernel_rfl),W.mg_none_of X G (show W.nsIn (kK w.params) mainGlobals "int"=some none by kernel_rfl),W.mg_none_of X G (show W.nsIn (kK w.params) mainGlobals "sorted"=some none by kernel_rfl),W.mg_none_of X G (show W.nsIn (kK w.params) mainGlobals "enumerate"=some none by kernel_rfl),W.mg_none_of X G (show W.nsIn (kK w.params) mainGlobals "isinstance"=some none by kernel_rfl),W.mg_none_of X G (show W.nsIn (kK w.params) mainGlobals "bool"=some none by kernel_rfl),W.mg_none_of X G (show W.nsIn (kK w.params) mainGlobals "all"=some none by kernel_rfl),W.mg_none_of X G (show W.nsIn (kK w.params) mainGlobals "list"=some none by kernel_rfl)⟩
  have h_is_number:bX (kK w.params) mg "is_number" eF 21 _ ["thing"]:=hm 20 (.none) Da X G (by kernel_rfl) fun _ _ _ _ _ _=>D5 fun _=>rfl
  have h_is_number_within:bX (kK w.params) mg "is_number_within" bE 28 _ ["thing","low","high"]:=hm 27 (.none) Da X G (by kernel_rfl) fun _ _ _ _ _ _=>Dc fun _ _ _=>rfl
  have h_is_rising_row:bX (kK w.params) mg "is_rising_row" ck 35 _ ["thing","many"]:=hm 34 (.none) Da X G (by kernel_rfl) fun _ _ _ _ _ _=>vy fun _ _=>rfl
  have h_is_group:bX (kK w.params) mg "is_group" ec 40 _ ["web","thing"]:=hm 39 (.none) Fj X G (by kernel_rfl) fun _ _ _ _ _ _=>vy fun _ _=>rfl
  have h_is_groups:bX (kK w.params) mg "is_groups" bW 45 _ ["web","thing"]:=hm 44 (.none) Fj X G (by kernel_rfl) fun _ _ _ _ _ _=>vy fun _ _=>rfl
  have hLmixed:bX (kK w.params) mg "_law_mixed" jP 52 _ ["_law_cell","_law_k"]:=hm 51 (.none) ib X G (by kernel_rfl) fun _ _ _ _ _ _=>vy fun _ _=>rfl
  have hLdraws:bX (kK w.params) mg "_law_draws" jO 59 _ ["_law_script"]:=hm 58 (.none) ib X G (by kernel_rfl) fun _ _ _ _ _ _=>D5 fun _=>rfl
  have hLnext:bX (kK w.params) mg "_law_next" iI 66 _ ["_law_drawn"]:=hm 65 (.none) ib X G (by kernel_rfl) fun _ _ _ _ _ _=>D5 fun _=>rfl
  have hLgcd:bX (kK w.params) mg "_law_gcd" qR 73 _ ["_law_one","_law_other"]:=hm 72 (.none) ib X G (by kernel_rfl) fun _ _ _ _ _ _=>vy fun _ _=>rfl
  have hLlow:bX (kK w.params) mg "_law_low" qS 80 _ ["_law_top","_law_bottom"]:=hm 79 (.none) ib X G (by kernel_rfl) fun _ _ _ _ _ _=>vy fun _ _=>rfl
  have hLsays:bX (kK w.params) mg "_law_says" mz 87 _ ["_law_found","_law_due"]:=hm 86 (.none) ib X G (by kernel_rfl) fun _ _ _ _ _ _=>vy fun _ _=>rfl
  have hLchance:bX (kK w.params) mg "_law_chance" gG 94 _ ["_law_number","_law_kind"]:=hm 93 (.none) ib X G (by kernel_rfl) fun _ _ _ _ _ _=>vy fun _ _=>rfl
  have hLworth:bX (kK w.params) mg "_law_worth" jQ 101 _ ["_law_number","_law_kind"]:=hm 100 (.none) ib X G (by kernel_rfl) fun _ _ _ _ _ _=>vy fun _ _=>rfl
  have hLties:bX (kK w.params) mg "_law_ties" mB 108 _ ["_law_drawn","_law_things","_law_many"]:=hm 107 (.none) ib X G (by kernel_rfl) fun _ _ _ _ _ _=>Dc fun _ _ _=>rfl
  have hLweb:bX (kK w.params) mg "_law_web" qU 115 _ ["_law_drawn","_law_most","_law_ties_here"]:=hm 114 (.none) ib X G (by kernel_rfl) fun _ _ _ _ _ _=>Dc fun _ _ _=>rfl
  have hLodd:bX (kK w.params) mg "_law_odd" qT 122 _ ["_law_number"]:=hm 121 (.none) ib X G (by kernel_rfl) fun _ _ _ _ _ _=>D5 fun _=>rfl
  have hLis_rising:bX (kK w.params) mg "_law_is_rising" eE 129 _ ["_law_thing","_law_most"]:=hm 128 (.none) ib X G (by kernel_rfl) fun _ _ _ _ _ _=>vy fun _ _=>rfl
  have hLgrouped:bX (kK w.params) mg "_law_grouped" dt 134 _ ["_law_drawn","_law_web_here"]:=hm 133 (.none) ib X G (by kernel_rfl) fun _ _ _ _ _ _=>vy fun _ _=>rfl
  have hLput:bX (kK w.params) mg "_law_put" nM 141 _ ["_law_row","_law_at","_law_thing"]:=hm 140 (.none) ib X G (by kernel_rfl) fun _ _ _ _ _ _=>Dc fun _ _ _=>rfl
  have hLis_groups:bX (kK w.params) mg "_law_is_groups" eD 148 _ ["_law_web_here","_law_thing"]:=hm 147 (.none) ib X G (by kernel_rfl) fun _ _ _ _ _ _=>vy fun _ _=>rfl
  have hLbent_group:bX (kK w.params) mg "_law_bent_group" dM 155 _ ["_law_group","_law_number","_law_many"]:=hm 154 (.none) ib X G (by kernel_rfl) fun _ _ _ _ _ _=>Dc fun _ _ _=>rfl
  have hLbent_groups:bX (kK w.params) mg "_law_bent_groups" cq 160 _ ["_law_groups","_law_number","_law_many"]:=hm 159 (.none) ib X G (by kernel_rfl) fun _ _ _ _ _ _=>Dc fun _ _ _=>rfl
  have h_law:bX (kK w.params) mg "law" kW 165 _ ["_law_script"]:=hm 164 (.none) ib X G (by kernel_rfl) fun _ _ _ _ _ _=>D5 fun _=>rfl
  refine⟨W.fnOf "law" "law" (dB kW) (cH kW) (ap kW) .none .none (.none) ib none (.ref 164) .none,fun s v=>.of_eq rfl,fun base _ _=>?_⟩
  have G_is_number:=oU (P:=l.prog) (w:=w) (base:=base) h_is_number T
  have G_is_number_within:=iX (P:=l.prog) (w:=w) (base:=base) h_is_number_within T h_is_number G_is_number
  have G_is_rising_row:=kc (P:=l.prog) (w:=w) (base:=base) h_is_rising_row T h_is_number_within G_is_number_within
  have G_is_group:=qA (P:=l.prog) (w:=w) (base:=base) h_is_group T h_is_rising_row G_is_rising_row
  have G_is_groups:=oT (P:=l.prog) (w:=w) (base:=base) h_is_groups T h_is_group G_is_group
  have GLmixed:=xc (P:=l.prog) (w:=w) (base:=base) hLmixed T
  have GLdraws:=xb (P:=l.prog) (w:=w) (base:=base) hLdraws T hLmixed GLmixed
  have GLnext:=zc (P:=l.prog) (w:=w) (base:=base) hLnext T
  have GLgcd:=BO (P:=l.prog) (w:=w) (base:=base) hLgcd T
  have GLlow:=BP (P:=l.prog) (w:=w) (base:=base) hLlow T hLgcd GLgcd
  have GLsays:=ze (P:=l.prog) (w:=w) (base:=base) hLsays T
  have GLchance:=uX (P:=l.prog) (w:=w) (base:=base) hLchance T hLlow GLlow
  have GLworth:=xf (P:=l.prog) (w:=w) (base:=base) hLworth T
  have GLties:=zg (P:=l.prog) (w:=w) (base:=base) hLties T hLnext GLnext hLchance GLchance hLworth GLworth
  have GLweb:=BS (P:=l.prog) (w:=w) (base:=base) hLweb T hLties GLties hLnext GLnext
  have GLodd:=BQ (P:=l.prog) (w:=w) (base:=base) hLodd T
  have GLis_rising:=oS (P:=l.prog) (w:=w) (base:=base) hLis_rising T
  have GLgrouped:=si (P:=l.prog) (w:=w) (base:=base) hLgrouped T hLchance GLchance hLnext GLnext
  have GLput:=BR (P:=l.prog) (w:=w) (base:=base) hLput T
  have GLis_groups:=oR (P:=l.prog) (w:=w) (base:=base) hLis_groups T hLis_rising GLis_rising
  have GLbent_group:=mR (P:=l.prog) (w:=w) (base:=base) hLbent_group T hLput GLput
  have GLbent_groups:=ma (P:=l.prog) (w:=w) (base:=base) hLbent_groups T hLbent_group GLbent_group hLput GLput
  have G_law:=BU (P:=l.prog) (w:=w) (base:=base) h_law T hLdraws GLdraws hLgrouped GLgrouped hLweb GLweb hLnext GLnext hLbent_groups GLbent_groups hLis_groups GLis_groups hLodd GLodd h_is_groups G_is_groups hLsays GLsays
  exact G_law
def EK(K:W.Frag):Sp:=fun vs H Q _=>∃(a:Addr) (ns:List Int),vs=[.ref a]∧fm K H a (ns.map V.int)∧ns.length≤63∧∀H',Q (.bl true) H'
theorem BH{K:W.Frag}{vs:List V}{H:Hp}{Q:VK}{E:XK}(h:EK K vs H Q E):dR K 1 l7 vs H Q E:=by
  obtain⟨a,ns,rfl,hS,hl,q⟩:=h
  obtain⟨as',hm⟩:=wM ns hl
  exact sI hS hm q
theorem walk{l:W.OpenLaw}{q:Program}{loose:List Str}{XP:(Str→Option Value)→Heap→Prop}{YP:World→Heap→Prop}{d:DefRec}{K:Params→W.Frag}(hn:l.most=some 63)(hdf:d.params.defaults=[])
    (hY:∀(w:World) (h:Heap),YP w h→(K w.params).In h)
    (F:∀(w:World) (mg:Str→Option Value) (fa:Addr) (h:Heap),(K w.params).In h→h.Ns mainGlobals mg→mg d.name=some (.ref fa)→
      ∃fd:FuncData,(∀(s:Shared) (u:Value),BindsTo s fd ⟨[u],[]⟩ [("_law_script",u)])∧∀base:Heap,(K w.params).In base→base.Ns mainGlobals mg→a9 l.prog w (K w.params) mg base du 6 fa fd ["_law_script"] (dR (K w.params) 1 l7)):
    W.WalkO q loose XP YP l.row.toRowW d [] (fun f vs=>PySem.call f vs):=
  L2.walk_of (n:=63) (k:=6) (x:="_law_script") (CX:=fun _=>du) (sp:=fun w=>dR (K w.params) 1 l7) hn (by decide) hdf ⟨rfl,by decide,by decide,rfl⟩ hY F (fun _ _ a ns hl _ hS=>BH ⟨a,ns,rfl,hS,hl,fun _=>rfl⟩) fun _ _ _ _ _ z=>z
end V69
open PySem PySem.W PyProof.Rows
set_option maxRecDepth 100000 in
set_option maxHeartbeats 0 in
theorem PySem.Challenge.cw_askedpairs_k69_groups_of_anything_holds : PySem.Challenge.rw_askedpairs_k69_groups_of_anything.Holds := by
  w_on;o_law
  refine holds_open (q:=V69.kq) (loose:=[]) (Xt:=fun s=>xlAt V69.kq [] s&&recOk (RowW.records (OpenRow.toRowW (OpenLaw.row PySem.Challenge.rw_askedpairs_k69_groups_of_anything))) s) (XP:=XL V69.kq []) (Yf:=Hook.obs V69.kH) (Ya:=Hook.val V69.kH) (YP:=Hook.says V69.kH) (N:=1592) V69.left (Hook.of V69.kH) (Hook.keeps V69.kH) (fun s e=>xl_of s (Bool.and_eq_true_iff.mp e).1) XL.keeps (by rfl) (by rfl) (by rfl) (fun s e=>recFacts_of (Bool.and_eq_true_iff.mp e).2) (by rfl) (by assumption) (by decide+kernel) ⟨rfl,rfl,rfl,rfl,rfl,by decide+kernel⟩ ?hw ?hc
  case hw=>w_witness2
  case hc=>exact V69.walk (l:=PySem.Challenge.rw_askedpairs_k69_groups_of_anything) rfl rfl (fun w h Y=>kIn_of Y) (fun w mg fa h KX G hmg=>V69.all_mk KX G hmg)
