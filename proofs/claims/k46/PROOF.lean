import PyProof.Rows.All
import Wide.All
import OpenK.AllK
import Wide.FinOn
import Lean
import PyProof.EqAt
import PyProof.EqKinds
import PyProof.TupleCall
import PyProof.ReprRoads
import PyProof.IsInstance
import PyProof.IsInstanceH
import PyProof.FitsBits
import PyProof.CompFree
import PyProof.Rows.SumAny
import PyProof.Rows.SortShell
import PyProof.Rows.TupAdd
import PyProof.NeKinds
import PyProof.ConsumeWalk
import PyProof.ZipIter
import PyProof.TupleIter
import PyProof.LayNew
import PyProof.Draws
import PyProof.EnumFor
import PyProof.EnumMake
import PyProof.ListRange
import PyProof.CollectIter
import KE.KRevIter
import PyProof.ListMulRoad
import PyProof.TupleOps
import PyProof.TupleOfStr
import PyProof.WalksMore
import PyProof.FactsAll.range_iterator
import PyProof.IsRules
import PyProof.CompUse
import PyProof.P3In
import PyProof.EqLayable
import KE.KIsAll
import PyProof.Rows.FactsN_isinstance
import PyProof.CallStr
import PyProof.Rows.StrWeight2
import PyProof.Rows.FStr
import PyProof.StrLawsRepr
import PyProof.Rows.SetFrom
import KE.KIntText
import KE.KRevSl
import PyProof.Rows.SeqMore2
import PySem.Challenge.RW_askedpairs_k46_shares_right_or_not
set_option Elab.async false
set_option linter.all false
set_option maxRecDepth 100000
namespace L2
open PySem PySem.Spec PyProof.Rows
abbrev fU:=Sum Int Str
def l8:fU→Value→Bool
  | .inl k,v=>Value.isInt k v
  | .inr x,v=>Value.isStrOf x v
def E3(w:World):fU→Int
  | .inl k=>hashInt k
  | .inr x=>hashStr w x
theorem bI:∀{k:fU} {v:Value},l8 k v=true→(∃i t,k=Sum.inl i∧v=Value.int i t)∨(∃x t,k=Sum.inr x∧v=Value.str x t)
  | .inl i,v,h=>by
    obtain⟨t,e⟩:=Value.isInt_shape (k:=i) (v:=v) h
    exact .inl ⟨i,t,rfl,e⟩
  | .inr x,v,h=>by
    obtain⟨t,e⟩:=Value.isStrOf_shape (x:=x) (v:=v) h
    exact .inr ⟨x,t,rfl,e⟩
theorem ut(i:Int)(t:Tok):l8 (.inl i) (.int i t)=true:=by simp [l8,Value.isInt]
theorem uu(x:Str)(t:Tok):l8 (.inr x) (.str x t)=true:=by simp [l8,Value.isStrOf]
theorem Ba(a b:Int):decide ((Sum.inl a:fU)=Sum.inl b)=(a==b):=by
  by_cases e:a=b
  · subst e;simp
  · have h:¬(Sum.inl a:fU)=Sum.inl b:=fun q=>e (Sum.inl.inj q)
    rw [decide_eq_false h]
    exact(beq_eq_false_iff_ne.mpr e).symm
theorem Be(a b:Str):decide ((Sum.inr a:fU)=Sum.inr b)=decide (a=b):=by
  by_cases e:a=b
  · subst e;simp
  · have h:¬(Sum.inr a:fU)=Sum.inr b:=fun q=>e (Sum.inr.inj q)
    rw [decide_eq_false h,decide_eq_false e]
theorem Bb(a:Int)(b:Str):decide ((Sum.inl a:fU)=Sum.inr b)=false:=decide_eq_false (fun q=>nomatch q)
theorem Bc(a:Str)(b:Int):decide ((Sum.inr a:fU)=Sum.inl b)=false:=decide_eq_false (fun q=>nomatch q)
def dN(prog:Program)(w:World):PySem.KeyKind prog w fU where
  is:=l8
  hash:=E3 w
  inj:=fun v a b ha hb=>by
    rcases bI ha with ⟨i,t,rfl,rfl⟩ | ⟨x,t,rfl,rfl⟩
    · rcases bI hb with ⟨j,u,rfl,e⟩ | ⟨y,u,rfl,e⟩
      · injection e with e1 _;rw [e1]
      · exact nomatch e
    · rcases bI hb with ⟨j,u,rfl,e⟩ | ⟨y,u,rfl,e⟩
      · exact nomatch e
      · injection e with e1 _;rw [e1]
  byValue:=fun k v h=>by
    rcases bI h with ⟨i,t,rfl,rfl⟩ | ⟨x,t,rfl,rfl⟩<;>rfl
  pyHash:=fun hv h=>by
    rcases bI hv with ⟨i,t,rfl,rfl⟩ | ⟨x,t,rfl,rfl⟩
    · exact wpAny_pyHash_int h
    · exact wpAny_pyHash_str h
  eqBool:=fun hu hv h=>by
    rcases bI hu with ⟨i,t,rfl,rfl⟩ | ⟨x,t,rfl,rfl⟩
    · rcases bI hv with ⟨j,u,rfl,rfl⟩ | ⟨y,u,rfl,rfl⟩
      · rw [Ba] at h;exact wpAny_eqBool_int h
      · rw [Bb] at h;exact SeqAt.EqAt.int_str i t y u _ _ _ _ h
    · rcases bI hv with ⟨j,u,rfl,rfl⟩ | ⟨y,u,rfl,rfl⟩
      · rw [Bc] at h;exact SeqAt.EqAt.str_int x t j u _ _ _ _ h
      · rw [Be] at h;exact wpAny_eqBool_str h
  «strs»:=fun k x t v h=>by
    rcases bI h with ⟨i,u,rfl,e⟩ | ⟨y,u,rfl,e⟩
    · exact nomatch e
    · injection e with e1 _
      subst e1
      cases v<;>rfl
theorem qb(prog:Program)(w:World)(i:Int)(t:Tok):(dN prog w).is (.inl i) (.int i t)=true:=ut i t
theorem qc(prog:Program)(w:World)(x:Str)(t:Tok):(dN prog w).is (.inr x) (.str x t)=true:=uu x t
end L2
namespace L2
open PySem PySem.Spec PyProof.Rows
inductive V where
  | non | bl (b:Bool) | int (i:Int) | str (x:Str) | byt (b:Array UInt8) | flt (b:UInt64) | ref (a:Addr) | ty (n:String)
  deriving DecidableEq
def bD:V→Value→Prop
  | .non,u=>u=Value.none
  | .bl b,u=>u=Value.bool b
  | .int i,u=>∃t,u=Value.int i t
  | .str x,u=>∃t,u=Value.str x t
  | .byt b,u=>∃t,u=Value.bytes b t
  | .flt b,u=>∃t,u=Value.float b t
  | .ref a,u=>u=Value.ref a
  | .ty n,u=>u=Value.type n
abbrev aS:List V→List Value→Prop:=Paired bD
theorem aS.length{xs:List V}{us:List Value}(r:aS xs us):xs.length=us.length:=Paired.length r
theorem aS.get:∀{xs:List V} {us:List Value} {i:Nat} {x:V},aS xs us→xs[i]?=some x→∃u,us[i]?=some u∧bD x u
  | _,_,_,_,.nil,e=>by simp at e
  | _,_,0,_,.cons r _,e=>by simp at e;subst e;exact⟨_,rfl,r⟩
  | _,_,i+1,x,.cons _ t,e=>by
    obtain⟨u,h1,h2⟩:=aS.get (i:=i) (x:=x) t (by simpa using e)
    exact⟨u,by simpa using h1,h2⟩
theorem aS.append:∀{xs ys:List V} {us ws:List Value},aS xs us→aS ys ws→aS (xs++ys) (us++ws)
  | _,_,_,_,.nil,s=>s
  | _,_,_,_,.cons r t,s=>.cons r (aS.append t s)
theorem aS.take:∀{xs:List V} {us:List Value} (n:Nat),aS xs us→aS (xs.take n) (us.take n)
  | _,_,0,_=>.nil
  | _,_,_+1,.nil=>.nil
  | _,_,n+1,.cons r t=>.cons r (aS.take n t)
theorem aS.drop:∀{xs:List V} {us:List Value} (n:Nat),aS xs us→aS (xs.drop n) (us.drop n)
  | _,_,0,r=>r
  | _,_,_+1,.nil=>.nil
  | _,_,n+1,.cons _ t=>aS.drop n t
def CT:Option V→Option Value→Prop
  | some v,some u=>bD v u
  | none,none=>True
  | _,_=>False
def KV{κ:Type}:List (κ × V)→List (κ × Value)→Prop:=Paired fun(p:κ × V) (q:κ × Value)=>p.1=q.1∧bD p.2 q.2
def kV:fU→V
  | .inl i=>.int i
  | .inr x=>.str x
inductive HO where
  /-- a list -/
  | lst (xs:List V)
  /-- a tuple (never changes) -/
  | tup (xs:List V)
  /-- a dict whose keys are ints and texts; one whose keys are tuples of ints and texts (the empty one is both) -/
  | dK (kvs:List (fU × V)) | dT (kvs:List (List fU × V))
  /-- a set of ints: its members, its size -/
  | set (S:Int→Bool) (n:Nat)
  /-- an instance of the class at C, its dict at dx, its attributes -/
  | ins (C dx:Addr) (fs:List (Str × V))
  /-- the dict of the instance at x -/
  | own (x:Addr)
  /-- the dict of an exception -/
  | xd (fs:List (Str × V))
  /-- a bound method, f of x -/
  | met (f x:Addr)
  /-- a range object lo, lo + 1, .. below hi -/
  | rng (lo hi:Int)
  /-- a thing that is known to the object (the script; a dict while a loop walks it): read, never written while it is so -/
  | frz (o:Obj) (u:HO)
  /-- a code object's table -/
  | tbl (ps:Array Value)
  /-- any other thing, by what is true of its one object (a def of one's own: SetO a S n := HO.ext fun h => ..) -/
  | ext (φ:Heap→Prop)
abbrev Hp:=Addr→Option HO
def a_(H:Hp)(a:Addr)(o:HO):Hp:=fun b=>if b=a then some o else H b
theorem aG{H:Hp}{a:Addr}{o:HO}:a_ H a o a=some o:=by unfold a_;rw [if_pos rfl]
theorem aI{H:Hp}{a b:Addr}{o:HO}(h:b≠a):a_ H a o b=H b:=by unfold a_;rw [if_neg h]
theorem eh{H:Hp}{a b:Addr}{o:HO}(h:H a=some o)(h':H b=none):a≠b:=by
  intro e;subst e;rw [h] at h';cases h'
def ke(h:Heap)(a:Addr)(items:Array Value):Prop:=∃o,h.get? a=some o∧o.cls=.type "tuple"∧∃n,o.data=.seq items n∧o.dict=none
theorem ke.tup{h:Heap}{a:Addr}{items:Array Value}(x:ke h a items):IsTup h a items:=let ⟨o,ho,hc,n,hd,_⟩:=x;⟨o,ho,hc,n,hd⟩
theorem ke.new(h:Heap)(items:Array Value):ke (h.push {cls:=.type "tuple",data:=.seq items}) h.objs.size items:=⟨_,Heap.get?_push_size _ rfl,rfl,_,rfl,rfl⟩
section
variable(P:Program)(w:World)
def cY(H:Hp)(h:Heap)(a:Addr):HO→Prop
  | .lst xs=>xs.length≤sizeLine∧∃(its:List Value) (n:Nat),aS xs its∧h.get? a=some {cls:=.type "list",data:=.seq its.toArray n}
  | .tup xs=>xs.length≤sizeLine∧∃its:List Value,aS xs its∧ke h a its.toArray
  | .dK kvs=>kvs.length≤sizeLine∧(a==sysModules)=false∧∃vs,KV kvs vs∧h.DictOf (dN P w) a vs
  | .dT kvs=>kvs.length≤sizeLine∧(a==sysModules)=false∧∃xs:List (List fU × Addr × Value),
      Paired (fun(p:List fU × V) (q:List fU × Addr × Value)=>p.1=q.1∧H q.2.1=some (.tup (p.1.map kV))∧bD p.2 q.2.2) kvs xs∧
      ∃o es ep,h.get? a=some o∧o.ExactDict∧o.data=.dict es ep∧es.toList=xs.map (entryOfKey (tupleKind (dN P w)))∧(xs.map (·.1)).Nodup
  | .set S n=>h.SetOf (intKind P w) a S n
  | .ins C dx fs=>H dx=some (.own a)∧fs.length≤1000∧dx≠a∧h.get? a=some (PySem.W.instObj C dx)∧
      ∃mA,h.Ns1 dx mA∧(∀f,CT (fs.lookup f) (mA f))∧PySem.Within mA (fs.map (·.1))
  | .own _=>∃o,h.get? a=some o
  | .xd fs=>∃mA,h.Ns1 a mA∧∀f,CT (fs.lookup f) (mA f)
  | .rng lo hi=>∃t u v,h.get? a=some {cls:=.type "range",data:=.fields #[.int lo t,.int hi u,.int 1 v]}
  | .frz o u=>h.get? a=some o∧cY H h a u
  | .tbl ps=>h.get? a=some {cls:=.none,data:=.fields ps}
  | .met f x=>h.get? a=some (PySem.W.methodObj (.ref f) (.ref x))
  | .ext φ=>φ h∧(∃o,h.get? a=some o)∧∀h1 h2:Heap,φ h1→(∀o,h1.get? a=some o→h2.get? a=some o)→φ h2
def kY(H:Hp)(h:Heap):Prop:=∀a o,H a=some o→cY P w H h a o
end
section
variable{P:Program}{w:World}{H H':Hp}{h h':Heap}{a:Addr}{o:HO}
theorem cY.lt(x:cY P w H h a o):a < h.objs.size:=by
  cases o with
  | lst xs=>obtain⟨_,_,_,_,e⟩:=x;exact Heap.lt_size e
  | tup xs=>obtain⟨_,_,_,p⟩:=x;exact p.tup.lt
  | dK kvs=>obtain⟨_,_,_,_,o,_,_,e,_⟩:=x;exact Heap.lt_size e
  | dT kvs=>obtain⟨_,_,_,_,o,_,_,e,_⟩:=x;exact Heap.lt_size e
  | set S n=>obtain⟨o,_,_,_,e,_⟩:=x;exact Heap.lt_size e
  | ins C dx fs=>obtain⟨_,_,_,e,_⟩:=x;exact Heap.lt_size e
  | own y=>obtain⟨_,e⟩:=x;exact Heap.lt_size e
  | xd fs=>obtain⟨_,⟨_,_,_,e,_⟩,_⟩:=x;exact Heap.lt_size e
  | rng lo hi=>obtain⟨_,_,_,e⟩:=x;exact Heap.lt_size e
  | frz ob u=>obtain⟨e,_⟩:=x;exact Heap.lt_size e
  | tbl ps=>exact Heap.lt_size (show h.get? a=some _ from x)
  | met f y=>exact Heap.lt_size (show h.get? a=some _ from x)
  | ext φ=>obtain⟨_,⟨_,e⟩,_⟩:=x;exact Heap.lt_size e
theorem Paired.mapP{α β:Type}{F G:α→β→Prop}:∀{l₁:List α} {l₂:List β},Paired F l₁ l₂→(∀a b,F a b→G a b)→Paired G l₁ l₂
  | _,_,.nil,_=>.nil
  | _,_,.cons r t,f=>.cons (f _ _ r) (Paired.mapP t f)
theorem cY.stay(x:cY P w H h a o)(k:∀b u,(b=a∨H b=some (.own a))→h.get? b=some u→h'.get? b=some u)
    (ho:∀b,H b=some (.own a)→H' b=some (.own a))(ht:∀b xs,H b=some (.tup xs)→H' b=some (.tup xs)):cY P w H' h' a o:=by
  induction o with
  | lst xs=>obtain⟨z,its,n,r,e⟩:=x;exact⟨z,its,n,r,k _ _ (.inl rfl) e⟩
  | tup xs=>obtain⟨z,its,r,ob,e,c⟩:=x;exact⟨z,its,r,ob,k _ _ (.inl rfl) e,c⟩
  | dK kvs=>obtain⟨z,y,vs,r,ob,es,ep,e,c⟩:=x;exact⟨z,y,vs,r,ob,es,ep,k _ _ (.inl rfl) e,c⟩
  | dT kvs=>
    obtain⟨z,y,xs,r,ob,es,ep,e,c⟩:=x
    exact⟨z,y,xs,Paired.mapP r fun p q z=>⟨z.1,ht _ _ z.2.1,z.2.2⟩,ob,es,ep,k _ _ (.inl rfl) e,c⟩
  | set S n=>obtain⟨ob,es,ep,t,e,c⟩:=x;exact⟨ob,es,ep,t,k _ _ (.inl rfl) e,c⟩
  | ins C dx fs=>
    obtain⟨d,z,ne,e,mA,⟨od,es,ep,e2,c⟩,r⟩:=x
    exact⟨ho _ d,z,ne,k _ _ (.inl rfl) e,mA,⟨od,es,ep,k _ _ (.inr d) e2,c⟩,r⟩
  | own y=>obtain⟨ob,e⟩:=x;exact⟨ob,k _ _ (.inl rfl) e⟩
  | xd fs=>obtain⟨mA,⟨od,es,ep,e,c⟩,r⟩:=x;exact⟨mA,⟨od,es,ep,k _ _ (.inl rfl) e,c⟩,r⟩
  | rng lo hi=>obtain⟨t,u,v,e⟩:=x;exact⟨t,u,v,k _ _ (.inl rfl) e⟩
  | frz ob u ih=>obtain⟨e,q⟩:=x;exact⟨k _ _ (.inl rfl) e,ih q⟩
  | tbl ps=>
    have e:h.get? a=some {cls:=.none,data:=.fields ps}:=x
    show h'.get? a=some {cls:=.none,data:=.fields ps}
    exact k a _ (.inl rfl) e
  | met f y=>
    have e:h.get? a=some (PySem.W.methodObj (.ref f) (.ref y)):=x
    show h'.get? a=some (PySem.W.methodObj (.ref f) (.ref y))
    exact k a _ (.inl rfl) e
  | ext φ=>obtain⟨p,⟨o,e⟩,st⟩:=x;exact⟨st _ _ p fun o q=>k _ _ (.inl rfl) q,⟨o,k _ _ (.inl rfl) e⟩,st⟩
theorem kY.lt(x:kY P w H h)(e:H a=some o):a < h.objs.size:=(x a o e).lt
theorem kY.fresh(x:kY P w H h)(e:h.objs.size≤a):H a=none:=by
  cases q:H a with
  | none=>rfl
  | some u=>exact absurd (Nat.lt_of_lt_of_le (x.lt q) e) (Nat.lt_irrefl _)
theorem kY.kept(x:kY P w H h)(k:∀b u,h.get? b=some u→h'.get? b=some u):kY P w H h':=fun a o e=>
  (x a o e).stay (fun b u _ q=>k b u q) (fun _ q=>q) fun _ _ q=>q
theorem kY.laid(x:kY P w H h)(k:∀b u,h.get? b=some u→h'.get? b=some u)(hp:h.objs.size≤a)(new:cY P w (a_ H a o) h' a o):kY P w (a_ H a o) h':=fun b u e=>by
  have hn:=x.fresh hp
  by_cases hb:b=a
  · subst hb;rw [aG] at e;cases e;exact new
  · rw [aI hb] at e
    exact(x b u e).stay (fun c v _ q=>k c v q) (fun c q=>by rw [aI (eh q hn)];exact q) fun c xs q=>by rw [aI (eh q hn)];exact q
end
def Rd(H:Hp)(a:Addr)(u:HO):Prop:=H a=some u∨∃o,H a=some (.frz o u)
theorem Rd.ok{P:Program}{w:World}{H:Hp}{h:Heap}{a:Addr}{u:HO}(r:Rd H a u)(x:kY P w H h):cY P w H h a u:=by
  rcases r with r | ⟨o,r⟩
  · exact x a u r
  · obtain⟨_,q⟩:=x a _ r
    exact q
def CS:Option HO→Prop
  | some (.lst _)=>True
  | some (.dK _)=>True
  | some (.dT _)=>True
  | some (.set _ _)=>True
  | some (.ins _ _ _)=>True
  | some (.ext _)=>True
  | _=>False
section
variable{P:Program}{w:World}{H:Hp}{h h':Heap}{x e:Addr}{o':HO}
theorem kY.write(ok:kY P w H h)(mu:CS (H x))(he:e=x∨H e=some (.own x))(k:∀b u,b≠e→h.get? b=some u→h'.get? b=some u)(heo:∃u,h'.get? e=some u)
    (new:cY P w (a_ H x o') h' x o'):kY P w (a_ H x o') h':=fun b u q=>by
  have nown:∀c y,H c=some (.own y)→c≠x:=fun c y r z=>by subst z;rw [r] at mu;exact mu
  have ntup:∀c xs,H c=some (.tup xs)→c≠x:=fun c xs r z=>by subst z;rw [r] at mu;exact mu
  by_cases hb:b=x
  · subst hb;rw [aG] at q;cases q;exact new
  · rw [aI hb] at q
    by_cases hbe:b=e
    · have q':H b=some (.own x):=by
        rcases he with z | z
        · exact absurd (hbe.trans z) hb
        · rw [hbe];exact z
      rw [q] at q';cases q'
      obtain⟨v,hv⟩:=heo
      exact⟨v,by rw [hbe];exact hv⟩
    · refine(ok b u q).stay (fun c v hc r=>k c v ?_ r) (fun c r=>by rw [aI (nown c b r)];exact r) fun c xs r=>by rw [aI (ntup c xs r)];exact r
      rcases hc with rfl | hc
      · exact hbe
      · rintro rfl
        rcases he with z | z
        · exact nown c b hc z
        · rw [hc] at z;cases z;exact hb rfl
end
structure Un (fs ex:List Addr) (H H':Hp) (h h':Heap):Prop where
  keep:∀b o,h.get? b=some o→H b=none→b∉fs→b∉ex→h'.get? b=some o
  slot:∀b o,h.get? b=some o→H b=none→b∈fs→b∉ex→∃sl,h'.get? b=some {o with slots:=sl}
  free:∀b o,h.get? b=some o→H b=none→b∉ex→H' b=none
  there:∀b o,h.get? b=some o→b∉ex→∃o',h'.get? b=some o'
  tups:∀b xs,H b=some (.tup xs)→H' b=some (.tup xs)
  frzs:∀b o u,H b=some (.frz o u)→H' b=some (.frz o u)
  tbls:∀b ps,H b=some (.tbl ps)→∃more,H' b=some (.tbl (ps++more))
section
variable{fs fs' ex ex':List Addr}{H H1 H2:Hp}{h h1 h2 h':Heap}{a x e:Addr}{o:HO}
theorem Un.any(u:Un fs ex H H1 h h1){b:Addr}{ob:Obj}(q:h.get? b=some ob)(n:H b=none)(hx:b∉ex):∃sl,h1.get? b=some {ob with slots:=sl}:=by
  by_cases hb:b∈fs
  · exact u.slot b ob q n hb hx
  · exact⟨ob.slots,u.keep b ob q n hb hx⟩
theorem Un.kept(k:∀b u,h.get? b=some u→h'.get? b=some u):Un fs ex H H h h':=
  ⟨fun b ob q _ _ _=>k b ob q,fun b ob q _ _ _=>⟨ob.slots,k b ob q⟩,fun _ _ _ n _=>n,fun b ob q _=>⟨ob,k b ob q⟩,fun _ _ q=>q,fun _ _ _ q=>q,fun _ ps q=>⟨#[],by rw [q];simp⟩⟩
theorem Un.refl:Un fs ex H H h h:=Un.kept fun _ _ q=>q
theorem Un.laid(k:∀b u,h.get? b=some u→h'.get? b=some u)(hp:h.objs.size≤a)(hn:H a=none):Un fs ex H (a_ H a o) h h' where
  keep:=fun b u q _ _ _=>k b u q
  slot:=fun b u q _ _ _=>⟨u.slots,k b u q⟩
  free:=fun b u q n _=>by rw [aI (Nat.ne_of_lt (Nat.lt_of_lt_of_le (Heap.lt_size q) hp))];exact n
  there:=fun b u q _=>⟨u,k b u q⟩
  tups:=fun b xs q=>by rw [aI (eh q hn)];exact q
  frzs:=fun b u xs q=>by rw [aI (eh q hn)];exact q
  tbls:=fun b ps q=>⟨#[],by rw [aI (eh q hn),q];simp⟩
theorem Un.write(mu:CS (H x))(he:e=x∨H e=some (.own x))(k:∀b u,b≠e→h.get? b=some u→h'.get? b=some u)(heo:∃u,h'.get? e=some u):Un fs ex H (a_ H x o) h h':=by
  have hx:∀b,H b=none→b≠x:=fun b n z=>by subst z;rw [n] at mu;exact mu
  have hb:∀b,H b=none→b≠e:=fun b n z=>by
    subst z
    rcases he with r | r
    · exact hx b n r
    · rw [n] at r;cases r
  have hm:∀b u,H b=some u→¬CS (some u)→b≠x:=fun b u q nm z=>by subst z;rw [q] at mu;exact nm mu
  refine⟨fun b u q n _ _=>k b u (hb b n) q,fun b u q n _ _=>⟨u.slots,k b u (hb b n) q⟩,fun b u q n _=>by rw [aI (hx b n)];exact n,fun b u q _=>?_,
    fun b xs q=>by rw [aI (hm b _ q fun z=>z)];exact q,fun b u xs q=>by rw [aI (hm b _ q fun z=>z)];exact q,fun b ps q=>⟨#[],by rw [aI (hm b _ q fun z=>z),q];simp⟩⟩
  by_cases hbe:b=e
  · subst hbe;exact heo
  · exact⟨u,k b u hbe q⟩
end
def EB(h:Heap)(H:Hp):List Addr:=(List.range h.objs.size).filter fun a=>(H a).isSome
def oV(h:Heap)(H:Hp):Heap:=PySem.W.hideAll h (EB h H)
theorem uo(h:Heap)(H:Hp):(oV h H).objs.size=h.objs.size:=PySem.W.hideAll_size _ _
theorem wm{h:Heap}{H:Hp}{b:Addr}{o:Obj}(e:h.get? b=some o)(n:H b=none):(oV h H).get? b=some o:=
  PySem.W.hideAll_get _ e fun hm=>by
    have q:(H b).isSome=true:=(List.mem_filter.mp hm).2
    rw [n] at q;simp at q
theorem yS{h:Heap}{H:Hp}{b:Addr}{o:Obj}(e:(oV h H).get? b=some o):h.get? b=some o∧H b=none:=by
  have e':h.get? b=some o:=PySem.W.of_hideAll (EB h H) e
  refine⟨e',?_⟩
  cases q:H b with
  | none=>rfl
  | some x=>
    have hm:b∈EB h H:=List.mem_filter.mpr ⟨List.mem_range.mpr (Heap.lt_size e'),by simp [q]⟩
    have z:(oV h H).get? b=none:=PySem.W.hideAll_none (EB h H) hm
    rw [z] at e;cases e
def ou(g h:Heap)(L:Addr):List (Addr × Obj):=(List.range h.objs.size).filterMap fun a=>if a=L∨(g.get? a).isSome=true then none else(h.get? a).map fun o=>(a,o)
theorem mn{g h:Heap}{L:Addr}{p:Addr × Obj}(hp:p∈ou g h L):p.1≠L∧g.get? p.1=none∧h.get? p.1=some p.2:=by
  obtain⟨b,_,e⟩:=List.mem_filterMap.mp hp
  split at e
  · cases e
  · rename_i hn
    cases q:h.get? b with
    | none=>rw [q] at e;simp at e
    | some u=>
      rw [q] at e
      simp only [Option.map_some,Option.some.injEq] at e
      subst e
      refine⟨fun z=>hn (.inl z),?_,q⟩
      show g.get? b=none
      cases r:g.get? b with
      | none=>rfl
      | some v=>exact(hn (.inr (by simp [r]))).elim
def eD(g h:Heap)(L d:Addr):List (Addr × Obj):=(ou g h L).filter fun p=>decide (p.1≠d)
theorem wF{g h:Heap}{L:Addr}:News g L h (ou g h L):=fun p hp=>let ⟨a,b,c⟩:=mn hp;⟨c,a,b⟩
end L2
namespace L2
open PySem PySem.Spec PyProof.Rows
structure Mod (K:PySem.W.Frag) (mg:Str→Option Value) (base:Heap):Prop where
  kin:K.In base
  glob:base.Ns mainGlobals mg
  blt:∃mb,base.Ns builtinsNs mb∧∀x:Str,x≠"__name__"→mb x=bootBuiltins x
  nolimit:base.NoLimit
structure Cx where
  prog:Program
  w:World
  K:PySem.W.Frag
  mg:Str→Option Value
  base:Heap
  A:Around
  N:List Str
  s₀:Shared
  H₀:Hp
  env:Env
  outer:List Env
  stack:List Env
  ex:List Addr
  fn:Str→Bool
  calm:Bool
  pn:List (Addr × Obj)
  xe:Value→Shared→Prop
def vQ(l:List Env):List Addr:=l.filterMap (·.frame)
abbrev Cx.fs(X:Cx):List Addr:=vQ X.outer
def CY(sc:Scope)(x:Str):Prop:=sc.names.lookup x=some .local∨sc.names.lookup x=some .cell∨sc.names.lookup x=some .free
def CK(sc:Scope)(x:Str):Prop:=sc.names.lookup x=some .local∨sc.names.lookup x=some .cell
def EG(env:Env)(h:Heap)(m:Str→Option Value)(x:Str)(u:Value):Prop:=
  (env.kindOf x=some .local∧m x=some u)∨((env.kindOf x=some .cell∨env.kindOf x=some .free)∧∃c,env.cells.lookup x=some c∧h.IsCell c (some u))
structure Cx.Ok (X:Cx):Prop where
  mod:Mod X.K X.mg X.base
  kind:X.env.scope.kind=.function
  glob:X.env.globals=mainGlobals
  blt:X.env.builtins=builtinsNs
  above:X.s₀.heap.objs.size≤X.env.locals
  inj:∀x y c,X.env.cells.lookup x=some c→X.env.cells.lookup y=some c→x=y
  has:∀x,(X.env.kindOf x=some .cell∨X.env.kindOf x=some .free)→∃c,X.env.cells.lookup x=some c
  cab:∀x c,X.fn x=true→X.env.cells.lookup x=some c→X.s₀.heap.objs.size≤c
  hd:X.calm=true→X.A.handled=none
  frames:X.A.frames=some X.stack
  stk:X.stack=X.outer∨(X.stack=X.env::X.outer∧X.env.frame=some X.env.locals)
  exf:∀b∈X.ex,b≠X.env.locals∧∀x c,X.env.cells.lookup x=some c→c≠b
  bs:∀b o,X.base.get? b=some o→X.s₀.heap.get? b=some o∧X.H₀ b=none
  bsz:X.base.objs.size≤X.s₀.heap.objs.size
  noex:∀b o,X.base.get? b=some o→b∉X.ex
  exfs:∀b∈X.ex,b∉X.fs
  funs:X.s₀.heap.FunFrames X.base X.outer
  frf:∀b∈X.fs,X.H₀ b=none
structure aF (X:Cx) (pins:List (Addr × Obj)) (σ:List (Option V)) (H:Hp) (s:Shared):Prop where
  ok:X.Ok
  os:s.os=X.s₀.os
  bare:AllBare s.gens
  base:Un X.fs X.ex X.H₀ H X.s₀.heap s.heap
  loc:∃m,s.heap.Ns X.env.locals m∧∀(i:Nat) (x:Str) (v:V),X.N[i]?=some x→σ[i]?=some (some v)→CY X.env.scope x→∃u,bD v u∧EG X.env s.heap m x u
  cell:∀x c,X.env.cells.lookup x=some c→∃v,s.heap.IsCell c v
  free:H X.env.locals=none
  freeC:∀x c,X.env.cells.lookup x=some c→H c=none
  pin:∀p∈X.pn++pins,s.heap.get? p.1=some p.2∧H p.1=none∧p.1≠X.env.locals∧p.1∉X.fs∧∀v,p.2.data≠.cell v
  hok:kY X.prog X.w H s.heap
  len:σ.length=X.N.length
section
variable{X:Cx}{pins:List (Addr × Obj)}{σ:List (Option V)}{H H':Hp}{s:Shared}{h':Heap}
theorem Cx.Ok.nofr(ok:X.Ok){b:Addr}{o:Obj}(e:X.base.get? b=some o):b∉X.fs:=fun hb=>by
  have:=(ok.funs.mem hb).1
  rw [e] at this;cases this
theorem aF.bs(I:aF X pins σ H s):∀b o,X.base.get? b=some o→s.heap.get? b=some o∧H b=none:=fun b o e=>
  ⟨I.base.keep b o (I.ok.bs b o e).1 (I.ok.bs b o e).2 (I.ok.nofr e) (I.ok.noex b o e),I.base.free b o (I.ok.bs b o e).1 (I.ok.bs b o e).2 (I.ok.noex b o e)⟩
theorem aF.bk(I:aF X pins σ H s):∀b o,X.base.get? b=some o→s.heap.get? b=some o:=fun b o e=>(I.bs b o e).1
theorem aF.mod(I:aF X pins σ H s):Mod X.K X.mg X.base:=I.ok.mod
theorem aF.kIn(I:aF X pins σ H s):X.K.In s.heap:=I.ok.mod.kin.keeps I.bk
theorem aF.fr(I:aF X pins σ H s):∃m,Fr X.base X.env.locals s.heap m:=
  let ⟨m,hn,_⟩:=I.loc
  ⟨m,hn,I.bk,Nat.le_trans I.ok.bsz I.ok.above⟩
theorem aF.lt(I:aF X pins σ H s):X.env.locals < s.heap.objs.size:=let ⟨_,hn,_⟩:=I.loc;hn.lt
theorem aF.sz(I:aF X pins σ H s):X.s₀.heap.objs.size≤s.heap.objs.size:=Nat.le_trans I.ok.above (Nat.le_of_lt I.lt)
theorem aF.nofs(I:aF X pins σ H s){a:Addr}(h:s.heap.objs.size≤a):a∉X.fs:=fun hb=>by
  obtain⟨_,o,ho,_⟩:=I.ok.funs.mem hb
  exact absurd (Nat.lt_of_lt_of_le (Heap.lt_size ho) (Nat.le_trans I.sz h)) (Nat.lt_irrefl _)
theorem aF.cne(I:aF X pins σ H s):∀x c,X.env.cells.lookup x=some c→c≠X.env.locals:=fun x c e z=>by
  obtain⟨v,o,ho,hd⟩:=I.cell x c e
  obtain⟨m,⟨o',es,ep,ho',hd',_⟩,_⟩:=I.loc
  rw [z,ho'] at ho;cases ho;rw [hd'] at hd;cases hd
theorem aF.funs(I:aF X pins σ H s):s.heap.FunFrames X.base X.outer:=by
  have all:∀(l:List Env),(∀b∈vQ l,b∈X.fs)→X.s₀.heap.FunFrames X.base l→s.heap.FunFrames X.base l:=by
    intro l
    induction l with
    | nil=>intro _ _;trivial
    | cons env r ih=>
      intro hs hl
      obtain⟨hk,⟨L,o,hf,hn,ho,hd⟩,hr⟩:=hl
      have hL:L∈X.fs:=hs L (by unfold vQ;rw [List.filterMap_cons,hf];exact List.mem_cons_self)
      obtain⟨sl,e⟩:=I.base.slot L o ho (I.ok.frf L hL) hL fun z=>I.ok.exfs L z hL
      exact⟨hk,⟨L,_,hf,hn,e,hd⟩,ih (fun b hb=>hs b (by unfold vQ;rw [List.filterMap_cons,hf];exact List.mem_cons_of_mem _ hb)) hr⟩
  exact all X.outer (fun _ hb=>hb) I.ok.funs
theorem aF.stack(I:aF X pins σ H s):s.heap.FunFrames X.base X.stack:=by
  rcases I.ok.stk with e | ⟨e,hf⟩
  · rw [e];exact I.funs
  · rw [e]
    obtain⟨m,hn,_⟩:=I.loc
    refine .cons (by rw [I.ok.kind];decide) hf hn ?_ I.funs
    exact Heap.get?_none_of_le (Nat.le_trans I.ok.bsz I.ok.above)
theorem aF.stkSub(I:aF X pins σ H s):∀b∈vQ X.stack,b∈X.env.locals::X.fs:=fun b hb=>by
  rcases I.ok.stk with e | ⟨e,hf⟩
  · rw [e] at hb;exact List.mem_cons_of_mem _ hb
  · rw [e] at hb
    unfold vQ at hb
    rw [List.filterMap_cons,hf] at hb
    exact hb
theorem aF.stkFree(I:aF X pins σ H s):∀b∈vQ X.stack,H b=none:=fun b hb=>by
  rcases List.mem_cons.mp (I.stkSub b hb) with e | hb
  · rw [e];exact I.free
  · obtain⟨_,o,ho,_⟩:=I.ok.funs.mem hb
    exact I.base.free b o ho (I.ok.frf b hb) fun z=>I.ok.exfs b z hb
theorem aF.step{g':Array GenState}{t':Nat}{d':Drawn}{ch:List Addr}(I:aF X pins σ H s)
    (hch:∀b∈ch,(b∈X.ex∨X.s₀.heap.objs.size≤b)∧b≠X.env.locals∧(∀x c,X.env.cells.lookup x=some c→c≠b)∧∀p∈X.pn++pins,p.1≠b)
    (keep:∀b o,b≠X.env.locals→b∉X.fs→b∉ch→s.heap.get? b=some o→H b=none→h'.get? b=some o)
    (slot:∀b o,b≠X.env.locals→b∈X.fs→b∉ch→s.heap.get? b=some o→H b=none→∃sl,h'.get? b=some {o with slots:=sl})(free:∀b o,b∉ch→s.heap.get? b=some o→H b=none→H' b=none)
    (there:∀b o,b∉ch→s.heap.get? b=some o→∃o',h'.get? b=some o')
    (tups:∀b xs,H b=some (.tup xs)→H' b=some (.tup xs))(frzs:∀b o u,H b=some (.frz o u)→H' b=some (.frz o u))(tbls:∀b ps,H b=some (.tbl ps)→∃more,H' b=some (.tbl (ps++more)))
    (ns:∀m,s.heap.Ns X.env.locals m→h'.Ns X.env.locals m)(hok:kY X.prog X.w H' h')(hg:AllBare g'):
    aF X pins σ H' {s with heap:=h',gens:=g',drawn:=d',toks:=t'}:=by
  have neL:∀b o,X.s₀.heap.get? b=some o→b≠X.env.locals:=fun b o e=>Nat.ne_of_lt (Nat.lt_of_lt_of_le (Heap.lt_size e) I.ok.above)
  have neC:∀b o,X.s₀.heap.get? b=some o→b∉X.ex→b∉ch:=fun b o e hx hb=>by
    rcases(hch b hb).1 with z | z
    · exact hx z
    · exact absurd (Nat.lt_of_lt_of_le (Heap.lt_size e) z) (Nat.lt_irrefl _)
  have cellK:∀x c,X.env.cells.lookup x=some c→∀v,s.heap.IsCell c v→h'.IsCell c v:=fun x c e v ⟨o,ho,hd⟩=>by
    have nch:c∉ch:=fun z=>(hch c z).2.2.1 x c e rfl
    by_cases hc:c∈X.fs
    · obtain⟨sl,q⟩:=slot c o (I.cne x c e) hc nch ho (I.freeC x c e)
      exact⟨_,q,hd⟩
    · exact⟨o,keep c o (I.cne x c e) hc nch ho (I.freeC x c e),hd⟩
  refine⟨I.ok,I.os,hg,⟨fun b o e n hb hx=>?_,fun b o e n hb hx=>?_,fun b o e n hx=>?_,fun b o e hx=>?_,fun b xs e=>tups b xs (I.base.tups b xs e),fun b o xs e=>frzs b o xs (I.base.frzs b o xs e),fun b ps e=>?_⟩,?_,fun x c e=>?_,?_,fun x c e=>?_,fun p hp=>?_,hok,I.len⟩
  · exact keep b o (neL b o e) hb (neC b o e hx) (I.base.keep b o e n hb hx) (I.base.free b o e n hx)
  · obtain⟨sl,e1⟩:=I.base.slot b o e n hb hx
    obtain⟨sl',e2⟩:=slot b _ (neL b o e) hb (neC b o e hx) e1 (I.base.free b o e n hx)
    exact⟨sl',e2⟩
  · obtain⟨o',e1⟩:=I.base.there b o e hx
    exact free b o' (neC b o e hx) e1 (I.base.free b o e n hx)
  · obtain⟨o',e1⟩:=I.base.there b o e hx
    exact there b o' (neC b o e hx) e1
  · obtain⟨m1,e1⟩:=I.base.tbls b ps e
    obtain⟨m2,e2⟩:=tbls b _ e1
    exact⟨m1++m2,by rw [e2,Array.append_assoc]⟩
  · obtain⟨m,hn,hl⟩:=I.loc
    refine⟨m,ns m hn,fun i x v e1 e2 e3=>?_⟩
    obtain⟨u,r,l⟩:=hl i x v e1 e2 e3
    refine⟨u,r,?_⟩
    rcases l with l | ⟨k,c,e,z⟩
    · exact .inl l
    · exact .inr ⟨k,c,e,cellK x c e _ z⟩
  · obtain⟨v,z⟩:=I.cell x c e
    exact⟨v,cellK x c e v z⟩
  · obtain⟨m,⟨o,_,_,ho,_⟩,_⟩:=I.loc
    exact free _ o (fun z=>(hch _ z).2.1 rfl) ho I.free
  · obtain⟨v,o,ho,hd⟩:=I.cell x c e
    exact free c o (fun z=>(hch c z).2.2.1 x c e rfl) ho (I.freeC x c e)
  · obtain⟨e,n,ne,nf,d⟩:=I.pin p hp
    have nch:p.1∉ch:=fun z=>(hch p.1 z).2.2.2 p hp rfl
    exact⟨keep p.1 p.2 ne nf nch e n,free p.1 p.2 nch e n,ne,nf,d⟩
theorem aF.un{t':Nat}(I:aF X pins σ H s)(u:Un X.fs [] H H' s.heap h')(hok:kY X.prog X.w H' h'):aF X pins σ H' {s with heap:=h',toks:=t'}:=by
  obtain⟨m,⟨o,es,ep,ho,r⟩,_⟩:=id I.loc
  obtain⟨sl,hL⟩:=u.any ho I.free (by simp)
  exact I.step (g':=s.gens) (d':=s.drawn) (ch:=[]) (fun _ z=>nomatch z) (fun b o _ hb _ e n=>u.keep b o e n hb (by simp)) (fun b o _ hb _ e n=>u.slot b o e n hb (by simp)) (fun b o _ e n=>u.free b o e n (by simp)) (fun b o _ e=>u.there b o e (by simp)) u.tups u.frzs u.tbls (fun m' hm=>by
    obtain⟨o',es',ep',ho',r'⟩:=hm
    rw [ho] at ho';cases ho'
    exact⟨_,es',ep',hL,r'⟩) hok I.bare
theorem aF.call{g':Array GenState}{t':Nat}{d':Drawn}{ch:List Addr}(I:aF X pins σ H s)(u:Un (vQ X.stack) ch H H' s.heap h')(hok:kY X.prog X.w H' h')(hg:AllBare g')
    (hch:∀b∈ch,(b∈X.ex∨X.s₀.heap.objs.size≤b)∧b≠X.env.locals∧(∀x c,X.env.cells.lookup x=some c→c≠b)∧∀p∈X.pn++pins,p.1≠b):
    aF X pins σ H' {s with heap:=h',gens:=g',drawn:=d',toks:=t'}:=by
  obtain⟨m,⟨o,es,ep,ho,r⟩,_⟩:=id I.loc
  obtain⟨sl,hL⟩:=u.any ho I.free fun z=>(hch _ z).2.1 rfl
  exact I.step (ch:=ch) hch (fun b o hL hb hc e n=>u.keep b o e n (fun z=>(List.mem_cons.mp (I.stkSub b z)).elim hL hb) hc) (fun b o _ _ hc e n=>u.any e n hc) (fun b o hc e n=>u.free b o e n hc) (fun b o hc e=>u.there b o e hc) u.tups u.frzs u.tbls (fun m' hm=>by
    obtain⟨o',es',ep',ho',r'⟩:=hm
    rw [ho] at ho';cases ho'
    exact⟨_,es',ep',hL,r'⟩) hok hg
theorem aF.turned{t':Nat}{it:Addr}(I:aF X pins σ H s)(k:∀b o,b≠it→s.heap.get? b=some o→h'.get? b=some o)(hn:H it=none)(hL:it≠X.env.locals)
    (h1:it∈X.ex∨X.s₀.heap.objs.size≤it)(h2:∀x c,X.env.cells.lookup x=some c→c≠it)(h3:∀p∈X.pn++pins,p.1≠it):aF X pins σ H {s with heap:=h',toks:=t'}:=by
  have nit:∀b u,H b=some u→b≠it:=fun b u e z=>by rw [z,hn] at e;cases e
  refine I.step (g':=s.gens) (d':=s.drawn) (ch:=[it]) (fun b hb=>?_) (fun b o _ _ hc e _=>k b o (fun z=>hc (by simp [z])) e) (fun b o _ _ hc e _=>⟨o.slots,k b o (fun z=>hc (by simp [z])) e⟩) (fun _ _ _ _ n=>n)
    (fun b o hc e=>⟨o,k b o (fun z=>hc (by simp [z])) e⟩) (fun _ _ e=>e) (fun _ _ _ e=>e) (fun b ps e=>⟨#[],by rw [e];simp⟩) (fun m hm=>?_) (fun b u e=>?_) I.bare
  · have e:b=it:=by simpa using hb
    subst e
    exact⟨h1,hL,h2,h3⟩
  · obtain⟨o,es,ep,ho,r⟩:=hm
    exact⟨o,es,ep,k _ o (Ne.symm hL) ho,r⟩
  · refine(I.hok b u e).stay (fun c v hc q=>k c v ?_ q) (fun _ q=>q) fun _ _ q=>q
    rcases hc with z | z
    · rw [z];exact nit b u e
    · exact nit c _ z
theorem aF.tok(I:aF X pins σ H s)(t:Nat):aF X pins σ H {s with toks:=t}:=I.un (h':=s.heap) (t':=t) Un.refl I.hok
theorem aF.kept{t':Nat}(I:aF X pins σ H s)(k:∀b u,s.heap.get? b=some u→h'.get? b=some u):aF X pins σ H {s with heap:=h',toks:=t'}:=I.un (Un.kept k) (I.hok.kept k)
theorem aF.laid{a:Addr}{o:HO}{t':Nat}(I:aF X pins σ H s)(k:∀b u,s.heap.get? b=some u→h'.get? b=some u)(hp:s.heap.objs.size≤a)(new:cY X.prog X.w (a_ H a o) h' a o):
    aF X pins σ (a_ H a o) {s with heap:=h',toks:=t'}:=I.un (Un.laid k hp (I.hok.fresh hp)) (I.hok.laid k hp new)
theorem aF.write{x e:Addr}{o:HO}{t':Nat}(I:aF X pins σ H s)(mu:CS (H x))(he:e=x∨H e=some (.own x))(k:∀b u,b≠e→s.heap.get? b=some u→h'.get? b=some u)(heo:∃u,h'.get? e=some u)
    (new:cY X.prog X.w (a_ H x o) h' x o):aF X pins σ (a_ H x o) {s with heap:=h',toks:=t'}:=I.un (Un.write mu he k heo) (I.hok.write mu he k heo new)
theorem aF.pins_of{pins':List (Addr × Obj)}(I:aF X pins σ H s)(h:∀p∈pins',s.heap.get? p.1=some p.2∧H p.1=none∧p.1≠X.env.locals∧p.1∉X.fs∧∀v,p.2.data≠.cell v):aF X pins' σ H s:=
  ⟨I.ok,I.os,I.bare,I.base,I.loc,I.cell,I.free,I.freeC,fun p hp=>(List.mem_append.mp hp).elim (fun z=>I.pin p (List.mem_append_left _ z)) (h p),I.hok,I.len⟩
theorem qe{N:List Str}(hN:N.Nodup){i j:Nat}{x:Str}(a:N[i]?=some x)(b:N[j]?=some x):i=j:=by
  obtain⟨h1,e1⟩:=List.getElem?_eq_some_iff.mp a
  obtain⟨h2,e2⟩:=List.getElem?_eq_some_iff.mp b
  exact(List.getElem_inj hN).mp (e1.trans e2.symm)
theorem nX{M:Model}{A:Around}{E:Value→Shared→Prop}{i:Nat}{x:Str}{v:V}{u:Value}{Q:Unit→Shared→Prop}(I:aF X pins σ H s)(hN:X.N.Nodup)(hi:X.N[i]?=some x)(hx:CK X.env.scope x)(r:bD v u)
    (h:∀s',aF X pins (σ.set i (some v)) H s'→(∃a,Heap.SameBut a s.heap s'.heap∧(a=X.env.locals∨X.env.cells.lookup x=some a))→Q () s')(hf:X.fn x=true∨X.env.scope.names.lookup x=some .local:=by first | exact .inl rfl | exact .inr rfl | assumption):wpAny M A (storeName X.env x u) Q E s:=by
  obtain⟨m,hn,hl⟩:=id I.loc
  have hcls:(X.env.scope.kind==.class || (X.env.scope.kind==.module&&X.env.locals != X.env.globals))=false:=by rw [I.ok.kind];rfl
  have hiσ:i < σ.length:=by rw [I.len];exact(List.getElem?_eq_some_iff.mp hi).1
  have cne:=I.cne
  have tracked:∀{a:Addr} {h':Heap},(∃o,s.heap.get? a=some o∧H a=none)→Heap.SameBut a s.heap h'→kY X.prog X.w H h':=fun{a h'} ha hs b ob e=>by
    obtain⟨_,_,hfree⟩:=ha
    refine(I.hok b ob e).stay (fun c w' hc q=>(hs.2 c ?_).trans q) (fun _ q=>q) fun _ _ q=>q
    rintro rfl
    rcases hc with rfl | hc
    · rw [hfree] at e;cases e
    · rw [hfree] at hc;cases hc
  rcases hx with hk | hk
  · refine wpAny_storeName_local hk hn (fun h' hn' hs=>?_) hcls
    obtain⟨oL,_,_,hoL,_⟩:=id hn
    refine h _ ⟨I.ok,I.os,I.bare,⟨fun b o e n hb hx=>?_,fun b o e n hb hx=>?_,I.base.free,fun b o e hx=>?_,I.base.tups,I.base.frzs,I.base.tbls⟩,⟨_,hn',fun j y v' e1 e2 e3=>?_⟩,fun y c e=>?_,I.free,I.freeC,fun p hp=>?_,tracked ⟨oL,hoL,I.free⟩ hs,by simpa using I.len⟩ ⟨_,hs,.inl rfl⟩
    · exact(hs.2 b (Nat.ne_of_lt (Nat.lt_of_lt_of_le (Heap.lt_size e) I.ok.above))).trans (I.base.keep b o e n hb hx)
    · obtain⟨sl,e1⟩:=I.base.slot b o e n hb hx
      exact⟨sl,(hs.2 b (Nat.ne_of_lt (Nat.lt_of_lt_of_le (Heap.lt_size e) I.ok.above))).trans e1⟩
    · obtain⟨o',e1⟩:=I.base.there b o e hx
      exact⟨o',(hs.2 b (Nat.ne_of_lt (Nat.lt_of_lt_of_le (Heap.lt_size e) I.ok.above))).trans e1⟩
    · by_cases hj:j=i
      · subst hj
        rw [hi] at e1;cases e1
        rw [List.getElem?_set_self hiσ] at e2
        cases e2
        exact⟨u,r,.inl ⟨hk,by simp⟩⟩
      · rw [List.getElem?_set_ne (Ne.symm hj)] at e2
        obtain⟨u',r',q⟩:=hl j y v' e1 e2 e3
        refine⟨u',r',?_⟩
        rcases q with ⟨k,e⟩ | ⟨k,c,e,z⟩
        · refine .inl ⟨k,?_⟩
          have:y≠x:=fun e=>hj (qe hN e1 (e ▸ hi))
          simp [this,e]
        · exact .inr ⟨k,c,e,z.sameBut hs (cne y c e)⟩
    · obtain⟨w',z⟩:=I.cell y c e
      exact⟨w',z.sameBut hs (cne y c e)⟩
    · obtain⟨e,n,ne,nf,d⟩:=I.pin p hp
      exact⟨(hs.2 p.1 ne).trans e,n,ne,nf,d⟩
  · have hfn:X.fn x=true:=by
      rcases hf with z | z
      · exact z
      · rw [z] at hk;cases hk
    obtain⟨c,hc⟩:=I.ok.has x (.inl hk)
    obtain⟨w',z⟩:=I.cell x c hc
    refine wpAny_storeName_cell I.ok.kind hk hc z (fun h' hc' hs=>?_)
    obtain⟨oc,hoc,hocd⟩:=id z
    refine h {s with heap:=h'} ⟨I.ok,I.os,I.bare,⟨fun b o e n hb hx=>?_,fun b o e n hb hx=>?_,I.base.free,fun b o e hx=>?_,I.base.tups,I.base.frzs,I.base.tbls⟩,⟨m,hn.sameBut hs (Ne.symm (cne x c hc)),fun j y v' e1 e2 e3=>?_⟩,fun y c' e=>?_,I.free,I.freeC,fun p hp=>?_,tracked ⟨oc,hoc,I.freeC x c hc⟩ hs,by simpa using I.len⟩ ⟨c,hs,.inr hc⟩
    · exact(hs.2 b (Nat.ne_of_lt (Nat.lt_of_lt_of_le (Heap.lt_size e) (I.ok.cab x c hfn hc)))).trans (I.base.keep b o e n hb hx)
    · obtain⟨sl,e1⟩:=I.base.slot b o e n hb hx
      exact⟨sl,(hs.2 b (Nat.ne_of_lt (Nat.lt_of_lt_of_le (Heap.lt_size e) (I.ok.cab x c hfn hc)))).trans e1⟩
    · obtain⟨o',e1⟩:=I.base.there b o e hx
      exact⟨o',(hs.2 b (Nat.ne_of_lt (Nat.lt_of_lt_of_le (Heap.lt_size e) (I.ok.cab x c hfn hc)))).trans e1⟩
    · by_cases hj:j=i
      · subst hj
        rw [hi] at e1;cases e1
        rw [List.getElem?_set_self hiσ] at e2
        cases e2
        exact⟨u,r,.inr ⟨.inl hk,c,hc,hc'⟩⟩
      · rw [List.getElem?_set_ne (Ne.symm hj)] at e2
        obtain⟨u',r',q⟩:=hl j y v' e1 e2 e3
        refine⟨u',r',?_⟩
        rcases q with q | ⟨k,c',e,z'⟩
        · exact .inl q
        · refine .inr ⟨k,c',e,z'.sameBut hs ?_⟩
          rintro rfl
          exact hj (qe hN e1 (I.ok.inj _ _ _ e hc ▸ hi))
    · by_cases hcc:c'=c
      · subst hcc;exact⟨_,hc'⟩
      · obtain⟨w2,z2⟩:=I.cell y c' e
        exact⟨w2,z2.sameBut hs hcc⟩
    · obtain⟨e,n,ne,nf,d⟩:=I.pin p hp
      refine⟨(hs.2 p.1 ?_).trans e,n,ne,nf,d⟩
      intro q
      rw [q,hoc] at e
      have q':oc=p.2:=Option.some.inj e
      exact d w' (by rw [←q'];exact hocd)
theorem j_{M:Model}{A:Around}{E:Value→Shared→Prop}{i:Nat}{x:Str}{v:V}{u:Value}{Q:Unit→Shared→Prop}(I:aF X pins σ H s)(hN:X.N.Nodup)(hi:X.N[i]?=some x)(hx:CK X.env.scope x)(r:bD v u)
    (h:∀s',aF X pins (σ.set i (some v)) H s'→Q () s')(hf:X.fn x=true∨X.env.scope.names.lookup x=some .local:=by first | exact .inl rfl | exact .inr rfl | assumption):wpAny M A (storeName X.env x u) Q E s:=
  nX I hN hi hx r (fun s' I' _=>h s' I') hf
theorem aF.call'{s':Shared}{ch:List Addr}(I:aF X pins σ H s)(ho:s'.os=s.os)(u:Un (vQ X.stack) ch H H' s.heap s'.heap)(hok:kY X.prog X.w H' s'.heap)(hg:AllBare s'.gens)
    (hch:∀b∈ch,(b∈X.ex∨X.s₀.heap.objs.size≤b)∧b≠X.env.locals∧(∀x c,X.env.cells.lookup x=some c→c≠b)∧∀p∈X.pn++pins,p.1≠b):aF X pins σ H' s':=by
  obtain⟨h',g',d',t',o'⟩:=s'
  have e:o'=s.os:=ho
  subst e
  exact I.call (g':=g') (t':=t') (d':=d') u hok hg hch
end
abbrev XK:=Value→Option Addr→Hp→Prop
abbrev St:=List (Option V)
abbrev VK:=V→Hp→Prop
abbrev TE:=St→Hp→VK→Prop
abbrev TT:=St→Hp→(Bool→Hp→Prop)→Prop
abbrev TA:=St→Hp→(List V→Hp→Prop)→Prop
structure rc where
  nx:St→Hp→Prop
  rt:VK
  bk:St→Hp→Prop:=fun _ _=>False
  ct:St→Hp→Prop:=fun _ _=>False
abbrev TS:=rc→St→Hp→Prop
def EP(X:Cx)(pins:List (Addr × Obj))(σ:St)(Q:VK)(u:Value)(s':Shared):Prop:=∃v H',aF X pins σ H' s'∧bD v u∧Q v H'
def TP(X:Cx)(pins:List (Addr × Obj))(σ:St)(Q:Bool→Hp→Prop)(b:Bool)(s':Shared):Prop:=∃H',aF X pins σ H' s'∧Q b H'
def AP(X:Cx)(pins:List (Addr × Obj))(σ:St)(Q:List V→Hp→Prop)(us:List Value)(s':Shared):Prop:=∃vs H',aF X pins σ H' s'∧aS vs us∧Q vs H'
def SP(X:Cx)(pins:List (Addr × Obj))(D:rc)(f:Flow)(s':Shared):Prop:=
  match f with
  | .next=>∃σ' H',aF X pins σ' H' s'∧D.nx σ' H'
  | .brk=>∃σ' H',aF X pins σ' H' s'∧D.bk σ' H'
  | .cont=>∃σ' H',aF X pins σ' H' s'∧D.ct σ' H'
  | .ret u=>∃v σ' H',aF X pins σ' H' s'∧bD v u∧D.rt v H'
def PE(X:Cx)(e:Expr)(t:TE):Prop:=
  ∀(pins:List (Addr × Obj)) (s:Shared) (σ:St) (H:Hp) (Q:VK),aF X pins σ H s→t σ H Q→wpAny (model X.prog X.w) X.A (eval e X.env) (EP X pins σ Q) X.xe s
def PT(X:Cx)(e:Expr)(t:TT):Prop:=
  ∀(pins:List (Addr × Obj)) (s:Shared) (σ:St) (H:Hp) (Q:Bool→Hp→Prop),aF X pins σ H s→t σ H Q→wpAny (model X.prog X.w) X.A (isTrue e X.env (eval e X.env)) (TP X pins σ Q) X.xe s
def PW(X:Cx)(e:Expr)(t:TT):Prop:=
  ∀(whole:Sem Value) (pins:List (Addr × Obj)) (s:Shared) (σ:St) (H:Hp) (Q:Bool→Hp→Prop),aF X pins σ H s→t σ H Q→wpAny (model X.prog X.w) X.A (isTrue e X.env whole) (TP X pins σ Q) X.xe s
theorem PW.pt{X:Cx}{e:Expr}{t:TT}(h:PW X e t):PT X e t:=h _
def PA(X:Cx)(es:List Expr)(t:TA):Prop:=
  ∀(pos:Pos) (pins:List (Addr × Obj)) (s:Shared) (σ:St) (H:Hp) (Q:List V→Hp→Prop),aF X pins σ H s→t σ H Q→wpAny (model X.prog X.w) X.A (spliced (backTo pos (starEach es X.env))) (AP X pins σ Q) X.xe s
def PS(X:Cx)(st:Stmt)(t:TS):Prop:=
  ∀(pins:List (Addr × Obj)) (s:Shared) (σ:St) (H:Hp) (D:rc),aF X pins σ H s→t D σ H→wpAny (model X.prog X.w) X.A (exec st X.env) (SP X pins D) X.xe s
def lj(X:Cx)(st:List Stmt)(t:TS):Prop:=
  ∀(pins:List (Addr × Obj)) (s:Shared) (σ:St) (H:Hp) (D:rc),aF X pins σ H s→t D σ H→wpAny (model X.prog X.w) X.A (execs st X.env) (SP X pins D) X.xe s
theorem cP{α:Type}{t:Sem α}{Q Q':α→Shared→Prop}{M:Model}{A:Around}{E:Value→Shared→Prop}{s:Shared}(h:wpAny M A t Q E s)(hQ:∀a s,Q a s→Q' a s):wpAny M A t Q' E s:=wpAny_mono h hQ fun _ _ x=>x
end L2
namespace L2
open PySem PySem.Spec PyProof.Rows
section
variable{X:Cx}
def Ei(i:Nat):TE:=fun σ H Q=>∃v,σ[i]?=some (some v)∧Q v H
def tC(v:V):TE:=fun _ H Q=>Q v H
theorem BP{i:Nat}{x:Str}{pos:Pos}(hN:X.N[i]?=some x)(hv:CY X.env.scope x)(hd:(x==("__debug__":Str))=false:=by decide)(hcd:(x==("__classdict__":Str))=false:=by decide):PE X (.Name x pos) (Ei i):=by
  intro pins s σ H Q I h
  obtain⟨v,e,h⟩:=h
  obtain⟨m,hn,hl⟩:=I.loc
  obtain⟨u,r,l⟩:=hl i x v hN e hv
  have fin:EP X pins σ Q u s:=⟨v,H,I,r,h⟩
  rcases l with ⟨hk,hm⟩ | ⟨hk,c,hc,hcell⟩
  · exact wpAny_Name (wpAny_loadName_local I.ok.kind hk hn hm fin) hd
  · rcases hk with hk | hk
    · exact wpAny_Name (wpAny_loadName_cell I.ok.kind hk hc hcell fin) hd
    · exact wpAny_Name (wpAny_loadName_free I.ok.kind hk hc hcell fin hcd) hd
theorem rP{i j pos}:PE X (.Constant (.int i) j pos) (tC (.int i)):=fun _ _ _ H _ I h=>wpAny_Constant_int ⟨.int i,H,I.tok _,⟨_,rfl⟩,h⟩
theorem DD{b j pos}:PE X (.Constant (.bool b) j pos) (tC (.bl b)):=fun _ _ _ H _ I h=>Constant_bool ⟨.bl b,H,I,rfl,h⟩
theorem BK{j pos}:PE X (.Constant .none j pos) (tC .non):=fun _ _ _ H _ I h=>Constant_none ⟨.non,H,I,rfl,h⟩
theorem BN{x j pos}:PE X (.Constant (.str x) j pos) (tC (.str x)):=fun _ _ _ H _ I h=>Calls.Constant_str ⟨.str x,H,I.tok _,⟨_,rfl⟩,h⟩
def Gl(X:Cx)(x:Str):Prop:=X.env.kindOf x=some .globalImplicit
theorem sW{E:Value→Shared→Prop}{pins:List (Addr × Obj)}{s:Shared}{σ:St}{H:Hp}{x:Str}{u:Value}{pos:Pos}{Q:Value→Shared→Prop}(I:aF X pins σ H s)(hg:Gl X x)(hm:X.mg x=some u)(h:Q u s)
    (hd:(x==("__debug__":Str))=false:=by decide):wpAny (model X.prog X.w) X.A (eval (.Name x pos) X.env) Q E s:=
  Calls.Name_function_global I.ok.kind hg (Calls.loadGlobal_global (by rw [I.ok.glob];exact I.mod.glob.keeps I.bk) hm h) hd
theorem iB{E:Value→Shared→Prop}{pins:List (Addr × Obj)}{s:Shared}{σ:St}{H:Hp}{x:Str}{u:Value}{pos:Pos}{Q:Value→Shared→Prop}(I:aF X pins σ H s)(hg:Gl X x)(hm:X.mg x=none)(hv:bootBuiltins x=some u)(h:Q u s)
    (hn:x≠"__name__":=by decide)(hd:(x==("__debug__":Str))=false:=by decide):wpAny (model X.prog X.w) X.A (eval (.Name x pos) X.env) Q E s:=by
  obtain⟨mb,h1,h2⟩:=I.mod.blt
  exact Calls.Name_function_global I.ok.kind hg (Calls.loadGlobal_builtin (by rw [I.ok.glob];exact I.mod.glob.keeps I.bk) hm (by rw [I.ok.blt];exact h1.keeps I.bk) ((h2 x hn).trans hv) h) hd
theorem zp{x:Str}{v:V}{u:Value}{pos:Pos}(hg:Gl X x)(hm:X.mg x=some u)(r:bD v u)(hd:(x==("__debug__":Str))=false:=by decide):PE X (.Name x pos) (tC v):=
  fun _ _ _ H _ I h=>sW I hg hm ⟨v,H,I,r,h⟩ hd
variable{a b:Expr}{ta tb:TE}{pos:Pos}
def tB(t:TE):TT:=fun σ H Q=>t σ H fun x H1=>∃c,x=.bl c∧Q c H1
theorem B2{e:Expr}{t:TE}(h:PE X e t)(he:∀whole,isTrue e X.env whole=(do let v ←whole;standAt e.pos;holding [v] (truthy v)):=by intro _;rfl):PT X e (tB t):=by
  intro pins s σ H Q I hw
  refine isTrue_plain (cP (h pins s σ H _ I hw) fun v s1 ⟨x,H1,I1,r1,q1⟩=>?_) (he _)
  obtain⟨d,rfl,q⟩:=q1
  cases r1
  exact wpAny_truthy_bool ⟨H1,I1,q⟩
variable{tA tB':TT}{eD:List Expr}
def D9(t u:TT):TT:=fun σ H Q=>t σ H fun c H1=>if c=true then u σ H1 Q else Q false H1
def FK(t u:TT):TT:=fun σ H Q=>t σ H fun c H1=>if c=true then Q true H1 else u σ H1 Q
def Ec(t:TT):TT:=fun σ H Q=>t σ H fun c H1=>Q (!c) H1
theorem zI(ha:PT X a tA):PW X (.BoolOp .And [a] pos) tA:=by
  intro wh pins s σ H Q I h
  refine isTrue_and (cP (ha pins s σ H Q I h) fun c s1 e=>?_)
  cases c with
  | true=>exact isTrue_and_nil e
  | false=>exact e
theorem B5(ha:PT X a tA):PW X (.BoolOp .Or [a] pos) tA:=by
  intro wh pins s σ H Q I h
  refine isTrue_or (cP (ha pins s σ H Q I h) fun c s1 e=>?_)
  cases c with
  | false=>exact isTrue_or_nil e
  | true=>exact e
theorem B4(ha:PT X a tA)(hb:PW X (.BoolOp .And (b::eD) pos) tB'):PW X (.BoolOp .And (a::b::eD) pos) (D9 tA tB'):=by
  intro wh pins s σ H Q I h
  refine isTrue_and (cP (ha pins s σ H _ I h) fun c s1 ⟨H1,I1,q1⟩=>?_)
  cases c with
  | true=>exact hb wh pins s1 σ H1 Q I1 q1
  | false=>exact⟨H1,I1,q1⟩
theorem DN(ha:PT X a tA)(hb:PW X (.BoolOp .Or (b::eD) pos) tB'):PW X (.BoolOp .Or (a::b::eD) pos) (FK tA tB'):=by
  intro wh pins s σ H Q I h
  refine isTrue_or (cP (ha pins s σ H _ I h) fun c s1 ⟨H1,I1,q1⟩=>?_)
  cases c with
  | true=>exact⟨H1,I1,q1⟩
  | false=>exact hb wh pins s1 σ H1 Q I1 q1
theorem B0(ha:PT X a tA):PT X (.UnaryOp .Not a pos) (Ec tA):=by
  intro pins s σ H Q I h
  exact isTrue_not (ha pins s σ H (fun c H1=>Q (!c) H1) I h)
def D_(ta tb:TE):TE:=fun σ H Q=>ta σ H fun x H1=>∃c,x=.bl c∧if c=true then tb σ H1 Q else Q (.bl false) H1
def Fi(ta tb:TE):TE:=fun σ H Q=>ta σ H fun x H1=>∃c,x=.bl c∧if c=true then Q (.bl true) H1 else tb σ H1 Q
def Ed(ta:TE):TE:=fun σ H Q=>ta σ H fun x H1=>∃c,x=.bl c∧Q (.bl (!c)) H1
theorem BM{op}{t:TE}(h:PE X a t):PE X (.BoolOp op [a] pos) t:=fun pins s σ H Q I hw=>BoolOp_one (h pins s σ H Q I hw)
theorem BI(ha:PE X a ta)(hb:PE X (.BoolOp .And (b::eD) pos) tb):PE X (.BoolOp .And (a::b::eD) pos) (D_ ta tb):=by
  intro pins s σ H Q I h
  refine BoolOp_and (cP (ha pins s σ H _ I h) fun v s1 ⟨x,H1,I1,r1,q1⟩=>?_)
  obtain⟨c,rfl,q1⟩:=q1
  cases r1
  refine wpAny_truthy_bool ?_
  cases c with
  | true=>exact hb pins s1 σ H1 Q I1 q1
  | false=>exact⟨.bl false,H1,I1,rfl,q1⟩
theorem DH(ha:PE X a ta)(hb:PE X (.BoolOp .Or (b::eD) pos) tb):PE X (.BoolOp .Or (a::b::eD) pos) (Fi ta tb):=by
  intro pins s σ H Q I h
  refine BoolOp_or (cP (ha pins s σ H _ I h) fun v s1 ⟨x,H1,I1,r1,q1⟩=>?_)
  obtain⟨c,rfl,q1⟩:=q1
  cases r1
  refine wpAny_truthy_bool ?_
  cases c with
  | false=>exact hb pins s1 σ H1 Q I1 q1
  | true=>exact⟨.bl true,H1,I1,rfl,q1⟩
theorem BL(ha:PE X a ta):PE X (.UnaryOp .Not a pos) (Ed ta):=by
  intro pins s σ H Q I h
  refine UnaryOp_ (cP (ha pins s σ H _ I h) fun v s1 ⟨x,H1,I1,r1,q1⟩=>?_)
  obtain⟨c,rfl,q1⟩:=q1
  cases r1
  exact not_of (wpAny_truthy_bool ⟨.bl (!c),H1,I1,rfl,q1⟩)
end
end L2
namespace L2
open PySem PySem.Spec PyProof.Rows
def dg(K:PySem.W.Frag)(H:Hp)(a:Addr)(xs:List V):Prop:=
  Rd H a (.lst xs)∨
    ∃(o:Obj) (its:Array Value) (n:Nat),K.lookup a=some o∧o.cls=.type "list"∧o.dict=none∧o.data=.seq its n∧its.size≤sizeLine∧aS xs its.toList
def cD(K:PySem.W.Frag)(H:Hp)(a:Addr)(xs:List V):Prop:=
  Rd H a (.tup xs)∨
    ∃(o:Obj) (its:Array Value) (n:Nat),K.lookup a=some o∧o.cls=.type "tuple"∧o.dict=none∧o.data=.seq its n∧its.size≤sizeLine∧aS xs its.toList
def EL:Value→Option V
  | .none=>some .non
  | .bool b=>some (.bl b)
  | .int i _=>some (.int i)
  | .str x _=>some (.str x)
  | .bytes b _=>some (.byt b)
  | .float b _=>some (.flt b)
  | .ref a=>some (.ref a)
  | .type n=>some (.ty n)
  | _=>none
theorem bD.abs{x:V}{u:Value}(r:bD x u):EL u=some x:=by
  cases x with
  | non=>cases r;rfl
  | bl _=>cases r;rfl
  | int _=>obtain⟨t,rfl⟩:=r;rfl
  | str _=>obtain⟨t,rfl⟩:=r;rfl
  | byt _=>obtain⟨t,rfl⟩:=r;rfl
  | flt _=>obtain⟨t,rfl⟩:=r;rfl
  | ref _=>cases r;rfl
  | ty _=>cases r;rfl
theorem bD.inj{x y:V}{u:Value}(r:bD x u)(q:bD y u):x=y:=Option.some.inj (r.abs.symm.trans q.abs)
theorem aS.inj:∀{xs ys:List V} {us:List Value},aS xs us→aS ys us→xs=ys
  | _,_,_,.nil,.nil=>rfl
  | _,_,_,.cons r t,.cons r' t'=>by rw [r.inj r',aS.inj t t']
section
variable{X:Cx}{pins:List (Addr × Obj)}{σ:St}{H:Hp}{s:Shared}{a:Addr}{xs ys:List V}
theorem dg.of{K:PySem.W.Frag}(h:H a=some (.lst xs)):dg K H a xs:=.inl (.inl h)
theorem cD.of{K:PySem.W.Frag}(h:H a=some (.tup xs)):cD K H a xs:=.inl (.inl h)
theorem aF.list(I:aF X pins σ H s)(h:dg X.K H a xs):∃its:List Value,aS xs its∧PlainL s.heap a its.toArray∧xs.length≤sizeLine:=by
  rcases h with h | ⟨o,its,n,hk,hc,hd,hs,hz,r⟩
  · obtain⟨z,its,n,r,e⟩:=h.ok I.hok
    exact⟨its,r,⟨_,n,e,rfl,rfl,rfl⟩,z⟩
  · refine⟨its.toList,r,⟨o,n,I.kIn a o hk,hc,hd,by simpa using hs⟩,?_⟩
    have e:=r.length
    simp only [Array.length_toList] at e
    lia
theorem aF.tuple(I:aF X pins σ H s)(h:cD X.K H a xs):∃its:List Value,aS xs its∧IsTup s.heap a its.toArray∧xs.length≤sizeLine:=by
  rcases h with h | ⟨o,its,n,hk,hc,_,hs,hz,r⟩
  · obtain⟨z,its,r,p⟩:=h.ok I.hok
    exact⟨its,r,p.tup,z⟩
  · refine⟨its.toList,r,⟨o,I.kIn a o hk,hc,n,by simpa using hs⟩,?_⟩
    have e:=r.length
    simp only [Array.length_toList] at e
    lia
theorem aF.list_inj(I:aF X pins σ H s)(h:dg X.K H a xs)(h':dg X.K H a ys):xs=ys:=by
  obtain⟨its,r,⟨o,n,e,_,_,d⟩,_⟩:=I.list h
  obtain⟨its',r',⟨o',n',e',_,_,d'⟩,_⟩:=I.list h'
  rw [e] at e';cases e'
  rw [d] at d'
  injection d' with d1 _
  have:its=its':=by simpa using congrArg Array.toList d1
  subst this
  exact r.inj r'
theorem aF.tuple_inj(I:aF X pins σ H s)(h:cD X.K H a xs)(h':cD X.K H a ys):xs=ys:=by
  obtain⟨its,r,⟨o,e,_,n,d⟩,_⟩:=I.tuple h
  obtain⟨its',r',⟨o',e',_,n',d'⟩,_⟩:=I.tuple h'
  rw [e] at e';cases e'
  rw [d] at d'
  injection d' with d1 _
  have:its=its':=by simpa using congrArg Array.toList d1
  subst this
  exact r.inj r'
end
abbrev Cx.wish(X:Cx)(E:Value→Shared→Prop):Cx:={X with xe:=E}
abbrev Cx.nox(X:Cx):Cx:=X.wish fun _ _=>False
theorem Cx.Ok.wish{X:Cx}(ok:X.Ok)(E:Value→Shared→Prop):(X.wish E).Ok:=
  ⟨ok.mod,ok.kind,ok.glob,ok.blt,ok.above,ok.inj,ok.has,ok.cab,ok.hd,ok.frames,ok.stk,ok.exf,ok.bs,ok.bsz,ok.noex,ok.exfs,ok.funs,ok.frf⟩
theorem Cx.Ok.unwish{X:Cx}{E:Value→Shared→Prop}(ok:(X.wish E).Ok):X.Ok:=
  ⟨ok.mod,ok.kind,ok.glob,ok.blt,ok.above,ok.inj,ok.has,ok.cab,ok.hd,ok.frames,ok.stk,ok.exf,ok.bs,ok.bsz,ok.noex,ok.exfs,ok.funs,ok.frf⟩
section
variable{X:Cx}{pins:List (Addr × Obj)}{σ:St}{H:Hp}{s:Shared}{E:Value→Shared→Prop}
theorem aF.wish(I:aF X pins σ H s)(E:Value→Shared→Prop):aF (X.wish E) pins σ H s:=⟨I.ok.wish E,I.os,I.bare,I.base,I.loc,I.cell,I.free,I.freeC,I.pin,I.hok,I.len⟩
theorem aF.unwish(I:aF (X.wish E) pins σ H s):aF X pins σ H s:=⟨I.ok.unwish,I.os,I.bare,I.base,I.loc,I.cell,I.free,I.freeC,I.pin,I.hok,I.len⟩
theorem SP.unwish{D:rc}{f:Flow}{s':Shared}(h:SP (X.wish E) pins D f s'):SP X pins D f s':=by
  cases f with
  | next=>obtain⟨σ',H',I,q⟩:=h;exact⟨σ',H',I.unwish,q⟩
  | brk=>obtain⟨σ',H',I,q⟩:=h;exact⟨σ',H',I.unwish,q⟩
  | cont=>obtain⟨σ',H',I,q⟩:=h;exact⟨σ',H',I.unwish,q⟩
  | ret u=>obtain⟨v,σ',H',I,r,q⟩:=h;exact⟨v,σ',H',I.unwish,r,q⟩
theorem lj.nox{st:List Stmt}{t:TS}(h:lj X.nox st t):lj X st t:=fun pins s σ H D I hw=>
  wpAny_mono (h pins s σ H D (I.wish _) hw) (fun _ _ q=>q.unwish) fun _ _ z=>False.elim z
end
section
variable{X:Cx}{st:Stmt}{eD:List Stmt}{t u:TS}{e:Expr}{te:TE}{pos:Pos}
def Eb:TS:=fun D σ H=>D.nx σ H
def Fn(t u:TS):TS:=fun D σ H=>t {D with nx:=u D} σ H
theorem zD:lj X [] Eb:=fun _ _ σ H _ I h=>wpAny_execs_nil ⟨σ,H,I,h⟩
theorem xl(h1:PS X st t)(h2:lj X eD u):lj X (st::eD) (Fn t u):=by
  intro pins s σ H D I h
  refine wpAny_execs_cons (cP (h1 pins s σ H {D with nx:=u D} I h) fun f s1 q=>?_)
  cases f with
  | next=>
    obtain⟨σ',H',I',q⟩:=q
    exact h2 pins s1 σ' H' D I' q
  | ret v=>exact q
  | brk=>exact q
  | cont=>exact q
theorem zE(h1:PS X st t):lj X [st] t:=by
  intro pins s σ H D I h
  refine wpAny_execs_cons (cP (h1 pins s σ H D I h) fun f s1 q=>?_)
  cases f with
  | next=>exact wpAny_execs_nil q
  | ret v=>exact q
  | brk=>exact q
  | cont=>exact q
theorem aF.quiet{pins:List (Addr × Obj)}{σ:St}{H:Hp}{s:Shared}(I:aF X pins σ H s):interactive X.env=false:=by simp [interactive,I.ok.kind]
def Ea(te:TE):TS:=fun D σ H=>te σ H fun _ H1=>D.nx σ H1
theorem zC(he:PE X e te)(hs:swapsWith e none pos.line X.env=pure false:=by rfl):PS X (.Expr e pos) (Ea te):=by
  intro pins s σ H D I h
  exact wpAny_Expr_any (cP (he pins s σ H _ I h) fun v s1 ⟨x,H1,I1,r1,q1⟩=>⟨σ,H1,I1,q1⟩) I.quiet hs
def Fm(te:TE):TS:=fun D σ H=>te σ H D.rt
theorem BX(he:PE X e te):PS X (.Return (some e) pos) (Fm te):=by
  intro pins s σ H D I h
  exact wpAny_Return_some (cP (he pins s σ H _ I h) fun v s1 ⟨x,H1,I1,r1,q1⟩=>⟨x,σ,H1,I1,r1,q1⟩)
def Fg(c:TT)(t u:TS):TS:=fun D σ H=>c σ H fun b H1=>if b=true then t D σ H1 else u D σ H1
theorem DM{c:Expr}{a b:List Stmt}{tc:TT}(hc:PT X c tc)(ha:lj X a t)(hb:lj X b u):PS X (.If c a b pos) (Fg tc t u):=by
  intro pins s σ H D I h
  refine wpAny_If (cP (hc pins s σ H _ I h) fun d s1 ⟨H1,I1,q1⟩=>?_)
  cases d with
  | true=>exact ha pins s1 σ H1 D I1 q1
  | false=>exact hb pins s1 σ H1 D I1 q1
end
abbrev TG:=V→St→Hp→(St→Hp→Prop)→Prop
abbrev yh:=List V→St→Hp→(St→Hp→Prop)→Prop
def PG(X:Cx)(target:Expr)(t:TG):Prop:=
  ∀(pins:List (Addr × Obj)) (s:Shared) (σ:St) (H:Hp) (v:V) (u:Value) (Q:St→Hp→Prop),aF X pins σ H s→bD v u→t v σ H Q→
    wpAny (model X.prog X.w) X.A (assign target X.env u) (fun _ s'=>∃σ' H',aF X pins σ' H' s'∧Q σ' H') X.xe s
def uY(X:Cx)(ts:List Expr)(t:yh):Prop:=
  ∀(pins:List (Addr × Obj)) (s:Shared) (σ:St) (H:Hp) (vs:List V) (us:List Value) (Q:St→Hp→Prop),aF X pins σ H s→aS vs us→t vs σ H Q→
    wpAny (model X.prog X.w) X.A (assignInOrder ((assignEach ts X.env).map (·.2)) us) (fun _ s'=>∃σ' H',aF X pins σ' H' s'∧Q σ' H') X.xe s
section
variable{X:Cx}{pos:Pos}
def wd(i:Nat):TG:=fun v σ H Q=>Q (σ.set i (some v)) H
theorem zq{i:Nat}{x:Str}(hN:X.N.Nodup)(hi:X.N[i]?=some x)(hx:CK X.env.scope x)(hf:X.fn x=true∨X.env.scope.names.lookup x=some .local:=by first | exact .inl rfl | exact .inr rfl | assumption):PG X (.Name x pos) (wd i):=by
  intro pins s σ H v u Q I r h
  exact wpAny_assign_Name (j_ I hN hi hx r (fun s' I'=>⟨_,H,I',h⟩) hf)
def EO:yh:=fun vs σ H Q=>vs=[]∧Q σ H
def Da(t:TG)(u:yh):yh:=fun vs σ H Q=>∃v r,vs=v::r∧t v σ H fun σ' H'=>u r σ' H' Q
theorem zt:uY X [] EO:=by
  intro pins s σ H vs us Q I r h
  obtain⟨e,h⟩:=h
  subst e
  cases r
  exact assignInOrder_nil ⟨σ,H,I,h⟩
theorem w_{e:Expr}{es:List Expr}{t:TG}{u:yh}(h1:PG X e t)(h2:uY X es u)
    (hs:(assignEach (e::es) X.env).map (·.2)=assign e X.env::(assignEach es X.env).map (·.2):=by rfl):uY X (e::es) (Da t u):=by
  intro pins s σ H vs us Q I r h
  obtain⟨v,vr,e1,h⟩:=h
  subst e1
  cases r with
  | cons r rr=>
    rw [hs]
    refine assignInOrder_cons (cP (h1 pins s σ H _ _ _ I r h) fun _ s1 ⟨σ1,H1,I1,q1⟩=>?_)
    exact h2 pins s1 σ1 H1 _ _ Q I1 rr q1
def um(K:PySem.W.Frag)(n:Nat)(t:yh):TG:=fun v σ H Q=>∃a xs,v=.ref a∧cD K H a xs∧xs.length=n∧t xs σ H Q
theorem BQ{es:List Expr}{k:Nat}{t:yh}{n:Nat}(hc:X.calm=true)(h:uY X es t)
    (hn:(assignEach es X.env).length=n:=by rfl)(hst:(assignEach es X.env).findIdx? (·.1)=none:=by rfl):PG X (.Tuple es k pos) (um X.K n t):=by
  intro pins s σ H v u Q I r hw
  obtain⟨a,xs,e1,hq,hl,hw⟩:=hw
  subst e1
  cases r
  obtain⟨its,rv,ht,hz⟩:=I.tuple hq
  refine assign_Tuple_tuple (I.ok.hd hc) ht (by simp [hn,←hl,rv.length]) hst fun h' hx=>?_
  have I1:aF X pins σ H {s with heap:=h'}:=I.kept (t':=s.toks) fun b o e=>hx b o (Nat.ne_of_lt (Heap.lt_size e)) e
  exact h pins _ σ H xs _ Q I1 (by simpa using rv) hw
def Ck(te:TE)(g:TG):TS:=fun D σ H=>te σ H fun x H1=>g x σ H1 D.nx
theorem BU{tg e:Expr}{te:TE}{g:TG}(he:PE X e te)(hg:PG X tg g)(hs:swapsWithSole [tg] e pos.line X.env=pure false:=by rfl)(hw:swappedStores [tg] e X.env=pure none:=by rfl)
    (h1:(assignEach [tg] X.env).map (·.2)=[assign tg X.env]:=by rfl):PS X (.Assign [tg] e pos) (Ck te g):=by
  intro pins s σ H D I h
  refine wpAny_Assign_stores (cP (he pins s σ H _ I h) fun v s1 ⟨x,H1,I1,r1,q1⟩=>?_) hs hw
  rw [h1]
  exact cP (hg pins s1 σ H1 x v _ I1 r1 q1) fun _ s2 q=>q
theorem BZ{i:Nat}{x:Str}{e:Expr}{te:TE}{pos':Pos}(hN:X.N.Nodup)(hi:X.N[i]?=some x)(hx:CK X.env.scope x)(he:PE X e te)(hs:swapsWith e (some (.Name x pos')) pos.line X.env=pure false:=by rfl)(hf:X.fn x=true∨X.env.scope.names.lookup x=some .local:=by first | exact .inl rfl | exact .inr rfl | assumption):
    PS X (.Assign [.Name x pos'] e pos) (Ck te (wd i)):=by
  intro pins s σ H D I h
  refine wpAny_Assign_Name (cP (he pins s σ H _ I h) fun v s1 ⟨y,H1,I1,r1,q1⟩=>?_) hs
  exact j_ I1 hN hi hx r1 (fun s2 I2=>⟨_,H1,I2,q1⟩) hf
def Fk(i j:Nat)(ta:TA):TS:=fun D σ H=>ta σ H fun vs H1=>∃v w,vs=[v,w]∧D.nx ((σ.set i (some v)).set j (some w)) H1
theorem BW{i j:Nat}{x y:Str}{a b:Expr}{ta:TA}{px py pt:Pos}{kt k2 pt2}(hc:X.calm=true)(hN:X.N.Nodup)(hi:X.N[i]?=some x)(hj:X.N[j]?=some y)(hij:i≠j)
    (hx:X.env.scope.names.lookup x=some .local)(hy:X.env.scope.names.lookup y=some .local)(ha:PA X [a,b] ta)
    (hw:swappedStores [.Tuple [.Name x px,.Name y py] kt pt] (.Tuple [a,b] k2 pt2) X.env=pure (some [x,y]))
    (hs:swapsWithSole [.Tuple [.Name x px,.Name y py] kt pt] (.Tuple [a,b] k2 pt2) pos.line X.env=pure false:=by rfl):
    PS X (.Assign [.Tuple [.Name x px,.Name y py] kt pt] (.Tuple [a,b] k2 pt2) pos) (Fk i j ta):=by
  intro pins s σ H D I h
  rw [exec_Assign_arm]
  refine wpAny_bind (wpAny_standAt ?_)
  rw [hs]
  refine wpAny_bind (wpAny_pure ?_)
  rw [if_neg (by decide)]
  refine wpAny_bind (Tuple_ (cP (ha _ pins s σ H _ I h) fun us s1 ⟨vs,H1,I1,r1,q1⟩=>?_))
  obtain⟨v,w,e1,q1⟩:=q1
  subst e1
  obtain⟨u1,u2,rfl,rv,rw'⟩:∃u1 u2,us=[u1,u2]∧bD v u1∧bD w u2:=by
    cases r1 with
    | cons p q=>
      cases q with
      | cons p' q'=>
        cases q'
        exact⟨_,_,rfl,p,p'⟩
  refine wpAny_newObj_type ?_ (by show 2≤sizeLine;decide)
  have I2:aF X pins σ H1 {s1 with heap:=s1.heap.push {cls:=.type "tuple",data:=.seq [u1,u2].toArray}}:=I1.kept (t':=s1.toks) fun b o e=>Heap.get?_push_of_some _ e
  rw [hw]
  refine wpAny_bind (wpAny_pure ?_)
  show wpAny (model X.prog X.w) X.A (do rule "assign.swapped-stores";let items ←unpackItems (.ref s1.heap.objs.size) 2 none;assignInOrder [fun v=>bindName X.env y v,fun v=>bindName X.env x v] items.reverse;pure Flow.next) _ _ _
  refine wpAny_bind (wpAny_rule (wpAny_bind (unpackItems_tuple (items:=#[u1,u2]) (I.ok.hd hc) (IsTup.new s1.heap _) fun h' hx'=>?_)))
  have I3:=I2.kept (h':=h') (t':=s1.toks) fun b o e=>hx' b o (Nat.ne_of_lt (Heap.lt_size e)) e
  show wpAny _ _ (assignInOrder [fun v=>bindName X.env y v,fun v=>bindName X.env x v] [u2,u1] >>= fun _=>pure Flow.next) _ _ _
  refine wpAny_bind (assignInOrder_cons (wpAny_bindName (j_ I3 hN hj (.inl hy) rw' (fun s2 I4=>?_) (.inr hy))))
  refine assignInOrder_cons (wpAny_bindName (j_ I4 hN hi (.inl hx) rv (fun s3 I5=>assignInOrder_nil (wpAny_pure ?_)) (.inr hx)))
  rw [List.set_comm _ _ (Ne.symm hij)] at I5
  exact⟨_,H1,I5,q1⟩
end
section
variable{X:Cx}{pos:Pos}
def Cq(c:TT)(tb:TS):TS:=fun D σ H=>∃W:Nat→St→Hp→Prop,(∃m,W m σ H)∧∀m σ H,W m σ H→
  c σ H fun b H1=>if b=true then ∃N:St→Hp→Prop,(∀σ' H',N σ' H'→∃m',m' < m∧W m' σ' H')∧tb {D with nx:=N,ct:=N,bk:=D.nx} σ H1 else D.nx σ H1
theorem xk{c:Expr}{body:List Stmt}{tc:TT}{tb:TS}(hp:PassesOwn (model X.prog X.w) X.A X.env X.xe)(hc:PT X c tc)(hb:lj X body tb):PS X (.While c body [] pos) (Cq tc tb):=by
  intro pins s σ H D I h
  obtain⟨W,⟨m0,w0⟩,turn⟩:=h
  refine wpAny_While (codeAny_whileLoop (fun n s'=>∃σ' H',aF X pins σ' H' s'∧W n σ' H') ?_ m0 ⟨σ,H,I,w0⟩)
  rintro n s1 ⟨σ1,H1,I1,w1⟩
  refine wpAny_passesOwn hp (cP (hc pins s1 σ1 H1 _ I1 (turn n σ1 H1 w1)) fun b s2 ⟨H2,I2,q2⟩=>?_)
  cases b with
  | true=>
    obtain⟨N,hN,q2⟩:=q2
    rw [if_pos rfl]
    refine wpAny_passesOwn hp (cP (hb pins s2 σ1 H2 _ I2 q2) fun f s3 q3=>?_)
    cases f with
    | next=>
      obtain⟨σ3,H3,I3,n3⟩:=q3
      obtain⟨m',hm,w3⟩:=hN σ3 H3 n3
      exact⟨m',hm,σ3,H3,I3,w3⟩
    | cont=>
      obtain⟨σ3,H3,I3,n3⟩:=q3
      obtain⟨m',hm,w3⟩:=hN σ3 H3 n3
      exact⟨m',hm,σ3,H3,I3,w3⟩
    | brk=>exact q3
    | ret v=>exact q3
  | false=>
    rw [if_neg Bool.false_ne_true]
    exact wpAny_execs_nil ⟨σ1,H2,I2,q2⟩
end
structure It where
  go:Nat→Hp→Prop
  yld:Nat→Hp→V→Hp→Prop
  stop:Nat→Hp→Prop
def ij(X:Cx)(pins:List (Addr × Obj))(H:Hp)(b:Addr):Prop:=
  H b=none∧b≠X.env.locals∧b∉X.fs∧(b∈X.ex∨X.s₀.heap.objs.size≤b)∧(∀x c,X.env.cells.lookup x=some c→c≠b)∧∀p∈X.pn++pins,p.1≠b
theorem aF.fpOk{X:Cx}{pins:List (Addr × Obj)}{σ:St}{H H':Hp}{s:Shared}{b:Addr}(I:aF X pins σ H s)(hb:s.heap.objs.size≤b)(hn:H' b=none):ij X pins H' b:=by
  refine⟨hn,Nat.ne_of_gt (Nat.lt_of_lt_of_le I.lt hb),I.nofs hb,.inr (Nat.le_trans I.sz hb),fun x c e z=>?_,fun p hp z=>?_⟩
  · obtain⟨v,q⟩:=I.cell x c e
    exact absurd (Nat.lt_of_lt_of_le q.lt (by rw [z];exact hb)) (Nat.lt_irrefl _)
  · exact absurd (Nat.lt_of_lt_of_le (Heap.lt_size (I.pin p hp).1) (by rw [z];exact hb)) (Nat.lt_irrefl _)
structure pL (P:Program) (w:World) (K:PySem.W.Frag) (tg:Expr) (J:It) (fp:List Addr) (it:Addr) (tn:Nat→Heap→Prop):Prop where
  mem:it∈fp
  obj:∀i h,tn i h→∀b∈fp,∃o,h.get? b=some o∧∀v,o.data≠.cell v
  keep:∀i h h',tn i h→(∀b∈fp,∀o,h.get? b=some o→h'.get? b=some o)→tn i h'
  item:∀(X:Cx),X.prog=P→X.w=w→X.K=K→X.calm=true→∀(i:Nat) (pins:List (Addr × Obj)) (s:Shared) (σ:St) (H:Hp) (E:Value→Shared→Prop),aF X pins σ H s→(∀b∈fp,ij X pins H b)→tn i s.heap→J.go i H→
    wpAny (model P w) X.A (pyNext (.ref it)) (fun r s1=>∃u,r=some u∧
      wpAny (model P w) X.A (letOwnedTupleGo tg (.ref it) u) (fun _ s2=>∃x H',aF X pins σ H' s2∧bD x u∧J.yld i H x H'∧tn (i+1) s2.heap∧∀b∈fp,H' b=none) E s1) E s
  done:∀(X:Cx),X.prog=P→X.w=w→X.K=K→X.calm=true→∀(i:Nat) (pins:List (Addr × Obj)) (s:Shared) (σ:St) (H:Hp) (E:Value→Shared→Prop),aF X pins σ H s→(∀b∈fp,ij X pins H b)→tn i s.heap→J.stop i H→
    wpAny (model P w) X.A (pyNext (.ref it)) (fun r s1=>r=none∧aF X pins σ H s1) E s
  self:∀(A:Around) (i:Nat) (s:Shared) (Q:Value→Shared→Prop) (E:Value→Shared→Prop),tn i s.heap→Q (.ref it) s→wpAny (model P w) A (pyIter (.ref it)) Q E s
abbrev TI:=St→Hp→(It→Hp→Prop)→Prop
def Fx(X:Cx)(pins:List (Addr × Obj))(σ:St)(tg:Expr)(R:It→Hp→Prop)(itv:Value)(s2:Shared):Prop:=
  ∃(it:Addr) (fp:List Addr) (tn:Nat→Heap→Prop) (J:It) (H':Hp),itv=.ref it∧aF X pins σ H' s2∧pL X.prog X.w X.K tg J fp it tn∧tn 0 s2.heap∧(∀b∈fp,ij X pins H' b)∧R J H'
def PI(X:Cx)(tg iter:Expr)(wi:TI):Prop:=
  ∀(pins:List (Addr × Obj)) (s:Shared) (σ:St) (H:Hp) (R:It→Hp→Prop),aF X pins σ H s→wi σ H R→
    wpAny (model X.prog X.w) X.A (eval iter X.env) (fun v s1=>wpAny (model X.prog X.w) X.A (pyIter v) (Fx X pins σ tg R) X.xe s1) X.xe s
theorem wk{M:Model}{A:Around}{E:Value→Shared→Prop}{s:Shared}{tg:Expr}{it:Addr}{u:Value}{o:Obj}{n:String}{vs:Array Value}{Q:Unit→Shared→Prop}(ho:s.heap.get? it=some o)(hc:o.cls=.type n)(hd:o.data=.fields vs)
    (hn:["enumerate","zip","dict_itemiterator","dict_reverseitemiterator","odict_iterator","itertools.zip_longest","itertools.pairwise"].contains n=false)(hQ:Q () s):wpAny M A (letOwnedTupleGo tg (.ref it) u) Q E s:=by
  unfold letOwnedTupleGo
  cases tg<;>first
    | exact wpAny_pure hQ
    | (cases u<;>first
        | exact wpAny_pure hQ
        | (refine wpAny_bind (wpAny_load ho ?_)
           rw [hc,hd]
           show wpAny M A (if (["enumerate","zip","dict_itemiterator","dict_reverseitemiterator","odict_iterator","itertools.zip_longest","itertools.pairwise"].contains n&&vs[0]?==some (rawInt _))=true then _ else _) Q E s
           rw [if_neg (by intro h;rw [hn,Bool.false_and] at h;cases h)]
           exact wpAny_pure hQ))
def ED(K:PySem.W.Frag)(a:Addr):It:=
  ⟨fun i H=>∃xs x,dg K H a xs∧xs[i]?=some x,fun i H x H'=>H'=H∧∀xs,dg K H a xs→xs[i]?=some x,fun i H=>∃xs,dg K H a xs∧xs.length≤i⟩
def EE(K:PySem.W.Frag)(a:Addr):It:=
  ⟨fun i H=>∃xs x,cD K H a xs∧xs[i]?=some x,fun i H x H'=>H'=H∧∀xs,cD K H a xs→xs[i]?=some x,fun i H=>∃xs,cD K H a xs∧xs.length≤i⟩
def Eo(lo:Int)(n:Nat):It:=⟨fun i _=>i < n,fun i H x H'=>H'=H∧x=.int (lo+i),fun i _=>n≤i⟩
theorem uT{P:Program}{w:World}{K:PySem.W.Frag}{tg:Expr}(a it:Addr):pL P w K tg (ED K a) [it] it (fun i h=>h.IsListIter it a i) where
  mem:=by simp
  obj:=fun i h st b hb=>by
    have e:b=it:=by simpa using hb
    subst e
    obtain⟨o,e,c,d⟩:=st
    exact⟨o,e,fun v z=>by rw [d] at z;cases z⟩
  keep:=fun i h h' st k=>st.at fun o e=>k it (by simp) o e
  item:=by
    intro X hP hw hK hc i pins s σ H E I hf st hg
    subst hP hw hK
    obtain⟨xs,x,hq,hx⟩:=hg
    obtain⟨its,rv,p,hz⟩:=I.list hq
    obtain⟨u,hu,ru⟩:=rv.get hx
    obtain⟨f0,f1,f2,f3,f4,f5⟩:=hf it (by simp)
    refine wpAny_pyNext_list_item st p.isList (x:=u) (by simpa using hu) fun h' st' sb=>?_
    have I1:aF X pins σ H {s with heap:=h'}:=I.turned (t':=s.toks) (fun b o hb e=>(sb.2 b hb).trans e) f0 f1 f3 f4 f5
    obtain⟨o,e,c,d⟩:=id st'
    exact⟨u,rfl,wk (s:={s with heap:=h'}) e c d (by decide) ⟨x,H,I1,ru,⟨rfl,fun ys hy=>by rw [I.list_inj hy hq];exact hx⟩,st',fun b hb=>(hf b hb).1⟩⟩
  done:=by
    intro X hP hw hK hc i pins s σ H E I hf st hg
    subst hP hw hK
    obtain⟨xs,hq,hx⟩:=hg
    obtain⟨its,rv,p,hz⟩:=I.list hq
    obtain⟨f0,f1,f2,f3,f4,f5⟩:=hf it (by simp)
    have hl:=rv.length
    exact wpAny_pyNext_list_end (I.ok.hd hc) st p.isList (by simp;lia) fun h' eb=>⟨rfl,I.turned (t':=s.toks) (fun b o hb e=>eb b o hb e) f0 f1 f3 f4 f5⟩
  self:=fun _ _ _ _ _ st h=>wpAny_pyIter_listiter st h
theorem r_{P:Program}{w:World}{K:PySem.W.Frag}{tg:Expr}(a it:Addr):pL P w K tg (EE K a) [it] it (fun i h=>h.IsTupleIter it a i) where
  mem:=by simp
  obj:=fun i h st b hb=>by
    have e:b=it:=by simpa using hb
    subst e
    obtain⟨o,e,c,d⟩:=st
    exact⟨o,e,fun v z=>by rw [d] at z;cases z⟩
  keep:=fun i h h' st k=>st.at fun o e=>k it (by simp) o e
  item:=by
    intro X hP hw hK hc i pins s σ H E I hf st hg
    subst hP hw hK
    obtain⟨xs,x,hq,hx⟩:=hg
    obtain⟨its,rv,p,hz⟩:=I.tuple hq
    obtain⟨u,hu,ru⟩:=rv.get hx
    obtain⟨f0,f1,f2,f3,f4,f5⟩:=hf it (by simp)
    refine wpAny_pyNext_tuple_item st (show s.heap.IsTuple a its.toArray from p) (x:=u) (by simpa using hu) fun h' st' sb=>?_
    have I1:aF X pins σ H {s with heap:=h'}:=I.turned (t':=s.toks) (fun b o hb e=>(sb.2 b hb).trans e) f0 f1 f3 f4 f5
    obtain⟨o,e,c,d⟩:=id st'
    exact⟨u,rfl,wk (s:={s with heap:=h'}) e c d (by decide) ⟨x,H,I1,ru,⟨rfl,fun ys hy=>by rw [I.tuple_inj hy hq];exact hx⟩,st',fun b hb=>(hf b hb).1⟩⟩
  done:=by
    intro X hP hw hK hc i pins s σ H E I hf st hg
    subst hP hw hK
    obtain⟨xs,hq,hx⟩:=hg
    obtain⟨its,rv,p,hz⟩:=I.tuple hq
    obtain⟨f0,f1,f2,f3,f4,f5⟩:=hf it (by simp)
    have hl:=rv.length
    exact wpAny_pyNext_tuple_end (I.ok.hd hc) st (show s.heap.IsTuple a its.toArray from p) (by simp;lia) fun h' eb=>⟨rfl,I.turned (t':=s.toks) (fun b o hb e=>eb b o hb e) f0 f1 f3 f4 f5⟩
  self:=fun _ _ _ _ _ st h=>wpAny_pyIter_tupleiter st h
theorem r9{P:Program}{w:World}{K:PySem.W.Frag}{tg:Expr}(it:Addr)(lo:Int)(n:Nat):pL P w K tg (Eo lo n) [it] it (fun i h=>IsRangeIter h it (lo+(i:Nat)*1) ((n:Int) - (i:Nat)) 1) where
  mem:=by simp
  obj:=fun i h st b hb=>by
    have e:b=it:=by simpa using hb
    subst e
    exact⟨_,st,fun v z=>by
      have z':Data.fields _=Data.cell v:=z
      cases z'⟩
  keep:=fun i h h' st k=>k it (by simp) _ st
  item:=by
    intro X hP hw hK hc i pins s σ H E I hf st hg
    subst hP hw hK
    obtain⟨f0,f1,f2,f3,f4,f5⟩:=hf it (by simp)
    have W:=Walks.range (prog:=X.prog) (w:=X.w) (I.ok.hd hc) it lo 1 n
    refine W.item i s _ _ hg st fun v h' tk hv st' kk=>?_
    obtain⟨t,rfl⟩:=hv
    have I1:aF X pins σ H {s with heap:=h',toks:=tk}:=I.turned (fun b o hb e=>kk b o (by simpa using hb) e) f0 f1 f3 f4 f5
    refine⟨_,rfl,wk (s:={s with heap:=h',toks:=tk}) (n:="range_iterator") st' rfl rfl (by decide) ⟨.int (lo+i),H,I1,⟨t,?_⟩,⟨rfl,rfl⟩,st',fun b hb=>(hf b hb).1⟩⟩
    rw [Int.mul_one]
  done:=by
    intro X hP hw hK hc i pins s σ H E I hf st hg
    subst hP hw hK
    obtain⟨f0,f1,f2,f3,f4,f5⟩:=hf it (by simp)
    exact wpAny_pyNext_range_end (I.ok.hd hc) st (by have:n≤i:=hg;lia) fun h' eb=>⟨rfl,I.turned (t':=s.toks) (fun b o hb e=>eb b o hb e) f0 f1 f3 f4 f5⟩
  self:=fun _ _ _ _ _ st h=>wpAny_pyIter_rangeiter st h
end L2
namespace L2
open PySem PySem.Spec PyProof.Rows
section
variable{X:Cx}{tg:Expr}
def Au(K:PySem.W.Frag)(tl:TE):TI:=fun σ H R=>tl σ H fun x H1=>∃a,x=.ref a∧(∃xs,dg K H1 a xs)∧R (ED K a) H1
def De(K:PySem.W.Frag)(tl:TE):TI:=fun σ H R=>tl σ H fun x H1=>∃a,x=.ref a∧(∃xs,cD K H1 a xs)∧R (EE K a) H1
theorem zu{l:Expr}{tl:TE}(hl:PE X l tl):PI X tg l (Au X.K tl):=by
  intro pins s σ H R I h
  refine cP (hl pins s σ H _ I h) fun v s1 ⟨x,H1,I1,r1,q1⟩=>?_
  obtain⟨a,e,⟨xs,hq⟩,q⟩:=q1
  subst e
  cases r1
  obtain⟨its,rv,p,hz⟩:=I1.list hq
  refine wpAny_pyIter_list p.isList ?_
  refine⟨s1.heap.objs.size,[s1.heap.objs.size],_,_,H1,rfl,I1.kept (t':=s1.toks) fun b o e=>Heap.get?_push_of_some _ e,uT a _,⟨_,Heap.get?_push_size _ rfl,rfl,rfl⟩,fun b hb=>?_,q⟩
  have e:b=s1.heap.objs.size:=by simpa using hb
  subst e
  exact I1.fpOk (Nat.le_refl _) (I1.hok.fresh (Nat.le_refl _))
theorem BR{l:Expr}{tl:TE}(hl:PE X l tl):PI X tg l (De X.K tl):=by
  intro pins s σ H R I h
  refine cP (hl pins s σ H _ I h) fun v s1 ⟨x,H1,I1,r1,q1⟩=>?_
  obtain⟨a,e,⟨xs,hq⟩,q⟩:=q1
  subst e
  cases r1
  obtain⟨its,rv,p,hz⟩:=I1.tuple hq
  refine wpAny_pyIter_tuple (show s1.heap.IsTuple a its.toArray from p) ?_
  refine⟨s1.heap.objs.size,[s1.heap.objs.size],_,_,H1,rfl,I1.kept (t':=s1.toks) fun b o e=>Heap.get?_push_of_some _ e,r_ a _,⟨_,Heap.get?_push_size _ rfl,rfl,rfl⟩,fun b hb=>?_,q⟩
  have e:b=s1.heap.objs.size:=by simpa using hb
  subst e
  exact I1.fpOk (Nat.le_refl _) (I1.hok.fresh (Nat.le_refl _))
theorem xG{pins:List (Addr × Obj)}{σ:St}{H:Hp}{s:Shared}{R:It→Hp→Prop}{E:Value→Shared→Prop}{lo hi:Int}{t u v:Tok}{tk:Nat}(I:aF X pins σ H s)(h1: -(2 ^ 62)≤lo)(h2:lo < 2 ^ 62)(h3: -(2 ^ 62)≤hi)(h4:hi < 2 ^ 62)
    (q:R (Eo lo (hi - lo).toNat) H):wpAny (model X.prog X.w) X.A (pyIter (.ref s.heap.objs.size)) (Fx X pins σ tg R) E {s with heap:=s.heap.push {cls:=.type "range",data:=.fields #[.int lo t,.int hi u,.int 1 v]},toks:=tk}:=by
  refine wpAny_pyIter_range (IsRange.new ..) (small_one h1 h2 h3 h4) ?_
  have I1:aF X pins σ H {s with heap:=s.heap.push {cls:=.type "range",data:=.fields #[.int lo t,.int hi u,.int 1 v]},toks:=tk}:=I.kept fun b o e=>Heap.get?_push_of_some _ e
  refine⟨(s.heap.push {cls:=.type "range",data:=.fields #[.int lo t,.int hi u,.int 1 v]}).objs.size,[(s.heap.push {cls:=.type "range",data:=.fields #[.int lo t,.int hi u,.int 1 v]}).objs.size],_,_,H,rfl,
    I1.kept (t':=tk) fun b o e=>Heap.get?_push_of_some _ e,r9 _ lo (hi - lo).toNat,?_,fun b hb=>?_,q⟩
  · have e1:lo+((0:Nat):Int)*1=lo:=by simp
    have e2:(((hi - lo).toNat:Nat):Int) - ((0:Nat):Int)=Builtin.Range.rangeSize lo hi 1:=by rw [rangeSize_one];split<;>lia
    show IsRangeIter _ _ (lo+((0:Nat):Int)*1) ((((hi - lo).toNat:Nat):Int) - ((0:Nat):Int)) 1
    rw [e1,e2]
    exact Heap.get?_push_size _ rfl
  · have e:b=(s.heap.push {cls:=.type "range",data:=.fields #[.int lo t,.int hi u,.int 1 v]}).objs.size:=by simpa using hb
    subst e
    exact I1.fpOk (Nat.le_refl _) (I1.hok.fresh (Nat.le_refl _))
def Dd(ta:TA):TI:=fun σ H R=>ta σ H fun vs H1=>∃j:Int,vs=[.int j]∧ -(2 ^ 62)≤j∧j < 2 ^ 62∧R (Eo 0 j.toNat) H1
theorem uK{a:Expr}{ta:TA}{p pos:Pos}(hg:Gl X "range")(hm:X.mg "range"=none)(ha:PA X [a] ta)(hs:starEach [a] X.env=[(false,eval a X.env)]:=by rfl):PI X tg (.Call (.Name "range" p) [a] [] pos) (Dd ta):=by
  intro pins s σ H R I h
  refine Call_ (iB I hg hm boot_range (PyProof.Rows.callWith_type1 (cP (ha pos pins s σ H _ I h) fun us s1 ⟨vs,H1,I1,r1,q1⟩=>?_) hs rfl))
  obtain⟨j,e,q1,q2,q⟩:=q1
  subst e
  cases r1 with
  | cons r rr=>
    cases rr
    obtain⟨t,rfl⟩:=r
    exact call_range_1 (xG I1 (by lia) (by lia) q1 q2 (by simpa using q))
def Ff(wi:TI)(g:TG)(tb:TS):TS:=fun D σ H=>wi σ H fun J H1=>∃W:Nat→Nat→St→Hp→Prop,(∃m,W 0 m σ H1)∧∀i m σ H,W i m σ H→
  (J.stop i H∧D.nx σ H)∨(J.go i H∧∃N:St→Hp→Prop,(∀σ' H',N σ' H'→∃m',m' < m∧W (i+1) m' σ' H')∧∀x H',J.yld i H x H'→g x σ H' fun σ2 H2=>tb {D with nx:=N,ct:=N,bk:=D.nx} σ2 H2)
def kO(fp:List Addr)(h:Heap):List (Addr × Obj):=fp.filterMap fun b=>(h.get? b).map fun o=>(b,o)
theorem eg{fp:List Addr}{h:Heap}{b:Addr}{o:Obj}(hb:b∈fp)(e:h.get? b=some o):(b,o)∈kO fp h:=List.mem_filterMap.mpr ⟨b,hb,by rw [e];rfl⟩
theorem uB{fp:List Addr}{h:Heap}{p:Addr × Obj}(hp:p∈kO fp h):p.1∈fp∧h.get? p.1=some p.2:=by
  obtain⟨b,hb,e⟩:=List.mem_filterMap.mp hp
  cases q:h.get? b with
  | none=>rw [q] at e;cases e
  | some o=>
    rw [q] at e
    have e':(b,o)=p:=Option.some.inj e
    subst e'
    exact⟨hb,q⟩
theorem aF.pinned{pins:List (Addr × Obj)}{σ:St}{H:Hp}{s:Shared}{fp:List Addr}(I:aF X pins σ H s)(hf:∀b∈fp,ij X pins H b)(ho:∀b∈fp,∃o,s.heap.get? b=some o∧∀v,o.data≠.cell v):aF X (pins++kO fp s.heap) σ H s:=
  I.pins_of fun p hp=>(List.mem_append.mp hp).elim (fun z=>I.pin p (List.mem_append_right _ z)) fun z=>by
    obtain⟨hb,e⟩:=uB z
    obtain⟨f0,f1,f2,_⟩:=hf p.1 hb
    obtain⟨o,e',d⟩:=ho p.1 hb
    rw [e] at e';cases e'
    exact⟨e,f0,f1,f2,d⟩
theorem aF.unpinned{pins pl:List (Addr × Obj)}{σ:St}{H:Hp}{s:Shared}(I:aF X (pins++pl) σ H s):aF X pins σ H s:=I.pins_of fun p hp=>I.pin p (List.mem_append_right _ (List.mem_append_left _ hp))
theorem BV{iter:Expr}{body:List Stmt}{wi:TI}{g:TG}{tb:TS}{pos:Pos}(hp:PassesOwn (model X.prog X.w) X.A X.env X.xe)(hc:X.calm=true)(hi:PI X tg iter wi)(hg:PG X tg g)(hb:lj X body tb)
    (hs:∀x,foldedSetIterable iter X.env x=pure x:=by intro _;rfl):PS X (.For tg iter body [] pos) (Ff wi g tb):=by
  intro pins s σ H D I h
  refine wpAny_For (cP (hi pins s σ H _ I h) fun v s1 h1=>cP h1 fun itv s2 h2=>?_) hs
  obtain⟨it,fp,tn,J,H2,e,I2,T,st2,f2,W,⟨m0,w0⟩,turn⟩:=h2
  subst e
  have stat:∀{H':Hp},(∀b∈fp,H' b=none)→∀b∈fp,ij X pins H' b:=fun hn b hb=>⟨hn b hb,(f2 b hb).2⟩
  refine codeAny_forLoop_any (fun n s'=>∃i σ' H',aF X pins σ' H' s'∧tn i s'.heap∧(∀b∈fp,H' b=none)∧W i n σ' H') ?_ m0 ⟨0,σ,H2,I2,st2,fun b hb=>(f2 b hb).1,w0⟩
  rintro n s3 ⟨i,σ3,H3,I3,st3,fr3,w3⟩
  rcases turn i n σ3 H3 w3 with ⟨stop,qn⟩ | ⟨go,N,hN,step⟩
  · refine wpAny_passesOwn hp (cP (T.done X rfl rfl rfl hc i pins s3 σ3 H3 X.xe I3 (stat fr3) st3 stop) fun r s4 ⟨hr,I4⟩=>?_)
    subst hr
    exact wpAny_execs_nil ⟨σ3,H3,I4,qn⟩
  · refine wpAny_passesOwn hp (cP (T.item X rfl rfl rfl hc i pins s3 σ3 H3 X.xe I3 (stat fr3) st3 go) fun r s4 ⟨u,hr,h4⟩=>?_)
    subst hr
    refine wpAny_passesOwn hp (cP h4 fun _ s5 ⟨x,H5,I5,r5,y5,st5,fr5⟩=>?_)
    have I5':=I5.pinned (stat fr5) (T.obj _ _ st5)
    refine wpAny_passesOwn hp (cP (hg _ s5 σ3 H5 x u _ I5' r5 (step x H5 y5)) fun _ s6 ⟨σ6,H6,I6,q6⟩=>?_)
    refine wpAny_passesOwn hp (cP (hb _ s6 σ6 H6 _ I6 q6) fun f s7 q7=>?_)
    have again:∀{σ7:St} {H7:Hp},aF X (pins++kO fp s5.heap) σ7 H7 s7→N σ7 H7→∃m,m < n∧∃i σ' H',aF X pins σ' H' s7∧tn i s7.heap∧(∀b∈fp,H' b=none)∧W i m σ' H':=fun{σ7 H7} I7 n7=>by
      obtain⟨m',hm,w7⟩:=hN σ7 H7 n7
      refine⟨m',hm,i+1,σ7,H7,I7.unpinned,T.keep _ _ _ st5 fun b hb o e=>(I7.pin (b,o) (List.mem_append_right _ (List.mem_append_right _ (eg hb e)))).1,fun b hb=>?_,w7⟩
      obtain⟨o,e,d⟩:=T.obj _ _ st5 b hb
      exact(I7.pin (b,o) (List.mem_append_right _ (List.mem_append_right _ (eg hb e)))).2.1
    cases f with
    | next=>obtain⟨σ7,H7,I7,n7⟩:=q7;exact again I7 n7
    | cont=>obtain⟨σ7,H7,I7,n7⟩:=q7;exact again I7 n7
    | brk=>obtain⟨σ7,H7,I7,q7⟩:=q7;exact⟨σ7,H7,I7.unpinned,q7⟩
    | ret v=>obtain⟨x7,σ7,H7,I7,r7,q7⟩:=q7;exact⟨x7,σ7,H7,I7.unpinned,r7,q7⟩
end
end L2
namespace L2
open PySem PySem.Spec PyProof.Rows
abbrev R2:=V→V→Hp→VK→Prop
def fV(X:Cx)(f:Value→Value→Sem Value)(r:R2):Prop:=
  ∀(pins:List (Addr × Obj)) (s:Shared) (σ:St) (H:Hp) (x y:V) (v u:Value) (Q:VK),aF X pins σ H s→bD x v→bD y u→r x y H Q→
    wpAny (model X.prog X.w) X.A (f v u) (EP X pins σ Q) X.xe s
def Es(X:Cx)(f:Value→Sem Value)(r:V→Hp→VK→Prop):Prop:=
  ∀(pins:List (Addr × Obj)) (s:Shared) (σ:St) (H:Hp) (x:V) (v:Value) (Q:VK),aF X pins σ H s→bD x v→r x H Q→
    wpAny (model X.prog X.w) X.A (f v) (EP X pins σ Q) X.xe s
def et(X:Cx)(f:Value)(r:List V→Hp→VK→Prop):Prop:=
  ∀(pins:List (Addr × Obj)) (s:Shared) (σ:St) (H:Hp) (xs:List V) (us:List Value) (Q:VK),aF X pins σ H s→aS xs us→r xs H Q→
    wpAny (model X.prog X.w) X.A (call f us) (EP X pins σ Q) X.xe s
def Ee(r:R2)(ta tb:TE):TE:=fun σ H Q=>ta σ H fun x H1=>tb σ H1 fun y H2=>r x y H2 Q
def FL(r:V→Hp→VK→Prop)(ta:TE):TE:=fun σ H Q=>ta σ H fun x H1=>r x H1 Q
def rI(C:Int→Int→Prop)(g:Int→Int→V):R2:=fun x y H Q=>∃i j,x=.int i∧y=.int j∧C i j∧Q (g i j) H
def uO(g:Int→Int→V):R2:=fun x y H Q=>∃i j,x=.int i∧y=.int j∧Q (g i j) H
def rU(g:Int→V):V→Hp→VK→Prop:=fun x H Q=>∃i,x=.int i∧Q (g i) H
section
variable{X:Cx}{a b c:Expr}{ta tb tc:TE}{pos:Pos}
theorem AO(ha:PE X a ta)(hb:PE X b tb){pins:List (Addr × Obj)}{s:Shared}{σ:St}{H:Hp}{R:V→V→Hp→Prop}(I:aF X pins σ H s)
    (h:ta σ H fun x H1=>tb σ H1 fun y H2=>R x y H2){Q:Value→Shared→Prop}{f:Value→Value→Sem Value}
    (hf:∀v u s2 x y H2,aF X pins σ H2 s2→bD x v→bD y u→R x y H2→wpAny (model X.prog X.w) X.A (f v u) Q X.xe s2):
    wpAny (model X.prog X.w) X.A (eval a X.env) (fun v s₁=>wpAny (model X.prog X.w) X.A (eval b X.env) (fun u s₂=>wpAny (model X.prog X.w) X.A (f v u) Q X.xe s₂) X.xe s₁) X.xe s:=by
  refine cP (ha pins s σ H _ I h) fun v s1 ⟨x,H1,I1,r1,q1⟩=>?_
  refine cP (hb pins s1 σ H1 _ I1 q1) fun u s2 ⟨y,H2,I2,r2,q2⟩=>?_
  exact hf v u s2 x y H2 I2 r1 r2 q2
theorem DG{op:Operator}{r:R2}(ho:fV X (binaryOp op) r)(ha:PE X a ta)(hb:PE X b tb):PE X (.BinOp a op b pos) (Ee r ta tb):=by
  intro pins s σ H Q I h
  exact wpAny_BinOp (AO ha hb I h fun v u s2 x y H2 I2 rx ry q=>ho pins s2 σ H2 x y v u Q I2 rx ry q)
theorem DK{op:UnaryOp}{r:V→Hp→VK→Prop}(ho:Es X (unaryOp op) r)(ha:PE X a ta):PE X (.UnaryOp op a pos) (FL r ta):=by
  intro pins s σ H Q I h
  exact UnaryOp_ (cP (ha pins s σ H _ I h) fun v s1 ⟨x,H1,I1,r1,q1⟩=>ho pins s1 σ H1 x v Q I1 r1 q1)
theorem Dw{f:Value→Value→Sem Value}{C:Int→Int→Prop}{g:Int→Int→Int}
    (rule:∀(i j:Int) (t u:Tok) (s:Shared) (Q:Value→Shared→Prop) (E:Value→Shared→Prop),C i j→Q (.int (g i j) s.toks) {s with toks:=s.toks+1}→wpAny (model X.prog X.w) X.A (f (.int i t) (.int j u)) Q E s):
    fV X f (rI C fun i j=>.int (g i j)):=by
  intro pins s σ H x y v u Q I rx ry h
  obtain⟨i,j,rfl,rfl,hc,q⟩:=h
  obtain⟨t,rfl⟩:=rx
  obtain⟨t',rfl⟩:=ry
  exact rule i j t t' s _ _ hc ⟨.int (g i j),H,I.tok _,⟨_,rfl⟩,q⟩
theorem Dx{f:Value→Value→Sem Value}{g:Int→Int→Int}
    (rule:∀(i j:Int) (t u:Tok) (s:Shared) (Q:Value→Shared→Prop) (E:Value→Shared→Prop),Q (.int (g i j) s.toks) {s with toks:=s.toks+1}→wpAny (model X.prog X.w) X.A (f (.int i t) (.int j u)) Q E s):
    fV X f (uO fun i j=>.int (g i j)):=by
  intro pins s σ H x y v u Q I rx ry h
  obtain⟨i,j,rfl,rfl,q⟩:=h
  obtain⟨t,rfl⟩:=rx
  obtain⟨t',rfl⟩:=ry
  exact rule i j t t' s _ _ ⟨.int (g i j),H,I.tok _,⟨_,rfl⟩,q⟩
theorem Bu{f:Value→Value→Sem Value}{g:Int→Int→Bool}
    (rule:∀(i j:Int) (t u:Tok) (s:Shared) (Q:Value→Shared→Prop) (E:Value→Shared→Prop),Q (.bool (g i j)) s→wpAny (model X.prog X.w) X.A (f (.int i t) (.int j u)) Q E s):
    fV X f (uO fun i j=>.bl (g i j)):=by
  intro pins s σ H x y v u Q I rx ry h
  obtain⟨i,j,rfl,rfl,q⟩:=h
  obtain⟨t,rfl⟩:=rx
  obtain⟨t',rfl⟩:=ry
  exact rule i j t t' s _ _ ⟨.bl (g i j),H,I,rfl,q⟩
def AI(i j:Int):Prop:=0≤j∧j≤1000000∧i.natAbs < 2 ^ 64
def yn(i j:Int):Prop:=(-(2 ^ 64) < i∧i < 2 ^ 64)∨(-(2 ^ 64) < j∧j < 2 ^ 64)
theorem yn.ok{i j:Int}(h:yn i j):IntMulOk i j:=by
  rcases h with ⟨h1,h2⟩ | ⟨h1,h2⟩
  · exact .of_left (intBits_le_64 h1 h2)
  · exact .of_right (intBits_le_64 h1 h2)
theorem Bv:fV X (binaryOp .Add) (uO fun i j=>.int (i+j)):=Dx fun _ _ _ _ _ _ _ q=>add_int q
theorem BG:fV X (binaryOp .Sub) (uO fun i j=>.int (i - j)):=Dx fun _ _ _ _ _ _ _ q=>sub_int q
theorem BC:fV X (binaryOp .Mult) (rI yn fun i j=>.int (i*j)):=Dw fun _ _ _ _ _ _ _ hc q=>mul_int q hc.ok
theorem y9:fV X (binaryOp .Mod) (rI (fun _ j=>j≠0) fun i j=>.int (i.fmod j)):=Dw fun _ _ _ _ _ _ _ hc q=>mod_int' hc q
theorem BE:fV X (binaryOp .Pow) (rI AI fun i j=>.int (i ^ j.toNat)):=Dw fun _ _ _ _ _ _ _ hc q=>pow_int_small hc.1 hc.2.1 hc.2.2 q
theorem Gf{f:Value→Sem Value}{g:Int→Int}
    (rule:∀(i:Int) (t:Tok) (s:Shared) (Q:Value→Shared→Prop) (E:Value→Shared→Prop),Q (.int (g i) s.toks) {s with toks:=s.toks+1}→wpAny (model X.prog X.w) X.A (f (.int i t)) Q E s):
    Es X f (rU fun i=>.int (g i)):=by
  intro pins s σ H x v Q I rx h
  obtain⟨i,rfl,q⟩:=h
  obtain⟨t,rfl⟩:=rx
  exact rule i t s _ _ ⟨.int (g i),H,I.tok _,⟨_,rfl⟩,q⟩
theorem Cy:Es X (unaryOp .USub) (rU fun i=>.int (-i)):=Gf fun _ _ _ _ _ q=>neg_int q
end
section
variable{X:Cx}{a b c:Expr}{ta tb tc:TE}{pos:Pos}
theorem vO{pins:List (Addr × Obj)}{σ:St}{H:Hp}{s:Shared}{Q:VK}{k k':Bool}(I:aF X pins σ H s)(q:Q (.bl k) H)(e:k=k'):EP X pins σ Q (.bool k') s:=by
  subst e
  exact⟨.bl k,H,I,rfl,q⟩
theorem DB:fV X (compareOp .Lt) (uO fun i j=>.bl (decide (i < j))):=Bu fun _ _ _ _ _ _ _ q=>lt_int q
theorem Dz:fV X (compareOp .Gt) (uO fun i j=>.bl (decide (j < i))):=Bu fun _ _ _ _ _ _ _ q=>gt_int q
theorem Dy:fV X (compareOp .GtE) (uO fun i j=>.bl (decide (j≤i))):=Bu fun _ _ _ _ _ _ _ q=>ge_int q
theorem BB:fV X (compareOp .Is) (fun x y H Q=>y=.non∧Q (.bl (decide (x=.non))) H):=by
  intro pins s σ H x y v u Q I rx ry h
  obtain⟨rfl,q⟩:=h
  cases ry
  refine is_none_gen (vO I q ?_)
  cases x<;>first
    | (cases rx;rfl)
    | (obtain⟨t,rfl⟩:=rx;rfl)
theorem zc:fV X (compareOp .IsNot) (fun x y H Q=>y=.non∧Q (.bl (!decide (x=.non))) H):=by
  intro pins s σ H x y v u Q I rx ry h
  obtain⟨rfl,q⟩:=h
  cases ry
  refine isnot_none_gen (vO I q ?_)
  cases x<;>first
    | (cases rx;rfl)
    | (obtain⟨t,rfl⟩:=rx;rfl)
theorem fV.or{f:Value→Value→Sem Value}{r r':R2}(h:fV X f r)(h':fV X f r'):fV X f (fun x y H Q=>r x y H Q∨r' x y H Q):=by
  intro pins s σ H x y v u Q I rx ry q
  rcases q with q | q
  · exact h pins s σ H x y v u Q I rx ry q
  · exact h' pins s σ H x y v u Q I rx ry q
theorem aO(b:Expr){op:CmpOp}(h:op≠.In:=by decide)(h2:op≠.NotIn:=by decide):behindInMarks op b=false:=by
  have e1:(op==CmpOp.In)=false:=by cases op<;>first | rfl | exact absurd rfl h
  have e2:(op==CmpOp.NotIn)=false:=by cases op<;>first | rfl | exact absurd rfl h2
  cases b<;>simp [behindInMarks,e1,e2]
theorem zi{op:CmpOp}{r:R2}(ho:fV X (compareOp op) r)(ha:PE X a ta)(hb:PE X b tb)(hm:behindInMarks op b=false):PE X (.Compare a [op] [b] pos) (Ee r ta tb):=by
  intro pins s σ H Q I h
  exact wpAny_Compare1 (AO ha hb I h fun v u s2 x y H2 I2 rx ry q=>ho pins s2 σ H2 x y v u Q I2 rx ry q) hm
def Eg(t:TE):TT:=fun σ H Q=>t σ H fun x H'=>∃k,x=.bl k∧Q k H'
theorem zF{op:CmpOp}{r:R2}(ho:fV X (compareOp op) r)(ha:PE X a ta)(hb:PE X b tb)(hm:behindInMarks op b=false):PT X (.Compare a [op] [b] pos) (Eg (Ee r ta tb)):=by
  intro pins s σ H Q I h
  refine wpAny_isTrue_Compare1 (cP (ha pins s σ H _ I h) fun v s1 ⟨x,H1,I1,r1,q1⟩=>cP (hb pins s1 σ H1 _ I1 q1) fun u s2 ⟨y,H2,I2,r2,q2⟩=>
    cP (ho pins s2 σ H2 x y v u _ I2 r1 r2 q2) fun c s3 ⟨z,H3,I3,r3,k,e,q3⟩=>?_) hm
  subst e
  cases r3
  exact wpAny_truthy_bool ⟨H3,I3,q3⟩
theorem rJ:(sizeLine:Nat) < 2 ^ 63:=by rw [sizeLine_eq];decide
theorem om{x:V}{us:List Value}(r:aS [x] us):∃u,us=[u]∧bD x u:=by
  cases r with
  | cons r1 r2=>cases r2;exact⟨_,rfl,r1⟩
theorem AG{x y:V}{us:List Value}(r:aS [x,y] us):∃u w',us=[u,w']∧bD x u∧bD y w':=by
  cases r with
  | cons r1 r2=>
    cases r2 with
    | cons r3 r4=>cases r4;exact⟨_,_,rfl,r1,r3⟩
theorem vy:et X (.builtin "abs") (fun xs H Q=>∃i,xs=[.int i]∧Q (.int (if i < 0 then -i else i)) H):=by
  intro pins s σ H xs us Q I r h
  obtain⟨i,rfl,q⟩:=h
  obtain⟨u,rfl,t,rfl⟩:=om r
  exact call_abs_int fun u tk=>⟨.int (if i < 0 then -i else i),H,I.tok _,⟨_,rfl⟩,q⟩
theorem ud(hc:X.calm=true):et X (.builtin "max") (fun xs H Q=>∃i j,xs=[.int i,.int j]∧Q (.int (if j > i then j else i)) H):=by
  intro pins s σ H xs us Q I r h
  obtain⟨i,j,rfl,q⟩:=h
  obtain⟨u,w',rfl,⟨t,rfl⟩,⟨t',rfl⟩⟩:=AG r
  refine max_two_ints (I.ok.hd hc) fun h' tk k=>⟨_,H,I.kept k,?_,q⟩
  by_cases hj:j > i
  · rw [if_pos hj,if_pos hj];exact⟨_,rfl⟩
  · rw [if_neg hj,if_neg hj];exact⟨_,rfl⟩
theorem ue(hc:X.calm=true):et X (.builtin "min") (fun xs H Q=>∃i j,xs=[.int i,.int j]∧Q (.int (if j < i then j else i)) H):=by
  intro pins s σ H xs us Q I r h
  obtain⟨i,j,rfl,q⟩:=h
  obtain⟨u,w',rfl,⟨t,rfl⟩,⟨t',rfl⟩⟩:=AG r
  refine min_two_ints (I.ok.hd hc) fun h' tk k=>⟨_,H,I.kept k,?_,q⟩
  by_cases hj:j < i
  · rw [if_pos hj,if_pos hj];exact⟨_,rfl⟩
  · rw [if_neg hj,if_neg hj];exact⟨_,rfl⟩
theorem uc:et X (.type "int") (fun xs H Q=>(∃i,xs=[.int i]∧Q (.int i) H)∨∃k,xs=[.bl k]∧Q (.int (if k then 1 else 0)) H):=by
  intro pins s σ H xs us Q I r h
  rcases h with ⟨i,rfl,q⟩ | ⟨k,rfl,q⟩
  · obtain⟨u,rfl,t,rfl⟩:=om r
    exact call_int_int ⟨.int i,H,I,⟨_,rfl⟩,q⟩
  · obtain⟨u,rfl,r1⟩:=om r
    cases r1
    exact call_int_bool ⟨.int (if k then 1 else 0),H,I.tok _,⟨_,rfl⟩,q⟩
end
end L2
namespace L2
open PySem PySem.Spec PyProof.Rows
structure FW (h:Heap) (x dx C:Addr) (mA:Str→Option Value):Prop where
  obj:h.get? x=some (PySem.W.instObj C dx)
  ns:h.Ns1 dx mA
  ne:dx≠x
section
variable{prog:Program}{w:World}{A:Around}{E:Value→Shared→Prop}{s:Shared}{K:PySem.W.Frag}{x dx C f:Addr}{mA:Str→Option Value}{name:Str}{v:Value}
end
section
variable{P:Program}{w:World}{H H':Hp}{h h':Heap}{a C dx:Addr}{fs fs':List (Str × V)}
end
structure FQ (K:PySem.W.Frag) (C:Addr):Prop where
  pg:PySem.W.plainGet K C Str.empty=true
  hd:PySem.W.hasDictIn K C=true
  po:PySem.W.plainOver K C=true
  sa:PySem.W.findIn K (.ref C) "__setattr__"=some (some (.builtin "object.__setattr__"))
structure Gg (K:PySem.W.Frag) (C:Addr) (f:Str) (v:V) (u:Value):Prop where
  at_:PySem.W.findIn K (.ref C) f=some (some u)
  rel:bD v u
  get:PySem.W.specialIn K u "__get__"=some none
  cp:PySem.W.copiedNames.contains f=false
structure FV (K:PySem.W.Frag) (C:Addr) (m:Str) (f:Addr):Prop where
  at_:PySem.W.findIn K (.ref C) m=some (some (.ref f))
  fn:PySem.W.isFn K (.ref f)=true
  kp:PySem.W.keepIn K (.ref f)=true
section
variable{X:Cx}{pins:List (Addr × Obj)}{σ:St}{H:Hp}{s:Shared}{a C dx:Addr}{fs:List (Str × V)}{f:Str}{v:V}{A:Around}{E:Value→Shared→Prop}
end
section
variable{X:Cx}{o e value:Expr}{f:Str}{pos pos' tpos:Pos}{ta tv:TE}
end
section
variable{X:Cx}{pins:List (Addr × Obj)}{σ:St}{H:Hp}{s:Shared}{A:Around}{E:Value→Shared→Prop}{Q:Value→Shared→Prop}{c:Value}{b:Bool}
inductive lM (K:PySem.W.Frag) (H:Hp):V→Value→Prop where
  | non:lM K H .non (.type "NoneType")
  | bl (x:Bool):lM K H (.bl x) (.type "bool")
  | int (i:Int):lM K H (.int i) (.type "int")
  | str (x:Str):lM K H (.str x) (.type "str")
  | flt (x:UInt64):lM K H (.flt x) (.type "float")
  | lst {a:Addr} {xs:List V} (e:H a=some (.lst xs)):lM K H (.ref a) (.type "list")
  | frz {a:Addr} {o:Obj} {xs:List V} (e:H a=some (.frz o (.lst xs))):lM K H (.ref a) (.type "list")
  | tup {a:Addr} {xs:List V} (e:H a=some (.tup xs)):lM K H (.ref a) (.type "tuple")
  | dK {a:Addr} {kvs:List (fU × V)} (e:H a=some (.dK kvs)):lM K H (.ref a) (.type "dict")
  | dT {a:Addr} {kvs:List (List fU × V)} (e:H a=some (.dT kvs)):lM K H (.ref a) (.type "dict")
  | ins {a C dx:Addr} {fs:List (Str × V)} (e:H a=some (.ins C dx fs)) (cl:FQ K C) (ha:PySem.W.findIn K (.ref C) "__class__"=some (some (.builtin "object.__class__")))
      (hn:PySem.W.specialIn K (.builtin "object.__class__") "__get__"=some (some (.builtin "getset_descriptor.__get__"))) (htk:PySem.W.takesIn K (.builtin "object.__class__")=some true)
      (hm:PySem.W.mroIn K C (.type "object")=some true):lM K H (.ref a) (.ref C)
end
end L2
namespace L2
open PySem PySem.Spec PyProof.Rows
structure cZ (k:Nat) (A:Around):Prop where
  hd:A.handled=none
  dp:A.depth+3*k+5 < recursionLimit
  un:A.units+16*k+200 < cLine
  gd:A.guards=some []
theorem cZ.mono{j k:Nat}{A:Around}(r:cZ k A)(h:j≤k):cZ j A:=⟨r.hd,by have:=r.dp;lia,by have:=r.un;lia,r.gd⟩
theorem cZ.deeper{k:Nat}{A:Around}(r:cZ (k+1) A)(env:Env):cZ k (A.deeper env):=
  ⟨r.hd,by have:=r.dp;show A.depth+1+3*k+5 < _;lia,by have:=r.un;show A.units+3+16*k+200 < _;lia,r.gd⟩
theorem cZ.depth{k:Nat}{A:Around}(r:cZ k A):A.depth < recursionLimit:=by have:=r.dp;lia
theorem cZ.units{k:Nat}{A:Around}(r:cZ k A):A.units+64 < cLine:=by have:=r.un;lia
def Cp:TA:=fun _ H Q=>Q [] H
def qM(ta:TE)(tr:TA):TA:=fun σ H Q=>ta σ H fun x H1=>tr σ H1 fun xs H2=>Q (x::xs) H2
section
variable{X:Cx}{e:Expr}{es:List Expr}{te:TE}{t:TA}{pos:Pos}
theorem wW:PA X [] Cp:=fun _ _ _ _ H Q I h=>Calls.spliced_nil ⟨[],H,I,.nil,h⟩
theorem ph(ha:PE X e te)(hr:PA X es t)(hs:starEach (e::es) X.env=(false,eval e X.env)::starEach es X.env:=by rfl):PA X (e::es) (qM te t):=by
  intro pos pins s σ H Q I h
  rw [hs]
  show wpAny _ _ (spliced ((false,eval e X.env)::backTo pos (starEach es X.env))) _ _ s
  refine Calls.spliced_cons (cP (ha pins s σ H _ I h) fun u s1 ⟨x,H1,I1,r1,q1⟩=>?_)
  exact cP (hr pos pins s1 σ H1 _ I1 q1) fun us s2 ⟨xs,H2,I2,r2,q2⟩=>⟨x::xs,H2,I2,.cons r1 r2,q2⟩
def Eh(t:TA):TE:=fun σ H Q=>t σ H fun xs H1=>xs.length≤sizeLine∧∀p,H1 p=none→Q (.ref p) (a_ H1 p (.tup xs))
def Fh(t:TA):TE:=fun σ H Q=>t σ H fun xs H1=>xs.length≤sizeLine∧∀p,H1 p=none→Q (.ref p) (a_ H1 p (.lst xs))
theorem BO{x1}(h:PA X es t):PE X (.Tuple es x1 pos) (Eh t):=by
  intro pins s σ H Q I hq
  refine wpAny_Tuple_spliced (cP (h pos pins s σ H _ I hq) fun us s1 ⟨xs,H1,I1,r,z,q⟩=>⟨by rw [←r.length];exact z,?_⟩)
  have hf:H1 s1.heap.objs.size=none:=I1.hok.fresh (Nat.le_refl _)
  refine⟨.ref s1.heap.objs.size,a_ H1 s1.heap.objs.size (.tup xs),I1.laid (t':=s1.toks) (fun b u e=>Heap.get?_push_of_some _ e) (Nat.le_refl _) ?_,rfl,q _ hf⟩
  exact⟨z,us,r,⟨_,Heap.get?_push_size _ rfl,rfl,_,rfl,rfl⟩⟩
theorem BJ(h:PA X es t):PE X (.List es pos) (Fh t):=by
  intro pins s σ H Q I hq
  refine wpAny_List_spliced (cP (h pos pins s σ H _ I hq) fun us s1 ⟨xs,H1,I1,r,z,q⟩=>⟨by rw [←r.length];exact z,?_⟩)
  have hf:H1 s1.heap.objs.size=none:=I1.hok.fresh (Nat.le_refl _)
  refine⟨.ref s1.heap.objs.size,a_ H1 s1.heap.objs.size (.lst xs),I1.laid (t':=s1.toks) (fun b u e=>Heap.get?_push_of_some _ e) (Nat.le_refl _) ?_,rfl,q _ hf⟩
  exact⟨z,us,0,r,Heap.get?_push_size _ rfl⟩
end
abbrev Sp:=List V→Hp→VK→XK→Prop
abbrev tZ:=List Env→Hp→Shared→XK→Value→Shared→Prop
structure yo (P:Program) (w:World) (K:PySem.W.Frag) (mg:Str→Option Value) (base:Heap) (A:Around) (outer:List Env) (s:Shared) (H:Hp):Prop where
  frames:A.frames=some outer
  mod:Mod K mg base
  bs:∀b o,base.get? b=some o→s.heap.get? b=some o∧H b=none
  bsz:base.objs.size≤s.heap.objs.size
  funs:s.heap.FunFrames base outer
  frf:∀b∈vQ outer,H b=none
  hok:kY P w H s.heap
  bare:AllBare s.gens
def CE(outer:List Env)(P:Program)(w:World)(H:Hp)(s:Shared)(Q:VK)(u:Value)(s':Shared):Prop:=
  ∃v H',s'.os=s.os∧AllBare s'.gens∧Un (vQ outer) [] H H' s.heap s'.heap∧kY P w H' s'.heap∧bD v u∧Q v H'
def CR(CX:tZ)(outer:List Env)(P:Program)(w:World)(H:Hp)(s:Shared)(Q:VK)(E:XK)(r:Result)(s':Shared):Prop:=
  match r with
  | .ok (.ret u)=>CE outer P w H s Q u s'
  | .ok _=>False
  | .error e=>CX outer H s E e s'
structure aC (P:Program) (w:World) (K:PySem.W.Frag) (mg:Str→Option Value) (base:Heap) (CX:tZ) (k:Nat) (f:Addr) (fd:FuncData) (ps:List Str) (sp:Sp):Prop where
  len:∀vs H Q E,sp vs H Q E→vs.length=ps.length
  run:∀(A:Around) (outer:List Env) (s:Shared) (H:Hp) (args:Args) (us:List Value) (vs:List V) (Q:VK) (E:XK),cZ k A→yo P w K mg base A outer s H→BindsTo s fd args (ps.zip us)→aS vs us→sp vs H Q E→
    codeAny (model P w) A (.call (.ref f) args) (CR CX outer P w H s Q E) s
section
variable{X:Cx}{pins:List (Addr × Obj)}{σ:St}{H:Hp}{s s':Shared}
theorem aF.env0(I:aF X pins σ H s):yo X.prog X.w X.K X.mg X.base X.A X.stack s H:=
  ⟨I.ok.frames,I.ok.mod,I.bs,Nat.le_trans I.ok.bsz I.sz,I.stack,I.stkFree,I.hok,I.bare⟩
theorem aF.after{Q:VK}{u:Value}(I:aF X pins σ H s)(h:CE X.stack X.prog X.w H s Q u s'):EP X pins σ Q u s':=by
  obtain⟨v,H',os,bare,un,hok,r,q⟩:=h
  obtain⟨hh,g,d,t,os'⟩:=s'
  obtain rfl:os'=s.os:=os
  exact⟨v,H',I.call (h':=hh) (g':=g) (d':=d) (t':=t) (ch:=[]) un hok bare (fun b z=>absurd z (by simp)),r,q⟩
end
def xX(sp:Sp)(dvs:List V)(E:XK)(t:TA):TE:=fun σ H Q=>t σ H fun vs H1=>sp (vs++dvs) H1 Q E
def m9(K:PySem.W.Frag)(fd:FuncData)(ps:List Str)(ds:List Value):Prop:=
  ∀(s:Shared) (us:List Value),K.In s.heap→(us++ds).length=ps.length→BindsTo s fd ⟨us,[]⟩ (ps.zip (us++ds))
theorem m9.all{K:PySem.W.Frag}{fd:FuncData}{ps:List Str}(h:∀us:List Value,us.length=ps.length→bindArgs fd ⟨us,[]⟩=pure (ps.zip us)):m9 K fd ps []:=fun s us _ hl=>by
  rw [List.append_nil] at hl ⊢
  exact .of_eq (h us hl)
def rf(CX:tZ)(X:Cx)(E:XK):Prop:=∀(pins:List (Addr × Obj)) (σ:St) (H:Hp) (s:Shared) (e:Value) (s':Shared),aF X pins σ H s→CX X.stack H s E e s'→X.xe e s'
section
variable{X:Cx}{CX:tZ}{k:Nat}{f C:Addr}{fd:FuncData}{ps:List Str}{sp:Sp}{dvs:List V}{ds:List Value}{E:XK}{x m:Str}{p pos apos:Pos}{e o:Expr}{es:List Expr}{ta:TE}{t:TA}
theorem Ce{pins:List (Addr × Obj)}{σ:St}{H:Hp}{s:Shared}{Q:VK}{us:List Value}{vs:List V}(F:aC X.prog X.w X.K X.mg X.base CX k f fd ps sp)(hr:cZ k X.A)(hb:m9 X.K fd ps ds)(hd:aS dvs ds)(hx:rf CX X E)
    (I:aF X pins σ H s)(r:aS vs us)(h:sp (vs++dvs) H Q E):wpAny (model X.prog X.w) X.A (call (.ref f) us) (EP X pins σ Q) X.xe s:=by
  have r2:aS (vs++dvs) (us++ds):=r.append hd
  have hl:(us++ds).length=ps.length:=by rw [←r2.length];exact F.len _ _ _ _ h
  refine wpAny_call (codeAny_mono (F.run X.A X.stack s H ⟨us,[]⟩ (us++ds) (vs++dvs) Q E hr I.env0 (hb s us I.kIn hl) r2 h) fun r s' hq=>?_)
  cases r with
  | error e=>exact hx pins σ H s e s' I hq
  | ok fl=>
    cases fl with
    | ret u=>exact I.after hq
    | next=>exact False.elim hq
    | brk=>exact False.elim hq
    | cont=>exact False.elim hq
theorem zh(F:aC X.prog X.w X.K X.mg X.base CX k f fd ps sp)(hr:cZ k X.A)(hg:Gl X x)(hm:X.mg x=some (.ref f))(hk:PySem.W.keepIn X.K (.ref f)=true)(hb:m9 X.K fd ps ds)(hd:aS dvs ds)(hx:rf CX X E)
    (ha:PA X (e::es) t)(hdb:(x==("__debug__":Str))=false:=by decide)(he:starEach (e::es) X.env=(false,eval e X.env)::starEach es X.env:=by rfl)(hpl:(backTo pos (starEach es X.env)).any (·.1)=false:=by rfl):
    PE X (.Call (.Name x p) (e::es) [] pos) (xX sp dvs E t):=by
  intro pins s σ H Q I h
  refine wpAny_Call_Name_kw (sW I hg hm ?_ hdb)
  refine PySem.W.callWith_K (h₀:=X.base) I.ok.mod.kin hk (cP (ha pos pins s σ H _ I h) fun us s1 ⟨vs,H1,I1,r,q⟩=>⟨I1.kIn,?_⟩) he hpl
  exact Ce F hr hb hd hx I1 r q
structure Mk (K:PySem.W.Frag) (C f:Addr):Prop where
  makes:PySem.W.makesIn K C=true
  init:PySem.W.findIn K (.ref C) "__init__"=some (some (.ref f))
  fn:PySem.W.isFn K (.ref f)=true
  kp:PySem.W.keepIn K (.ref C)=true
end
section
variable{X:Cx}{CX:tZ}{k:Nat}{f C:Addr}{fd:FuncData}{ps ks:List Str}{sp:Sp}{E:XK}{x m:Str}{p pos apos kpos:Pos}{e o:Expr}{es:List Expr}{kws:List Keyword}{te ta:TE}{t tk:TA}{nm:Option Str}
structure EF (K:PySem.W.Frag) (fd:FuncData) (ps ks:List Str) (g:List Value→List Value→List Value) (gV:List V→List V→List V):Prop where
  to:∀(s:Shared) (us ws:List Value),K.In s.heap→(g us ws).length=ps.length→BindsTo s fd ⟨us,ks.zip ws⟩ (ps.zip (g us ws))
  rel:∀{vs:List V} {us:List Value} {zs:List V} {ws:List Value},aS vs us→aS zs ws→aS (gV vs zs) (g us ws)
variable{g:List Value→List Value→List Value}{gV:List V→List V→List V}
end
structure ay (N P:List Str) (sc:Scope):Prop where
  kind:sc.kind=.function
  co:sc.isCoroutine=false
  gen:sc.isGenerator=false
  nd:N.Nodup
  pre:N.take P.length=P
  par:∀x∈P,sc.names.lookup x=some .local∨sc.names.lookup x=some .cell
  nofree:∀y∈sc.names,y.2≠.free
theorem ni{kindOf:Str→Option NameKind}{x:Str}:∀{binds:List (Str × Value)} {m:Str→Option Value},(∀v,(x,v)∉binds)→bindL kindOf binds m x=m x
  | [],_,_=>rfl
  | (n,v)::r,m,h=>by
    unfold bindL
    rw [ni fun w hw=>h w (List.mem_cons_of_mem _ hw)]
    split
    · have:x≠n:=by rintro rfl;exact h v List.mem_cons_self
      simp [this]
    · rfl
theorem ng{kindOf:Str→Option NameKind}{x:Str}:∀{binds:List (Str × Value)} {m:Str→Option Value},(∀v,(x,v)∉binds)→bindC kindOf binds m x=m x
  | [],_,_=>rfl
  | (n,v)::r,m,h=>by
    unfold bindC
    rw [ng fun w hw=>h w (List.mem_cons_of_mem _ hw)]
    split
    · rfl
    · have:x≠n:=by rintro rfl;exact h v List.mem_cons_self
      simp [this]
theorem nh{kindOf:Str→Option NameKind}{x:Str}{v:Value}:∀{P:List Str} {vs:List Value} {i:Nat} {m:Str→Option Value},P.Nodup→P[i]?=some x→vs[i]?=some v→kindOf x=some .local→
    bindL kindOf (P.zip vs) m x=some v
  | [],_,_,_,_,h,_,_=>by simp at h
  | _::_,[],_,_,_,_,h,_=>by simp at h
  | p::P,w::vs,0,m,nd,h1,h2,hk=>by
    simp at h1 h2;subst h1;subst h2
    show bindL kindOf ((p,w)::P.zip vs) m p=_
    unfold bindL
    rw [ni fun v hv=>(List.nodup_cons.mp nd).1 (List.of_mem_zip hv).1,if_pos hk]
    simp
  | p::P,w::vs,i+1,m,nd,h1,h2,hk=>by
    show bindL kindOf ((p,w)::P.zip vs) m x=_
    unfold bindL
    exact nh (i:=i) (List.nodup_cons.mp nd).2 (by simpa using h1) (by simpa using h2) hk
theorem m_{kindOf:Str→Option NameKind}{x:Str}{v:Value}:∀{P:List Str} {vs:List Value} {i:Nat} {m:Str→Option Value},P.Nodup→P[i]?=some x→vs[i]?=some v→kindOf x≠some .local→
    bindC kindOf (P.zip vs) m x=some v
  | [],_,_,_,_,h,_,_=>by simp at h
  | _::_,[],_,_,_,_,h,_=>by simp at h
  | p::P,w::vs,0,m,nd,h1,h2,hk=>by
    simp at h1 h2;subst h1;subst h2
    show bindC kindOf ((p,w)::P.zip vs) m p=_
    unfold bindC
    rw [ng fun v hv=>(List.nodup_cons.mp nd).1 (List.of_mem_zip hv).1,if_neg hk]
    simp
  | p::P,w::vs,i+1,m,nd,h1,h2,hk=>by
    show bindC kindOf ((p,w)::P.zip vs) m x=_
    unfold bindC
    exact m_ (i:=i) (List.nodup_cons.mp nd).2 (by simpa using h1) (by simpa using h2) hk
def ii(N:List Str)(vs:List V):St:=vs.map some++List.replicate (N.length - vs.length) none
def rm(CX:tZ)(P:Program)(w:World)(K:PySem.W.Frag)(mg:Str→Option Value)(base:Heap)(N:List Str)(qual:Str)(scope:Scope)(f:Addr)(cd:Value)(A:Around)(outer:List Env)(s:Shared)(H:Hp)(E:XK):Cx where
  prog:=P
  w:=w
  K:=K
  mg:=mg
  base:=base
  A:=A.deeper (envOfC qual scope s.heap.objs.size f cd)
  N:=N
  s₀:=s
  H₀:=H
  env:=envOfC qual scope s.heap.objs.size f cd
  outer:=outer
  stack:=envOfC qual scope s.heap.objs.size f cd::outer
  ex:=[]
  calm:=true
  fn:=fun _=>true
  pn:=[]
  xe:=fun e s'=>wpAny (model P w) (A.deeper (envOfC qual scope s.heap.objs.size f cd)) (leaving (envOfC qual scope s.heap.objs.size f cd) e) (fun _ s''=>CX outer H s E e s'') (fun e' s''=>CX outer H s E e' s'') s'
theorem pV{sc:Scope}{n:Nat}{x:Str}(h:sc.names.lookup x=some .cell):∃c,(cellsFrom n sc.names []).lookup x=some c:=by
  have q:=PySem.W.cellsFrom_some sc.names n [] (.inl h)
  exact Option.isSome_iff_exists.mp q
theorem uq{CX:tZ}{P:Program}{w:World}{K:PySem.W.Frag}{mg:Str→Option Value}{base:Heap}{N ps:List Str}{qual:Str}{scope:Scope}{f:Addr}{cd:Value}{A:Around}{outer:List Env}{s s1:Shared}{H:Hp}{E:XK}{us:List Value}{vs:List V}
    (S:ay N ps scope)(hd:A.handled=none)(e0:yo P w K mg base A outer s H)(hl:vs.length=ps.length)(r:aS vs us)
    (x:InCallC s s.heap.objs.size (bindL (envOfC qual scope s.heap.objs.size f cd).kindOf (ps.zip us) fun _=>none) (cellsFrom (s.heap.objs.size+1) scope.names []) (bindC (envOfC qual scope s.heap.objs.size f cd).kindOf (ps.zip us) fun _=>none) s1):
    aF (rm CX P w K mg base N qual scope f cd A outer s H E) [] (ii N vs) H s1:=by
  have hpl:ps.length≤N.length:=by have:=congrArg List.length S.pre;rw [List.length_take] at this;lia
  obtain⟨h1,tk,rfl,hk⟩:=x.done
  have noA:∀b:Addr,b∉(rm CX P w K mg base N qual scope f cd A outer s H E).ex:=fun b z=>absurd (show b∈([]:List Addr) from z) (by simp)
  refine⟨⟨e0.mod,S.kind,rfl,rfl,Nat.le_refl _,fun y z c h1 h2=>?_,fun y hy=>?_,fun y c _ h=>?_,fun _=>hd,Around.frames_deeper e0.frames,.inr ⟨rfl,rfl⟩,fun b z=>absurd z (noA b),e0.bs,e0.bsz,fun b _ _=>noA b,fun b z=>absurd z (noA b),e0.funs,e0.frf⟩,
    rfl,e0.bare,Un.kept hk,⟨_,x.toInCall.ns,fun i y v h1 h2 h3=>?_⟩,fun y c h=>⟨_,x.cell y c h⟩,e0.hok.fresh (Nat.le_refl _),fun y c h=>?_,fun p hp=>absurd (show p∈([]:List (Addr × Obj)) from hp) (by simp),e0.hok.kept hk,?_⟩
  · exact name_of_addr x.apart (PySem.mem_of_lookup h1) (PySem.mem_of_lookup h2)
  · have hy:scope.names.lookup y=some .cell∨scope.names.lookup y=some .free:=hy
    rcases hy with hy | hy
    · exact pV hy
    · exact absurd rfl (S.nofree _ (PySem.mem_of_lookup hy))
  · exact Nat.le_of_lt (x.above y c (PySem.mem_of_lookup h))
  · have hi:i < vs.length:=by
      unfold ii at h2
      by_cases hi:i < vs.length
      · exact hi
      · rw [List.getElem?_append_right (by simpa using hi)] at h2
        rw [List.getElem?_replicate] at h2
        split at h2<;>cases h2
    have ha:vs[i]?=some v:=by
      unfold ii at h2
      rw [List.getElem?_append_left (by simpa using hi),List.getElem?_map] at h2
      cases e:vs[i]? with
      | none=>rw [e] at h2;cases h2
      | some a=>rw [e] at h2;cases h2;rfl
    obtain⟨u,hu,rv⟩:=r.get ha
    have hp:ps[i]?=some y:=by
      rw [←S.pre,List.getElem?_take_of_lt (by lia)];exact h1
    have ndP:ps.Nodup:=by rw [←S.pre];exact S.nd.sublist (List.take_sublist _ _)
    refine⟨u,rv,?_⟩
    rcases S.par y (List.mem_of_getElem? hp) with k | k
    · exact .inl ⟨k,nh ndP hp hu k⟩
    · obtain⟨c,e⟩:=pV (n:=s.heap.objs.size+1) k
      refine .inr ⟨.inl k,c,e,?_⟩
      have q:=x.cell y c e
      rw [m_ ndP hp hu (by show scope.names.lookup y≠_;rw [k];decide)] at q
      exact q
  · exact e0.hok.fresh (Nat.le_of_lt (x.above y c (PySem.mem_of_lookup h)))
  · unfold ii
    show _=N.length
    rw [List.length_append,List.length_map,List.length_replicate]
    lia
theorem C_{CX:tZ}{P:Program}{w:World}{K:PySem.W.Frag}{mg:Str→Option Value}{base:Heap}{k:Nat}{f:Addr}{name qual:Str}{params:Arguments}{body:List Stmt}{scope:Scope}{dV kV doc pm cdv ct oc:Value}{an od:Option Addr}
    {osl:Array (Option Value)}{N ps:List Str}{sp:Sp}(lk:K.lookup f=some ⟨oc,od,.func (PySem.W.fnOf name qual params body scope dV kV doc pm an cdv ct),osl⟩)(hcd:PySem.W.codeIn K cdv qual=true)(S:ay N ps scope)
    (len:∀vs H Q E,sp vs H Q E→vs.length=ps.length)
    (hbody:∀(A:Around) (outer:List Env) (s:Shared) (H:Hp) (vs:List V) (Q:VK) (E:XK),cZ k (A.deeper (envOfC qual scope s.heap.objs.size f cdv))→sp vs H Q E→
      ∃t,lj (rm CX P w K mg base N qual scope f cdv A outer s H E) body t∧t {nx:=fun _ H'=>Q .non H',rt:=Q} (ii N vs) H):
    aC P w K mg base CX (k+1) f (PySem.W.fnOf name qual params body scope dV kV doc pm an cdv ct) ps sp:=by
  refine⟨len,fun A outer s H args us vs Q E hr e0 hb r hsp=>?_⟩
  have hl:=len _ _ _ _ hsp
  have KX:K.In s.heap:=e0.mod.kin.keeps fun b o e=>(e0.bs b o e).1
  have lim:s.heap.NoLimit:=e0.mod.nolimit.keeps fun b o e=>(e0.bs b o e).1
  have hkind:∀y∈ps.zip us,scope.names.lookup y.1=some .local∨(scope.names.lookup y.1=some .cell∧((cellsFrom (s.heap.objs.size+1) scope.names []).lookup y.1).isSome=true):=fun⟨n,v⟩ hy=>by
    rcases S.par n (List.of_mem_zip hy).1 with q | q
    · exact .inl q
    · exact .inr ⟨q,PySem.W.cellsFrom_some _ _ _ (.inl q)⟩
  refine codeAny_call_function hr.depth (KX _ _ lk) rfl S.co S.gen rfl (PySem.W.codeRec_of KX hcd) (hb _ _ _ _ ?_)
  refine wpAny_newFunctionEnv_cells S.kind hkind fun env he s1 x=>?_
  subst he
  refine⟨lim.keeps x.toInCall.keep,codeAny_func ?_⟩
  obtain⟨t,ht,hq⟩:=hbody A outer s H vs Q E (hr.deeper _) hsp
  have I:aF (rm CX P w K mg base N qual scope f cdv A outer s H E) [] (ii N vs) H s1:=uq S hr.hd e0 hl r x
  refine wpAny_mono (ht [] s1 (ii N vs) H _ I hq) (fun fl s' hs=>?_) fun e s' hs=>hs
  have fin:∀{σ':St} {H':Hp} {v:V} {u:Value},aF (rm CX P w K mg base N qual scope f cdv A outer s H E) [] σ' H' s'→bD v u→Q v H'→CE outer P w H s Q u s':=
    fun{σ' H' v u} J rv q=>⟨v,H',J.os,J.bare,J.base,J.hok,rv,q⟩
  cases fl with
  | ret u=>
    obtain⟨v,σ',H',J,rv,q⟩:=hs
    exact fin J rv q
  | next=>
    obtain⟨σ',H',J,q⟩:=hs
    exact fin (v:=V.non) (u:=Value.none) J rfl q
  | brk=>
    obtain⟨_,_,_,q⟩:=hs
    exact False.elim q
  | cont=>
    obtain⟨_,_,_,q⟩:=hs
    exact False.elim q
end L2
namespace L2
open PySem PySem.Spec PyProof.Rows
section
variable{X:Cx}{x:Str}{p pos:Pos}{e:Expr}{es:List Expr}{t:TA}{id T:String}{r:List V→Hp→VK→Prop}
def Fd(r:List V→Hp→VK→Prop)(t:TA):TE:=fun σ H Q=>t σ H fun vs H1=>r vs H1 Q
theorem qh(hc:et X (.builtin id) r)(hg:Gl X x)(hm:X.mg x=none)(hv:bootBuiltins x=some (.builtin id))(ha:PA X (e::es) t)(hn:x≠"__name__":=by decide)(hdb:(x==("__debug__":Str))=false:=by decide)
    (he:starEach (e::es) X.env=(false,eval e X.env)::starEach es X.env:=by rfl)(hpl:(backTo pos (starEach es X.env)).any (·.1)=false:=by rfl):PE X (.Call (.Name x p) (e::es) [] pos) (Fd r t):=by
  intro pins s σ H Q I h
  refine wpAny_Call_Name_kw (iB I hg hm hv ?_ hn hdb)
  exact PyProof.Rows.callWith_builtin1 (cP (ha pos pins s σ H _ I h) fun us s1 ⟨vs,H1,I1,r1,q1⟩=>hc pins s1 σ H1 vs us Q I1 r1 q1) he hpl
theorem uJ(hc:et X (.type T) r)(hg:Gl X x)(hm:X.mg x=none)(hv:bootBuiltins x=some (.type T))(ha:PA X (e::es) t)(hn:x≠"__name__":=by decide)(hdb:(x==("__debug__":Str))=false:=by decide)
    (he:starEach (e::es) X.env=(false,eval e X.env)::starEach es X.env:=by rfl)(hpl:(backTo pos (starEach es X.env)).any (·.1)=false:=by rfl):PE X (.Call (.Name x p) (e::es) [] pos) (Fd r t):=by
  intro pins s σ H Q I h
  refine wpAny_Call_Name_kw (iB I hg hm hv ?_ hn hdb)
  exact PyProof.Rows.callWith_type1 (cP (ha pos pins s σ H _ I h) fun us s1 ⟨vs,H1,I1,r1,q1⟩=>hc pins s1 σ H1 vs us Q I1 r1 q1) he hpl
end
end L2
namespace HT
open PySem PyProof.Rows
section
open PySem.SeqAt
open PySem.AutoSeq1 (wpAny_loadPart')
open PySem.MeetsSeq PySem.MeetsSeq2 PySem.MeetsSeq3
end
section
variable{prog:Program}{w:World}{A:Around}{E:Value→Shared→Prop}{s:Shared}
theorem cat_tup{t b:Addr}{vs ws:List Value}{Q:Value→Shared→Prop}(ht:IsTup s.heap t vs.toArray)(hb:IsTup s.heap b ws.toArray)(hv:vs≠[])
    (h1:ws=[]→Q (.ref t) s)(h2:ws≠[]→Q (.ref s.heap.objs.size) {s with heap:=s.heap.push {cls:=.type "tuple",data:=.seq (vs++ws).toArray}})
    (hsz:vs.length+ws.length≤sizeLine):wpAny (model prog w) A (binaryOp .Add (.ref t) (.ref b)) Q E s:=by
  obtain⟨⟨cls,dd,data,sl⟩,ho,hc,n,hd⟩:=id ht
  obtain⟨⟨cls2,dd2,data2,sl2⟩,ho2,hc2,n2,hd2⟩:=id hb
  simp only at hc hd hc2 hd2
  subst hc hd hc2 hd2
  have e:vs.toArray++ws.toArray=(vs++ws).toArray:=by simp
  by_cases hw:ws=[]
  · exact concat_meets ⟨_,ho,rfl⟩ ⟨_,ho2,rfl⟩ noFill_tuple_add seq_tuple_add PySem.F.slot_tuple_add PySem.F.entry_tuple_add (PySem.F.args_tuple_add_2 _ _)
      (tuple_addW1 t b vs.toArray ws.toArray n n2 dd dd2 sl sl2 (by simpa using hv) (by simp [hw])) ⟨ho,ho2,h1 hw⟩
  · refine concat_meets ⟨_,ho,rfl⟩ ⟨_,ho2,rfl⟩ noFill_tuple_add seq_tuple_add PySem.F.slot_tuple_add PySem.F.entry_tuple_add (PySem.F.args_tuple_add_2 _ _)
      (tuple_addW2 t b vs.toArray ws.toArray n n2 dd dd2 sl sl2 (by simpa using hv) (by simpa using hw) (by rw [List.size_toArray,List.size_toArray];exact hsz)) ⟨ho,ho2,?_⟩
    rw [e]
    exact h2 hw
def sIx(n d:Nat):Option Int→Nat
  | none=>d
  | some v=>if v < 0 then(v+(n:Int)).toNat else min v.toNat n
theorem Cf(n d:Nat)(hd:d≤n)(o:Option Int):sIx n d o≤n:=by
  cases o with
  | none=>exact hd
  | some v=>
    show(if v < 0 then(v+(n:Int)).toNat else min v.toNat n)≤n
    by_cases hv:v < 0
    · rw [if_pos hv];lia
    · rw [if_neg hv];exact Nat.min_le_right _ _
theorem sR(v:Int)(n d:Nat):(if v < 0 then max (v+(n:Int)) 0 else min v (n:Int))=((sIx n d (some v):Nat):Int):=by
  show(if v < 0 then max (v+(n:Int)) 0 else min v (n:Int))=(((if v < 0 then(v+(n:Int)).toNat else min v.toNat n):Nat):Int)
  by_cases hv:v < 0
  · simp only [if_pos hv];lia
  · simp only [if_neg hv];lia
theorem rg(lo hi:Option Int)(n:Nat):Builtin.Slice.sliceAdjust lo hi 1 (n:Int)=(((sIx n 0 lo:Nat):Int),((sIx n n hi:Nat):Int)):=by
  have h1:¬((1:Int) < 0):=by lia
  unfold Builtin.Slice.sliceAdjust
  simp only [h1,if_false]
  refine Prod.ext ?_ ?_
  · cases lo with
    | none=>rfl
    | some v=>exact sR v n 0
  · cases hi with
    | none=>rfl
    | some v=>exact sR v n n
theorem rQ(i j:Nat):Builtin.Slice.slicePlaces (i:Int) (j:Int) 1=j - i:=by
  unfold Builtin.Slice.slicePlaces
  have h1:(1:Int) > 0:=by lia
  simp only [h1,if_true,Int.ediv_one]
  split<;>lia
theorem mK{v:Value}{o:Option Int}{Q:Option Int→Shared→Prop}(p:IsPart v o)(h:Q o s):wpAny (model prog w) A (Builtin.Slice.slicePartIndex v) Q E s:=by
  cases p with
  | none=>exact slicePart_none h
  | int i t=>exact slicePart_int h
theorem gG{sl:Addr}{vl vu:Value}{lo hi:Option Int}{n:Nat}{Q:Int × Int × Nat→Shared→Prop}(hs:s.heap.IsSliceOf sl vl vu .none)(pl:IsPart vl lo)(pu:IsPart vu hi)
    (h:Q (((sIx n 0 lo:Nat):Int),1,sIx n n hi - sIx n 0 lo) s):wpAny (model prog w) A (Builtin.Slice.sliceApplied (.ref sl) (pure (n:Int))) Q E s:=by
  obtain⟨os,hos,hcs,hds⟩:=id hs
  unfold Builtin.Slice.sliceApplied Builtin.Slice.sliceFields
  refine wpAny_bind (wpAny_bind (wpAny_field hos hds (x:=vl) rfl (wpAny_bind (wpAny_field hos hds (x:=vu) rfl (wpAny_bind (wpAny_field hos hds (x:=.none) rfl (wpAny_pure ?_)))))))
  refine wpAny_bind (slicePart_none ?_)
  show wpAny _ _ (if ((1:Int)==0)=true then _ else _) _ _ s
  rw [if_neg (by decide)]
  refine wpAny_bind (mK pl (wpAny_bind (mK pu (wpAny_bind (wpAny_pure ?_)))))
  show wpAny _ _ (match Builtin.Slice.sliceAdjust lo hi 1 (n:Int) with | (lo,hi)=>pure (lo,(1:Int),Builtin.Slice.slicePlaces lo hi 1)) _ _ s
  rw [rg lo hi n]
  show wpAny _ _ (pure (((sIx n 0 lo:Nat):Int),(1:Int),Builtin.Slice.slicePlaces ((sIx n 0 lo:Nat):Int) ((sIx n n hi:Nat):Int) 1)) _ _ s
  rw [rQ]
  exact wpAny_pure h
theorem xg(xs:Array Value)(i k:Nat):((List.range k).filterMap fun(m:Nat)=>xs[((i:Int)+(m:Int)*1).toNat]?).toArray=((xs.toList.drop i).take k).toArray:=by
  have e:(fun(m:Nat)=>xs[((i:Int)+(m:Int)*1).toNat]?)=fun m=>xs[i+m]?:=by
    funext m
    have:((i:Int)+(m:Int)*1).toNat=i+m:=by lia
    rw [this]
  rw [e]
  have:=pick_run xs i k
  rw [List.filterMap_map] at this
  have e2:((fun x=>xs[x]?) ∘ fun x=>i+x)=fun m=>xs[i+m]?:=rfl
  rw [e2] at this
  rw [this]
theorem getItem_tuple_cut{t sl:Addr}{items:Array Value}{vl vu:Value}{lo hi:Option Int}{Q:Value→Shared→Prop}(ht:IsTup s.heap t items)(hs:s.heap.IsSliceOf sl vl vu .none)(pl:IsPart vl lo)(pu:IsPart vu hi)
    (hw:¬(sIx items.size 0 lo=0∧sIx items.size items.size hi=items.size))
    (h:Q (.ref s.heap.objs.size) {s with heap:=s.heap.push {cls:=.type "tuple",data:=.seq ((items.toList.drop (sIx items.size 0 lo)).take (sIx items.size items.size hi - sIx items.size 0 lo)).toArray}})
    (hsz:items.size≤sizeLine):wpAny (model prog w) A (getItem (.ref t) (.ref sl)) Q E s:=by
  have htake:sizeOk (.seq ((items.toList.drop (sIx items.size 0 lo)).take (sIx items.size items.size hi - sIx items.size 0 lo)).toArray):=by
    show((items.toList.drop (sIx items.size 0 lo)).take (sIx items.size items.size hi - sIx items.size 0 lo)).toArray.size≤sizeLine
    rw [List.size_toArray,List.length_take,List.length_drop,Array.length_toList]
    lia
  have hj:sIx items.size items.size hi≤items.size:=Cf _ _ (Nat.le_refl _) hi
  obtain⟨os,hos,hcs,hds⟩:=id hs
  have hTs:s.TypeIs (.ref sl) "slice":=⟨os,hos,hcs⟩
  unfold getItem
  try with_reducible refine wpAny_holding ?_
  first | refine wpAny_bind (wpAny_pure ?_) | skip
  refine wpAny_bind (wpAny_sequenceKey ht.typeIs (by decide) ?_)
  refine wpAny_bind (wpAny_callSpecial?_slot (name:=Str.ofString "__getitem__") ht.typeIs PyProof.Rows.slot_tuple_getitem
    (wpAny_call_entry PyProof.Rows.slot_tuple_getitem ht.typeIs entry_tuple_getitem ?_ (args_tuple_getitem _ _)))
  show wpAny _ _ (Builtin.Tuple.tupleItemsOf (.ref t) >>= _) _ _ s
  refine wpAny_bind (tupleItemsOf_ ht ?_)
  refine wpAny_bind (wpAny_typeOf hTs ?_)
  rw [if_pos (by decide)]
  refine wpAny_bind (gG hs pl pu ?_)
  have hno:¬((((sIx items.size 0 lo:Nat):Int)==0&&(1:Int)==1&&(sIx items.size items.size hi - sIx items.size 0 lo)==items.size)=true):=by
    intro q
    rw [Bool.and_eq_true,Bool.and_eq_true] at q
    have q1:((sIx items.size 0 lo:Nat):Int)=0:=eq_of_beq q.1.1
    have q2:sIx items.size items.size hi - sIx items.size 0 lo=items.size:=eq_of_beq q.2
    exact hw ⟨by lia,by lia⟩
  show wpAny _ _ (if (((sIx items.size 0 lo:Nat):Int)==0&&(1:Int)==1&&(sIx items.size items.size hi - sIx items.size 0 lo)==items.size)=true then _ else _) _ _ s
  rw [if_neg hno,xg]
  first
    | exact wpAny_bind (m:=Builtin.Tuple.tupleExact _) (wpAny_newObj_type (wpAny_pure ⟨_,rfl,wpAny_pure h⟩) htake)
    | exact wpAny_bind (m:=Builtin.Tuple.tupleExact _) (wpAny_newObj_type (wpAny_bind (wpAny_pure (wpAny_pure ⟨_,rfl,wpAny_pure h⟩))) htake)
    | exact wpAny_bind (wpAny_bind (m:=Builtin.Tuple.tupleExact _) (wpAny_newObj_type (wpAny_pure (wpAny_pure ⟨_,rfl,wpAny_pure h⟩)) htake))
    | exact wpAny_bind (wpAny_bind (m:=Builtin.Tuple.tupleExact _) (wpAny_newObj_type (wpAny_pure ⟨_,rfl,wpAny_pure h⟩) htake))
end
end HT
namespace L2
open PySem PySem.Spec PyProof.Rows
abbrev TO:=St→Hp→(Option Int→Hp→Prop)→Prop
def PO(X:Cx)(e:Option Expr)(t:TO):Prop:=
  ∀(pins:List (Addr × Obj)) (s:Shared) (σ:St) (H:Hp) (Q:Option Int→Hp→Prop),aF X pins σ H s→t σ H Q→
    wpAny (model X.prog X.w) X.A (evalPart e X.env) (fun u s'=>∃o H',aF X pins σ H' s'∧IsPart u o∧Q o H') X.xe s
def zR:TO:=fun _ H Q=>Q none H
def Ef(t:TE):TO:=fun σ H Q=>t σ H fun x H1=>∃i,x=.int i∧Q (some i) H1
section
variable{X:Cx}{e:Expr}{te:TE}{lo hi:Option Expr}{tl th:TO}{pos p2:Pos}
theorem zw:PO X none zR:=by
  intro pins s σ H Q I h
  rw [evalPart_none]
  exact wpAny_pure ⟨none,H,I,.none,h⟩
theorem zx(h:PE X e te):PO X (some e) (Ef te):=by
  intro pins s σ H Q I hw
  rw [evalPart_some]
  refine cP (h pins s σ H _ I hw) fun u s1 ⟨x,H1,I1,r1,q1⟩=>?_
  obtain⟨i,rfl,q⟩:=q1
  obtain⟨t,rfl⟩:=r1
  exact⟨some i,H1,I1,.int i t,q⟩
def yq(X:Cx)(r:V→Option Int→Option Int→Hp→VK→Prop):Prop:=
  ∀(pins:List (Addr × Obj)) (s:Shared) (σ:St) (H:Hp) (x:V) (v vl vu:Value) (lo hi:Option Int) (sl:Addr) (Q:VK),aF X pins σ H s→bD x v→s.heap.IsSliceOf sl vl vu .none→IsPart vl lo→IsPart vu hi→r x lo hi H Q→
    ∃T id,typeLookup (.type T) "__getitem__"=pure (some (.builtin id))∧s.TypeIs v T∧wpAny (model X.prog X.w) X.A (getItem v (.ref sl)) (EP X pins σ Q) X.xe s
theorem yq.or{r r':V→Option Int→Option Int→Hp→VK→Prop}(h:yq X r)(h':yq X r'):yq X (fun x lo hi H Q=>r x lo hi H Q∨r' x lo hi H Q):=by
  intro pins s σ H x v vl vu lo hi sl Q I rx hs pl pu q
  rcases q with q | q
  · exact h pins s σ H x v vl vu lo hi sl Q I rx hs pl pu q
  · exact h' pins s σ H x v vl vu lo hi sl Q I rx hs pl pu q
def Gd(r:V→Option Int→Option Int→Hp→VK→Prop)(te:TE)(tl th:TO):TE:=fun σ H Q=>te σ H fun x H1=>tl σ H1 fun l H2=>th σ H2 fun u H3=>r x l u H3 Q
theorem wY{r:V→Option Int→Option Int→Hp→VK→Prop}(hr:yq X r)(he:PE X e te)(hl:PO X lo tl)(hu:PO X hi th):PE X (.Subscript e (.Slice lo hi none p2) pos) (Gd r te tl th):=by
  intro pins s σ H Q I h
  refine Subscript_ (cP (he pins s σ H _ I h) fun v s1 ⟨x,H1,I1,r1,q1⟩=>?_)
  refine wpAny_Slice (cP (hl pins s1 σ H1 _ I1 q1) fun vl s2 ⟨l,H2,I2,pl,q2⟩=>cP (hu pins s2 σ H2 _ I2 q2) fun vu s3 ⟨u,H3,I3,pu,q3⟩=>?_)
  rw [evalPart_none]
  refine wpAny_pure ?_
  have I4:aF X pins σ H3 {s3 with heap:=s3.heap.push {cls:=.type "slice",data:=.fields #[vl,vu,.none]}}:=I3.kept (t':=s3.toks) fun b ob q=>Heap.get?_push_of_some _ q
  obtain⟨T,id,hT,ht,hg⟩:=hr pins {s3 with heap:=s3.heap.push {cls:=.type "slice",data:=.fields #[vl,vu,.none]}} σ H3 x v vl vu l u s3.heap.objs.size Q I4 r1 (Heap.IsSliceOf.new ..) pl pu q3
  show wpAny (model X.prog X.w) X.A (subscriptTail e (.Slice lo hi none p2) v (.ref s3.heap.objs.size)) (EP X pins σ Q) X.xe {s3 with heap:=s3.heap.push {cls:=.type "slice",data:=.fields #[vl,vu,.none]}}
  exact tail_any (ops:=[.ref s3.heap.objs.size,v]) ht hT hg (by with_unfolding_all rfl)
def mZ(xs:List V)(lo hi:Option Int):List V:=(xs.drop (HT.sIx xs.length 0 lo)).take (HT.sIx xs.length xs.length hi - HT.sIx xs.length 0 lo)
theorem k9(xs:List V)(lo hi:Option Int):(mZ xs lo hi).length≤xs.length:=by
  unfold mZ
  rw [List.length_take,List.length_drop]
  lia
def DY(K:PySem.W.Frag):V→Option Int→Option Int→Hp→VK→Prop:=fun x lo hi H Q=>∃a xs,x=.ref a∧cD K H a xs∧
  ¬(HT.sIx xs.length 0 lo=0∧HT.sIx xs.length xs.length hi=xs.length)∧∀p,H p=none→Q (.ref p) (a_ H p (.tup (mZ xs lo hi)))
theorem Ci:yq X (DY X.K):=by
  intro pins s σ H x v vl vu lo hi sl Q I rx hs pl pu h
  obtain⟨a,xs,rfl,hx,hw,q⟩:=h
  cases rx
  obtain⟨its,r,ht,hz⟩:=I.tuple hx
  have hlen:its.toArray.size=xs.length:=by rw [List.size_toArray];exact r.length.symm
  refine⟨"tuple",_,PyProof.Rows.slot_tuple_getitem.lookup,ht.typeIs,?_⟩
  refine HT.getItem_tuple_cut ht hs pl pu (by rw [hlen];exact hw) ?_ (by rw [hlen];exact hz)
  rw [hlen]
  refine⟨.ref s.heap.objs.size,_,I.laid (t':=s.toks) (o:=.tup (mZ xs lo hi)) (fun b ob q=>Heap.get?_push_of_some _ q) (Nat.le_refl _) ?_,rfl,q _ (I.hok.fresh (Nat.le_refl _))⟩
  exact⟨Nat.le_trans (k9 xs lo hi) hz,_,(r.drop (HT.sIx xs.length 0 lo)).take (HT.sIx xs.length xs.length hi - HT.sIx xs.length 0 lo),ke.new _ _⟩
def DQ(K:PySem.W.Frag):R2:=fun x y H Q=>∃a b xs ys,x=.ref a∧y=.ref b∧cD K H a xs∧cD K H b ys∧xs≠[]∧xs.length+ys.length≤sizeLine∧
  (ys=[]→Q (.ref a) H)∧(ys≠[]→∀p,H p=none→Q (.ref p) (a_ H p (.tup (xs++ys))))
theorem aS.nil_iff{xs:List V}{us:List Value}(r:aS xs us):us=[]↔ xs=[]:=by
  cases r with
  | nil=>simp
  | cons _ _=>simp
theorem y8:fV X (binaryOp .Add) (DQ X.K):=by
  intro pins s σ H x y v u Q I rx ry h
  obtain⟨a,b,xs,ys,rfl,rfl,ha,hb,hx,hz,q1,q2⟩:=h
  cases rx
  cases ry
  obtain⟨its,r1,p1,_⟩:=I.tuple ha
  obtain⟨its2,r2,p2,_⟩:=I.tuple hb
  refine HT.cat_tup p1 p2 (fun z=>hx (r1.nil_iff.mp z)) (fun z=>⟨.ref a,H,I,rfl,q1 (r2.nil_iff.mp z)⟩) (fun z=>?_) (by rw [←r1.length,←r2.length];exact hz)
  refine⟨.ref s.heap.objs.size,_,I.laid (t':=s.toks) (o:=.tup (xs++ys)) (fun b ob q=>Heap.get?_push_of_some _ q) (Nat.le_refl _) ?_,rfl,q2 (fun w=>z (r2.nil_iff.mpr w)) _ (I.hok.fresh (Nat.le_refl _))⟩
  exact⟨by rw [List.length_append];exact hz,_,r1.append r2,ke.new _ _⟩
end
end L2
namespace L2
open PySem PySem.Spec PyProof.Rows
def Dn(n:Nat)(i:Int):Option Nat:=if 0≤i then(if i < n then some i.toNat else none) else if -(n:Int)≤i then some (i+n).toNat else none
def atI{α:Type}(xs:List α)(i:Int):Option α:=(Dn xs.length i).bind fun j=>xs[j]?
theorem yJ{n:Nat}{i:Int}{j:Nat}(h:Dn n i=some j):seqIndex? i n=some j∧j < n∧ -(n:Int)≤i∧i < n:=by
  unfold Dn at h
  by_cases h0:0≤i
  · rw [if_pos h0] at h
    by_cases h1:i < n
    · rw [if_pos h1] at h
      have e:i.toNat=j:=Option.some.inj h
      exact⟨by rw [seqIndex_of h0 h1,e],by lia,by lia,h1⟩
    · rw [if_neg h1] at h;cases h
  · rw [if_neg h0] at h
    by_cases h1: -(n:Int)≤i
    · rw [if_pos h1] at h
      have e:(i+n).toNat=j:=Option.some.inj h
      exact⟨by rw [seqIndex_neg (by lia) h1,e],by lia,h1,by lia⟩
    · rw [if_neg h1] at h;cases h
theorem sE{α:Type}{xs:List α}{i:Int}{v:α}(h:atI xs i=some v):∃j,seqIndex? i xs.length=some j∧xs[j]?=some v∧j < xs.length∧ -(xs.length:Int)≤i∧i < xs.length:=by
  unfold atI at h
  cases e:Dn xs.length i with
  | none=>rw [e] at h;cases h
  | some j=>
    rw [e] at h
    obtain⟨h1,h2,h3,h4⟩:=yJ e
    exact⟨j,h1,h,h2,h3,h4⟩
def oq(b:Expr):Prop:=∀o i,subscripted b false o i=operate [o,i] (getItem o i)
def yp(X:Cx)(r:R2):Prop:=
  ∀(value slice:Expr) (pins:List (Addr × Obj)) (s:Shared) (σ:St) (H:Hp) (x y:V) (v u:Value) (Q:VK),aF X pins σ H s→bD x v→bD y u→r x y H Q→
    subscripted slice false v u=operate [v,u] (getItem v u)→wpAny (model X.prog X.w) X.A (subscriptTail value slice v u) (EP X pins σ Q) X.xe s
def Fv(X:Cx)(id:String)(r:V→List V→Hp→VK→Prop):Prop:=
  ∀(pins:List (Addr × Obj)) (s:Shared) (σ:St) (H:Hp) (x:V) (xs:List V) (v:Value) (us:List Value) (Q:VK),aF X pins σ H s→bD x v→aS xs us→r x xs H Q→
    wpAny (model X.prog X.w) X.A (call (.builtin id) (v::us)) (EP X pins σ Q) X.xe s
section
variable{X:Cx}{a b:Expr}{ta tb:TE}{pos:Pos}
theorem yp.or{r r':R2}(h:yp X r)(h':yp X r'):yp X (fun x y H Q=>r x y H Q∨r' x y H Q):=by
  intro value slice pins s σ H x y v u Q I rx ry q hs
  rcases q with q | q
  · exact h value slice pins s σ H x y v u Q I rx ry q hs
  · exact h' value slice pins s σ H x y v u Q I rx ry q hs
theorem DF{r:R2}(hr:yp X r)(ha:PE X a ta)(hb:PE X b tb)(hs:oq b):PE X (.Subscript a b pos) (Ee r ta tb):=by
  intro pins s σ H Q I h
  exact Subscript_ (AO ha hb I h fun v u s2 x y H2 I2 rx ry q=>hr a b pins s2 σ H2 x y v u Q I2 rx ry q (hs _ _))
def DU(K:PySem.W.Frag):R2:=fun x y H Q=>∃p xs i v,x=.ref p∧y=.int i∧dg K H p xs∧atI xs i=some v∧Q v H
def DV(K:PySem.W.Frag):R2:=fun x y H Q=>∃p xs i v,x=.ref p∧y=.int i∧cD K H p xs∧atI xs i=some v∧Q v H
theorem yK:yp X (DU X.K):=by
  intro value slice pins s σ H x y v u Q I rx ry h hs
  obtain⟨p,xs,i,z,rfl,rfl,hq,he,q⟩:=h
  cases rx
  obtain⟨t,rfl⟩:=ry
  obtain⟨its,r,pl,hz⟩:=I.list hq
  obtain⟨j,h1,h2,h3,h4,h5⟩:=sE he
  obtain⟨w,ew,rw'⟩:=r.get h2
  have hl:=r.length
  have hn:=rJ
  have fin:EP X pins σ Q w s:=⟨z,H,I,rw',q⟩
  by_cases h0:0≤i
  · have hj:i.toNat=j:=by
      rw [seqIndex_of h0 h5] at h1
      exact Option.some.inj h1
    exact item_listR pl.isList h0 (by lia) (by rw [hj];simpa using ew) fin hs
  · have hj:(i+(its.toArray.size:Int)).toNat=j:=by
      rw [seqIndex_neg (by lia) h4] at h1
      rw [List.size_toArray,←hl]
      exact Option.some.inj h1
    exact subscriptTail_builtinR (x:=w) pl.isList.typeIs slot_list_getitem.lookup
      (wpAny_getItem_list_neg (Q:=fun r s'=>r=w∧EP X pins σ Q r s') pl.isList (by lia) (by rw [List.size_toArray]<;>lia) (by lia) (by rw [hj];simpa using ew) ⟨rfl,fin⟩) hs
theorem A9:yp X (DV X.K):=by
  intro value slice pins s σ H x y v u Q I rx ry h hs
  obtain⟨p,xs,i,z,rfl,rfl,hq,he,q⟩:=h
  cases rx
  obtain⟨t,rfl⟩:=ry
  obtain⟨its,r,pl,hz⟩:=I.tuple hq
  obtain⟨j,h1,h2,h3,h4,h5⟩:=sE he
  obtain⟨w,ew,rw'⟩:=r.get h2
  have hl:=r.length
  have hn:=rJ
  have fin:EP X pins σ Q w s:=⟨z,H,I,rw',q⟩
  exact subscriptTail_builtinR (x:=w) pl.typeIs slot_tuple_getitem.lookup
    (getItem_tuple (j:=j) (Q:=fun r s'=>r=w∧EP X pins σ Q r s') pl (by lia) (by lia) (by rw [List.size_toArray,←hl];exact h1) (by simpa using ew) ⟨rfl,fin⟩) hs
theorem pA(lo hi:Option Int)(n:Nat):(sliceBounds lo hi none n).1=((HT.sIx n 0 lo:Nat):Int)∧(sliceBounds lo hi none n).2.1=((HT.sIx n n hi:Nat):Int)∧(sliceBounds lo hi none n).2.2=1:=by
  refine⟨?_,?_,rfl⟩
  · cases lo with
    | none=>simp [sliceBounds,HT.sIx]
    | some i=>
      simp only [sliceBounds,HT.sIx,Option.getD_none,show(1:Int) > 0 by decide,if_true]
      by_cases h:i < 0
      · simp only [h,if_true]<;>lia
      · simp only [h,if_false]<;>lia
  · cases hi with
    | none=>simp [sliceBounds,HT.sIx]
    | some i=>
      simp only [sliceBounds,HT.sIx,Option.getD_none,show(1:Int) > 0 by decide,if_true]
      by_cases h:i < 0
      · simp only [h,if_true]<;>lia
      · simp only [h,if_false]<;>lia
theorem m8(its:List Value)(lo hi:Option Int):slicePick its.toArray lo hi none=((its.drop (HT.sIx its.length 0 lo)).take (HT.sIx its.length its.length hi - HT.sIx its.length 0 lo)).toArray:=by
  obtain⟨h1,h2,h3⟩:=pA lo hi its.toArray.size
  unfold slicePick
  rw [h1,h2,h3]
  simp only [sliceRange_one,pick_run,List.size_toArray]<;>rfl
def DX(K:PySem.W.Frag):V→Option Int→Option Int→Hp→VK→Prop:=fun x lo hi H Q=>∃a xs,x=.ref a∧dg K H a xs∧∀p,H p=none→Q (.ref p) (a_ H p (.lst (mZ xs lo hi)))
theorem zO:yq X (DX X.K):=by
  intro pins s σ H x v vl vu lo hi sl Q I rx hs pl pu h
  obtain⟨a,xs,rfl,hx,q⟩:=h
  cases rx
  obtain⟨its,r,ht,hz⟩:=I.list hx
  have hlen:=r.length
  refine⟨"list",_,slot_list_getitem.lookup,ht.isList.typeIs,?_⟩
  refine wpAny_getItem_list_slice ht.isList hs pl pu .none (by simp) ?_ (by rw [List.size_toArray]<;>lia)
  rw [m8,←hlen]
  refine⟨.ref s.heap.objs.size,_,I.laid (t':=s.toks) (o:=.lst (mZ xs lo hi)) (fun b ob q=>Heap.get?_push_of_some _ q) (Nat.le_refl _) ?_,rfl,q _ (I.hok.fresh (Nat.le_refl _))⟩
  exact⟨Nat.le_trans (k9 xs lo hi) hz,_,0,(r.drop (HT.sIx xs.length 0 lo)).take (HT.sIx xs.length xs.length hi - HT.sIx xs.length 0 lo),Heap.get?_push_size _ rfl⟩
theorem oD:et X (.builtin "len") (fun xs H Q=>∃p ys,xs=[.ref p]∧(dg X.K H p ys∨cD X.K H p ys)∧Q (.int ys.length) H):=by
  intro pins s σ H xs us Q I r h
  obtain⟨p,ys,rfl,hq,q⟩:=h
  obtain⟨u,rfl,rx⟩:=om r
  cases rx
  have hn:=rJ
  rcases hq with hq | hq
  · obtain⟨its,r',pl,hz⟩:=I.list hq
    have hlen:=r'.length
    exact Calls.call_len_list pl.isList (by simp only [List.size_toArray]<;>lia) ⟨.int ys.length,H,I.tok _,⟨s.toks+1,by rw [List.size_toArray,hlen]⟩,q⟩
  · obtain⟨its,r',pl,hz⟩:=I.tuple hq
    have hlen:=r'.length
    exact len_tuple pl (by simp only [List.size_toArray]<;>lia) ⟨.int ys.length,H,I.tok _,⟨s.toks+1,by rw [List.size_toArray,hlen]⟩,q⟩
theorem oE:et X (.type "list") (fun xs H Q=>∃p ys,xs=[.ref p]∧(dg X.K H p ys∨cD X.K H p ys)∧∀l,H l=none→Q (.ref l) (a_ H l (.lst ys))):=by
  intro pins s σ H xs us Q I r h
  obtain⟨p,ys,rfl,hq,q⟩:=h
  obtain⟨u,rfl,rx⟩:=om r
  cases rx
  have fin:∀(its:List Value),aS ys its→ys.length≤sizeLine→∀(h':Heap) (c':Nat),(∀b o',s.heap.get? b=some o'→h'.get? b=some o')→
      h'.get? s.heap.objs.size=some {cls:=.type "list",dict:=none,data:=.seq its.toArray c',slots:=#[]}→EP X pins σ Q (.ref s.heap.objs.size) {s with heap:=h'}:=fun its r' hz h' c' kp e=>
    ⟨.ref s.heap.objs.size,_,I.laid (t':=s.toks) kp (Nat.le_refl _) (show cY X.prog X.w _ h' _ (.lst ys) from⟨hz,its,c',r',e⟩),rfl,q _ (I.hok.fresh (Nat.le_refl _))⟩
  rcases hq with hq | hq
  · obtain⟨its,r',pl,hz⟩:=I.list hq
    have hlen:=r'.length
    obtain⟨o,ho,hc,n,hd⟩:=pl.isList
    exact call_list_seq p (.inl rfl) ho hc hd (fun h' c' kp e=>fin its r' hz h' c' kp e) (by simp only [List.size_toArray]<;>lia)
  · obtain⟨its,r',pl,hz⟩:=I.tuple hq
    have hlen:=r'.length
    obtain⟨o,ho,hc,n,hd⟩:=pl
    exact call_list_seq p (.inr rfl) ho hc hd (fun h' c' kp e=>fin its r' hz h' c' kp e) (by simp only [List.size_toArray]<;>lia)
theorem mY:et X (.type "tuple") (fun xs H Q=>∃p ys,xs=[.ref p]∧((dg X.K H p ys∧∀l,H l=none→Q (.ref l) (a_ H l (.tup ys)))∨(cD X.K H p ys∧Q (.ref p) H))):=by
  intro pins s σ H xs us Q I r h
  obtain⟨p,ys,rfl,h⟩:=h
  obtain⟨u,rfl,rx⟩:=om r
  cases rx
  rcases h with ⟨hq,q⟩ | ⟨hq,q⟩
  · obtain⟨its,r',pl,hz⟩:=I.list hq
    have hlen:=r'.length
    refine call_tuple_list pl.isList (fun h' kp=>?_) (by simp only [List.size_toArray]<;>lia)
    have I1:aF X pins σ H {s with heap:=h'}:=I.kept (t':=s.toks) kp
    have I2:aF X pins σ (a_ H h'.objs.size (.tup ys)) {s with heap:=h'.push {cls:=.type "tuple",data:=.seq its.toArray}}:=
      I1.laid (t':=s.toks) (fun b o e=>Heap.get?_push_of_some _ e) (Nat.le_refl _) (show cY X.prog X.w _ _ _ (.tup ys) from⟨hz,its,r',ke.new _ _⟩)
    exact⟨.ref h'.objs.size,_,I2,rfl,q _ (I1.hok.fresh (Nat.le_refl _))⟩
  · obtain⟨its,r',pl,hz⟩:=I.tuple hq
    exact call_tuple_same pl ⟨.ref p,H,I,rfl,q⟩
def FN(K:PySem.W.Frag)(T:String)(x:V)(H:Hp):Prop:=match x with
  | .str _=>T="str"
  | .int _=>T="int"
  | .ref p=>(T="list"∧∃xs,dg K H p xs)∨(T="tuple"∧∃o,K.lookup p=some o∧o.cls=.type "tuple"∧o.dict=none)∨
      (T="dict"∧((∃kvs,H p=some (.dK kvs))∨∃kvs,H p=some (.dT kvs)))∨(T="set"∧∃S n,H p=some (.set S n))
  | _=>False
theorem Cw{pins:List (Addr × Obj)}{σ:St}{H:Hp}{s:Shared}{T:String}{x:V}{v:Value}(I:aF X pins σ H s)(r:bD x v)(ty:FN X.K T x H):
    s.TypeIs v T∧∀a,v=.ref a→∃ob,s.heap.get? a=some ob∧ob.dict=none:=by
  cases x with
  | str z=>
    obtain⟨t,rfl⟩:=r
    cases (show T="str" from ty)
    exact⟨typeIs_str s z t,fun _ e=>nomatch e⟩
  | int i=>
    obtain⟨t,rfl⟩:=r
    cases (show T="int" from ty)
    exact⟨typeIs_int s i t,fun _ e=>nomatch e⟩
  | ref p=>
    cases r
    rcases ty with ⟨rfl,xs,hq⟩ | ⟨rfl,o,hk,hc,hd⟩ | ⟨rfl,hk⟩ | ⟨rfl,S,n,hk⟩
    · obtain⟨its,_,pl,_⟩:=I.list hq
      refine⟨pl.isList.typeIs,fun a e=>?_⟩
      cases e
      obtain⟨o,n,e,c,hd,_⟩:=pl
      exact⟨o,e,hd⟩
    · refine⟨⟨o,I.kIn p o hk,hc⟩,fun a e=>?_⟩
      cases e
      exact⟨o,I.kIn _ o hk,hd⟩
    · have z:∃o,s.heap.get? p=some o∧o.ExactDict:=by
        rcases hk with ⟨kvs,hk⟩ | ⟨kvs,hk⟩
        · obtain⟨_,_,_,_,o,_,_,e,ex,_⟩:=I.hok p _ hk
          exact⟨o,e,ex⟩
        · obtain⟨_,_,_,_,o,_,_,e,ex,_⟩:=I.hok p _ hk
          exact⟨o,e,ex⟩
      obtain⟨o,e,ex⟩:=z
      refine⟨⟨o,e,ex.1⟩,fun a e2=>?_⟩
      cases e2
      exact⟨o,e,ex.2.1⟩
    · obtain⟨o,_,_,_,e,ex,_⟩:=I.hok p _ hk
      refine⟨⟨o,e,ex.1⟩,fun a e2=>?_⟩
      cases e2
      exact⟨o,e,ex.2.1⟩
  | _=>exact False.elim ty
def FJ(K:PySem.W.Frag)(T:String)(r:V→List V→Hp→VK→Prop)(to:TE)(t:TA):TE:=fun σ H Q=>to σ H fun x H1=>FN K T x H1∧t σ H1 fun xs H2=>r x xs H2 Q
variable{o e:Expr}{es:List Expr}{to:TE}{t:TA}{name:Str}{apos cpos:Pos}{T id:String}{r:V→List V→Hp→VK→Prop}
theorem DE(pa:PlainAttrs T)(slot:Slot T name id)(hty:typeOf (.builtin id)=pure (.type "method_descriptor"))(hm:Fv X id r)(ho:PE X o to)(ha:PA X (e::es) t)
    (hbase:attributeBase o name X.env (eval o X.env)=eval o X.env:=by rfl)
    (hfew:((backTo cpos (starEach (e::es) X.env)).all (fun x=> !x.1)&&(backToKw cpos (keywordEach [] X.env)).all (fun x=>x.1.isSome)
      &&decide ((e::es).length+([]:List Keyword).length+(if ([]:List Keyword).isEmpty then 0 else 1) < 30))=true:=by rfl)
    (hline:(apos.endLine==cpos.line)=true:=by rfl)(hs:starEach (e::es) X.env=(false,eval e X.env)::starEach es X.env:=by rfl)(hplain:(backTo cpos (starEach es X.env)).any (·.1)=false:=by rfl):
    PE X (.Call (.Attribute o name apos) (e::es) [] cpos) (FJ X.K T r to t):=by
  intro pins s σ H Q I h
  refine wpAny_Call_method_late hbase hfew hline rfl (cP (ho pins s σ H _ I h) fun v s1 ⟨x,H1,I1,r1,ty,q1⟩=>?_)
  obtain⟨h1,h2⟩:=Cw I1 r1 ty
  refine⟨T,id,pa,slot,hty,h1,h2,?_⟩
  have hA:=ha cpos pins s1 σ H1 _ I1 q1
  rw [hs] at hA ⊢
  refine Calls.callWith_builtin (by show(false || (backTo cpos (starEach es X.env)).any (·.1))=false;rw [hplain]<;>rfl) (Calls.evalArgs_plain ?_)
  exact cP hA fun us s2 ⟨vs,H2,I2,r2,q2⟩=>hm pins s2 σ H2 x vs v us Q I2 r1 r2 q2
end
end L2
namespace L2
open PySem PySem.Spec PyProof.Rows
def Fu(X:Cx)(id:String)(r:V→List V→Hp→VK→Prop):Prop:=
  ∀(pins:List (Addr × Obj)) (s:Shared) (σ:St) (H:Hp) (x:V) (xs:List V) (v:Value) (us:List Value) (Q:VK),aF X pins σ H s→bD x v→aS xs us→r x xs H Q→
    wpAny (model X.prog X.w) X.A (call (.builtin id) (v::us)) (EP X pins σ Q) X.xe s
theorem aS.one:∀{x:V} {us:List Value},aS [x] us→∃u,us=[u]∧bD x u
  | _,_,.cons r .nil=>⟨_,rfl,r⟩
theorem aS.eraseIdx:∀{xs:List V} {us:List Value} (i:Nat),aS xs us→aS (xs.eraseIdx i) (us.eraseIdx i)
  | _,_,_,.nil=>.nil
  | _,_,0,.cons _ t=>t
  | _,_,i+1,.cons r t=>.cons r (aS.eraseIdx i t)
theorem aS.rep{xs:List V}{us:List Value}(h:aS xs us):∀k:Nat,aS (List.replicate k xs).flatten (List.replicate k us).flatten
  | 0=>.nil
  | k+1=>by
    rw [List.replicate_succ,List.replicate_succ,List.flatten_cons,List.flatten_cons]
    exact aS.append h (aS.rep h k)
theorem nG{α:Type}:∀(l:List α) (i:Nat),(l.eraseIdx i).length≤l.length
  | [],_=>Nat.le_refl _
  | _::_,0=>Nat.le_succ _
  | _::r,i+1=>Nat.succ_le_succ (nG r i)
theorem nq(its:List Value):∀(k:Nat) (acc:List Value),
    List.foldl (fun x1 x2=>x1++x2) acc.toArray (List.replicate k its.toArray)=(acc++(List.replicate k its).flatten).toArray
  | 0,acc=>by simp
  | k+1,acc=>by
    have e:acc.toArray++its.toArray=(acc++its).toArray:=by simp
    have e2:(acc++its)++(List.replicate k its).flatten=acc++(List.replicate (k+1) its).flatten:=by
      rw [List.replicate_succ,List.flatten_cons,List.append_assoc]
    rw [←e2,←nq its k (acc++its),←e,List.replicate_succ,List.foldl_cons]
section
variable{X:Cx}{pins:List (Addr × Obj)}{σ:St}{H:Hp}{s:Shared}{l b:Addr}{xs ys zs:List V}
theorem aF.lset{its its':List Value}{n:Nat}{f:Array Value→Array Value}{t':Nat}(I:aF X pins σ H s)(hH:H l=some (.lst xs))
    (e:s.heap.get? l=some {cls:=.type "list",data:=.seq its.toArray n})(hf:f its.toArray=its'.toArray)(hv:aS ys its')(hz:ys.length≤sizeLine):
    aF X pins σ (a_ H l (.lst ys)) {s with heap:=s.heap.update l (Obj.mapSeq f),toks:=t'}:=by
  have q:=PySem.IsL.update e f
  rw [hf] at q
  refine I.write (x:=l) (e:=l) (by rw [hH];exact trivial) (.inl rfl) (fun b' u hb hu=>(Heap.get?_update_other s.heap (Obj.mapSeq f) (Ne.symm hb)).trans hu) ⟨_,q⟩ ?_
  exact⟨hz,its',_,hv,q⟩
theorem aF.lnew{its:List Value}{t':Nat}(I:aF X pins σ H s)(hv:aS ys its)(hz:ys.length≤sizeLine):
    aF X pins σ (a_ H s.heap.objs.size (.lst ys)) {s with heap:=s.heap.push {cls:=.type "list",data:=.seq its.toArray},toks:=t'}:=
  I.laid (fun _ _ q=>Heap.get?_push_of_some _ q) (Nat.le_refl _) ⟨hz,its,0,hv,Heap.get?_push_size _ rfl⟩
theorem aF.fresh(I:aF X pins σ H s):H s.heap.objs.size=none:=I.hok.fresh (Nat.le_refl _)
theorem aF.lstM(I:aF X pins σ H s)(hH:H l=some (.lst xs)):xs.length≤sizeLine∧∃(its:List Value) (n:Nat),aS xs its∧xs.length=its.length∧s.heap.get? l=some {cls:=.type "list",data:=.seq its.toArray n}:=by
  obtain⟨z,its,n,r,e⟩:=I.hok l _ hH
  exact⟨z,its,n,r,r.length,e⟩
theorem wG{n:Nat}(h:n≤sizeLine):Builtin.List.listTooLong n=false:=by
  unfold Builtin.List.listTooLong
  exact decide_eq_false (by lia)
end
section
variable{X:Cx}
def s_:V→List V→Hp→VK→Prop:=fun x vs H Q=>∃l xs y,x=.ref l∧vs=[y]∧H l=some (.lst xs)∧xs.length < sizeLine∧Q .non (a_ H l (.lst (xs++[y])))
theorem kM:Fu X "list.append" s_:=by
  intro pins s σ H x vs v us Q I rx rv h
  obtain⟨l,xs,y,rfl,rfl,hH,hz,q⟩:=h
  cases rx
  obtain⟨u,rfl,ru⟩:=rv.one
  obtain⟨z,its,n,r,hl,e⟩:=I.lstM hH
  refine call_meets F.slot_list_append ⟨_,e,rfl⟩ F.entry_list_append (F.args_list_append_2 _ _) (PySem.list_append l its.toArray n u (by rw [List.size_toArray];lia)) ⟨e,?_⟩
  refine⟨.non,_,I.lset (its':=its++[u]) hH e (by simp) (r.append (.cons ru .nil)) ?_,rfl,q⟩
  rw [List.length_append,List.length_singleton]
  lia
def xD:V→List V→Hp→VK→Prop:=fun x vs H Q=>∃l xs i k y,x=.ref l∧vs=[.int i]∧H l=some (.lst xs)∧ -(2 ^ 63)≤i∧i < 2 ^ 63∧seqIndex? i xs.length=some k∧xs[k]?=some y∧Q y (a_ H l (.lst (xs.eraseIdx k)))
theorem wB:Fu X "list.pop" xD:=by
  intro pins s σ H x vs v us Q I rx rv h
  obtain⟨l,xs,i,k,y,rfl,rfl,hH,h1,h2,hk,hy,q⟩:=h
  cases rx
  obtain⟨u,rfl,ru⟩:=rv.one
  obtain⟨t,rfl⟩:=ru
  obtain⟨z,its,n,r,hl,e⟩:=I.lstM hH
  obtain⟨w,hw,rw'⟩:=r.get hy
  refine call_meets F.slot_list_pop ⟨_,e,rfl⟩ F.entry_list_pop (F.args_list_pop_2 _ _)
    (MeetsSeq.list_pop_at l its.toArray n i t k w (fitsIndex_both h1 h2) (by rw [List.size_toArray,←hl];exact hk) (by rw [←Array.getElem?_toList];exact hw) (by rw [List.size_toArray];lia)) ⟨e,?_⟩
  refine⟨y,_,I.lset (its':=its.eraseIdx k) hH e ?_ (r.eraseIdx k) ?_,rw',q⟩
  · show its.toArray.eraseIdxIfInBounds k=(its.eraseIdx k).toArray
    rw [List.eraseIdxIfInBounds_toArray]
  · have:=nG xs k
    lia
def B9:R2:=fun x y H Q=>∃l b xs zs,x=.ref l∧y=.ref b∧H l=some (.lst xs)∧H b=some (.lst zs)∧xs.length+zs.length≤sizeLine∧∀p,H p=none→Q (.ref p) (a_ H p (.lst (xs++zs)))
theorem Bw:fV X (binaryOp .Add) B9:=by
  intro pins s σ H x y v u Q I rx ry h
  obtain⟨l,b,xs,zs,rfl,rfl,hH,hB,hz,q⟩:=h
  cases rx
  cases ry
  obtain⟨z,its,n,r,hl,e⟩:=I.lstM hH
  obtain⟨z2,its2,n2,r2,hl2,e2⟩:=I.lstM hB
  refine PySem.P.add_list e e2 ?_ (by rw [List.size_toArray,List.size_toArray];lia)
  have ea:its.toArray++its2.toArray=(its++its2).toArray:=by simp
  rw [ea]
  exact⟨.ref _,_,I.lnew (t':=s.toks) (r.append r2) (by rw [List.length_append];lia),rfl,q _ I.fresh⟩
def B':R2:=fun x y H Q=>∃l k xs,x=.ref l∧y=.int k∧H l=some (.lst xs)∧ -(2 ^ 63)≤k∧k < 2 ^ 63∧xs.length*k.toNat≤sizeLine∧
  ∀p,H p=none→Q (.ref p) (a_ H p (.lst (List.replicate k.toNat xs).flatten))
theorem yM{α:Type}(xs:List α)(k:Nat):(List.replicate k xs).flatten.length=k*xs.length:=by
  induction k with
  | zero=>simp
  | succ k ih=>rw [List.replicate_succ,List.flatten_cons,List.length_append,ih,Nat.succ_mul,Nat.add_comm]
theorem BF:fV X (binaryOp .Mult) B':=by
  intro pins s σ H x y v u Q I rx ry h
  obtain⟨l,k,xs,rfl,rfl,hH,h1,h2,hz,q⟩:=h
  cases rx
  obtain⟨t,rfl⟩:=ry
  obtain⟨z,its,n,r,hl,e⟩:=I.lstM hH
  have hlen:its.toArray.size*k.toNat≤sizeLine:=by rw [List.size_toArray,←hl];exact hz
  have hcap:¬its.toArray.size*k.toNat > (2 ^ 63 - 1) / 8:=by
    have:(sizeLine:Nat)≤(2 ^ 63 - 1) / 8:=by decide
    lia
  have hfit:¬(!Builtin.List.listFitsIndex k)=true:=by
    rw [fitsIndex_both h1 h2]
    exact Bool.false_ne_true
  have hlong:¬Builtin.List.listTooLong (its.toArray.size*k.toNat)=true:=by
    rw [wG hlen]
    exact Bool.false_ne_true
  have hnew:List.foldl (fun x1 x2=>x1++x2) #[] (List.replicate (if its.toArray.isEmpty=true then 0 else k.toNat) its.toArray)=(List.replicate k.toNat its).flatten.toArray:=by
    have f0:∀m:Nat,List.foldl (fun x1 x2=>x1++x2) #[] (List.replicate m its.toArray)=(List.replicate m its).flatten.toArray:=fun m=>by
      have:=nq its m []
      rw [List.nil_append] at this
      exact this
    rw [f0]
    cases its with
    | nil=>simp
    | cons a r'=>rw [if_neg (by simp)]
  refine wpAny_binaryOp_repeat_ref (T:="list") (U:="int") (by decide) ⟨_,e,rfl⟩ (fun s'=>typeIs_int s' k t) noFill_list_mul F.fills_int_mul F.slot_int_rmul repeat_list F.slot_int_index.lookup
    (call_meets F.slot_int_rmul (typeIs_int s k t) F.entry_int_rmul (F.args_int_rmul_2 _ _) (int___rmul___int_list k t l its.toArray n)
      ⟨e,rfl,⟨_,e,rfl⟩,call_meets F.slot_list_mul ⟨_,e,rfl⟩ F.entry_list_mul (F.args_list_mul_2 _ _) (AutoListH.list___mul___list_int_3 l its.toArray n k t hfit hcap hlong) ⟨e,?_⟩⟩)
  rw [hnew]
  exact⟨.ref _,_,I.lnew (t':=s.toks) (r.rep k.toNat) (by rw [yM,Nat.mul_comm];exact hz),rfl,q _ I.fresh⟩
end
section
variable{prog:Program}{w:World}{A:Around}{E:Value→Shared→Prop}{s:Shared}
end
section
variable{X:Cx}
end
end L2
namespace Att
open PySem PySem.W PySem.Calls PyProof.Rows
theorem lq{P:Params}{h:Heap}:∀(ns:List Int) (vs:List Value),WellAll P h vs (ns.map WData.int)→IntsAre vs ns:=by
  intro ns
  induction ns with
  | nil=>
    intro vs w
    rw [List.map_nil] at w
    cases w
    exact .nil
  | cons n ns ih=>
    intro vs w
    rw [List.map_cons] at w
    cases w with
    | cons a b=>
      cases a
      exact .cons _ _ (ih _ b)
theorem uP{l:OpenLaw}{n:Nat}(hn:l.most=some n){P:Params}{h:Heap}{args:List WData}{vals:List Value}
    (hpre:l.row.toRowW.claim.pre args=true)(hwl:WellAll P h vals args):
    ∃a vs ns,vals=[Value.ref a]∧args=[WData.list (ns.map WData.int)]∧h.get? a=some {cls:=.type "list",data:=.seq vs.toArray}∧IntsAre vs ns∧ns.length≤n:=by
  have hsh:WShape.hasAll [] args [.list .int]=true:=(pre_splitW hpre).1
  have hc:l.pre.holds [] {args:=args}=true:=(pre_splitW hpre).2
  obtain⟨d,r,rfl,h1,h2⟩:=hasAllW_cons hsh
  obtain rfl:=hasAllW_nil h2
  obtain⟨xs,rfl,h3⟩:=hasW_list h1
  obtain⟨ns,rfl⟩:=items_int h3
  have hlen:ns.length≤n:=by
    unfold OpenLaw.pre at hc
    have h4:(WTm.not (.lt (.lit (.int (n:Int))) (.len (.arg 0)))).holds [] {args:=[.list (ns.map .int)]}=true:=by
      have h4:=(holds_andW hc).1
      rw [hn] at h4
      exact h4
    have h5:=condW_of h4 (w_not (w_lt w_lit (w_len_list (w_arg rfl))))
    rw [List.length_map] at h5
    refine Nat.le_of_not_lt fun q=>?_
    have q':(n:Int) < ((ns.length:Nat):Int):=by lia
    first
      | (rw [decide_eq_true q'] at h5;exact absurd h5 (by decide))
      | (simp at h5;lia)
  cases hwl with
  | cons w1 w2=>
    cases w2
    cases w1 with
    | list ho hall=>exact⟨_,_,ns,rfl,rfl,ho,lq ns _ hall,hlen⟩
theorem uL(l:OpenLaw)(args:List WData):l.row.toRowW.claim.post args (.bool true) args=true:=
  postW_of (r:=l.row.toRowW) (X:=(true==true))
    (show WShape.has [] (.bool true) .bool=true by first | rfl | decide | simp [WShape.has,WShape.arms,WShape.armsAll])
    (show(WTm.eq .res (.lit (.bool true))).value [] {args:=args,res:=some (.bool true),after:=args}=some (.bool (true==true)) from w_eq_bool (w_res rfl) w_lit) rfl
theorem attach_call{l:OpenLaw}{n:Nat}{q:Program}{loose:List Str}{XP:(Str→Option Value)→Heap→Prop}{YP:World→Heap→Prop}{d:DefRec}
    (hn:l.most=some n)(hdf:d.params.defaults=[])
    (call:∀(w:World) (s₀ s₁:Shared) (mg mb:Str→Option Value) (fa:Addr) (o:Obj) (pm cd doc:Value) (a:Addr) (vs:List Value) (ns:List Int),
      Ground q loose [] XP w s₀ mg mb s₁.heap→YP w s₁.heap→
      s₁.heap.get? fa=some o→o.data=.func (docDef d.name d.params d.body d.scope pm cd doc)→s₁.heap.CodeRec cd d.name→mg d.name=some (.ref fa)→
      s₁.heap.get? a=some {cls:=.type "list",data:=.seq vs.toArray}→IntsAre vs ns→ns.length≤n→s₁.gens=#[]→
      codeAny (model l.prog w) callerA (.call (.ref fa) ⟨[.ref a],[]⟩) (fun r s'=>r=.ok (.ret (.bool true))∧OldK s₁.heap s'.heap∧s'.os=s₁.os∧AllBare s'.gens) s₁):
    WalkO q loose XP YP l.row.toRowW d [] (fun f vs=>PySem.call f vs):=by
  intro w s₀ s₁ mg mb G Y fa o pm cd doc dV kV ho hd hcd hD hmg hg args vals as hpre hlay hrd hwl hlo
  obtain rfl:dV=.none:=Dflts.none hD hdf
  obtain rfl:kV=.none:=Dflts.noKw hD
  obtain⟨a,vs,ns,rfl,rfl,hobj,hints,hlen⟩:=uP hn hpre hwl
  refine enter_call (codeAny_mono (call w s₀ s₁ mg mb fa o pm cd doc a vs ns G Y ho (fd_plain hd) hcd hmg hobj hints hlen hg) fun r s' hq=>?_)
  obtain⟨rfl,h2,h3,h4⟩:=hq
  exact⟨.inl ⟨.bool true,.bool true,[],rfl,fun _=>rfl,.bool true,uL l _,fun _=>⟨List.Pairwise.nil,fun _ hm=>(nomatch hm)⟩⟩,h2,h3,h4⟩
section
variable{prog:Program}{w:World}{A:Around}{E:Value→Shared→Prop}{s:Shared}{K:Frag}
end
end Att
namespace L2
open PySem PySem.Spec PyProof.Rows
theorem oo:∀{vs:List Value} {ns:List Int},IntsAre vs ns→aS (ns.map V.int) vs
  | _,_,.nil=>.nil
  | _,_,.cons n t h=>.cons ⟨t,rfl⟩ (oo h)
def AJ(H:Hp):Prop:=∀b,H b=none∨∃o xs,H b=some (.frz o (.lst xs))
theorem ww{P:Program}{w:World}{K:PySem.W.Frag}{mg mb:Str→Option Value}{CX:tZ}{k:Nat}{fa a:Addr}{fd:FuncData}{x:Str}{sp:Sp}{s₁:Shared}{vs:List Value}{ns:List Int}
    (KX:K.In s₁.heap)(hns:s₁.heap.Ns mainGlobals mg)(hb:s₁.heap.Ns builtinsNs mb)(hbb:∀x:Str,x≠"__name__"→mb x=bootBuiltins x)(hlim:s₁.heap.NoLimit)(hg:s₁.gens=#[])
    (ha:s₁.heap.get? a=some {cls:=.type "list",data:=.seq vs.toArray})(hi:IntsAre vs ns)(hl:ns.length≤sizeLine)(hr:cZ k callerA)
    (F:∀base:Heap,K.In base→base.Ns mainGlobals mg→aC P w K mg base CX k fa fd [x] sp)(hbind:∀(s:Shared) (u:Value),BindsTo s fd ⟨[u],[]⟩ [(x,u)])
    (hsp:∀H:Hp,AJ H→dg K H a (ns.map V.int)→sp [.ref a] H (fun v _=>v=.bl true) fun _ _ _=>False)
    (hCX:∀H e s',CX [] H s₁ (fun _ _ _=>False) e s'→False):
    codeAny (model P w) callerA (.call (.ref fa) ⟨[.ref a],[]⟩) (fun r s'=>r=.ok (.ret (.bool true))∧OldK s₁.heap s'.heap∧s'.os=s₁.os∧AllBare s'.gens) s₁:=by
  have rv:=oo hi
  have lenV:=hi.length
  have core:∀H:Hp,AJ H→dg K H a (ns.map V.int)→kY P w H s₁.heap→(∀b,H b≠none→b=a)→(H a≠none→K.lookup a=none)→
      codeAny (model P w) callerA (.call (.ref fa) ⟨[.ref a],[]⟩) (fun r s'=>r=.ok (.ret (.bool true))∧OldK s₁.heap s'.heap∧s'.os=s₁.os∧AllBare s'.gens) s₁:=by
    intro H hO hS hok hA hK
    have base_of:∀{b:Addr} {o:Obj},s₁.heap.get? b=some o→H b=none→(oV s₁.heap H).get? b=some o:=fun e n=>wm e n
    have noA:∀{b:Addr} {o:Obj} {es:Array DictEntry} {ep:Nat},s₁.heap.get? b=some o→o.data=.dict es ep→H b=none:=fun{b o es ep} e d=>by
      cases q:H b with
      | none=>rfl
      | some u=>
        have e':b=a:=hA b (by rw [q];simp)
        subst e'
        rw [ha] at e;cases e
        have d':Data.seq vs.toArray _=Data.dict es ep:=d
        cases d'
    have nsK:∀{b:Addr} {m:Str→Option Value},s₁.heap.Ns b m→(oV s₁.heap H).Ns b m:=fun{b m} ⟨o,es,ep,e,d,r⟩=>⟨o,es,ep,base_of e (noA e d),d,r⟩
    have hKb:K.In (oV s₁.heap H):=fun b o e=>base_of (KX b o e) (by
      cases q:H b with
      | none=>rfl
      | some u=>
        have e':b=a:=hA b (by rw [q];simp)
        subst e'
        rw [hK (by rw [q];simp)] at e;cases e)
    have hM:Mod K mg (oV s₁.heap H):=⟨hKb,nsK hns,⟨mb,nsK hb,hbb⟩,let ⟨mc,h1,h2⟩:=hlim;⟨mc,nsK h1,h2⟩⟩
    have e0:yo P w K mg (oV s₁.heap H) callerA [] s₁ H:=⟨rfl,hM,fun b o e=>yS e,Nat.le_of_eq (uo _ _),trivial,fun b hb=>absurd (show b∈([]:List Addr) from hb) (by simp),hok,.of_eq hg⟩
    refine codeAny_mono ((F _ hKb (nsK hns)).run callerA [] s₁ H ⟨[.ref a],[]⟩ [.ref a] [.ref a] _ _ hr e0 (hbind s₁ (.ref a)) (.cons rfl .nil) (hsp H hO hS)) fun r s' h=>?_
    cases r with
    | error e=>exact(hCX H e s' h).elim
    | ok fl=>
      cases fl with
      | next=>exact False.elim h
      | brk=>exact False.elim h
      | cont=>exact False.elim h
      | ret u=>
        obtain⟨v,H',os,bare,un,hok',r',q⟩:=h
        have q':v=.bl true:=q
        subst q'
        obtain rfl:u=Value.bool true:=r'
        refine⟨rfl,OldK.of_keep fun b o e=>?_,os,bare⟩
        cases q:H b with
        | none=>exact un.keep b o e q (by intro z;exact absurd (show b∈([]:List Addr) from z) (by simp)) (by simp)
        | some u=>
          rcases hO b with z | ⟨ob,xs,z⟩
          · rw [q] at z;cases z
          · have z2:=un.frzs b ob _ z
            obtain⟨e1,_⟩:=hok b _ z
            obtain⟨e2,_⟩:=hok' b _ z2
            rw [e] at e1;cases e1
            exact e2
  cases hk:K.lookup a with
  | some o=>
    have e:=KX a o hk
    rw [ha] at e
    cases e
    refine core (fun _=>none) (fun _=>.inl rfl) (.inr ⟨_,vs.toArray,_,hk,rfl,rfl,rfl,by rw [List.size_toArray,lenV];exact hl,by simpa using rv⟩) (fun b u z=>by have z':(none:Option HO)=some u:=z;cases z') (fun b z=>absurd rfl z) fun z=>absurd rfl z
  | none=>
    refine core (fun b=>if b=a then some (.frz {cls:=.type "list",data:=.seq vs.toArray} (.lst (ns.map V.int))) else none) (fun b=>?_) (.inl (.inr ⟨{cls:=.type "list",data:=.seq vs.toArray},if_pos rfl⟩)) (fun b u z=>?_) (fun b z=>?_) fun _=>hk
    · by_cases hb:b=a
      · exact .inr ⟨_,_,if_pos hb⟩
      · exact .inl (if_neg hb)
    · by_cases hb:b=a
      · have z':=(if_pos hb).symm.trans z
        cases z'
        subst hb
        exact⟨ha,by rw [List.length_map];exact hl,vs,_,rv,ha⟩
      · have z':=(if_neg hb).symm.trans z
        cases z'
    · by_cases hb:b=a
      · exact hb
      · exact absurd (if_neg hb) z
end L2
namespace L2
open PySem PySem.Spec PyProof.Rows
theorem walk_of{l:PySem.W.OpenLaw}{n k:Nat}{q:Program}{loose:List Str}{XP:(Str→Option Value)→Heap→Prop}{YP:World→Heap→Prop}{d:DefRec}{K:Params→PySem.W.Frag}{CX:World→tZ}{sp:World→Sp}{x:Str}
    (hn:l.most=some n)(hn2:n≤sizeLine)(hdf:d.params.defaults=[])(hr:cZ k callerA)
    (hY:∀(w:World) (h:Heap),YP w h→(K w.params).In h)
    (F:∀(w:World) (mg:Str→Option Value) (fa:Addr) (h:Heap),(K w.params).In h→h.Ns mainGlobals mg→mg d.name=some (.ref fa)→
      ∃fd:FuncData,(∀(s:Shared) (u:Value),BindsTo s fd ⟨[u],[]⟩ [(x,u)])∧
        ∀base:Heap,(K w.params).In base→base.Ns mainGlobals mg→aC l.prog w (K w.params) mg base (CX w) k fa fd [x] (sp w))
    (hsp:∀(w:World) (H:Hp) (a:Addr) (ns:List Int),ns.length≤n→AJ H→dg (K w.params) H a (ns.map V.int)→sp w [.ref a] H (fun v _=>v=.bl true) fun _ _ _=>False)
    (hCX:∀(w:World) (H:Hp) (s:Shared) (e:Value) (s':Shared),CX w [] H s (fun _ _ _=>False) e s'→False):
    PySem.W.WalkO q loose XP YP l.row.toRowW d [] (fun f vs=>PySem.call f vs):=by
  refine Att.attach_call hn hdf fun w s₀ s₁ mg mb fa o pm cd doc a vs ns G Y ho hd hcd hmg hobj hints hlen hg=>?_
  have KX:=hY w _ Y
  obtain⟨fd,hb,hF⟩:=F w mg fa _ KX G.T.g hmg
  exact ww KX G.T.g G.T.b G.T.builtins G.T.nolimit hg hobj hints (Nat.le_trans hlen hn2) hr hF hb (fun H hO hS=>hsp w H a ns hlen hO hS) fun H e s'=>hCX w H s₁ e s'
end L2
namespace L2
open PySem PySem.Spec PyProof.Rows
def dI(s:Stmt):Arguments:=match s with
  | .FunctionDef _ a _ _ _ _ _ _ _ _=>a
  | _=>{posonlyargs:=[],args:=[],vararg:=none,kwonlyargs:=[],kw_defaults:=[],kwarg:=none,defaults:=[]}
def cR(s:Stmt):List Stmt:=match s with
  | .FunctionDef _ _ b _ _ _ _ _ _ _=>b
  | _=>[]
def am(s:Stmt):Scope:=match s with
  | .FunctionDef _ _ _ _ _ _ sc _ _ _=>sc
  | _=>{kind:=.function,names:=[],isGenerator:=false,isCoroutine:=false}
abbrev bH:tZ:=fun _ _ _ _ _ _=>False
abbrev E0:XK:=fun _ _ _=>False
theorem DC{X:Cx}:rf bH X E0:=fun _ _ _ _ _ _ _ h=>h.elim
structure CJ (K:PySem.W.Frag) (x qual:Str) (st:Stmt) (f:Addr) (fd:FuncData):Prop where
  ex:∃(oc:Value) (od:Option Addr) (kV doc pm:Value) (an:Option Addr) (cdv ct:Value) (osl:Array (Option Value)),
    fd=PySem.W.fnOf x qual (dI st) (cR st) (am st) .none kV doc pm an cdv ct∧K.lookup f=some ⟨oc,od,.func fd,osl⟩∧PySem.W.codeIn K cdv qual=true
  kp:PySem.W.keepIn K (.ref f)=true
section
variable{P:Program}{w:World}{K:PySem.W.Frag}{mg:Str→Option Value}{base:Heap}
theorem CJ.ok{x qual:Str}{st:Stmt}{f:Addr}{fd:FuncData}{N ps:List Str}{k:Nat}{sp:Sp}(F:CJ K x qual st f fd)(S:ay N ps (am st))(len:∀vs H Q E,sp vs H Q E→vs.length=ps.length)
    (hbody:∀(cdv:Value) (A:Around) (outer:List Env) (s:Shared) (H:Hp) (vs:List V) (Q:VK) (E:XK),cZ k (A.deeper (envOfC qual (am st) s.heap.objs.size f cdv))→sp vs H Q E→
      ∃t,lj (rm bH P w K mg base N qual (am st) f cdv A outer s H E).nox (cR st) t∧t {nx:=fun _ H'=>Q .non H',rt:=Q} (ii N vs) H):aC P w K mg base bH (k+1) f fd ps sp:=by
  obtain⟨oc,od,kV,doc,pm,an,cdv,ct,osl,rfl,lk,hcd⟩:=F.ex
  refine C_ lk hcd S len fun A outer s H vs Q E hr hsp=>?_
  obtain⟨t,h,q⟩:=hbody cdv A outer s H vs Q E hr hsp
  exact⟨t,h.nox,q⟩
theorem CJ.binds{x qual:Str}{st:Stmt}{f:Addr}{fd:FuncData}{ps:List Str}(F:CJ K x qual st f fd)
    (h:∀(kV doc pm:Value) (an:Option Addr) (cdv ct:Value) (us:List Value),us.length=ps.length→bindArgs (PySem.W.fnOf x qual (dI st) (cR st) (am st) .none kV doc pm an cdv ct) ⟨us,[]⟩=pure (ps.zip us)):m9 K fd ps []:=by
  obtain⟨oc,od,kV,doc,pm,an,cdv,ct,osl,rfl,lk,hcd⟩:=F.ex
  exact .all (h kV doc pm an cdv ct)
theorem vT{x qual:Str}{st:Stmt}{f:Addr}{oc:Value}{od an:Option Addr}{osl:Array (Option Value)}{kV doc pm cdv ct:Value}(l:K.lookup f=some ⟨oc,od,.func (PySem.W.fnOf x qual (dI st) (cR st) (am st) .none kV doc pm an cdv ct),osl⟩)
    (c:PySem.W.codeIn K cdv qual=true)(k:PySem.W.keepIn K (.ref f)=true):CJ K x qual st f (PySem.W.fnOf x qual (dI st) (cR st) (am st) .none kV doc pm an cdv ct):=⟨⟨oc,od,kV,doc,pm,an,cdv,ct,osl,rfl,l,c⟩,k⟩
end
theorem nW{n:Nat}(h:n≤1000):n < sizeLine:=Nat.lt_of_le_of_lt h (by decide)
section
variable{X:Cx}
end
theorem Dl{A B:Prop}(h:B):if false=true then A else B:=by
  rw [if_neg Bool.false_ne_true]
  exact h
theorem Dm{A B:Prop}(h:A):if true=true then A else B:=by
  rw [if_pos rfl]
  exact h
def aw(H H':Hp):Prop:=∀b o,H b=some o→H' b=some o
theorem aw.refl(H:Hp):aw H H:=fun _ _ h=>h
theorem aw.trans{H H1 H2:Hp}(a:aw H H1)(b:aw H1 H2):aw H H2:=fun c o h=>b c o (a c o h)
theorem aw.free{H H':Hp}(e:aw H H'){l:Addr}(h:H' l=Option.none):H l=Option.none:=by
  cases q:H l with
  | none=>rfl
  | some o=>
    rw [e l o q] at h
    cases h
theorem aw.seq{K:PySem.W.Frag}{H H':Hp}{a:Addr}{xs:List V}(e:aw H H')(h:dg K H a xs):dg K H' a xs:=by
  rcases h with (h | ⟨o,h⟩) | h
  · exact .inl (.inl (e _ _ h))
  · exact .inl (.inr ⟨o,e _ _ h⟩)
  · exact .inr h
end L2
set_option maxHeartbeats 4000000
namespace L2
open PySem PySem.Spec PyProof.Rows
def Bt(n:Nat)(i:Int):Prop:=i.natAbs < 2 ^ n
theorem Bt.mono{m n:Nat}{i:Int}(h:Bt m i)(hm:m≤n):Bt n i:=Nat.lt_of_lt_of_le h (Nat.pow_le_pow_right (by decide) hm)
theorem Bt.mul{m n:Nat}{i j:Int}(h:Bt m i)(h':Bt n j):Bt (m+n) (i*j):=by
  unfold Bt at*
  rw [Int.natAbs_mul,Nat.pow_add]
  exact Nat.mul_lt_mul'' h h'
theorem Bt.add{m:Nat}{i j:Int}(h:Bt m i)(h':Bt m j):Bt (m+1) (i+j):=by
  unfold Bt at*
  have e:(2:Nat) ^ (m+1)=2 ^ m+2 ^ m:=by rw [Nat.pow_succ];lia
  rw [e]
  have:=Int.natAbs_add_le i j
  lia
theorem Bt.log{m:Nat}{i:Int}(h:Bt m i)(hm:0 < m):i.natAbs.log2 < m:=by
  unfold Bt at h
  rcases Nat.eq_zero_or_pos i.natAbs with h0 | hp
  · rw [h0];exact hm
  · exact(Nat.log2_lt (by lia)).mpr h
theorem Bt.bits{m:Nat}{i:Int}(h:Bt m i)(hm:0 < m):Builtin.Int.intBits i≤m:=by
  unfold Builtin.Int.intBits
  split
  · exact Nat.zero_le _
  · exact h.log hm
theorem Bt.of_le{m:Nat}{i:Int}{j:Int}(h:Bt m j)(e:i.natAbs≤j.natAbs):Bt m i:=Nat.lt_of_le_of_lt e h
section
variable{X:Cx}
def Ae(i j:Int):Prop:=Bt 4000 i∧Bt 4000 j
theorem zb:fV X (binaryOp .Mult) (rI Ae fun i j=>.int (i*j)):=Dw fun _ _ _ _ _ _ _ hc q=>
  mul_int q (.of_bits (Nat.le_trans (hc.1.bits (by decide)) (by decide)) (Nat.le_trans (hc.2.bits (by decide)) (by decide)))
def Ad(i j:Int):Prop:=j≠0∧Bt 8000 j
theorem wU:fV X (binaryOp .FloorDiv) (rI Ad fun i j=>.int (i.fdiv j)):=Dw fun _ _ _ _ _ _ _ hc q=>
  floordiv_int hc.1 q (.inl (PyProof.noPylong_of_log2 (Nat.lt_trans (hc.2.log (by decide)) (by decide))))
theorem BA:fV X (compareOp .Is) (fun x y H Q=>∃b c,x=.bl b∧y=.bl c∧Q (.bl (b==c)) H):=by
  intro pins s σ H x y v u Q I rx ry h
  obtain⟨b,c,rfl,rfl,q⟩:=h
  cases rx;cases ry
  exact is_bool ⟨.bl _,H,I,rfl,q⟩
end
def k7(H H':Hp):Prop:=∀a o,H a=some o→(∀xs,o≠.lst xs)→(∀ob xs,o≠.frz ob (.lst xs))→H' a=some o
theorem k7.trans{H H1 H2:Hp}(a:k7 H H1)(b:k7 H1 H2):k7 H H2:=fun c o h n m=>b c o (a c o h n m) n m
theorem aw.ts{H H':Hp}(h:aw H H'):k7 H H':=fun a o e _ _=>h a o e
theorem k7.tup{K:PySem.W.Frag}{H H':Hp}(h:k7 H H'){a:Addr}{xs:List V}(q:cD K H a xs):cD K H' a xs:=by
  rcases q with (q | ⟨o,q⟩) | q
  · exact .inl (.inl (h _ _ q (fun _ e=>nomatch e) (fun _ _ e=>nomatch e)))
  · exact .inl (.inr ⟨o,h _ _ q (fun _ e=>nomatch e) (fun _ _ e=>nomatch e)⟩)
  · exact .inr q
section
variable{X:Cx}
end
end L2
namespace L2
open PySem PySem.Spec PyProof.Rows
structure aX (K:PySem.W.Frag) (mg:Str→Option Value) (x:Str) (st:Stmt) (f:Addr) (fd:FuncData) (ps:List Str):Prop where
  F:CJ K x x st f fd
  m:mg x=some (.ref f)
  b:m9 K fd ps []
theorem A0{K:PySem.W.Frag}{mg:Str→Option Value}{h:Heap}{x:Str}{st:Stmt}{f:Addr}{ps:List Str}{oc:Value}{od an:Option Addr}{osl:Array (Option Value)}{kV doc pm cdv ct:Value}(X:K.In h)(G:h.Ns mainGlobals mg)(a:PySem.W.nsIn K mainGlobals x=some (some (.ref f)))
    (l:K.lookup f=some ⟨oc,od,.func (PySem.W.fnOf x x (dI st) (cR st) (am st) .none kV doc pm an cdv ct),osl⟩)(c:PySem.W.codeIn K cdv x=true)(k:PySem.W.keepIn K (.ref f)=true)
    (hb:∀(kV doc pm:Value) (an:Option Addr) (cdv ct:Value) (us:List Value),us.length=ps.length→bindArgs (PySem.W.fnOf x x (dI st) (cR st) (am st) .none kV doc pm an cdv ct) ⟨us,[]⟩=pure (ps.zip us)):
    aX K mg x st f (PySem.W.fnOf x x (dI st) (cR st) (am st) .none kV doc pm an cdv ct) ps:=⟨vT l c k,PySem.W.mg_of X G a,(vT l c k).binds hb⟩
theorem E8{X:Cx}{x:Str}{st:Stmt}{f:Addr}{fd:FuncData}{ps:List Str}{k:Nat}{sp:Sp}{e:Expr}{es:List Expr}{t:TA}{p pos:Pos}(h:aX X.K X.mg x st f fd ps)(G:aC X.prog X.w X.K X.mg X.base bH k f fd ps sp)(hr:cZ k X.A)(ha:PA X (e::es) t)
    (hg:Gl X x:=by rfl)(hdb:(x==("__debug__":Str))=false:=by decide)(he:starEach (e::es) X.env=(false,eval e X.env)::starEach es X.env:=by rfl)(hpl:(backTo pos (starEach es X.env)).any (·.1)=false:=by rfl):
    PE X (.Call (.Name x p) (e::es) [] pos) (xX sp [] E0 t):=zh G hr hg h.m h.F.kp h.b .nil DC ha hdb he hpl
theorem aw.new{H:Hp}{p:Addr}{o:HO}(h:H p=none):aw H (a_ H p o):=fun b u e=>by
  rw [aI (eh e h)];exact e
theorem aw.tup{K:PySem.W.Frag}{H H':Hp}{a:Addr}{xs:List V}(e:aw H H')(h:cD K H a xs):cD K H' a xs:=e.ts.tup h
end L2
namespace L2
open PySem PySem.Spec PyProof.Rows
def lowM(t b:Int):Int × Int:=if b < 0 then(t.fdiv (-(Int.gcd t b:Int)),b.fdiv (-(Int.gcd t b:Int))) else(t.fdiv (Int.gcd t b:Int),b.fdiv (Int.gcd t b:Int))
theorem p7(x y:Int):Int.gcd y (x.fmod y)=Int.gcd x y:=by
  rw [Int.fmod_def,Int.gcd_sub_mul_left_right,Int.gcd_comm]
theorem fD(x:Int){y:Int}(h:y≠0):(x.fmod y).natAbs < y.natAbs:=by
  rcases Int.lt_or_gt_of_ne h with h | h
  · have h1:x.fmod y= -((-x).fmod (-y)):=by
      have:=Int.neg_fmod_neg x y
      lia
    have h2:=Int.fmod_nonneg_of_pos (-x) (b:= -y) (by lia)
    have h3:=Int.fmod_lt_of_pos (-x) (b:= -y) (by lia)
    lia
  · have h2:=Int.fmod_nonneg_of_pos x h
    have h3:=Int.fmod_lt_of_pos x h
    lia
theorem oU{t b:Int}(h:b≠0):(0:Int) < Int.gcd t b:=by
  have:=Int.gcd_pos_of_ne_zero_right t h
  lia
theorem gu{t b:Int}(h:b≠0):∃d:Int,d.natAbs=Int.gcd t b∧d≠0∧(lowM t b).1*d=t∧(lowM t b).2*d=b∧0 < (lowM t b).2:=by
  have hg:=oU (t:=t) h
  have d1:(Int.gcd t b:Int) ∣ t:=Int.gcd_dvd_left ..
  have d2:(Int.gcd t b:Int) ∣ b:=Int.gcd_dvd_right ..
  unfold lowM
  split
  · rename_i hb
    have e1:t.fdiv (-(Int.gcd t b:Int))*(-(Int.gcd t b:Int))=t:=Int.fdiv_mul_cancel (Int.neg_dvd.mpr d1)
    have e2:b.fdiv (-(Int.gcd t b:Int))*(-(Int.gcd t b:Int))=b:=Int.fdiv_mul_cancel (Int.neg_dvd.mpr d2)
    refine⟨-(Int.gcd t b:Int),by lia,by lia,e1,e2,?_⟩
    show 0 < b.fdiv (-(Int.gcd t b:Int))
    have h3:b.fdiv (-(Int.gcd t b:Int))*(Int.gcd t b:Int)= -b:=by rw [Int.mul_neg] at e2;lia
    exact Int.pos_of_mul_pos_left (by lia) (by lia) (b:=(Int.gcd t b:Int))
  · rename_i hb
    have e1:t.fdiv (Int.gcd t b:Int)*(Int.gcd t b:Int)=t:=Int.fdiv_mul_cancel d1
    have e2:b.fdiv (Int.gcd t b:Int)*(Int.gcd t b:Int)=b:=Int.fdiv_mul_cancel d2
    refine⟨(Int.gcd t b:Int),by lia,by lia,e1,e2,?_⟩
    show 0 < b.fdiv (Int.gcd t b:Int)
    exact Int.pos_of_mul_pos_left (by lia) (by lia) (b:=(Int.gcd t b:Int))
theorem jM{t b:Int}(h:b≠0):Int.gcd (lowM t b).1 (lowM t b).2=1:=by
  obtain⟨d,h1,h2,h3,h4,h5⟩:=gu (t:=t) h
  have e:Int.gcd ((lowM t b).1*d) ((lowM t b).2*d)=Int.gcd (lowM t b).1 (lowM t b).2*d.natAbs:=Int.gcd_mul_right ..
  rw [h3,h4,←h1] at e
  have hd:0 < d.natAbs:=by lia
  exact(Nat.eq_of_mul_eq_mul_right hd (by rw [Nat.one_mul];exact e)).symm
theorem dw{t b:Int}(h:b≠0):(lowM t b).1*b=(lowM t b).2*t:=by
  obtain⟨d,h1,h2,h3,h4,h5⟩:=gu (t:=t) h
  generalize (lowM t b).1=x at*
  generalize (lowM t b).2=y at*
  subst h3 h4
  rw [←Int.mul_assoc,←Int.mul_assoc,Int.mul_comm x]
theorem wj{t b:Int}(h:b≠0){n:Nat}(hb:Bt n b):Bt n (Int.gcd t b:Int):=by
  refine hb.of_le ?_
  have h1:=Nat.le_of_dvd (show 0 < b.natAbs by lia) (Int.ofNat_dvd.mp (by rw [Int.dvd_natAbs];exact Int.gcd_dvd_right t b))
  lia
mutual
def cnt:PyData→Nat
  | .tuple ds=>1+jd ds
  | .str _=>0
  | _=>1
def jd:List PyData→Nat
  | []=>0
  | d::ds=>cnt d+jd ds
end
mutual
def ml:PyData→Bool
  | .tuple ds=>gy ds
  | .str _=>false
  | .list _=>false
  | .dict _=>false
  | _=>true
def gy:List PyData→Bool
  | []=>true
  | d::ds=>ml d&&gy ds
end
theorem m5{a:Int}(h:a.natAbs.log2 < 1920):(Str.ofString (toString a)).length≤1921:=by
  have e:=int_text_length_le (k:=1920) (by decide) h
  rw [PySem.ofString_length];lia
theorem gZ(x:Str)(r:List Str):piled (x::r)=x.length+2+piled r:=by
  simp [piled]
theorem kW(ts:List Str):(tupleText ts).length≤piled ts+3:=by
  unfold tupleText
  rw [strLen_append,strLen_append]
  have h1:(("(":Str)).length=1:=by decide
  have h2:(Str.ofString (if (ts.length==1)=true then ",)" else ")")).length≤2:=by split<;>decide
  have h3:(Str.join ", " ts).length≤piled ts:=by
    cases ts with
    | nil=>show(Str.join ", " []).length≤0;decide
    | cons x r=>have:=join_length_add (x::r) (by simp);lia
  lia
mutual
theorem nV:∀{d:PyData},ml d=true→d.showable=true→d.shown.length+2≤2000*cnt d
  | .none,_,_=>by show(Str.ofString "None").length+2≤2000*1;decide
  | .bool b,_,_=>by
    cases b
    · show(Str.ofString "False").length+2≤2000*1;decide
    · show(Str.ofString "True").length+2≤2000*1;decide
  | .int i,_,hs=>by
    simp only [PyData.showable,decide_eq_true_eq] at hs
    have:=m5 hs
    show(Str.ofString (toString i)).length+2≤2000*1
    lia
  | .tuple ds,hn,hs=>by
    simp only [PyData.showable] at hs
    simp only [ml] at hn
    have h1:=j9 hn hs
    have h2:=kW (PyData.shownAll ds)
    simp only [PyData.shown,cnt]
    lia
  | .str _,hn,_=>by simp [ml] at hn
  | .list _,hn,_=>by simp [ml] at hn
  | .dict _,hn,_=>by simp [ml] at hn
theorem j9:∀{ds:List PyData},gy ds=true→PyData.showableAll ds=true→piled (PyData.shownAll ds)≤2000*jd ds
  | [],_,_=>by simp [PyData.shownAll,piled]
  | d::ds,hn,hs=>by
    simp only [gy,Bool.and_eq_true] at hn
    simp only [PyData.showableAll,Bool.and_eq_true] at hs
    have h1:=nV hn.1 hs.1
    have h2:=j9 hn.2 hs.2
    simp only [PyData.shownAll,jd,gZ]
    lia
end
end L2
namespace L2
open PySem PySem.Spec PyProof.Rows
def io(env:Env):List (Str × NameKind)→List (Str × Addr)→List (Str × Addr)
  | [],cs=>cs
  | (n,k)::r,cs=>io env r (if k==.free then(n,(env.cells.lookup n).getD 0)::cs else cs)
theorem jC{env:Env}:∀(names:List (Str × NameKind)) (cs:List (Str × Addr)),(∀y∈names,y.2=.free→∃c,env.cells.lookup y.1=some c)→
    (forIn names cs (fun(x:Str × NameKind) (r:List (Str × Addr))=>(if (x.2==NameKind.free)=true then do let a ←cellOf env x.1;pure (ForInStep.yield ((x.1,a)::r)) else pure (ForInStep.yield r):Sem (ForInStep (List (Str × Addr))))):Sem (List (Str × Addr)))=pure (io env names cs)
  | [],cs,_=>rfl
  | (n,k)::r,cs,h=>by
    rw [List.forIn_cons]
    have ih:=fun cs'=>jC (env:=env) r cs' (fun y hy=>h y (List.mem_cons_of_mem _ hy))
    by_cases hk:(k==NameKind.free)=true
    · have hk':k=.free:=by simpa using hk
      obtain⟨c,hc⟩:=h (n,k) List.mem_cons_self hk'
      have e:cellOf env n=pure c:=by unfold cellOf;rw [hc]
      simp only [hk,if_true,e,pure_bind,io,hc,Option.getD_some]
      exact ih _
    · have hk':(k==NameKind.free)=false:=by simpa using hk
      simp only [hk',Bool.false_eq_true,if_false,pure_bind,io]
      exact ih _
theorem lR{scope:Scope}{env:Env}(h:∀y∈scope.names,y.2=.free→∃c,env.cells.lookup y.1=some c):closureFor scope env=pure (io env scope.names []):=by
  have e:=jC (env:=env) scope.names [] h
  unfold closureFor
  simp only [pure_bind,bind_pure] at e ⊢
  exact e
theorem jc{env:Env}:∀(names:List (Str × NameKind)) (cs:List (Str × Addr)) (x:Str) (c:Addr),(∀y∈names,y.2=.free→∃c,env.cells.lookup y.1=some c)→(∀x c,cs.lookup x=some c→env.cells.lookup x=some c)→(io env names cs).lookup x=some c→env.cells.lookup x=some c
  | [],cs,x,c,_,hs,h=>hs x c h
  | (n,k)::r,cs,x,c,hn,hs,h=>by
    refine jc r _ x c (fun y hy=>hn y (List.mem_cons_of_mem _ hy)) (fun x' c' e=>?_) h
    by_cases hk:(k==NameKind.free)=true
    · rw [if_pos hk] at e
      obtain⟨c0,hc⟩:=hn (n,k) List.mem_cons_self (by simpa using hk)
      rw [List.lookup_cons] at e
      cases hx:x'==n with
      | true=>
        rw [hx] at e
        have e1:x'=n:=by simpa using hx
        subst e1
        simp only [hc,Option.getD_some,Option.some.injEq] at e
        rw [←e];exact hc
      | false=>rw [hx] at e;exact hs x' c' e
    · rw [if_neg hk] at e
      exact hs x' c' e
theorem lQ{env:Env}:∀(names:List (Str × NameKind)) (cs:List (Str × Addr)) (x:Str),((∃y∈names,y.1=x∧y.2=.free)∨∃c,cs.lookup x=some c)→∃c,(io env names cs).lookup x=some c
  | [],cs,x,h=>by
    rcases h with ⟨y,hy,_⟩ | h
    · cases hy
    · exact h
  | (n,k)::r,cs,x,h=>by
    refine lQ r _ x ?_
    by_cases hk:(k==NameKind.free)=true
    · rw [if_pos hk,List.lookup_cons]
      cases hx:x==n with
      | true=>exact .inr ⟨_,rfl⟩
      | false=>
        rcases h with ⟨y,hy,e1,e2⟩ | h
        · rcases List.mem_cons.mp hy with z | z
          · subst z;subst e1;simp at hx
          · exact .inl ⟨y,z,e1,e2⟩
        · exact .inr h
    · rw [if_neg hk]
      rcases h with ⟨y,hy,e1,e2⟩ | h
      · rcases List.mem_cons.mp hy with z | z
        · subst z;exact absurd (by simpa using e2) hk
        · exact .inl ⟨y,z,e1,e2⟩
      · exact .inr h
theorem dQ{env:Env}:∀{names:List (Str × NameKind)} {x:Str},(∀y∈names,y.2≠.cell)→(names.map fun(n,k)=>if (k==NameKind.free&&env.scope.kind==.function&&env.kindOf n==some .cell) then(n,NameKind.cell) else(n,k)).lookup x=some .cell∨
    (names.map fun(n,k)=>if (k==NameKind.free&&env.scope.kind==.function&&env.kindOf n==some .cell) then(n,NameKind.cell) else(n,k)).lookup x=some .free→∃y∈names,y.1=x∧y.2=.free
  | [],x,_,h=>by simp at h
  | (n,k)::r,x,hc,h=>by
    have ih:=@dQ env r x (fun y hy=>hc y (List.mem_cons_of_mem _ hy))
    have nc:k≠.cell:=hc (n,k) List.mem_cons_self
    rw [List.map_cons] at h
    cases hx:x==n with
    | true=>
      have e1:x=n:=by simpa using hx
      subst e1
      refine⟨(x,k),List.mem_cons_self,rfl,?_⟩
      by_cases q:(k==NameKind.free&&env.scope.kind==.function&&env.kindOf x==some .cell)=true
      · simp only [Bool.and_eq_true,beq_iff_eq] at q;exact q.1.1
      · simp only [q,Bool.false_eq_true,if_false,List.lookup_cons,beq_self_eq_true,Option.some.injEq] at h
        rcases h with h | h
        · exact absurd h nc
        · exact h
    | false=>
      have e2:∀(l:List (Str × NameKind)),((if (k==NameKind.free&&env.scope.kind==.function&&env.kindOf n==some .cell)=true then(n,NameKind.cell) else(n,k))::l).lookup x=l.lookup x:=fun l=>by
        split<;>simp [List.lookup_cons,hx]
      simp only [e2] at h
      obtain⟨y,hy,z⟩:=ih h
      exact⟨y,List.mem_cons_of_mem _ hy,z⟩
theorem eH{env:Env}:∀{names:List (Str × NameKind)} {x:Str},names.lookup x=some .free→
    (names.map fun(n,k)=>if (k==NameKind.free&&env.scope.kind==.function&&env.kindOf n==some .cell) then(n,NameKind.cell) else(n,k)).lookup x≠some .local
  | [],x,h=>by simp at h
  | (n,k)::r,x,h=>by
    rw [List.map_cons]
    cases hx:x==n with
    | true=>
      simp only [hx,List.lookup_cons] at h
      cases h
      show List.lookup x ((if (NameKind.free==NameKind.free&&env.scope.kind==.function&&env.kindOf n==some .cell)=true then(n,NameKind.cell) else(n,NameKind.free))::_)≠_
      split<;>simp [List.lookup_cons,hx]
    | false=>
      simp only [hx,List.lookup_cons] at h
      have ih:=@eH env r x h
      have e2:∀(l:List (Str × NameKind)),((if (k==NameKind.free&&env.scope.kind==.function&&env.kindOf n==some .cell)=true then(n,NameKind.cell) else(n,k))::l).lookup x=l.lookup x:=fun l=>by
        split<;>simp [List.lookup_cons,hx]
      simp only [e2]
      exact ih
def aQ(X:Cx)(scope:Scope)(cp:List (Nat × Str))(tgN:List Str)(C:Addr)(s0:Shared)(H0:Hp)(fp:List Addr):Cx where
  prog:=X.prog
  w:=X.w
  K:=X.K
  mg:=X.mg
  base:=X.base
  A:=X.A
  N:=cp.map (·.2)++tgN
  s₀:=s0
  H₀:=H0
  env:=compEnvC scope (io X.env scope.names []) C X.env
  outer:=X.stack
  stack:=X.stack
  ex:=fp
  fn:=fun x=>scope.names.lookup x==some .local
  calm:=X.calm
  pn:=[]
  xe:=fun _ _=>False
def vc(X:Cx)(ifs:List Expr)(t:TT):Prop:=
  ∀(pins:List (Addr × Obj)) (s:Shared) (σ:L2.St) (H:Hp) (Q:Bool→Hp→Prop),aF X pins σ H s→t σ H Q→
    wpAny (model X.prog X.w) X.A (forIn ifs true fun c r=>if r=true then do let ok ←isTrue c X.env (eval c X.env);pure (ForInStep.yield ok) else pure (ForInStep.yield r)) (TP X pins σ Q) X.xe s
theorem zG{X:Cx}:vc X [] (fun _ H Q=>Q true H):=fun _ _ _ H _ I h=>wpAny_tests_nil ⟨H,I,h⟩
theorem zH{X:Cx}{c:Expr}{t:TT}(h:PT X c t):vc X [c] t:=fun pins s σ H Q I q=>wpAny_tests_one (h pins s σ H Q I q)
abbrev CN:Value→Shared→Prop:=fun _ _=>False
def AW(prog:Program)(w:World)(A:Around)(elt tg:Expr)(ifs:List Expr)(env:Env)(it acc:Value)(onward:Shared→Prop)(v:Value)(u:Shared):Prop:=
  wpAny (model prog w) A (letOwnedTupleGo tg it v) (fun _ u1=>wpAny (model prog w) A (assign tg env v) (fun _ u2=>wpAny (model prog w) A
    (forIn ifs true fun c r=>if r=true then do let ok ←isTrue c env (eval c env);pure (ForInStep.yield ok) else pure (ForInStep.yield r)) (fun ok u3=>if ok=true then wpAny (model prog w) A (eval elt env) (fun x u4=>wpAny (model prog w) A (call (.builtin "list.append") [acc,x]) (fun _ u5=>onward u5) CN u4) CN u3 else onward u3) CN u2) CN u1) CN u
theorem jD{prog:Program}{w:World}{A:Around}{R:Result→Shared→Prop}{elt tg iter:Expr}{ifs:List Expr}{scope:Scope}{pos:Pos}{it acc:Value}{env:Env}(J:Nat→Shared→Prop)
    (turn:∀n u,J n u→wpAny (model prog w) A (pyNext it) (fun r u1=>(r=none→R (.ok .next) u1)∧∀v,r=some v→AW prog w A elt tg ifs env it acc (fun u2=>∃m,m < n∧J m u2) v u1) CN u){n0:Nat}{u0:Shared}(ii:J n0 u0):
    codeAny (model prog w) A (.compLoop (.ListComp elt [⟨tg,iter,ifs,0⟩] scope pos) 0 it acc env) R u0:=by
  refine codeAny_loop rfl J (fun n u ju=>?_) n0 ii
  show wpAny _ A ((compTurn (.ListComp elt [⟨tg,iter,ifs,0⟩] scope pos) 0 it acc env).onRaise _) _ _ u;refine wpAny_noted ?_;rw [compTurn_list]
  refine wpAny_bind (wpAny_standAt (wpAny_bind (wpAny_mono (turn n u ju) (fun r u1 k1=>?_) fun _ _ z=>z.elim)))
  cases r with
  | none=>exact wpAny_pure (k1.1 rfl)
  | some v=>
    refine wpAny_bind (wpAny_mono (k1.2 v rfl) (fun _ u2 k2=>wpAny_bind (wpAny_mono k2 (fun _ u3 k3=>wpAny_bind (wpAny_mono k3 (fun ok u4 k4=>?_) fun _ _ z=>z.elim)) fun _ _ z=>z.elim)) fun _ _ z=>z.elim)
    cases ok with
    | false=>rw [if_neg Bool.false_ne_true] at k4;exact wpAny_pure ⟨rfl,k4⟩
    | true=>
      rw [if_pos rfl] at k4
      refine wpAny_bind (wpAny_bind (wpAny_mono k4 (fun x u5 k5=>wpAny_bind (wpAny_mono k5 (fun _ u6 k6=>?_) fun _ _ z=>z.elim)) fun _ _ z=>z.elim));exact wpAny_pure (wpAny_pure ⟨rfl,k6⟩)
def gF(cp:List (Nat × Str))(nT:Nat)(σ:L2.St):L2.St:=cp.map (fun p=>(σ[p.1]?).join)++List.replicate nT none
structure tP (cp:List (Nat × Str)) (nT:Nat) (wi:TI) (g:TG) (tc:TT) (te:TE) (σ:L2.St) (H:Hp) (Q:VK):Prop where
  go:wi σ H fun J H1=>∀l,H1 l=none→
  ∃W:Nat→Nat→L2.St→Hp→Prop,(∃m,W 0 m (gF cp nT σ) (a_ H1 l (.lst [])))∧∀i m σ' H',W i m σ' H'→
    (J.stop i H'∧Q (.ref l) H')∨(J.go i H'∧∃N:L2.St→Hp→Prop,(∀σ2 H2,N σ2 H2→∃m',m' < m∧W (i+1) m' σ2 H2)∧
      ∀x H2,J.yld i H' x H2→g x σ' H2 fun σ2 H3=>tc σ2 H3 fun b H4=>if b=true then te σ2 H4 fun v H5=>∃ys,H5 l=some (.lst ys)∧ys.length < sizeLine∧N σ2 (a_ H5 l (.lst (ys++[v]))) else N σ2 H4)
theorem zm{X:Cx}{elt iter tg:Expr}{ifs:List Expr}{scope:Scope}{pos:Pos}{wi:TI}{g:TG}{tc:TT}{te:TE}(sc0:Scope)(N0:List Str)(cp:List (Nat × Str))(tgN:List Str)
    (hc:X.calm=true)(hsc:X.env.scope=sc0)(hN0:X.N=N0)(hi:PI X tg iter wi)
    (hg:∀C s0 H0 fp,PG (aQ X scope cp tgN C s0 H0 fp) tg g)
    (ht:∀C s0 H0 fp,vc (aQ X scope cp tgN C s0 H0 fp) ifs tc)
    (he:∀C s0 H0 fp,PE (aQ X scope cp tgN C s0 H0 fp) elt te)
    (hk:scope.kind=.function)(hcell:∀y∈scope.names,y.2≠.cell)(hnames:∀y∈scope.names,y.2=.local→scope.names.lookup y.1=some .local)
    (hfr:∀y∈scope.names,y.2=.free→scope.names.lookup y.1=some .free∧sc0.names.lookup y.1=some .cell)
    (hcp:∀p∈cp,N0[p.1]?=some p.2)(hcq:∀p∈cp,sc0.names.lookup p.2=some .cell∧scope.names.lookup p.2=some .free)
    (hs:∀x,foldedSetIterable iter X.env x=pure x:=by intro _;rfl):
    PE X (.ListComp elt [⟨tg,iter,ifs,0⟩] scope pos) (tP cp tgN.length wi g tc te):=by
  intro pins s σ H Q I h
  have hkind:∀x,X.env.kindOf x=sc0.names.lookup x:=fun x=>by unfold Env.kindOf;rw [hsc]
  have hfree:∀y∈scope.names,y.2=.free→∃c,X.env.cells.lookup y.1=some c:=fun y hy e=>I.ok.has y.1 (.inl (by rw [hkind];exact(hfr y hy e).2))
  rw [eval_ListComp]
  refine wpAny_comprehension_free (use:=none) rfl hs (lR hfree) hk hnames (wpAny_mono (hi pins s σ H _ I h.go) (fun xv s₁ h₁=>wpAny_mono h₁ (fun itv s₂ h₂=>?_) fun _ _ e=>e) fun _ _ e=>e)
  obtain⟨it,fp,tn,J,H2,rfl,I2,T,st2,f2,hq⟩:=h₂
  refine wpAny_newObj_type ?_
  have hlF:H2 s₂.heap.objs.size=none:=I2.hok.fresh (Nat.le_refl _)
  have I3:aF X pins σ (a_ H2 s₂.heap.objs.size (.lst [])) {s₂ with heap:=s₂.heap.push {cls:=.type "list",data:=.seq ([]:List Value).toArray}}:=I2.lnew (t':=s₂.toks) .nil (Nat.zero_le _)
  obtain⟨W,⟨m0,w0⟩,turn⟩:=hq _ hlF
  have f3:∀b∈fp,ij X pins (a_ H2 s₂.heap.objs.size (.lst [])) b:=fun b hb=>by
    obtain⟨f0,fr⟩:=f2 b hb
    obtain⟨o,ho,_⟩:=T.obj _ _ st2 b hb
    exact⟨by rw [aI (Nat.ne_of_lt (Heap.lt_size ho))];exact f0,fr⟩
  have st3:tn 0 (s₂.heap.push {cls:=.type "list",data:=.seq ([]:List Value).toArray}):=T.keep _ _ _ st2 fun b _ o e=>Heap.get?_push_of_some _ e
  generalize hD:s₂.heap.objs.size=D at*
  generalize hs3:({s₂ with heap:=s₂.heap.push {cls:=.type "list",data:=.seq ([]:List Value).toArray}}:Shared)=s₃ at*
  have hst3:tn 0 s₃.heap:=by rw [←hs3];exact st3
  refine wpAny_newFunctionEnv hcell (by intro y hy;simp at hy) (fun h₁ hns₁ hsb₁=>?_) hk
  generalize hC:s₃.heap.objs.size=C at*
  have old:∀b o,s₃.heap.get? b=some o→h₁.get? b=some o:=fun b o e=>hsb₁.extBut b o (by rw [←hC];exact Nat.ne_of_lt (Heap.lt_size e)) (Heap.get?_push_of_some _ e)
  have nC:∀b o,s₃.heap.get? b=some o→b≠C:=fun b o e=>by rw [←hC];exact Nat.ne_of_lt (Heap.lt_size e)
  have hHC:(a_ H2 D (.lst [])) C=none:=I3.hok.fresh (by rw [hC];exact Nat.le_refl _)
  have clS:∀x c,(io X.env scope.names []).lookup x=some c→X.env.cells.lookup x=some c:=fun x c e=>jc _ _ x c hfree (fun _ _ z=>by simp at z) e
  have clH:∀x,(∃y∈scope.names,y.1=x∧y.2=.free)→∃c,(io X.env scope.names []).lookup x=some c:=fun x e=>lQ _ _ x (.inl e)
  have ok':(aQ X scope cp tgN C s₃ (a_ H2 D (.lst [])) fp).Ok:=by
    refine⟨I.ok.mod,hk,I.ok.glob,I.ok.blt,by rw [←hC];exact Nat.le_refl _,fun x y c e1 e2=>I.ok.inj x y c (clS _ _ e1) (clS _ _ e2),fun x e=>clH x (dQ hcell e),fun x c e1 e2=>?_,I.ok.hd,I.ok.frames,.inl rfl,fun b hb=>?_,fun b o e=>I3.bs b o e,?_,fun b o e hb=>?_,fun b hb z=>?_,I3.stack,fun b hb=>I3.stkFree b hb⟩
    · exfalso
      have e1':scope.names.lookup x=some .local:=by simpa [aQ] using e1
      have e2':=clS x c e2
      obtain⟨c',hc'⟩:∃y∈scope.names,y.1=x∧y.2=.free:=by
        by_cases q:∃y∈scope.names,y.1=x∧y.2=.free
        · exact q
        · exfalso
          have:∀(names:List (Str × NameKind)) (cs:List (Str × Addr)),(¬∃y∈names,y.1=x∧y.2=.free)→cs.lookup x=none→(io X.env names cs).lookup x=none:=by
            intro names
            induction names with
            | nil=>intro cs _ h;exact h
            | cons y r ih=>
              intro cs hn hcs
              obtain⟨n,k⟩:=y
              refine ih _ (fun⟨y,hy,z⟩=>hn ⟨y,List.mem_cons_of_mem _ hy,z⟩) ?_
              by_cases hk:(k==NameKind.free)=true
              · rw [if_pos hk,List.lookup_cons]
                cases hx:x==n with
                | true=>exact absurd ⟨(n,k),List.mem_cons_self,(by simpa using hx:x=n).symm,by simpa using hk⟩ hn
                | false=>exact hcs
              · rw [if_neg hk];exact hcs
          have z:=this scope.names [] q rfl
          have e2'':(io X.env scope.names []).lookup x=some c:=e2
          rw [z] at e2'';cases e2''
      have z:=(hfr c' hc'.1 hc'.2.2).1
      rw [hc'.2.1,e1'] at z;cases z
    · obtain⟨f0,f1,f4,f5,f6,f7⟩:=f3 b hb
      obtain⟨o,ho,_⟩:=T.obj _ _ hst3 b hb
      exact⟨nC b o ho,fun x c e=>f6 x c (clS x c e)⟩
    · exact Nat.le_trans I.ok.bsz I3.sz
    · obtain⟨f0,f1,f4,f5,f6,f7⟩:=f3 b hb
      rcases f5 with z | z
      · exact I.ok.noex b o e z
      · have:=(I.ok.bs b o e).1
        exact absurd (Nat.lt_of_lt_of_le (Heap.lt_size this) z) (Nat.lt_irrefl _)
    · obtain⟨f0,f1,f4,f5,f6,f7⟩:=f3 b hb
      rcases List.mem_cons.mp (I3.stkSub b z) with z | z
      · exact f1 z
      · exact f4 z
  have I4:aF (aQ X scope cp tgN C s₃ (a_ H2 D (.lst [])) fp) [] (gF cp tgN.length σ) (a_ H2 D (.lst [])) {s₃ with heap:=h₁,toks:=s₃.toks+([]:List (Str × Value)).length}:=by
    refine⟨ok',rfl,I3.bare,Un.kept old,⟨_,hns₁,fun i x v e1 e2 e3=>?_⟩,fun x c e=>?_,hHC,fun x c e=>I3.freeC x c (clS x c e),fun p hp=>by simp [aQ] at hp,I3.hok.kept old,by simp [gF,aQ]⟩
    · have hlt:i < cp.length:=by
        by_cases q:i < cp.length
        · exact q
        · exfalso
          unfold gF at e2
          rw [List.getElem?_append_right (by simp;lia)] at e2
          rw [List.getElem?_replicate] at e2
          split at e2<;>cases e2
      have e1':(cp.map (·.2))[i]?=some x:=by
        have e1'':(cp.map (·.2)++tgN)[i]?=some x:=e1
        rwa [List.getElem?_append_left (by simp;exact hlt)] at e1''
      have e2':(cp.map (fun p=>(σ[p.1]?).join))[i]?=some (some v):=by
        unfold gF at e2
        rwa [List.getElem?_append_left (by simp;exact hlt)] at e2
      rw [List.getElem?_map,List.getElem?_eq_getElem hlt] at e1' e2'
      have ex:(cp[i]).2=x:=by simpa using e1'
      have ev:(σ[(cp[i]).1]?).join=some v:=by simpa using e2'
      have ev':σ[(cp[i]).1]?=some (some v):=by
        cases q:σ[(cp[i]).1]? with
        | none=>rw [q] at ev;cases ev
        | some z=>rw [q] at ev;simp only [Option.join_some] at ev;rw [ev]
      have hN:=hcp cp[i] (List.getElem_mem hlt)
      rw [←hN0] at hN
      obtain⟨hcl,hcf⟩:=hcq cp[i] (List.getElem_mem hlt)
      rw [ex] at hN hcl hcf
      obtain⟨m,hn,hl⟩:=I3.loc
      obtain⟨u,r,l⟩:=hl _ x v hN ev' (.inr (.inl (by rw [hsc];exact hcl)))
      refine⟨u,r,.inr ?_⟩
      rcases l with ⟨k1,_⟩ | ⟨k1,c,hcc,o,ho,hd⟩
      · rw [hkind,hcl] at k1;cases k1
      · have e3':(relabel scope X.env).names.lookup x=some .local∨(relabel scope X.env).names.lookup x=some .cell∨(relabel scope X.env).names.lookup x=some .free:=e3
        have nl:(relabel scope X.env).names.lookup x=some .cell∨(relabel scope X.env).names.lookup x=some .free:=by
          rcases e3' with z | z | z
          · exact absurd z (eH hcf)
          · exact .inl z
          · exact .inr z
        obtain⟨c',hc'⟩:=clH x (dQ hcell nl)
        have:=clS x c' hc'
        rw [hcc] at this;cases this
        exact⟨nl,c,hc',o,old c o ho,hd⟩
    · obtain⟨v,o,ho,hd⟩:=I3.cell x c (clS x c e)
      exact⟨v,o,old c o ho,hd⟩
  have hst4:tn 0 h₁:=T.keep _ _ _ hst3 fun b _ o e=>old b o e
  have loop:codeAny (model X.prog X.w) X.A (.compLoop (.ListComp elt [⟨tg,iter,ifs,0⟩] scope pos) 0 (.ref it) (.ref D) (compEnvC scope (io X.env scope.names []) C X.env))
      (compPost (model X.prog X.w) X.A X.xe none (EP X pins σ Q) (.ref D) C) {s₃ with heap:=h₁,toks:=s₃.toks+([]:List (Str × Value)).length}:=by
    refine jD (fun n s'=>∃i σ' H',aF (aQ X scope cp tgN C s₃ (a_ H2 D (.lst [])) fp) [] σ' H' s'∧tn i s'.heap∧(∀b∈fp,H' b=none)∧W i n σ' H') ?_ (n0:=m0) ⟨0,_,_,I4,hst4,fun b hb=>(f3 b hb).1,w0⟩
    rintro n s5 ⟨i,σ5,H5,I5,st5,fr5,w5⟩
    have stat:∀{H':Hp},(∀b∈fp,H' b=none)→∀b∈fp,ij (aQ X scope cp tgN C s₃ (a_ H2 D (.lst [])) fp) [] H' b:=fun hn b hb=>
      ⟨hn b hb,(ok'.exf b hb).1,ok'.exfs b hb,.inl hb,(ok'.exf b hb).2,fun p hp=>by simp [aQ] at hp⟩
    rcases turn i n σ5 H5 w5 with ⟨stop,qn⟩ | ⟨go,N,hN,step⟩
    · refine cP (T.done (aQ X scope cp tgN C s₃ (a_ H2 D (.lst [])) fp) rfl rfl rfl hc i [] s5 σ5 H5 (fun _ _=>False) I5 (stat fr5) st5 stop) fun r s6 ⟨hr,I6⟩=>?_
      subst hr
      refine⟨fun _=>?_,fun v z=>by cases z⟩
      obtain⟨m,hn,_⟩:=I6.loc
      refine⟨m,hn,fun h' sb=>⟨.ref D,H5,?_,rfl,qn⟩⟩
      have ub:=I6.base
      have kp:∀b u,b≠C→s6.heap.get? b=some u→h'.get? b=some u:=fun b u ne e=>sb.extBut b u ne e
      have nit:∀b u,H5 b=some u→b≠C:=fun b u e z=>by
        have:=I6.free
        rw [z] at e
        rw [show H5 C=none from this] at e;cases e
      refine I3.call' (s':={s6 with heap:=h'}) (ch:=fp) I6.os ⟨fun b o e n hb hx=>kp b o (nC b o e) (ub.keep b o e n hb hx),fun b o e n hb hx=>?_,ub.free,fun b o e hx=>?_,ub.tups,ub.frzs,ub.tbls⟩ (fun b u e=>?_) I6.bare (fun b hb=>?_)
      · obtain⟨sl,q⟩:=ub.slot b o e n hb hx
        exact⟨sl,kp b _ (nC b o e) q⟩
      · obtain⟨o',q⟩:=ub.there b o e hx
        exact⟨o',kp b _ (nC b o e) q⟩
      · refine(I6.hok b u e).stay (fun c v hc q=>kp c v ?_ q) (fun _ q=>q) fun _ _ q=>q
        rcases hc with z | z
        · rw [z];exact nit b u e
        · exact nit c _ z
      · obtain⟨f0,f1,f4,f5,f6,f7⟩:=f3 b hb
        exact⟨f5,f1,f6,f7⟩
    · refine cP (T.item (aQ X scope cp tgN C s₃ (a_ H2 D (.lst [])) fp) rfl rfl rfl hc i [] s5 σ5 H5 (fun _ _=>False) I5 (stat fr5) st5 go) fun r s6 ⟨u,hr,h6⟩=>?_
      subst hr
      refine⟨fun z=>(by cases z),fun v z=>?_⟩
      cases z
      refine cP h6 fun _ s7 ⟨x,H7,I7,r7,y7,st7,fr7⟩=>?_
      have I7':=I7.pinned (stat fr7) (T.obj _ _ st7)
      have again:∀{σ8:L2.St} {H8:Hp} {s8:Shared},aF (aQ X scope cp tgN C s₃ (a_ H2 D (.lst [])) fp) ([]++kO fp s7.heap) σ8 H8 s8→N σ8 H8→∃m,m < n∧∃i σ' H',aF (aQ X scope cp tgN C s₃ (a_ H2 D (.lst [])) fp) [] σ' H' s8∧tn i s8.heap∧(∀b∈fp,H' b=none)∧W i m σ' H':=fun{σ8 H8 s8} I8 n8=>by
        obtain⟨m',hm,w8⟩:=hN σ8 H8 n8
        refine⟨m',hm,i+1,σ8,H8,I8.unpinned,T.keep _ _ _ st7 fun b hb o e=>(I8.pin (b,o) (List.mem_append_right _ (List.mem_append_right _ (eg hb e)))).1,fun b hb=>?_,w8⟩
        obtain⟨o,e,d⟩:=T.obj _ _ st7 b hb
        exact(I8.pin (b,o) (List.mem_append_right _ (List.mem_append_right _ (eg hb e)))).2.1
      refine cP (hg C s₃ (a_ H2 D (.lst [])) fp _ s7 σ5 H7 x u _ I7' r7 (step x H7 y7)) fun _ s8 ⟨σ8,H8,I8,q8⟩=>?_
      refine cP (ht C s₃ (a_ H2 D (.lst [])) fp _ s8 σ8 H8 _ I8 q8) fun ok s9 ⟨H9,I9,q9⟩=>?_
      cases ok with
      | false=>
        rw [if_neg Bool.false_ne_true] at q9 ⊢
        exact again I9 q9
      | true=>
        rw [if_pos rfl] at q9 ⊢
        refine cP (he C s₃ (a_ H2 D (.lst [])) fp _ s9 σ8 H9 _ I9 q9) fun v s10 ⟨xv,H10,I10,r10,ys,hl,hz,n10⟩=>?_
        refine cP (kM _ s10 σ8 H10 (.ref D) [xv] (.ref D) [v] (fun _ H=>N σ8 H) I10 rfl (.cons r10 .nil) ⟨D,ys,xv,rfl,rfl,hl,hz,n10⟩) fun _ s11 ⟨_,H11,I11,_,q11⟩=>?_
        exact again I11 q11
  exact codeAny_compStart_list loop (T.self X.A 0 _ _ _ hst4 loop)
end L2
namespace L2
open PySem PySem.Spec PyProof.Rows
section
variable{X:Cx}
def xC(K:PySem.W.Frag):R2:=fun x y H Q=>∃a b xs ys,x=.ref a∧y=.ref b∧cD K H a xs∧cD K H b ys∧xs.length+ys.length≤sizeLine∧∀p H',aw H H'→cD K H' p (xs++ys)→Q (.ref p) H'
theorem y6:fV X (binaryOp .Add) (xC X.K):=by
  intro pins s σ H x y v u Q I rx ry h
  obtain⟨a,b,xs,ys,rfl,rfl,ha,hb,hz,q⟩:=h
  cases rx;cases ry
  by_cases hx:xs=[]
  · obtain⟨i1,r1,p1,_⟩:=I.tuple ha
    obtain⟨i2,r2,p2,_⟩:=I.tuple hb
    obtain⟨m,F⟩:=I.fr
    have e1:i1=[]:=by subst hx;cases r1;rfl
    refine add_tuples F (wF (g:=X.base)) p1 p2 (fun _=>?_) (fun z1 _=>absurd e1 z1) (fun z1 _ _ _ _=>absurd e1 z1) (by rw [←r1.length,←r2.length];exact hz)
    exact⟨.ref b,H,I,rfl,q b H (aw.refl H) (by rw [hx];exact hb)⟩
  · exact y8 pins s σ H (.ref a) (.ref b) _ _ Q I rfl rfl ⟨a,b,xs,ys,rfl,rfl,ha,hb,hx,hz,fun z=>q a H (aw.refl H) (by rw [z,List.append_nil];exact ha),fun _ p hp=>q p _ (aw.new hp) (cD.of aG)⟩
theorem rM{x:V}{us:List Value}(r:aS [x] us):∃u,us=[u]∧bD x u:=by
  cases r with
  | cons p p'=>cases p';exact⟨_,rfl,p⟩
end
end L2
namespace L2
open PySem PySem.Spec PyProof.Rows
section
variable{X:Cx}
end
theorem uR{e:Expr}{es:List Expr}{env:Env}(h:PySem.W.isStarred e=false):starEach (e::es) env=(false,eval e env)::starEach es env:=by
  cases e<;>first | rfl | cases h
theorem E7{X:Cx}{e:Expr}{es:List Expr}{te:TE}{t:TA}(ha:PE X e te)(hr:PA X es t)(h:PySem.W.isStarred e=false:=by rfl):PA X (e::es) (qM te t):=ph ha hr (uR h)
def tQ:List (Int × Int)→TA
  | []=>Cp
  | p::r=>qM (Eh (qM (tC (.int p.1)) (qM (tC (.int p.2)) Cp))) (tQ r)
@[irreducible] def Fj(ps:List (Int × Int)):TA:=tQ ps
structure iu where
  one:Int
  other:Int
  top:Int
  bot:Int
  worth:Int
structure br where
  things:Int
  ties:List iu
  pat:List Int
  asks:Int
structure iu.Ok (n:Int) (t:iu):Prop where
  o0:0≤t.one
  o1:t.one < t.other
  o2:t.other < n
  c0:0≤t.top
  c1:t.top≤t.bot
  b0:1≤t.bot
  b1:t.bot≤100
  w0:0≤t.worth
  w1:t.worth≤1000
  cop:Int.gcd t.top t.bot=1
structure br.Ok (w:br):Prop where
  t0:0≤w.things
  t1:w.things≤12
  ties:∀t∈w.ties,t.Ok w.things
  len:w.ties.length≤16
  pl:(w.pat.length:Int)=w.things
  pat:∀p∈w.pat,0≤p∧p≤20
  a0:0≤w.asks
  a1:w.asks≤40
def CV(K:PySem.W.Frag)(H:Hp)(v:V)(t:iu):Prop:=∃p q,v=.ref p∧cD K H p [.int t.one,.int t.other,.ref q,.int t.worth]∧cD K H q [.int t.top,.int t.bot]
inductive ot (K:PySem.W.Frag) (H:Hp):List V→List iu→Prop
  | nil:ot K H [] []
  | cons {v vs t ts}:CV K H v t→ot K H vs ts→ot K H (v::vs) (t::ts)
structure FB (K:PySem.W.Frag) (H:Hp) (v:V) (w:br):Prop where
  ex:∃a b c ts,v=.ref a∧cD K H a [.int w.things,.ref b,.ref c,.int w.asks]∧cD K H b ts∧ot K H ts w.ties∧cD K H c (w.pat.map V.int)
section
variable{K:PySem.W.Frag}{H H':Hp}
end
theorem rK{t b:Int}(hb:0 < b)(h0:0≤t)(h1:t≤b)(h2:b≤100):0≤(lowM t b).1∧(lowM t b).1≤(lowM t b).2∧1≤(lowM t b).2∧(lowM t b).2≤100:=by
  obtain⟨d,e1,e2,e3,e4,e5⟩:=gu (t:=t) (b:=b) (by lia)
  generalize (lowM t b).1=x at*
  generalize (lowM t b).2=y at*
  have dp:0 < d:=by
    rcases Int.lt_or_gt_of_ne e2 with z | z
    · exfalso
      have:y*d < 0:=Int.mul_neg_of_pos_of_neg e5 z
      lia
    · exact z
  have x0:0≤x:=by
    rcases Int.lt_or_le x 0 with z | z
    · have:x*d < 0:=Int.mul_neg_of_neg_of_pos z dp
      lia
    · exact z
  have xy:x≤y:=by
    rcases Int.lt_or_le y x with z | z
    · have:y*d < x*d:=Int.mul_lt_mul_of_pos_right z dp
      lia
    · exact z
  have yb:y≤y*d:=by
    have:=Int.mul_le_mul_of_nonneg_left (show(1:Int)≤d by lia) (show 0≤y by lia)
    lia
  exact⟨x0,xy,by lia,by lia⟩
end L2
namespace L2
open PySem PySem.Spec PyProof.Rows
inductive li {α β:Type} (R:α→β→Prop):List α→List β→Prop
  | nil:li R [] []
  | cons {a b as bs}:R a b→li R as bs→li R (a::as) (b::bs)
namespace li
variable{α β:Type}{R S:α→β→Prop}
theorem mono(h:∀a b,R a b→S a b):∀{as:List α} {bs:List β},li R as bs→li S as bs
  | _,_,.nil=>.nil
  | _,_,.cons x r=>.cons (h _ _ x) (mono h r)
theorem len:∀{as:List α} {bs:List β},li R as bs→as.length=bs.length
  | _,_,.nil=>rfl
  | _,_,.cons _ r=>by simp [len r]
theorem snoc{a:α}{b:β}(h:R a b):∀{as:List α} {bs:List β},li R as bs→li R (as++[a]) (bs++[b])
  | _,_,.nil=>.cons h .nil
  | _,_,.cons x r=>.cons x (snoc h r)
theorem get:∀{as:List α} {bs:List β} {i:Nat} {b:β},li R as bs→bs[i]?=some b→∃a,as[i]?=some a∧R a b
  | _,_,_,_,.nil,e=>by simp at e
  | _,_,0,_,.cons x _,e=>by simp at e;subst e;exact⟨_,rfl,x⟩
  | _,_,i+1,b,.cons _ r,e=>by
    obtain⟨v,h1,h2⟩:=get (i:=i) (b:=b) r (by simpa using e)
    exact⟨v,by simpa using h1,h2⟩
end li
section
variable{K:PySem.W.Frag}{a l:Addr}{xs:List V}{g:TG}{tc:TT}{te:TE}{Q:VK}{σ:L2.St}{H:Hp}{α β:Type}{us:List α}{cp:List (Nat × Str)}{nT:Nat}
def Er(a9:Hp→V→β→Prop)(SI:L2.St→Prop)(us:List α)(f:α→Option β)(H:Hp)(l:Addr)(i:Nat)(σ:L2.St)(H':Hp):Prop:=SI σ∧aw H H'∧∃vs,H' l=some (.lst vs)∧vs.length≤i∧li (a9 H') vs ((us.take i).filterMap f)
end
def qJ(ns:List Int):List Int:=ns.mergeSort
theorem mL(ns:List Int):(qJ ns).Perm ns:=List.mergeSort_perm ns _
theorem CP{ns:List Int}{x:Int}:x∈qJ ns↔ x∈ns:=(mL ns).mem_iff
theorem CO(ns:List Int):(qJ ns).length=ns.length:=(mL ns).length_eq
section
variable{X:Cx}{K:PySem.W.Frag}{pos:Pos}
theorem zr{es:List Expr}{k:Nat}{t:yh}{n:Nat}(hK:X.K=K)(hc:X.calm=true)(h:uY X es t)(hn:(assignEach es X.env).length=n:=by rfl)(hst:(assignEach es X.env).findIdx? (·.1)=none:=by rfl):PG X (.Tuple es k pos) (um K n t):=hK ▸ BQ hc h hn hst
theorem zv{tg l:Expr}{tl:TE}(h:X.K=K)(hl:PE X l tl):PI X tg l (De K tl):=h ▸ BR hl
theorem xa{tg l:Expr}{tl:TE}(h:X.K=K)(hl:PE X l tl):PI X tg l (Au K tl):=h ▸ zu hl
end
instance:Inhabited iu:=⟨⟨0,1,1,1,0⟩⟩
def br.tie(W:br)(k:Int):iu:=W.ties.getD k.toNat default
def br.has(W:br)(k thing:Int):Bool:=(W.tie k).one==thing || (W.tie k).other==thing
def br.many(W:br)(asked:List Int)(thing:Int):Int:=((asked.filter fun k=>W.has k thing).length:Nat)
def br.bears(W:br)(asked taken:List Int)(thing:Int):Bool:= !taken.contains thing&&decide (W.many asked thing < W.pat.getD thing.toNat 0)
def br.may(W:br)(asked taken:List Int)(k:Int):Bool:= !(asked.contains k || decide (W.asks≤(asked.length:Int)))&&(W.bears asked taken (W.tie k).one&&W.bears asked taken (W.tie k).other)
def br.askd(asked:List Int)(k:Int):List Int:=qJ (asked++[k])
def br.took(W:br)(taken:List Int)(k:Int)(truth:Bool):List Int:=if truth then qJ (taken++[(W.tie k).one,(W.tie k).other]) else taken
def br.rng(W:br):List Int:=(List.range W.ties.length).map Int.ofNat
def t5(W:br)(k:Int):Prop:=0≤k∧k < (W.ties.length:Int)
theorem t5.get{W:br}{k:Int}(h:t5 W k):W.ties[k.toNat]?=some (W.tie k):=by
  have hk:k.toNat < W.ties.length:=by have:=h.1;have:=h.2;lia
  unfold br.tie
  rw [List.getD_eq_getElem?_getD,List.getElem?_eq_getElem hk];rfl
theorem t5.ok{W:br}{k:Int}(h:t5 W k)(o:W.Ok):(W.tie k).Ok W.things:=o.ties _ (List.mem_of_getElem? h.get)
theorem EA{W:br}{k:Int}:k∈W.rng↔ t5 W k:=by
  unfold br.rng t5
  rw [List.mem_map]
  constructor
  · rintro⟨n,hn,rfl⟩
    have:=List.mem_range.mp hn
    exact⟨Int.natCast_nonneg n,by simp;lia⟩
  · rintro⟨h0,h1⟩
    exact⟨k.toNat,List.mem_range.mpr (by lia),by simp;lia⟩
def AL(K:PySem.W.Frag)(H:Hp)(v:V)(asked taken:List Int):Prop:=∃a b c,v=.ref a∧cD K H a [.ref b,.ref c]∧cD K H b (asked.map V.int)∧cD K H c (taken.map V.int)
theorem AL.ts{K:PySem.W.Frag}{H H':Hp}(s:k7 H H'){v:V}{asked taken:List Int}(h:AL K H v asked taken):AL K H' v asked taken:=by
  obtain⟨a,b,c,e,h1,h2,h3⟩:=h
  exact⟨a,b,c,e,s.tup h1,s.tup h2,s.tup h3⟩
section
variable{K:PySem.W.Frag}{σ:L2.St}{H:Hp}{Q:VK}{i j:Nat}{vW:V}{W:br}{k:Int}
end
def small(k:Int):Prop:= -1000000≤k∧k≤1000000
def Dk(n dep:Nat)(d:PyData):Prop:=d.showable=true∧ml d=true∧L2.cnt d≤n∧d.depth≤dep
theorem Dk.mono{n m dep e:Nat}{d:PyData}(h:Dk n dep d)(h1:n≤m)(h2:dep≤e):Dk m e d:=⟨h.1,h.2.1,Nat.le_trans h.2.2.1 h1,Nat.le_trans h.2.2.2 h2⟩
theorem Dk.int{k:Int}(h:small k):Dk 1 2 (.int k):=by
  refine⟨?_,rfl,Nat.le_refl _,by simp [PyData.depth]⟩
  show decide (k.natAbs.log2 < 1920)=true
  rw [decide_eq_true_eq]
  exact Nat.lt_trans ((show Bt 64 k by have:=h.1;have:=h.2;unfold Bt;lia).log (by decide)) (by decide)
theorem Dk.bool(b:Bool):Dk 1 2 (.bool b):=⟨rfl,rfl,Nat.le_refl _,by simp [PyData.depth]⟩
theorem Dk.none:Dk 1 2 .none:=⟨rfl,rfl,Nat.le_refl _,by simp [PyData.depth]⟩
theorem Dk.all{n dep:Nat}:∀{ds:List PyData},(∀d∈ds,Dk n dep d)→PyData.showableAll ds=true∧gy ds=true∧jd ds≤ds.length*n∧PyData.depthAll ds≤dep
  | [],_=>⟨rfl,rfl,by simp [jd],by simp [PyData.depthAll]⟩
  | d::r,h=>by
    obtain⟨a1,a2,a3,a4⟩:=h d (by simp)
    obtain⟨b1,b2,b3,b4⟩:=Dk.all (ds:=r) fun x hx=>h x (by simp [hx])
    refine⟨?_,?_,?_,?_⟩
    · simp only [PyData.showableAll,a1,b1,Bool.and_self]
    · simp only [gy,a2,b2,Bool.and_self]
    · simp only [jd,List.length_cons,Nat.succ_mul]
      lia
    · simp only [PyData.depthAll];lia
theorem Dk.tup{n dep m:Nat}{ds:List PyData}(h:∀d∈ds,Dk n dep d)(hl:ds.length≤m):Dk (1+m*n) (dep+2) (.tuple ds):=by
  obtain⟨b1,b2,b3,b4⟩:=Dk.all h
  refine⟨b1,b2,?_,?_⟩
  · simp only [L2.cnt]
    have:=Nat.mul_le_mul_right n hl
    lia
  · simp only [PyData.depth];lia
theorem Dk.ok{n dep:Nat}{d:PyData}(h:Dk n dep d)(h1:n≤8000)(h2:dep≤60):d.showable=true∧d.depth≤60∧d.shown.length≤sizeLine:=by
  have:=nV h.2.1 h.1
  have sl:sizeLine=16777216:=sizeLine_eq
  have:=h.2.2.1
  exact⟨h.1,Nat.le_trans h.2.2.2 h2,by lia⟩
theorem Dk.ints{ns:List Int}{m:Nat}(hl:ns.length≤m)(h:∀r∈ns,small r):Dk (1+m) 4 (.tuple (ns.map .int)):=by
  have:=Dk.tup (n:=1) (dep:=2) (m:=m) (ds:=ns.map PyData.int) (fun d hd=>by
    obtain⟨x,hx,rfl⟩:=List.mem_map.mp hd
    exact Dk.int (h x hx)) (by rw [List.length_map];exact hl)
  simpa using this
section
variable{K:PySem.W.Frag}{H:Hp}
theorem Dk.bools{ns:List Bool}{m:Nat}(hl:ns.length≤m):Dk (1+m) 4 (.tuple (ns.map .bool)):=by
  have:=Dk.tup (n:=1) (dep:=2) (m:=m) (ds:=ns.map PyData.bool) (fun d hd=>by
    obtain⟨x,hx,rfl⟩:=List.mem_map.mp hd
    exact Dk.bool x) (by rw [List.length_map];exact hl)
  simpa using this
def bG(t:iu):PyData:=.tuple [.int t.one,.int t.other,.tuple [.int t.top,.int t.bot],.int t.worth]
def ap(W:br):PyData:=.tuple [.int W.things,.tuple (W.ties.map bG),.tuple (W.pat.map .int),.int W.asks]
def Gj(asked taken:List Int):PyData:=.tuple [.tuple (asked.map .int),.tuple (taken.map .int)]
end
end L2
namespace L2
open PySem PySem.Spec PyProof.Rows
theorem ri:∀{bs:List Bool} {us:List Value} {i:Nat} {v:Value},aS (bs.map V.bl) us→us[i]?=some v→∃b,bs[i]?=some b∧v=.bool b
  | [],us,i,v,r,e=>by cases r;simp at e
  | b::bs,us,i,v,r,e=>by
    cases r with
    | cons p q=>
      cases i with
      | zero=>simp at e;subst e;cases p;exact⟨b,rfl,rfl⟩
      | succ i=>
        obtain⟨c,h1,h2⟩:=ri (bs:=bs) (i:=i) (v:=v) q (by simpa using e)
        exact⟨c,by simpa using h1,h2⟩
theorem zL(bs:List Bool):((List.range bs.length).all fun i=>(bs[i]?).getD true)=bs.all id:=by
  rw [Bool.eq_iff_iff,List.all_eq_true,List.all_eq_true]
  constructor
  · intro h b hb
    obtain⟨i,hi,rfl⟩:=List.getElem_of_mem hb
    have:=h i (List.mem_range.mpr hi)
    rw [List.getElem?_eq_getElem hi] at this
    exact this
  · intro h i hi
    have hi':=List.mem_range.mp hi
    rw [List.getElem?_eq_getElem hi']
    exact h _ (List.getElem_mem hi')
theorem zM(bs:List Bool):((List.range bs.length).any fun i=>(bs[i]?).getD false)=bs.any id:=by
  rw [Bool.eq_iff_iff,List.any_eq_true,List.any_eq_true]
  constructor
  · rintro⟨i,hi,e⟩
    have hi':=List.mem_range.mp hi
    rw [List.getElem?_eq_getElem hi'] at e
    exact⟨_,List.getElem_mem hi',e⟩
  · rintro⟨b,hb,e⟩
    obtain⟨i,hi,rfl⟩:=List.getElem_of_mem hb
    refine⟨i,List.mem_range.mpr hi,?_⟩
    rw [List.getElem?_eq_getElem hi]
    exact e
section
variable{X:Cx}
theorem vz{k:Nat}{K:PySem.W.Frag}(hr:cZ k X.A)(hK:X.K=K):et X (.builtin "all") (fun xs H Q=>∃(l:Addr) (bs:List Bool),xs=[.ref l]∧dg K H l (bs.map V.bl)∧Q (.bl (bs.all id)) H):=by
  intro pins s σ H xs us Q I r h
  subst hK
  obtain⟨l,bs,rfl,hs,q⟩:=h
  obtain⟨u,rfl,ru⟩:=rM r
  cases ru
  obtain⟨its,rv,p,hz⟩:=I.list hs
  have hl:=p.isList
  have lt:l < s.heap.objs.size:=by obtain⟨_,e,_⟩:=hl;exact Heap.lt_size e
  refine PySem.call_all_walk (wpAny_pyIter_list hl ?_)
  refine⟨s.heap.objs.size,[s.heap.objs.size,l],[s.heap.objs.size],its.toArray.size,_,_,fun i=>(bs[i]?).getD true,rfl,Walks.list (A:=X.A.in1) hr.hd _ l (Nat.ne_of_lt lt) its.toArray,⟨⟨_,Heap.get?_push_size _ rfl,rfl,rfl⟩,hl.push _⟩,fun i v s' Q' E' hP hQ=>?_,fun h' tk hk=>?_⟩
  · obtain⟨b,e,rfl⟩:=ri rv (by simpa using hP)
    simp only [e,Option.getD_some] at hQ
    exact wpAny_truthy_bool hQ
  · have e:its.toArray.size=bs.length:=by have:=rv.length;rw [List.length_map] at this;simpa using this.symm
    rw [e,zL]
    refine⟨.bl (bs.all id),H,I.kept fun b x e=>hk b x (fun hm=>?_) (Heap.get?_push_of_some _ e),rfl,q⟩
    rw [List.mem_singleton.mp hm] at e
    exact Nat.lt_irrefl _ (Heap.lt_size e)
theorem vA{k:Nat}{K:PySem.W.Frag}(hr:cZ k X.A)(hK:X.K=K):et X (.builtin "any") (fun xs H Q=>∃(l:Addr) (bs:List Bool),xs=[.ref l]∧dg K H l (bs.map V.bl)∧Q (.bl (bs.any id)) H):=by
  intro pins s σ H xs us Q I r h
  subst hK
  obtain⟨l,bs,rfl,hs,q⟩:=h
  obtain⟨u,rfl,ru⟩:=rM r
  cases ru
  obtain⟨its,rv,p,hz⟩:=I.list hs
  have hl:=p.isList
  have lt:l < s.heap.objs.size:=by obtain⟨_,e,_⟩:=hl;exact Heap.lt_size e
  refine PySem.call_any_walk (wpAny_pyIter_list hl ?_)
  refine⟨s.heap.objs.size,[s.heap.objs.size,l],[s.heap.objs.size],its.toArray.size,_,_,fun i=>(bs[i]?).getD false,rfl,Walks.list (A:=X.A.in1) hr.hd _ l (Nat.ne_of_lt lt) its.toArray,⟨⟨_,Heap.get?_push_size _ rfl,rfl,rfl⟩,hl.push _⟩,fun i v s' Q' E' hP hQ=>?_,fun h' tk hk=>?_⟩
  · obtain⟨b,e,rfl⟩:=ri rv (by simpa using hP)
    simp only [e,Option.getD_some] at hQ
    exact wpAny_truthy_bool hQ
  · have e:its.toArray.size=bs.length:=by have:=rv.length;rw [List.length_map] at this;simpa using this.symm
    rw [e,zM]
    refine⟨.bl (bs.any id),H,I.kept fun b x e=>hk b x (fun hm=>?_) (Heap.get?_push_of_some _ e),rfl,q⟩
    rw [List.mem_singleton.mp hm] at e
    exact Nat.lt_irrefl _ (Heap.lt_size e)
end
end L2
namespace L2
theorem vm:PySem.bootBuiltins "all"=some (.builtin "all"):=by decide+kernel
theorem vn:PySem.bootBuiltins "any"=some (.builtin "any"):=by decide+kernel
end L2
namespace L2
open PySem PySem.Spec PyProof.Rows
section
variable{prog:Program}{w:World}{A:Around}{E:Value→Shared→Prop}{s:Shared}
theorem x_{it t:Addr}{i:Nat}{ys}{x:Value}{Q:Value→Shared→Prop}(hi:s.heap.IsTupleIter it t i)(ht:s.heap.IsTuple t ys)(hx:ys[i]?=some x)
    (q:∀g,g.IsTupleIter it t (i+1)→Heap.SameBut it s.heap g→Q x {s with heap:=g}):wpAny (model prog w) A (Builtin.SmallTypes.nextOf (.ref it)) Q E s:=by
  obtain⟨o,ho,hc,hd⟩:=id hi;obtain⟨p,hp,_,n,hpd⟩:=ht;unfold Builtin.SmallTypes.nextOf
  refine wpAny_bind (wpAny_callSpecial?_slot (name:=Str.ofString "__next__") hi.typeIs F.slot_tuple_iterator_next (wpAny_call_entry F.slot_tuple_iterator_next hi.typeIs F.entry_tuple_iterator_next ?_ (F.args_tuple_iterator_next_1 _)))
  show wpAny _ _ (field (.ref it) 0 >>= _) _ _ s;refine wpAny_bind (wpAny_field ho hd (x:=.ref t) rfl ?_)
  show wpAny _ _ (if (Value.ref t==Value.none)=true then _ else _) _ _ s;rw [if_neg (show ¬((Value.ref t==Value.none)=true) from Bool.false_ne_true)]
  show wpAny _ _ (field (.ref it) 1 >>= _) _ _ s;refine wpAny_bind (wpAny_field ho hd (x:=.int i 0) rfl ?_)
  show wpAny _ _ (seqItems? (.ref t) >>= _) _ _ s;refine wpAny_bind (wpAny_seqItems hp hpd ?_)
  simp only [Int.toNat_natCast,hx];refine wpAny_bind (wpAny_setField ho hd (by simp) (wpAny_pure ⟨x,rfl,wpAny_pure (q _ ?_ (Heap.SameBut.update ..))⟩))
  refine⟨_,Heap.get?_update_self _ ho (Obj.isFreed_of_fields (Obj.data_mapFields hd _)),(Obj.cls_mapFields ..).trans hc,?_⟩;rw [Obj.data_mapFields hd];simp [rawInt]
theorem x9{it t:Addr}{i:Nat}{ys}{Q:Value→Shared→Prop}(hh:A.handled=none)(hi:s.heap.IsTupleIter it t i)(ht:s.heap.IsTuple t ys)(hx:ys[i]?=none)
    (q:∀g e,Heap.ExtBut it s.heap g→(∃o,g.get? e=some o∧o.cls=.type "StopIteration")→E (.ref e) {s with heap:=g}):wpAny (model prog w) A (Builtin.SmallTypes.nextOf (.ref it)) Q E s:=by
  obtain⟨o,ho,hc,hd⟩:=id hi;obtain⟨p,hp,_,n,hpd⟩:=ht;unfold Builtin.SmallTypes.nextOf
  refine wpAny_bind (wpAny_callSpecial?_slot (name:=Str.ofString "__next__") hi.typeIs F.slot_tuple_iterator_next (wpAny_call_entry F.slot_tuple_iterator_next hi.typeIs F.entry_tuple_iterator_next ?_ (F.args_tuple_iterator_next_1 _)))
  show wpAny _ _ (field (.ref it) 0 >>= _) _ _ s;refine wpAny_bind (wpAny_field ho hd (x:=.ref t) rfl ?_)
  show wpAny _ _ (if (Value.ref t==Value.none)=true then _ else _) _ _ s;rw [if_neg (show ¬((Value.ref t==Value.none)=true) from Bool.false_ne_true)]
  show wpAny _ _ (field (.ref it) 1 >>= _) _ _ s;refine wpAny_bind (wpAny_field ho hd (x:=.int i 0) rfl ?_)
  show wpAny _ _ (seqItems? (.ref t) >>= _) _ _ s;refine wpAny_bind (wpAny_seqItems hp hpd ?_)
  simp only [Int.toNat_natCast,hx];refine wpAny_bind (wpAny_rule (wpAny_bind (wpAny_setField ho hd (by simp) ?_)))
  show wpAny _ _ (newExc (.type "StopIteration") [] >>= _) _ _ _;refine wpAny_bind ?_;simp only [newExc,newTuple]
  refine wpAny_bind (wpAny_newObj_type ?_ (by size_fits));refine wpAny_bind (m:=firstArgMember _ _) (wpAny_of_eq (a:=Value.none) (by first | rfl | (simp only [firstArgMember];rfl)) ?_)
  refine wpAny_newObj_type ?_ (by size_fits);simp only [raiseNew];refine wpAny_bind (wpAny_handled ?_);first | rw [show A.in1.handled=none from hh] | rw [hh]
  refine wpAny_bind (wpAny_pure (wpAny_throw ?_));exact q _ _ (((Heap.SameBut.update ..).extBut.push _).push _) ⟨_,Heap.get?_push_size _ rfl,rfl⟩
end
structure Sc (prog:Program) (w:World) (it l:Addr) (St:Nat→Heap→Prop) (Sq:Heap→Array Value→Prop):Prop where
  stay:∀{k h h'},St k h→(∀o,h.get? it=some o→h'.get? it=some o)→St k h'
  live:∀{k h},St k h→∃o,h.get? it=some o∧∀v,o.data≠.cell v
  row:∀{h h' xs},Sq h xs→(∀o,h.get? l=some o→h'.get? l=some o)→Sq h' xs
  next:∀{A:Around} {s:Shared} {E:Value→Shared→Prop} {Q:Value→Shared→Prop} {k:Nat} {xs:Array Value} {x:Value},St k s.heap→Sq s.heap xs→xs[k]?=some x→(∀g,St (k+1) g→Heap.SameBut it s.heap g→Q x {s with heap:=g})→wpAny (model prog w) A (Builtin.SmallTypes.nextOf (.ref it)) Q E s
  last:∀{A:Around} {s:Shared} {E:Value→Shared→Prop} {Q:Value→Shared→Prop} {k:Nat} {xs:Array Value},A.handled=none→St k s.heap→Sq s.heap xs→xs[k]?=none→(∀g e,Heap.ExtBut it s.heap g→(∃o,g.get? e=some o∧o.cls=.type "StopIteration")→E (.ref e) {s with heap:=g})→wpAny (model prog w) A (Builtin.SmallTypes.nextOf (.ref it)) Q E s
theorem iN{prog:Program}{w:World}(it l:Addr):Sc prog w it l (fun k h=>h.IsTupleIter it l k) (fun h xs=>h.IsTuple l xs) where
  stay:=fun st k=>st.at fun o e=>k o e
  live:=fun st=>by
    obtain⟨o,e,c,d⟩:=st
    exact⟨o,e,fun v z=>by rw [d] at z;cases z⟩
  row:=fun q k=>by
    obtain⟨o,e,r⟩:=q
    exact⟨o,k o e,r⟩
  next:=fun st sq hx q=>x_ st sq hx q
  last:=fun hh st sq hx q=>x9 hh st sq hx q
theorem fL{prog:Program}{w:World}(it l:Addr):Sc prog w it l (fun k h=>h.IsListIter it l k) (fun h xs=>h.IsList l xs) where
  stay:=fun st k=>st.at fun o e=>k o e
  live:=fun st=>by
    obtain⟨o,e,c,d⟩:=st
    exact⟨o,e,fun v z=>by rw [d] at z;cases z⟩
  row:=fun q k=>by
    obtain⟨o,e,r⟩:=q
    exact⟨o,k o e,r⟩
  next:=fun st sq hx q=>wpAny_nextOf_list_item st sq hx q
  last:=fun hh st sq hx q=>wpAny_nextOf_list_end hh st sq hx q
structure hX (z TI TO i1 i2 l1 l2:Addr):Prop where
  a1:TO≠z
  a2:i1≠z
  a3:i2≠z
  a4:TO≠i1
  a5:TO≠i2
  a6:i1≠i2
  b1:l1≠z
  b2:l1≠TO
  b3:l1≠i1
  b4:l1≠i2
  c1:l2≠z
  c2:l2≠TO
  c3:l2≠i1
  c4:l2≠i2
section
variable{prog:Program}{w:World}{A:Around}{E:Value→Shared→Prop}{s:Shared}{z TI TO i1 i2 l1 l2:Addr}{k:Nat}{xs ys:Array Value}{a b:Value}{S1 S2:Nat→Heap→Prop}{R1 R2:Heap→Array Value→Prop}
theorem CG{x y:Value}{Q:Value→Shared→Prop}(P1:Sc prog w i1 l1 S1 R1)(P2:Sc prog w i2 l2 S2 R2)(D:hX z TI TO i1 i2 l1 l2)(hz:IsZip s.heap z TI TO .none)(hI:IsPair s.heap TI (.ref i1) (.ref i2))(hO:IsPair s.heap TO a b)(u1:S1 k s.heap)(u2:S2 k s.heap)(r1:R1 s.heap xs)(r2:R2 s.heap ys)(hx:xs[k]?=some x)(hy:ys[k]?=some y)
    (q:∀g,IsZip g z TI TO (rawInt s.heap.objs.size)→IsPair g TO x y→S1 (k+1) g→S2 (k+1) g→IsPair g s.heap.objs.size x y→g.objs.size=s.heap.objs.size+1→(∀c o,c≠z→c≠TO→c≠i1→c≠i2→s.heap.get? c=some o→g.get? c=some o)→Q (.ref s.heap.objs.size) {s with heap:=g}):
    wpAny (model prog w) A (Builtin.«zip.__next__» ⟨[.ref z],[]⟩) (fun f s'=>∃v,f=.done (.ret v)∧Q v s') E s:=by
  show wpAny _ _ (field (.ref z) 2 >>= _) _ _ _;refine wpAny_bind (wpAny_field hz rfl (x:=.bool false) rfl ?_)
  show wpAny _ _ (field (.ref z) 3 >>= _) _ _ _;refine wpAny_bind (wpAny_field hz rfl (x:=.ref TI) rfl ?_);refine wpAny_bind (wpAny_seqItems hI rfl ?_)
  show wpAny _ _ (Builtin.SmallTypes.ownedTupleIsFree (.ref z) >>= _) _ _ _;refine wpAny_bind ?_;unfold Builtin.SmallTypes.ownedTupleIsFree
  refine wpAny_bind (wpAny_field hz rfl (x:=.none) rfl (wpAny_pure ?_));simp only [if_true];refine wpAny_bind (wpAny_rule ?_)
  refine wpAny_bind (wpAny_field hz rfl (x:=.ref TO) rfl ?_);refine wpAny_bind (wpAny_setField_rec hz (by simp) fun g1 z1 e1=>?_)
  replace z1:IsZip g1 z TI TO .ellipsis:=z1;refine wpAny_bind ?_;simp only [List.zipIdx_cons,List.zipIdx_nil,List.forIn_cons,List.forIn_nil]
  refine wpAny_bind (wpAny_bind (wpAny_onRaise ?_));show wpAny _ _ (Builtin.SmallTypes.nextOf (.ref i1) >>= _) _ _ _
  refine wpAny_bind (P1.next (P1.stay u1 fun o e=>e1.extBut _ _ D.a2 e) (P1.row r1 fun o e=>e1.extBut _ _ D.b1 e) hx fun g2 v1 e2=>wpAny_pure ?_)
  have O2:IsPair g2 TO a b:=e2.extBut _ _ D.a4 (e1.extBut _ _ D.a1 hO)
  refine wpAny_bind (wpAny_seqItems O2 rfl ?_);refine wpAny_bind (wpAny_updateSeq_pair O2 fun g3 O3 e3=>?_);replace O3:IsPair g3 TO x b:=O3;refine wpAny_bind (wpAny_letGo (wpAny_pure ?_))
  refine wpAny_bind (wpAny_bind (wpAny_onRaise ?_));show wpAny _ _ (Builtin.SmallTypes.nextOf (.ref i2) >>= _) _ _ _
  have up3:∀c o,c≠z→c≠i1→c≠TO→s.heap.get? c=some o→g3.get? c=some o:=fun c o n1 n2 n3 e=>e3.extBut _ _ n3 (e2.extBut _ _ n2 (e1.extBut _ _ n1 e))
  refine wpAny_bind (P2.next (P2.stay u2 fun o e=>up3 _ _ D.a3 D.a6.symm D.a5.symm e) (P2.row r2 fun o e=>up3 _ _ D.c1 D.c3 D.c2 e) hy fun g4 v2 e4=>wpAny_pure ?_)
  have O4:IsPair g4 TO x b:=e4.extBut _ _ D.a5 O3
  refine wpAny_bind (wpAny_seqItems O4 rfl ?_);refine wpAny_bind (wpAny_updateSeq_pair O4 fun g5 O5 e5=>?_);replace O5:IsPair g5 TO x y:=O5;refine wpAny_bind (wpAny_letGo (wpAny_pure (wpAny_pure ?_)))
  refine wpAny_bind (wpAny_seqItems O5 rfl ?_);refine wpAny_bind (wpAny_newTuple ?_)
  have sz:g5.objs.size=s.heap.objs.size:=by rw [e5.1,e4.1,e3.1,e2.1,e1.1]
  have z5:IsZip g5 z TI TO .ellipsis:=e5.extBut _ _ D.a1.symm (e4.extBut _ _ D.a3.symm (e3.extBut _ _ D.a1.symm (e2.extBut _ _ D.a2.symm z1)))
  have k5:∀c o,c≠z→c≠TO→c≠i1→c≠i2→s.heap.get? c=some o→g5.get? c=some o:=fun c o n1 n2 n3 n4 e=>e5.extBut _ _ n2 (e4.extBut _ _ n4 (up3 c o n1 n3 n2 e))
  have w1:S1 (k+1) g5:=P1.stay v1 fun o e=>e5.extBut _ _ D.a4.symm (e4.extBut _ _ D.a6 (e3.extBut _ _ D.a4.symm e))
  have w2:S2 (k+1) g5:=P2.stay v2 fun o e=>e5.extBut _ _ D.a5.symm e
  have lz:z < g5.objs.size:=Heap.lt_size z5
  show wpAny _ _ (Builtin.SmallTypes.ownedTupleHandOut (.ref z) (.ref g5.objs.size) >>= _) _ _ _;refine wpAny_bind ?_;unfold Builtin.SmallTypes.ownedTupleHandOut
  have z6:IsZip (g5.push {cls:=.type "tuple",data:=.seq #[x,y]}) z TI TO .ellipsis:=Heap.get?_push_of_some _ z5
  refine wpAny_bind (wpAny_setField_rec z6 (by simp) fun g7 z7 e7=>?_);replace z7:IsZip g7 z TI TO (rawInt g5.objs.size):=z7
  refine wpAny_setField_rec z7 (by simp) fun g8 z8 e8=>?_;replace z8:IsZip g8 z TI TO (rawInt g5.objs.size):=z8
  have up:∀c o,c≠z→g5.get? c=some o→g8.get? c=some o:=fun c o n e=>e8.extBut _ _ n (e7.extBut _ _ n (Heap.get?_push_of_some _ e))
  have T8:IsPair g8 g5.objs.size x y:=e8.extBut _ _ (Nat.ne_of_gt lz) (e7.extBut _ _ (Nat.ne_of_gt lz) (Heap.get?_push_size _ rfl))
  have n8:g8.objs.size=g5.objs.size+1:=by rw [e8.1,e7.1,Heap.size_push]
  rw [sz] at z8 T8 n8;refine wpAny_pure ⟨_,rfl,?_⟩;show Q (.ref g5.objs.size) _;rw [sz]
  exact q g8 z8 (up _ _ D.a1 O5) (P1.stay w1 fun o e=>up _ o D.a2 e) (P2.stay w2 fun o e=>up _ o D.a3 e) T8 n8 fun c o n1 n2 n3 n4 e=>up c o n1 (k5 c o n1 n2 n3 n4 e)
theorem Ab{Q:Fin→Shared→Prop}(hh:A.handled=none)(P1:Sc prog w i1 l1 S1 R1)(P2:Sc prog w i2 l2 S2 R2)(D:hX z TI TO i1 i2 l1 l2)(hz:IsZip s.heap z TI TO .none)(hI:IsPair s.heap TI (.ref i1) (.ref i2))(hO:IsPair s.heap TO a b)(u1:S1 k s.heap)(u2:S2 k s.heap)(r1:R1 s.heap xs)(r2:R2 s.heap ys)(hn:xs[k]?=none∨ys[k]?=none)
    (q:∀g e,(∀c o,c≠z→c≠TO→c≠i1→c≠i2→s.heap.get? c=some o→g.get? c=some o)→(∃o,g.get? e=some o∧o.cls=.type "StopIteration")→E (.ref e) {s with heap:=g}):
    wpAny (model prog w) A (Builtin.«zip.__next__» ⟨[.ref z],[]⟩) Q E s:=by
  show wpAny _ _ (field (.ref z) 2 >>= _) _ _ _;refine wpAny_bind (wpAny_field hz rfl (x:=.bool false) rfl ?_)
  show wpAny _ _ (field (.ref z) 3 >>= _) _ _ _;refine wpAny_bind (wpAny_field hz rfl (x:=.ref TI) rfl ?_);refine wpAny_bind (wpAny_seqItems hI rfl ?_)
  show wpAny _ _ (Builtin.SmallTypes.ownedTupleIsFree (.ref z) >>= _) _ _ _;refine wpAny_bind ?_;unfold Builtin.SmallTypes.ownedTupleIsFree
  refine wpAny_bind (wpAny_field hz rfl (x:=.none) rfl (wpAny_pure ?_));simp only [if_true];refine wpAny_bind (wpAny_rule ?_)
  refine wpAny_bind (wpAny_field hz rfl (x:=.ref TO) rfl ?_);refine wpAny_bind (wpAny_setField_rec hz (by simp) fun g1 z1 e1=>?_)
  replace z1:IsZip g1 z TI TO .ellipsis:=z1;refine wpAny_bind ?_;simp only [List.zipIdx_cons,List.zipIdx_nil,List.forIn_cons,List.forIn_nil]
  refine wpAny_bind (wpAny_bind (wpAny_onRaise ?_));show wpAny _ _ (Builtin.SmallTypes.nextOf (.ref i1) >>= _) _ _ _
  cases hx:xs[k]? with
  | none=>
    refine wpAny_bind (P1.last hh (P1.stay u1 fun o e=>e1.extBut _ _ D.a2 e) (P1.row r1 fun o e=>e1.extBut _ _ D.b1 e) hx fun g2 e e2 he=>?_)
    obtain⟨oe,h1,h2⟩:=he;have z2:IsZip g2 z TI TO .ellipsis:=e2 _ _ D.a2.symm z1
    have nz:e≠z:=fun x=>by subst x;rw [z2] at h1;cases h1;simp at h2
    refine wpAny_setField_rec z2 (by simp) fun g3 _ e3=>q g3 e (fun c o n1 _ n3 _ x=>e3.extBut _ _ n1 (e2 _ _ n3 (e1.extBut _ _ n1 x))) ⟨oe,e3.extBut _ _ nz h1,h2⟩
  | some x=>
    have hy:ys[k]?=none:=by
      rcases hn with h | h
      · rw [hx] at h;cases h
      · exact h
    refine wpAny_bind (P1.next (P1.stay u1 fun o e=>e1.extBut _ _ D.a2 e) (P1.row r1 fun o e=>e1.extBut _ _ D.b1 e) hx fun g2 v1 e2=>wpAny_pure ?_)
    have O2:IsPair g2 TO a b:=e2.extBut _ _ D.a4 (e1.extBut _ _ D.a1 hO)
    refine wpAny_bind (wpAny_seqItems O2 rfl ?_);refine wpAny_bind (wpAny_updateSeq_pair O2 fun g3 O3 e3=>?_);refine wpAny_bind (wpAny_letGo (wpAny_pure ?_))
    refine wpAny_bind (wpAny_bind (wpAny_onRaise ?_));show wpAny _ _ (Builtin.SmallTypes.nextOf (.ref i2) >>= _) _ _ _
    have up3:∀c o,c≠z→c≠i1→c≠TO→s.heap.get? c=some o→g3.get? c=some o:=fun c o n1 n2 n3 e=>e3.extBut _ _ n3 (e2.extBut _ _ n2 (e1.extBut _ _ n1 e))
    refine wpAny_bind (P2.last hh (P2.stay u2 fun o e=>up3 _ _ D.a3 D.a6.symm D.a5.symm e) (P2.row r2 fun o e=>up3 _ _ D.c1 D.c3 D.c2 e) hy fun g4 e e4 he=>?_)
    obtain⟨oe,h1,h2⟩:=he;have z4:IsZip g4 z TI TO .ellipsis:=e4 _ _ D.a3.symm (e3.extBut _ _ D.a1.symm (e2.extBut _ _ D.a2.symm z1))
    have nz:e≠z:=fun x=>by subst x;rw [z4] at h1;cases h1;simp at h2
    refine wpAny_setField_rec z4 (by simp) fun g5 _ e5=>q g5 e (fun c o n1 n2 n3 n4 x=>e5.extBut _ _ n1 (e4 _ _ n4 (up3 c o n1 n3 n2 x))) ⟨oe,e5.extBut _ _ nz h1,h2⟩
theorem kc{x y:Value}{Q:Option Value→Shared→Prop}(P1:Sc prog w i1 l1 S1 R1)(P2:Sc prog w i2 l2 S2 R2)(D:hX z TI TO i1 i2 l1 l2)(hz:IsZip s.heap z TI TO .none)(hI:IsPair s.heap TI (.ref i1) (.ref i2))(hO:IsPair s.heap TO a b)(u1:S1 k s.heap)(u2:S2 k s.heap)(r1:R1 s.heap xs)(r2:R2 s.heap ys)(hx:xs[k]?=some x)(hy:ys[k]?=some y)
    (q:∀g,IsZip g z TI TO (rawInt s.heap.objs.size)→IsPair g TO x y→S1 (k+1) g→S2 (k+1) g→IsPair g s.heap.objs.size x y→g.objs.size=s.heap.objs.size+1→(∀c o,c≠z→c≠TO→c≠i1→c≠i2→s.heap.get? c=some o→g.get? c=some o)→Q (some (.ref s.heap.objs.size)) {s with heap:=g}):
    wpAny (model prog w) A (pyNext (.ref z)) Q E s:=by
  have hT:s.TypeIs (.ref z) "zip":=⟨_,hz,rfl⟩;unfold pyNext
  refine wpAny_bind (wpAny_attempt (wpAny_callSpecial?_slot (name:=Str.ofString "__next__") hT F.slot_zip_next (wpAny_call_entry F.slot_zip_next hT F.entry_zip_next ?_ (F.args_zip_next_1 _))))
  exact CG P1 P2 D hz hI hO u1 u2 r1 r2 hx hy fun g b1 b2 b3 b4 b5 b6 b7=>wpAny_pure (q g b1 b2 b3 b4 b5 b6 b7)
theorem kd{Q:Option Value→Shared→Prop}(hh:A.handled=none)(P1:Sc prog w i1 l1 S1 R1)(P2:Sc prog w i2 l2 S2 R2)(D:hX z TI TO i1 i2 l1 l2)(hz:IsZip s.heap z TI TO .none)(hI:IsPair s.heap TI (.ref i1) (.ref i2))(hO:IsPair s.heap TO a b)(u1:S1 k s.heap)(u2:S2 k s.heap)(r1:R1 s.heap xs)(r2:R2 s.heap ys)(hn:xs[k]?=none∨ys[k]?=none)
    (q:∀g,(∀c o,c≠z→c≠TO→c≠i1→c≠i2→s.heap.get? c=some o→g.get? c=some o)→Q none {s with heap:=g}):wpAny (model prog w) A (pyNext (.ref z)) Q E s:=by
  have hT:s.TypeIs (.ref z) "zip":=⟨_,hz,rfl⟩;unfold pyNext
  refine wpAny_bind (wpAny_attempt (wpAny_callSpecial?_slot (name:=Str.ofString "__next__") hT F.slot_zip_next (wpAny_call_entry F.slot_zip_next hT F.entry_zip_next (Ab hh P1 P2 D hz hI hO u1 u2 r1 r2 hn fun g e hk he=>?_) (F.args_zip_next_1 _))))
  obtain⟨o,ho,hc⟩:=he;refine wpAny_bind (wpAny_isInstance (T:="StopIteration") (b:=true) ⟨o,ho,hc⟩ isSubtype_stop ?_);exact wpAny_pure (q _ hk)
end
end L2
namespace L2
open PySem PySem.Spec PyProof.Rows
section
variable{X:Cx}{pins:List (Addr × Obj)}{σ:L2.St}{H:Hp}{s:Shared}{h':Heap}
theorem aF.turnedL{t':Nat}{fp:List Addr}(I:aF X pins σ H s)(hf:∀b∈fp,ij X pins H b)(k:∀b o,b∉fp→s.heap.get? b=some o→h'.get? b=some o):aF X pins σ H {s with heap:=h',toks:=t'}:=by
  have hL:X.env.locals∉fp:=fun z=>(hf _ z).2.1 rfl
  have nit:∀b u,H b=some u→b∉fp:=fun b u e z=>by have:=(hf b z).1;rw [this] at e;cases e
  refine I.step (g':=s.gens) (d':=s.drawn) (ch:=fp) (fun b hb=>?_) (fun b o _ _ hc e _=>k b o hc e) (fun b o _ _ hc e _=>⟨o.slots,k b o hc e⟩) (fun _ _ _ _ n=>n) (fun b o hc e=>⟨o,k b o hc e⟩) (fun _ _ e=>e) (fun _ _ _ e=>e) (fun b ps e=>⟨#[],by rw [e];simp⟩) (fun m hm=>?_) (fun b u e=>?_) I.bare
  · obtain⟨f0,f1,f2,f3,f4,f5⟩:=hf b hb
    exact⟨f3,f1,f4,f5⟩
  · obtain⟨o,es,ep,ho,r⟩:=hm
    exact⟨o,es,ep,k _ o hL ho,r⟩
  · refine(I.hok b u e).stay (fun c v hc q=>k c v ?_ q) (fun _ q=>q) fun _ _ q=>q
    rcases hc with z | z
    · rw [z];exact nit b u e
    · exact nit c _ z
theorem aE(I:aF X pins σ H s){b l:Addr}{xs:List V}(f:ij X pins H b)(q:cD X.K H l xs):l≠b:=by
  intro z
  subst z
  rcases q with (q | ⟨o,q⟩) | ⟨o,its,n,hk,_⟩
  · rw [f.1] at q;cases q
  · rw [f.1] at q;cases q
  · have hb:X.base.get? l=some o:=I.ok.mod.kin l o hk
    rcases f.2.2.2.1 with z | z
    · exact I.ok.noex l o hb z
    · exact absurd (Nat.lt_of_lt_of_le (Heap.lt_size (I.ok.bs l o hb).1) z) (Nat.lt_irrefl _)
end
def Ft(K:PySem.W.Frag)(l1 l2:Addr):It:=
  ⟨fun i H=>∃xs ys x y,cD K H l1 xs∧cD K H l2 ys∧xs[i]?=some x∧ys[i]?=some y,
   fun i H v H'=>∃p x y,v=.ref p∧H p=none∧H'=a_ H p (.tup [x,y])∧∀xs ys,cD K H l1 xs→cD K H l2 ys→xs[i]?=some x∧ys[i]?=some y,
   fun i H=>∃xs ys,cD K H l1 xs∧cD K H l2 ys∧(xs.length≤i∨ys.length≤i)⟩
def AH(z TI TO i1 i2 l1 l2:Addr)(i:Nat)(h:Heap):Prop:=IsZip h z TI TO .none∧IsPair h TI (.ref i1) (.ref i2)∧(∃a b,IsPair h TO a b)∧h.IsTupleIter i1 l1 i∧h.IsTupleIter i2 l2 i
theorem ya{P:Program}{w:World}{K:PySem.W.Frag}{es:List Expr}{k0:Nat}{pos:Pos}{z TI TO i1 i2:Addr}(l1 l2:Addr)(n1:TO≠z)(n2:i1≠z)(n3:i2≠z)(n4:TO≠i1)(n5:TO≠i2)(n6:i1≠i2)(n7:TI≠z)(n8:TI≠TO)(n9:TI≠i1)(n10:TI≠i2):
    pL P w K (.Tuple es k0 pos) (Ft K l1 l2) [z,TI,TO,i1,i2] z (AH z TI TO i1 i2 l1 l2) where
  mem:=by simp
  obj:=fun i h st b hb=>by
    obtain⟨hz,hI,⟨a,c,hO⟩,u1,u2⟩:=st
    simp only [List.mem_cons,List.not_mem_nil,or_false] at hb
    rcases hb with rfl | rfl | rfl | rfl | rfl
    · exact⟨_,hz,fun v z=>by cases z⟩
    · exact⟨_,hI,fun v z=>by cases z⟩
    · exact⟨_,hO,fun v z=>by cases z⟩
    · obtain⟨o,e,c,d⟩:=u1
      exact⟨o,e,fun v z=>by rw [d] at z;cases z⟩
    · obtain⟨o,e,c,d⟩:=u2
      exact⟨o,e,fun v z=>by rw [d] at z;cases z⟩
  keep:=fun i h h' st k=>by
    obtain⟨hz,hI,⟨a,c,hO⟩,u1,u2⟩:=st
    exact⟨k _ (by simp) _ hz,k _ (by simp) _ hI,⟨a,c,k _ (by simp) _ hO⟩,u1.at fun o e=>k _ (by simp) o e,u2.at fun o e=>k _ (by simp) o e⟩
  item:=by
    intro X hP hw hK hc i pins s σ H E I hf st hg
    subst hP hw hK
    obtain⟨xs,ys,x,y,q1,q2,hx,hy⟩:=hg
    obtain⟨hz,hI,⟨a,b,hO⟩,u1,u2⟩:=id st
    obtain⟨its1,rv1,p1,z1⟩:=I.tuple q1
    obtain⟨its2,rv2,p2,z2⟩:=I.tuple q2
    obtain⟨ux,hux,rux⟩:=rv1.get hx
    obtain⟨uy,huy,ruy⟩:=rv2.get hy
    have fz:=hf z (by simp);have fO:=hf TO (by simp);have f1:=hf i1 (by simp);have f2:=hf i2 (by simp)
    have D:hX z TI TO i1 i2 l1 l2:=⟨n1,n2,n3,n4,n5,n6,aE I fz q1,aE I fO q1,aE I f1 q1,aE I f2 q1,aE I fz q2,aE I fO q2,aE I f1 q2,aE I f2 q2⟩
    refine kc (xs:=its1.toArray) (ys:=its2.toArray) (iN i1 l1) (iN i2 l2) D hz hI hO u1 u2 p1 p2 (by simpa using hux) (by simpa using huy) fun g gz gO g1 g2 gT gs gk=>?_
    refine⟨_,rfl,wpAny_letOwnedTupleGo_zip gz fun g' gz' ge=>?_⟩
    have lt:∀b∈[z,TI,TO,i1,i2],b < s.heap.objs.size:=fun b hb=>by
      simp only [List.mem_cons,List.not_mem_nil,or_false] at hb
      rcases hb with rfl | rfl | rfl | rfl | rfl
      · exact Heap.lt_size hz
      · exact Heap.lt_size hI
      · exact Heap.lt_size hO
      · obtain⟨o,e,_⟩:=u1;exact Heap.lt_size e
      · obtain⟨o,e,_⟩:=u2;exact Heap.lt_size e
    have hT:H s.heap.objs.size=none:=I.hok.fresh (Nat.le_refl _)
    have vv:aS [x,y] [ux,uy]:=.cons rux (.cons ruy .nil)
    have I1:aF X pins σ (a_ H s.heap.objs.size (.tup [x,y])) {s with heap:=s.heap.push {cls:=.type "tuple",data:=.seq #[ux,uy]},toks:=s.toks}:=
      I.laid (t':=s.toks) (fun b u e=>Heap.get?_push_of_some _ e) (Nat.le_refl _) ⟨(by show 2≤sizeLine;decide),[ux,uy],vv,ke.new _ _⟩
    have hf1:∀b∈[z,TI,TO,i1,i2],ij X pins (a_ H s.heap.objs.size (.tup [x,y])) b:=fun b hb=>by
      obtain⟨f0,fr⟩:=hf b hb
      exact⟨by rw [aI (Nat.ne_of_lt (lt b hb))];exact f0,fr⟩
    have nzT:s.heap.objs.size≠z:=Nat.ne_of_gt (lt z (by simp))
    have I2:aF X pins σ (a_ H s.heap.objs.size (.tup [x,y])) {s with heap:=g',toks:=s.toks}:=by
      refine I1.turnedL (t':=s.toks) hf1 fun b o nb e=>?_
      have nb':b≠z∧b≠TI∧b≠TO∧b≠i1∧b≠i2:=by simpa using nb
      refine ge.extBut _ _ nb'.1 ?_
      rcases Heap.get?_push_cases e with ⟨rfl,rfl⟩ | e
      · exact gT
      · exact gk b o nb'.1 nb'.2.2.1 nb'.2.2.2.1 nb'.2.2.2.2 e
    refine⟨.ref s.heap.objs.size,_,I2,rfl,⟨_,x,y,rfl,hT,rfl,fun xs' ys' w1 w2=>?_⟩,⟨gz',ge.extBut _ _ n7 (gk _ _ n7 n8 n9 n10 hI),⟨ux,uy,ge.extBut _ _ n1 gO⟩,g1.at fun o e=>ge.extBut _ _ n2 e,g2.at fun o e=>ge.extBut _ _ n3 e⟩,fun b hb=>(hf1 b hb).1⟩
    rw [I.tuple_inj w1 q1,I.tuple_inj w2 q2]
    exact⟨hx,hy⟩
  done:=by
    intro X hP hw hK hc i pins s σ H E I hf st hg
    subst hP hw hK
    obtain⟨xs,ys,q1,q2,hn⟩:=hg
    obtain⟨hz,hI,⟨a,b,hO⟩,u1,u2⟩:=id st
    obtain⟨its1,rv1,p1,z1⟩:=I.tuple q1
    obtain⟨its2,rv2,p2,z2⟩:=I.tuple q2
    have fz:=hf z (by simp);have fO:=hf TO (by simp);have f1:=hf i1 (by simp);have f2:=hf i2 (by simp)
    have D:hX z TI TO i1 i2 l1 l2:=⟨n1,n2,n3,n4,n5,n6,aE I fz q1,aE I fO q1,aE I f1 q1,aE I f2 q1,aE I fz q2,aE I fO q2,aE I f1 q2,aE I f2 q2⟩
    have e1:=rv1.length
    have e2:=rv2.length
    refine kd (xs:=its1.toArray) (ys:=its2.toArray) (I.ok.hd hc) (iN i1 l1) (iN i2 l2) D hz hI hO u1 u2 p1 p2 ?_ fun g gk=>⟨rfl,I.turnedL (t':=s.toks) hf fun b o nb e=>?_⟩
    · rcases hn with hn | hn
      · exact .inl (by simp;lia)
      · exact .inr (by simp;lia)
    · have nb':b≠z∧b≠TI∧b≠TO∧b≠i1∧b≠i2:=by simpa using nb
      exact gk b o nb'.1 nb'.2.2.1 nb'.2.2.2.1 nb'.2.2.2.2 e
  self:=fun A i s Q E st h=>wpAny_pyIter_zip st.1 h
theorem Ac(l1 l2:Addr)(xs ys:Array Value):
    Meets (Builtin.«zip.__new__» ⟨[.type "zip",.ref l1,.ref l2],[]⟩) (fun _ R s=>s.heap.IsTuple l1 xs∧s.heap.IsTuple l2 ys∧
      R (.ok (.ret (.ref (s.heap.objs.size+4)))) {s with heap:=((((s.heap.push {cls:=.type "tuple_iterator",data:=.fields #[.ref l1,.int 0 0]}).push {cls:=.type "tuple_iterator",data:=.fields #[.ref l2,.int 0 0]}).push {cls:=.type "tuple",data:=.seq #[.ref s.heap.objs.size,.ref (s.heap.objs.size+1)]}).push {cls:=.type "tuple",data:=.seq #[.none,.none]}).push {cls:=.type "zip",data:=.fields #[.none,.bool false,.bool false,.ref (s.heap.objs.size+2),.ref (s.heap.objs.size+3)]}}):=
  .of_wp fun prog w A R s h=>by
    obtain⟨hp,g,d,tk,os⟩:=s;obtain⟨t1,t2,h⟩:=h;have sz:=PySem.sub_zip
    have T1:Heap.IsTuple (Shared.heap ⟨hp,g,d,tk,os⟩) l1 xs:=t1
    have T2:Heap.IsTuple (Shared.heap ⟨hp.push {cls:=.type "tuple_iterator",data:=.fields #[.ref l1,.int 0 0]},g,d,tk,os⟩) l2 ys:=Heap.IsTuple.push t2 _
    wp_walk using wpAny_pyIter_tuple T1,wpAny_pyIter_tuple T2
    refine⟨_,rfl,?_⟩
    simp only [Heap.size_push]
    exact h
section
variable{prog:Program}{w:World}{A:Around}{E:Value→Shared→Prop}{s:Shared}
theorem yg{l1 l2:Addr}{xs ys:Array Value}{Q:Value→Shared→Prop}(t1:s.heap.IsTuple l1 xs)(t2:s.heap.IsTuple l2 ys)
    (h:∀g,AH (s.heap.objs.size+4) (s.heap.objs.size+2) (s.heap.objs.size+3) s.heap.objs.size (s.heap.objs.size+1) l1 l2 0 g→(∀c o,s.heap.get? c=some o→g.get? c=some o)→Q (.ref (s.heap.objs.size+4)) {s with heap:=g}):
    wpAny (model prog w) A (call (.type "zip") [.ref l1,.ref l2]) Q E s:=by
  refine callType_new F.called_zip (by decide) (F.typeCall_zip_2 _ _) (F.newCall_zip_2 _ _) (fun obj=>F.args_object_init_3 obj _ _) F.entry_zip_new (Ac l1 l2 xs ys) ⟨t1,t2,?_⟩
  have at5:∀(g:Heap) (o:Obj) (a:Addr),o.isFreed=false→a=g.objs.size→(g.push o).get? a=some o:=fun g o a hf e=>by rw [e];exact Heap.get?_push_size _ hf
  have g5:=at5 ((((s.heap.push {cls:=.type "tuple_iterator",data:=.fields #[.ref l1,.int 0 0]}).push {cls:=.type "tuple_iterator",data:=.fields #[.ref l2,.int 0 0]}).push {cls:=.type "tuple",data:=.seq #[.ref s.heap.objs.size,.ref (s.heap.objs.size+1)]}).push {cls:=.type "tuple",data:=.seq #[.none,.none]}) {cls:=.type "zip",data:=.fields #[.none,.bool false,.bool false,.ref (s.heap.objs.size+2),.ref (s.heap.objs.size+3)]} (s.heap.objs.size+4) rfl (by simp only [Heap.size_push])
  have g4:=at5 (((s.heap.push {cls:=.type "tuple_iterator",data:=.fields #[.ref l1,.int 0 0]}).push {cls:=.type "tuple_iterator",data:=.fields #[.ref l2,.int 0 0]}).push {cls:=.type "tuple",data:=.seq #[.ref s.heap.objs.size,.ref (s.heap.objs.size+1)]}) {cls:=.type "tuple",data:=.seq #[.none,.none]} (s.heap.objs.size+3) rfl (by simp only [Heap.size_push])
  have g3:=at5 ((s.heap.push {cls:=.type "tuple_iterator",data:=.fields #[.ref l1,.int 0 0]}).push {cls:=.type "tuple_iterator",data:=.fields #[.ref l2,.int 0 0]}) {cls:=.type "tuple",data:=.seq #[.ref s.heap.objs.size,.ref (s.heap.objs.size+1)]} (s.heap.objs.size+2) rfl (by simp only [Heap.size_push])
  have g2:=at5 (s.heap.push {cls:=.type "tuple_iterator",data:=.fields #[.ref l1,.int 0 0]}) {cls:=.type "tuple_iterator",data:=.fields #[.ref l2,.int 0 0]} (s.heap.objs.size+1) rfl (by simp only [Heap.size_push])
  have g1:=at5 s.heap {cls:=.type "tuple_iterator",data:=.fields #[.ref l1,.int 0 0]} s.heap.objs.size rfl rfl
  have up:∀{g:Heap} {a:Addr} {u:Obj} (o:Obj),g.get? a=some u→(g.push o).get? a=some u:=fun o e=>Heap.get?_push_of_some o e
  refine⟨⟨_,g5,rfl⟩,h _ ⟨g5,up _ (up _ g3),⟨_,_,up _ g4⟩,⟨_,up _ (up _ (up _ (up _ g1))),rfl,rfl⟩,⟨_,up _ (up _ (up _ g2)),rfl,rfl⟩⟩ fun c o x=>up _ (up _ (up _ (up _ (up _ x))))⟩
end
theorem jz:PySem.bootBuiltins "zip"=some (.type "zip"):=by decide+kernel
def EV(K:PySem.W.Frag)(ta:TA):TI:=fun σ H R=>ta σ H fun vs H1=>∃a b,vs=[.ref a,.ref b]∧(∃xs,cD K H1 a xs)∧(∃ys,cD K H1 b ys)∧R (Ft K a b) H1
theorem BS{X:Cx}{K:PySem.W.Frag}{es:List Expr}{k0:Nat}{tp:Pos}{a b:Expr}{ta:TA}{p pos:Pos}(hK:X.K=K)(hg:Gl X "zip")(hm:X.mg "zip"=none)(ha:PA X [a,b] ta)(hs:starEach [a,b] X.env=[(false,eval a X.env),(false,eval b X.env)]:=by rfl)(hs2:starEach [b] X.env=[(false,eval b X.env)]:=by rfl):
    PI X (.Tuple es k0 tp) (.Call (.Name "zip" p) [a,b] [] pos) (EV K ta):=by
  intro pins s σ H R I h
  subst hK
  refine Call_ (iB I hg hm jz (PyProof.Rows.callWith_type1 (cP (ha pos pins s σ H _ I h) fun us s1 ⟨vs,H1,I1,r1,q1⟩=>?_) (by rw [hs,hs2]) (by rw [hs2];rfl)))
  obtain⟨a,b,e,⟨xs,qx⟩,⟨ys,qy⟩,q⟩:=q1
  subst e
  cases r1 with
  | cons r rr=>
    cases rr with
    | cons r' rr=>
      cases rr
      cases r
      cases r'
      obtain⟨i1,v1,p1,_⟩:=I1.tuple qx
      obtain⟨i2,v2,p2,_⟩:=I1.tuple qy
      refine yg p1 p2 fun g st hk=>wpAny_pyIter_zip st.1 ?_
      have I2:aF X pins σ H1 {s1 with heap:=g,toks:=s1.toks}:=I1.kept (t':=s1.toks) fun b o e=>hk b o e
      refine⟨s1.heap.objs.size+4,[s1.heap.objs.size+4,s1.heap.objs.size+2,s1.heap.objs.size+3,s1.heap.objs.size,s1.heap.objs.size+1],_,_,H1,rfl,I2,ya a b (show((s1.heap.objs.size+3:Nat)≠s1.heap.objs.size+4) by lia) (show((s1.heap.objs.size:Nat)≠s1.heap.objs.size+4) by lia) (show((s1.heap.objs.size+1:Nat)≠s1.heap.objs.size+4) by lia) (show((s1.heap.objs.size+3:Nat)≠s1.heap.objs.size) by lia) (show((s1.heap.objs.size+3:Nat)≠s1.heap.objs.size+1) by lia) (show((s1.heap.objs.size:Nat)≠s1.heap.objs.size+1) by lia) (show((s1.heap.objs.size+2:Nat)≠s1.heap.objs.size+4) by lia) (show((s1.heap.objs.size+2:Nat)≠s1.heap.objs.size+3) by lia) (show((s1.heap.objs.size+2:Nat)≠s1.heap.objs.size) by lia) (show((s1.heap.objs.size+2:Nat)≠s1.heap.objs.size+1) by lia),st,fun c hc=>?_,q⟩
      have le:s1.heap.objs.size≤c:=by
        simp only [List.mem_cons,List.not_mem_nil,or_false] at hc
        rcases hc with rfl | rfl | rfl | rfl | rfl
        · exact Nat.le_add_right _ 4
        · exact Nat.le_add_right _ 2
        · exact Nat.le_add_right _ 3
        · exact Nat.le_refl _
        · exact Nat.le_add_right _ 1
      have f:=I1.fpOk (H':=H1) le (I1.hok.fresh le)
      exact f
end L2
namespace L2
open PySem PySem.Spec PyProof.Rows
section
variable{prog:Program}{w:World}{A:Around}{E:Value→Shared→Prop}{s:Shared}{e it l:Addr}{k:Nat}{xs:Array Value}{S:Nat→Heap→Prop}{R:Heap→Array Value→Prop}
end
section
variable{X:Cx}{pins:List (Addr × Obj)}{σ:L2.St}{H:Hp}{s:Shared}
theorem ar(I:aF X pins σ H s){b l:Addr}{xs:List V}(f:ij X pins H b)(q:dg X.K H l xs):l≠b:=by
  intro z
  subst z
  rcases q with (q | ⟨o,q⟩) | ⟨o,its,n,hk,_⟩
  · rw [f.1] at q;cases q
  · rw [f.1] at q;cases q
  · have hb:X.base.get? l=some o:=I.ok.mod.kin l o hk
    rcases f.2.2.2.1 with z | z
    · exact I.ok.noex l o hb z
    · exact absurd (Nat.lt_of_lt_of_le (Heap.lt_size (I.ok.bs l o hb).1) z) (Nat.lt_irrefl _)
end
end L2
namespace L2
open PySem PySem.Spec PyProof.Rows
section
variable{X:Cx}{a:Expr}{ta:TA}{p p2 pos pos2:Pos}
end
end L2
namespace L2
open PySem PySem.Spec PyProof.Rows
theorem uA:fillsNumberSlot (.type "tuple") "mul"=pure false:=
  PySem.fillsNumberSlot_seq (id:="tuple.__mul__") (r:=some (.builtin "tuple.__rmul__")) F.slot_tuple_mul.lookup (by decide+kernel) F.slot_tuple_rmul.lookup (by decide+kernel)
theorem Cc:seqRepeat? (.type "tuple")=pure (some (.builtin "tuple.__mul__")):=by
  unfold seqRepeat?;rw [PySem.seqSlot_of (T:="tuple") (name:="__mul__") (id:="tuple.__mul__") F.slot_tuple_mul.lookup (by decide+kernel),PySem.seqSlot_of (T:="tuple") (name:="__rmul__") (id:="tuple.__rmul__") F.slot_tuple_rmul.lookup (by decide+kernel)];rfl
theorem zK(a:Int)(t:Tok)(l:Addr)(items:Array Value)(n:Nat)(dd:Option Addr)(sl:Array (Option Value)):
    Meets (Builtin.«int.__rmul__» ⟨[.int a t,.ref l],[]⟩) (fun _ R s=>s.heap.get? l=some {cls:=.type "tuple",dict:=dd,data:=.seq items n,slots:=sl}∧R (.ok (.ret Value.notImplemented)) s):=
  .of_wp fun prog w A R s h=>by obtain⟨hp,g,d,tk,os⟩:=s;obtain⟨hl,h⟩:=h;wp_walk;exact⟨_,rfl,h⟩
theorem Bl(l:Addr)(x:Value)(n:Nat)(k:Int)(u:Tok)(dd:Option Addr)(sl:Array (Option Value))(h0:2≤k)(h1:k≤100000):
    Meets (Builtin.«tuple.__mul__» ⟨[.ref l,.int k u],[]⟩) (fun _ R s=>s.heap.get? l=some {cls:=.type "tuple",dict:=dd,data:=.seq #[x] n,slots:=sl}∧
      R (.ok (.ret (.ref s.heap.objs.size))) {s with heap:=s.heap.push {cls:=.type "tuple",data:=.seq (List.replicate k.toNat x).toArray}}):=
  .of_wp fun prog w A R s h=>by
    obtain⟨hp,g,d,tk,os⟩:=s;obtain⟨hl,h⟩:=h
    have f1:=AutoSeq1.idx_int
    have c1:¬(decide (k < -(2 ^ 63)) || decide (k≥2 ^ 63))=true:=by simp;lia
    have c2:¬((#[x]:Array Value).isEmpty || k==1)=true:=by simp;lia
    have c3:¬(decide (k≤0) || (#[x]:Array Value).isEmpty)=true:=by simp;lia
    have c4:¬(((#[x]:Array Value).size:Int)*k > (2 ^ 63 - 1) / 8):=by simp;lia
    have c5:¬Builtin.Tuple.tupleTooMany (((#[x]:Array Value).size:Int)*k)=true:=by
      unfold Builtin.Tuple.tupleTooMany;rw [sizeLine_eq];simp;lia
    wp_walk using wpAny_loadPart' hl
    rw [if_neg c1]
    wp_walk using wpAny_loadPart' hl
    rw [if_neg c2]
    wp_walk using wpAny_loadPart' hl
    rw [if_neg c3]
    wp_walk using wpAny_loadPart' hl
    rw [if_neg c4]
    show wpAny _ _ (if Builtin.Tuple.tupleTooMany (((#[x]:Array Value).size:Int)*k)=true then _ else _) _ _ _
    rw [if_neg c5]
    have f0:∀(m:Nat) (acc:Array Value),List.foldl (fun x1 x2=>x1++x2) acc (List.replicate m #[x])=acc++(List.replicate m x).toArray:=by
      intro m
      induction m with
      | zero=>intro acc;simp
      | succ m ih=>intro acc;rw [List.replicate_succ,List.foldl_cons,ih,List.replicate_succ];apply Array.toList_inj.mp;simp
    have e:List.foldl (fun x1 x2=>x1++x2) #[] (List.replicate k.toNat #[x])=(List.replicate k.toNat x).toArray:=by rw [f0];simp
    show wpAny _ _ (Builtin.Tuple.tupleExact (List.foldl (fun x1 x2=>x1++x2) #[] (List.replicate k.toNat #[x])) >>= fun v=>ret v) _ _ _
    rw [e]
    unfold Builtin.Tuple.tupleExact
    refine wpAny_bind (wpAny_newObj_type ?_ (by show(List.replicate k.toNat x).toArray.size≤sizeLine;rw [List.size_toArray,List.length_replicate,sizeLine_eq];lia))
    exact wpAny_pure ⟨_,rfl,h⟩
theorem yP(l:Addr)(x:Value)(n:Nat)(u:Tok)(dd:Option Addr)(sl:Array (Option Value)):
    Meets (Builtin.«tuple.__mul__» ⟨[.ref l,.int 0 u],[]⟩) (fun _ R s=>s.heap.get? l=some {cls:=.type "tuple",dict:=dd,data:=.seq #[x] n,slots:=sl}∧R (.ok (.ret (.ref s.heap.objs.size))) {s with heap:=s.heap.push {cls:=.type "tuple",data:=.seq #[]}}):=
  .of_wp fun prog w A R s h=>by
    obtain⟨hp,g,d,tk,os⟩:=s;obtain⟨hl,h⟩:=h;have f1:=AutoSeq1.idx_int
    have c2:¬((#[x]:Array Value).isEmpty || (0:Int)==1)=true:=by simp
    wp_walk using wpAny_loadPart' hl
    first | rw [if_neg c2] | skip
    wp_walk using wpAny_loadPart' hl
    exact⟨_,rfl,h⟩
theorem yQ(l:Addr)(x:Value)(n:Nat)(u:Tok)(dd:Option Addr)(sl:Array (Option Value)):
    Meets (Builtin.«tuple.__mul__» ⟨[.ref l,.int 1 u],[]⟩) (fun _ R s=>s.heap.get? l=some {cls:=.type "tuple",dict:=dd,data:=.seq #[x] n,slots:=sl}∧R (.ok (.ret (.ref l))) s):=
  .of_wp fun prog w A R s h=>by
    obtain⟨hp,g,d,tk,os⟩:=s;obtain⟨hl,h⟩:=h;have f1:=AutoSeq1.idx_int
    wp_walk using wpAny_loadPart' hl
    exact⟨_,rfl,h⟩
section
variable{X:Cx}
def xE(K:PySem.W.Frag):R2:=fun x y H Q=>∃a k v,x=.ref a∧y=.int k∧cD K H a [v]∧0≤k∧k≤100000∧∀p H',aw H H'→cD K H' p (List.replicate k.toNat v)→Q (.ref p) H'
theorem ze:fV X (binaryOp .Mult) (xE X.K):=by
  intro pins s σ H x y v u Q I rx ry h
  obtain⟨a,k,z,rfl,rfl,ha,k0,k1,q⟩:=h
  cases rx
  obtain⟨t,rfl⟩:=ry
  obtain⟨its,r,p,hz⟩:=I.tuple ha
  obtain⟨uz,rfl,rz⟩:=rM r
  obtain⟨⟨cls,dd,data,sl⟩,ho,hc,n,hd⟩:=id p
  simp only at hc hd
  subst hc hd
  refine wpAny_binaryOp_repeat_ref (T:="tuple") (U:="int") (by decide) ⟨_,ho,rfl⟩ (fun s'=>PySem.typeIs_int s' k t) uA F.fills_int_mul F.slot_int_rmul Cc F.slot_int_index.lookup (call_meets F.slot_int_rmul (PySem.typeIs_int s k t) F.entry_int_rmul (F.args_int_rmul_2 _ _) (zK k t a #[uz] n dd sl) ⟨ho,rfl,⟨_,ho,rfl⟩,?_⟩)
  have new:∀m:Nat,m=k.toNat→EP X pins σ Q (.ref s.heap.objs.size) {s with heap:=s.heap.push {cls:=.type "tuple",data:=.seq (List.replicate m uz).toArray},toks:=s.toks}:=fun m hm=>by
    have hf:H s.heap.objs.size=none:=I.hok.fresh (Nat.le_refl _)
    have vv:∀j:Nat,aS (List.replicate j z) (List.replicate j uz):=fun j=>by
      induction j with
      | zero=>exact .nil
      | succ j ih=>exact .cons rz ih
    refine⟨.ref s.heap.objs.size,_,I.laid (t':=s.toks) (o:=.tup (List.replicate m z)) (fun b ob q=>Heap.get?_push_of_some _ q) (Nat.le_refl _) ⟨by rw [List.length_replicate,sizeLine_eq];lia,_,vv m,ke.new _ _⟩,rfl,q _ _ (aw.new hf) (cD.of (by rw [aG,hm]))⟩
  rcases(by lia:k=0∨k=1∨2≤k) with e | e | e
  · subst e
    exact call_meets F.slot_tuple_mul ⟨_,ho,rfl⟩ F.entry_tuple_mul (F.args_tuple_mul_2 _ _) (yP a uz n t dd sl) ⟨ho,new 0 rfl⟩
  · subst e
    exact call_meets F.slot_tuple_mul ⟨_,ho,rfl⟩ F.entry_tuple_mul (F.args_tuple_mul_2 _ _) (yQ a uz n t dd sl) ⟨ho,⟨.ref a,H,I,rfl,q a H (aw.refl H) ha⟩⟩
  · exact call_meets F.slot_tuple_mul ⟨_,ho,rfl⟩ F.entry_tuple_mul (F.args_tuple_mul_2 _ _) (Bl a uz n k t dd sl e k1) ⟨ho,new _ rfl⟩
end
end L2
namespace L2
open PySem PySem.Spec PyProof.Rows
section
variable{prog:Program}{w:World}{A:Around}{E:Value→Shared→Prop}{s:Shared}
end
section
variable{X:Cx}{a:Expr}{ta:TA}{p p2 p3 pos pos2 pos3:Pos}
end
end L2
namespace L2
open PySem PySem.Spec PyProof.Rows
section
variable{prog:Program}{w:World}{A:Around}{E:Value→Shared→Prop}{s:Shared}
end
section
variable{X:Cx}{K:PySem.W.Frag}{es:List Expr}{k0:Nat}{tp:Pos}{a:Expr}{ta:TA}{p pos:Pos}
end
end L2
namespace L2
open PySem PySem.Spec PyProof.Rows
theorem uI{X:Cx}:fV X (compareOp .IsNot) (fun x y H Q=>∃b c,x=.bl b∧y=.bl c∧Q (.bl (!(b==c))) H):=by
  intro pins s σ H x y v u Q I rx ry h
  obtain⟨b,c,rfl,rfl,q⟩:=h
  cases rx;cases ry
  refine wpAny_isNot_plain (by cases b<;>cases c<;>rfl) ⟨.bl (!(b==c)),H,I,?_,q⟩
  show Value.bool _=Value.bool _
  cases b<;>cases c<;>rfl
def Ah(K:PySem.W.Frag)(l1 l2:Addr):It:=
  ⟨fun i H=>∃xs ys x y,dg K H l1 xs∧cD K H l2 ys∧xs[i]?=some x∧ys[i]?=some y,
   fun i H v H'=>∃p x y,v=.ref p∧H p=none∧H'=a_ H p (.tup [x,y])∧∀xs ys,dg K H l1 xs→cD K H l2 ys→xs[i]?=some x∧ys[i]?=some y,
   fun i H=>∃xs ys,dg K H l1 xs∧cD K H l2 ys∧(xs.length≤i∨ys.length≤i)⟩
def tX(z TI TO i1 i2 l1 l2:Addr)(i:Nat)(h:Heap):Prop:=IsZip h z TI TO .none∧IsPair h TI (.ref i1) (.ref i2)∧(∃a b,IsPair h TO a b)∧h.IsListIter i1 l1 i∧h.IsTupleIter i2 l2 i
theorem si{P:Program}{w:World}{K:PySem.W.Frag}{es:List Expr}{k0:Nat}{pos:Pos}{z TI TO i1 i2:Addr}(l1 l2:Addr)(n1:TO≠z)(n2:i1≠z)(n3:i2≠z)(n4:TO≠i1)(n5:TO≠i2)(n6:i1≠i2)(n7:TI≠z)(n8:TI≠TO)(n9:TI≠i1)(n10:TI≠i2):
    pL P w K (.Tuple es k0 pos) (Ah K l1 l2) [z,TI,TO,i1,i2] z (tX z TI TO i1 i2 l1 l2) where
  mem:=by simp
  obj:=fun i h st b hb=>by
    obtain⟨hz,hI,⟨a,c,hO⟩,u1,u2⟩:=st
    simp only [List.mem_cons,List.not_mem_nil,or_false] at hb
    rcases hb with rfl | rfl | rfl | rfl | rfl
    · exact⟨_,hz,fun v z=>by cases z⟩
    · exact⟨_,hI,fun v z=>by cases z⟩
    · exact⟨_,hO,fun v z=>by cases z⟩
    · obtain⟨o,e,c,d⟩:=u1
      exact⟨o,e,fun v z=>by rw [d] at z;cases z⟩
    · obtain⟨o,e,c,d⟩:=u2
      exact⟨o,e,fun v z=>by rw [d] at z;cases z⟩
  keep:=fun i h h' st k=>by
    obtain⟨hz,hI,⟨a,c,hO⟩,u1,u2⟩:=st
    exact⟨k _ (by simp) _ hz,k _ (by simp) _ hI,⟨a,c,k _ (by simp) _ hO⟩,u1.at fun o e=>k _ (by simp) o e,u2.at fun o e=>k _ (by simp) o e⟩
  item:=by
    intro X hP hw hK hc i pins s σ H E I hf st hg
    subst hP hw hK
    obtain⟨xs,ys,x,y,q1,q2,hx,hy⟩:=hg
    obtain⟨hz,hI,⟨a,b,hO⟩,u1,u2⟩:=id st
    obtain⟨its1,rv1,p1,z1⟩:=I.list q1
    obtain⟨its2,rv2,p2,z2⟩:=I.tuple q2
    obtain⟨ux,hux,rux⟩:=rv1.get hx
    obtain⟨uy,huy,ruy⟩:=rv2.get hy
    have fz:=hf z (by simp);have fO:=hf TO (by simp);have f1:=hf i1 (by simp);have f2:=hf i2 (by simp)
    have D:hX z TI TO i1 i2 l1 l2:=⟨n1,n2,n3,n4,n5,n6,ar I fz q1,ar I fO q1,ar I f1 q1,ar I f2 q1,aE I fz q2,aE I fO q2,aE I f1 q2,aE I f2 q2⟩
    refine kc (xs:=its1.toArray) (ys:=its2.toArray) (fL i1 l1) (iN i2 l2) D hz hI hO u1 u2 p1.isList p2 (by simpa using hux) (by simpa using huy) fun g gz gO g1 g2 gT gs gk=>?_
    refine⟨_,rfl,wpAny_letOwnedTupleGo_zip gz fun g' gz' ge=>?_⟩
    have lt:∀b∈[z,TI,TO,i1,i2],b < s.heap.objs.size:=fun b hb=>by
      simp only [List.mem_cons,List.not_mem_nil,or_false] at hb
      rcases hb with rfl | rfl | rfl | rfl | rfl
      · exact Heap.lt_size hz
      · exact Heap.lt_size hI
      · exact Heap.lt_size hO
      · obtain⟨o,e,_⟩:=u1;exact Heap.lt_size e
      · obtain⟨o,e,_⟩:=u2;exact Heap.lt_size e
    have hT:H s.heap.objs.size=none:=I.hok.fresh (Nat.le_refl _)
    have vv:aS [x,y] [ux,uy]:=.cons rux (.cons ruy .nil)
    have I1:aF X pins σ (a_ H s.heap.objs.size (.tup [x,y])) {s with heap:=s.heap.push {cls:=.type "tuple",data:=.seq #[ux,uy]},toks:=s.toks}:=
      I.laid (t':=s.toks) (fun b u e=>Heap.get?_push_of_some _ e) (Nat.le_refl _) ⟨(by show 2≤sizeLine;decide),[ux,uy],vv,ke.new _ _⟩
    have hf1:∀b∈[z,TI,TO,i1,i2],ij X pins (a_ H s.heap.objs.size (.tup [x,y])) b:=fun b hb=>by
      obtain⟨f0,fr⟩:=hf b hb
      exact⟨by rw [aI (Nat.ne_of_lt (lt b hb))];exact f0,fr⟩
    have nzT:s.heap.objs.size≠z:=Nat.ne_of_gt (lt z (by simp))
    have I2:aF X pins σ (a_ H s.heap.objs.size (.tup [x,y])) {s with heap:=g',toks:=s.toks}:=by
      refine I1.turnedL (t':=s.toks) hf1 fun b o nb e=>?_
      have nb':b≠z∧b≠TI∧b≠TO∧b≠i1∧b≠i2:=by simpa using nb
      refine ge.extBut _ _ nb'.1 ?_
      rcases Heap.get?_push_cases e with ⟨rfl,rfl⟩ | e
      · exact gT
      · exact gk b o nb'.1 nb'.2.2.1 nb'.2.2.2.1 nb'.2.2.2.2 e
    refine⟨.ref s.heap.objs.size,_,I2,rfl,⟨_,x,y,rfl,hT,rfl,fun xs' ys' w1 w2=>?_⟩,⟨gz',ge.extBut _ _ n7 (gk _ _ n7 n8 n9 n10 hI),⟨ux,uy,ge.extBut _ _ n1 gO⟩,g1.at fun o e=>ge.extBut _ _ n2 e,g2.at fun o e=>ge.extBut _ _ n3 e⟩,fun b hb=>(hf1 b hb).1⟩
    rw [I.list_inj w1 q1,I.tuple_inj w2 q2]
    exact⟨hx,hy⟩
  done:=by
    intro X hP hw hK hc i pins s σ H E I hf st hg
    subst hP hw hK
    obtain⟨xs,ys,q1,q2,hn⟩:=hg
    obtain⟨hz,hI,⟨a,b,hO⟩,u1,u2⟩:=id st
    obtain⟨its1,rv1,p1,z1⟩:=I.list q1
    obtain⟨its2,rv2,p2,z2⟩:=I.tuple q2
    have fz:=hf z (by simp);have fO:=hf TO (by simp);have f1:=hf i1 (by simp);have f2:=hf i2 (by simp)
    have D:hX z TI TO i1 i2 l1 l2:=⟨n1,n2,n3,n4,n5,n6,ar I fz q1,ar I fO q1,ar I f1 q1,ar I f2 q1,aE I fz q2,aE I fO q2,aE I f1 q2,aE I f2 q2⟩
    have e1:=rv1.length
    have e2:=rv2.length
    refine kd (xs:=its1.toArray) (ys:=its2.toArray) (I.ok.hd hc) (fL i1 l1) (iN i2 l2) D hz hI hO u1 u2 p1.isList p2 ?_ fun g gk=>⟨rfl,I.turnedL (t':=s.toks) hf fun b o nb e=>?_⟩
    · rcases hn with hn | hn
      · exact .inl (by simp;lia)
      · exact .inr (by simp;lia)
    · have nb':b≠z∧b≠TI∧b≠TO∧b≠i1∧b≠i2:=by simpa using nb
      exact gk b o nb'.1 nb'.2.2.1 nb'.2.2.2.1 nb'.2.2.2.2 e
  self:=fun A i s Q E st h=>wpAny_pyIter_zip st.1 h
theorem uW(l1 l2:Addr)(xs ys:Array Value):
    Meets (Builtin.«zip.__new__» ⟨[.type "zip",.ref l1,.ref l2],[]⟩) (fun _ R s=>s.heap.IsList l1 xs∧s.heap.IsTuple l2 ys∧
      R (.ok (.ret (.ref (s.heap.objs.size+4)))) {s with heap:=((((s.heap.push {cls:=.type "list_iterator",data:=.fields #[.ref l1,.int 0 0]}).push {cls:=.type "tuple_iterator",data:=.fields #[.ref l2,.int 0 0]}).push {cls:=.type "tuple",data:=.seq #[.ref s.heap.objs.size,.ref (s.heap.objs.size+1)]}).push {cls:=.type "tuple",data:=.seq #[.none,.none]}).push {cls:=.type "zip",data:=.fields #[.none,.bool false,.bool false,.ref (s.heap.objs.size+2),.ref (s.heap.objs.size+3)]}}):=
  .of_wp fun prog w A R s h=>by
    obtain⟨hp,g,d,tk,os⟩:=s;obtain⟨t1,t2,h⟩:=h;have sz:=PySem.sub_zip
    have T1:Heap.IsList (Shared.heap ⟨hp,g,d,tk,os⟩) l1 xs:=t1
    have T2:Heap.IsTuple (Shared.heap ⟨hp.push {cls:=.type "list_iterator",data:=.fields #[.ref l1,.int 0 0]},g,d,tk,os⟩) l2 ys:=Heap.IsTuple.push t2 _
    wp_walk using wpAny_pyIter_list T1,wpAny_pyIter_tuple T2
    refine⟨_,rfl,?_⟩
    simp only [Heap.size_push]
    exact h
section
variable{prog:Program}{w:World}{A:Around}{E:Value→Shared→Prop}{s:Shared}
theorem sv{l1 l2:Addr}{xs ys:Array Value}{Q:Value→Shared→Prop}(t1:s.heap.IsList l1 xs)(t2:s.heap.IsTuple l2 ys)
    (h:∀g,tX (s.heap.objs.size+4) (s.heap.objs.size+2) (s.heap.objs.size+3) s.heap.objs.size (s.heap.objs.size+1) l1 l2 0 g→(∀c o,s.heap.get? c=some o→g.get? c=some o)→Q (.ref (s.heap.objs.size+4)) {s with heap:=g}):
    wpAny (model prog w) A (call (.type "zip") [.ref l1,.ref l2]) Q E s:=by
  refine callType_new F.called_zip (by decide) (F.typeCall_zip_2 _ _) (F.newCall_zip_2 _ _) (fun obj=>F.args_object_init_3 obj _ _) F.entry_zip_new (uW l1 l2 xs ys) ⟨t1,t2,?_⟩
  have at5:∀(g:Heap) (o:Obj) (a:Addr),o.isFreed=false→a=g.objs.size→(g.push o).get? a=some o:=fun g o a hf e=>by rw [e];exact Heap.get?_push_size _ hf
  have g5:=at5 ((((s.heap.push {cls:=.type "list_iterator",data:=.fields #[.ref l1,.int 0 0]}).push {cls:=.type "tuple_iterator",data:=.fields #[.ref l2,.int 0 0]}).push {cls:=.type "tuple",data:=.seq #[.ref s.heap.objs.size,.ref (s.heap.objs.size+1)]}).push {cls:=.type "tuple",data:=.seq #[.none,.none]}) {cls:=.type "zip",data:=.fields #[.none,.bool false,.bool false,.ref (s.heap.objs.size+2),.ref (s.heap.objs.size+3)]} (s.heap.objs.size+4) rfl (by simp only [Heap.size_push])
  have g4:=at5 (((s.heap.push {cls:=.type "list_iterator",data:=.fields #[.ref l1,.int 0 0]}).push {cls:=.type "tuple_iterator",data:=.fields #[.ref l2,.int 0 0]}).push {cls:=.type "tuple",data:=.seq #[.ref s.heap.objs.size,.ref (s.heap.objs.size+1)]}) {cls:=.type "tuple",data:=.seq #[.none,.none]} (s.heap.objs.size+3) rfl (by simp only [Heap.size_push])
  have g3:=at5 ((s.heap.push {cls:=.type "list_iterator",data:=.fields #[.ref l1,.int 0 0]}).push {cls:=.type "tuple_iterator",data:=.fields #[.ref l2,.int 0 0]}) {cls:=.type "tuple",data:=.seq #[.ref s.heap.objs.size,.ref (s.heap.objs.size+1)]} (s.heap.objs.size+2) rfl (by simp only [Heap.size_push])
  have g2:=at5 (s.heap.push {cls:=.type "list_iterator",data:=.fields #[.ref l1,.int 0 0]}) {cls:=.type "tuple_iterator",data:=.fields #[.ref l2,.int 0 0]} (s.heap.objs.size+1) rfl (by simp only [Heap.size_push])
  have g1:=at5 s.heap {cls:=.type "list_iterator",data:=.fields #[.ref l1,.int 0 0]} s.heap.objs.size rfl rfl
  have up:∀{g:Heap} {a:Addr} {u:Obj} (o:Obj),g.get? a=some u→(g.push o).get? a=some u:=fun o e=>Heap.get?_push_of_some o e
  refine⟨⟨_,g5,rfl⟩,h _ ⟨g5,up _ (up _ g3),⟨_,_,up _ g4⟩,⟨_,up _ (up _ (up _ (up _ g1))),rfl,rfl⟩,⟨_,up _ (up _ (up _ g2)),rfl,rfl⟩⟩ fun c o x=>up _ (up _ (up _ (up _ (up _ x))))⟩
end
def A6(K:PySem.W.Frag)(ta:TA):TI:=fun σ H R=>ta σ H fun vs H1=>∃a b,vs=[.ref a,.ref b]∧(∃xs,dg K H1 a xs)∧(∃ys,cD K H1 b ys)∧R (Ah K a b) H1
theorem xc{X:Cx}{K:PySem.W.Frag}{es:List Expr}{k0:Nat}{tp:Pos}{a b:Expr}{ta:TA}{p pos:Pos}(hK:X.K=K)(hg:Gl X "zip")(hm:X.mg "zip"=none)(ha:PA X [a,b] ta)(hs:starEach [a,b] X.env=[(false,eval a X.env),(false,eval b X.env)]:=by rfl)(hs2:starEach [b] X.env=[(false,eval b X.env)]:=by rfl):
    PI X (.Tuple es k0 tp) (.Call (.Name "zip" p) [a,b] [] pos) (A6 K ta):=by
  intro pins s σ H R I h
  subst hK
  refine Call_ (iB I hg hm jz (PyProof.Rows.callWith_type1 (cP (ha pos pins s σ H _ I h) fun us s1 ⟨vs,H1,I1,r1,q1⟩=>?_) (by rw [hs,hs2]) (by rw [hs2];rfl)))
  obtain⟨a,b,e,⟨xs,qx⟩,⟨ys,qy⟩,q⟩:=q1
  subst e
  cases r1 with
  | cons r rr=>
    cases rr with
    | cons r' rr=>
      cases rr
      cases r
      cases r'
      obtain⟨i1,v1,p1,_⟩:=I1.list qx
      obtain⟨i2,v2,p2,_⟩:=I1.tuple qy
      refine sv p1.isList p2 fun g st hk=>wpAny_pyIter_zip st.1 ?_
      have I2:aF X pins σ H1 {s1 with heap:=g,toks:=s1.toks}:=I1.kept (t':=s1.toks) fun b o e=>hk b o e
      refine⟨s1.heap.objs.size+4,[s1.heap.objs.size+4,s1.heap.objs.size+2,s1.heap.objs.size+3,s1.heap.objs.size,s1.heap.objs.size+1],_,_,H1,rfl,I2,si a b (show((s1.heap.objs.size+3:Nat)≠s1.heap.objs.size+4) by lia) (show((s1.heap.objs.size:Nat)≠s1.heap.objs.size+4) by lia) (show((s1.heap.objs.size+1:Nat)≠s1.heap.objs.size+4) by lia) (show((s1.heap.objs.size+3:Nat)≠s1.heap.objs.size) by lia) (show((s1.heap.objs.size+3:Nat)≠s1.heap.objs.size+1) by lia) (show((s1.heap.objs.size:Nat)≠s1.heap.objs.size+1) by lia) (show((s1.heap.objs.size+2:Nat)≠s1.heap.objs.size+4) by lia) (show((s1.heap.objs.size+2:Nat)≠s1.heap.objs.size+3) by lia) (show((s1.heap.objs.size+2:Nat)≠s1.heap.objs.size) by lia) (show((s1.heap.objs.size+2:Nat)≠s1.heap.objs.size+1) by lia),st,fun c hc=>?_,q⟩
      have le:s1.heap.objs.size≤c:=by
        simp only [List.mem_cons,List.not_mem_nil,or_false] at hc
        rcases hc with rfl | rfl | rfl | rfl | rfl
        · exact Nat.le_add_right _ 4
        · exact Nat.le_add_right _ 2
        · exact Nat.le_add_right _ 3
        · exact Nat.le_refl _
        · exact Nat.le_add_right _ 1
      have f:=I1.fpOk (H':=H1) le (I1.hok.fresh le)
      exact f
def Ai(K:PySem.W.Frag)(l1 l2:Addr):It:=
  ⟨fun i H=>∃xs ys x y,cD K H l1 xs∧dg K H l2 ys∧xs[i]?=some x∧ys[i]?=some y,
   fun i H v H'=>∃p x y,v=.ref p∧H p=none∧H'=a_ H p (.tup [x,y])∧∀xs ys,cD K H l1 xs→dg K H l2 ys→xs[i]?=some x∧ys[i]?=some y,
   fun i H=>∃xs ys,cD K H l1 xs∧dg K H l2 ys∧(xs.length≤i∨ys.length≤i)⟩
def tY(z TI TO i1 i2 l1 l2:Addr)(i:Nat)(h:Heap):Prop:=IsZip h z TI TO .none∧IsPair h TI (.ref i1) (.ref i2)∧(∃a b,IsPair h TO a b)∧h.IsTupleIter i1 l1 i∧h.IsListIter i2 l2 i
theorem sj{P:Program}{w:World}{K:PySem.W.Frag}{es:List Expr}{k0:Nat}{pos:Pos}{z TI TO i1 i2:Addr}(l1 l2:Addr)(n1:TO≠z)(n2:i1≠z)(n3:i2≠z)(n4:TO≠i1)(n5:TO≠i2)(n6:i1≠i2)(n7:TI≠z)(n8:TI≠TO)(n9:TI≠i1)(n10:TI≠i2):
    pL P w K (.Tuple es k0 pos) (Ai K l1 l2) [z,TI,TO,i1,i2] z (tY z TI TO i1 i2 l1 l2) where
  mem:=by simp
  obj:=fun i h st b hb=>by
    obtain⟨hz,hI,⟨a,c,hO⟩,u1,u2⟩:=st
    simp only [List.mem_cons,List.not_mem_nil,or_false] at hb
    rcases hb with rfl | rfl | rfl | rfl | rfl
    · exact⟨_,hz,fun v z=>by cases z⟩
    · exact⟨_,hI,fun v z=>by cases z⟩
    · exact⟨_,hO,fun v z=>by cases z⟩
    · obtain⟨o,e,c,d⟩:=u1
      exact⟨o,e,fun v z=>by rw [d] at z;cases z⟩
    · obtain⟨o,e,c,d⟩:=u2
      exact⟨o,e,fun v z=>by rw [d] at z;cases z⟩
  keep:=fun i h h' st k=>by
    obtain⟨hz,hI,⟨a,c,hO⟩,u1,u2⟩:=st
    exact⟨k _ (by simp) _ hz,k _ (by simp) _ hI,⟨a,c,k _ (by simp) _ hO⟩,u1.at fun o e=>k _ (by simp) o e,u2.at fun o e=>k _ (by simp) o e⟩
  item:=by
    intro X hP hw hK hc i pins s σ H E I hf st hg
    subst hP hw hK
    obtain⟨xs,ys,x,y,q1,q2,hx,hy⟩:=hg
    obtain⟨hz,hI,⟨a,b,hO⟩,u1,u2⟩:=id st
    obtain⟨its1,rv1,p1,z1⟩:=I.tuple q1
    obtain⟨its2,rv2,p2,z2⟩:=I.list q2
    obtain⟨ux,hux,rux⟩:=rv1.get hx
    obtain⟨uy,huy,ruy⟩:=rv2.get hy
    have fz:=hf z (by simp);have fO:=hf TO (by simp);have f1:=hf i1 (by simp);have f2:=hf i2 (by simp)
    have D:hX z TI TO i1 i2 l1 l2:=⟨n1,n2,n3,n4,n5,n6,aE I fz q1,aE I fO q1,aE I f1 q1,aE I f2 q1,ar I fz q2,ar I fO q2,ar I f1 q2,ar I f2 q2⟩
    refine kc (xs:=its1.toArray) (ys:=its2.toArray) (iN i1 l1) (fL i2 l2) D hz hI hO u1 u2 p1 p2.isList (by simpa using hux) (by simpa using huy) fun g gz gO g1 g2 gT gs gk=>?_
    refine⟨_,rfl,wpAny_letOwnedTupleGo_zip gz fun g' gz' ge=>?_⟩
    have lt:∀b∈[z,TI,TO,i1,i2],b < s.heap.objs.size:=fun b hb=>by
      simp only [List.mem_cons,List.not_mem_nil,or_false] at hb
      rcases hb with rfl | rfl | rfl | rfl | rfl
      · exact Heap.lt_size hz
      · exact Heap.lt_size hI
      · exact Heap.lt_size hO
      · obtain⟨o,e,_⟩:=u1;exact Heap.lt_size e
      · obtain⟨o,e,_⟩:=u2;exact Heap.lt_size e
    have hT:H s.heap.objs.size=none:=I.hok.fresh (Nat.le_refl _)
    have vv:aS [x,y] [ux,uy]:=.cons rux (.cons ruy .nil)
    have I1:aF X pins σ (a_ H s.heap.objs.size (.tup [x,y])) {s with heap:=s.heap.push {cls:=.type "tuple",data:=.seq #[ux,uy]},toks:=s.toks}:=
      I.laid (t':=s.toks) (fun b u e=>Heap.get?_push_of_some _ e) (Nat.le_refl _) ⟨(by show 2≤sizeLine;decide),[ux,uy],vv,ke.new _ _⟩
    have hf1:∀b∈[z,TI,TO,i1,i2],ij X pins (a_ H s.heap.objs.size (.tup [x,y])) b:=fun b hb=>by
      obtain⟨f0,fr⟩:=hf b hb
      exact⟨by rw [aI (Nat.ne_of_lt (lt b hb))];exact f0,fr⟩
    have nzT:s.heap.objs.size≠z:=Nat.ne_of_gt (lt z (by simp))
    have I2:aF X pins σ (a_ H s.heap.objs.size (.tup [x,y])) {s with heap:=g',toks:=s.toks}:=by
      refine I1.turnedL (t':=s.toks) hf1 fun b o nb e=>?_
      have nb':b≠z∧b≠TI∧b≠TO∧b≠i1∧b≠i2:=by simpa using nb
      refine ge.extBut _ _ nb'.1 ?_
      rcases Heap.get?_push_cases e with ⟨rfl,rfl⟩ | e
      · exact gT
      · exact gk b o nb'.1 nb'.2.2.1 nb'.2.2.2.1 nb'.2.2.2.2 e
    refine⟨.ref s.heap.objs.size,_,I2,rfl,⟨_,x,y,rfl,hT,rfl,fun xs' ys' w1 w2=>?_⟩,⟨gz',ge.extBut _ _ n7 (gk _ _ n7 n8 n9 n10 hI),⟨ux,uy,ge.extBut _ _ n1 gO⟩,g1.at fun o e=>ge.extBut _ _ n2 e,g2.at fun o e=>ge.extBut _ _ n3 e⟩,fun b hb=>(hf1 b hb).1⟩
    rw [I.tuple_inj w1 q1,I.list_inj w2 q2]
    exact⟨hx,hy⟩
  done:=by
    intro X hP hw hK hc i pins s σ H E I hf st hg
    subst hP hw hK
    obtain⟨xs,ys,q1,q2,hn⟩:=hg
    obtain⟨hz,hI,⟨a,b,hO⟩,u1,u2⟩:=id st
    obtain⟨its1,rv1,p1,z1⟩:=I.tuple q1
    obtain⟨its2,rv2,p2,z2⟩:=I.list q2
    have fz:=hf z (by simp);have fO:=hf TO (by simp);have f1:=hf i1 (by simp);have f2:=hf i2 (by simp)
    have D:hX z TI TO i1 i2 l1 l2:=⟨n1,n2,n3,n4,n5,n6,aE I fz q1,aE I fO q1,aE I f1 q1,aE I f2 q1,ar I fz q2,ar I fO q2,ar I f1 q2,ar I f2 q2⟩
    have e1:=rv1.length
    have e2:=rv2.length
    refine kd (xs:=its1.toArray) (ys:=its2.toArray) (I.ok.hd hc) (iN i1 l1) (fL i2 l2) D hz hI hO u1 u2 p1 p2.isList ?_ fun g gk=>⟨rfl,I.turnedL (t':=s.toks) hf fun b o nb e=>?_⟩
    · rcases hn with hn | hn
      · exact .inl (by simp;lia)
      · exact .inr (by simp;lia)
    · have nb':b≠z∧b≠TI∧b≠TO∧b≠i1∧b≠i2:=by simpa using nb
      exact gk b o nb'.1 nb'.2.2.1 nb'.2.2.2.1 nb'.2.2.2.2 e
  self:=fun A i s Q E st h=>wpAny_pyIter_zip st.1 h
theorem uX(l1 l2:Addr)(xs ys:Array Value):
    Meets (Builtin.«zip.__new__» ⟨[.type "zip",.ref l1,.ref l2],[]⟩) (fun _ R s=>s.heap.IsTuple l1 xs∧s.heap.IsList l2 ys∧
      R (.ok (.ret (.ref (s.heap.objs.size+4)))) {s with heap:=((((s.heap.push {cls:=.type "tuple_iterator",data:=.fields #[.ref l1,.int 0 0]}).push {cls:=.type "list_iterator",data:=.fields #[.ref l2,.int 0 0]}).push {cls:=.type "tuple",data:=.seq #[.ref s.heap.objs.size,.ref (s.heap.objs.size+1)]}).push {cls:=.type "tuple",data:=.seq #[.none,.none]}).push {cls:=.type "zip",data:=.fields #[.none,.bool false,.bool false,.ref (s.heap.objs.size+2),.ref (s.heap.objs.size+3)]}}):=
  .of_wp fun prog w A R s h=>by
    obtain⟨hp,g,d,tk,os⟩:=s;obtain⟨t1,t2,h⟩:=h;have sz:=PySem.sub_zip
    have T1:Heap.IsTuple (Shared.heap ⟨hp,g,d,tk,os⟩) l1 xs:=t1
    have T2:Heap.IsList (Shared.heap ⟨hp.push {cls:=.type "tuple_iterator",data:=.fields #[.ref l1,.int 0 0]},g,d,tk,os⟩) l2 ys:=Heap.IsList.push t2 _
    wp_walk using wpAny_pyIter_tuple T1,wpAny_pyIter_list T2
    refine⟨_,rfl,?_⟩
    simp only [Heap.size_push]
    exact h
section
variable{prog:Program}{w:World}{A:Around}{E:Value→Shared→Prop}{s:Shared}
theorem sy{l1 l2:Addr}{xs ys:Array Value}{Q:Value→Shared→Prop}(t1:s.heap.IsTuple l1 xs)(t2:s.heap.IsList l2 ys)
    (h:∀g,tY (s.heap.objs.size+4) (s.heap.objs.size+2) (s.heap.objs.size+3) s.heap.objs.size (s.heap.objs.size+1) l1 l2 0 g→(∀c o,s.heap.get? c=some o→g.get? c=some o)→Q (.ref (s.heap.objs.size+4)) {s with heap:=g}):
    wpAny (model prog w) A (call (.type "zip") [.ref l1,.ref l2]) Q E s:=by
  refine callType_new F.called_zip (by decide) (F.typeCall_zip_2 _ _) (F.newCall_zip_2 _ _) (fun obj=>F.args_object_init_3 obj _ _) F.entry_zip_new (uX l1 l2 xs ys) ⟨t1,t2,?_⟩
  have at5:∀(g:Heap) (o:Obj) (a:Addr),o.isFreed=false→a=g.objs.size→(g.push o).get? a=some o:=fun g o a hf e=>by rw [e];exact Heap.get?_push_size _ hf
  have g5:=at5 ((((s.heap.push {cls:=.type "tuple_iterator",data:=.fields #[.ref l1,.int 0 0]}).push {cls:=.type "list_iterator",data:=.fields #[.ref l2,.int 0 0]}).push {cls:=.type "tuple",data:=.seq #[.ref s.heap.objs.size,.ref (s.heap.objs.size+1)]}).push {cls:=.type "tuple",data:=.seq #[.none,.none]}) {cls:=.type "zip",data:=.fields #[.none,.bool false,.bool false,.ref (s.heap.objs.size+2),.ref (s.heap.objs.size+3)]} (s.heap.objs.size+4) rfl (by simp only [Heap.size_push])
  have g4:=at5 (((s.heap.push {cls:=.type "tuple_iterator",data:=.fields #[.ref l1,.int 0 0]}).push {cls:=.type "list_iterator",data:=.fields #[.ref l2,.int 0 0]}).push {cls:=.type "tuple",data:=.seq #[.ref s.heap.objs.size,.ref (s.heap.objs.size+1)]}) {cls:=.type "tuple",data:=.seq #[.none,.none]} (s.heap.objs.size+3) rfl (by simp only [Heap.size_push])
  have g3:=at5 ((s.heap.push {cls:=.type "tuple_iterator",data:=.fields #[.ref l1,.int 0 0]}).push {cls:=.type "list_iterator",data:=.fields #[.ref l2,.int 0 0]}) {cls:=.type "tuple",data:=.seq #[.ref s.heap.objs.size,.ref (s.heap.objs.size+1)]} (s.heap.objs.size+2) rfl (by simp only [Heap.size_push])
  have g2:=at5 (s.heap.push {cls:=.type "tuple_iterator",data:=.fields #[.ref l1,.int 0 0]}) {cls:=.type "list_iterator",data:=.fields #[.ref l2,.int 0 0]} (s.heap.objs.size+1) rfl (by simp only [Heap.size_push])
  have g1:=at5 s.heap {cls:=.type "tuple_iterator",data:=.fields #[.ref l1,.int 0 0]} s.heap.objs.size rfl rfl
  have up:∀{g:Heap} {a:Addr} {u:Obj} (o:Obj),g.get? a=some u→(g.push o).get? a=some u:=fun o e=>Heap.get?_push_of_some o e
  refine⟨⟨_,g5,rfl⟩,h _ ⟨g5,up _ (up _ g3),⟨_,_,up _ g4⟩,⟨_,up _ (up _ (up _ (up _ g1))),rfl,rfl⟩,⟨_,up _ (up _ (up _ g2)),rfl,rfl⟩⟩ fun c o x=>up _ (up _ (up _ (up _ (up _ x))))⟩
end
def A7(K:PySem.W.Frag)(ta:TA):TI:=fun σ H R=>ta σ H fun vs H1=>∃a b,vs=[.ref a,.ref b]∧(∃xs,cD K H1 a xs)∧(∃ys,dg K H1 b ys)∧R (Ai K a b) H1
theorem xf{X:Cx}{K:PySem.W.Frag}{es:List Expr}{k0:Nat}{tp:Pos}{a b:Expr}{ta:TA}{p pos:Pos}(hK:X.K=K)(hg:Gl X "zip")(hm:X.mg "zip"=none)(ha:PA X [a,b] ta)(hs:starEach [a,b] X.env=[(false,eval a X.env),(false,eval b X.env)]:=by rfl)(hs2:starEach [b] X.env=[(false,eval b X.env)]:=by rfl):
    PI X (.Tuple es k0 tp) (.Call (.Name "zip" p) [a,b] [] pos) (A7 K ta):=by
  intro pins s σ H R I h
  subst hK
  refine Call_ (iB I hg hm jz (PyProof.Rows.callWith_type1 (cP (ha pos pins s σ H _ I h) fun us s1 ⟨vs,H1,I1,r1,q1⟩=>?_) (by rw [hs,hs2]) (by rw [hs2];rfl)))
  obtain⟨a,b,e,⟨xs,qx⟩,⟨ys,qy⟩,q⟩:=q1
  subst e
  cases r1 with
  | cons r rr=>
    cases rr with
    | cons r' rr=>
      cases rr
      cases r
      cases r'
      obtain⟨i1,v1,p1,_⟩:=I1.tuple qx
      obtain⟨i2,v2,p2,_⟩:=I1.list qy
      refine sy p1 p2.isList fun g st hk=>wpAny_pyIter_zip st.1 ?_
      have I2:aF X pins σ H1 {s1 with heap:=g,toks:=s1.toks}:=I1.kept (t':=s1.toks) fun b o e=>hk b o e
      refine⟨s1.heap.objs.size+4,[s1.heap.objs.size+4,s1.heap.objs.size+2,s1.heap.objs.size+3,s1.heap.objs.size,s1.heap.objs.size+1],_,_,H1,rfl,I2,sj a b (show((s1.heap.objs.size+3:Nat)≠s1.heap.objs.size+4) by lia) (show((s1.heap.objs.size:Nat)≠s1.heap.objs.size+4) by lia) (show((s1.heap.objs.size+1:Nat)≠s1.heap.objs.size+4) by lia) (show((s1.heap.objs.size+3:Nat)≠s1.heap.objs.size) by lia) (show((s1.heap.objs.size+3:Nat)≠s1.heap.objs.size+1) by lia) (show((s1.heap.objs.size:Nat)≠s1.heap.objs.size+1) by lia) (show((s1.heap.objs.size+2:Nat)≠s1.heap.objs.size+4) by lia) (show((s1.heap.objs.size+2:Nat)≠s1.heap.objs.size+3) by lia) (show((s1.heap.objs.size+2:Nat)≠s1.heap.objs.size) by lia) (show((s1.heap.objs.size+2:Nat)≠s1.heap.objs.size+1) by lia),st,fun c hc=>?_,q⟩
      have le:s1.heap.objs.size≤c:=by
        simp only [List.mem_cons,List.not_mem_nil,or_false] at hc
        rcases hc with rfl | rfl | rfl | rfl | rfl
        · exact Nat.le_add_right _ 4
        · exact Nat.le_add_right _ 2
        · exact Nat.le_add_right _ 3
        · exact Nat.le_refl _
        · exact Nat.le_add_right _ 1
      have f:=I1.fpOk (H':=H1) le (I1.hok.fresh le)
      exact f
def Ag(K:PySem.W.Frag)(l1 l2:Addr):It:=
  ⟨fun i H=>∃xs ys x y,dg K H l1 xs∧dg K H l2 ys∧xs[i]?=some x∧ys[i]?=some y,
   fun i H v H'=>∃p x y,v=.ref p∧H p=none∧H'=a_ H p (.tup [x,y])∧∀xs ys,dg K H l1 xs→dg K H l2 ys→xs[i]?=some x∧ys[i]?=some y,
   fun i H=>∃xs ys,dg K H l1 xs∧dg K H l2 ys∧(xs.length≤i∨ys.length≤i)⟩
def tW(z TI TO i1 i2 l1 l2:Addr)(i:Nat)(h:Heap):Prop:=IsZip h z TI TO .none∧IsPair h TI (.ref i1) (.ref i2)∧(∃a b,IsPair h TO a b)∧h.IsListIter i1 l1 i∧h.IsListIter i2 l2 i
theorem se{P:Program}{w:World}{K:PySem.W.Frag}{es:List Expr}{k0:Nat}{pos:Pos}{z TI TO i1 i2:Addr}(l1 l2:Addr)(n1:TO≠z)(n2:i1≠z)(n3:i2≠z)(n4:TO≠i1)(n5:TO≠i2)(n6:i1≠i2)(n7:TI≠z)(n8:TI≠TO)(n9:TI≠i1)(n10:TI≠i2):
    pL P w K (.Tuple es k0 pos) (Ag K l1 l2) [z,TI,TO,i1,i2] z (tW z TI TO i1 i2 l1 l2) where
  mem:=by simp
  obj:=fun i h st b hb=>by
    obtain⟨hz,hI,⟨a,c,hO⟩,u1,u2⟩:=st
    simp only [List.mem_cons,List.not_mem_nil,or_false] at hb
    rcases hb with rfl | rfl | rfl | rfl | rfl
    · exact⟨_,hz,fun v z=>by cases z⟩
    · exact⟨_,hI,fun v z=>by cases z⟩
    · exact⟨_,hO,fun v z=>by cases z⟩
    · obtain⟨o,e,c,d⟩:=u1
      exact⟨o,e,fun v z=>by rw [d] at z;cases z⟩
    · obtain⟨o,e,c,d⟩:=u2
      exact⟨o,e,fun v z=>by rw [d] at z;cases z⟩
  keep:=fun i h h' st k=>by
    obtain⟨hz,hI,⟨a,c,hO⟩,u1,u2⟩:=st
    exact⟨k _ (by simp) _ hz,k _ (by simp) _ hI,⟨a,c,k _ (by simp) _ hO⟩,u1.at fun o e=>k _ (by simp) o e,u2.at fun o e=>k _ (by simp) o e⟩
  item:=by
    intro X hP hw hK hc i pins s σ H E I hf st hg
    subst hP hw hK
    obtain⟨xs,ys,x,y,q1,q2,hx,hy⟩:=hg
    obtain⟨hz,hI,⟨a,b,hO⟩,u1,u2⟩:=id st
    obtain⟨its1,rv1,p1,z1⟩:=I.list q1
    obtain⟨its2,rv2,p2,z2⟩:=I.list q2
    obtain⟨ux,hux,rux⟩:=rv1.get hx
    obtain⟨uy,huy,ruy⟩:=rv2.get hy
    have fz:=hf z (by simp);have fO:=hf TO (by simp);have f1:=hf i1 (by simp);have f2:=hf i2 (by simp)
    have D:hX z TI TO i1 i2 l1 l2:=⟨n1,n2,n3,n4,n5,n6,ar I fz q1,ar I fO q1,ar I f1 q1,ar I f2 q1,ar I fz q2,ar I fO q2,ar I f1 q2,ar I f2 q2⟩
    refine kc (xs:=its1.toArray) (ys:=its2.toArray) (fL i1 l1) (fL i2 l2) D hz hI hO u1 u2 p1.isList p2.isList (by simpa using hux) (by simpa using huy) fun g gz gO g1 g2 gT gs gk=>?_
    refine⟨_,rfl,wpAny_letOwnedTupleGo_zip gz fun g' gz' ge=>?_⟩
    have lt:∀b∈[z,TI,TO,i1,i2],b < s.heap.objs.size:=fun b hb=>by
      simp only [List.mem_cons,List.not_mem_nil,or_false] at hb
      rcases hb with rfl | rfl | rfl | rfl | rfl
      · exact Heap.lt_size hz
      · exact Heap.lt_size hI
      · exact Heap.lt_size hO
      · obtain⟨o,e,_⟩:=u1;exact Heap.lt_size e
      · obtain⟨o,e,_⟩:=u2;exact Heap.lt_size e
    have hT:H s.heap.objs.size=none:=I.hok.fresh (Nat.le_refl _)
    have vv:aS [x,y] [ux,uy]:=.cons rux (.cons ruy .nil)
    have I1:aF X pins σ (a_ H s.heap.objs.size (.tup [x,y])) {s with heap:=s.heap.push {cls:=.type "tuple",data:=.seq #[ux,uy]},toks:=s.toks}:=
      I.laid (t':=s.toks) (fun b u e=>Heap.get?_push_of_some _ e) (Nat.le_refl _) ⟨(by show 2≤sizeLine;decide),[ux,uy],vv,ke.new _ _⟩
    have hf1:∀b∈[z,TI,TO,i1,i2],ij X pins (a_ H s.heap.objs.size (.tup [x,y])) b:=fun b hb=>by
      obtain⟨f0,fr⟩:=hf b hb
      exact⟨by rw [aI (Nat.ne_of_lt (lt b hb))];exact f0,fr⟩
    have nzT:s.heap.objs.size≠z:=Nat.ne_of_gt (lt z (by simp))
    have I2:aF X pins σ (a_ H s.heap.objs.size (.tup [x,y])) {s with heap:=g',toks:=s.toks}:=by
      refine I1.turnedL (t':=s.toks) hf1 fun b o nb e=>?_
      have nb':b≠z∧b≠TI∧b≠TO∧b≠i1∧b≠i2:=by simpa using nb
      refine ge.extBut _ _ nb'.1 ?_
      rcases Heap.get?_push_cases e with ⟨rfl,rfl⟩ | e
      · exact gT
      · exact gk b o nb'.1 nb'.2.2.1 nb'.2.2.2.1 nb'.2.2.2.2 e
    refine⟨.ref s.heap.objs.size,_,I2,rfl,⟨_,x,y,rfl,hT,rfl,fun xs' ys' w1 w2=>?_⟩,⟨gz',ge.extBut _ _ n7 (gk _ _ n7 n8 n9 n10 hI),⟨ux,uy,ge.extBut _ _ n1 gO⟩,g1.at fun o e=>ge.extBut _ _ n2 e,g2.at fun o e=>ge.extBut _ _ n3 e⟩,fun b hb=>(hf1 b hb).1⟩
    rw [I.list_inj w1 q1,I.list_inj w2 q2]
    exact⟨hx,hy⟩
  done:=by
    intro X hP hw hK hc i pins s σ H E I hf st hg
    subst hP hw hK
    obtain⟨xs,ys,q1,q2,hn⟩:=hg
    obtain⟨hz,hI,⟨a,b,hO⟩,u1,u2⟩:=id st
    obtain⟨its1,rv1,p1,z1⟩:=I.list q1
    obtain⟨its2,rv2,p2,z2⟩:=I.list q2
    have fz:=hf z (by simp);have fO:=hf TO (by simp);have f1:=hf i1 (by simp);have f2:=hf i2 (by simp)
    have D:hX z TI TO i1 i2 l1 l2:=⟨n1,n2,n3,n4,n5,n6,ar I fz q1,ar I fO q1,ar I f1 q1,ar I f2 q1,ar I fz q2,ar I fO q2,ar I f1 q2,ar I f2 q2⟩
    have e1:=rv1.length
    have e2:=rv2.length
    refine kd (xs:=its1.toArray) (ys:=its2.toArray) (I.ok.hd hc) (fL i1 l1) (fL i2 l2) D hz hI hO u1 u2 p1.isList p2.isList ?_ fun g gk=>⟨rfl,I.turnedL (t':=s.toks) hf fun b o nb e=>?_⟩
    · rcases hn with hn | hn
      · exact .inl (by simp;lia)
      · exact .inr (by simp;lia)
    · have nb':b≠z∧b≠TI∧b≠TO∧b≠i1∧b≠i2:=by simpa using nb
      exact gk b o nb'.1 nb'.2.2.1 nb'.2.2.2.1 nb'.2.2.2.2 e
  self:=fun A i s Q E st h=>wpAny_pyIter_zip st.1 h
theorem uV(l1 l2:Addr)(xs ys:Array Value):
    Meets (Builtin.«zip.__new__» ⟨[.type "zip",.ref l1,.ref l2],[]⟩) (fun _ R s=>s.heap.IsList l1 xs∧s.heap.IsList l2 ys∧
      R (.ok (.ret (.ref (s.heap.objs.size+4)))) {s with heap:=((((s.heap.push {cls:=.type "list_iterator",data:=.fields #[.ref l1,.int 0 0]}).push {cls:=.type "list_iterator",data:=.fields #[.ref l2,.int 0 0]}).push {cls:=.type "tuple",data:=.seq #[.ref s.heap.objs.size,.ref (s.heap.objs.size+1)]}).push {cls:=.type "tuple",data:=.seq #[.none,.none]}).push {cls:=.type "zip",data:=.fields #[.none,.bool false,.bool false,.ref (s.heap.objs.size+2),.ref (s.heap.objs.size+3)]}}):=
  .of_wp fun prog w A R s h=>by
    obtain⟨hp,g,d,tk,os⟩:=s;obtain⟨t1,t2,h⟩:=h;have sz:=PySem.sub_zip
    have T1:Heap.IsList (Shared.heap ⟨hp,g,d,tk,os⟩) l1 xs:=t1
    have T2:Heap.IsList (Shared.heap ⟨hp.push {cls:=.type "list_iterator",data:=.fields #[.ref l1,.int 0 0]},g,d,tk,os⟩) l2 ys:=Heap.IsList.push t2 _
    wp_walk using wpAny_pyIter_list T1,wpAny_pyIter_list T2
    refine⟨_,rfl,?_⟩
    simp only [Heap.size_push]
    exact h
section
variable{prog:Program}{w:World}{A:Around}{E:Value→Shared→Prop}{s:Shared}
theorem su{l1 l2:Addr}{xs ys:Array Value}{Q:Value→Shared→Prop}(t1:s.heap.IsList l1 xs)(t2:s.heap.IsList l2 ys)
    (h:∀g,tW (s.heap.objs.size+4) (s.heap.objs.size+2) (s.heap.objs.size+3) s.heap.objs.size (s.heap.objs.size+1) l1 l2 0 g→(∀c o,s.heap.get? c=some o→g.get? c=some o)→Q (.ref (s.heap.objs.size+4)) {s with heap:=g}):
    wpAny (model prog w) A (call (.type "zip") [.ref l1,.ref l2]) Q E s:=by
  refine callType_new F.called_zip (by decide) (F.typeCall_zip_2 _ _) (F.newCall_zip_2 _ _) (fun obj=>F.args_object_init_3 obj _ _) F.entry_zip_new (uV l1 l2 xs ys) ⟨t1,t2,?_⟩
  have at5:∀(g:Heap) (o:Obj) (a:Addr),o.isFreed=false→a=g.objs.size→(g.push o).get? a=some o:=fun g o a hf e=>by rw [e];exact Heap.get?_push_size _ hf
  have g5:=at5 ((((s.heap.push {cls:=.type "list_iterator",data:=.fields #[.ref l1,.int 0 0]}).push {cls:=.type "list_iterator",data:=.fields #[.ref l2,.int 0 0]}).push {cls:=.type "tuple",data:=.seq #[.ref s.heap.objs.size,.ref (s.heap.objs.size+1)]}).push {cls:=.type "tuple",data:=.seq #[.none,.none]}) {cls:=.type "zip",data:=.fields #[.none,.bool false,.bool false,.ref (s.heap.objs.size+2),.ref (s.heap.objs.size+3)]} (s.heap.objs.size+4) rfl (by simp only [Heap.size_push])
  have g4:=at5 (((s.heap.push {cls:=.type "list_iterator",data:=.fields #[.ref l1,.int 0 0]}).push {cls:=.type "list_iterator",data:=.fields #[.ref l2,.int 0 0]}).push {cls:=.type "tuple",data:=.seq #[.ref s.heap.objs.size,.ref (s.heap.objs.size+1)]}) {cls:=.type "tuple",data:=.seq #[.none,.none]} (s.heap.objs.size+3) rfl (by simp only [Heap.size_push])
  have g3:=at5 ((s.heap.push {cls:=.type "list_iterator",data:=.fields #[.ref l1,.int 0 0]}).push {cls:=.type "list_iterator",data:=.fields #[.ref l2,.int 0 0]}) {cls:=.type "tuple",data:=.seq #[.ref s.heap.objs.size,.ref (s.heap.objs.size+1)]} (s.heap.objs.size+2) rfl (by simp only [Heap.size_push])
  have g2:=at5 (s.heap.push {cls:=.type "list_iterator",data:=.fields #[.ref l1,.int 0 0]}) {cls:=.type "list_iterator",data:=.fields #[.ref l2,.int 0 0]} (s.heap.objs.size+1) rfl (by simp only [Heap.size_push])
  have g1:=at5 s.heap {cls:=.type "list_iterator",data:=.fields #[.ref l1,.int 0 0]} s.heap.objs.size rfl rfl
  have up:∀{g:Heap} {a:Addr} {u:Obj} (o:Obj),g.get? a=some u→(g.push o).get? a=some u:=fun o e=>Heap.get?_push_of_some o e
  refine⟨⟨_,g5,rfl⟩,h _ ⟨g5,up _ (up _ g3),⟨_,_,up _ g4⟩,⟨_,up _ (up _ (up _ (up _ g1))),rfl,rfl⟩,⟨_,up _ (up _ (up _ g2)),rfl,rfl⟩⟩ fun c o x=>up _ (up _ (up _ (up _ (up _ x))))⟩
end
def A4(K:PySem.W.Frag)(ta:TA):TI:=fun σ H R=>ta σ H fun vs H1=>∃a b,vs=[.ref a,.ref b]∧(∃xs,dg K H1 a xs)∧(∃ys,dg K H1 b ys)∧R (Ag K a b) H1
theorem xb{X:Cx}{K:PySem.W.Frag}{es:List Expr}{k0:Nat}{tp:Pos}{a b:Expr}{ta:TA}{p pos:Pos}(hK:X.K=K)(hg:Gl X "zip")(hm:X.mg "zip"=none)(ha:PA X [a,b] ta)(hs:starEach [a,b] X.env=[(false,eval a X.env),(false,eval b X.env)]:=by rfl)(hs2:starEach [b] X.env=[(false,eval b X.env)]:=by rfl):
    PI X (.Tuple es k0 tp) (.Call (.Name "zip" p) [a,b] [] pos) (A4 K ta):=by
  intro pins s σ H R I h
  subst hK
  refine Call_ (iB I hg hm jz (PyProof.Rows.callWith_type1 (cP (ha pos pins s σ H _ I h) fun us s1 ⟨vs,H1,I1,r1,q1⟩=>?_) (by rw [hs,hs2]) (by rw [hs2];rfl)))
  obtain⟨a,b,e,⟨xs,qx⟩,⟨ys,qy⟩,q⟩:=q1
  subst e
  cases r1 with
  | cons r rr=>
    cases rr with
    | cons r' rr=>
      cases rr
      cases r
      cases r'
      obtain⟨i1,v1,p1,_⟩:=I1.list qx
      obtain⟨i2,v2,p2,_⟩:=I1.list qy
      refine su p1.isList p2.isList fun g st hk=>wpAny_pyIter_zip st.1 ?_
      have I2:aF X pins σ H1 {s1 with heap:=g,toks:=s1.toks}:=I1.kept (t':=s1.toks) fun b o e=>hk b o e
      refine⟨s1.heap.objs.size+4,[s1.heap.objs.size+4,s1.heap.objs.size+2,s1.heap.objs.size+3,s1.heap.objs.size,s1.heap.objs.size+1],_,_,H1,rfl,I2,se a b (show((s1.heap.objs.size+3:Nat)≠s1.heap.objs.size+4) by lia) (show((s1.heap.objs.size:Nat)≠s1.heap.objs.size+4) by lia) (show((s1.heap.objs.size+1:Nat)≠s1.heap.objs.size+4) by lia) (show((s1.heap.objs.size+3:Nat)≠s1.heap.objs.size) by lia) (show((s1.heap.objs.size+3:Nat)≠s1.heap.objs.size+1) by lia) (show((s1.heap.objs.size:Nat)≠s1.heap.objs.size+1) by lia) (show((s1.heap.objs.size+2:Nat)≠s1.heap.objs.size+4) by lia) (show((s1.heap.objs.size+2:Nat)≠s1.heap.objs.size+3) by lia) (show((s1.heap.objs.size+2:Nat)≠s1.heap.objs.size) by lia) (show((s1.heap.objs.size+2:Nat)≠s1.heap.objs.size+1) by lia),st,fun c hc=>?_,q⟩
      have le:s1.heap.objs.size≤c:=by
        simp only [List.mem_cons,List.not_mem_nil,or_false] at hc
        rcases hc with rfl | rfl | rfl | rfl | rfl
        · exact Nat.le_add_right _ 4
        · exact Nat.le_add_right _ 2
        · exact Nat.le_add_right _ 3
        · exact Nat.le_refl _
        · exact Nat.le_add_right _ 1
      have f:=I1.fpOk (H':=H1) le (I1.hok.fresh le)
      exact f
end L2
namespace L2
open PySem PySem.Spec PyProof.Rows
theorem rR{X:Cx}{ix:Nat}{nm:Str}{posn poss:Pos}{elt iter tg:Expr}{ifs:List Expr}{scope:Scope}{pos:Pos}{wi:TI}{g:TG}{tc:TT}{te:TE}(sc0:Scope)(N0:List Str)(cp:List (Nat × Str))(tgN:List Str)
    (hc:X.calm=true)(hsc:X.env.scope=sc0)(hN0:X.N=N0)(hi:PI X tg iter wi)
    (hg:∀C s0 H0 fp,PG (aQ X scope cp tgN C s0 H0 fp) tg g)
    (ht:∀C s0 H0 fp,vc (aQ X scope cp tgN C s0 H0 fp) ifs tc)
    (he:∀C s0 H0 fp,PE (aQ X scope cp tgN C s0 H0 fp) elt te)
    (hk:scope.kind=.function)(hcell:∀y∈scope.names,y.2≠.cell)(hnames:∀y∈scope.names,y.2=.local→scope.names.lookup y.1=some .local)
    (hfr:∀y∈scope.names,y.2=.free→scope.names.lookup y.1=some .free∧sc0.names.lookup y.1=some .cell)
    (hcp:∀p∈cp,N0[p.1]?=some p.2)(hcq:∀p∈cp,sc0.names.lookup p.2=some .cell∧scope.names.lookup p.2=some .free)
    (hNd:X.N.Nodup)(hix:X.N[ix]?=some nm)(hlc:X.env.scope.names.lookup nm=some .local)(hsw:swapsWith (.ListComp elt [⟨tg,iter,ifs,0⟩] scope pos) (some (.Name nm posn)) poss.line X.env=pure true)
    (hs:∀x,foldedSetIterable iter X.env x=pure x:=by intro _;rfl):
    PS X (.Assign [.Name nm posn] (.ListComp elt [⟨tg,iter,ifs,0⟩] scope pos) poss) (Ck (tP cp tgN.length wi g tc te) (wd ix)):=by
  intro pins s σ H D0 I h
  let Q:VK:=fun x H1=>D0.nx (σ.set ix (some x)) H1
  have h:tP cp tgN.length wi g tc te σ H Q:=h
  have hkind:∀x,X.env.kindOf x=sc0.names.lookup x:=fun x=>by unfold Env.kindOf;rw [hsc]
  have hfree:∀y∈scope.names,y.2=.free→∃c,X.env.cells.lookup y.1=some c:=fun y hy e=>I.ok.has y.1 (.inl (by rw [hkind];exact(hfr y hy e).2))
  rw [exec_Assign_Name_used _ _ _ _ hsw]
  refine wpAny_bind (wpAny_standAt (wpAny_bind ?_))
  unfold evalThenUse
  refine wpAny_bind ?_
  refine wpAny_comprehension_free (use:=some (assign (.Name nm posn) X.env)) rfl hs (lR hfree) hk hnames (wpAny_mono (hi pins s σ H _ I h.go) (fun xv s₁ h₁=>wpAny_mono h₁ (fun itv s₂ h₂=>?_) fun _ _ e=>e) fun _ _ e=>e)
  obtain⟨it,fp,tn,J,H2,rfl,I2,T,st2,f2,hq⟩:=h₂
  refine wpAny_newObj_type ?_
  have hlF:H2 s₂.heap.objs.size=none:=I2.hok.fresh (Nat.le_refl _)
  have I3:aF X pins σ (a_ H2 s₂.heap.objs.size (.lst [])) {s₂ with heap:=s₂.heap.push {cls:=.type "list",data:=.seq ([]:List Value).toArray}}:=I2.lnew (t':=s₂.toks) .nil (Nat.zero_le _)
  obtain⟨W,⟨m0,w0⟩,turn⟩:=hq _ hlF
  have f3:∀b∈fp,ij X pins (a_ H2 s₂.heap.objs.size (.lst [])) b:=fun b hb=>by
    obtain⟨f0,fr⟩:=f2 b hb
    obtain⟨o,ho,_⟩:=T.obj _ _ st2 b hb
    exact⟨by rw [aI (Nat.ne_of_lt (Heap.lt_size ho))];exact f0,fr⟩
  have st3:tn 0 (s₂.heap.push {cls:=.type "list",data:=.seq ([]:List Value).toArray}):=T.keep _ _ _ st2 fun b _ o e=>Heap.get?_push_of_some _ e
  generalize hD:s₂.heap.objs.size=D at*
  generalize hs3:({s₂ with heap:=s₂.heap.push {cls:=.type "list",data:=.seq ([]:List Value).toArray}}:Shared)=s₃ at*
  have hst3:tn 0 s₃.heap:=by rw [←hs3];exact st3
  refine wpAny_newFunctionEnv hcell (by intro y hy;simp at hy) (fun h₁ hns₁ hsb₁=>?_) hk
  generalize hC:s₃.heap.objs.size=C at*
  have old:∀b o,s₃.heap.get? b=some o→h₁.get? b=some o:=fun b o e=>hsb₁.extBut b o (by rw [←hC];exact Nat.ne_of_lt (Heap.lt_size e)) (Heap.get?_push_of_some _ e)
  have nC:∀b o,s₃.heap.get? b=some o→b≠C:=fun b o e=>by rw [←hC];exact Nat.ne_of_lt (Heap.lt_size e)
  have hHC:(a_ H2 D (.lst [])) C=none:=I3.hok.fresh (by rw [hC];exact Nat.le_refl _)
  have clS:∀x c,(io X.env scope.names []).lookup x=some c→X.env.cells.lookup x=some c:=fun x c e=>jc _ _ x c hfree (fun _ _ z=>by simp at z) e
  have clH:∀x,(∃y∈scope.names,y.1=x∧y.2=.free)→∃c,(io X.env scope.names []).lookup x=some c:=fun x e=>lQ _ _ x (.inl e)
  have ok':(aQ X scope cp tgN C s₃ (a_ H2 D (.lst [])) fp).Ok:=by
    refine⟨I.ok.mod,hk,I.ok.glob,I.ok.blt,by rw [←hC];exact Nat.le_refl _,fun x y c e1 e2=>I.ok.inj x y c (clS _ _ e1) (clS _ _ e2),fun x e=>clH x (dQ hcell e),fun x c e1 e2=>?_,I.ok.hd,I.ok.frames,.inl rfl,fun b hb=>?_,fun b o e=>I3.bs b o e,?_,fun b o e hb=>?_,fun b hb z=>?_,I3.stack,fun b hb=>I3.stkFree b hb⟩
    · exfalso
      have e1':scope.names.lookup x=some .local:=by simpa [aQ] using e1
      have e2':=clS x c e2
      obtain⟨c',hc'⟩:∃y∈scope.names,y.1=x∧y.2=.free:=by
        by_cases q:∃y∈scope.names,y.1=x∧y.2=.free
        · exact q
        · exfalso
          have:∀(names:List (Str × NameKind)) (cs:List (Str × Addr)),(¬∃y∈names,y.1=x∧y.2=.free)→cs.lookup x=none→(io X.env names cs).lookup x=none:=by
            intro names
            induction names with
            | nil=>intro cs _ h;exact h
            | cons y r ih=>
              intro cs hn hcs
              obtain⟨n,k⟩:=y
              refine ih _ (fun⟨y,hy,z⟩=>hn ⟨y,List.mem_cons_of_mem _ hy,z⟩) ?_
              by_cases hk:(k==NameKind.free)=true
              · rw [if_pos hk,List.lookup_cons]
                cases hx:x==n with
                | true=>exact absurd ⟨(n,k),List.mem_cons_self,(by simpa using hx:x=n).symm,by simpa using hk⟩ hn
                | false=>exact hcs
              · rw [if_neg hk];exact hcs
          have z:=this scope.names [] q rfl
          have e2'':(io X.env scope.names []).lookup x=some c:=e2
          rw [z] at e2'';cases e2''
      have z:=(hfr c' hc'.1 hc'.2.2).1
      rw [hc'.2.1,e1'] at z;cases z
    · obtain⟨f0,f1,f4,f5,f6,f7⟩:=f3 b hb
      obtain⟨o,ho,_⟩:=T.obj _ _ hst3 b hb
      exact⟨nC b o ho,fun x c e=>f6 x c (clS x c e)⟩
    · exact Nat.le_trans I.ok.bsz I3.sz
    · obtain⟨f0,f1,f4,f5,f6,f7⟩:=f3 b hb
      rcases f5 with z | z
      · exact I.ok.noex b o e z
      · have:=(I.ok.bs b o e).1
        exact absurd (Nat.lt_of_lt_of_le (Heap.lt_size this) z) (Nat.lt_irrefl _)
    · obtain⟨f0,f1,f4,f5,f6,f7⟩:=f3 b hb
      rcases List.mem_cons.mp (I3.stkSub b z) with z | z
      · exact f1 z
      · exact f4 z
  have I4:aF (aQ X scope cp tgN C s₃ (a_ H2 D (.lst [])) fp) [] (gF cp tgN.length σ) (a_ H2 D (.lst [])) {s₃ with heap:=h₁,toks:=s₃.toks+([]:List (Str × Value)).length}:=by
    refine⟨ok',rfl,I3.bare,Un.kept old,⟨_,hns₁,fun i x v e1 e2 e3=>?_⟩,fun x c e=>?_,hHC,fun x c e=>I3.freeC x c (clS x c e),fun p hp=>by simp [aQ] at hp,I3.hok.kept old,by simp [gF,aQ]⟩
    · have hlt:i < cp.length:=by
        by_cases q:i < cp.length
        · exact q
        · exfalso
          unfold gF at e2
          rw [List.getElem?_append_right (by simp;lia)] at e2
          rw [List.getElem?_replicate] at e2
          split at e2<;>cases e2
      have e1':(cp.map (·.2))[i]?=some x:=by
        have e1'':(cp.map (·.2)++tgN)[i]?=some x:=e1
        rwa [List.getElem?_append_left (by simp;exact hlt)] at e1''
      have e2':(cp.map (fun p=>(σ[p.1]?).join))[i]?=some (some v):=by
        unfold gF at e2
        rwa [List.getElem?_append_left (by simp;exact hlt)] at e2
      rw [List.getElem?_map,List.getElem?_eq_getElem hlt] at e1' e2'
      have ex:(cp[i]).2=x:=by simpa using e1'
      have ev:(σ[(cp[i]).1]?).join=some v:=by simpa using e2'
      have ev':σ[(cp[i]).1]?=some (some v):=by
        cases q:σ[(cp[i]).1]? with
        | none=>rw [q] at ev;cases ev
        | some z=>rw [q] at ev;simp only [Option.join_some] at ev;rw [ev]
      have hN:=hcp cp[i] (List.getElem_mem hlt)
      rw [←hN0] at hN
      obtain⟨hcl,hcf⟩:=hcq cp[i] (List.getElem_mem hlt)
      rw [ex] at hN hcl hcf
      obtain⟨m,hn,hl⟩:=I3.loc
      obtain⟨u,r,l⟩:=hl _ x v hN ev' (.inr (.inl (by rw [hsc];exact hcl)))
      refine⟨u,r,.inr ?_⟩
      rcases l with ⟨k1,_⟩ | ⟨k1,c,hcc,o,ho,hd⟩
      · rw [hkind,hcl] at k1;cases k1
      · have e3':(relabel scope X.env).names.lookup x=some .local∨(relabel scope X.env).names.lookup x=some .cell∨(relabel scope X.env).names.lookup x=some .free:=e3
        have nl:(relabel scope X.env).names.lookup x=some .cell∨(relabel scope X.env).names.lookup x=some .free:=by
          rcases e3' with z | z | z
          · exact absurd z (eH hcf)
          · exact .inl z
          · exact .inr z
        obtain⟨c',hc'⟩:=clH x (dQ hcell nl)
        have:=clS x c' hc'
        rw [hcc] at this;cases this
        exact⟨nl,c,hc',o,old c o ho,hd⟩
    · obtain⟨v,o,ho,hd⟩:=I3.cell x c (clS x c e)
      exact⟨v,o,old c o ho,hd⟩
  have hst4:tn 0 h₁:=T.keep _ _ _ hst3 fun b _ o e=>old b o e
  have loop:codeAny (model X.prog X.w) X.A (.compLoop (.ListComp elt [⟨tg,iter,ifs,0⟩] scope pos) 0 (.ref it) (.ref D) (compEnvC scope (io X.env scope.names []) C X.env))
      (compPost (model X.prog X.w) X.A X.xe (some (assign (.Name nm posn) X.env)) (fun _ s'=>wpAny (model X.prog X.w) X.A (pure ()) (fun _ s''=>wpAny (model X.prog X.w) X.A (pure Flow.next) (SP X pins D0) X.xe s'') X.xe s') (.ref D) C) {s₃ with heap:=h₁,toks:=s₃.toks+([]:List (Str × Value)).length}:=by
    refine jD (fun n s'=>∃i σ' H',aF (aQ X scope cp tgN C s₃ (a_ H2 D (.lst [])) fp) [] σ' H' s'∧tn i s'.heap∧(∀b∈fp,H' b=none)∧W i n σ' H') ?_ (n0:=m0) ⟨0,_,_,I4,hst4,fun b hb=>(f3 b hb).1,w0⟩
    rintro n s5 ⟨i,σ5,H5,I5,st5,fr5,w5⟩
    have stat:∀{H':Hp},(∀b∈fp,H' b=none)→∀b∈fp,ij (aQ X scope cp tgN C s₃ (a_ H2 D (.lst [])) fp) [] H' b:=fun hn b hb=>
      ⟨hn b hb,(ok'.exf b hb).1,ok'.exfs b hb,.inl hb,(ok'.exf b hb).2,fun p hp=>by simp [aQ] at hp⟩
    rcases turn i n σ5 H5 w5 with ⟨stop,qn⟩ | ⟨go,N,hN,step⟩
    · refine cP (T.done (aQ X scope cp tgN C s₃ (a_ H2 D (.lst [])) fp) rfl rfl rfl hc i [] s5 σ5 H5 (fun _ _=>False) I5 (stat fr5) st5 stop) fun r s6 ⟨hr,I6⟩=>?_
      subst hr
      refine⟨fun _=>?_,fun v z=>by cases z⟩
      obtain⟨m,hn,_⟩:=I6.loc
      have I7:aF X pins σ H5 s6:=by
        have key:∀h':Heap,Heap.SameBut C s6.heap h'→aF X pins σ H5 {s6 with heap:=h'}:=fun h' sb=>by
          have ub:=I6.base
          have kp:∀b u,b≠C→s6.heap.get? b=some u→h'.get? b=some u:=fun b u ne e=>sb.extBut b u ne e
          have nit:∀b u,H5 b=some u→b≠C:=fun b u e z=>by
            have:=I6.free
            rw [z] at e
            rw [show H5 C=none from this] at e;cases e
          refine I3.call' (s':={s6 with heap:=h'}) (ch:=fp) I6.os ⟨fun b o e n hb hx=>kp b o (nC b o e) (ub.keep b o e n hb hx),fun b o e n hb hx=>?_,ub.free,fun b o e hx=>?_,ub.tups,ub.frzs,ub.tbls⟩ (fun b u e=>?_) I6.bare (fun b hb=>?_)
          · obtain⟨sl,q⟩:=ub.slot b o e n hb hx
            exact⟨sl,kp b _ (nC b o e) q⟩
          · obtain⟨o',q⟩:=ub.there b o e hx
            exact⟨o',kp b _ (nC b o e) q⟩
          · refine(I6.hok b u e).stay (fun c v hc q=>kp c v ?_ q) (fun _ q=>q) fun _ _ q=>q
            rcases hc with z | z
            · rw [z];exact nit b u e
            · exact nit c _ z
          · obtain⟨f0,f1,f4,f5,f6,f7⟩:=f3 b hb
            exact⟨f5,f1,f6,f7⟩
        exact key s6.heap ⟨rfl,fun _ _=>rfl⟩
      have fC:ij X pins H5 C:=I3.fpOk (by rw [hC];exact Nat.le_refl _) I6.free
      show wpAny (model X.prog X.w) X.A (assign (.Name nm posn) X.env (.ref D)) _ X.xe s6
      refine wpAny_assign_Name (nX (v:=.ref D) I7 hNd hix (Or.inl hlc) rfl (fun s' I' hsb=>?_) (Or.inr hlc))
      obtain⟨a,sb,ha⟩:=hsb
      have nCa:C≠a:=by
        rcases ha with z | z
        · rw [z];exact fC.2.1
        · exact fun e=>fC.2.2.2.2.1 _ _ z e.symm
      obtain⟨oN,esN,epN,hoN,rN⟩:=hn
      refine⟨m,⟨oN,esN,epN,(sb.2 C nCa).trans hoN,rN⟩,fun h' sb'=>wpAny_pure (wpAny_pure ?_)⟩
      have I8:aF X pins (σ.set ix (some (.ref D))) H5 {s' with heap:=h',toks:=s'.toks}:=I'.turnedL (t':=s'.toks) (fp:=[C]) (fun b hb=>by rw [List.mem_singleton.mp hb];exact fC) fun b o nb e=>sb'.extBut b o (by simpa using nb) e
      exact⟨_,H5,I8,qn⟩
    · refine cP (T.item (aQ X scope cp tgN C s₃ (a_ H2 D (.lst [])) fp) rfl rfl rfl hc i [] s5 σ5 H5 (fun _ _=>False) I5 (stat fr5) st5 go) fun r s6 ⟨u,hr,h6⟩=>?_
      subst hr
      refine⟨fun z=>(by cases z),fun v z=>?_⟩
      cases z
      refine cP h6 fun _ s7 ⟨x,H7,I7,r7,y7,st7,fr7⟩=>?_
      have I7':=I7.pinned (stat fr7) (T.obj _ _ st7)
      have again:∀{σ8:L2.St} {H8:Hp} {s8:Shared},aF (aQ X scope cp tgN C s₃ (a_ H2 D (.lst [])) fp) ([]++kO fp s7.heap) σ8 H8 s8→N σ8 H8→∃m,m < n∧∃i σ' H',aF (aQ X scope cp tgN C s₃ (a_ H2 D (.lst [])) fp) [] σ' H' s8∧tn i s8.heap∧(∀b∈fp,H' b=none)∧W i m σ' H':=fun{σ8 H8 s8} I8 n8=>by
        obtain⟨m',hm,w8⟩:=hN σ8 H8 n8
        refine⟨m',hm,i+1,σ8,H8,I8.unpinned,T.keep _ _ _ st7 fun b hb o e=>(I8.pin (b,o) (List.mem_append_right _ (List.mem_append_right _ (eg hb e)))).1,fun b hb=>?_,w8⟩
        obtain⟨o,e,d⟩:=T.obj _ _ st7 b hb
        exact(I8.pin (b,o) (List.mem_append_right _ (List.mem_append_right _ (eg hb e)))).2.1
      refine cP (hg C s₃ (a_ H2 D (.lst [])) fp _ s7 σ5 H7 x u _ I7' r7 (step x H7 y7)) fun _ s8 ⟨σ8,H8,I8,q8⟩=>?_
      refine cP (ht C s₃ (a_ H2 D (.lst [])) fp _ s8 σ8 H8 _ I8 q8) fun ok s9 ⟨H9,I9,q9⟩=>?_
      cases ok with
      | false=>
        rw [if_neg Bool.false_ne_true] at q9 ⊢
        exact again I9 q9
      | true=>
        rw [if_pos rfl] at q9 ⊢
        refine cP (he C s₃ (a_ H2 D (.lst [])) fp _ s9 σ8 H9 _ I9 q9) fun v s10 ⟨xv,H10,I10,r10,ys,hl,hz,n10⟩=>?_
        refine cP (kM _ s10 σ8 H10 (.ref D) [xv] (.ref D) [v] (fun _ H=>N σ8 H) I10 rfl (.cons r10 .nil) ⟨D,ys,xv,rfl,rfl,hl,hz,n10⟩) fun _ s11 ⟨_,H11,I11,_,q11⟩=>?_
        exact again I11 q11
  exact codeAny_compStart_list loop (T.self X.A 0 _ _ _ hst4 loop)
end L2
namespace L2
open PySem PySem.Spec PyProof.Rows
mutual
def DA(K:PySem.W.Frag)(F:Hp):PyData→V→Prop
  | .none,v=>v=.non
  | .bool b,v=>v=.bl b
  | .int i,v=>v=.int i
  | .str x,v=>v=.str x
  | .tuple ds,v=>∃a xs,v=.ref a∧cD K F a xs∧aP K F ds xs
  | .list ds,v=>∃a xs,v=.ref a∧dg K F a xs∧aP K F ds xs
  | .dict kvs,v=>∃(a:Addr) (m:List (Int × Int)),v=.ref a∧F a=some (.dK (m.map fun p=>(Sum.inl p.1,V.int p.2)))∧kvs=m.map fun p=>(PyData.int p.1,PyData.int p.2)
def aP(K:PySem.W.Frag)(F:Hp):List PyData→List V→Prop
  | [],xs=>xs=[]
  | d::ds,xs=>∃x r,xs=x::r∧DA K F d x∧aP K F ds r
end
mutual
theorem DA.mono{K:PySem.W.Frag}{F F':Hp}(h:aw F F'):∀{d:PyData} {v:V},DA K F d v→DA K F' d v
  | .none,_,q=>by simp only [DA] at q ⊢;exact q
  | .bool b,_,q=>by simp only [DA] at q ⊢;exact q
  | .int i,_,q=>by simp only [DA] at q ⊢;exact q
  | .str x,_,q=>by simp only [DA] at q ⊢;exact q
  | .tuple ds,_,q=>by
    simp only [DA] at q ⊢
    obtain⟨a,xs,e,s,r⟩:=q
    exact⟨a,xs,e,h.tup s,aP.mono h r⟩
  | .list ds,_,q=>by
    simp only [DA] at q ⊢
    obtain⟨a,xs,e,s,r⟩:=q
    exact⟨a,xs,e,h.seq s,aP.mono h r⟩
  | .dict _,_,q=>by
    simp only [DA] at q ⊢
    obtain⟨a,m,e,s,k⟩:=q
    exact⟨a,m,e,h _ _ s,k⟩
theorem aP.mono{K:PySem.W.Frag}{F F':Hp}(h:aw F F'):∀{ds:List PyData} {xs:List V},aP K F ds xs→aP K F' ds xs
  | [],_,q=>by simp only [aP] at q ⊢;exact q
  | d::ds,_,q=>by
    simp only [aP] at q ⊢
    obtain⟨x,r,e,a,b⟩:=q
    exact⟨x,r,e,DA.mono h a,aP.mono h b⟩
end
section
variable{K:PySem.W.Frag}{F:Hp}
theorem aP.len:∀{ds:List PyData} {xs:List V},aP K F ds xs→ds.length=xs.length
  | [],_,q=>by simp only [aP] at q;subst q;rfl
  | d::ds,_,q=>by
    simp only [aP] at q
    obtain⟨x,r,e,a,b⟩:=q
    subst e
    simp [aP.len b]
theorem aP.get:∀{ds:List PyData} {xs:List V} {i:Nat} {d:PyData},aP K F ds xs→ds[i]?=some d→∃v,xs[i]?=some v∧DA K F d v
  | [],_,_,_,_,h=>by simp at h
  | d::ds,_,i,d',q,h=>by
    simp only [aP] at q
    obtain⟨x,r,e,a,b⟩:=q
    subst e
    cases i with
    | zero=>simp at h;subst h;exact⟨x,rfl,a⟩
    | succ i=>
      obtain⟨v,h1,h2⟩:=aP.get (i:=i) b (by simpa using h)
      exact⟨v,by simpa using h1,h2⟩
theorem aP.append:∀{ds es:List PyData} {xs ys:List V},aP K F ds xs→aP K F es ys→aP K F (ds++es) (xs++ys)
  | [],_,_,_,q,s=>by simp only [aP] at q;subst q;simpa using s
  | d::ds,es,_,ys,q,s=>by
    simp only [aP] at q
    obtain⟨x,r,e,a,b⟩:=q
    subst e
    simp only [List.cons_append,aP]
    exact⟨x,_,rfl,a,aP.append b s⟩
theorem aP.one{d:PyData}{v:V}(h:DA K F d v):aP K F [d] [v]:=by simp only [aP];exact⟨_,_,rfl,h,rfl⟩
theorem aP.nil:aP K F [] []:=by simp only [aP]
theorem aP.cons{d:PyData}{v:V}{ds:List PyData}{vs:List V}(h:DA K F d v)(r:aP K F ds vs):aP K F (d::ds) (v::vs):=by simp only [aP];exact⟨_,_,rfl,h,r⟩
theorem aP.drop:∀{ds:List PyData} {xs:List V} (n:Nat),aP K F ds xs→aP K F (ds.drop n) (xs.drop n)
  | _,_,0,q=>q
  | [],_,n+1,q=>by simp only [aP] at q;subst q;exact aP.nil
  | d::ds,_,n+1,q=>by
    simp only [aP] at q
    obtain⟨x,r,e,a,b⟩:=q
    subst e
    simpa using aP.drop n b
theorem aP.take:∀{ds:List PyData} {xs:List V} (n:Nat),aP K F ds xs→aP K F (ds.take n) (xs.take n)
  | _,_,0,q=>by simpa using aP.nil
  | [],_,n+1,q=>by simp only [aP] at q;subst q;exact aP.nil
  | d::ds,_,n+1,q=>by
    simp only [aP] at q
    obtain⟨x,r,e,a,b⟩:=q
    subst e
    simpa using aP.cons a (aP.take n b)
theorem aP.erase:∀{ds:List PyData} {xs:List V} (n:Nat),aP K F ds xs→aP K F (ds.eraseIdx n) (xs.eraseIdx n)
  | [],_,_,q=>by simp only [aP] at q;subst q;exact aP.nil
  | e::ds,_,n,q=>by
    simp only [aP] at q
    obtain⟨x,r,e,a,b⟩:=q
    subst e
    cases n with
    | zero=>exact b
    | succ n=>exact aP.cons a (aP.erase n b)
theorem aP.ints:∀{ns:List Int} {xs:List V},aP K F (ns.map .int) xs↔ xs=ns.map V.int
  | [],xs=>by simp [aP]
  | n::ns,xs=>by
    simp only [List.map_cons,aP,DA]
    constructor
    · rintro⟨x,r,e,rfl,q⟩;rw [e,aP.ints.mp q]
    · rintro rfl;exact⟨_,_,rfl,rfl,aP.ints.mpr rfl⟩
theorem aP.bools:∀{ns:List Bool} {xs:List V},aP K F (ns.map .bool) xs↔ xs=ns.map V.bl
  | [],xs=>by simp [aP]
  | n::ns,xs=>by
    simp only [List.map_cons,aP,DA]
    constructor
    · rintro⟨x,r,e,rfl,q⟩;rw [e,aP.bools.mp q]
    · rintro rfl;exact⟨_,_,rfl,rfl,aP.bools.mpr rfl⟩
theorem dn{i:Int}{v:V}:DA K F (.int i) v↔ v=.int i:=by simp only [DA]
theorem dh{b:Bool}{v:V}:DA K F (.bool b) v↔ v=.bl b:=by simp only [DA]
theorem gU{v:V}:DA K F .none v↔ v=.non:=by simp only [DA]
theorem oH{x:Str}{v:V}:DA K F (.str x) v↔ v=.str x:=by simp only [DA]
theorem dr{ds:List PyData}{v:V}:DA K F (.tuple ds) v↔ ∃a xs,v=.ref a∧cD K F a xs∧aP K F ds xs:=by simp only [DA]
theorem dq{ds:List PyData}{v:V}:DA K F (.list ds) v↔ ∃a xs,v=.ref a∧dg K F a xs∧aP K F ds xs:=by simp only [DA]
end
inductive Sv where
  | d (x:PyData)
  | l (xs:List PyData)
  /-- a list of lists that nobody else holds -/
  | n (xss:List (List PyData))
abbrev En:=List (Option Sv)
inductive Rv where
  | d (x:PyData)
  | l (xs:List PyData)
  | s (i:Nat)
def Fp(σ:L2.St)(e:En)(H:Hp)(i:Nat)(a:Addr):Prop:=(∃xs:List PyData,e[i]?=some (some (Sv.l xs))∧σ[i]?=some (some (.ref a)))∨
  ∃(xss:List (List PyData)) (l:Addr) (bs:List Addr),e[i]?=some (some (Sv.n xss))∧σ[i]?=some (some (.ref l))∧H l=some (.lst (bs.map V.ref))∧(a=l∨a∈bs)
def d9(σ:L2.St)(e:En)(H:Hp)(a:Addr):Prop:=∃i,Fp σ e H i a
structure a9 (K:PySem.W.Frag) (F H:Hp) (σ:L2.St) (e:En):Prop where
  sm:aw F H
  len:σ.length=e.length
  dat:∀(i:Nat) (x:PyData),e[i]?=some (some (.d x))→∃v,σ[i]?=some (some v)∧DA K F x v
  own:∀(i:Nat) (xs:List PyData),e[i]?=some (some (.l xs))→∃l vs,σ[i]?=some (some (.ref l))∧F l=none∧H l=some (.lst vs)∧aP K F xs vs
  nst:∀(i:Nat) (xss:List (List PyData)),e[i]?=some (some (.n xss))→∃(l:Addr) (bs:List Addr),σ[i]?=some (some (.ref l))∧F l=none∧H l=some (.lst (bs.map V.ref))∧bs.length=xss.length∧bs.Nodup∧l∉bs∧
    ∀(k:Nat) (b:Addr) (ys:List PyData),bs[k]?=some b→xss[k]?=some ys→F b=none∧∃us,H b=some (.lst us)∧aP K F ys us
  fp:∀(i j:Nat) (a:Addr),Fp σ e H i a→Fp σ e H j a→i=j
theorem a9.inj{K:PySem.W.Frag}{F H:Hp}{σ:L2.St}{e:En}(R:a9 K F H σ e)(i j:Nat)(xs ys:List PyData)(l:Addr)(h1:e[i]?=some (some (.l xs)))(h2:e[j]?=some (some (.l ys)))(h3:σ[i]?=some (some (.ref l)))(h4:σ[j]?=some (some (.ref l))):i=j:=R.fp i j l (.inl ⟨xs,h1,h3⟩) (.inl ⟨ys,h2,h4⟩)
theorem a9.fpAt{K:PySem.W.Frag}{F H:Hp}{σ:L2.St}{e:En}(R:a9 K F H σ e){i:Nat}{a:Addr}(h:Fp σ e H i a):F a=none∧∃vs,H a=some (.lst vs):=by
  rcases h with ⟨xs,h1,h2⟩ | ⟨xss,l,bs,h1,h2,h3,h4⟩
  · obtain⟨l,vs,g1,g2,g3,_⟩:=R.own i xs h1
    rw [h2] at g1;cases g1
    exact⟨g2,vs,g3⟩
  · obtain⟨l',bs',g1,g2,g3,g4,g5,g6,g7⟩:=R.nst i xss h1
    rw [h2] at g1;cases g1
    rw [h3] at g3
    have e1:bs=bs':=by
      have:=HO.lst.inj (Option.some.inj g3)
      exact List.map_inj_right (fun _ _ z=>V.ref.inj z) |>.mp this
    subst e1
    rcases h4 with rfl | h4
    · exact⟨g2,_,h3⟩
    · obtain⟨k,hk⟩:=List.getElem?_of_mem h4
      have hk2:k < xss.length:=by rw [←g4];exact(List.getElem?_eq_some_iff.mp hk).1
      obtain⟨c1,us,c2,_⟩:=g7 k a xss[k] hk (List.getElem?_eq_getElem hk2)
      exact⟨c1,us,c2⟩
structure dS (σ:L2.St) (F H:Hp) (e:En) (F' H':Hp) (e':En):Prop where
  sf:aw F F'
  dom:∀a,H' a=none→H a=none
  fr:∀a vs,F a=none→H a=some (.lst vs)→¬d9 σ e H a→F' a=none
  lst:∀a vs,H a=some (.lst vs)→∃vs',H' a=some (.lst vs')
  tmp:∀a o,H a=some o→¬d9 σ e H a→H' a=some o
  shp:∀i:Nat,(∃xs,e'[i]?=some (some (.l xs)))↔ (∃xs,e[i]?=some (some (.l xs)))
  ow:∀a,d9 σ e' H' a→d9 σ e H a∨H a=none
theorem dS.refl(σ:L2.St)(F H:Hp)(e:En):dS σ F H e F H e:=⟨aw.refl _,fun _ h=>h,fun _ _ h _ _=>h,fun _ vs h=>⟨vs,h⟩,fun _ _ h _=>h,fun _=>Iff.rfl,fun _ h=>.inl h⟩
theorem dS.trans{σ:L2.St}{F H F1 H1 F2 H2:Hp}{e e1 e2:En}(x:dS σ F H e F1 H1 e1)(y:dS σ F1 H1 e1 F2 H2 e2):dS σ F H e F2 H2 e2:=
  ⟨x.sf.trans y.sf,fun a h=>x.dom a (y.dom a h),fun a vs h n no=>let ⟨vs',q⟩:=x.lst a vs n;y.fr a vs' (x.fr a vs h n no) q (fun z=>(x.ow a z).elim no fun z=>by rw [n] at z;cases z),fun a vs h=>let ⟨vs',q⟩:=x.lst a vs h;y.lst a vs' q,
    fun a o h n=>y.tmp a o (x.tmp a o h n) (fun z=>(x.ow a z).elim n fun z=>by rw [h] at z;cases z),fun i=>(y.shp i).trans (x.shp i),fun a h=>(y.ow a h).elim (x.ow a) fun z=>.inr (x.dom a z)⟩
def cw(K:PySem.W.Frag)(σ:L2.St)(H0 F H:Hp)(e:En):Rv→V→Prop
  | .d x,v=>DA K F x v
  | .l xs,v=>∃l vs,v=.ref l∧H0 l=none∧F l=none∧H l=some (.lst vs)∧aP K F xs vs∧¬d9 σ e H l
  | .s i,v=>σ[i]?=some (some v)∧∃xs,e[i]?=some (some (.l xs))
section
variable{K:PySem.W.Frag}{σ:L2.St}{H0 F H F' H':Hp}{e e':En}{r:Rv}{v:V}
theorem cw.ext(h:cw K σ H0 F H e r v)(x:dS σ F H e F' H' e'):cw K σ H0 F' H' e' r v:=by
  cases r with
  | d y=>exact DA.mono x.sf h
  | l xs=>
    obtain⟨l,vs,e1,h1,h2,h3,h4,h5⟩:=h
    exact⟨l,vs,e1,h1,x.fr l _ h2 h3 h5,x.tmp l _ h3 h5,aP.mono x.sf h4,fun z=>(x.ow l z).elim h5 fun z=>by rw [h3] at z;cases z⟩
  | s i=>exact⟨h.1,(x.shp i).mpr h.2⟩
theorem cw.weak{H1:Hp}(h:cw K σ H1 F H e r v)(d:∀a,H1 a=none→H0 a=none):cw K σ H0 F H e r v:=by
  cases r with
  | d y=>exact h
  | l xs=>
    obtain⟨l,vs,e1,h1,r⟩:=h
    exact⟨l,vs,e1,d l h1,r⟩
  | s i=>exact h
theorem a9.ownH(R:a9 K F H σ e)(a:Addr)(h:d9 σ e H a):H a≠none:=by
  obtain⟨i,h⟩:=h
  obtain⟨_,vs,h2⟩:=R.fpAt h
  rw [h2];simp
theorem a9.freeF(R:a9 K F H σ e){p:Addr}(hp:H p=none):F p=none:=R.sm.free hp
theorem yB(R:a9 K F H σ e)(h:∀l bs,H l=some (.lst bs)→d9 σ e H l→H' l=some (.lst bs)){i:Nat}{a:Addr}:Fp σ e H' i a↔ Fp σ e H i a:=by
  have key:∀xss l,e[i]?=some (some (.n xss))→σ[i]?=some (some (.ref l))→H' l=H l:=fun xss l h1 h2=>by
    obtain⟨l',bs,g1,g2,g3,_⟩:=R.nst i xss h1
    rw [h2] at g1;cases g1
    rw [g3]
    exact h l _ g3 ⟨i,.inr ⟨xss,l,bs,h1,h2,g3,.inl rfl⟩⟩
  constructor
  · rintro(h1 | ⟨xss,l,bs,h1,h2,h3,h4⟩)
    · exact .inl h1
    · exact .inr ⟨xss,l,bs,h1,h2,by rw [←key xss l h1 h2];exact h3,h4⟩
  · rintro(h1 | ⟨xss,l,bs,h1,h2,h3,h4⟩)
    · exact .inl h1
    · exact .inr ⟨xss,l,bs,h1,h2,by rw [key xss l h1 h2];exact h3,h4⟩
theorem a9.keep(R:a9 K F H σ e)(sF:aw F F')(sm:aw F' H')(hf:∀a,d9 σ e H a→F' a=none)(hh:∀a o,d9 σ e H a→H a=some o→H' a=some o):a9 K F' H' σ e∧∀a,d9 σ e H' a↔ d9 σ e H a:=by
  have fs:∀{i a},Fp σ e H' i a↔ Fp σ e H i a:=fun{i a}=>yB R fun l bs h1 h2=>hh l _ h2 h1
  refine⟨⟨sm,R.len,fun i x h=>let ⟨v,h1,h2⟩:=R.dat i x h;⟨v,h1,DA.mono sF h2⟩,fun i xs h=>?_,fun i xss h=>?_,fun i j a h1 h2=>R.fp i j a (fs.mp h1) (fs.mp h2)⟩,fun a=>⟨fun⟨i,h⟩=>⟨i,fs.mp h⟩,fun⟨i,h⟩=>⟨i,fs.mpr h⟩⟩⟩
  · obtain⟨l,vs,h1,h2,h3,h4⟩:=R.own i xs h
    have o:d9 σ e H l:=⟨i,.inl ⟨xs,h,h1⟩⟩
    exact⟨l,vs,h1,hf l o,hh l _ o h3,h4.mono sF⟩
  · obtain⟨l,bs,h1,h2,h3,h4,h5,h6,h7⟩:=R.nst i xss h
    have o:d9 σ e H l:=⟨i,.inr ⟨xss,l,bs,h,h1,h3,.inl rfl⟩⟩
    refine⟨l,bs,h1,hf l o,hh l _ o h3,h4,h5,h6,fun k b ys g1 g2=>?_⟩
    obtain⟨c1,us,c2,c3⟩:=h7 k b ys g1 g2
    have ob:d9 σ e H b:=⟨i,.inr ⟨xss,l,bs,h,h1,h3,.inr (List.mem_of_getElem? g1)⟩⟩
    exact⟨hf b ob,us,hh b _ ob c2,c3.mono sF⟩
theorem a9.same(R:a9 K F H σ e)(s:aw H H'):a9 K F H' σ e∧dS σ F H e F H' e:=by
  obtain⟨R',o'⟩:=R.keep (aw.refl F) (R.sm.trans s) (fun a ⟨i,h⟩=>(R.fpAt h).1) fun a o _ h=>s a o h
  exact⟨R',⟨aw.refl _,fun a h=>s.free h,fun _ _ h _ _=>h,fun a vs h=>⟨vs,s _ _ h⟩,fun a o h _=>s a o h,fun _=>Iff.rfl,fun a h=>.inl ((o' a).mp h)⟩⟩
theorem a9.freeze(R:a9 K F H σ e){p:Addr}{o:HO}(hF:F p=none)(hp:H p=some o)(hn:¬d9 σ e H p):a9 K (a_ F p o) H σ e∧aw F (a_ F p o):=by
  have sF:aw F (a_ F p o):=aw.new hF
  refine⟨(R.keep sF (fun b u q=>?_) (fun a ha=>?_) fun _ _ _ h=>h).1,sF⟩
  · by_cases z:b=p
    · subst z;rw [aG] at q;cases q;exact hp
    · rw [aI z] at q;exact R.sm _ _ q
  · obtain⟨i,hi⟩:=ha
    have z:a≠p:=fun z=>hn ⟨i,by rw [←z];exact hi⟩
    rw [aI z];exact(R.fpAt hi).1
theorem a9.notOwn(R:a9 K F H σ e){p:Addr}{o:HO}(hp:H p=some o)(hl:∀vs,o≠.lst vs):¬d9 σ e H p:=fun⟨i,h⟩=>by
  obtain⟨_,vs,g⟩:=R.fpAt h
  rw [hp] at g;cases g
  exact hl _ rfl
theorem a9.newT(R:a9 K F H σ e){p:Addr}{vs:List V}(hp:H p=none):a9 K (a_ F p (.tup vs)) (a_ H p (.tup vs)) σ e∧dS σ F H e (a_ F p (.tup vs)) (a_ H p (.tup vs)) e:=by
  have hF:=R.freeF hp
  obtain⟨R1,X1⟩:=R.same (aw.new hp (o:=.tup vs))
  obtain⟨R2,s2⟩:=R1.freeze (p:=p) hF aG (R1.notOwn aG (fun _ z=>nomatch z))
  refine⟨R2,⟨s2,X1.dom,fun a ws h n _=>?_,X1.lst,X1.tmp,X1.shp,X1.ow⟩⟩
  have z:a≠p:=fun z=>by rw [z,hp] at n;cases n
  rw [aI z];exact h
theorem a9.sameOwn(R:a9 K F H σ e)(s:aw H H')(a:Addr):d9 σ e H' a↔ d9 σ e H a:=(R.keep (aw.refl F) (R.sm.trans s) (fun a ⟨i,h⟩=>(R.fpAt h).1) fun a o _ h=>s a o h).2 a
theorem a9.newL(R:a9 K F H σ e){p:Addr}{vs:List V}(hp:H p=none):a9 K F (a_ H p (.lst vs)) σ e∧dS σ F H e F (a_ H p (.lst vs)) e∧F p=none∧¬d9 σ e (a_ H p (.lst vs)) p:=
  ⟨(R.same (aw.new hp)).1,(R.same (aw.new hp)).2,R.freeF hp,fun z=>R.ownH p ((R.sameOwn (aw.new hp) p).mp z) hp⟩
theorem a9.growT(R:a9 K F H σ e){p:Addr}{xs:List V}(s:aw H H')(hp:cD K H' p xs):∃F',a9 K F' H' σ e∧dS σ F H e F' H' e∧cD K F' p xs:=by
  obtain⟨R1,X1⟩:=R.same s
  rcases hp with hp | hp
  · have key:∀o,H' p=some o→(∀vs,o≠.lst vs)→(∀G:Hp,G p=some o→Rd G p (.tup xs))→∃F',a9 K F' H' σ e∧dS σ F H e F' H' e∧cD K F' p xs:=by
      intro o ho hl hr
      cases q:F p with
      | some u=>
        have:=R1.sm _ _ q
        rw [ho] at this;cases this
        exact⟨F,R1,X1,.inl (hr F q)⟩
      | none=>
        obtain⟨R2,s2⟩:=R1.freeze q ho (R1.notOwn ho hl)
        refine⟨_,R2,⟨s2,X1.dom,fun a ws h n _=>?_,X1.lst,X1.tmp,X1.shp,X1.ow⟩,.inl (hr _ aG)⟩
        have z:a≠p:=fun z=>by rw [z] at n;rw [s _ _ n] at ho;cases ho;exact hl _ rfl
        rw [aI z];exact h
    rcases hp with hp | ⟨ob,hp⟩
    · exact key _ hp (fun _ z=>nomatch z) fun G g=>.inl g
    · exact key _ hp (fun _ z=>nomatch z) fun G g=>.inr ⟨ob,g⟩
  · exact⟨F,R1,X1,.inr hp⟩
theorem cw.frozen(R:a9 K F H σ e){xs:List PyData}(h:cw K σ H0 F H e (.l xs) v):∃F',a9 K F' H σ e∧aw F F'∧DA K F' (.list xs) v∧(∀a,F a=none→H0 a≠none→F' a=none):=by
  obtain⟨l,vs,rfl,h1,h2,h3,h4,h5⟩:=h
  obtain⟨R2,s2⟩:=R.freeze h2 h3 h5
  refine⟨_,R2,s2,?_,fun a ha hn=>?_⟩
  · rw [dq]
    exact⟨l,vs,rfl,.inl (.inl aG),aP.mono s2 h4⟩
  · have z:a≠l:=fun z=>hn (by rw [z];exact h1)
    rw [aI z];exact ha
def eR(e:En):Rv→Option (Bool × List PyData)
  | .d (.tuple xs)=>some (false,xs)
  | .d (.list xs)=>some (true,xs)
  | .l xs=>some (true,xs)
  | .s i=>match e[i]? with
    | some (some (.l xs))=>some (true,xs)
    | _=>none
  | _=>none
theorem en(R:a9 K F H σ e)(h:cw K σ H0 F H e r v){b:Bool}{xs:List PyData}(q:eR e r=some (b,xs)):
    ∃p vs,v=.ref p∧aP K F xs vs∧(if b=true then dg K H p vs else cD K H p vs):=by
  cases r with
  | d x=>
    cases x with
    | tuple ds=>
      cases q
      obtain⟨a,ys,e1,e2,e3⟩:=dr.mp h
      exact⟨a,ys,e1,e3,R.sm.tup e2⟩
    | list ds=>
      cases q
      obtain⟨a,ys,e1,e2,e3⟩:=dq.mp h
      exact⟨a,ys,e1,e3,R.sm.seq e2⟩
    | _=>cases q
  | l ys=>
    cases q
    obtain⟨l,vs,e1,h1,h2,h3,h4,_⟩:=h
    exact⟨l,vs,e1,h4,.inl (.inl h3)⟩
  | s i=>
    obtain⟨h1,ys,h2⟩:=h
    simp only [eR,h2] at q
    cases q
    obtain⟨l,vs,e1,e2,e3,e4⟩:=R.own i _ h2
    rw [h1] at e1;cases e1
    exact⟨l,vs,rfl,e4,.inl (.inl e3)⟩
end
end L2
namespace L2
open PySem PySem.Spec PyProof.Rows
abbrev FE:=En→Option (Rv × En)
abbrev FT:=En→Option (Bool × En)
abbrev FA:=En→Option (List Rv × En)
def dH(K:PySem.W.Frag)(σ:L2.St)(H0 F H:Hp)(e:En):List Rv→List V→Prop
  | [],vs=>vs=[]
  | r::rs,vs=>∃v ws,vs=v::ws∧cw K σ H0 F H e r v∧dH K σ H0 F H e rs ws
def fE(K:PySem.W.Frag)(f:FE):TE:=fun σ H Q=>∃F e r e',a9 K F H σ e∧f e=some (r,e')∧∀F' H' v,dS σ F H e F' H' e'→a9 K F' H' σ e'→cw K σ H F' H' e' r v→Q v H'
def fT(K:PySem.W.Frag)(f:FT):TT:=fun σ H Q=>∃F e b e',a9 K F H σ e∧f e=some (b,e')∧∀F' H',dS σ F H e F' H' e'→a9 K F' H' σ e'→Q b H'
def fA(K:PySem.W.Frag)(f:FA):TA:=fun σ H Q=>∃F e rs e',a9 K F H σ e∧f e=some (rs,e')∧∀F' H' vs,dS σ F H e F' H' e'→a9 K F' H' σ e'→dH K σ H F' H' e' rs vs→Q vs H'
theorem PE.mono{X:Cx}{e:Expr}{t t':TE}(h:PE X e t)(m:∀σ H Q,t' σ H Q→t σ H Q):PE X e t':=fun pins s σ H Q I q=>h pins s σ H Q I (m σ H Q q)
theorem PT.mono{X:Cx}{e:Expr}{t t':TT}(h:PT X e t)(m:∀σ H Q,t' σ H Q→t σ H Q):PT X e t':=fun pins s σ H Q I q=>h pins s σ H Q I (m σ H Q q)
theorem PW.mono{X:Cx}{e:Expr}{t t':TT}(h:PW X e t)(m:∀σ H Q,t' σ H Q→t σ H Q):PW X e t':=fun wh pins s σ H Q I q=>h wh pins s σ H Q I (m σ H Q q)
theorem PA.mono{X:Cx}{es:List Expr}{t t':TA}(h:PA X es t)(m:∀σ H Q,t' σ H Q→t σ H Q):PA X es t':=fun pos pins s σ H Q I q=>h pos pins s σ H Q I (m σ H Q q)
section
variable{K:PySem.W.Frag}{σ:L2.St}{H0 F H F' H':Hp}{e e':En}
theorem dH.weak{H1:Hp}(d:∀a,H1 a=none→H0 a=none):∀{rs:List Rv} {vs:List V},dH K σ H1 F H e rs vs→dH K σ H0 F H e rs vs
  | [],_,h=>h
  | r::rs,_,h=>by
    obtain⟨v,ws,rfl,h1,h2⟩:=h
    exact⟨v,ws,rfl,h1.weak d,dH.weak d h2⟩
theorem dS.frz{F'':Hp}(x:dS σ F H e F' H' e')(s:aw F' F'')(h:∀a,F' a=none→H a≠none→F'' a=none):dS σ F H e F'' H' e':=
  ⟨x.sf.trans s,x.dom,fun a vs h1 h2 h3=>h a (x.fr a vs h1 h2 h3) (by rw [h2];simp),x.lst,x.tmp,x.shp,x.ow⟩
def i4:List Rv→Option (List PyData)
  | []=>some []
  | .d x::rs=>(i4 rs).map (x::·)
  | .l xs::rs=>(i4 rs).map (.list xs::·)
  | .s _::_=>none
theorem dH.frozen:∀{rs:List Rv} {vs:List V} {ds:List PyData} {F:Hp},a9 K F H σ e→dH K σ H0 F H e rs vs→i4 rs=some ds→
    ∃F',a9 K F' H σ e∧aw F F'∧aP K F' ds vs∧(∀a,F a=none→H0 a≠none→F' a=none)
  | [],_,_,F,R,h,q=>by
    cases q
    have h':_=[]:=h
    subst h'
    exact⟨F,R,aw.refl _,aP.nil,fun _ h _=>h⟩
  | .d x::rs,_,ds,F,R,h,q=>by
    obtain⟨v,ws,rfl,h1,h2⟩:=h
    obtain⟨ds',q1,rfl⟩:=Option.map_eq_some_iff.mp q
    obtain⟨F',R',s',d',f'⟩:=dH.frozen R h2 q1
    exact⟨F',R',s',.cons (DA.mono s' h1) d',f'⟩
  | .l xs::rs,_,ds,F,R,h,q=>by
    obtain⟨v,ws,rfl,h1,h2⟩:=h
    obtain⟨ds',q1,rfl⟩:=Option.map_eq_some_iff.mp q
    obtain⟨F',R',s',d',f'⟩:=dH.frozen R h2 q1
    obtain⟨l,us,rfl,g1,g2,g3,g4,g5⟩:=h1
    cases hl:F' l with
    | none=>
      have h1':cw K σ H0 F' H e (.l xs) (.ref l):=⟨l,us,rfl,g1,hl,g3,aP.mono s' g4,g5⟩
      obtain⟨F2,R2,s2,d2,f2⟩:=h1'.frozen R'
      exact⟨F2,R2,s'.trans s2,.cons d2 (aP.mono s2 d'),fun a ha hn=>f2 a (f' a ha hn) hn⟩
    | some o=>
      have:=R'.sm _ _ hl
      rw [g3] at this;cases this
      exact⟨F',R',s',.cons (dq.mpr ⟨l,us,rfl,.inl (.inl hl),aP.mono s' g4⟩) d',f'⟩
end
section
variable{X:Cx}{K:PySem.W.Frag}{a b c:Expr}{fa fb:FE}{ft fu:FT}{pos:Pos}{es:List Expr}{fs:FA}
def ae(i:Nat):FE:=fun e=>match e[i]? with
  | some (some (.d x))=>some (.d x,e)
  | some (some (.l _))=>some (.s i,e)
  | _=>none
def vC(x:PyData):FE:=fun e=>some (.d x,e)
theorem z_{i:Nat}{σ:L2.St}{H:Hp}{Q:VK}(h:fE K (ae i) σ H Q):Ei i σ H Q:=by
  obtain⟨F,e,r,e',R,hf,q⟩:=h
  unfold ae at hf
  match h1:e[i]?,hf with
  | some (some (.d x)),hf=>
    cases hf
    obtain⟨v,h2,h3⟩:=R.dat i x h1
    exact⟨v,h2,q F H v (dS.refl _ _ _ _) R h3⟩
  | some (some (.n _)),hf=>cases hf
  | some (some (.l xs)),hf=>
    cases hf
    obtain⟨l,vs,h2,h3⟩:=R.own i xs h1
    exact⟨_,h2,q F H _ (dS.refl _ _ _ _) R ⟨h2,xs,h1⟩⟩
  | some none,hf=>cases hf
  | none,hf=>cases hf
theorem qv(i:Nat){x:Str}{pos:Pos}(hN:X.N[i]?=some x)(hv:CY X.env.scope x)(hd:(x==("__debug__":Str))=false)(hcd:(x==("__classdict__":Str))=false):PE X (.Name x pos) (fE K (ae i)):=(BP hN hv hd hcd).mono fun _ _ _ h=>z_ h
theorem qR{x:PyData}{v:V}{σ:L2.St}{H:Hp}{Q:VK}(hx:∀F,DA K F x v)(h:fE K (vC x) σ H Q):tC v σ H Q:=by
  obtain⟨F,e,r,e',R,hf,q⟩:=h
  cases hf
  exact q F H v (dS.refl _ _ _ _) R (hx F)
theorem ab{i j pos}:PE X (.Constant (.int i) j pos) (fE K (vC (.int i))):=rP.mono fun _ _ _ h=>qR (fun _=>dn.mpr rfl) h
theorem cA{b j pos}:PE X (.Constant (.bool b) j pos) (fE K (vC (.bool b))):=DD.mono fun _ _ _ h=>qR (fun _=>dh.mpr rfl) h
theorem pq{j pos}:PE X (.Constant .none j pos) (fE K (vC .none)):=BK.mono fun _ _ _ h=>qR (fun _=>gU.mpr rfl) h
theorem my{x j pos}:PE X (.Constant (.str x) j pos) (fE K (vC (.str x))):=BN.mono fun _ _ _ h=>qR (fun _=>oH.mpr rfl) h
theorem pk{x:Str}{v:V}{u:Value}{pos:Pos}{y:PyData}(hg:Gl X x)(hm:X.mg x=some u)(r:bD v u)(hy:∀F,DA K F y v)(hd:(x==("__debug__":Str))=false):PE X (.Name x pos) (fE K (vC y)):=(zp hg hm r hd).mono fun _ _ _ h=>qR hy h
def fR(K:PySem.W.Frag)(r:R2)(g:En→Rv→Rv→Option Rv):Prop:=
  ∀(σ:L2.St) (H0 F H:Hp) (e:En) (x y z:Rv) (v u:V) (Q:VK),a9 K F H σ e→cw K σ H0 F H e x v→cw K σ H0 F H e y u→g e x y=some z→
    (∀F' H' w,dS σ F H e F' H' e→a9 K F' H' σ e→cw K σ H F' H' e z w→Q w H')→r v u H Q
def ao(g:En→Rv→Rv→Option Rv)(fa fb:FE):FE:=fun e=>(fa e).bind fun p=>(fb p.2).bind fun q=>(g q.2 p.1 q.1).map fun z=>(z,q.2)
theorem pG{r:R2}{g:En→Rv→Rv→Option Rv}(ho:fR K r g){σ:L2.St}{H:Hp}{Q:VK}(h:fE K (ao g fa fb) σ H Q):Ee r (fE K fa) (fE K fb) σ H Q:=by
  obtain⟨F,e,z,e2,R,hf,q⟩:=h
  unfold ao at hf
  obtain⟨⟨x,e1⟩,h1,hf⟩:=Option.bind_eq_some_iff.mp hf
  obtain⟨⟨y,e2'⟩,h2,hf⟩:=Option.bind_eq_some_iff.mp hf
  obtain⟨z',h3,hf⟩:=Option.map_eq_some_iff.mp hf
  cases hf
  refine⟨F,e,x,e1,R,h1,fun F1 H1 v X1 R1 A1=>⟨F1,e1,y,_,R1,h2,fun F2 H2 u X2 R2 A2=>?_⟩⟩
  have X12:=X1.trans X2
  refine ho σ H F2 H2 _ x y _ v u Q R2 (A1.ext X2) (A2.weak X1.dom) h3 fun F3 H3 w X3 R3 A3=>?_
  exact q F3 H3 w (X12.trans X3) R3 (A3.weak X12.dom)
theorem nL{op:Operator}{r:R2}{g:En→Rv→Rv→Option Rv}(hr:fV X (binaryOp op) r)(ho:fR K r g)(ha:PE X a (fE K fa))(hb:PE X b (fE K fb)):PE X (.BinOp a op b pos) (fE K (ao g fa fb)):=(DG hr ha hb).mono fun _ _ _ h=>pG ho h
theorem B7{op:CmpOp}{r:R2}{g:En→Rv→Rv→Option Rv}(hr:fV X (compareOp op) r)(ho:fR K r g)(ha:PE X a (fE K fa))(hb:PE X b (fE K fb))(hm:behindInMarks op b=false):PE X (.Compare a [op] [b] pos) (fE K (ao g fa fb)):=(zi hr ha hb hm).mono fun _ _ _ h=>pG ho h
theorem DO{r:R2}{g:En→Rv→Rv→Option Rv}(hr:yp X r)(ho:fR K r g)(ha:PE X a (fE K fa))(hb:PE X b (fE K fb))(hs:oq b):PE X (.Subscript a b pos) (fE K (ao g fa fb)):=(DF hr ha hb hs).mono fun _ _ _ h=>pG ho h
def pI(g:En→Rv→Option Rv)(fa:FE):FE:=fun e=>(fa e).bind fun p=>(g p.2 p.1).map fun z=>(z,p.2)
def CW(K:PySem.W.Frag)(r:V→Hp→VK→Prop)(g:En→Rv→Option Rv):Prop:=
  ∀(σ:L2.St) (H0 F H:Hp) (e:En) (x z:Rv) (v:V) (Q:VK),a9 K F H σ e→cw K σ H0 F H e x v→g e x=some z→
    (∀F' H' w,dS σ F H e F' H' e→a9 K F' H' σ e→cw K σ H F' H' e z w→Q w H')→r v H Q
theorem yf{r:V→Hp→VK→Prop}{g:En→Rv→Option Rv}(ho:CW K r g){σ:L2.St}{H:Hp}{Q:VK}(h:fE K (pI g fa) σ H Q):FL r (fE K fa) σ H Q:=by
  obtain⟨F,e,z,e2,R,hf,q⟩:=h
  unfold pI at hf
  obtain⟨⟨x,e1⟩,h1,hf⟩:=Option.bind_eq_some_iff.mp hf
  obtain⟨z',h3,hf⟩:=Option.map_eq_some_iff.mp hf
  cases hf
  refine⟨F,e,x,_,R,h1,fun F1 H1 v X1 R1 A1=>?_⟩
  refine ho σ H F1 H1 _ x _ v Q R1 A1 h3 fun F3 H3 w X3 R3 A3=>?_
  exact q F3 H3 w (X1.trans X3) R3 (A3.weak X1.dom)
theorem DP{op:UnaryOp}{r:V→Hp→VK→Prop}{g:En→Rv→Option Rv}(hr:Es X (unaryOp op) r)(ho:CW K r g)(ha:PE X a (fE K fa)):PE X (.UnaryOp op a pos) (fE K (pI g fa)):=(DK hr ha).mono fun _ _ _ h=>yf ho h
def eZ:Rv→Option Bool
  | .d (.bool b)=>some b
  | _=>none
theorem dA{σ:L2.St}{H0 F H:Hp}{e:En}{r:Rv}{v:V}{b:Bool}(h:cw K σ H0 F H e r v)(q:eZ r=some b):v=.bl b:=by
  unfold eZ at q
  split at q
  · cases q;exact dh.mp (show DA K F (.bool _) v from h)
  · cases q
theorem di{σ:L2.St}{H0 F H:Hp}{e:En}{b:Bool}:cw K σ H0 F H e (.d (.bool b)) (.bl b):=(dh (K:=K) (F:=F)).mpr rfl
def aJ(f:FE):FT:=fun e=>(f e).bind fun p=>(eZ p.1).map fun b=>(b,p.2)
theorem qU{σ:L2.St}{H:Hp}{Q:Bool→Hp→Prop}(h:fT K (aJ fa) σ H Q):fE K fa σ H fun x H'=>∃k,x=.bl k∧Q k H':=by
  obtain⟨F,e,b,e1,R,hf,q⟩:=h
  unfold aJ at hf
  obtain⟨⟨x,e1'⟩,h1,hf⟩:=Option.bind_eq_some_iff.mp hf
  obtain⟨b',h3,hf⟩:=Option.map_eq_some_iff.mp hf
  cases hf
  exact⟨F,e,x,_,R,h1,fun F1 H1 v X1 R1 A1=>⟨_,dA A1 h3,q F1 H1 X1 R1⟩⟩
theorem B8{op:CmpOp}{r:R2}{g:En→Rv→Rv→Option Rv}(hr:fV X (compareOp op) r)(ho:fR K r g)(ha:PE X a (fE K fa))(hb:PE X b (fE K fb))(hm:behindInMarks op b=false):PT X (.Compare a [op] [b] pos) (fT K (aJ (ao g fa fb))):=
  (zF hr ha hb hm).mono fun σ H Q h=>by
    obtain⟨F,e,z,e2,R,hf,q⟩:=qU h
    exact pG ho ⟨F,e,z,e2,R,hf,q⟩
theorem dz{e:Expr}(h:PE X e (fE K fa))(he:∀whole,isTrue e X.env whole=(do let v ←whole;standAt e.pos;holding [v] (truthy v))):PT X e (fT K (aJ fa)):=(B2 h he).mono fun _ _ _ h=>qU h
def qQ(f g:FT):FT:=fun e=>(f e).bind fun p=>if p.1=true then g p.2 else some (false,p.2)
def sk(f g:FT):FT:=fun e=>(f e).bind fun p=>if p.1=true then some (true,p.2) else g p.2
def jt(f:FT):FT:=fun e=>(f e).map fun p=>(!p.1,p.2)
theorem z3{σ:L2.St}{H:Hp}{Q:Bool→Hp→Prop}(h:fT K (qQ ft fu) σ H Q):D9 (fT K ft) (fT K fu) σ H Q:=by
  obtain⟨F,e,b,e1,R,hf,q⟩:=h
  unfold qQ at hf
  obtain⟨⟨x,e1'⟩,h1,hf⟩:=Option.bind_eq_some_iff.mp hf
  refine⟨F,e,x,e1',R,h1,fun F1 H1 X1 R1=>?_⟩
  cases x with
  | true=>exact⟨F1,e1',b,e1,R1,hf,fun F2 H2 X2 R2=>q F2 H2 (X1.trans X2) R2⟩
  | false=>cases hf;exact q F1 H1 X1 R1
theorem CA{σ:L2.St}{H:Hp}{Q:Bool→Hp→Prop}(h:fT K (sk ft fu) σ H Q):FK (fT K ft) (fT K fu) σ H Q:=by
  obtain⟨F,e,b,e1,R,hf,q⟩:=h
  unfold sk at hf
  obtain⟨⟨x,e1'⟩,h1,hf⟩:=Option.bind_eq_some_iff.mp hf
  refine⟨F,e,x,e1',R,h1,fun F1 H1 X1 R1=>?_⟩
  cases x with
  | false=>exact⟨F1,e1',b,e1,R1,hf,fun F2 H2 X2 R2=>q F2 H2 (X1.trans X2) R2⟩
  | true=>cases hf;exact q F1 H1 X1 R1
theorem z9{σ:L2.St}{H:Hp}{Q:Bool→Hp→Prop}(h:fT K (jt ft) σ H Q):Ec (fT K ft) σ H Q:=by
  obtain⟨F,e,b,e1,R,hf,q⟩:=h
  unfold jt at hf
  obtain⟨⟨x,e1'⟩,h1,hf⟩:=Option.map_eq_some_iff.mp hf
  cases hf
  exact⟨F,e,x,_,R,h1,fun F1 H1 X1 R1=>q F1 H1 X1 R1⟩
variable{eD:List Expr}
theorem sZ(ha:PT X a (fT K ft)):PW X (.BoolOp .And [a] pos) (fT K ft):=zI ha
theorem jp(ha:PT X a (fT K ft)):PW X (.BoolOp .Or [a] pos) (fT K ft):=B5 ha
theorem xB(ha:PT X a (fT K ft))(hb:PW X (.BoolOp .And (b::eD) pos) (fT K fu)):PW X (.BoolOp .And (a::b::eD) pos) (fT K (qQ ft fu)):=(B4 ha hb).mono fun _ _ _ h=>z3 h
theorem jW(ha:PT X a (fT K ft))(hb:PW X (.BoolOp .Or (b::eD) pos) (fT K fu)):PW X (.BoolOp .Or (a::b::eD) pos) (fT K (sk ft fu)):=(DN ha hb).mono fun _ _ _ h=>CA h
theorem hJ(ha:PT X a (fT K ft)):PT X (.UnaryOp .Not a pos) (fT K (jt ft)):=(B0 ha).mono fun _ _ _ h=>z9 h
theorem pv{e:Expr}(h:PW X e (fT K ft)):PT X e (fT K ft):=h.pt
def i9(f g:FE):FE:=fun e=>(f e).bind fun p=>(eZ p.1).bind fun b=>if b=true then g p.2 else some (.d (.bool false),p.2)
def sr(f g:FE):FE:=fun e=>(f e).bind fun p=>(eZ p.1).bind fun b=>if b=true then some (.d (.bool true),p.2) else g p.2
def mS(f:FE):FE:=fun e=>(f e).bind fun p=>(eZ p.1).map fun b=>(.d (.bool (!b)),p.2)
theorem mx(ha:PE X a (fE K fa))(hb:PE X (.BoolOp .And (b::eD) pos) (fE K fb)):PE X (.BoolOp .And (a::b::eD) pos) (fE K (i9 fa fb)):=(BI ha hb).mono fun σ H Q h=>by
  obtain⟨F,e,z,e2,R,hf,q⟩:=h
  unfold i9 at hf
  obtain⟨⟨x,e1⟩,h1,hf⟩:=Option.bind_eq_some_iff.mp hf
  obtain⟨b,h2,hf⟩:=Option.bind_eq_some_iff.mp hf
  refine⟨F,e,x,e1,R,h1,fun F1 H1 v X1 R1 A1=>⟨b,dA A1 h2,?_⟩⟩
  cases b with
  | true=>exact⟨F1,e1,z,e2,R1,hf,fun F2 H2 w X2 R2 A2=>q F2 H2 w (X1.trans X2) R2 (A2.weak X1.dom)⟩
  | false=>cases hf;exact q F1 H1 _ X1 R1 di
theorem AA(ha:PE X a (fE K fa))(hb:PE X (.BoolOp .Or (b::eD) pos) (fE K fb)):PE X (.BoolOp .Or (a::b::eD) pos) (fE K (sr fa fb)):=(DH ha hb).mono fun σ H Q h=>by
  obtain⟨F,e,z,e2,R,hf,q⟩:=h
  unfold sr at hf
  obtain⟨⟨x,e1⟩,h1,hf⟩:=Option.bind_eq_some_iff.mp hf
  obtain⟨b,h2,hf⟩:=Option.bind_eq_some_iff.mp hf
  refine⟨F,e,x,e1,R,h1,fun F1 H1 v X1 R1 A1=>⟨b,dA A1 h2,?_⟩⟩
  cases b with
  | false=>exact⟨F1,e1,z,e2,R1,hf,fun F2 H2 w X2 R2 A2=>q F2 H2 w (X1.trans X2) R2 (A2.weak X1.dom)⟩
  | true=>cases hf;exact q F1 H1 _ X1 R1 di
theorem kR{op}(h:PE X a (fE K fa)):PE X (.BoolOp op [a] pos) (fE K fa):=BM h
theorem xu(ha:PE X a (fE K fa)):PE X (.UnaryOp .Not a pos) (fE K (mS fa)):=(BL ha).mono fun σ H Q h=>by
  obtain⟨F,e,z,e2,R,hf,q⟩:=h
  unfold mS at hf
  obtain⟨⟨x,e1⟩,h1,hf⟩:=Option.bind_eq_some_iff.mp hf
  obtain⟨b,h2,hf⟩:=Option.map_eq_some_iff.mp hf
  cases hf
  exact⟨F,e,x,_,R,h1,fun F1 H1 v X1 R1 A1=>⟨b,dA A1 h2,q F1 H1 _ X1 R1 di⟩⟩
def Fo(t:FT)(f g:FE):FE:=fun e=>(t e).bind fun p=>if p.1=true then f p.2 else g p.2
def ag:FA:=fun e=>some ([],e)
def aa(fa:FE)(fs:FA):FA:=fun e=>(fa e).bind fun p=>(fs p.2).map fun q=>(p.1::q.1,q.2)
theorem ac:PA X [] (fA K ag):=wW.mono fun σ H Q h=>by
  obtain⟨F,e,r,e',R,hf,q⟩:=h
  cases hf
  exact q F H [] (dS.refl _ _ _ _) R rfl
theorem E9(ha:PE X a (fE K fa))(hr:PA X es (fA K fs))(h:PySem.W.isStarred a=false):PA X (a::es) (fA K (aa fa fs)):=(E7 ha hr h).mono fun σ H Q h=>by
  obtain⟨F,e,z,e2,R,hf,q⟩:=h
  unfold aa at hf
  obtain⟨⟨x,e1⟩,h1,hf⟩:=Option.bind_eq_some_iff.mp hf
  obtain⟨⟨xs,e2'⟩,h2,hf⟩:=Option.map_eq_some_iff.mp hf
  cases hf
  refine⟨F,e,x,e1,R,h1,fun F1 H1 v X1 R1 A1=>⟨F1,e1,xs,_,R1,h2,fun F2 H2 vs X2 R2 A2=>?_⟩⟩
  exact q F2 H2 (v::vs) (X1.trans X2) R2 ⟨v,vs,rfl,A1.ext X2,A2.weak X1.dom⟩
def aR(fs:FA):FE:=fun e=>(fs e).bind fun p=>(i4 p.1).bind fun ds=>if ds.length≤1000 then some (.d (.tuple ds),p.2) else none
def cH(fs:FA):FE:=fun e=>(fs e).bind fun p=>(i4 p.1).bind fun ds=>if ds.length≤1000 then some (.l ds,p.2) else none
theorem aq{x1}(h:PA X es (fA K fs)):PE X (.Tuple es x1 pos) (fE K (aR fs)):=(BO h).mono fun σ H Q h=>by
  obtain⟨F,e,z,e2,R,hf,q⟩:=h
  unfold aR at hf
  obtain⟨⟨rs,e1⟩,h1,hf⟩:=Option.bind_eq_some_iff.mp hf
  obtain⟨ds,h2,hf⟩:=Option.bind_eq_some_iff.mp hf
  split at hf
  case isFalse=>cases hf
  case isTrue hl=>
  cases hf
  refine⟨F,e,rs,_,R,h1,fun F1 H1 vs X1 R1 A1=>?_⟩
  obtain⟨F2,R2,s2,d2,f2⟩:=dH.frozen R1 A1 h2
  have hlen:=d2.len
  refine⟨Nat.le_of_lt (nW (by lia)),fun p hp=>?_⟩
  obtain⟨R3,X3⟩:=R2.newT (vs:=vs) hp
  exact q _ _ _ ((X1.frz s2 f2).trans X3) R3 (dr.mpr ⟨p,vs,rfl,.inl (.inl aG),aP.mono X3.sf d2⟩)
theorem bg(h:PA X es (fA K fs)):PE X (.List es pos) (fE K (cH fs)):=(BJ h).mono fun σ H Q h=>by
  obtain⟨F,e,z,e2,R,hf,q⟩:=h
  unfold cH at hf
  obtain⟨⟨rs,e1⟩,h1,hf⟩:=Option.bind_eq_some_iff.mp hf
  obtain⟨ds,h2,hf⟩:=Option.bind_eq_some_iff.mp hf
  split at hf
  case isFalse=>cases hf
  case isTrue hl=>
  cases hf
  refine⟨F,e,rs,_,R,h1,fun F1 H1 vs X1 R1 A1=>?_⟩
  obtain⟨F2,R2,s2,d2,f2⟩:=dH.frozen R1 A1 h2
  have hlen:=d2.len
  refine⟨Nat.le_of_lt (nW (by lia)),fun p hp=>?_⟩
  obtain⟨R3,X3,hF,no⟩:=R2.newL (vs:=vs) hp
  exact q _ _ _ ((X1.frz s2 f2).trans X3) R3 ⟨p,vs,rfl,X1.dom p hp,hF,aG,d2,no⟩
def dW(K:PySem.W.Frag)(r:List V→Hp→VK→Prop)(g:En→List Rv→Option Rv):Prop:=
  ∀(σ:L2.St) (H0 F H:Hp) (e:En) (xs:List Rv) (z:Rv) (vs:List V) (Q:VK),a9 K F H σ e→dH K σ H0 F H e xs vs→g e xs=some z→
    (∀F' H' w,dS σ F H e F' H' e→a9 K F' H' σ e→cw K σ H F' H' e z w→Q w H')→r vs H Q
def aW(g:En→List Rv→Option Rv)(fs:FA):FE:=fun e=>(fs e).bind fun p=>(g p.2 p.1).map fun z=>(z,p.2)
theorem qS{r:List V→Hp→VK→Prop}{g:En→List Rv→Option Rv}(ho:dW K r g){σ:L2.St}{H:Hp}{Q:VK}(h:fE K (aW g fs) σ H Q):Fd r (fA K fs) σ H Q:=by
  obtain⟨F,e,z,e2,R,hf,q⟩:=h
  unfold aW at hf
  obtain⟨⟨x,e1⟩,h1,hf⟩:=Option.bind_eq_some_iff.mp hf
  obtain⟨z',h3,hf⟩:=Option.map_eq_some_iff.mp hf
  cases hf
  refine⟨F,e,x,_,R,h1,fun F1 H1 vs X1 R1 A1=>?_⟩
  refine ho σ H F1 H1 _ x _ vs Q R1 A1 h3 fun F3 H3 w X3 R3 A3=>?_
  exact q F3 H3 w (X1.trans X3) R3 (A3.weak X1.dom)
theorem xr{x:Str}{p pos:Pos}{id:String}{r:List V→Hp→VK→Prop}{g:En→List Rv→Option Rv}(hc:et X (.builtin id) r)(ho:dW K r g)(hg:Gl X x)(hm:X.mg x=none)(hv:bootBuiltins x=some (.builtin id))(ha:PA X (a::es) (fA K fs))(hn:x≠"__name__")(hdb:(x==("__debug__":Str))=false)
    (he:starEach (a::es) X.env=(false,eval a X.env)::starEach es X.env)(hpl:(backTo pos (starEach es X.env)).any (·.1)=false):PE X (.Call (.Name x p) (a::es) [] pos) (fE K (aW g fs)):=(qh hc hg hm hv ha hn hdb he hpl).mono fun _ _ _ h=>qS ho h
theorem uM{x:Str}{p pos:Pos}{T:String}{r:List V→Hp→VK→Prop}{g:En→List Rv→Option Rv}(hc:et X (.type T) r)(ho:dW K r g)(hg:Gl X x)(hm:X.mg x=none)(hv:bootBuiltins x=some (.type T))(ha:PA X (a::es) (fA K fs))(hn:x≠"__name__")(hdb:(x==("__debug__":Str))=false)
    (he:starEach (a::es) X.env=(false,eval a X.env)::starEach es X.env)(hpl:(backTo pos (starEach es X.env)).any (·.1)=false):PE X (.Call (.Name x p) (a::es) [] pos) (fE K (aW g fs)):=(uJ hc hg hm hv ha hn hdb he hpl).mono fun _ _ _ h=>qS ho h
end
end L2
namespace L2
open PySem PySem.Spec PyProof.Rows
mutual
theorem DA.reads{X:Cx}{pins:List (Addr × Obj)}{σ:L2.St}{H:Hp}{s:Shared}(I:aF X pins σ H s):∀{d:PyData} {v:V} {u:Value},d.canLay0=true→DA X.K H d v→bD v u→∃as,Reads s.heap u d as
  | .none,_,_,_,q,r=>by
    simp only [DA] at q;subst q;cases r;exact⟨_,.none⟩
  | .bool b,_,_,_,q,r=>by
    simp only [DA] at q;subst q;cases r;exact⟨_,.bool b⟩
  | .int i,_,_,_,q,r=>by
    simp only [DA] at q;subst q;obtain⟨t,rfl⟩:=r;exact⟨_,.int i t⟩
  | .str x,_,_,_,q,r=>by
    simp only [DA] at q;subst q;obtain⟨t,rfl⟩:=r;exact⟨_,.str x t⟩
  | .tuple ds,_,_,c,q,r=>by
    simp only [DA] at q
    obtain⟨a,xs,e,hs,rr⟩:=q
    subst e;cases r
    obtain⟨its,rv,⟨o,ho,hc,n,hd⟩,hz⟩:=I.tuple hs
    obtain⟨as,q⟩:=aP.reads I (by simpa [PyData.canLay0] using c) rr rv
    exact⟨_,.tuple ho hc hd q⟩
  | .list ds,_,_,c,q,r=>by
    simp only [DA] at q
    obtain⟨a,xs,e,hs,rr⟩:=q
    subst e;cases r
    obtain⟨its,rv,ht,hz⟩:=I.list hs
    obtain⟨o,ho,hc,n,hd⟩:=ht.isList
    obtain⟨as,q⟩:=aP.reads I (by simpa [PyData.canLay0] using c) rr rv
    exact⟨_,.list ho hc hd q⟩
  | .dict _,_,_,c,_,_=>by simp [PyData.canLay0] at c
theorem aP.reads{X:Cx}{pins:List (Addr × Obj)}{σ:L2.St}{H:Hp}{s:Shared}(I:aF X pins σ H s):∀{ds:List PyData} {xs:List V} {us:List Value},PyData.canLayAll0 ds=true→aP X.K H ds xs→aS xs us→∃as,ReadsAll s.heap us ds as
  | [],_,_,_,q,r=>by
    simp only [aP] at q;subst q;cases r;exact⟨_,.nil⟩
  | d::ds,_,_,c,q,r=>by
    simp only [aP] at q
    simp only [PyData.canLayAll0,Bool.and_eq_true] at c
    obtain⟨x,rr,e,a,b⟩:=q
    subst e
    cases r with
    | cons p p'=>
      obtain⟨as,q1⟩:=DA.reads I c.1 a p
      obtain⟨bs,q2⟩:=aP.reads I c.2 b p'
      exact⟨_,.cons q1 q2⟩
end
def hZ(e:En):Rv→Option PyData
  | .d x=>some x
  | .l xs=>some (.list xs)
  | .s i=>match e[i]? with
    | some (some (.l xs))=>some (.list xs)
    | _=>none
theorem iy{K:PySem.W.Frag}{σ:L2.St}{H0 F H:Hp}{e:En}{r:Rv}{v:V}{d:PyData}(R:a9 K F H σ e)(h:cw K σ H0 F H e r v)(q:hZ e r=some d):DA K H d v:=by
  cases r with
  | d x=>cases q;exact DA.mono R.sm h
  | l xs=>
    cases q
    obtain⟨l,vs,rfl,h1,h2,h3,h4,_⟩:=h
    exact dq.mpr ⟨l,vs,rfl,.inl (.inl h3),aP.mono R.sm h4⟩
  | s i=>
    obtain⟨h1,ys,h2⟩:=h
    simp only [hZ,h2] at q
    cases q
    obtain⟨l,vs,e1,e2,e3,e4⟩:=R.own i _ h2
    rw [h1] at e1;cases e1
    exact dq.mpr ⟨l,vs,rfl,.inl (.inl e3),aP.mono R.sm e4⟩
section
variable{X:Cx}{K:PySem.W.Frag}
def c9:Rv→Option Int
  | .d (.int i)=>some i
  | _=>none
theorem c_{σ:L2.St}{H0 F H:Hp}{e:En}{r:Rv}{v:V}{i:Int}(h:cw K σ H0 F H e r v)(q:c9 r=some i):v=.int i:=by
  unfold c9 at q
  split at q
  · cases q;exact dn.mp (show DA K F (.int _) v from h)
  · cases q
theorem mC{σ:L2.St}{H0 F H:Hp}{e:En}{i:Int}:cw K σ H0 F H e (.d (.int i)) (.int i):=(dn (K:=K) (F:=F)).mpr rfl
def gI(C:Int→Int→Bool)(f:Int→Int→PyData):En→Rv→Rv→Option Rv:=fun _ x y=>(c9 x).bind fun i=>(c9 y).bind fun j=>if C i j=true then some (.d (f i j)) else none
theorem qf{C:Int→Int→Prop}{c:Int→Int→Bool}{g:Int→Int→V}{f:Int→Int→PyData}(hc:∀i j,c i j=true→C i j)(hf:∀F i j,DA K F (f i j) (g i j)):fR K (rI C g) (gI c f):=by
  intro σ H0 F H e x y z v u Q R A B hg q
  unfold gI at hg
  obtain⟨i,h1,hg⟩:=Option.bind_eq_some_iff.mp hg
  obtain⟨j,h2,hg⟩:=Option.bind_eq_some_iff.mp hg
  split at hg
  case isFalse=>cases hg
  case isTrue hh=>
  cases hg
  exact⟨i,j,c_ A h1,c_ B h2,hc i j hh,q F H _ (dS.refl _ _ _ _) R (hf F i j)⟩
theorem jn{g:Int→Int→V}{f:Int→Int→PyData}(hf:∀F i j,DA K F (f i j) (g i j)):fR K (uO g) (gI (fun _ _=>true) f):=by
  intro σ H0 F H e x y z v u Q R A B hg q
  obtain⟨i,j,h1,h2,h3,h4⟩:=qf (K:=K) (C:=fun _ _=>True) (c:=fun _ _=>true) (g:=g) (f:=f) (fun _ _ _=>trivial) hf σ H0 F H e x y z v u Q R A B hg q
  exact⟨i,j,h1,h2,h4⟩
def uZ(g g':En→Rv→Rv→Option Rv):En→Rv→Rv→Option Rv:=fun e x y=>(g e x y).or (g' e x y)
theorem fR.or{r r':R2}{g g':En→Rv→Rv→Option Rv}(h:fR K r g)(h':fR K r' g'):fR K (fun x y H Q=>r x y H Q∨r' x y H Q) (uZ g g'):=by
  intro σ H0 F H e x y z v u Q R A B hg q
  unfold uZ at hg
  cases e1:g e x y with
  | some w=>
    rw [e1] at hg
    cases hg
    exact .inl (h σ H0 F H e x y _ v u Q R A B e1 q)
  | none=>
    rw [e1] at hg
    exact .inr (h' σ H0 F H e x y _ v u Q R A B hg q)
def sS:=gI (fun _ _=>true) fun i j=>.int (i+j)
def fM:=gI (fun _ _=>true) fun i j=>.int (i - j)
def hU(i:Int):Bool:=decide (-(2 ^ 64) < i)&&decide (i < 2 ^ 64)
def C4(n:Nat)(i:Int):Bool:=decide (i.natAbs < 2 ^ n)
theorem gQ{n:Nat}{i:Int}:C4 n i=true↔ Bt n i:=by unfold C4 Bt;exact decide_eq_true_iff
def jm(i j:Int):Bool:=hU i || hU j || (C4 4000 i&&C4 4000 j)
def wc:=gI jm fun i j=>.int (i*j)
def eu:=gI (fun _ j=>j != 0&&C4 8000 j) fun i j=>.int (i.fdiv j)
def be:=gI (fun _ j=>j != 0) fun i j=>.int (i.fmod j)
def xi(i j:Int):Bool:=decide (0≤j)&&decide (j≤1000000)&&hU i
def oT:=gI xi fun i j=>.int (i ^ j.toNat)
theorem jr{i:Int}(h:hU i=true): -(2 ^ 64) < i∧i < 2 ^ 64:=by
  unfold hU at h
  rw [Bool.and_eq_true,decide_eq_true_iff,decide_eq_true_iff] at h
  exact h
theorem zz{i j:Int}(h:xi i j=true):AI i j:=by
  unfold xi at h
  rw [Bool.and_eq_true,Bool.and_eq_true,decide_eq_true_iff,decide_eq_true_iff] at h
  have:=jr h.2
  exact⟨h.1.1,h.1.2,by lia⟩
def sC(i j:Int):Prop:=yn i j∨Ae i j
theorem za:fV X (binaryOp .Mult) (rI sC fun i j=>.int (i*j)):=by
  intro pins s σ H x y v u Q I rx ry h
  obtain⟨i,j,e1,e2,h1,q⟩:=h
  rcases h1 with h1 | h1
  · exact BC pins s σ H x y v u Q I rx ry ⟨i,j,e1,e2,h1,q⟩
  · exact zb pins s σ H x y v u Q I rx ry ⟨i,j,e1,e2,h1,q⟩
theorem yT{i j:Int}(h:jm i j=true):sC i j:=by
  unfold jm at h
  rw [Bool.or_eq_true,Bool.or_eq_true,Bool.and_eq_true] at h
  rcases h with (h | h) | h
  · exact .inl (.inl (jr h))
  · exact .inl (.inr (jr h))
  · exact .inr ⟨gQ.mp h.1,gQ.mp h.2⟩
theorem Bk:fR K (rI sC fun i j=>.int (i*j)) wc:=qf (fun _ _ h=>yT h) fun _ _ _=>dn.mpr rfl
theorem D8:fR K (uO fun i j=>.int (i - j)) fM:=jn fun _ _ _=>dn.mpr rfl
theorem AY:fR K (rI Ad fun i j=>.int (i.fdiv j)) eu:=qf (fun i j h=>by
  rw [Bool.and_eq_true] at h
  exact⟨by simpa using h.1,gQ.mp h.2⟩) fun _ _ _=>dn.mpr rfl
theorem Dt:fR K (rI (fun _ j=>j≠0) fun i j=>.int (i.fmod j)) be:=qf (fun i j h=>by simpa using h) fun _ _ _=>dn.mpr rfl
theorem DL:fR K (rI AI fun i j=>.int (i ^ j.toNat)) oT:=qf (fun _ _ h=>zz h) fun _ _ _=>dn.mpr rfl
def nA:En→Rv→Rv→Option Rv:=fun e x y=>match eR e x,eR e y with
  | some (false,xs),some (false,ys)=>if xs.length+ys.length≤1000000 then some (.d (.tuple (xs++ys))) else none
  | _,_=>none
theorem AU:fR K (xC K) nA:=by
  intro σ H0 F H e x y z v u Q R A B hg q
  unfold nA at hg
  match h1:eR e x,h2:eR e y,hg with
  | some (false,xs),some (false,ys),hg=>
    obtain⟨p,vs,rfl,d1,s1⟩:=en R A h1
    obtain⟨p',us,rfl,d2,s2⟩:=en R B h2
    dsimp only at hg
    split at hg
    case isFalse=>cases hg
    case isTrue hl=>
    cases hg
    have l1:=d1.len
    have l2:=d2.len
    have sl:sizeLine=16777216:=sizeLine_eq
    refine⟨p,p',vs,us,rfl,rfl,s1,s2,by lia,fun t H' sm hT=>?_⟩
    obtain⟨F',R',X',hF⟩:=R.growT sm hT
    exact q F' H' _ X' R' (dr.mpr ⟨t,_,rfl,hF,(d1.append d2).mono X'.sf⟩)
def rL(e:En):Rv→Option (List PyData)
  | .l xs=>some xs
  | .s i=>match e[i]? with
    | some (some (.l xs))=>some xs
    | _=>none
  | _=>none
theorem o5{σ:L2.St}{H0 F H:Hp}{e:En}{r:Rv}{v:V}(R:a9 K F H σ e)(h:cw K σ H0 F H e r v){xs:List PyData}(q:rL e r=some xs):∃p vs,v=.ref p∧F p=none∧H p=some (.lst vs)∧aP K F xs vs:=by
  cases r with
  | d x=>cases q
  | l ys=>
    cases q
    obtain⟨l,vs,e1,h1,h2,h3,h4,_⟩:=h
    exact⟨l,vs,e1,h2,h3,h4⟩
  | s i=>
    obtain⟨h1,ys,h2⟩:=h
    simp only [rL,h2] at q
    cases q
    obtain⟨l,vs,e1,e2,e3,e4⟩:=R.own i _ h2
    rw [h1] at e1;cases e1
    exact⟨l,vs,rfl,e2,e3,e4⟩
def p5:En→Rv→Rv→Option Rv:=fun e x y=>(rL e x).bind fun xs=>(rL e y).bind fun ys=>if xs.length+ys.length≤1000000 then some (.l (xs++ys)) else none
theorem AS:fR K B9 p5:=by
  intro σ H0 F H e x y z v u Q R A B hg q
  unfold p5 at hg
  obtain⟨xs,h1,hg⟩:=Option.bind_eq_some_iff.mp hg
  obtain⟨ys,h2,hg⟩:=Option.bind_eq_some_iff.mp hg
  split at hg
  case isFalse=>cases hg
  case isTrue hl=>
  cases hg
  obtain⟨p,vs,rfl,f1,s1,d1⟩:=o5 R A h1
  obtain⟨p',us,rfl,f2,s2,d2⟩:=o5 R B h2
  have l1:=d1.len
  have l2:=d2.len
  have sl:sizeLine=16777216:=sizeLine_eq
  refine⟨p,p',vs,us,rfl,rfl,s1,s2,by lia,fun t ht=>?_⟩
  obtain⟨R3,X3,hF,no⟩:=R.newL (vs:=vs++us) ht
  exact q _ _ _ X3 R3 ⟨t,_,rfl,ht,hF,aG,d1.append d2,no⟩
def bu:En→Rv→Rv→Option Rv:=uZ sS (uZ nA p5)
def AB(K:PySem.W.Frag):R2:=fun x y H Q=>uO (fun i j=>.int (i+j)) x y H Q∨(xC K x y H Q∨B9 x y H Q)
theorem y4:fV X (binaryOp .Add) (AB X.K):=Bv.or (y6.or Bw)
theorem C0:fR K (AB K) bu:=fR.or (jn fun _ _ _=>dn.mpr rfl) (fR.or AU AS)
def wf:En→Rv→Rv→Option Rv:=fun e x y=>match eR e x,c9 y with
  | some (false,[d]),some k=>if 0≤k∧k≤100000 then some (.d (.tuple (List.replicate k.toNat d))) else none
  | _,_=>none
theorem aP.rep{F:Hp}{d:PyData}{v:V}(h:DA K F d v):∀n,aP K F (List.replicate n d) (List.replicate n v)
  | 0=>aP.nil
  | n+1=>aP.cons h (aP.rep h n)
theorem Cb:fR K (xE K) wf:=by
  intro σ H0 F H e x y z v u Q R A B hg q
  unfold wf at hg
  match h1:eR e x,h2:c9 y,hg with
  | some (false,[d]),some k,hg=>
    obtain⟨p,vs,rfl,d1,s1⟩:=en R A h1
    dsimp only at hg
    split at hg
    case isFalse=>cases hg
    case isTrue hl=>
    cases hg
    have hd:=d1
    simp only [aP] at hd
    obtain⟨w,r,e1,hw,e2⟩:=hd
    subst e2 e1
    refine⟨p,k,w,rfl,c_ B h2,s1,hl.1,hl.2,fun t H' sm hT=>?_⟩
    obtain⟨F',R',X',hF⟩:=R.growT sm hT
    exact q F' H' _ X' R' (dr.mpr ⟨t,_,rfl,hF,(aP.rep hw _).mono X'.sf⟩)
def we:En→Rv→Rv→Option Rv:=fun e x y=>(rL e x).bind fun xs=>(c9 y).bind fun k=>if -100000≤k∧k≤100000∧xs.length*k.toNat≤1000000 then some (.l (List.replicate k.toNat xs).flatten) else none
theorem aP.reps{F:Hp}{ds:List PyData}{vs:List V}(h:aP K F ds vs):∀n,aP K F (List.replicate n ds).flatten (List.replicate n vs).flatten
  | 0=>aP.nil
  | n+1=>by simpa [List.replicate_succ] using aP.append h (aP.reps h n)
theorem Ca:fR K B' we:=by
  intro σ H0 F H e x y z v u Q R A B hg q
  unfold we at hg
  obtain⟨xs,h1,hg⟩:=Option.bind_eq_some_iff.mp hg
  obtain⟨k,h2,hg⟩:=Option.bind_eq_some_iff.mp hg
  split at hg
  case isFalse=>cases hg
  case isTrue hl=>
  cases hg
  obtain⟨p,vs,rfl,f1,s1,d1⟩:=o5 R A h1
  have l1:=d1.len
  have sl:sizeLine=16777216:=sizeLine_eq
  refine⟨p,k,vs,rfl,c_ B h2,s1,by lia,by lia,by rw [←l1];lia,fun t ht=>?_⟩
  obtain⟨R3,X3,hF,no⟩:=R.newL (vs:=(List.replicate k.toNat vs).flatten) ht
  exact q _ _ _ X3 R3 ⟨t,_,rfl,ht,hF,aG,aP.reps d1 _,no⟩
def a':En→Rv→Rv→Option Rv:=uZ wc (uZ wf we)
def AC(K:PySem.W.Frag):R2:=fun x y H Q=>rI sC (fun i j=>.int (i*j)) x y H Q∨(xE K x y H Q∨B' x y H Q)
theorem y_:fV X (binaryOp .Mult) (AC X.K):=za.or (ze.or BF)
theorem Du:fR K (AC K) a':=fR.or Bk (fR.or Cb Ca)
def qX:=gI (fun _ _=>true) fun i j=>.bool (decide (i < j))
def F8:=gI (fun _ _=>true) fun i j=>.bool (decide (i≤j))
def sU:=gI (fun _ _=>true) fun i j=>.bool (decide (j < i))
def AZ:=gI (fun _ _=>true) fun i j=>.bool (decide (j≤i))
theorem E6:fR K (uO fun i j=>.bl (decide (i < j))) qX:=jn fun _ _ _=>dh.mpr rfl
theorem ES:fR K (uO fun i j=>.bl (decide (j < i))) sU:=jn fun _ _ _=>dh.mpr rfl
theorem ER:fR K (uO fun i j=>.bl (decide (j≤i))) AZ:=jn fun _ _ _=>dh.mpr rfl
def B_(K:PySem.W.Frag)(neg:Bool):R2:=fun x y H Q=>∃a b,DA K H a x∧DA K H b y∧SeqAt.shaped a=true∧SeqAt.shaped b=true∧Q (.bl (if neg then !PyData.eqv a b else PyData.eqv a b)) H
theorem Bx{k:Nat}(hr:cZ k X.A):fV X (compareOp .Eq) (B_ X.K false):=by
  intro pins s σ H x y v u Q I rx ry h
  obtain⟨a,b,ha,hb,s1,s2,q⟩:=h
  obtain⟨as,ra⟩:=DA.reads I (SeqAt.canLay_of_shaped s1) ha rx
  obtain⟨bs,rb⟩:=DA.reads I (SeqAt.canLay_of_shaped s2) hb ry
  exact SeqAt.compareEq_shaped ra rb s1 s2 hr.units ⟨.bl _,H,I,rfl,q⟩
theorem BD{k:Nat}(hr:cZ k X.A):fV X (compareOp .NotEq) (B_ X.K true):=by
  intro pins s σ H x y v u Q I rx ry h
  obtain⟨a,b,ha,hb,s1,s2,q⟩:=h
  obtain⟨as,ra⟩:=DA.reads I (SeqAt.canLay_of_shaped s1) ha rx
  obtain⟨bs,rb⟩:=DA.reads I (SeqAt.canLay_of_shaped s2) hb ry
  exact SeqAt.compareNe_shaped ra rb s1 s2 hr.units ⟨.bl _,H,I,rfl,q⟩
def bW(neg:Bool):En→Rv→Rv→Option Rv:=fun e x y=>(hZ e x).bind fun a=>(hZ e y).bind fun b=>if (SeqAt.shaped a&&SeqAt.shaped b)=true then some (.d (.bool (if neg then !PyData.eqv a b else PyData.eqv a b))) else none
theorem Aq{neg:Bool}:fR K (B_ K neg) (bW neg):=by
  intro σ H0 F H e x y z v u Q R A B hg q
  unfold bW at hg
  obtain⟨a,h1,hg⟩:=Option.bind_eq_some_iff.mp hg
  obtain⟨b,h2,hg⟩:=Option.bind_eq_some_iff.mp hg
  split at hg
  case isFalse=>cases hg
  case isTrue hl=>
  cases hg
  rw [Bool.and_eq_true] at hl
  exact⟨a,b,iy R A h1,iy R B h2,hl.1,hl.2,q F H _ (dS.refl _ _ _ _) R di⟩
def DR(K:PySem.W.Frag)(neg:Bool):R2:=fun x y H Q=>∃a xs,DA K H a x∧(DA K H (.list xs) y∨DA K H (.tuple xs) y)∧a.canLay0=true∧a.depth≤60∧PyData.canLayAll0 xs=true∧Q (.bl (if neg then !(xs.any fun y=>PyData.eqv y a) else xs.any fun y=>PyData.eqv y a)) H
theorem By{k:Nat}(hr:cZ k X.A):fV X (compareOp .In) (DR X.K false):=by
  intro pins s σ H x y v u Q I rx ry h
  obtain⟨a,xs,ha,hb,s1,s2,s3,q⟩:=h
  obtain⟨as,ra⟩:=DA.reads I s1 ha rx
  have hu:=hr.units
  rcases hb with hb | hb
  · obtain⟨bs,rb⟩:=DA.reads I (by simpa [PyData.canLay0] using s3) hb ry
    exact PySem.SeqAt.in_list_reads rb ra s3 s1 (by lia) ⟨.bl _,H,I,rfl,q⟩
  · obtain⟨bs,rb⟩:=DA.reads I (by simpa [PyData.canLay0] using s3) hb ry
    exact PySem.SeqAt.in_tuple_reads rb ra s3 s1 (by lia) ⟨.bl _,H,I,rfl,q⟩
def yi(neg:Bool):En→Rv→Rv→Option Rv:=fun e x y=>(hZ e x).bind fun a=>(eR e y).bind fun p=>if (a.canLay0&&decide (a.depth≤60)&&PyData.canLayAll0 p.2)=true then some (.d (.bool (if neg then !(p.2.any fun y=>PyData.eqv y a) else p.2.any fun y=>PyData.eqv y a))) else none
theorem EW{neg:Bool}:fR K (DR K neg) (yi neg):=by
  intro σ H0 F H e x y z v u Q R A B hg q
  unfold yi at hg
  obtain⟨a,h1,hg⟩:=Option.bind_eq_some_iff.mp hg
  obtain⟨⟨b,xs⟩,h2,hg⟩:=Option.bind_eq_some_iff.mp hg
  split at hg
  case isFalse=>cases hg
  case isTrue hl=>
  cases hg
  rw [Bool.and_eq_true,Bool.and_eq_true,decide_eq_true_iff] at hl
  obtain⟨p,vs,rfl,d1,s1⟩:=en R B h2
  refine⟨a,xs,iy R A h1,?_,hl.1.1,hl.1.2,hl.2,q F H _ (dS.refl _ _ _ _) R di⟩
  cases b with
  | true=>exact .inl (dq.mpr ⟨p,vs,rfl,s1,d1.mono R.sm⟩)
  | false=>exact .inr (dr.mpr ⟨p,vs,rfl,s1,d1.mono R.sm⟩)
def oX:PyData→Bool
  | .none=>true
  | _=>false
theorem nj{F:Hp}{d:PyData}{v:V}(h:DA K F d v):decide (v=.non)=oX d:=by
  cases d with
  | none=>rw [gU.mp h];rfl
  | bool b=>rw [dh.mp h];rfl
  | int b=>rw [dn.mp h];rfl
  | str b=>rw [oH.mp h];rfl
  | tuple b=>obtain⟨a,_,e,_⟩:=dr.mp h;rw [e];rfl
  | list b=>obtain⟨a,_,e,_⟩:=dq.mp h;rw [e];rfl
  | dict b=>simp only [DA] at h;obtain⟨a,m,rfl,_⟩:=h;rfl
def uk(neg:Bool):En→Rv→Rv→Option Rv:=fun e x y=>(hZ e x).bind fun a=>match y with
  | .d .none=>some (.d (.bool (if neg then !oX a else oX a)))
  | _=>none
def uj(neg:Bool):En→Rv→Rv→Option Rv:=fun e x y=>(eZ x).bind fun a=>(eZ y).bind fun b=>some (.d (.bool (if neg then !(a==b) else a==b)))
theorem Dh:fR K (fun x y H Q=>y=.non∧Q (.bl (decide (x=.non))) H) (uk false):=by
  intro σ H0 F H e x y z v u Q R A B hg q
  unfold uk at hg
  obtain⟨a,h1,hg⟩:=Option.bind_eq_some_iff.mp hg
  split at hg
  · cases hg
    refine⟨gU.mp (show DA K F .none u from B),?_⟩
    rw [nj (iy R A h1)]
    exact q F H _ (dS.refl _ _ _ _) R di
  · cases hg
theorem Bm:fR K (fun x y H Q=>y=.non∧Q (.bl (!decide (x=.non))) H) (uk true):=by
  intro σ H0 F H e x y z v u Q R A B hg q
  unfold uk at hg
  obtain⟨a,h1,hg⟩:=Option.bind_eq_some_iff.mp hg
  split at hg
  · cases hg
    refine⟨gU.mp (show DA K F .none u from B),?_⟩
    rw [nj (iy R A h1)]
    exact q F H _ (dS.refl _ _ _ _) R di
  · cases hg
theorem Dg:fR K (fun x y H Q=>∃b c,x=.bl b∧y=.bl c∧Q (.bl (b==c)) H) (uj false):=by
  intro σ H0 F H e x y z v u Q R A B hg q
  unfold uj at hg
  obtain⟨a,h1,hg⟩:=Option.bind_eq_some_iff.mp hg
  obtain⟨b,h2,hg⟩:=Option.bind_eq_some_iff.mp hg
  cases hg
  exact⟨a,b,dA A h1,dA B h2,q F H _ (dS.refl _ _ _ _) R di⟩
theorem wo:fR K (fun x y H Q=>∃b c,x=.bl b∧y=.bl c∧Q (.bl (!(b==c))) H) (uj true):=by
  intro σ H0 F H e x y z v u Q R A B hg q
  unfold uj at hg
  obtain⟨a,h1,hg⟩:=Option.bind_eq_some_iff.mp hg
  obtain⟨b,h2,hg⟩:=Option.bind_eq_some_iff.mp hg
  cases hg
  exact⟨a,b,dA A h1,dA B h2,q F H _ (dS.refl _ _ _ _) R di⟩
def Dc:En→Rv→Rv→Option Rv:=uZ (uk false) (uj false)
def lV:En→Rv→Rv→Option Rv:=uZ (uk true) (uj true)
def DS:R2:=fun x y H Q=>(y=.non∧Q (.bl (decide (x=.non))) H)∨∃b c,x=.bl b∧y=.bl c∧Q (.bl (b==c)) H
def ti:R2:=fun x y H Q=>(y=.non∧Q (.bl (!decide (x=.non))) H)∨∃b c,x=.bl b∧y=.bl c∧Q (.bl (!(b==c))) H
theorem Bz:fV X (compareOp .Is) DS:=BB.or BA
theorem uH:fV X (compareOp .IsNot) ti:=zc.or uI
theorem EX:fR K DS Dc:=fR.or Dh Dg
theorem yI:fR K ti lV:=fR.or Bm wo
def bz:En→Rv→Rv→Option Rv:=fun e x y=>(eR e x).bind fun p=>(c9 y).bind fun i=>(atI p.2 i).map .d
def DT(K:PySem.W.Frag):R2:=fun x y H Q=>DU K x y H Q∨DV K x y H Q
theorem EY:yp X (DT X.K):=yK.or A9
theorem aP.atI{F:Hp}{ds:List PyData}{vs:List V}(h:aP K F ds vs){i:Int}{d:PyData}(q:atI ds i=some d):∃v,L2.atI vs i=some v∧DA K F d v:=by
  unfold L2.atI at q ⊢
  obtain⟨j,h1,h2⟩:=Option.bind_eq_some_iff.mp q
  obtain⟨v,h3,h4⟩:=h.get h2
  exact⟨v,by rw [←h.len,h1];exact h3,h4⟩
theorem EZ:fR K (DT K) bz:=by
  intro σ H0 F H e x y z v u Q R A B hg q
  unfold bz at hg
  obtain⟨⟨b,xs⟩,h1,hg⟩:=Option.bind_eq_some_iff.mp hg
  obtain⟨i,h2,hg⟩:=Option.bind_eq_some_iff.mp hg
  obtain⟨d,h3,hg⟩:=Option.map_eq_some_iff.mp hg
  cases hg
  obtain⟨p,vs,rfl,d1,s1⟩:=en R A h1
  obtain⟨w,h4,h5⟩:=d1.atI h3
  have fin:=q F H w (dS.refl _ _ _ _) R h5
  cases b with
  | true=>exact .inl ⟨p,vs,i,w,rfl,c_ B h2,s1,h4,fin⟩
  | false=>exact .inr ⟨p,vs,i,w,rfl,c_ B h2,s1,h4,fin⟩
end
end L2
namespace HT
open PySem PySem.Spec PyProof.Rows
section
variable{prog:Program}{w:World}{A:Around}{E:Value→Shared→Prop}{s:Shared}
theorem getItem_tuple_all{t sl:Addr}{items:Array Value}{vl vu:Value}{lo hi:Option Int}{Q:Value→Shared→Prop}(ht:IsTup s.heap t items)(hs:s.heap.IsSliceOf sl vl vu .none)(pl:IsPart vl lo)(pu:IsPart vu hi)
    (hw:sIx items.size 0 lo=0∧sIx items.size items.size hi=items.size)
    (h:Q (.ref t) s):wpAny (model prog w) A (getItem (.ref t) (.ref sl)) Q E s:=by
  obtain⟨os,hos,hcs,hds⟩:=id hs
  have hTs:s.TypeIs (.ref sl) "slice":=⟨os,hos,hcs⟩
  unfold getItem
  try with_reducible refine wpAny_holding ?_
  first | refine wpAny_bind (wpAny_pure ?_) | skip
  refine wpAny_bind (wpAny_sequenceKey ht.typeIs (by decide) ?_)
  refine wpAny_bind (wpAny_callSpecial?_slot (name:=Str.ofString "__getitem__") ht.typeIs PyProof.Rows.slot_tuple_getitem
    (wpAny_call_entry PyProof.Rows.slot_tuple_getitem ht.typeIs entry_tuple_getitem ?_ (args_tuple_getitem _ _)))
  show wpAny _ _ (Builtin.Tuple.tupleItemsOf (.ref t) >>= _) _ _ s
  refine wpAny_bind (tupleItemsOf_ ht ?_)
  refine wpAny_bind (wpAny_typeOf hTs ?_)
  rw [if_pos (by decide)]
  refine wpAny_bind (gG hs pl pu ?_)
  have hno:(((sIx items.size 0 lo:Nat):Int)==0&&(1:Int)==1&&(sIx items.size items.size hi - sIx items.size 0 lo)==items.size)=true:=by
    rw [hw.1,hw.2];simp
  show wpAny _ _ (if (((sIx items.size 0 lo:Nat):Int)==0&&(1:Int)==1&&(sIx items.size items.size hi - sIx items.size 0 lo)==items.size)=true then _ else _) _ _ s
  rw [if_pos hno]
  unfold Builtin.Tuple.tupleIsExact
  refine wpAny_bind (wpAny_bind (wpAny_typeOf ht.typeIs (wpAny_pure ?_)))
  rw [if_pos (by decide)]
  exact wpAny_bind (wpAny_rule (wpAny_pure ⟨_,rfl,wpAny_pure h⟩))
end
end HT
namespace L2
open PySem PySem.Spec PyProof.Rows
section
variable{X:Cx}{K:PySem.W.Frag}{a:Expr}{fa:FE}{lo hi:Option Expr}{pos p2:Pos}
def cutD(xs:List PyData)(lo hi:Option Int):List PyData:=(xs.drop (HT.sIx xs.length 0 lo)).take (HT.sIx xs.length xs.length hi - HT.sIx xs.length 0 lo)
def DZ(K:PySem.W.Frag):V→Option Int→Option Int→Hp→VK→Prop:=fun x lo hi H Q=>∃a xs,x=.ref a∧cD K H a xs∧
  (HT.sIx xs.length 0 lo=0∧HT.sIx xs.length xs.length hi=xs.length)∧Q (.ref a) H
theorem zP:yq X (DZ X.K):=by
  intro pins s σ H x v vl vu lo hi sl Q I rx hs pl pu h
  obtain⟨a,xs,rfl,hx,hw,q⟩:=h
  cases rx
  obtain⟨its,r,ht,hz⟩:=I.tuple hx
  have hlen:its.toArray.size=xs.length:=by rw [List.size_toArray];exact r.length.symm
  refine⟨"tuple",_,PyProof.Rows.slot_tuple_getitem.lookup,ht.typeIs,?_⟩
  exact HT.getItem_tuple_all ht hs pl pu (by rw [hlen];exact hw) ⟨.ref a,H,I,rfl,q⟩
def E_(K:PySem.W.Frag):V→Option Int→Option Int→Hp→VK→Prop:=fun x lo hi H Q=>DY K x lo hi H Q∨(DZ K x lo hi H Q∨DX K x lo hi H Q)
theorem Fc:yq X (E_ X.K):=Ci.or (zP.or zO)
abbrev FO:=En→Option (Option Int × En)
def fO(K:PySem.W.Frag)(f:FO):TO:=fun σ H Q=>∃F e o e',a9 K F H σ e∧f e=some (o,e')∧∀F' H',dS σ F H e F' H' e'→a9 K F' H' σ e'→Q o H'
theorem PO.mono{e:Option Expr}{t t':TO}(h:PO X e t)(m:∀σ H Q,t' σ H Q→t σ H Q):PO X e t':=fun pins s σ H Q I q=>h pins s σ H Q I (m σ H Q q)
def dc:FO:=fun e=>some (none,e)
def cW(f:FE):FO:=fun e=>(f e).bind fun p=>(c9 p.1).map fun i=>(some i,p.2)
theorem hE:PO X none (fO K dc):=zw.mono fun σ H Q h=>by
  obtain⟨F,e,o,e',R,hf,q⟩:=h
  cases hf
  exact q F H (dS.refl _ _ _ _) R
theorem hG(h:PE X a (fE K fa)):PO X (some a) (fO K (cW fa)):=(zx h).mono fun σ H Q h=>by
  obtain⟨F,e,o,e',R,hf,q⟩:=h
  unfold cW at hf
  obtain⟨⟨x,e1⟩,h1,hf⟩:=Option.bind_eq_some_iff.mp hf
  obtain⟨i,h2,hf⟩:=Option.map_eq_some_iff.mp hf
  cases hf
  exact⟨F,e,x,_,R,h1,fun F1 H1 v X1 R1 A1=>⟨i,c_ A1 h2,q F1 H1 X1 R1⟩⟩
def EQ(e:En)(x:Rv)(lo hi:Option Int):Option Rv:=(eR e x).map fun p=>if p.1=true then .l (cutD p.2 lo hi) else .d (.tuple (cutD p.2 lo hi))
def mT(fa:FE)(fl fh:FO):FE:=fun e=>(fa e).bind fun p=>(fl p.2).bind fun l=>(fh l.2).bind fun h=>(EQ h.2 p.1 l.1 h.1).map fun z=>(z,h.2)
theorem vE{F:Hp}{ds:List PyData}{vs:List V}(h:aP K F ds vs)(lo hi:Option Int):aP K F (cutD ds lo hi) (mZ vs lo hi):=by
  unfold cutD mZ
  rw [h.len]
  exact(h.drop _).take _
theorem yy{α:Type}{xs:List α}{lo hi:Option Int}(h:HT.sIx xs.length 0 lo=0∧HT.sIx xs.length xs.length hi=xs.length):(xs.drop (HT.sIx xs.length 0 lo)).take (HT.sIx xs.length xs.length hi - HT.sIx xs.length 0 lo)=xs:=by
  rw [h.1,h.2];simp
theorem xw{fl fh:FO}(he:PE X a (fE X.K fa))(hl:PO X lo (fO X.K fl))(hh:PO X hi (fO X.K fh)):PE X (.Subscript a (.Slice lo hi none p2) pos) (fE X.K (mT fa fl fh)):=(wY Fc he hl hh).mono fun σ H Q h=>by
  obtain⟨F,e,z,e',R,hf,q⟩:=h
  unfold mT at hf
  obtain⟨⟨x,e1⟩,h1,hf⟩:=Option.bind_eq_some_iff.mp hf
  obtain⟨⟨l,e2⟩,h2,hf⟩:=Option.bind_eq_some_iff.mp hf
  obtain⟨⟨u,e3⟩,h3,hf⟩:=Option.bind_eq_some_iff.mp hf
  obtain⟨z',h4,hf⟩:=Option.map_eq_some_iff.mp hf
  cases hf
  refine⟨F,e,x,e1,R,h1,fun F1 H1 v X1 R1 A1=>⟨F1,e1,l,e2,R1,h2,fun F2 H2 X2 R2=>⟨F2,e2,u,_,R2,h3,fun F3 H3 X3 R3=>?_⟩⟩⟩
  have X12:=X1.trans X2
  have X13:=X12.trans X3
  have A3:=(A1.ext X2).ext X3
  unfold EQ at h4
  obtain⟨⟨b,xs⟩,h5,h4⟩:=Option.map_eq_some_iff.mp h4
  obtain⟨p,vs,rfl,d1,s1⟩:=en R3 A3 h5
  cases b with
  | true=>
    rw [if_pos rfl] at h4;cases h4
    refine .inr (.inr ⟨p,vs,rfl,s1,fun t ht=>?_⟩)
    obtain⟨R4,X4,hF,no⟩:=R3.newL (vs:=mZ vs l u) ht
    exact q _ _ _ (X13.trans X4) R4 ⟨t,_,rfl,X13.dom _ ht,hF,aG,vE d1 l u,no⟩
  | false=>
    rw [if_neg (by simp)] at h4;cases h4
    by_cases hw:HT.sIx vs.length 0 l=0∧HT.sIx vs.length vs.length u=vs.length
    · refine .inr (.inl ⟨p,vs,rfl,s1,hw,?_⟩)
      have e5:cutD xs l u=xs:=by unfold cutD;exact yy (by rw [d1.len];exact hw)
      rw [e5] at q
      obtain⟨F4,R4,X4,hF⟩:=R3.growT (aw.refl _) s1
      exact q _ _ _ (X13.trans X4) R4 (dr.mpr ⟨p,vs,rfl,hF,d1.mono X4.sf⟩)
    · refine .inl ⟨p,vs,rfl,s1,hw,fun t ht=>?_⟩
      obtain⟨R4,X4⟩:=R3.newT (vs:=mZ vs l u) ht
      exact q _ _ _ (X13.trans X4) R4 (dr.mpr ⟨t,_,rfl,.inl (.inl aG),(vE d1 l u).mono X4.sf⟩)
end
section
variable{X:Cx}{K:PySem.W.Frag}
theorem pw{σ:L2.St}{H0 F H:Hp}{e:En}{x:Rv}{vs:List V}(h:dH K σ H0 F H e [x] vs):∃v,vs=[v]∧cw K σ H0 F H e x v:=by
  obtain⟨v,ws,rfl,h1,h2⟩:=h
  have h2':ws=[]:=h2
  subst h2'
  exact⟨v,rfl,h1⟩
theorem pz{σ:L2.St}{H0 F H:Hp}{e:En}{x y:Rv}{vs:List V}(h:dH K σ H0 F H e [x,y] vs):∃v u,vs=[v,u]∧cw K σ H0 F H e x v∧cw K σ H0 F H e y u:=by
  obtain⟨v,ws,rfl,h1,h2⟩:=h
  obtain⟨u,rfl,h3⟩:=pw h2
  exact⟨v,u,rfl,h1,h3⟩
def g1(g:En→Rv→Option Rv):En→List Rv→Option Rv:=fun e xs=>match xs with
  | [x]=>g e x
  | _=>none
def g2(g:En→Rv→Rv→Option Rv):En→List Rv→Option Rv:=fun e xs=>match xs with
  | [x,y]=>g e x y
  | _=>none
theorem gR{r:List V→Hp→VK→Prop}{g:En→Rv→Option Rv}(h:CW K (fun v H Q=>r [v] H Q) g):dW K r (g1 g):=by
  intro σ H0 F H e xs z vs Q R A hg q
  unfold g1 at hg
  match xs,hg with
  | [x],hg=>
    obtain⟨v,rfl,h1⟩:=pw A
    exact h σ H0 F H e x z v Q R h1 hg q
theorem sQ{r:List V→Hp→VK→Prop}{g:En→Rv→Rv→Option Rv}(h:fR K (fun v u H Q=>r [v,u] H Q) g):dW K r (g2 g):=by
  intro σ H0 F H e xs z vs Q R A hg q
  unfold g2 at hg
  match xs,hg with
  | [x,y],hg=>
    obtain⟨v,u,rfl,h1,h2⟩:=pz A
    exact h σ H0 F H e x y z v u Q R h1 h2 hg q
def ip:En→Rv→Option Rv:=fun e x=>(eR e x).map fun p=>.d (.int p.2.length)
theorem Dp:dW K (fun xs H Q=>∃p ys,xs=[.ref p]∧(dg K H p ys∨cD K H p ys)∧Q (.int ys.length) H) (g1 ip):=gR fun σ H0 F H e x z v Q R A hg q=>by
  obtain⟨⟨b,xs⟩,h5,h4⟩:=Option.map_eq_some_iff.mp hg
  obtain⟨p,vs,rfl,d1,s1⟩:=en R A h5
  cases h4
  refine⟨p,vs,rfl,?_,?_⟩
  · cases b with
    | true=>exact .inl s1
    | false=>exact .inr s1
  · rw [←d1.len]
    exact q F H _ (dS.refl _ _ _ _) R mC
def rp:En→Rv→Option Rv:=fun _ x=>(c9 x).map fun i=>.d (.int (if i < 0 then -i else i))
theorem CZ:dW K (fun xs H Q=>∃i,xs=[.int i]∧Q (.int (if i < 0 then -i else i)) H) (g1 rp):=gR fun σ H0 F H e x z v Q R A hg q=>by
  obtain⟨i,h5,h4⟩:=Option.map_eq_some_iff.mp hg
  cases h4
  exact⟨i,by rw [c_ A h5],q F H _ (dS.refl _ _ _ _) R mC⟩
def p6:En→Rv→Option Rv:=fun _ x=>match x with
  | .d (.int i)=>some (.d (.int i))
  | .d (.bool k)=>some (.d (.int (if k then 1 else 0)))
  | _=>none
theorem Df:dW K (fun xs H Q=>(∃i,xs=[.int i]∧Q (.int i) H)∨∃k,xs=[.bl k]∧Q (.int (if k then 1 else 0)) H) (g1 p6):=gR fun σ H0 F H e x z v Q R A hg q=>by
  unfold p6 at hg
  split at hg
  · cases hg
    exact .inl ⟨_,by rw [dn.mp (show DA K F (.int _) v from A)],q F H _ (dS.refl _ _ _ _) R mC⟩
  · cases hg
    exact .inr ⟨_,by rw [dh.mp (show DA K F (.bool _) v from A)],q F H _ (dS.refl _ _ _ _) R mC⟩
  · cases hg
def wa:=gI (fun _ _=>true) fun i j=>.int (if j < i then j else i)
def rE:=gI (fun _ _=>true) fun i j=>.int (if j > i then j else i)
theorem Ds:dW K (fun xs H Q=>∃i j,xs=[.int i,.int j]∧Q (.int (if j < i then j else i)) H) (g2 wa):=sQ fun σ H0 F H e x y z v u Q R A B hg q=>by
  obtain⟨i,j,h1,h2,h3⟩:=jn (K:=K) (g:=fun i j=>.int (if j < i then j else i)) (fun _ _ _=>dn.mpr rfl) σ H0 F H e x y z v u Q R A B hg q
  exact⟨i,j,by rw [h1,h2],h3⟩
theorem Dr:dW K (fun xs H Q=>∃i j,xs=[.int i,.int j]∧Q (.int (if j > i then j else i)) H) (g2 rE):=sQ fun σ H0 F H e x y z v u Q R A B hg q=>by
  obtain⟨i,j,h1,h2,h3⟩:=jn (K:=K) (g:=fun i j=>.int (if j > i then j else i)) (fun _ _ _=>dn.mpr rfl) σ H0 F H e x y z v u Q R A B hg q
  exact⟨i,j,by rw [h1,h2],h3⟩
def eF:En→Rv→Option Rv:=fun e x=>(eR e x).map fun p=>.d (.tuple p.2)
theorem zY:dW K (fun xs H Q=>∃p ys,xs=[.ref p]∧((dg K H p ys∧∀l,H l=none→Q (.ref l) (a_ H l (.tup ys)))∨(cD K H p ys∧Q (.ref p) H))) (g1 eF):=gR fun σ H0 F H e x z v Q R A hg q=>by
  obtain⟨⟨b,xs⟩,h5,h4⟩:=Option.map_eq_some_iff.mp hg
  obtain⟨p,vs,rfl,d1,s1⟩:=en R A h5
  cases h4
  refine⟨p,vs,rfl,?_⟩
  cases b with
  | true=>
    refine .inl ⟨s1,fun t ht=>?_⟩
    obtain⟨R4,X4⟩:=R.newT (vs:=vs) ht
    exact q _ _ _ X4 R4 (dr.mpr ⟨t,_,rfl,.inl (.inl aG),d1.mono X4.sf⟩)
  | false=>
    obtain⟨F4,R4,X4,hF⟩:=R.growT (aw.refl _) s1
    exact .inr ⟨s1,q _ _ _ X4 R4 (dr.mpr ⟨p,vs,rfl,hF,d1.mono X4.sf⟩)⟩
def nB:En→Rv→Option Rv:=fun e x=>(eR e x).map fun p=>.l p.2
theorem Bi:dW K (fun xs H Q=>∃p ys,xs=[.ref p]∧(dg K H p ys∨cD K H p ys)∧∀l,H l=none→Q (.ref l) (a_ H l (.lst ys))) (g1 nB):=gR fun σ H0 F H e x z v Q R A hg q=>by
  obtain⟨⟨b,xs⟩,h5,h4⟩:=Option.map_eq_some_iff.mp hg
  obtain⟨p,vs,rfl,d1,s1⟩:=en R A h5
  cases h4
  refine⟨p,vs,rfl,?_,fun t ht=>?_⟩
  · cases b with
    | true=>exact .inl s1
    | false=>exact .inr s1
  · obtain⟨R4,X4,hF,no⟩:=R.newL (vs:=vs) ht
    exact q _ _ _ X4 R4 ⟨t,_,rfl,ht,hF,aG,d1,no⟩
def kg:List PyData→Option (List Bool)
  | []=>some []
  | .bool i::r=>(kg r).map (i::·)
  | _=>none
theorem kh:∀{ds:List PyData} {ns:List Bool},kg ds=some ns→ds=ns.map .bool
  | [],_,h=>by cases h;rfl
  | .bool i::r,_,h=>by
    obtain⟨ns,h1,rfl⟩:=Option.map_eq_some_iff.mp h
    rw [kh h1];rfl
def gh(g:List PyData→Option PyData):En→Rv→Option Rv:=fun e x=>match eR e x with
  | some (true,xs)=>(g xs).map .d
  | _=>none
theorem xU{r:List V→Hp→VK→Prop}{g:List PyData→Option PyData}(h:∀(F H:Hp) (p:Addr) (xs:List PyData) (vs:List V) (d:PyData) (Q:VK),aP K F xs vs→dg K H p vs→g xs=some d→(∀v,(∀F,DA K F d v)→Q v H)→r [.ref p] H Q):dW K r (g1 (gh g)):=gR fun σ H0 F H e x z v Q R A hg q=>by
  unfold gh at hg
  split at hg
  case h_2=>cases hg
  case h_1 xs h5=>
  obtain⟨p,vs,rfl,d1,s1⟩:=en R A h5
  obtain⟨d,h6,hg⟩:=Option.map_eq_some_iff.mp hg
  cases hg
  exact h F H p xs vs d Q d1 s1 h6 fun v hv=>q F H v (dS.refl _ _ _ _) R (hv F)
def nv:List PyData→Option PyData:=fun xs=>(kg xs).map fun ns=>.bool (ns.all id)
def pZ:List PyData→Option PyData:=fun xs=>(kg xs).map fun ns=>.bool (ns.any id)
theorem C1:dW K (fun xs H Q=>∃(l:Addr) (bs:List Bool),xs=[.ref l]∧dg K H l (bs.map V.bl)∧Q (.bl (bs.all id)) H) (g1 (gh nv)):=xU fun F H p xs vs d Q d1 s1 hg q=>by
  obtain⟨ns,h1,h2⟩:=Option.map_eq_some_iff.mp hg
  cases h2
  rw [kh h1] at d1
  rw [aP.bools.mp d1] at s1
  exact⟨p,ns,rfl,s1,q _ fun _=>dh.mpr rfl⟩
theorem C2:dW K (fun xs H Q=>∃(l:Addr) (bs:List Bool),xs=[.ref l]∧dg K H l (bs.map V.bl)∧Q (.bl (bs.any id)) H) (g1 (gh pZ)):=xU fun F H p xs vs d Q d1 s1 hg q=>by
  obtain⟨ns,h1,h2⟩:=Option.map_eq_some_iff.mp hg
  cases h2
  rw [kh h1] at d1
  rw [aP.bools.mp d1] at s1
  exact⟨p,ns,rfl,s1,q _ fun _=>dh.mpr rfl⟩
mutual
def gf:PyData→Bool
  | .tuple ds=>iQ ds
  | .list _=>false
  | .dict _=>false
  | _=>true
def iQ:List PyData→Bool
  | []=>true
  | d::r=>gf d&&iQ r
end
mutual
def fm:PyData→Bool
  | .list _=>false
  | .tuple ds=>eC ds
  | _=>true
def eC:List PyData→Bool
  | []=>true
  | d::r=>fm d&&eC r
end
theorem mB{h:Heap}:∀{m:List (Int × Int)} {es:List DictEntry} {vs:List (fU × Value)} {P:Program} {w:World},KV (m.map fun p=>((Sum.inl p.1:fU),V.int p.2)) vs→Pairs (dN P w) es vs→
    ReadsAll h (es.map (·.key)) (m.map fun p=>PyData.int p.1) []∧ReadsAll h (es.map (·.val)) (m.map fun p=>PyData.int p.2) []
  | [],es,vs,P,w,r,q=>by
    cases r
    cases q
    exact⟨.nil,.nil⟩
  | p::m,es,vs,P,w,r,q=>by
    rw [List.map_cons] at r
    cases r with
    | @cons a b as bs h1 t=>
      cases q with
      | @cons e kv es' kvs' h2 h3 h4=>
        obtain⟨z1,z2⟩:=h1
        obtain⟨c1,c2⟩:=mB t h4
        obtain⟨tk,z2⟩:=z2
        have k1:l8 (Sum.inl p.1) e.key=true:=by
          have:b.1=Sum.inl p.1:=z1.symm
          rw [←this];exact h2
        rcases bI k1 with ⟨i,t',e1,e2⟩ | ⟨x,t',e1,e2⟩
        · cases e1
          refine⟨?_,?_⟩
          · simp only [List.map_cons,e2]
            exact ReadsAll.cons (as:=[]) (bs:=[]) (.int p.1 t') c1
          · simp only [List.map_cons,h3,z2]
            exact ReadsAll.cons (as:=[]) (bs:=[]) (.int p.2 tk) c2
        · cases e1
mutual
theorem DA.readsR{X:Cx}{pins:List (Addr × Obj)}{σ:L2.St}{H:Hp}{s:Shared}(I:aF X pins σ H s):∀{d:PyData} {v:V} {u:Value},DA X.K H d v→bD v u→∃as,Reads s.heap u d as∧(fm d=true→sysModules∉as)
  | .none,_,_,q,r=>by
    simp only [DA] at q;subst q;cases r;exact⟨_,.none,fun _=>by simp⟩
  | .bool b,_,_,q,r=>by
    simp only [DA] at q;subst q;cases r;exact⟨_,.bool b,fun _=>by simp⟩
  | .int i,_,_,q,r=>by
    simp only [DA] at q;subst q;obtain⟨t,rfl⟩:=r;exact⟨_,.int i t,fun _=>by simp⟩
  | .str x,_,_,q,r=>by
    simp only [DA] at q;subst q;obtain⟨t,rfl⟩:=r;exact⟨_,.str x t,fun _=>by simp⟩
  | .tuple ds,_,_,q,r=>by
    simp only [DA] at q
    obtain⟨a,xs,e,hs,rr⟩:=q
    subst e;cases r
    obtain⟨its,rv,⟨o,ho,hc,n,hd⟩,hz⟩:=I.tuple hs
    obtain⟨as,q,z⟩:=aP.readsR I rr rv
    exact⟨_,.tuple ho hc hd q,fun c=>z (by simpa [fm] using c)⟩
  | .list ds,_,_,q,r=>by
    simp only [DA] at q
    obtain⟨a,xs,e,hs,rr⟩:=q
    subst e;cases r
    obtain⟨its,rv,ht,hz⟩:=I.list hs
    obtain⟨o,ho,hc,n,hd⟩:=ht.isList
    obtain⟨as,q,z⟩:=aP.readsR I rr rv
    exact⟨_,.list ho hc hd q,fun c=>by simp [fm] at c⟩
  | .dict kvs,_,_,q,r=>by
    simp only [DA] at q
    obtain⟨a,m,e,hs,rfl⟩:=q
    subst e;cases r
    obtain⟨_,hS,vs,kv,o,es,ep,ho,hx,hd,_,hp,_⟩:=(show cY X.prog X.w H s.heap a (.dK (m.map fun p=>(Sum.inl p.1,V.int p.2))) from I.hok a _ hs)
    obtain⟨c1,c2⟩:=mB (h:=s.heap) kv hp
    refine⟨_,Reads.dict (as:=[]) (bs:=[]) ho hx.1 hd ?_ ?_,fun _=>?_⟩
    · rw [List.map_map];exact c1
    · rw [List.map_map];exact c2
    · have:a≠sysModules:=by simpa using hS
      simpa using this.symm
theorem aP.readsR{X:Cx}{pins:List (Addr × Obj)}{σ:L2.St}{H:Hp}{s:Shared}(I:aF X pins σ H s):∀{ds:List PyData} {xs:List V} {us:List Value},aP X.K H ds xs→aS xs us→∃as,ReadsAll s.heap us ds as∧(eC ds=true→sysModules∉as)
  | [],_,_,q,r=>by
    simp only [aP] at q;subst q;cases r;exact⟨_,.nil,fun _=>by simp⟩
  | d::ds,_,_,q,r=>by
    simp only [aP] at q
    obtain⟨x,rr,e,a,b⟩:=q
    subst e
    cases r with
    | cons p p'=>
      obtain⟨as,q1,z1⟩:=DA.readsR I a p
      obtain⟨bs,q2,z2⟩:=aP.readsR I b p'
      refine⟨_,.cons q1 q2,fun c=>?_⟩
      simp only [eC,Bool.and_eq_true] at c
      intro z
      rcases List.mem_append.mp z with z | z
      · exact z1 c.1 z
      · exact z2 c.2 z
end
def j8(d:PyData):Bool:=(gf d || (!d.hasDict || fm d))&&d.showable&&decide (d.depth≤60)&&decide (d.shown.length≤sizeLine)
def lc:En→Rv→Option Rv:=fun _ x=>match x with
  | .d d=>if j8 d=true then some (.d (.str d.shown)) else none
  | _=>none
def xF(K:PySem.W.Frag):List V→Hp→VK→Prop:=fun xs H Q=>∃x d,xs=[x]∧DA K H d x∧(d.hasDict=true→fm d=true)∧d.showable=true∧d.depth≤60∧d.shown.length≤sizeLine∧Q (.str d.shown) H
mutual
theorem fB:∀(d:PyData),gf d=true→d.hasDict=false
  | .none,_=>rfl
  | .bool _,_=>rfl
  | .int _,_=>rfl
  | .str _,_=>rfl
  | .tuple ds,h=>by simp only [PyData.hasDict];exact jF ds (by simpa [gf] using h)
  | .list ds,h=>by simp [gf] at h
  | .dict _,h=>by simp [gf] at h
theorem jF:∀(ds:List PyData),iQ ds=true→PyData.hasDictAll ds=false
  | [],_=>rfl
  | d::r,h=>by
    simp only [iQ,Bool.and_eq_true] at h
    simp only [PyData.hasDictAll,fB d h.1,jF r h.2,Bool.or_self]
end
theorem rl{X:Cx}{k:Nat}(hr:cZ k X.A):et X (.builtin "repr") (xF X.K):=by
  intro pins s σ H xs us Q I r h
  obtain⟨x,d,rfl,ha,hdl,hsh,hdp,hsz,q⟩:=h
  obtain⟨u,rfl,ru⟩:∃u,us=[u]∧bD x u:=by
    cases r with
    | cons p p'=>cases p';exact⟨_,rfl,p⟩
  have hun:=hr.un
  obtain⟨as,rd,hm⟩:=DA.readsR I ha ru
  have fin:∀a,u=.ref a→wpAny (model X.prog X.w) X.A (call (.builtin "repr") [u]) (EP X pins σ Q) X.xe s:=fun a e=>by
    subst e
    exact repr_of_reads' rd hsh (fun z=>hm (hdl z)) hr.gd (by lia) (fun _ _ e=>e) (fun h' u tk hk=>⟨.str _,H,I.kept hk,⟨_,rfl⟩,q⟩) hsz
  cases d with
  | none=>simp only [DA] at ha;subst ha;cases ru;exact P.repr_of_none ⟨.str _,H,I.tok _,⟨_,rfl⟩,q⟩
  | bool b=>simp only [DA] at ha;subst ha;cases ru;exact P.repr_of_bool ⟨.str _,H,I.tok _,⟨_,rfl⟩,q⟩
  | int i=>
    simp only [DA] at ha;subst ha;obtain⟨t,rfl⟩:=ru
    simp only [PyData.showable,decide_eq_true_eq] at hsh
    exact P.repr_of_int hsh ⟨.str _,H,I.tok _,⟨_,rfl⟩,q⟩
  | str y=>simp only [DA] at ha;subst ha;obtain⟨t,rfl⟩:=ru;exact P.repr_of_str ⟨.str _,H,I.tok _,⟨_,rfl⟩,q⟩ hsz
  | list ds=>obtain⟨a,_,e,_⟩:=dq.mp ha;subst e;exact fin a ru
  | dict ds=>simp only [DA] at ha;obtain⟨a,_,e,_⟩:=ha;subst e;exact fin a ru
  | tuple ds=>obtain⟨a,_,e,_⟩:=dr.mp ha;subst e;exact fin a ru
theorem Cd:dW K (xF K) (g1 lc):=gR fun σ H0 F H e x z v Q R A hg q=>by
  unfold lc at hg
  split at hg
  case h_2=>cases hg
  case h_1 d=>
  split at hg
  case isFalse=>cases hg
  case isTrue hl=>
  cases hg
  unfold j8 at hl
  rw [Bool.and_eq_true,Bool.and_eq_true,Bool.and_eq_true,decide_eq_true_iff,decide_eq_true_iff] at hl
  refine⟨v,d,rfl,DA.mono R.sm A,fun z=>?_,hl.1.1.2,hl.1.2,hl.2,q F H _ (dS.refl _ _ _ _) R ((oH (K:=K) (F:=F)).mpr rfl)⟩
  have c:=hl.1.1.1
  cases hf:gf d with
  | true=>rw [fB d hf] at z;cases z
  | false=>rw [hf,z] at c;simpa using c
end
end L2
namespace L2
open PySem PySem.Spec PyProof.Rows
section
variable{K:PySem.W.Frag}{σ:L2.St}{H0 F H F' H':Hp}{e e':En}
theorem a9.upd1(R:a9 K F H σ e){σ':L2.St}(i:Nat)(hl:σ'.length=e'.length)(hσ:∀j,j≠i→σ'[j]?=σ[j]?)(he:∀j,j≠i→e'[j]?=e[j]?)(sF:aw F F')(sm:aw F' H')(hf:∀j a,j≠i→Fp σ e H j a→F' a=none)
    (hh:∀j a o,j≠i→Fp σ e H j a→H a=some o→H' a=some o)(hd:∀x,e'[i]?=some (some (.d x))→∃v,σ'[i]?=some (some v)∧DA K F' x v)
    (ho:∀xs,e'[i]?=some (some (.l xs))→∃l vs,σ'[i]?=some (some (.ref l))∧F' l=none∧H' l=some (.lst vs)∧aP K F' xs vs)
    (hn:∀xss,e'[i]?=some (some (.n xss))→∃(l:Addr) (bs:List Addr),σ'[i]?=some (some (.ref l))∧F' l=none∧H' l=some (.lst (bs.map V.ref))∧bs.length=xss.length∧bs.Nodup∧l∉bs∧
      ∀(k:Nat) (b:Addr) (ys:List PyData),bs[k]?=some b→xss[k]?=some ys→F' b=none∧∃us,H' b=some (.lst us)∧aP K F' ys us)
    (hi:∀a j,j≠i→Fp σ' e' H' i a→¬Fp σ e H j a):a9 K F' H' σ' e'∧∀j a,j≠i→(Fp σ' e' H' j a↔ Fp σ e H j a):=by
  have fs:∀j a,j≠i→(Fp σ' e' H' j a↔ Fp σ e H j a):=by
    intro j a hj
    have key:∀xss l,e[j]?=some (some (.n xss))→σ[j]?=some (some (.ref l))→H' l=H l:=fun xss l h1 h2=>by
      obtain⟨l',bs,g1,g2,g3,_⟩:=R.nst j xss h1
      rw [h2] at g1;cases g1
      rw [g3]
      exact hh j l _ hj (.inr ⟨xss,l,bs,h1,h2,g3,.inl rfl⟩) g3
    unfold Fp
    rw [he j hj,hσ j hj]
    constructor
    · rintro(h1 | ⟨xss,l,bs,h1,h2,h3,h4⟩)
      · exact .inl h1
      · exact .inr ⟨xss,l,bs,h1,h2,by rw [←key xss l h1 h2];exact h3,h4⟩
    · rintro(h1 | ⟨xss,l,bs,h1,h2,h3,h4⟩)
      · exact .inl h1
      · exact .inr ⟨xss,l,bs,h1,h2,by rw [key xss l h1 h2];exact h3,h4⟩
  refine⟨⟨sm,hl,fun j x q=>?_,fun j xs q=>?_,fun j xss q=>?_,fun j k a q1 q2=>?_⟩,fs⟩
  · by_cases z:j=i
    · subst z;exact hd x q
    · rw [he j z] at q
      obtain⟨v,h1,h2⟩:=R.dat j x q
      exact⟨v,by rw [hσ j z];exact h1,DA.mono sF h2⟩
  · by_cases z:j=i
    · subst z;exact ho xs q
    · rw [he j z] at q
      obtain⟨l,vs,h1,h2,h3,h4⟩:=R.own j xs q
      have o:Fp σ e H j l:=.inl ⟨xs,q,h1⟩
      exact⟨l,vs,by rw [hσ j z];exact h1,hf j l z o,hh j l _ z o h3,h4.mono sF⟩
  · by_cases z:j=i
    · subst z;exact hn xss q
    · rw [he j z] at q
      obtain⟨l,bs,h1,h2,h3,h4,h5,h6,h7⟩:=R.nst j xss q
      have o:Fp σ e H j l:=.inr ⟨xss,l,bs,q,h1,h3,.inl rfl⟩
      refine⟨l,bs,by rw [hσ j z];exact h1,hf j l z o,hh j l _ z o h3,h4,h5,h6,fun k b ys g1 g2=>?_⟩
      obtain⟨c1,us,c2,c3⟩:=h7 k b ys g1 g2
      have ob:Fp σ e H j b:=.inr ⟨xss,l,bs,q,h1,h3,.inr (List.mem_of_getElem? g1)⟩
      exact⟨hf j b z ob,us,hh j b _ z ob c2,c3.mono sF⟩
  · by_cases zj:j=i
    · subst zj
      by_cases zk:k=j
      · exact zk.symm
      · exact absurd ((fs k a zk).mp q2) (hi a k zk q1)
    · by_cases zk:k=i
      · subst zk
        exact absurd ((fs j a zj).mp q1) (hi a j zj q2)
      · exact R.fp j k a ((fs j a zj).mp q1) ((fs k a zk).mp q2)
theorem a9.putL(R:a9 K F H σ e){i:Nat}{xs ys:List PyData}{l:Addr}{vs:List V}(hi:e[i]?=some (some (.l xs)))(hl:σ[i]?=some (some (.ref l)))(hd:aP K F ys vs):
    a9 K F (a_ H l (.lst vs)) σ (e.set i (some (.l ys)))∧dS σ F H e F (a_ H l (.lst vs)) (e.set i (some (.l ys))):=by
  obtain⟨l',vs',h1,h2,h3,h4⟩:=R.own i xs hi
  rw [hl] at h1;cases h1
  have hlt:i < e.length:=(List.getElem?_eq_some_iff.mp hi).1
  have fi:Fp σ e H i l:=.inl ⟨xs,hi,hl⟩
  have gi:(e.set i (some (Sv.l ys)))[i]?=some (some (.l ys)):=List.getElem?_set_self hlt
  obtain⟨R',fs⟩:=R.upd1 (F':=F) (H':=a_ H l (.lst vs)) (e':=e.set i (some (.l ys))) i (by rw [List.length_set];exact R.len) (fun _ _=>rfl) (fun j hj=>List.getElem?_set_ne (Ne.symm hj)) (aw.refl F)
    (fun b o q=>by
      have z:b≠l:=fun z=>by rw [z,h2] at q;cases q
      rw [aI z];exact R.sm b o q)
    (fun j a _ q=>(R.fpAt q).1)
    (fun j a o hj q ha=>by
      have z:a≠l:=fun z=>hj (R.fp j i a q (by rw [z];exact fi))
      rw [aI z];exact ha)
    (fun x q=>by rw [gi] at q;cases q) (fun zs q=>by rw [gi] at q;cases q;exact⟨l,vs,hl,h2,aG,hd⟩) (fun xss q=>by rw [gi] at q;cases q)
    (fun a j hj q q2=>by
      rcases q with ⟨zs,_,q⟩ | ⟨xss,_,_,q,_⟩
      · rw [hl] at q;cases q
        exact hj (R.fp j i _ q2 fi)
      · rw [gi] at q;cases q)
  refine⟨R',⟨aw.refl _,fun a q=>?_,fun _ _ q _ _=>q,fun a ws q=>?_,fun a o q n=>?_,fun j=>?_,fun a ⟨j,q⟩=>?_⟩⟩
  · by_cases z:a=l
    · rw [z,aG] at q;cases q
    · rw [aI z] at q;exact q
  · by_cases z:a=l
    · rw [z];exact⟨vs,aG⟩
    · rw [aI z];exact⟨ws,q⟩
  · have z:a≠l:=fun z=>n ⟨i,by rw [z];exact fi⟩
    rw [aI z];exact q
  · by_cases z:j=i
    · subst z;rw [gi];exact⟨fun _=>⟨xs,hi⟩,fun _=>⟨ys,rfl⟩⟩
    · rw [List.getElem?_set_ne (Ne.symm z)]
  · by_cases z:j=i
    · subst z
      rcases q with ⟨zs,_,q⟩ | ⟨xss,_,_,q,_⟩
      · rw [hl] at q;cases q;exact .inl ⟨j,fi⟩
      · rw [gi] at q;cases q
    · exact .inl ⟨j,(fs j a z).mp q⟩
theorem a9.setD(R:a9 K F H σ e)(i:Nat){x:PyData}{v:V}(h:DA K F x v):a9 K F H (σ.set i (some v)) (e.set i (some (.d x)))∧∀a,d9 (σ.set i (some v)) (e.set i (some (.d x))) H a→d9 σ e H a:=by
  have gi:∀s,(e.set i (some (Sv.d x)))[i]?=some (some s)→s=.d x∧i < e.length:=fun s q=>by
    have hlt:i < e.length:=by have:=(List.getElem?_eq_some_iff.mp q).1;simpa using this
    rw [List.getElem?_set_self hlt] at q
    exact⟨(Option.some.inj (Option.some.inj q)).symm,hlt⟩
  have nofp:∀a,¬Fp (σ.set i (some v)) (e.set i (some (.d x))) H i a:=fun a q=>by
    rcases q with ⟨zs,q,_⟩ | ⟨xss,_,_,q,_⟩
    · cases (gi _ q).1
    · cases (gi _ q).1
  obtain⟨R',fs⟩:=R.upd1 (F':=F) (H':=H) (σ':=σ.set i (some v)) (e':=e.set i (some (.d x))) i (by rw [List.length_set,List.length_set];exact R.len) (fun j hj=>List.getElem?_set_ne (Ne.symm hj)) (fun j hj=>List.getElem?_set_ne (Ne.symm hj)) (aw.refl F) R.sm
    (fun j a _ q=>(R.fpAt q).1) (fun j a o _ _ ha=>ha)
    (fun y q=>by
      obtain⟨z,hlt⟩:=gi _ q
      cases z
      exact⟨v,List.getElem?_set_self (by rw [R.len];exact hlt),h⟩)
    (fun zs q=>by cases (gi _ q).1) (fun xss q=>by cases (gi _ q).1) (fun a j hj q=>absurd q (nofp a))
  refine⟨R',fun a ⟨j,q⟩=>?_⟩
  by_cases z:j=i
  · subst z;exact absurd q (nofp a)
  · exact⟨j,(fs j a z).mp q⟩
theorem a9.setL(R:a9 K F H σ e)(i:Nat){xs:List PyData}{l:Addr}{vs:List V}(h1:F l=none)(h2:H l=some (.lst vs))(h3:aP K F xs vs)(h4:¬d9 σ e H l):a9 K F H (σ.set i (some (.ref l))) (e.set i (some (.l xs)))∧∀a,d9 (σ.set i (some (.ref l))) (e.set i (some (.l xs))) H a→d9 σ e H a∨a=l:=by
  have gi:∀s,(e.set i (some (Sv.l xs)))[i]?=some (some s)→s=.l xs∧i < e.length:=fun s q=>by
    have hlt:i < e.length:=by have:=(List.getElem?_eq_some_iff.mp q).1;simpa using this
    rw [List.getElem?_set_self hlt] at q
    exact⟨(Option.some.inj (Option.some.inj q)).symm,hlt⟩
  have onefp:∀a,Fp (σ.set i (some (.ref l))) (e.set i (some (.l xs))) H i a→a=l:=fun a q=>by
    rcases q with ⟨zs,q,q2⟩ | ⟨xss,_,_,q,_⟩
    · obtain⟨_,hlt⟩:=gi _ q
      rw [List.getElem?_set_self (by rw [R.len];exact hlt)] at q2
      cases q2;rfl
    · cases (gi _ q).1
  obtain⟨R',fs⟩:=R.upd1 (F':=F) (H':=H) (σ':=σ.set i (some (.ref l))) (e':=e.set i (some (.l xs))) i (by rw [List.length_set,List.length_set];exact R.len) (fun j hj=>List.getElem?_set_ne (Ne.symm hj)) (fun j hj=>List.getElem?_set_ne (Ne.symm hj)) (aw.refl F) R.sm
    (fun j a _ q=>(R.fpAt q).1) (fun j a o _ _ ha=>ha) (fun y q=>by cases (gi _ q).1)
    (fun zs q=>by
      obtain⟨z,hlt⟩:=gi _ q
      cases z
      exact⟨l,vs,List.getElem?_set_self (by rw [R.len];exact hlt),h1,h2,h3⟩)
    (fun xss q=>by cases (gi _ q).1) (fun a j hj q q2=>h4 ⟨j,by rw [onefp a q] at q2;exact q2⟩)
  refine⟨R',fun a ⟨j,q⟩=>?_⟩
  by_cases z:j=i
  · subst z;exact .inr (onefp a q)
  · exact .inl ⟨j,(fs j a z).mp q⟩
end
section
variable{X:Cx}{K:PySem.W.Frag}{o a:Expr}{es:List Expr}{fo:FE}{fs:FA}{name:Str}{apos cpos:Pos}{id:String}
def sD(K:PySem.W.Frag)(r:V→List V→Hp→VK→Prop)(g:List PyData→List PyData→Option (PyData × List PyData)):Prop:=
  ∀(F H:Hp) (l:Addr) (xs ys ds:List PyData) (z:PyData) (vs us:List V) (Q:VK),F l=none→aw F H→H l=some (.lst vs)→aP K F xs vs→aP K F ds us→g xs ds=some (z,ys)→
    (∀w ws,DA K F z w→aP K F ys ws→Q w (a_ H l (.lst ws)))→r (.ref l) us H Q
def dZ(g:List PyData→List PyData→Option (PyData × List PyData))(fo:FE)(fs:FA):FE:=fun e=>(fo e).bind fun p=>match p.1 with
  | .s i=>(fs p.2).bind fun q=>(i4 q.1).bind fun ds=>match q.2[i]? with
    | some (some (.l xs))=>(g xs ds).map fun z=>(.d z.1,q.2.set i (some (.l z.2)))
    | _=>none
  | _=>none
theorem ye{r:V→List V→Hp→VK→Prop}{g:List PyData→List PyData→Option (PyData × List PyData)}(hm:sD K r g){σ:L2.St}{H:Hp}{Q:VK}(h:fE K (dZ g fo fs) σ H Q):FJ K "list" r (fE K fo) (fA K fs) σ H Q:=by
  obtain⟨F,e,z,e',R,hf,q⟩:=h
  unfold dZ at hf
  obtain⟨⟨x,e1⟩,h1,hf⟩:=Option.bind_eq_some_iff.mp hf
  match x,h1,hf with
  | .s i,h1,hf=>
  dsimp only at hf
  obtain⟨⟨rs,e2⟩,h2,hf⟩:=Option.bind_eq_some_iff.mp hf
  obtain⟨ds,h3,hf⟩:=Option.bind_eq_some_iff.mp hf
  refine⟨F,e,_,e1,R,h1,fun F1 H1 v X1 R1 A1=>?_⟩
  obtain⟨g1,zs,g2⟩:=A1
  obtain⟨l,vs,c1,c2,c3,c4⟩:=R1.own i zs g2
  rw [g1] at c1;cases c1
  refine⟨.inl ⟨rfl,vs,.inl (.inl c3)⟩,F1,e1,rs,e2,R1,h2,fun F2 H2 us X2 R2 A2=>?_⟩
  match h4:e2[i]?,hf with
  | some (some (.l xs)),hf=>
  dsimp only at hf
  obtain⟨⟨zd,ys⟩,h5,hf⟩:=Option.map_eq_some_iff.mp hf
  cases hf
  obtain⟨F3,R3,s3,d3,f3⟩:=dH.frozen R2 A2 h3
  obtain⟨l',vs',k1,k2,k3,k4⟩:=R3.own i xs h4
  rw [g1] at k1;cases k1
  refine hm F3 H2 l xs ys ds zd vs' us Q k2 R3.sm k3 k4 d3 h5 fun w ws hw hws=>?_
  obtain⟨R4,X4⟩:=R3.putL h4 g1 hws
  exact q _ _ _ ((X1.trans (X2.frz s3 f3)).trans X4) R4 hw
theorem Az{r:V→List V→Hp→VK→Prop}{g:List PyData→List PyData→Option (PyData × List PyData)}(slot:Slot "list" name id)(hty:typeOf (.builtin id)=pure (.type "method_descriptor"))(hm:Fv X id r)(hf:sD X.K r g)(ho:PE X o (fE X.K fo))(ha:PA X (a::es) (fA X.K fs))
    (hbase:attributeBase o name X.env (eval o X.env)=eval o X.env)
    (hfew:((backTo cpos (starEach (a::es) X.env)).all (fun x=> !x.1)&&(backToKw cpos (keywordEach [] X.env)).all (fun x=>x.1.isSome)
      &&decide ((a::es).length+([]:List Keyword).length+(if ([]:List Keyword).isEmpty then 0 else 1) < 30))=true)
    (hline:(apos.endLine==cpos.line)=true)(hs:starEach (a::es) X.env=(false,eval a X.env)::starEach es X.env)(hplain:(backTo cpos (starEach es X.env)).any (·.1)=false):
    PE X (.Call (.Attribute o name apos) (a::es) [] cpos) (fE X.K (dZ g fo fs)):=(DE PySem.F.plainAttrs_list slot hty hm ho ha hbase hfew hline hs hplain).mono fun _ _ _ h=>ye hf h
def cv:List PyData→List PyData→Option (PyData × List PyData):=fun xs ds=>match ds with
  | [d]=>if xs.length < 1000000 then some (.none,xs++[d]) else none
  | _=>none
theorem vd:sD K s_ cv:=by
  intro F H l xs ys ds z vs us Q hF sm hl d1 d2 hg q
  unfold cv at hg
  match ds,hg,d2 with
  | [d],hg,d2=>
    simp only [aP] at d2
    obtain⟨w,r,rfl,hw,rfl⟩:=d2
    dsimp only at hg
    split at hg
    case isFalse=>cases hg
    case isTrue hlt=>
    cases hg
    have:=d1.len
    have sl:sizeLine=16777216:=sizeLine_eq
    exact⟨l,vs,w,rfl,rfl,hl,by lia,q _ _ (gU.mpr rfl) (d1.append (aP.one hw))⟩
def Bj:List PyData→List PyData→Option (PyData × List PyData):=fun xs ds=>match ds with
  | []=>(xs[xs.length - 1]?).map fun d=>(d,xs.dropLast)
  | _=>none
def jl:List PyData→List PyData→Option (PyData × List PyData):=fun xs ds=>match ds with
  | [.int i]=>if 0≤i∧i < 1000000000 then(xs[i.toNat]?).map fun d=>(d,xs.eraseIdx i.toNat) else none
  | _=>none
theorem zy:sD K xD jl:=by
  intro F H l xs ys ds z vs us Q hF sm hl d1 d2 hg q
  unfold jl at hg
  match ds,hg,d2 with
  | [.int i],hg,d2=>
    simp only [aP,DA] at d2
    obtain⟨w,r,rfl,rfl,rfl⟩:=d2
    dsimp only at hg
    split at hg
    case isFalse=>cases hg
    case isTrue hlt=>
    obtain⟨d,h1,h2⟩:=Option.map_eq_some_iff.mp hg
    cases h2
    obtain⟨v,g1,g2⟩:=d1.get h1
    have hlt2:i.toNat < vs.length:=(List.getElem?_eq_some_iff.mp g1).1
    exact⟨l,vs,i,i.toNat,v,rfl,rfl,hl,by lia,by lia,seqIndex_of hlt.1 (by lia),g1,q _ _ g2 (d1.erase _)⟩
end
end L2
namespace L2
open PySem PySem.Spec PyProof.Rows
inductive Fl where
  | nx (e:En)
  | bk (e:En)
  | ct (e:En)
  | rt (r:Rv) (e:En)
abbrev FS:=En→Option Fl
structure dU (W:List Nat) (σ:L2.St) (F H:Hp) (e:En) (σ':L2.St) (F' H':Hp) (e':En):Prop where
  sf:aw F F'
  dom:∀a,H' a=none→H a=none
  fr:∀a vs,F a=none→H a=some (.lst vs)→¬d9 σ e H a→F' a=none
  lst:∀a vs,H a=some (.lst vs)→∃vs',H' a=some (.lst vs')
  tmp:∀a o,H a=some o→¬d9 σ e H a→H' a=some o
  own:∀a,d9 σ' e' H' a→d9 σ e H a∨H a=none
  wr:∀j,j∉W→σ'[j]?=σ[j]?
section
variable{K:PySem.W.Frag}{W W1 W2:List Nat}{σ σ1 σ2 σ':L2.St}{H0 F H F1 H1 F2 H2 F' H':Hp}{e e1 e2 e':En}
theorem dU.refl:dU W σ F H e σ F H e:=⟨aw.refl _,fun _ h=>h,fun _ _ h _ _=>h,fun _ vs h=>⟨vs,h⟩,fun _ _ h _=>h,fun _ h=>.inl h,fun _ _=>rfl⟩
theorem dS.s(x:dS σ F H e F' H' e'):dU W σ F H e σ F' H' e':=⟨x.sf,x.dom,x.fr,x.lst,x.tmp,x.ow,fun _ _=>rfl⟩
theorem dU.trans(x:dU W σ F H e σ1 F1 H1 e1)(y:dU W σ1 F1 H1 e1 σ2 F2 H2 e2):dU W σ F H e σ2 F2 H2 e2:=
  ⟨x.sf.trans y.sf,fun a h=>x.dom a (y.dom a h),fun a vs h n no=>let ⟨vs',q⟩:=x.lst a vs n;y.fr a vs' (x.fr a vs h n no) q (fun z=>(x.own a z).elim no fun z=>by rw [n] at z;cases z),fun a vs h=>let ⟨vs',q⟩:=x.lst a vs h;y.lst a vs' q,
    fun a o h n=>y.tmp a o (x.tmp a o h n) (fun z=>(x.own a z).elim n fun z=>by rw [h] at z;cases z),
    fun a h=>(y.own a h).elim (x.own a) (fun z=>.inr (x.dom a z)),
    fun j h=>(y.wr j h).trans (x.wr j h)⟩
theorem dU.mono(x:dU W1 σ F H e σ' F' H' e')(h:∀j,j∈W1→j∈W):dU W σ F H e σ' F' H' e':=⟨x.sf,x.dom,x.fr,x.lst,x.tmp,x.own,fun j n=>x.wr j fun z=>n (h j z)⟩
end
def lS(K:PySem.W.Frag)(W:List Nat)(σ:L2.St)(F H:Hp)(e:En)(D:rc):Fl→Prop
  | .nx e'=>∀F' H' σ',dU W σ F H e σ' F' H' e'→a9 K F' H' σ' e'→D.nx σ' H'
  | .bk e'=>∀F' H' σ',dU W σ F H e σ' F' H' e'→a9 K F' H' σ' e'→D.bk σ' H'
  | .ct e'=>∀F' H' σ',dU W σ F H e σ' F' H' e'→a9 K F' H' σ' e'→D.ct σ' H'
  | .rt r e'=>∀F' H' σ' v,dU W σ F H e σ' F' H' e'→a9 K F' H' σ' e'→cw K σ' H F' H' e' r v→D.rt v H'
def fS(K:PySem.W.Frag)(f:FS)(W:List Nat):TS:=fun D σ H=>∃F e fl,a9 K F H σ e∧f e=some fl∧lS K W σ F H e D fl
theorem PS.mono{X:Cx}{st:Stmt}{t t':TS}(h:PS X st t)(m:∀D σ H,t' D σ H→t D σ H):PS X st t':=fun pins s σ H D I q=>h pins s σ H D I (m D σ H q)
theorem lj.mono{X:Cx}{st:List Stmt}{t t':TS}(h:lj X st t)(m:∀D σ H,t' D σ H→t D σ H):lj X st t':=fun pins s σ H D I q=>h pins s σ H D I (m D σ H q)
theorem lS.later{K:PySem.W.Frag}{W W1 W2:List Nat}{σ σ1:L2.St}{F H F1 H1:Hp}{e e1:En}{D:rc}{fl:Fl}(h:lS K W σ F H e D fl)(x:dU W1 σ F H e σ1 F1 H1 e1)(h1:∀j,j∈W1→j∈W)(h2:∀j,j∈W2→j∈W):lS K W2 σ1 F1 H1 e1 D fl:=by
  cases fl with
  | nx e'=>exact fun F' H' σ' y R=>h F' H' σ' ((x.mono h1).trans (y.mono h2)) R
  | bk e'=>exact fun F' H' σ' y R=>h F' H' σ' ((x.mono h1).trans (y.mono h2)) R
  | ct e'=>exact fun F' H' σ' y R=>h F' H' σ' ((x.mono h1).trans (y.mono h2)) R
  | rt r e'=>exact fun F' H' σ' v y R A=>h F' H' σ' v ((x.mono h1).trans (y.mono h2)) R (A.weak x.dom)
section
variable{X:Cx}{K:PySem.W.Frag}{W W1 W2:List Nat}{st:Stmt}{eD:List Stmt}{f g:FS}{a b:Expr}{fa:FE}{ft:FT}{pos:Pos}
def cG:FS:=fun e=>some (.nx e)
def aB(f g:FS):FS:=fun e=>(f e).bind fun fl=>match fl with
  | .nx e1=>g e1
  | fl=>some fl
theorem aU:lj X [] (fS K cG []):=zD.mono fun D σ H h=>by
  obtain⟨F,e,fl,R,hf,q⟩:=h
  cases hf
  exact q F H σ dU.refl R
theorem af(h1:PS X st (fS K f W1))(h2:lj X eD (fS K g W2)):lj X (st::eD) (fS K (aB f g) (W1++W2)):=(xl h1 h2).mono fun D σ H h=>by
  obtain⟨F,e,fl,R,hf,q⟩:=h
  unfold aB at hf
  obtain⟨fl1,h1,hf⟩:=Option.bind_eq_some_iff.mp hf
  have s1:∀j,j∈W1→j∈W1++W2:=fun j h=>List.mem_append.mpr (.inl h)
  have s2:∀j,j∈W2→j∈W1++W2:=fun j h=>List.mem_append.mpr (.inr h)
  refine⟨F,e,fl1,R,h1,?_⟩
  cases fl1 with
  | nx e1=>exact fun F' H' σ' x R'=>⟨F',e1,fl,R',hf,q.later x s1 s2⟩
  | bk e1=>cases hf;exact fun F' H' σ' x R'=>q F' H' σ' (x.mono s1) R'
  | ct e1=>cases hf;exact fun F' H' σ' x R'=>q F' H' σ' (x.mono s1) R'
  | rt r e1=>cases hf;exact fun F' H' σ' v x R' A=>q F' H' σ' v (x.mono s1) R' A
theorem aj(h1:PS X st (fS K f W)):lj X [st] (fS K f W):=zE h1
def gC(fa:FE):FS:=fun e=>(fa e).map fun p=>.nx p.2
theorem eP(he:PE X a (fE K fa))(hs:swapsWith a none pos.line X.env=pure false):PS X (.Expr a pos) (fS K (gC fa) []):=(zC he hs).mono fun D σ H h=>by
  obtain⟨F,e,fl,R,hf,q⟩:=h
  obtain⟨⟨x,e1⟩,h1,hf⟩:=Option.map_eq_some_iff.mp hf
  cases hf
  exact⟨F,e,x,e1,R,h1,fun F1 H1 v X1 R1 A1=>q F1 H1 σ X1.s R1⟩
def aT(fa:FE):FS:=fun e=>(fa e).map fun p=>.rt p.1 p.2
theorem au(he:PE X a (fE K fa)):PS X (.Return (some a) pos) (fS K (aT fa) []):=(BX he).mono fun D σ H h=>by
  obtain⟨F,e,fl,R,hf,q⟩:=h
  obtain⟨⟨x,e1⟩,h1,hf⟩:=Option.map_eq_some_iff.mp hf
  cases hf
  exact⟨F,e,x,e1,R,h1,fun F1 H1 v X1 R1 A1=>q F1 H1 σ v X1.s R1 A1⟩
def gD(ft:FT)(f g:FS):FS:=fun e=>(ft e).bind fun p=>if p.1=true then f p.2 else g p.2
theorem cn{c:Expr}{bs cs:List Stmt}(hc:PT X c (fT K ft))(ha:lj X bs (fS K f W1))(hb:lj X cs (fS K g W2)):PS X (.If c bs cs pos) (fS K (gD ft f g) (W1++W2)):=(DM hc ha hb).mono fun D σ H h=>by
  obtain⟨F,e,fl,R,hf,q⟩:=h
  unfold gD at hf
  obtain⟨⟨x,e1⟩,h1,hf⟩:=Option.bind_eq_some_iff.mp hf
  refine⟨F,e,x,e1,R,h1,fun F1 H1 X1 R1=>?_⟩
  cases x with
  | true=>exact⟨F1,e1,fl,R1,hf,q.later (W1:=[]) X1.s (fun j h=>by cases h) fun j h=>List.mem_append.mpr (.inl h)⟩
  | false=>exact⟨F1,e1,fl,R1,hf,q.later (W1:=[]) X1.s (fun j h=>by cases h) fun j h=>List.mem_append.mpr (.inr h)⟩
def xm(i:Nat)(r:Rv)(e:En):Option En:=match r with
  | .d x=>some (e.set i (some (.d x)))
  | .l xs=>some (e.set i (some (.l xs)))
  | .s _=>none
theorem xn{σ:L2.St}{H F H1 F1:Hp}{e e1 e2:En}{i:Nat}{r:Rv}{v:V}(R:a9 K F H σ e)(X1:dS σ F H e F1 H1 e1)(R1:a9 K F1 H1 σ e1)(A1:cw K σ H F1 H1 e1 r v)(h:xm i r e1=some e2):
    dU [i] σ F H e (σ.set i (some v)) F1 H1 e2∧a9 K F1 H1 (σ.set i (some v)) e2:=by
  have wr:∀j,j∉[i]→(σ.set i (some v))[j]?=σ[j]?:=fun j n=>List.getElem?_set_ne (fun z=>n (by simp [z]))
  cases r with
  | d x=>
    cases h
    obtain⟨R2,o2⟩:=R1.setD i A1
    exact⟨⟨X1.sf,X1.dom,X1.fr,X1.lst,X1.tmp,fun a h=>X1.ow a (o2 a h),wr⟩,R2⟩
  | l xs=>
    cases h
    obtain⟨l,vs,rfl,h1,h2,h3,h4,h5⟩:=A1
    obtain⟨R2,o2⟩:=R1.setL i h2 h3 h4 h5
    refine⟨⟨X1.sf,X1.dom,X1.fr,X1.lst,X1.tmp,fun a h=>?_,wr⟩,R2⟩
    rcases o2 a h with z | z
    · exact X1.ow a z
    · exact .inr (by rw [z];exact h1)
  | s j=>cases h
def aZ(i:Nat)(fa:FE):FS:=fun e=>(fa e).bind fun p=>(xm i p.1 p.2).map .nx
theorem aA{i:Nat}{x:Str}{pos':Pos}(hN:X.N.Nodup)(hi:X.N[i]?=some x)(hx:CK X.env.scope x)(he:PE X a (fE K fa))(hs:swapsWith a (some (.Name x pos')) pos.line X.env=pure false)(hf:X.fn x=true∨X.env.scope.names.lookup x=some .local):
    PS X (.Assign [.Name x pos'] a pos) (fS K (aZ i fa) [i]):=(BZ hN hi hx he hs hf).mono fun D σ H h=>by
  obtain⟨F,e,fl,R,hf,q⟩:=h
  unfold aZ at hf
  obtain⟨⟨r,e1⟩,h1,hf⟩:=Option.bind_eq_some_iff.mp hf
  obtain⟨e2,h2,hf⟩:=Option.map_eq_some_iff.mp hf
  cases hf
  refine⟨F,e,r,e1,R,h1,fun F1 H1 v X1 R1 A1=>?_⟩
  obtain⟨x,R2⟩:=xn R X1 R1 A1 h2
  exact q F1 H1 _ x R2
abbrev FG:=PyData→En→Option En
def fG(K:PySem.W.Frag)(g:FG)(W:List Nat):TG:=fun v σ H Q=>∃F e x e',a9 K F H σ e∧DA K F x v∧g x e=some e'∧∀σ',dU W σ F H e σ' F H e'→a9 K F H σ' e'→Q σ' H
abbrev Af:=List PyData→En→Option En
def Eu(K:PySem.W.Frag)(g:Af)(W:List Nat):yh:=fun vs σ H Q=>∃F e xs e',a9 K F H σ e∧aP K F xs vs∧g xs e=some e'∧∀σ',dU W σ F H e σ' F H e'→a9 K F H σ' e'→Q σ' H
theorem PG.mono{tg:Expr}{t t':TG}(h:PG X tg t)(m:∀v σ H Q,t' v σ H Q→t v σ H Q):PG X tg t':=fun pins s σ H v u Q I r q=>h pins s σ H v u Q I r (m v σ H Q q)
theorem uY.mono{tg:List Expr}{t t':yh}(h:uY X tg t)(m:∀v σ H Q,t' v σ H Q→t v σ H Q):uY X tg t':=fun pins s σ H v u Q I r q=>h pins s σ H v u Q I r (m v σ H Q q)
def ah(i:Nat):FG:=fun x e=>some (e.set i (some (.d x)))
def bO:Af:=fun xs e=>match xs with
  | []=>some e
  | _=>none
def av(g:FG)(gs:Af):Af:=fun xs e=>match xs with
  | x::r=>(g x e).bind fun e1=>gs r e1
  | _=>none
def bX(gs:Af):FG:=fun x e=>match x with
  | .tuple xs=>gs xs e
  | _=>none
theorem aD{i:Nat}{x:Str}(hN:X.N.Nodup)(hi:X.N[i]?=some x)(hx:CK X.env.scope x)(hf:X.fn x=true∨X.env.scope.names.lookup x=some .local):PG X (.Name x pos) (fG K (ah i) [i]):=(zq hN hi hx hf).mono fun v σ H Q h=>by
  obtain⟨F,e,x,e',R,hx,hg,q⟩:=h
  cases hg
  obtain⟨R2,o2⟩:=R.setD i hx
  exact q _ ⟨aw.refl _,fun _ h=>h,fun _ _ h _ _=>h,fun _ vs h=>⟨vs,h⟩,fun _ _ h _=>h,fun a h=>.inl (o2 a h),fun j n=>List.getElem?_set_ne (fun z=>n (by simp [z]))⟩ R2
theorem eO:uY X [] (Eu K bO []):=zt.mono fun v σ H Q h=>by
  obtain⟨F,e,x,e',R,hx,hg,q⟩:=h
  unfold bO at hg
  split at hg
  · cases hg
    simp only [aP] at hx
    exact⟨hx,q σ dU.refl R⟩
  · cases hg
theorem bh{es:List Expr}{g1:FG}{gs:Af}(h1:PG X a (fG K g1 W1))(h2:uY X es (Eu K gs W2))
    (hs:(assignEach (a::es) X.env).map (·.2)=assign a X.env::(assignEach es X.env).map (·.2)):uY X (a::es) (Eu K (av g1 gs) (W1++W2)):=(w_ h1 h2 hs).mono fun v σ H Q h=>by
  obtain⟨F,e,xs,e',R,hx,hg,q⟩:=h
  unfold av at hg
  match xs,hg,hx with
  | x::r,hg,hx=>
    simp only [aP] at hx
    obtain⟨w,ws,e1,hw,hr⟩:=hx
    dsimp only at hg
    obtain⟨e1',h3,h4⟩:=Option.bind_eq_some_iff.mp hg
    refine⟨w,ws,e1,F,e,x,e1',R,hw,h3,fun σ1 x1 R1=>⟨F,e1',r,e',R1,hr,h4,fun σ2 x2 R2=>?_⟩⟩
    exact q σ2 ((x1.mono fun j h=>List.mem_append.mpr (.inl h)).trans (x2.mono fun j h=>List.mem_append.mpr (.inr h))) R2
theorem g_{es:List Expr}{k n:Nat}{gs:Af}(hK:X.K=K)(hc:X.calm=true)(h:uY X es (Eu K gs W))(hl:∀xs e e',gs xs e=some e'→xs.length=n)(hn:(assignEach es X.env).length=n)(hst:(assignEach es X.env).findIdx? (·.1)=none):PG X (.Tuple es k pos) (fG K (bX gs) W):=(zr hK hc h hn hst).mono fun v σ H Q h=>by
  obtain⟨F,e,x,e',R,hx,hg,q⟩:=h
  unfold bX at hg
  match x,hg,hx with
  | .tuple xs,hg,hx=>
    obtain⟨p,vs,e1,e2,e3⟩:=dr.mp hx
    exact⟨p,vs,e1,R.sm.tup e2,by rw [←e3.len];exact hl xs e e' hg,F,e,xs,e',R,e3,hg,q⟩
theorem gW(xs:List PyData)(e e':En)(h:bO xs e=some e'):xs.length=0:=by
  unfold bO at h
  split at h
  · rfl
  · cases h
theorem bR{g:FG}{gs:Af}{n:Nat}(hl:∀xs e e',gs xs e=some e'→xs.length=n)(xs:List PyData)(e e':En)(h:av g gs xs e=some e'):xs.length=n+1:=by
  unfold av at h
  match xs,h with
  | x::r,h=>
    obtain⟨e1,h3,h4⟩:=Option.bind_eq_some_iff.mp h
    simp [hl r e1 e' h4]
def qp(fa:FE)(g:FG):FS:=fun e=>(fa e).bind fun p=>match p.1 with
  | .d x=>(g x p.2).map .nx
  | _=>none
theorem rS{tg:Expr}{g:FG}(he:PE X a (fE K fa))(hg:PG X tg (fG K g W))(hs:swapsWithSole [tg] a pos.line X.env=pure false)(hw:swappedStores [tg] a X.env=pure none)
    (h1:(assignEach [tg] X.env).map (·.2)=[assign tg X.env]):PS X (.Assign [tg] a pos) (fS K (qp fa g) W):=(BU he hg hs hw h1).mono fun D σ H h=>by
  obtain⟨F,e,fl,R,hf,q⟩:=h
  unfold qp at hf
  obtain⟨⟨r,e1⟩,h1,hf⟩:=Option.bind_eq_some_iff.mp hf
  match r,h1,hf with
  | .d x,h1,hf=>
    obtain⟨e2,h2,hf⟩:=Option.map_eq_some_iff.mp hf
    cases hf
    exact⟨F,e,_,e1,R,h1,fun F1 H1 v X1 R1 A1=>⟨F1,e1,x,e2,R1,A1,h2,fun σ' x2 R2=>q F1 H1 σ' (X1.s.trans x2) R2⟩⟩
def rT(i j:Nat)(fs:FA):FS:=fun e=>(fs e).bind fun p=>match p.1 with
  | [.d x,.d y]=>some (.nx ((p.2.set i (some (.d x))).set j (some (.d y))))
  | _=>none
theorem xA{i j:Nat}{x y:Str}{fs:FA}{px py pt:Pos}{kt k2 pt2}(hc:X.calm=true)(hN:X.N.Nodup)(hi:X.N[i]?=some x)(hj:X.N[j]?=some y)(hij:i≠j)
    (hx:X.env.scope.names.lookup x=some .local)(hy:X.env.scope.names.lookup y=some .local)(ha:PA X [a,b] (fA K fs))
    (hw:swappedStores [.Tuple [.Name x px,.Name y py] kt pt] (.Tuple [a,b] k2 pt2) X.env=pure (some [x,y]))
    (hs:swapsWithSole [.Tuple [.Name x px,.Name y py] kt pt] (.Tuple [a,b] k2 pt2) pos.line X.env=pure false):
    PS X (.Assign [.Tuple [.Name x px,.Name y py] kt pt] (.Tuple [a,b] k2 pt2) pos) (fS K (rT i j fs) [i,j]):=(BW hc hN hi hj hij hx hy ha hw hs).mono fun D σ H h=>by
  obtain⟨F,e,fl,R,hf,q⟩:=h
  unfold rT at hf
  obtain⟨⟨rs,e1⟩,h1,hf⟩:=Option.bind_eq_some_iff.mp hf
  refine⟨F,e,rs,e1,R,h1,fun F1 H1 vs X1 R1 A1=>?_⟩
  match rs,hf,A1 with
  | [.d x,.d y],hf,A1=>
    cases hf
    obtain⟨v,u,rfl,a1,a2⟩:=pz A1
    obtain⟨R2,o2⟩:=R1.setD i a1
    obtain⟨R3,o3⟩:=R2.setD j a2
    refine⟨v,u,rfl,q F1 H1 _ ⟨X1.sf,X1.dom,X1.fr,X1.lst,X1.tmp,fun a h=>X1.ow a (o2 a (o3 a h)),fun m n=>?_⟩ R3⟩
    rw [List.getElem?_set_ne (fun z=>n (by simp [z])),List.getElem?_set_ne (fun z=>n (by simp [z]))]
def pW:Rv→Option PyData
  | .d x=>some x
  | .l xs=>some (.list xs)
  | .s _=>none
theorem ug{r:Rv}{d:PyData}(h:pW r=some d):i4 [r]=some [d]:=by
  cases r with
  | d x=>cases h;rfl
  | l xs=>cases h;rfl
  | s i=>cases h
def hV(ft:FT)(f:FS):Nat→FS
  | 0,_=>none
  | n+1,e=>(ft e).bind fun p=>if p.1=true then(f p.2).bind fun fl=>match fl with
      | .nx e1=>hV ft f n e1
      | .ct e1=>hV ft f n e1
      | .bk e1=>some (.nx e1)
      | .rt r e1=>some (.rt r e1)
    else some (.nx p.2)
def jq(n:Nat)(ft:FT)(f:FS):FS:=hV ft f n
theorem mz{n:Nat}{c:Expr}{body:List Stmt}(hp:PassesOwn (model X.prog X.w) X.A X.env X.xe)(hc:PT X c (fT K ft))(hb:lj X body (fS K f W)):PS X (.While c body [] pos) (fS K (jq n ft f) W):=(xk hp hc hb).mono fun D σ H h=>by
  refine⟨fun m σ H=>∃F e fl,a9 K F H σ e∧hV ft f m e=some fl∧lS K W σ F H e D fl,⟨n,h⟩,?_⟩
  rintro m σ H ⟨F,e,fl,R,hf,q⟩
  cases m with
  | zero=>cases hf
  | succ m=>
    unfold hV at hf
    obtain⟨⟨x,e1⟩,h1,hf⟩:=Option.bind_eq_some_iff.mp hf
    refine⟨F,e,x,e1,R,h1,fun F1 H1 X1 R1=>?_⟩
    have sub:∀j,j∈([]:List Nat)→j∈W:=fun j h=>by cases h
    cases x with
    | false=>
      rw [if_neg (by simp)] at hf
      cases hf
      exact Dl (q F1 H1 σ X1.s R1)
    | true=>
      rw [if_pos rfl] at hf
      refine Dm ?_
      obtain⟨fl1,h2,hf⟩:=Option.bind_eq_some_iff.mp hf
      have q1:lS K W σ F1 H1 e1 D fl:=q.later (W1:=[]) X1.s sub fun j h=>h
      refine⟨fun σ' H'=>∃F' e',a9 K F' H' σ' e'∧hV ft f m e'=some fl∧lS K W σ' F' H' e' D fl,fun σ' H' ⟨F',e',r1,r2,r3⟩=>⟨m,Nat.lt_succ_self m,F',e',fl,r1,r2,r3⟩,F1,e1,fl1,R1,h2,?_⟩
      cases fl1 with
      | nx e2=>exact fun F2 H2 σ2 x R2=>⟨F2,e2,R2,hf,q1.later x (fun j h=>h) fun j h=>h⟩
      | ct e2=>exact fun F2 H2 σ2 x R2=>⟨F2,e2,R2,hf,q1.later x (fun j h=>h) fun j h=>h⟩
      | bk e2=>cases hf;exact fun F2 H2 σ2 x R2=>q1 F2 H2 σ2 x R2
      | rt r e2=>cases hf;exact fun F2 H2 σ2 v x R2 A=>q1 F2 H2 σ2 v x R2 A
end
end L2
namespace L2
open PySem PySem.Spec PyProof.Rows
theorem PI.mono{X:Cx}{tg iter:Expr}{t t':TI}(h:PI X tg iter t)(m:∀σ H R,t' σ H R→t σ H R):PI X tg iter t':=fun pins s σ H R I q=>h pins s σ H R I (m σ H R q)
theorem PI.or{X:Cx}{tg iter:Expr}{t t':TI}(h:PI X tg iter t)(h':PI X tg iter t'):PI X tg iter (fun σ H R=>t σ H R∨t' σ H R):=fun pins s σ H R I q=>by
  rcases q with q | q
  · exact h pins s σ H R I q
  · exact h' pins s σ H R I q
abbrev fy:=List (Nat × List PyData)
def va(K:PySem.W.Frag)(σ:L2.St)(F H:Hp)(own:fy):Prop:=∀p∈own,∃l vs,σ[p.1]?=some (some (.ref l))∧H l=some (.lst vs)∧aP K F p.2 vs
def vb(K:PySem.W.Frag)(σ:L2.St)(J:It)(items:List PyData)(own:fy)(F0:Hp):Prop:=∀F H,aw F0 F→aw F H→va K σ F H own→
  (∀i,i < items.length→J.go i H)∧(∀i,items.length≤i→J.stop i H)∧∀i d x H',items[i]?=some d→J.yld i H x H'→∃F',aw H H'∧aw F F'∧aw F' H'∧(∀a,F a=none→H a≠none→F' a=none)∧DA K F' d x
abbrev FI:=En→Option (List PyData × fy × En)
def keeps(own:fy)(e:En):Prop:=∀p∈own,e[p.1]?=some (some (.l p.2))
def fI(K:PySem.W.Frag)(f:FI):TI:=fun σ H R=>∃F e items own e',a9 K F H σ e∧f e=some (items,own,e')∧∀J F' H',dS σ F H e F' H' e'→a9 K F' H' σ e'→keeps own e'→vb K σ J items own F'→R J H'
section
variable{K:PySem.W.Frag}{σ:L2.St}{H0 F H F' H':Hp}{e e':En}
theorem a9.held(R:a9 K F H σ e){own:fy}(h:keeps own e):va K σ F H own:=fun p hp=>by
  obtain⟨l,vs,h1,h2,h3,h4⟩:=R.own p.1 p.2 (h p hp)
  exact⟨l,vs,h1,h3,h4⟩
theorem a9.step(R:a9 K F H σ e)(s:aw H H')(sF:aw F F')(sm:aw F' H')(fz:∀a,F a=none→H a≠none→F' a=none):a9 K F' H' σ e∧dS σ F H e F' H' e:=by
  obtain⟨R',o'⟩:=R.keep sF sm (fun a ⟨i,h⟩=>by
    obtain⟨h1,vs,h2⟩:=R.fpAt h
    exact fz a h1 (by rw [h2];simp)) fun a o _ h=>s a o h
  exact⟨R',⟨sF,fun a h=>s.free h,fun a vs h1 h2 _=>fz a h1 (by rw [h2];simp),fun a vs h=>⟨vs,s _ _ h⟩,fun a o h _=>s a o h,fun _=>Iff.rfl,fun a h=>.inl ((o' a).mp h)⟩⟩
inductive pJ (K:PySem.W.Frag) (σ:L2.St) (F:Hp) (p:Addr):Bool→List PyData→fy→Prop
  | tup {xs vs}:cD K F p vs→aP K F xs vs→pJ K σ F p false xs []
  | lst {xs vs}:dg K F p vs→aP K F xs vs→pJ K σ F p true xs []
  | own {i xs}:σ[i]?=some (some (.ref p))→pJ K σ F p true xs [(i,xs)]
theorem pJ.at{p:Addr}{b:Bool}{xs:List PyData}{own:fy}{F0:Hp}(h:pJ K σ F0 p b xs own)(s0:aw F0 F)(s1:aw F H){own':fy}(hh:va K σ F H own')(hs:∀q∈own,q∈own'):∃vs,aP K F xs vs∧(if b=true then dg K H p vs else cD K H p vs):=by
  cases h with
  | tup h1 h2=>exact⟨_,h2.mono s0,(s0.trans s1).tup h1⟩
  | lst h1 h2=>exact⟨_,h2.mono s0,(s0.trans s1).seq h1⟩
  | @own i xs h1=>
    obtain⟨l,vs,g1,g2,g3⟩:=hh (i,xs) (hs (i,xs) (by simp))
    dsimp only at g1 g3
    rw [h1] at g1;cases g1
    exact⟨vs,g3,.inl (.inl g2)⟩
def rY(e:En):Rv→Option (Bool × List PyData × fy)
  | .d (.tuple xs)=>some (false,xs,[])
  | .d (.list xs)=>some (true,xs,[])
  | .l xs=>some (true,xs,[])
  | .s i=>match e[i]? with
    | some (some (.l xs))=>some (true,xs,[(i,xs)])
    | _=>none
  | _=>none
theorem lJ{r:Rv}{v:V}{b:Bool}{xs:List PyData}{own:fy}(R:a9 K F H σ e)(A:cw K σ H0 F H e r v)(h:rY e r=some (b,xs,own)):
    ∃F' p,a9 K F' H σ e∧aw F F'∧(∀a,F a=none→H0 a≠none→F' a=none)∧v=.ref p∧pJ K σ F' p b xs own∧keeps own e:=by
  cases r with
  | d x=>
    cases x with
    | tuple ds=>
      cases h
      obtain⟨a,ys,e1,e2,e3⟩:=dr.mp A
      exact⟨F,a,R,aw.refl _,fun _ h _=>h,e1,.tup e2 e3,fun p hp=>by cases hp⟩
    | list ds=>
      cases h
      obtain⟨a,ys,e1,e2,e3⟩:=dq.mp A
      exact⟨F,a,R,aw.refl _,fun _ h _=>h,e1,.lst e2 e3,fun p hp=>by cases hp⟩
    | _=>cases h
  | l ys=>
    cases h
    obtain⟨F',R',s',d',f'⟩:=A.frozen R
    obtain⟨a,ys,e1,e2,e3⟩:=dq.mp d'
    exact⟨F',a,R',s',f',e1,.lst e2 e3,fun p hp=>by cases hp⟩
  | s i=>
    obtain⟨h1,ys,h2⟩:=A
    simp only [rY,h2] at h
    cases h
    obtain⟨l,vs,e1,e2,e3,e4⟩:=R.own i _ h2
    rw [h1] at e1;cases e1
    exact⟨F,l,R,aw.refl _,fun _ h _=>h,rfl,.own h1,fun p hp=>by simp only [List.mem_singleton] at hp;subst hp;exact h2⟩
theorem ur{p:Addr}{xs:List PyData}{own:fy}{F0:Hp}(h:pJ K σ F0 p true xs own):vb K σ (ED K p) xs own F0:=by
  intro F H s0 s1 hh
  obtain⟨vs,d,q⟩:=h.at s0 s1 hh fun _ h=>h
  have q:dg K H p vs:=q
  refine⟨fun i hi=>⟨vs,vs[i]'(by rw [←d.len];exact hi),q,List.getElem?_eq_getElem _⟩,fun i hi=>⟨vs,q,by rw [←d.len];exact hi⟩,fun i x v H' hx hy=>?_⟩
  obtain⟨rfl,hy⟩:=hy
  obtain⟨w,g1,g2⟩:=d.get hx
  have e:=hy vs q
  rw [g1] at e;cases e
  exact⟨F,aw.refl _,aw.refl _,s1,fun _ h _=>h,g2⟩
theorem wu{p:Addr}{xs:List PyData}{own:fy}{F0:Hp}(h:pJ K σ F0 p false xs own):vb K σ (EE K p) xs own F0:=by
  intro F H s0 s1 hh
  obtain⟨vs,d,q⟩:=h.at s0 s1 hh fun _ h=>h
  have q:cD K H p vs:=q
  refine⟨fun i hi=>⟨vs,vs[i]'(by rw [←d.len];exact hi),q,List.getElem?_eq_getElem _⟩,fun i hi=>⟨vs,q,by rw [←d.len];exact hi⟩,fun i x v H' hx hy=>?_⟩
  obtain⟨rfl,hy⟩:=hy
  obtain⟨w,g1,g2⟩:=d.get hx
  have e:=hy vs q
  rw [g1] at e;cases e
  exact⟨F,aw.refl _,aw.refl _,s1,fun _ h _=>h,g2⟩
theorem wD{p:Addr}{x y:V}{a b:PyData}(s1:aw F H)(hp:H p=none)(hx:DA K F a x)(hy:DA K F b y):∃F',aw H (a_ H p (.tup [x,y]))∧aw F F'∧aw F' (a_ H p (.tup [x,y]))∧(∀c,F c=none→H c≠none→F' c=none)∧DA K F' (.tuple [a,b]) (.ref p):=by
  have hF:F p=none:=s1.free hp
  have sF:aw F (a_ F p (.tup [x,y])):=aw.new hF
  refine⟨a_ F p (.tup [x,y]),aw.new hp,sF,fun b o q=>?_,fun c h n=>?_,dr.mpr ⟨p,_,rfl,.inl (.inl aG),.cons (DA.mono sF hx) (.one (DA.mono sF hy))⟩⟩
  · by_cases z:b=p
    · subst z;rw [aG] at q ⊢;exact q
    · rw [aI z] at q ⊢;exact s1 _ _ q
  · have z:c≠p:=fun z=>n (by rw [z];exact hp)
    rw [aI z];exact h
def i3:List PyData→List PyData→List PyData
  | x::r,y::s=>.tuple [x,y]::i3 r s
  | _,_=>[]
theorem qV:∀{xs ys:List PyData} {i:Nat} {d:PyData},(i3 xs ys)[i]?=some d→∃x y,xs[i]?=some x∧ys[i]?=some y∧d=.tuple [x,y]
  | [],ys,i,d,h=>by simp [i3] at h
  | x::r,[],i,d,h=>by simp [i3] at h
  | x::r,y::s,0,d,h=>by
    simp only [i3,List.getElem?_cons_zero] at h
    cases h;exact⟨x,y,rfl,rfl,rfl⟩
  | x::r,y::s,i+1,d,h=>by
    simp only [i3,List.getElem?_cons_succ] at h
    obtain⟨a,b,h1,h2,h3⟩:=qV h
    exact⟨a,b,by simpa using h1,by simpa using h2,h3⟩
theorem zipD_len:∀(xs ys:List PyData),(i3 xs ys).length=min xs.length ys.length
  | [],ys=>by simp [i3]
  | x::r,[]=>by simp [i3]
  | x::r,y::s=>by simp [i3,zipD_len r s]
theorem jL{P Q:Hp→Addr→List V→Prop}{J:It}{l1 l2:Addr}{b1 b2:Bool}{xs ys:List PyData}{lw own2:fy}{F0:Hp}(h1:pJ K σ F0 l1 b1 xs lw)(h2:pJ K σ F0 l2 b2 ys own2)
    (hP:∀H vs,(if b1=true then dg K H l1 vs else cD K H l1 vs)→P H l1 vs)(hQ:∀H vs,(if b2=true then dg K H l2 vs else cD K H l2 vs)→Q H l2 vs)
    (go:∀i H vs us x y,P H l1 vs→Q H l2 us→vs[i]?=some x→us[i]?=some y→J.go i H)(stop:∀i H vs us,P H l1 vs→Q H l2 us→(vs.length≤i∨us.length≤i)→J.stop i H)
    (yld:∀i H v H',J.yld i H v H'→∃p x y,v=.ref p∧H p=none∧H'=a_ H p (.tup [x,y])∧∀xs ys,P H l1 xs→Q H l2 ys→xs[i]?=some x∧ys[i]?=some y):
    vb K σ J (i3 xs ys) (lw++own2) F0:=by
  intro F H s0 s1 hh
  obtain⟨vs,d1,q1⟩:=h1.at s0 s1 hh fun _ h=>List.mem_append.mpr (.inl h)
  obtain⟨us,d2,q2⟩:=h2.at s0 s1 hh fun _ h=>List.mem_append.mpr (.inr h)
  have q1:=hP H vs q1
  have q2:=hQ H us q2
  have l1':=d1.len
  have l2':=d2.len
  rw [zipD_len]
  refine⟨fun i hi=>go i H vs us (vs[i]'(by lia)) (us[i]'(by lia)) q1 q2 (List.getElem?_eq_getElem _) (List.getElem?_eq_getElem _),fun i hi=>stop i H vs us q1 q2 (by lia),fun i x v H' hx hy=>?_⟩
  obtain⟨t,a,b,rfl,ht,rfl,hy3⟩:=yld i H v H' hy
  obtain⟨x',y',hx2,hy',rfl⟩:=qV hx
  obtain⟨w,g1,g2⟩:=d1.get hx2
  obtain⟨w',g3,g4⟩:=d2.get hy'
  obtain⟨e1,e2⟩:=hy3 vs us q1 q2
  rw [g1] at e1;cases e1
  rw [g3] at e2;cases e2
  exact wD s1 ht g2 g4
def a8(lo:Int)(n:Nat):List PyData:=(List.range n).map fun(i:Nat)=>.int (lo+(i:Int))
theorem rG{lo:Int}{n:Nat}{F0:Hp}:vb K σ (Eo lo n) (a8 lo n) [] F0:=by
  intro F H s0 s1 hh
  unfold a8
  rw [List.length_map,List.length_range]
  refine⟨fun i hi=>hi,fun i hi=>hi,fun i x v H' hx hy=>?_⟩
  obtain⟨rfl,rfl⟩:=hy
  rw [List.getElem?_map] at hx
  obtain⟨k,h1,rfl⟩:=Option.map_eq_some_iff.mp hx
  have h2:=(List.getElem?_eq_some_iff.mp h1).2
  simp at h2
  subst h2
  exact⟨F,aw.refl _,aw.refl _,s1,fun _ h _=>h,dn.mpr rfl⟩
end
inductive EC (K:PySem.W.Frag) (own:fy) (σ0:L2.St) (F1:Hp) (P:En→Prop) (G:L2.St→Hp→Hp→En→Prop) (σ:L2.St) (H:Hp):Prop
  | mk {F:Hp} {e:En} (R:a9 K F H σ e) (kp:keeps own e) (hσ:∀p∈own,σ[p.1]?=σ0[p.1]?) (sF:aw F1 F) (hf:P e) (q:G σ F H e):EC K own σ0 F1 P G σ H
section
variable{X:Cx}{K:PySem.W.Frag}{tg a b:Expr}{es:List Expr}{fa:FE}{fs:FA}{pos p tp:Pos}{k0:Nat}
def eM(fa:FE):FI:=fun e=>(fa e).bind fun p=>(rY p.2 p.1).map fun s=>(s.2.1,s.2.2,p.2)
theorem cX(hK:X.K=K)(h:PE X a (fE K fa)):PI X tg a (fI K (eM fa)):=((xa (tg:=tg) hK h).or (zv (tg:=tg) hK h)).mono fun σ H R hh=>by
  obtain⟨F,e,items,own,e',R0,hf,q⟩:=hh
  unfold eM at hf
  obtain⟨⟨r,e1⟩,h1,hf⟩:=Option.bind_eq_some_iff.mp hf
  obtain⟨⟨b,xs,ow⟩,h2,hf⟩:=Option.map_eq_some_iff.mp hf
  cases hf
  cases b with
  | true=>
    refine .inl ⟨F,e,r,e1,R0,h1,fun F1 H1 v X1 R1 A1=>?_⟩
    obtain⟨F2,p,R2,s2,f2,rfl,sc,kp⟩:=lJ R1 A1 h2
    obtain⟨vs,_,c⟩:=sc.at (aw.refl _) R2.sm (R2.held kp) fun _ h=>h
    exact⟨p,rfl,⟨vs,c⟩,q _ F2 H1 (X1.frz s2 f2) R2 kp (ur sc)⟩
  | false=>
    refine .inr ⟨F,e,r,e1,R0,h1,fun F1 H1 v X1 R1 A1=>?_⟩
    obtain⟨F2,p,R2,s2,f2,rfl,sc,kp⟩:=lJ R1 A1 h2
    obtain⟨vs,_,c⟩:=sc.at (aw.refl _) R2.sm (R2.held kp) fun _ h=>h
    exact⟨p,rfl,⟨vs,c⟩,q _ F2 H1 (X1.frz s2 f2) R2 kp (wu sc)⟩
def nF(fs:FA):FI:=fun e=>(fs e).bind fun p=>match p.1 with
  | [r,t]=>(rY p.2 r).bind fun s=>(rY p.2 t).map fun u=>(i3 s.2.1 u.2.1,s.2.2++u.2.2,p.2)
  | _=>none
theorem pJ.mono{σ:L2.St}{F F':Hp}{p:Addr}{b:Bool}{xs:List PyData}{own:fy}(h:pJ K σ F p b xs own)(s:aw F F'):pJ K σ F' p b xs own:=by
  cases h with
  | tup h1 h2=>exact .tup (s.tup h1) (h2.mono s)
  | lst h1 h2=>exact .lst (s.seq h1) (h2.mono s)
  | own h1=>exact .own h1
theorem xx(hK:X.K=K)(hg:Gl X "zip")(hm:X.mg "zip"=none)(ha:PA X [a,b] (fA K fs))(hs:starEach [a,b] X.env=[(false,eval a X.env),(false,eval b X.env)])(hs2:starEach [b] X.env=[(false,eval b X.env)]):PI X (.Tuple es k0 tp) (.Call (.Name "zip" p) [a,b] [] pos) (fI K (nF fs)):=
    (((BS (es:=es) (k0:=k0) (tp:=tp) hK hg hm ha hs hs2).or (xc (es:=es) (k0:=k0) (tp:=tp) hK hg hm ha hs hs2)).or ((xf (es:=es) (k0:=k0) (tp:=tp) hK hg hm ha hs hs2).or (xb (es:=es) (k0:=k0) (tp:=tp) hK hg hm ha hs hs2))).mono fun σ H R hh=>by
  obtain⟨F,e,items,own,e',R0,hf,q⟩:=hh
  unfold nF at hf
  obtain⟨⟨rs,e1⟩,h1,hf⟩:=Option.bind_eq_some_iff.mp hf
  match rs,h1,hf with
  | [r,t],h1,hf=>
  obtain⟨⟨b,xs,ow⟩,h2,hf⟩:=Option.bind_eq_some_iff.mp hf
  obtain⟨⟨b',ys,ow'⟩,h3,hf⟩:=Option.map_eq_some_iff.mp hf
  cases hf
  have key:∀F1 H1 vs,dS σ F H e F1 H1 e1→a9 K F1 H1 σ e1→dH K σ H F1 H1 e1 [r,t] vs→∃p p' F2,vs=[.ref p,.ref p']∧dS σ F H e F2 H1 e1∧a9 K F2 H1 σ e1∧pJ K σ F2 p b xs ow∧pJ K σ F2 p' b' ys ow'∧keeps (ow++ow') e1:=by
    intro F1 H1 vs X1 R1 A1
    obtain⟨v,u,rfl,a1,a2⟩:=pz A1
    obtain⟨F2,p,R2,s2,f2,rfl,sc,kp⟩:=lJ R1 a1 h2
    have X2:=X1.frz s2 f2
    have a2':cw K σ H F2 H1 e1 t u∨∃zs,t=.l zs∧DA K F2 (.list zs) u:=by
      cases t with
      | d x=>exact .inl (DA.mono s2 a2)
      | s i=>exact .inl a2
      | l zs=>
        obtain⟨l,ws,rfl,g1,g2,g3,g4,g5⟩:=a2
        cases hl:F2 l with
        | none=>exact .inl ⟨l,ws,rfl,g1,hl,g3,aP.mono s2 g4,g5⟩
        | some o=>
          have:=R2.sm _ _ hl
          rw [g3] at this;cases this
          exact .inr ⟨zs,rfl,dq.mpr ⟨l,ws,rfl,.inl (.inl hl),aP.mono s2 g4⟩⟩
    rcases a2' with a2' | ⟨zs,rfl,d2⟩
    · obtain⟨F3,p',R3,s3,f3,rfl,sc',kp'⟩:=lJ R2 a2' h3
      exact⟨p,p',F3,rfl,X2.frz s3 f3,R3,sc.mono s3,sc',fun z hz=>(List.mem_append.mp hz).elim (kp z) (kp' z)⟩
    · cases h3
      obtain⟨p',ws,rfl,g1,g2⟩:=dq.mp d2
      exact⟨p,p',F2,rfl,X2,R2,sc,.lst g1 g2,fun z hz=>(List.mem_append.mp hz).elim (kp z) fun h=>by cases h⟩
  have fin:∀{F2 H1:Hp} {p p':Addr},a9 K F2 H1 σ e1→pJ K σ F2 p b xs ow→pJ K σ F2 p' b' ys ow'→keeps (ow++ow') e1→(∃vs,if b=true then dg K H1 p vs else cD K H1 p vs)∧(∃vs,if b'=true then dg K H1 p' vs else cD K H1 p' vs):=by
    intro F2 H1 p p' R2 s1 s2 kp
    obtain⟨vs,_,c⟩:=s1.at (aw.refl _) R2.sm (R2.held kp) fun _ h=>List.mem_append.mpr (.inl h)
    obtain⟨us,_,c'⟩:=s2.at (aw.refl _) R2.sm (R2.held kp) fun _ h=>List.mem_append.mpr (.inr h)
    exact⟨⟨vs,c⟩,⟨us,c'⟩⟩
  cases b with
  | false=>cases b' with
    | false=>
      refine .inl (.inl ⟨F,e,_,e1,R0,h1,fun F1 H1 vs X1 R1 A1=>?_⟩)
      obtain⟨p,p',F2,rfl,X2,R2,s1,s2,kp⟩:=key F1 H1 vs X1 R1 A1
      obtain⟨c1,c2⟩:=fin R2 s1 s2 kp
      exact⟨p,p',rfl,c1,c2,q _ F2 H1 X2 R2 kp (jL (P:=cD K) (Q:=cD K) s1 s2 (fun _ _ h=>h) (fun _ _ h=>h) (fun i H vs us x y h1 h2 h3 h4=>⟨vs,us,x,y,h1,h2,h3,h4⟩) (fun i H vs us h1 h2 h3=>⟨vs,us,h1,h2,h3⟩) fun i H v H' h=>h)⟩
    | true=>
      refine .inr (.inl ⟨F,e,_,e1,R0,h1,fun F1 H1 vs X1 R1 A1=>?_⟩)
      obtain⟨p,p',F2,rfl,X2,R2,s1,s2,kp⟩:=key F1 H1 vs X1 R1 A1
      obtain⟨c1,c2⟩:=fin R2 s1 s2 kp
      exact⟨p,p',rfl,c1,c2,q _ F2 H1 X2 R2 kp (jL (P:=cD K) (Q:=dg K) s1 s2 (fun _ _ h=>h) (fun _ _ h=>h) (fun i H vs us x y h1 h2 h3 h4=>⟨vs,us,x,y,h1,h2,h3,h4⟩) (fun i H vs us h1 h2 h3=>⟨vs,us,h1,h2,h3⟩) fun i H v H' h=>h)⟩
  | true=>cases b' with
    | false=>
      refine .inl (.inr ⟨F,e,_,e1,R0,h1,fun F1 H1 vs X1 R1 A1=>?_⟩)
      obtain⟨p,p',F2,rfl,X2,R2,s1,s2,kp⟩:=key F1 H1 vs X1 R1 A1
      obtain⟨c1,c2⟩:=fin R2 s1 s2 kp
      exact⟨p,p',rfl,c1,c2,q _ F2 H1 X2 R2 kp (jL (P:=dg K) (Q:=cD K) s1 s2 (fun _ _ h=>h) (fun _ _ h=>h) (fun i H vs us x y h1 h2 h3 h4=>⟨vs,us,x,y,h1,h2,h3,h4⟩) (fun i H vs us h1 h2 h3=>⟨vs,us,h1,h2,h3⟩) fun i H v H' h=>h)⟩
    | true=>
      refine .inr (.inr ⟨F,e,_,e1,R0,h1,fun F1 H1 vs X1 R1 A1=>?_⟩)
      obtain⟨p,p',F2,rfl,X2,R2,s1,s2,kp⟩:=key F1 H1 vs X1 R1 A1
      obtain⟨c1,c2⟩:=fin R2 s1 s2 kp
      exact⟨p,p',rfl,c1,c2,q _ F2 H1 X2 R2 kp (jL (P:=dg K) (Q:=dg K) s1 s2 (fun _ _ h=>h) (fun _ _ h=>h) (fun i H vs us x y h1 h2 h3 h4=>⟨vs,us,x,y,h1,h2,h3,h4⟩) (fun i H vs us h1 h2 h3=>⟨vs,us,h1,h2,h3⟩) fun i H v H' h=>h)⟩
def xI(j:Int):Bool:=decide (-1000000≤j)&&decide (j≤1000000)
theorem xJ{j:Int}(h:xI j=true): -1000000≤j∧j≤1000000:=by
  unfold xI at h
  rw [Bool.and_eq_true,decide_eq_true_iff,decide_eq_true_iff] at h
  exact h
def cS(fs:FA):FI:=fun e=>(fs e).bind fun p=>match p.1 with
  | [r]=>(c9 r).bind fun j=>if xI j=true then some (a8 0 j.toNat,[],p.2) else none
  | _=>none
theorem cV(hg:Gl X "range")(hm:X.mg "range"=none)(ha:PA X [a] (fA K fs))(hs:starEach [a] X.env=[(false,eval a X.env)]):PI X tg (.Call (.Name "range" p) [a] [] pos) (fI K (cS fs)):=(uK hg hm ha hs).mono fun σ H R hh=>by
  obtain⟨F,e,items,own,e',R0,hf,q⟩:=hh
  unfold cS at hf
  obtain⟨⟨rs,e1⟩,h1,hf⟩:=Option.bind_eq_some_iff.mp hf
  match rs,h1,hf with
  | [r],h1,hf=>
  obtain⟨j,h2,hf⟩:=Option.bind_eq_some_iff.mp hf
  split at hf
  case isFalse=>cases hf
  case isTrue hj=>
  cases hf
  refine⟨F,e,_,e1,R0,h1,fun F1 H1 vs X1 R1 A1=>?_⟩
  obtain⟨v,rfl,A2⟩:=pw A1
  have:=xJ hj
  exact⟨j,by rw [c_ A2 h2],by lia,by lia,q _ F1 H1 X1 R1 (fun _ h=>by cases h) rG⟩
open Classical in
noncomputable def iz(own:fy)(g:FG)(f:FS):List PyData→FS
  | [],e=>some (.nx e)
  | x::r,e=>(g x e).bind fun e1=>(f e1).bind fun fl=>match fl with
    | .nx e2=>if keeps own e2 then iz own g f r e2 else none
    | .ct e2=>if keeps own e2 then iz own g f r e2 else none
    | .bk e2=>some (.nx e2)
    | .rt v e2=>some (.rt v e2)
noncomputable def dG(W:List Nat)(fi:FI)(g:FG)(f:FS):FS:=fun e=>(fi e).bind fun p=>if (p.2.1.all fun q=> !W.contains q.1)=true then iz p.2.1 g f p.1 p.2.2 else none
theorem dy{W1 W2:List Nat}{iter:Expr}{body:List Stmt}{fi:FI}{g:FG}{f:FS}(hp:PassesOwn (model X.prog X.w) X.A X.env X.xe)(hc:X.calm=true)(hi:PI X tg iter (fI K fi))(hg:PG X tg (fG K g W1))(hb:lj X body (fS K f W2))(hs:∀x,foldedSetIterable iter X.env x=pure x):
    PS X (.For tg iter body [] pos) (fS K (dG (W1++W2) fi g f) (W1++W2)):=(BV hp hc hi hg hb hs).mono fun D σ0 H0 hh=>by
  obtain⟨F0,e0,fl,R0,hf,q0⟩:=hh
  unfold dG at hf
  obtain⟨⟨items,own,e1⟩,h1,hf⟩:=Option.bind_eq_some_iff.mp hf
  dsimp only at hf
  split at hf
  case isFalse=>cases hf
  case isTrue hW=>
  have hW':∀p∈own,p.1∉W1++W2:=fun p hp=>by
    have:=List.all_eq_true.mp hW p hp
    simpa using this
  refine⟨F0,e0,items,own,e1,R0,h1,fun J F1 H1 X1 R1 kp ok=>?_⟩
  have s1:∀j,j∈W1→j∈W1++W2:=fun j h=>List.mem_append.mpr (.inl h)
  have s2:∀j,j∈W2→j∈W1++W2:=fun j h=>List.mem_append.mpr (.inr h)
  have q1:lS K (W1++W2) σ0 F1 H1 e1 D fl:=q0.later (W1:=[]) X1.s (fun j h=>by cases h) fun j h=>h
  refine⟨fun i m σ H=>m=items.length - i∧i≤items.length∧EC K own σ0 F1 (fun e=>iz own g f (items.drop i) e=some fl) (fun σ F H e=>lS K (W1++W2) σ F H e D fl) σ H,
    ⟨items.length,by simp,Nat.zero_le _,.mk R1 kp (fun _ _=>rfl) (aw.refl _) hf q1⟩,?_⟩
  rintro i m σ H ⟨rfl,hi,⟨R,kp,hσ,sF,hf,q⟩⟩
  rename_i F e
  have held:va K σ0 F H own:=fun p hp=>by
    obtain⟨l,vs,g1,g2⟩:=R.held kp p hp
    exact⟨l,vs,by rw [←hσ p hp];exact g1,g2⟩
  obtain⟨go,stop,yld⟩:=ok F H sF R.sm held
  by_cases hlt:i < items.length
  · have hd:items.drop i=items[i]::items.drop (i+1):=List.drop_eq_getElem_cons hlt
    rw [hd] at hf
    unfold iz at hf
    obtain⟨e2,h2,hf⟩:=Option.bind_eq_some_iff.mp hf
    obtain⟨fl2,h3,hf⟩:=Option.bind_eq_some_iff.mp hf
    refine .inr ⟨go i hlt,EC K own σ0 F1 (fun e=>iz own g f (items.drop (i+1)) e=some fl) (fun σ F H e=>lS K (W1++W2) σ F H e D fl),
      fun σ' H' r=>⟨items.length - (i+1),by lia,rfl,hlt,r⟩,fun x H' hy=>?_⟩
    obtain⟨F',sH,sF',sm',fz,hx⟩:=yld i items[i] x H' (List.getElem?_eq_getElem hlt) hy
    obtain⟨R',X'⟩:=R.step sH sF' sm' fz
    refine⟨F',e,items[i],e2,R',hx,h2,fun σ2 x2 R2=>⟨F',e2,fl2,R2,h3,?_⟩⟩
    have q2:lS K (W1++W2) σ2 F' H' e2 D fl:=(q.later (W1:=[]) (W2:=W1++W2) X'.s (fun j h=>by cases h) fun j h=>h).later x2 s1 fun j h=>h
    have w2:∀p∈own,σ2[p.1]?=σ0[p.1]?:=fun p hp=>(x2.wr p.1 fun z=>hW' p hp (s1 _ z)).trans (hσ p hp)
    cases fl2 with
    | nx e3=>
      intro F3 H3 σ3 x3 R3
      dsimp only at hf
      split at hf
      case isFalse=>cases hf
      case isTrue kp3=>
      exact .mk R3 kp3 (fun p hp=>(x3.wr p.1 fun z=>hW' p hp (s2 _ z)).trans (w2 p hp)) (sF.trans (sF'.trans x3.sf)) hf (q2.later x3 s2 fun j h=>h)
    | ct e3=>
      intro F3 H3 σ3 x3 R3
      dsimp only at hf
      split at hf
      case isFalse=>cases hf
      case isTrue kp3=>
      exact .mk R3 kp3 (fun p hp=>(x3.wr p.1 fun z=>hW' p hp (s2 _ z)).trans (w2 p hp)) (sF.trans (sF'.trans x3.sf)) hf (q2.later x3 s2 fun j h=>h)
    | bk e3=>
      cases hf
      exact fun F3 H3 σ3 x3 R3=>q2 F3 H3 σ3 (x3.mono s2) R3
    | rt r e3=>
      cases hf
      exact fun F3 H3 σ3 v x3 R3 A3=>q2 F3 H3 σ3 v (x3.mono s2) R3 A3
  · have hd:items.drop i=[]:=List.drop_eq_nil_of_le (by lia)
    rw [hd] at hf
    cases hf
    exact .inl ⟨stop i (by lia),q F H σ dU.refl R⟩
end
end L2
namespace L2
open PySem PySem.Spec PyProof.Rows
def yj:Option (Option Sv)→Bool
  | some (some (.l _))=>true
  | _=>false
theorem yH{s:Option (Option Sv)}:yj s=true↔ ∃xs,s=some (some (.l xs)):=by
  unfold yj
  split
  · simp
  · rename_i h
    constructor
    · intro z;cases z
    · rintro⟨xs,rfl⟩;exact absurd rfl (h xs)
def kb(pos:Nat→Option Nat)(ei e:En):En:=e.mapIdx fun i s=>match s with
  | some (.l xs)=>match pos i with
    | some k=>(ei[k]?).join
    | none=>some (.l xs)
  | s=>s
theorem ck{pos:Nat→Option Nat}{ei e:En}{i:Nat}:(kb pos ei e)[i]?=(e[i]?).map fun s=>match s with
  | some (.l xs)=>match pos i with
    | some k=>(ei[k]?).join
    | none=>some (.l xs)
  | s=>s:=by unfold kb;rw [List.getElem?_mapIdx]
structure pK (σ:L2.St) (e:En) (σi:L2.St) (ei:En) (pos:Nat→Option Nat):Prop where
  a:∀(i k:Nat) (xs:List PyData),e[i]?=some (some (.l xs))→pos i=some k→σi[k]?=σ[i]?
  b:∀(k:Nat) (ys:List PyData),ei[k]?=some (some (.l ys))→∃(i:Nat) (xs:List PyData),e[i]?=some (some (.l xs))∧pos i=some k∧σi[k]?=σ[i]?
section
variable{K:PySem.W.Frag}{σ σi σi':L2.St}{F H F' H':Hp}{e ei ei':En}{pos:Nat→Option Nat}
def CM(e:En):Prop:=∀(i:Nat) (xss:List (List PyData)),e[i]?≠some (some (.n xss))
theorem pK.own(s:pK σ e σi ei pos)(hn:CM ei){a:Addr}{H H':Hp}(h:d9 σi ei H a):∃(i k:Nat) (xs:List PyData),e[i]?=some (some (.l xs))∧pos i=some k∧σ[i]?=some (some (.ref a)):=by
  obtain⟨k,⟨ys,h1,h2⟩ | ⟨xss,_,_,h1,_⟩⟩:=h
  · obtain⟨i,xs,g1,g2,g3⟩:=s.b k ys h1
    exact⟨i,k,xs,g1,g2,by rw [←g3];exact h2⟩
  · exact absurd h1 (hn k xss)
theorem qK(R:a9 K F H σ e)(s:pK σ e σi ei pos)(hnn:CM ei)(sf:aw F F')(dom:∀a,H' a=none→H a=none)(fr:∀a vs,F a=none→H a=some (.lst vs)→¬d9 σi ei H a→F' a=none)(lst:∀a vs,H a=some (.lst vs)→∃vs',H' a=some (.lst vs'))
    (tmp:∀a o,H a=some o→¬d9 σi ei H a→H' a=some o)(R':a9 K F' H' σi' ei')(hσ:∀(i k:Nat) (xs:List PyData),e[i]?=some (some (.l xs))→pos i=some k→σi'[k]?=σi[k]?)(hsh:∀(i k:Nat) (xs:List PyData),e[i]?=some (some (.l xs))→pos i=some k→∃ys,ei'[k]?=some (some (.l ys))):
    a9 K F' H' σ (kb pos ei' e)∧dS σ F H e F' H' (kb pos ei' e)∧∀a,d9 σ (kb pos ei' e) H' a→d9 σ e H a:=by
  have shp:∀i:Nat,(∃xs,(kb pos ei' e)[i]?=some (some (.l xs)))↔ (∃xs,e[i]?=some (some (.l xs))):=by
    intro i
    rw [ck]
    match h:e[i]? with
    | none=>simp
    | some none=>simp
    | some (some (.d x))=>simp
    | some (some (.n x))=>simp
    | some (some (.l xs))=>
      simp only [Option.map_some]
      constructor
      · intro _;exact⟨xs,rfl⟩
      · intro _
        match hp:pos i with
        | none=>exact⟨xs,rfl⟩
        | some k=>
          obtain⟨ys,g⟩:=hsh i k xs h hp
          exact⟨ys,by show some ((ei'[k]?).join)=_;rw [g];rfl⟩
  have oth:∀(i:Nat) (s:Sv),(∀xs,s≠.l xs)→((kb pos ei' e)[i]?=some (some s)↔ e[i]?=some (some s)):=by
    intro i s hs
    constructor
    · intro h
      rw [ck] at h
      match h1:e[i]?,h with
      | some (some (.d y)),h=>exact h
      | some (some (.n y)),h=>exact h
      | some (some (.l ys)),h=>
        simp only [Option.map_some,Option.some.injEq] at h
        match hp:pos i,h with
        | none,h=>cases h;exact absurd rfl (hs _)
        | some k,h=>
          obtain⟨zs,g⟩:=hsh i k ys h1 hp
          change (ei'[k]?).join=_ at h
          rw [g] at h;cases h;exact absurd rfl (hs _)
      | some none,h=>simp at h
      | none,h=>simp at h
    · intro h
      rw [ck,h]
      cases s with
      | d y=>rfl
      | n y=>rfl
      | l y=>exact absurd rfl (hs y)
  have out:∀i a,Fp σ e H i a→(∀k xs,e[i]?=some (some (.l xs))→pos i≠some k)→¬d9 σi ei H a:=by
    intro i a hi hp z
    obtain⟨j,k,ws,d1,d2,d3⟩:=s.own hnn (H':=H') z
    have:i=j:=R.fp i j a hi (.inl ⟨ws,d1,d3⟩)
    subst this
    exact hp k ws d1 d2
  have keep:∀i a o,Fp σ e H i a→(∀k xs,e[i]?=some (some (.l xs))→pos i≠some k)→H a=some o→H' a=some o:=fun i a o hi hp ha=>tmp a o ha (out i a hi hp)
  have sown:∀a,d9 σi ei H a→d9 σ e H a:=fun a z=>by
    obtain⟨j,k,ws,d1,d2,d3⟩:=s.own hnn (H':=H') z
    exact⟨j,.inl ⟨ws,d1,d3⟩⟩
  have fs:∀i a,Fp σ (kb pos ei' e) H' i a↔ Fp σ e H i a:=by
    intro i a
    have key:∀xss l,e[i]?=some (some (.n xss))→σ[i]?=some (some (.ref l))→H' l=H l:=fun xss l h1 h2=>by
      obtain⟨l',bs,g1,g2,g3,_⟩:=R.nst i xss h1
      rw [h2] at g1;cases g1
      rw [g3]
      exact keep i l _ (.inr ⟨xss,l,bs,h1,h2,g3,.inl rfl⟩) (fun k xs z=>by rw [h1] at z;cases z) g3
    constructor
    · rintro(⟨xs,h1,h2⟩ | ⟨xss,l,bs,h1,h2,h3,h4⟩)
      · obtain⟨ys,h⟩:=(shp i).mp ⟨xs,h1⟩
        exact .inl ⟨ys,h,h2⟩
      · have h1':=(oth i (.n xss) (fun _ z=>nomatch z)).mp h1
        exact .inr ⟨xss,l,bs,h1',h2,by rw [←key xss l h1' h2];exact h3,h4⟩
    · rintro(⟨xs,h1,h2⟩ | ⟨xss,l,bs,h1,h2,h3,h4⟩)
      · obtain⟨ys,h⟩:=(shp i).mpr ⟨xs,h1⟩
        exact .inl ⟨ys,h,h2⟩
      · exact .inr ⟨xss,l,bs,(oth i (.n xss) (fun _ z=>nomatch z)).mpr h1,h2,by rw [key xss l h1 h2];exact h3,h4⟩
  refine⟨⟨R'.sm,?_,fun i x h=>?_,fun i xs h=>?_,fun i xss h=>?_,fun i j a h1 h2=>R.fp i j a ((fs i a).mp h1) ((fs j a).mp h2)⟩,⟨sf,dom,fun a vs h1 h2 n=>fr a vs h1 h2 fun z=>n (sown a z),lst,fun a o h n=>tmp a o h fun z=>n (sown a z),shp,fun a ⟨i,h⟩=>.inl ⟨i,(fs i a).mp h⟩⟩,fun a ⟨i,h⟩=>⟨i,(fs i a).mp h⟩⟩
  · unfold kb;rw [List.length_mapIdx];exact R.len
  · obtain⟨v,g1,g2⟩:=R.dat i x ((oth i (.d x) (fun _ z=>nomatch z)).mp h)
    exact⟨v,g1,DA.mono sf g2⟩
  · obtain⟨ys,h1⟩:=(shp i).mp ⟨xs,h⟩
    obtain⟨l,vs,g1,g2,g3,g4⟩:=R.own i ys h1
    rw [ck,h1] at h
    simp only [Option.map_some,Option.some.injEq] at h
    match hp:pos i,h with
    | none,h=>
      cases h
      have np:∀k xs,e[i]?=some (some (Sv.l xs))→pos i≠some k:=fun k xs _ z=>by rw [hp] at z;cases z
      have fi:Fp σ e H i l:=.inl ⟨_,h1,g1⟩
      exact⟨l,vs,g1,fr l vs g2 g3 (out i l fi np),keep i l _ fi np g3,g4.mono sf⟩
    | some k,h=>
      obtain⟨zs,c1⟩:=hsh i k ys h1 hp
      change (ei'[k]?).join=_ at h
      rw [c1] at h;cases h
      obtain⟨l',vs',d1,d2,d3,d4⟩:=R'.own k _ c1
      rw [hσ i k ys h1 hp,s.a i k ys h1 hp] at d1
      exact⟨l',vs',d1,d2,d3,d4⟩
  · have h1:=(oth i (.n xss) (fun _ z=>nomatch z)).mp h
    obtain⟨l,bs,g1,g2,g3,g4,g5,g6,g7⟩:=R.nst i xss h1
    have np:∀k xs,e[i]?=some (some (Sv.l xs))→pos i≠some k:=fun k xs z=>by rw [h1] at z;cases z
    have fi:Fp σ e H i l:=.inr ⟨xss,l,bs,h1,g1,g3,.inl rfl⟩
    refine⟨l,bs,g1,fr l _ g2 g3 (out i l fi np),keep i l _ fi np g3,g4,g5,g6,fun k b ys q1 q2=>?_⟩
    obtain⟨c1,us,c2,c3⟩:=g7 k b ys q1 q2
    have fb:Fp σ e H i b:=.inr ⟨xss,l,bs,h1,g1,g3,.inr (List.mem_of_getElem? q1)⟩
    exact⟨fr b _ c1 c2 (out i b fb np),us,keep i b _ fb np c2,c3.mono sf⟩
end
def dj(e:En):List Rv→Option (List Sv)
  | []=>some []
  | .d x::r=>(dj e r).map (.d x::·)
  | .l xs::r=>(dj e r).map (.d (.list xs)::·)
  | .s i::r=>match e[i]? with
    | some (some (.l xs))=>(dj e r).map (.l xs::·)
    | _=>none
def aL:List Rv→List Nat
  | []=>[]
  | .s i::r=>i::aL r
  | .d _::r=>aL r
  | .l _::r=>aL r
def jo(rs:List Rv)(i:Nat):Option Nat:=rs.findIdx? fun r=>match r with
  | .s j=>j==i
  | _=>false
def noS:Rv→Prop
  | .s _=>False
  | _=>True
abbrev FM:=List Sv→Option (Rv × List Sv)
def bM(K:PySem.W.Frag)(n:Nat)(m:FM):Sp:=fun vs H Q _=>vs.length=n∧∃F as r as',a9 K F H (vs.map some) (as.map some)∧CM (as.map some)∧m as=some (r,as')∧noS r∧
  ∀F' H' v,dS (vs.map some) F H (as.map some) F' H' (as'.map some)→a9 K F' H' (vs.map some) (as'.map some)→cw K (vs.map some) H F' H' (as'.map some) r v→Q v H'
def bC:List Rv→List Sv→Bool
  | [],[]=>true
  | .s _::r,.l _::s=>bC r s
  | .d _::r,_::s=>bC r s
  | .l _::r,_::s=>bC r s
  | _,_=>false
def yR:Rv→Bool
  | .s _=>false
  | _=>true
def eY:List Rv→List Sv→En→En
  | .s i::r,.l ys::s,e=>eY r s (e.set i (some (.l ys)))
  | .d _::r,_::s,e=>eY r s e
  | .l _::r,_::s,e=>eY r s e
  | _,_,e=>e
def bU(n:Nat)(m:FM)(fs:FA):FE:=fun e=>(fs e).bind fun p=>(dj p.2 p.1).bind fun as=>(m as).bind fun z=>if p.1.length=n∧(aL p.1).Nodup∧bC p.1 z.2=true∧yR z.1=true then some (z.1,eY p.1 z.2 p.2) else none
theorem gX:∀{rs:List Rv} {as:List Sv},bC rs as=true→∀(k i:Nat),rs[k]?=some (.s i)→∃ys,as[k]?=some (.l ys)
  | [],[],_,k,i,h=>by simp at h
  | .s j::r,.l ys::s,h,k,i,hk=>by
    cases k with
    | zero=>exact⟨ys,rfl⟩
    | succ k=>simpa using gX (rs:=r) (as:=s) (by simpa [bC] using h) k i (by simpa using hk)
  | .d x::r,y::s,h,k,i,hk=>by
    cases k with
    | zero=>simp at hk
    | succ k=>simpa using gX (rs:=r) (as:=s) (by simpa [bC] using h) k i (by simpa using hk)
  | .l x::r,y::s,h,k,i,hk=>by
    cases k with
    | zero=>simp at hk
    | succ k=>simpa using gX (rs:=r) (as:=s) (by simpa [bC] using h) k i (by simpa using hk)
  | .s _::_,.d _::_,h,_,_,_=>by simp [bC] at h
  | .s _::_,[],h,_,_,_=>by simp [bC] at h
  | .d _::_,[],h,_,_,_=>by simp [bC] at h
  | .l _::_,[],h,_,_,_=>by simp [bC] at h
theorem kP{r0:Rv}{rs:List Rv}{i:Nat}:jo (r0::rs) i=if (match r0 with | .s j=>j==i | _=>false)=true then some 0 else(jo rs i).map (· +1):=by
  unfold jo;rw [List.findIdx?_cons]
theorem kQ{rs:List Rv}{i k:Nat}(h:jo rs i=some k):rs[k]?=some (.s i):=by
  unfold jo at h
  rw [List.findIdx?_eq_some_iff_getElem] at h
  obtain⟨hk,h1,_⟩:=h
  rw [List.getElem?_eq_getElem hk]
  split at h1
  · rename_i heq
    rw [heq]
    have:=eq_of_beq h1
    rw [this]
  · cases h1
theorem eW:∀{rs:List Rv} {i:Nat},i∈aL rs↔ Rv.s i∈rs
  | [],i=>by simp [aL]
  | .s j::r,i=>by simp [aL,eW (rs:=r)]
  | .d x::r,i=>by simp [aL,eW (rs:=r)]
  | .l x::r,i=>by simp [aL,eW (rs:=r)]
theorem fx:∀{rs:List Rv} {i k j:Nat},(aL rs).Nodup→rs[k]?=some (.s i)→rs[j]?=some (.s i)→k=j
  | [],i,k,j,_,h,_=>by simp at h
  | .s m::r,i,k,j,hn,h1,h2=>by
    simp only [aL,List.nodup_cons] at hn
    cases k with
    | zero=>
      simp at h1;subst h1
      cases j with
      | zero=>rfl
      | succ j=>exact absurd (eW.mpr (List.mem_of_getElem? (by simpa using h2))) hn.1
    | succ k=>
      cases j with
      | zero=>
        simp at h2;subst h2
        exact absurd (eW.mpr (List.mem_of_getElem? (by simpa using h1))) hn.1
      | succ j=>
        have:=fx (rs:=r) (i:=i) (k:=k) (j:=j) hn.2 (by simpa using h1) (by simpa using h2)
        lia
  | .d x::r,i,k,j,hn,h1,h2=>by
    cases k with
    | zero=>simp at h1
    | succ k=>
      cases j with
      | zero=>simp at h2
      | succ j=>
        have:=fx (rs:=r) (i:=i) (k:=k) (j:=j) (by simpa [aL] using hn) (by simpa using h1) (by simpa using h2)
        lia
  | .l x::r,i,k,j,hn,h1,h2=>by
    cases k with
    | zero=>simp at h1
    | succ k=>
      cases j with
      | zero=>simp at h2
      | succ j=>
        have:=fx (rs:=r) (i:=i) (k:=k) (j:=j) (by simpa [aL] using hn) (by simpa using h1) (by simpa using h2)
        lia
theorem xh{rs:List Rv}{i:Nat}(h:i∉aL rs):jo rs i=none:=by
  unfold jo
  rw [List.findIdx?_eq_none_iff]
  intro r hr
  cases r with
  | d x=>rfl
  | l x=>rfl
  | s j=>
    have:j≠i:=fun z=>h (by rw [←z];exact eW.mpr hr)
    simpa using this
theorem lD:∀{rs:List Rv} {as:List Sv} {e:En},(aL rs).Nodup→bC rs as=true→(∀j∈aL rs,∃xs,e[j]?=some (some (.l xs)))→eY rs as e=kb (jo rs) (as.map some) e
  | [],[],e,_,_,_=>by
    refine List.ext_getElem? fun i=>?_
    rw [ck]
    have:jo [] i=none:=rfl
    rw [this]
    simp only [eY]
    match e[i]? with
    | none=>rfl
    | some none=>rfl
    | some (some (.d x))=>rfl
    | some (some (.l x))=>rfl
    | some (some (.n x))=>rfl
  | .d x::r,y::s,e,hn,hl,hs=>by
    rw [show eY (.d x::r) (y::s) e=eY r s e from rfl,lD (by simpa [aL] using hn) (by simpa [bC] using hl) (fun j hj=>hs j (by simpa [aL] using hj))]
    refine List.ext_getElem? fun i=>?_
    rw [ck,ck,kP]
    cases jo r i<;>simp
  | .l x::r,y::s,e,hn,hl,hs=>by
    rw [show eY (.l x::r) (y::s) e=eY r s e from rfl,lD (by simpa [aL] using hn) (by simpa [bC] using hl) (fun j hj=>hs j (by simpa [aL] using hj))]
    refine List.ext_getElem? fun i=>?_
    rw [ck,ck,kP]
    cases jo r i<;>simp
  | .s k::r,.l ys::s,e,hn,hl,hs=>by
    simp only [aL,List.nodup_cons] at hn
    obtain⟨xs,hk⟩:=hs k (by simp [aL])
    have hlt:k < e.length:=(List.getElem?_eq_some_iff.mp hk).1
    rw [show eY (.s k::r) (.l ys::s) e=eY r s (e.set k (some (.l ys))) from rfl,lD hn.2 (by simpa [bC] using hl) (fun j hj=>by
      have z:k≠j:=fun z=>hn.1 (by rw [z];exact hj)
      rw [List.getElem?_set_ne z]
      exact hs j (by simp [aL,hj]))]
    refine List.ext_getElem? fun i=>?_
    rw [ck,ck,kP]
    by_cases z:k=i
    · subst z
      rw [List.getElem?_set_self hlt,hk,xh hn.1]
      simp
    · rw [List.getElem?_set_ne z]
      have:((match (Rv.s k) with | .s j=>j==i | _=>false)=true)=False:=by simp [z]
      simp only [this,if_false]
      cases jo r i<;>simp
  | .s _::_,.d _::_,_,_,h,_=>by simp [bC] at h
  | .s _::_,.n _::_,_,_,h,_=>by simp [bC] at h
  | .s _::_,[],_,_,h,_=>by simp [bC] at h
  | .d _::_,[],_,_,h,_=>by simp [bC] at h
  | .l _::_,[],_,_,h,_=>by simp [bC] at h
  | [],_::_,_,_,h,_=>by simp [bC] at h
theorem eK{e:En}:∀{rs:List Rv} {as:List Sv},dj e rs=some as→∀j∈aL rs,∃xs,e[j]?=some (some (.l xs))
  | [],_,_,j,h=>by simp [aL] at h
  | .d x::rs,as,q,j,h=>by
    obtain⟨as',q1,rfl⟩:=Option.map_eq_some_iff.mp q
    exact eK q1 j (by simpa [aL] using h)
  | .l x::rs,as,q,j,h=>by
    obtain⟨as',q1,rfl⟩:=Option.map_eq_some_iff.mp q
    exact eK q1 j (by simpa [aL] using h)
  | .s k::rs,as,q,j,h=>by
    unfold dj at q
    match he:e[k]?,q with
    | some (some (.l xs)),q=>
      obtain⟨as',q1,rfl⟩:=Option.map_eq_some_iff.mp q
      simp only [aL,List.mem_cons] at h
      rcases h with rfl | h
      · exact⟨xs,he⟩
      · exact eK q1 j h
theorem jw{e:En}:∀{rs:List Rv} {as:List Sv} {k i:Nat},dj e rs=some as→rs[k]?=some (.s i)→∃xs,as[k]?=some (.l xs)
  | [],_,k,i,_,h=>by simp at h
  | .d x::rs,as,k,i,q,h=>by
    obtain⟨as',q1,rfl⟩:=Option.map_eq_some_iff.mp q
    cases k with
    | zero=>simp at h
    | succ k=>simpa using jw (k:=k) (i:=i) q1 (by simpa using h)
  | .l x::rs,as,k,i,q,h=>by
    obtain⟨as',q1,rfl⟩:=Option.map_eq_some_iff.mp q
    cases k with
    | zero=>simp at h
    | succ k=>simpa using jw (k:=k) (i:=i) q1 (by simpa using h)
  | .s j::rs,as,k,i,q,h=>by
    unfold dj at q
    match he:e[j]?,q with
    | some (some (.l xs)),q=>
      obtain⟨as',q1,rfl⟩:=Option.map_eq_some_iff.mp q
      cases k with
      | zero=>exact⟨xs,rfl⟩
      | succ k=>simpa using jw (k:=k) (i:=i) q1 (by simpa using h)
section
variable{X:Cx}{K:PySem.W.Frag}{σ:L2.St}{H0 H:Hp}{e:En}
theorem lA:∀{rs:List Rv} {vs:List V} {as:List Sv} {F:Hp},a9 K F H σ e→dH K σ H0 F H e rs vs→dj e rs=some as→
    ∃F',a9 K F' H σ e∧aw F F'∧(∀a,F a=none→H0 a≠none→F' a=none)∧vs.length=as.length∧rs.length=as.length∧
      (∀(k:Nat) (x:PyData),as[k]?=some (.d x)→∃v,vs[k]?=some v∧DA K F' x v)∧∀(k:Nat) (xs:List PyData),as[k]?=some (.l xs)→∃i,rs[k]?=some (.s i)∧e[i]?=some (some (.l xs))∧∃v,vs[k]?=some v∧σ[i]?=some (some v)
  | [],vs,as,F,R,h,q=>by
    cases q
    have h':vs=[]:=h
    subst h'
    exact⟨F,R,aw.refl _,fun _ h _=>h,rfl,rfl,fun k x h=>by simp at h,fun k x h=>by simp at h⟩
  | .d x::rs,_,as,F,R,h,q=>by
    obtain⟨v,ws,rfl,h1,h2⟩:=h
    obtain⟨as',q1,rfl⟩:=Option.map_eq_some_iff.mp q
    obtain⟨F',R',s',f',l1,l2,d',o'⟩:=lA R h2 q1
    refine⟨F',R',s',f',by simp [l1],by simp [l2],fun k y hk=>?_,fun k ys hk=>?_⟩
    · cases k with
      | zero=>simp at hk;subst hk;exact⟨v,rfl,DA.mono s' h1⟩
      | succ k=>simpa using d' k y (by simpa using hk)
    · cases k with
      | zero=>simp at hk
      | succ k=>simpa using o' k ys (by simpa using hk)
  | .l xs::rs,_,as,F,R,h,q=>by
    obtain⟨v,ws,rfl,h1,h2⟩:=h
    obtain⟨as',q1,rfl⟩:=Option.map_eq_some_iff.mp q
    obtain⟨F',R',s',f',l1,l2,d',o'⟩:=lA R h2 q1
    have key:∃F2,a9 K F2 H σ e∧aw F' F2∧(∀a,F' a=none→H0 a≠none→F2 a=none)∧DA K F2 (.list xs) v:=by
      obtain⟨l,us,rfl,g1,g2,g3,g4,g5⟩:=h1
      cases hl:F' l with
      | none=>
        have h1':cw K σ H0 F' H e (.l xs) (.ref l):=⟨l,us,rfl,g1,hl,g3,aP.mono s' g4,g5⟩
        obtain⟨F2,R2,s2,d2,f2⟩:=h1'.frozen R'
        exact⟨F2,R2,s2,f2,d2⟩
      | some o=>
        have:=R'.sm _ _ hl
        rw [g3] at this;cases this
        exact⟨F',R',aw.refl _,fun _ h _=>h,dq.mpr ⟨l,us,rfl,.inl (.inl hl),aP.mono s' g4⟩⟩
    obtain⟨F2,R2,s2,f2,d2⟩:=key
    refine⟨F2,R2,s'.trans s2,fun a ha hn=>f2 a (f' a ha hn) hn,by simp [l1],by simp [l2],fun k y hk=>?_,fun k ys hk=>?_⟩
    · cases k with
      | zero=>simp at hk;subst hk;exact⟨v,rfl,d2⟩
      | succ k=>
        obtain⟨u,c1,c2⟩:=d' k y (by simpa using hk)
        exact⟨u,by simpa using c1,DA.mono s2 c2⟩
    · cases k with
      | zero=>simp at hk
      | succ k=>simpa using o' k ys (by simpa using hk)
  | .s i::rs,_,as,F,R,h,q=>by
    obtain⟨v,ws,rfl,h1,h2⟩:=h
    unfold dj at q
    match he:e[i]?,q with
    | some (some (.l xs)),q=>
      obtain⟨as',q1,rfl⟩:=Option.map_eq_some_iff.mp q
      obtain⟨F',R',s',f',l1,l2,d',o'⟩:=lA R h2 q1
      refine⟨F',R',s',f',by simp [l1],by simp [l2],fun k y hk=>?_,fun k ys hk=>?_⟩
      · cases k with
        | zero=>simp at hk
        | succ k=>simpa using d' k y (by simpa using hk)
      · cases k with
        | zero=>simp at hk;subst hk;exact⟨i,rfl,he,v,rfl,h1.1⟩
        | succ k=>simpa using o' k ys (by simpa using hk)
theorem eL{α:Type}{l:List α}{k:Nat}{x:α}:(l.map some)[k]?=some (some x)↔ l[k]?=some x:=by
  rw [List.getElem?_map]
  cases l[k]?<;>simp
theorem cw.noS{σ':L2.St}{e':En}{F H:Hp}{r:Rv}{v:V}(h:cw K σ' H0 F H e' r v)(n:L2.noS r)(ho:∀a,d9 σ e H a→H0 a≠none):cw K σ H0 F H e r v:=by
  cases r with
  | d x=>exact h
  | l xs=>
    obtain⟨l,vs,e1,h1,h2,h3,h4,_⟩:=h
    exact⟨l,vs,e1,h1,h2,h3,h4,fun z=>ho l z h1⟩
  | s i=>exact absurd n (by simp [L2.noS])
theorem gJ:∀{rs:List Rv} {as:List Sv},dj e rs=some as→CM (as.map some)
  | [],_,q=>by cases q;intro i xss h;simp at h
  | .d x::rs,as,q=>by
    obtain⟨as',q1,rfl⟩:=Option.map_eq_some_iff.mp q
    have ih:=gJ q1
    intro i xss h
    cases i with
    | zero=>simp at h
    | succ i=>exact ih i xss (by simpa using h)
  | .l x::rs,as,q=>by
    obtain⟨as',q1,rfl⟩:=Option.map_eq_some_iff.mp q
    have ih:=gJ q1
    intro i xss h
    cases i with
    | zero=>simp at h
    | succ i=>exact ih i xss (by simpa using h)
  | .s j::rs,as,q=>by
    unfold dj at q
    match he:e[j]?,q with
    | some (some (.l xs)),q=>
      obtain⟨as',q1,rfl⟩:=Option.map_eq_some_iff.mp q
      have ih:=gJ q1
      intro i xss h
      cases i with
      | zero=>simp at h
      | succ i=>exact ih i xss (by simpa using h)
theorem Cz{n:Nat}{m:FM}{fs:FA}{Q:VK}{E:XK}(h:fE K (bU n m fs) σ H Q):xX (bM K n m) [] E (fA K fs) σ H Q:=by
  obtain⟨F,e,z,e',R,hf,q⟩:=h
  unfold bU at hf
  obtain⟨⟨rs,e1⟩,h1,hf⟩:=Option.bind_eq_some_iff.mp hf
  obtain⟨as,h2,hf⟩:=Option.bind_eq_some_iff.mp hf
  obtain⟨⟨r,as'⟩,h3,hf⟩:=Option.bind_eq_some_iff.mp hf
  split at hf
  case isFalse=>cases hf
  case isTrue hc=>
  obtain⟨c1,c2,c3,c4⟩:=hc
  cases hf
  refine⟨F,e,rs,e1,R,h1,fun F1 H1 vs X1 R1 A1=>?_⟩
  obtain⟨F2,R2,s2,f2,l1,l2,d2,o2⟩:=lA R1 A1 h2
  have X2:=X1.frz s2 f2
  rw [List.append_nil]
  have hn:L2.noS r:=by
    cases r with
    | d x=>trivial
    | l x=>trivial
    | s i=>cases c4
  have nN:=gJ h2
  have RA:a9 K F2 H1 (vs.map some) (as.map some):=by
    refine⟨R2.sm,by simp [l1],fun k x hk=>?_,fun k xs hk=>?_,fun k xss hk=>absurd hk (nN k xss),fun k j l f1 f2=>?_⟩
    · obtain⟨v,g1,g2⟩:=d2 k x (eL.mp hk)
      exact⟨v,eL.mpr g1,g2⟩
    · obtain⟨i,g1,g2,v,g3,g4⟩:=o2 k xs (eL.mp hk)
      obtain⟨l,us,k1,k2,k3,k4⟩:=R2.own i xs g2
      rw [g4] at k1;cases k1
      exact⟨l,us,eL.mpr g3,k2,k3,k4⟩
    · obtain⟨xs,g1,g3⟩:=f1.resolve_right fun⟨xss,_,_,z,_⟩=>nN k xss z
      obtain⟨ys,g2,g4⟩:=f2.resolve_right fun⟨xss,_,_,z,_⟩=>nN j xss z
      obtain⟨i1,a1,a2,v1,a3,a4⟩:=o2 k xs (eL.mp g1)
      obtain⟨i2,b1,b2,v2,b3,b4⟩:=o2 j ys (eL.mp g2)
      have e1:=eL.mp g3
      have e2:=eL.mp g4
      rw [a3] at e1;cases e1
      rw [b3] at e2;cases e2
      have:i1=i2:=R2.inj i1 i2 xs ys l a2 b2 a4 b4
      subst this
      exact fx c2 a1 b1
  have sub:pK σ e1 (vs.map some) (as.map some) (jo rs):=by
    refine⟨fun i k xs g1 g2=>?_,fun k ys g1=>?_⟩
    · have g3:=kQ g2
      obtain⟨zs,hs⟩:=jw h2 g3
      obtain⟨i',a1,a2,v,a3,a4⟩:=o2 k zs hs
      rw [g3] at a1;cases a1
      rw [eL.mpr a3,a4]
    · obtain⟨i,a1,a2,v,a3,a4⟩:=o2 k ys (eL.mp g1)
      refine⟨i,ys,a2,?_,by rw [eL.mpr a3,a4]⟩
      cases hp:jo rs i with
      | none=>
        unfold jo at hp
        rw [List.findIdx?_eq_none_iff] at hp
        have:=hp _ (List.mem_of_getElem? a1)
        simp at this
      | some j=>rw [fx c2 (kQ hp) a1]
  refine⟨by rw [l1,←l2];exact c1,F2,as,r,as',RA,nN,h3,hn,fun F' H' v X3 R3 A3=>?_⟩
  obtain⟨R4,X4,o4⟩:=qK R2 sub nN X3.sf X3.dom X3.fr X3.lst X3.tmp R3 (fun _ _ _ _ _=>rfl) fun i k xs g1 g2=>by
    obtain⟨ys,g3⟩:=gX c3 k i (kQ g2)
    exact⟨ys,eL.mpr g3⟩
  have hb:=lD (e:=e1) c2 c3 (eK h2)
  rw [←hb] at R4 X4 o4
  exact q F' H' v (X2.trans X4) R4 ((A3.noS hn fun a z=>R2.ownH a (o4 a z)).weak X2.dom)
theorem aK{x:Str}{st:Stmt}{f:Addr}{fd:FuncData}{ps:List Str}{k n:Nat}{m:FM}{a:Expr}{es:List Expr}{fs:FA}{p pos:Pos}(h:aX X.K X.mg x st f fd ps)(G:aC X.prog X.w X.K X.mg X.base bH k f fd ps (bM K n m))(hr:cZ k X.A)(ha:PA X (a::es) (fA K fs))
    (hg:Gl X x)(hdb:(x==("__debug__":Str))=false)(he:starEach (a::es) X.env=(false,eval a X.env)::starEach es X.env)(hpl:(backTo pos (starEach es X.env)).any (·.1)=false):
    PE X (.Call (.Name x p) (a::es) [] pos) (fE K (bU n m fs)):=(E8 h G hr ha hg hdb he hpl).mono fun _ _ _ h=>Cz h
def tU:List Sv→En→Option (List Sv)
  | [],_=>some []
  | .d x::r,e=>(tU r e.tail).map (.d x::·)
  | .l _::r,e=>match e.head? with
    | some (some (.l ys))=>(tU r e.tail).map (.l ys::·)
    | _=>none
  | .n _::_,_=>none
def vF(n:Nat)(e:En):Rv→Option Rv
  | .s i=>if n≤i then match e[i]? with
      | some (some (.l xs))=>some (.l xs)
      | _=>none
    else none
  | r=>some r
def nI(W:List Nat)(as:List Sv):Bool:=W.all fun j=>match as[j]? with
  | some (.l _)=>false
  | _=>true
def gw(n k:Nat)(W:List Nat)(f:FS):FM:=fun as=>if as.length=n∧nI W as=true then(f (as.map some++List.replicate k none)).bind fun fl=>match fl with
    | .rt r e=>(vF n e r).bind fun r'=>(tU as e).map fun as'=>(r',as')
    | .nx e=>(tU as e).map fun as'=>(.d .none,as')
    | _=>none
  else none
theorem lK:∀{as as':List Sv} {e:En},tU as e=some as'→as'.length=as.length∧(∀(j:Nat) (x:PyData),as'[j]?=some (.d x)↔ as[j]?=some (.d x))∧(∀(j:Nat) (ys:List PyData),as'[j]?=some (.l ys)→(∃xs,as[j]?=some (.l xs))∧e[j]?=some (some (.l ys)))∧∀(j:Nat) (xs:List PyData),as[j]?=some (.l xs)→∃ys,as'[j]?=some (.l ys)
  | [],_,e,h=>by cases h;simp
  | .d x::r,_,e,h=>by
    obtain⟨s,h1,rfl⟩:=Option.map_eq_some_iff.mp h
    obtain⟨g1,g2,g3,g4⟩:=lK h1
    refine⟨by simp [g1],fun j y=>?_,fun j ys hj=>?_,fun j xs hj=>?_⟩
    · cases j with
      | zero=>simp
      | succ j=>simpa using g2 j y
    · cases j with
      | zero=>simp at hj
      | succ j=>
        obtain⟨c1,c2⟩:=g3 j ys (by simpa using hj)
        refine⟨by simpa using c1,?_⟩
        rw [List.getElem?_tail] at c2
        exact c2
    · cases j with
      | zero=>simp at hj
      | succ j=>simpa using g4 j xs (by simpa using hj)
  | .l xs::r,_,e,h=>by
    unfold tU at h
    match he:e.head?,h with
    | some (some (.l ys)),h=>
      obtain⟨s,h1,rfl⟩:=Option.map_eq_some_iff.mp h
      obtain⟨g1,g2,g3,g4⟩:=lK h1
      refine⟨by simp [g1],fun j y=>?_,fun j zs hj=>?_,fun j zs hj=>?_⟩
      · cases j with
        | zero=>simp
        | succ j=>simpa using g2 j y
      · cases j with
        | zero=>
          simp at hj;subst hj
          exact⟨⟨xs,rfl⟩,by rw [List.head?_eq_getElem?] at he;exact he⟩
        | succ j=>
          obtain⟨c1,c2⟩:=g3 j zs (by simpa using hj)
          refine⟨by simpa using c1,?_⟩
          rw [List.getElem?_tail] at c2
          exact c2
      · cases j with
        | zero=>exact⟨ys,rfl⟩
        | succ j=>simpa using g4 j zs (by simpa using hj)
  | .n x::r,_,e,h=>by simp [tU] at h
end
end L2
namespace L2
open PySem PySem.Spec PyProof.Rows
theorem el{α:Type}{l:List (Option α)}{k i:Nat}{x:α}(h:(l++List.replicate k none)[i]?=some (some x)):l[i]?=some (some x):=by
  rw [List.getElem?_append] at h
  split at h
  · exact h
  · rw [List.getElem?_replicate] at h
    split at h<;>simp at h
theorem ey{α:Type}{l:List (Option α)}{k i:Nat}{x:α}(h:l[i]?=some (some x)):(l++List.replicate k none)[i]?=some (some x):=by
  have hi:i < l.length:=(List.getElem?_eq_some_iff.mp h).1
  rw [List.getElem?_append_left hi];exact h
section
variable{K:PySem.W.Frag}{F H:Hp}{σ:L2.St}{e:En}{k:Nat}
theorem oI{i:Nat}{a:Addr}:Fp (σ++List.replicate k none) (e++List.replicate k none) H i a↔ Fp σ e H i a:=by
  constructor
  · rintro(⟨xs,h1,h2⟩ | ⟨xss,l,bs,h1,h2,h3⟩)
    · exact .inl ⟨xs,el h1,el h2⟩
    · exact .inr ⟨xss,l,bs,el h1,el h2,h3⟩
  · rintro(⟨xs,h1,h2⟩ | ⟨xss,l,bs,h1,h2,h3⟩)
    · exact .inl ⟨xs,ey h1,ey h2⟩
    · exact .inr ⟨xss,l,bs,ey h1,ey h2,h3⟩
theorem pd{a:Addr}:d9 (σ++List.replicate k none) (e++List.replicate k none) H a↔ d9 σ e H a:=⟨fun⟨i,h⟩=>⟨i,oI.mp h⟩,fun⟨i,h⟩=>⟨i,oI.mpr h⟩⟩
theorem a9.pad(R:a9 K F H σ e):a9 K F H (σ++List.replicate k none) (e++List.replicate k none):=by
  refine⟨R.sm,by simp [R.len],fun i x h=>?_,fun i xs h=>?_,fun i xss h=>?_,fun i j a h1 h2=>R.fp i j a (oI.mp h1) (oI.mp h2)⟩
  · obtain⟨v,g1,g2⟩:=R.dat i x (el h)
    exact⟨v,ey g1,g2⟩
  · obtain⟨l,vs,g1,g2⟩:=R.own i xs (el h)
    exact⟨l,vs,ey g1,g2⟩
  · obtain⟨l,bs,g1,g2⟩:=R.nst i xss (el h)
    exact⟨l,bs,ey g1,g2⟩
end
theorem pF:∀{as as':List Sv} {e:En},tU as e=some as'→CM (as'.map some)
  | [],_,e,h=>by cases h;intro i xss z;simp at z
  | .d x::r,_,e,h=>by
    obtain⟨s,h1,rfl⟩:=Option.map_eq_some_iff.mp h
    have ih:=pF h1
    intro i xss z
    cases i with
    | zero=>simp at z
    | succ i=>exact ih i xss (by simpa using z)
  | .l xs::r,_,e,h=>by
    unfold tU at h
    match he:e.head?,h with
    | some (some (.l ys)),h=>
      obtain⟨s,h1,rfl⟩:=Option.map_eq_some_iff.mp h
      have ih:=pF h1
      intro i xss z
      cases i with
      | zero=>simp at z
      | succ i=>exact ih i xss (by simpa using z)
  | .n x::r,_,e,h=>by simp [tU] at h
theorem qd{W:List Nat}{as:List Sv}(h:nI W as=true){j:Nat}{xs:List PyData}(hj:as[j]?=some (.l xs)):j∉W:=fun z=>by
  unfold nI at h
  have:=List.all_eq_true.mp h j z
  rw [hj] at this
  cases this
section
variable{P:Program}{w:World}{K:PySem.W.Frag}{mg:Str→Option Value}{base:Heap}
theorem aX.fn{x:Str}{st:Stmt}{f:Addr}{fd:FuncData}{N ps:List Str}{k n k0:Nat}{W:List Nat}{fb:FS}(h:aX K mg x st f fd ps)(S:ay N ps (am st))(hn:ps.length=n)(hN:N.length=n+k0)
    (hb:∀(cdv:Value) (A:Around) (outer:List Env) (s:Shared) (H:Hp) (E:XK),cZ k (A.deeper (envOfC x (am st) s.heap.objs.size f cdv))→lj (rm bH P w K mg base N x (am st) f cdv A outer s H E).nox (cR st) (fS K fb W)):
    aC P w K mg base bH (k+1) f fd ps (bM K n (gw n k0 W fb)):=by
  refine h.F.ok S (fun vs H Q E q=>?_) fun cdv A outer s H vs Q E hr hsp=>⟨_,hb cdv A outer s H E hr,?_⟩
  · rw [hn];exact q.1
  · obtain⟨hl,F,as,r,as',R,nN,hm,nr,q⟩:=hsp
    unfold gw at hm
    split at hm
    case isFalse=>cases hm
    case isTrue hc=>
    obtain⟨la,nl⟩:=hc
    obtain⟨fl,h1,hm⟩:=Option.bind_eq_some_iff.mp hm
    have hst:ii N vs=vs.map some++List.replicate k0 none:=by unfold ii;rw [hN,hl];congr 2;lia
    rw [hst]
    have key:∀{as':List Sv} {e':En},tU as e'=some as'→∀F' H' σ',dU W (vs.map some++List.replicate k0 none) F H (as.map some++List.replicate k0 none) σ' F' H' e'→a9 K F' H' σ' e'→
        dS (vs.map some) F H (as.map some) F' H' (as'.map some)∧a9 K F' H' (vs.map some) (as'.map some)∧∀a,d9 (vs.map some) (as'.map some) H' a→d9 (vs.map some) (as.map some) H a:=by
      intro as' e' hu F' H' σ' X' R'
      obtain⟨u1,u2,u3,u4⟩:=lK hu
      have uN:=pF hu
      have ow:∀a,d9 (vs.map some) (as'.map some) H' a→d9 (vs.map some) (as.map some) H a:=by
        rintro a ⟨j,⟨ys,c1,c2⟩ | ⟨xss,_,_,z,_⟩⟩
        · obtain⟨⟨xs,c3⟩,_⟩:=u3 j ys (eL.mp c1)
          exact⟨j,.inl ⟨xs,eL.mpr c3,c2⟩⟩
        · exact absurd z (uN j xss)
      have sg:∀(j:Nat) (xs:List PyData),as[j]?=some (.l xs)→σ'[j]?=(vs.map some)[j]?:=fun j xs hj=>by
        rw [X'.wr j (qd nl hj)]
        have hj2:j < (vs.map some).length:=by rw [List.length_map,hl,←la];exact(List.getElem?_eq_some_iff.mp hj).1
        rw [List.getElem?_append_left hj2]
      refine⟨⟨X'.sf,X'.dom,fun a vs h1 h2 hn=>X'.fr a vs h1 h2 fun z=>hn (pd.mp z),X'.lst,fun a o ha hn=>X'.tmp a o ha fun z=>hn (pd.mp z),fun j=>?_,fun a z=>.inl (ow a z)⟩,⟨R'.sm,?_,fun j y hj=>?_,fun j ys hj=>?_,fun j xss hj=>absurd hj (uN j xss),fun j i l f1 f2=>?_⟩,ow⟩
      · constructor
        · rintro⟨ys,hj⟩
          obtain⟨⟨xs,c⟩,_⟩:=u3 j ys (eL.mp hj)
          exact⟨xs,eL.mpr c⟩
        · rintro⟨xs,hj⟩
          obtain⟨ys,c⟩:=u4 j xs (eL.mp hj)
          exact⟨ys,eL.mpr c⟩
      · simp [u1,hl,la]
      · obtain⟨v,c1,c2⟩:=R.dat j y (eL.mpr ((u2 j y).mp (eL.mp hj)))
        exact⟨v,c1,DA.mono X'.sf c2⟩
      · obtain⟨⟨xs,c1⟩,c2⟩:=u3 j ys (eL.mp hj)
        obtain⟨l,us,d1,d2⟩:=R'.own j ys c2
        exact⟨l,us,by rw [←sg j xs c1];exact d1,d2⟩
      · obtain⟨xs,g1,g3⟩:=f1.resolve_right fun⟨xss,_,_,z,_⟩=>uN j xss z
        obtain⟨ys,g2,g4⟩:=f2.resolve_right fun⟨xss,_,_,z,_⟩=>uN i xss z
        obtain⟨⟨zs,c1⟩,c2⟩:=u3 j xs (eL.mp g1)
        obtain⟨⟨ws,c3⟩,c4⟩:=u3 i ys (eL.mp g2)
        exact R'.inj j i xs ys l c2 c4 (by rw [sg j zs c1];exact g3) (by rw [sg i ws c3];exact g4)
    refine⟨F,as.map some++List.replicate k0 none,fl,R.pad,h1,?_⟩
    cases fl with
    | bk e'=>cases hm
    | ct e'=>cases hm
    | nx e'=>
      obtain⟨as2,h2,hm⟩:=Option.map_eq_some_iff.mp hm
      cases hm
      intro F' H' σ' X' R'
      obtain⟨X2,R2,_⟩:=key h2 F' H' σ' X' R'
      exact q F' H' .non X2 R2 ((gU (K:=K) (F:=F')).mpr rfl)
    | rt r0 e'=>
      obtain⟨r1,h2,hm⟩:=Option.bind_eq_some_iff.mp hm
      obtain⟨as2,h3,hm⟩:=Option.map_eq_some_iff.mp hm
      cases hm
      intro F' H' σ' v X' R' A'
      obtain⟨X2,R2,ow2⟩:=key h3 F' H' σ' X' R'
      have noo:∀l,H l=none→¬d9 (vs.map some) (as'.map some) H' l:=fun l hl z=>R.ownH l (ow2 l z) hl
      refine q F' H' v X2 R2 ?_
      cases r0 with
      | d y=>cases h2;exact A'
      | l ys=>
        cases h2
        obtain⟨l,us,d0,d1,d2,d3,d4,_⟩:=A'
        exact⟨l,us,d0,d1,d2,d3,d4,noo l d1⟩
      | s i=>
        simp only [vF] at h2
        split at h2
        case isFalse=>cases h2
        case isTrue hi=>
        obtain⟨a1,xs,a2⟩:=A'
        rw [a2] at h2
        cases h2
        obtain⟨l,us,d1,d2,d3,d4⟩:=R'.own i _ a2
        rw [a1] at d1;cases d1
        suffices hl0:H l=none from⟨l,us,rfl,hl0,d2,d3,d4,noo l hl0⟩
        rcases X'.own l ⟨i,.inl ⟨_,a2,a1⟩⟩ with z | z
        · obtain⟨j,zf⟩:=pd.mp z
          obtain⟨ys,z1,z2⟩:=zf.resolve_right fun⟨xss,_,_,z,_⟩=>nN j xss z
          have z1':=eL.mp z1
          obtain⟨u1,u2,u3,u4⟩:=lK h3
          obtain⟨ws,w1⟩:=u4 j ys z1'
          obtain⟨_,w2⟩:=u3 j ws w1
          have hj2:j < vs.length:=by rw [hl,←la];exact(List.getElem?_eq_some_iff.mp z1').1
          have e3:σ'[j]?=some (some (.ref l)):=by
            rw [X'.wr j (qd nl z1'),List.getElem?_append_left (by simpa using hj2)]
            exact z2
          have:=R'.inj i j _ ws l a2 w2 a1 e3
          lia
        · exact z
end
def Dq:Option Sv→Option Sv
  | some (.n _)=>none
  | s=>s
def m4(cp:List (Nat × Str))(nT:Nat)(e:En):En:=cp.map (fun p=>Dq (e[p.1]?).join)++List.replicate nT none
def jU(cp:List (Nat × Str))(i:Nat):Option Nat:=cp.findIdx? fun p=>p.1==i
def dX(g:FG)(ft:FT)(fe:FE):List PyData→En→List PyData→Option (List PyData × En)
  | [],e,acc=>some (acc,e)
  | x::r,e,acc=>(g x e).bind fun e1=>(ft e1).bind fun b=>if b.1=true then(fe b.2).bind fun v=>(pW v.1).bind fun d=>if acc.length < 1000000 then dX g ft fe r v.2 (acc++[d]) else none else dX g ft fe r b.2 acc
def kf(cp:List (Nat × Str))(ei e:En):Bool:=cp.all fun p=> !yj e[p.1]? || yj ei[(jU cp p.1).getD 0]?
def bF(cp:List (Nat × Str))(nT:Nat)(fi:FI)(g:FG)(ft:FT)(fe:FE):FE:=fun e=>(fi e).bind fun p=>if (p.2.1.all fun q=> !(cp.any fun c=>c.1==q.1))=true then(dX g ft fe p.1 (m4 cp nT p.2.2) []).bind fun z=>if kf cp z.2 p.2.2=true then some (.l z.1,kb (jU cp) z.2 p.2.2) else none else none
section
variable{K:PySem.W.Frag}{F H:Hp}{σ:L2.St}{e:En}{cp:List (Nat × Str)}{nT:Nat}
theorem gA{i k:Nat}(h:jU cp i=some k):∃s,cp[k]?=some (i,s):=by
  unfold jU at h
  rw [List.findIdx?_eq_some_iff_getElem] at h
  obtain⟨hk,h1,_⟩:=h
  refine⟨cp[k].2,?_⟩
  rw [List.getElem?_eq_getElem hk]
  have:=eq_of_beq h1
  rw [←this]
theorem iV{k:Nat}{x:Sv}(h:(m4 cp nT e)[k]?=some (some x)):∃i s,cp[k]?=some (i,s)∧e[i]?=some (some x):=by
  unfold m4 at h
  have h:=el h
  rw [List.getElem?_map] at h
  obtain⟨p,h1,h2⟩:=Option.map_eq_some_iff.mp h
  refine⟨p.1,p.2,h1,?_⟩
  cases q:e[p.1]? with
  | none=>rw [q] at h2;cases h2
  | some y=>
    rw [q] at h2
    match y,h2 with
    | some (.d z),h2=>exact congrArg some h2
    | some (.l z),h2=>exact congrArg some h2
    | some (.n z),h2=>cases h2
    | none,h2=>cases h2
theorem jK:CM (m4 cp nT e):=by
  intro k xss h
  unfold m4 at h
  have h:=el h
  rw [List.getElem?_map] at h
  obtain⟨p,h1,h2⟩:=Option.map_eq_some_iff.mp h
  match (e[p.1]?).join,h2 with
  | some (.d z),h2=>cases h2
  | some (.l z),h2=>cases h2
  | some (.n z),h2=>cases h2
  | none,h2=>cases h2
theorem lI{k i:Nat}{s:Str}{v:V}(h:cp[k]?=some (i,s))(hv:σ[i]?=some (some v)):(gF cp nT σ)[k]?=some (some v):=by
  unfold gF
  refine ey ?_
  rw [List.getElem?_map,h]
  simp [hv]
theorem mJ{k i:Nat}{s:Str}{v:V}(h:cp[k]?=some (i,s))(hv:(gF cp nT σ)[k]?=some (some v)):σ[i]?=some (some v):=by
  unfold gF at hv
  have hv:=el hv
  rw [List.getElem?_map,h] at hv
  simp only [Option.map_some,Option.some.injEq] at hv
  cases q:σ[i]? with
  | none=>rw [q] at hv;cases hv
  | some y=>rw [q] at hv;exact congrArg some hv
theorem oF:∀{cp:List (Nat × Str)} {k j i:Nat} {s t:Str},(cp.map (·.1)).Nodup→cp[k]?=some (i,s)→cp[j]?=some (i,t)→k=j
  | [],k,j,i,s,t,_,h,_=>by simp at h
  | p::r,k,j,i,s,t,hn,h1,h2=>by
    simp only [List.map_cons,List.nodup_cons] at hn
    cases k with
    | zero=>
      simp at h1;subst h1
      cases j with
      | zero=>rfl
      | succ j=>
        have hm:(i,t)∈r:=List.mem_of_getElem? (i:=j) (by simpa using h2)
        exact absurd (List.mem_map.mpr ⟨(i,t),hm,rfl⟩) hn.1
    | succ k=>
      cases j with
      | zero=>
        simp at h2;subst h2
        have hm:(i,s)∈r:=List.mem_of_getElem? (i:=k) (by simpa using h1)
        exact absurd (List.mem_map.mpr ⟨(i,s),hm,rfl⟩) hn.1
      | succ j=>
        have:=oF (cp:=r) (k:=k) (j:=j) hn.2 (by simpa using h1) (by simpa using h2)
        lia
theorem a9.inn(R:a9 K F H σ e)(hn:(cp.map (·.1)).Nodup):a9 K F H (gF cp nT σ) (m4 cp nT e)∧pK σ e (gF cp nT σ) (m4 cp nT e) (jU cp):=by
  refine⟨⟨R.sm,by simp [gF,m4],fun k x h=>?_,fun k xs h=>?_,fun k xss h=>absurd h (jK k xss),fun k j l f1 f2=>?_⟩,⟨fun i k xs h1 h2=>?_,fun k ys h=>?_⟩⟩
  · obtain⟨i,s,h1,h2⟩:=iV h
    obtain⟨v,g1,g2⟩:=R.dat i x h2
    exact⟨v,lI h1 g1,g2⟩
  · obtain⟨i,s,h1,h2⟩:=iV h
    obtain⟨l,vs,g1,g2⟩:=R.own i xs h2
    exact⟨l,vs,lI h1 g1,g2⟩
  · obtain⟨xs,h1,h3⟩:=f1.resolve_right fun⟨xss,_,_,z,_⟩=>jK k xss z
    obtain⟨ys,h2,h4⟩:=f2.resolve_right fun⟨xss,_,_,z,_⟩=>jK j xss z
    obtain⟨i,s,a1,a2⟩:=iV h1
    obtain⟨i',s',b1,b2⟩:=iV h2
    have:i=i':=R.inj i i' xs ys l a2 b2 (mJ a1 h3) (mJ b1 h4)
    subst this
    exact oF hn a1 b1
  · obtain⟨s,g⟩:=gA h2
    obtain⟨l,vs,g1,_⟩:=R.own i xs h1
    rw [g1];exact lI g g1
  · obtain⟨i,s,h1,h2⟩:=iV h
    obtain⟨l,vs,g1,_⟩:=R.own i ys h2
    refine⟨i,ys,h2,?_,by rw [g1];exact lI h1 g1⟩
    cases hp:jU cp i with
    | none=>
      unfold jU at hp
      rw [List.findIdx?_eq_none_iff] at hp
      have:=hp _ (List.mem_of_getElem? h1)
      simp at this
    | some j=>
      obtain⟨t,g⟩:=gA hp
      rw [oF hn g h1]
theorem a9.putT(R:a9 K F H σ e){l:Addr}{ws:List V}(h1:F l=none)(h2:¬d9 σ e H l):a9 K F (a_ H l (.lst ws)) σ e∧∀a,d9 σ e (a_ H l (.lst ws)) a↔ d9 σ e H a:=
  R.keep (aw.refl F) (fun b o q=>by
    have z:b≠l:=fun z=>by rw [z,h1] at q;cases q
    rw [aI z];exact R.sm b o q) (fun a ⟨i,h⟩=>(R.fpAt h).1) fun a o ha q=>by
      have z:a≠l:=fun z=>h2 (by rw [←z];exact ha)
      rw [aI z];exact q
theorem dU.putT{W:List Nat}{σ':L2.St}{F' H':Hp}{e':En}(x:dU W σ F H e σ' F' H' e'){l:Addr}{o:HO}(h:H l=none)(ho:∀a,d9 σ' e' (a_ H' l o) a↔ d9 σ' e' H' a):dU W σ F H e σ' F' (a_ H' l o) e':=by
  refine⟨x.sf,fun a q=>?_,x.fr,fun a vs q=>?_,fun a u q n=>?_,fun a q=>x.own a ((ho a).mp q),x.wr⟩
  · by_cases z:a=l
    · rw [z];exact h
    · rw [aI z] at q;exact x.dom a q
  · have z:a≠l:=fun z=>by rw [z,h] at q;cases q
    rw [aI z];exact x.lst a vs q
  · have z:a≠l:=fun z=>by rw [z,h] at q;cases q
    rw [aI z];exact x.tmp a u q n
inductive CI (K:PySem.W.Frag) (W:List Nat) (σ0:L2.St) (F1 H1:Hp) (e0:En) (l:Addr) (P:Hp→En→List PyData→Prop) (σ':L2.St) (H':Hp):Prop
  | mk {F':Hp} {ei:En} {acc:List PyData} {vs:List V} (R:a9 K F' H' σ' ei) (X:dU W σ0 F1 H1 e0 σ' F' H' ei) (fl:F' l=none) (no:¬d9 σ' ei H' l) (hl:H' l=some (.lst vs)) (da:aP K F' acc vs) (hc:P F' ei acc):CI K W σ0 F1 H1 e0 l P σ' H'
theorem qT{Q:VK}{fi:FI}{g:FG}{W:List Nat}{ft:FT}{fe:FE}(hn:(cp.map (·.1)).Nodup)(hW:∀j∈W,cp.length≤j)(h:fE K (bF cp nT fi g ft fe) σ H Q):tP cp nT (fI K fi) (fG K g W) (fT K ft) (fE K fe) σ H Q:=by
  obtain⟨F0,e0,z,e',R0,hf,q⟩:=h
  unfold bF at hf
  obtain⟨⟨items,own,e1⟩,h1,hf⟩:=Option.bind_eq_some_iff.mp hf
  dsimp only at hf
  split at hf
  case isFalse=>cases hf
  case isTrue hO=>
  obtain⟨⟨out,eo⟩,h2,hf⟩:=Option.bind_eq_some_iff.mp hf
  dsimp only at hf
  split at hf
  case isFalse=>cases hf
  case isTrue hB=>
  cases hf
  refine⟨⟨F0,e0,items,own,e1,R0,h1,fun J F1 H1 X1 R1 kp ok=>?_⟩⟩
  intro l hl
  obtain⟨Ri,sub⟩:=R1.inn (nT:=nT) hn
  have hFl:F1 l=none:=R1.freeF hl
  let Iv:Nat→L2.St→Hp→Prop:=fun i=>CI K W (gF cp nT σ) F1 H1 (m4 cp nT e1) l fun _ ei acc=>dX g ft fe (items.drop i) ei acc=some (out,eo)
  have notown:∀p∈own,∀a,σ[p.1]?=some (some (.ref a))→¬d9 (gF cp nT σ) (m4 cp nT e1) H1 a:=by
    rintro p hp a ha ⟨k,zf⟩
    obtain⟨xs,c1,c2⟩:=zf.resolve_right fun⟨xss,_,_,z,_⟩=>jK k xss z
    obtain⟨i,s,d1,d2⟩:=iV c1
    have e2:=mJ d1 c2
    have:p.1=i:=R1.inj p.1 i p.2 xs a (kp p hp) d2 ha e2
    have hh:=List.all_eq_true.mp hO p hp
    simp only [Bool.not_eq_true',List.any_eq_false,beq_iff_eq] at hh
    exact hh (i,s) (List.mem_of_getElem? d1) this.symm
  refine⟨fun i m σ' H'=>m=items.length - i∧i≤items.length∧Iv i σ' H',⟨items.length,by simp,Nat.zero_le _,.mk (Ri.putT hFl (fun z=>(Ri.ownH l z) hl)).1 (dU.refl.putT hl (Ri.putT hFl (fun z=>(Ri.ownH l z) hl)).2) hFl (fun z=>(Ri.ownH l (((Ri.putT hFl (fun z=>(Ri.ownH l z) hl)).2 l).mp z)) hl) aG aP.nil h2⟩,?_⟩
  rintro i m σ' H' ⟨rfl,hi,⟨R',X',fl,no,hl',da,hc⟩⟩
  rename_i F' ei acc vs
  have held:va K σ F' H' own:=fun p hp=>by
    obtain⟨a,us,c1,c2,c3,c4⟩:=R1.own p.1 p.2 (kp p hp)
    exact⟨a,us,c1,X'.tmp a _ c3 (notown p hp a c1),c4.mono X'.sf⟩
  obtain⟨go,stop,yld⟩:=ok F' H' X'.sf R'.sm held
  by_cases hlt:i < items.length
  · have hd:items.drop i=items[i]::items.drop (i+1):=List.drop_eq_getElem_cons hlt
    rw [hd] at hc
    unfold dX at hc
    obtain⟨e2,c2,hc⟩:=Option.bind_eq_some_iff.mp hc
    obtain⟨⟨b,e3⟩,c3,hc⟩:=Option.bind_eq_some_iff.mp hc
    refine .inr ⟨go i hlt,Iv (i+1),fun σ2 H2 r=>⟨items.length - (i+1),by lia,rfl,hlt,r⟩,fun x H2 hy=>?_⟩
    obtain⟨F2,sH,sF2,sm2,fz,hx⟩:=yld i items[i] x H2 (List.getElem?_eq_getElem hlt) hy
    obtain⟨R2,X2⟩:=R'.step sH sF2 sm2 fz
    refine⟨F2,ei,items[i],e2,R2,hx,c2,fun σ3 X3 R3=>⟨F2,e2,b,e3,R3,c3,fun F4 H4 X4 R4=>?_⟩⟩
    have hlH2:H2 l=some (.lst vs):=sH _ _ hl'
    have no2:¬d9 σ' ei H2 l:=fun z=>by
      rcases X2.ow l z with z | z
      · exact no z
      · rw [hl'] at z;cases z
    have no3:¬d9 σ3 e2 H2 l:=fun z=>by
      rcases X3.own l z with z | z
      · exact no2 z
      · rw [hlH2] at z;cases z
    have fl2:F2 l=none:=fz l fl (by rw [hl'];simp)
    have hlH4:H4 l=some (.lst vs):=X4.tmp l _ hlH2 no3
    have fl4:F4 l=none:=X4.fr l vs fl2 hlH2 no3
    have no4:¬d9 σ3 e3 H4 l:=fun z=>by
      rcases X4.ow l z with z | z
      · exact no3 z
      · rw [hlH2] at z;cases z
    have E4:dU W (gF cp nT σ) F1 H1 (m4 cp nT e1) σ3 F4 H4 e3:=((X'.trans X2.s).trans X3).trans X4.s
    cases b with
    | false=>
      rw [if_neg (by simp)] at hc
      exact Dl (.mk R4 E4 fl4 no4 hlH4 (da.mono (sF2.trans X4.sf)) hc)
    | true=>
      rw [if_pos rfl] at hc
      obtain⟨⟨r,e5⟩,c5,hc⟩:=Option.bind_eq_some_iff.mp hc
      obtain⟨d,c6,hc⟩:=Option.bind_eq_some_iff.mp hc
      split at hc
      case isFalse=>cases hc
      case isTrue hlen=>
      refine Dm ⟨F4,e3,r,e5,R4,c5,fun F5 H5 v X5 R5 A5=>?_⟩
      have hlH5:H5 l=some (.lst vs):=X5.tmp l _ hlH4 no4
      have fl5:F5 l=none:=X5.fr l vs fl4 hlH4 no4
      have no5:¬d9 σ3 e5 H5 l:=fun z=>by
        rcases X5.ow l z with z | z
        · exact no4 z
        · rw [hlH4] at z;cases z
      obtain⟨F6,R6,s6,d6,f6⟩:=dH.frozen R5 (rs:=[r]) (vs:=[v]) ⟨v,[],rfl,A5,rfl⟩ (ug c6)
      have fl6:F6 l=none:=f6 l fl5 (by rw [hlH4];simp)
      have X6:=X5.frz s6 f6
      have ll:=da.len
      have sl:sizeLine=16777216:=sizeLine_eq
      have dv:DA K F6 d v:=by
        simp only [aP] at d6
        obtain⟨v',r',e',hv,_⟩:=d6
        cases e';exact hv
      obtain⟨R7,o7⟩:=R6.putT (ws:=vs++[v]) fl6 no5
      exact⟨vs,hlH5,by lia,.mk R7 ((E4.trans X6.s).putT hl o7) fl6 (fun z=>no5 ((o7 l).mp z)) aG ((da.mono (sF2.trans (X4.sf.trans (X5.sf.trans s6)))).append (aP.one dv)) hc⟩
  · have hd:items.drop i=[]:=List.drop_eq_nil_of_le (by lia)
    rw [hd] at hc
    cases hc
    refine .inl ⟨stop i (by lia),?_⟩
    obtain⟨R9,X9,o9⟩:=qK R1 sub jK X'.sf X'.dom X'.fr X'.lst X'.tmp R' (fun i k xs g1 g2=>X'.wr k fun z=>by
      obtain⟨s,g⟩:=gA g2
      have:=(List.getElem?_eq_some_iff.mp g).1
      have:=hW k z
      lia) fun i k xs g1 g2=>by
        obtain⟨s,g⟩:=gA g2
        unfold kf at hB
        have hb:=List.all_eq_true.mp hB _ (List.mem_of_getElem? g)
        simp only [g1,g2,Option.getD_some,yj,Bool.not_true,Bool.false_or] at hb
        exact yH.mp hb
    exact q F' H' (.ref l) (X1.trans X9) R9 ⟨l,vs,rfl,X1.dom l hl,fl,hl',da,fun z=>R1.ownH l (o9 l z) hl⟩
end
end L2
namespace L2
open PySem PySem.Spec PyProof.Rows
section
variable{X:Cx}{K:PySem.W.Frag}{a b:Expr}{es:List Expr}{fa fb:FE}{fs:FA}{pos p p2 p3:Pos}{lo hi:Option Expr}
def ul:En→Rv→Option Rv:=fun _ x=>(c9 x).map fun i=>.d (.int (-i))
theorem Dv:CW K (rU fun i=>.int (-i)) ul:=by
  intro σ H0 F H e x z v Q R A hg q
  obtain⟨i,h5,h4⟩:=Option.map_eq_some_iff.mp hg
  cases h4
  exact⟨i,c_ A h5,q F H _ (dS.refl _ _ _ _) R mC⟩
theorem xo(ha:PE X a (fE K fa)):PE X (.UnaryOp .USub a pos) (fE K (pI ul fa)):=DP Cy Dv ha
theorem bY(hK:X.K=K)(ha:PE X a (fE K fa))(hb:PE X b (fE K fb)):PE X (.BinOp a .Add b pos) (fE K (ao bu fa fb)):=nL (hK ▸ y4) C0 ha hb
theorem qj(ha:PE X a (fE K fa))(hb:PE X b (fE K fb)):PE X (.BinOp a .Sub b pos) (fE K (ao fM fa fb)):=nL BG D8 ha hb
theorem bP(hK:X.K=K)(ha:PE X a (fE K fa))(hb:PE X b (fE K fb)):PE X (.BinOp a .Mult b pos) (fE K (ao a' fa fb)):=nL (hK ▸ y_) Du ha hb
theorem fP(ha:PE X a (fE K fa))(hb:PE X b (fE K fb)):PE X (.BinOp a .FloorDiv b pos) (fE K (ao eu fa fb)):=nL wU AY ha hb
theorem a7(ha:PE X a (fE K fa))(hb:PE X b (fE K fb)):PE X (.BinOp a .Mod b pos) (fE K (ao be fa fb)):=nL y9 Dt ha hb
theorem xq(ha:PE X a (fE K fa))(hb:PE X b (fE K fb)):PE X (.BinOp a .Pow b pos) (fE K (ao oT fa fb)):=nL BE DL ha hb
theorem aH(hK:X.K=K)(ha:PE X a (fE K fa))(hb:PE X b (fE K fb))(hs:oq b):PE X (.Subscript a b pos) (fE K (ao bz fa fb)):=DO (hK ▸ EY) EZ ha hb hs
theorem g9{fl fh:FO}(hK:X.K=K)(he:PE X a (fE K fa))(hl:PO X lo (fO K fl))(hh:PO X hi (fO K fh)):PE X (.Subscript a (.Slice lo hi none p2) pos) (fE K (mT fa fl fh)):=by subst hK;exact xw he hl hh
structure mX (X:Cx) (K:PySem.W.Frag) (op:CmpOp) (g:En→Rv→Rv→Option Rv):Prop where
  ex:∃r,fV X (compareOp op) r∧fR K r g
theorem pT:mX X K .Lt qX:=⟨_,DB,E6⟩
theorem vw:mX X K .Gt sU:=⟨_,Dz,ES⟩
theorem AR:mX X K .GtE AZ:=⟨_,Dy,ER⟩
theorem jB{k:Nat}(hK:X.K=K)(hr:cZ k X.A):mX X K .Eq (bW false):=⟨_,hK ▸ Bx hr,Aq⟩
theorem vx{k:Nat}(hK:X.K=K)(hr:cZ k X.A):mX X K .NotEq (bW true):=⟨_,hK ▸ BD hr,Aq⟩
theorem C5{k:Nat}(hK:X.K=K)(hr:cZ k X.A):mX X K .In (yi false):=⟨_,hK ▸ By hr,EW⟩
theorem C6:mX X K .Is Dc:=⟨_,Bz,EX⟩
theorem yw:mX X K .IsNot lV:=⟨_,uH,yI⟩
theorem gB{op:CmpOp}{g:En→Rv→Rv→Option Rv}(h:mX X K op g)(ha:PE X a (fE K fa))(hb:PE X b (fE K fb))(hm:behindInMarks op b=false):PE X (.Compare a [op] [b] pos) (fE K (ao g fa fb)):=by
  obtain⟨r,h1,h2⟩:=h.ex;exact B7 h1 h2 ha hb hm
theorem bj{op:CmpOp}{g:En→Rv→Rv→Option Rv}(h:mX X K op g)(ha:PE X a (fE K fa))(hb:PE X b (fE K fb))(hm:behindInMarks op b=false):PT X (.Compare a [op] [b] pos) (fT K (aJ (ao g fa fb))):=by
  obtain⟨r,h1,h2⟩:=h.ex;exact B8 h1 h2 ha hb hm
structure lL (X:Cx) (K:PySem.W.Frag) (x:Str) (g:En→List Rv→Option Rv):Prop where
  ex:(∃id r,et X (.builtin id) r∧dW K r g∧bootBuiltins x=some (.builtin id))∨∃T r,et X (.type T) r∧dW K r g∧bootBuiltins x=some (.type T)
theorem bJ{x:Str}{g:En→List Rv→Option Rv}(h:lL X K x g)(hg:Gl X x)(hm:X.mg x=none)(ha:PA X (a::es) (fA K fs))(hn:x≠"__name__")(hdb:(x==("__debug__":Str))=false)
    (he:starEach (a::es) X.env=(false,eval a X.env)::starEach es X.env)(hpl:(backTo pos (starEach es X.env)).any (·.1)=false):PE X (.Call (.Name x p) (a::es) [] pos) (fE K (aW g fs)):=by
  rcases h.ex with ⟨id,r,h1,h2,h3⟩ | ⟨T,r,h1,h2,h3⟩
  · exact xr h1 h2 hg hm h3 ha hn hdb he hpl
  · exact uM h1 h2 hg hm h3 ha hn hdb he hpl
theorem b_len(hK:X.K=K):lL X K "len" (g1 ip):=⟨.inl ⟨_,_,hK ▸ oD,Dp,PySem.boot_len⟩⟩
theorem b_abs:lL X K "abs" (g1 rp):=⟨.inl ⟨_,_,vy,CZ,PyProof.Rows.boot_abs⟩⟩
theorem b_min(hc:X.calm=true):lL X K "min" (g2 wa):=⟨.inl ⟨_,_,ue hc,Ds,PyProof.Rows.boot_min⟩⟩
theorem b_max(hc:X.calm=true):lL X K "max" (g2 rE):=⟨.inl ⟨_,_,ud hc,Dr,PyProof.Rows.boot_max⟩⟩
theorem b_int:lL X K "int" (g1 p6):=⟨.inr ⟨_,_,uc,Df,PyProof.Rows.boot_int⟩⟩
theorem b_tuple(hK:X.K=K):lL X K "tuple" (g1 eF):=⟨.inr ⟨_,_,hK ▸ mY,zY,PyProof.Rows.boot_tuple⟩⟩
theorem b_list(hK:X.K=K):lL X K "list" (g1 nB):=⟨.inr ⟨_,_,hK ▸ oE,Bi,PyProof.Rows.boot_list⟩⟩
theorem b_all{k:Nat}(hK:X.K=K)(hr:cZ k X.A):lL X K "all" (g1 (gh nv)):=⟨.inl ⟨_,_,vz hr hK,C1,vm⟩⟩
theorem b_any{k:Nat}(hK:X.K=K)(hr:cZ k X.A):lL X K "any" (g1 (gh pZ)):=⟨.inl ⟨_,_,vA hr hK,C2,vn⟩⟩
theorem b_repr{k:Nat}(hK:X.K=K)(hr:cZ k X.A):lL X K "repr" (g1 lc):=⟨.inl ⟨_,_,hK ▸ rl hr,Cd,PyProof.Rows.boot_repr⟩⟩
abbrev bB:FT:=fun e=>some (true,e)
theorem vc.mono{ifs:List Expr}{t t':TT}(h:vc X ifs t)(m:∀σ H Q,t' σ H Q→t σ H Q):vc X ifs t':=fun pins s σ H Q I q=>h pins s σ H Q I (m σ H Q q)
theorem em:vc X [] (fT K bB):=zG.mono fun σ H Q h=>by
  obtain⟨F,e,b,e',R,hf,q⟩:=h
  cases hf
  exact q F H (dS.refl _ _ _ _) R
theorem sY{c:Expr}{ft:FT}(h:PT X c (fT K ft)):vc X [c] (fT K ft):=zH h
theorem fN{elt iter tg:Expr}{ifs:List Expr}{scope:Scope}{fi:FI}{g:FG}{ft:FT}{fe:FE}{W:List Nat}(sc0:Scope)(N0:List Str)(cp:List (Nat × Str))(tgN:List Str)
    (hc:X.calm=true)(hsc:X.env.scope=sc0)(hN0:X.N=N0)(hi:PI X tg iter (fI K fi))
    (hg:∀C s0 H0 fp,PG (aQ X scope cp tgN C s0 H0 fp) tg (fG K g W))
    (ht:∀C s0 H0 fp,vc (aQ X scope cp tgN C s0 H0 fp) ifs (fT K ft))
    (he:∀C s0 H0 fp,PE (aQ X scope cp tgN C s0 H0 fp) elt (fE K fe))
    (hk:scope.kind=.function)(hcell:∀y∈scope.names,y.2≠.cell)(hnames:∀y∈scope.names,y.2=.local→scope.names.lookup y.1=some .local)
    (hfr:∀y∈scope.names,y.2=.free→scope.names.lookup y.1=some .free∧sc0.names.lookup y.1=some .cell)
    (hcp:∀p∈cp,N0[p.1]?=some p.2)(hcq:∀p∈cp,sc0.names.lookup p.2=some .cell∧scope.names.lookup p.2=some .free)(hnd:(cp.map (·.1)).Nodup)(hW:∀j∈W,cp.length≤j)
    (hs:∀x,foldedSetIterable iter X.env x=pure x):
    PE X (.ListComp elt [⟨tg,iter,ifs,0⟩] scope pos) (fE K (bF cp tgN.length fi g ft fe)):=(zm sc0 N0 cp tgN hc hsc hN0 hi hg ht he hk hcell hnames hfr hcp hcq hs).mono fun _ _ _ h=>qT hnd hW h
theorem nK{ix:Nat}{nm:Str}{posn poss:Pos}{elt iter tg:Expr}{ifs:List Expr}{scope:Scope}{fi:FI}{g:FG}{ft:FT}{fe:FE}{W:List Nat}(sc0:Scope)(N0:List Str)(cp:List (Nat × Str))(tgN:List Str)
    (hc:X.calm=true)(hsc:X.env.scope=sc0)(hN0:X.N=N0)(hi:PI X tg iter (fI K fi))
    (hg:∀C s0 H0 fp,PG (aQ X scope cp tgN C s0 H0 fp) tg (fG K g W))
    (ht:∀C s0 H0 fp,vc (aQ X scope cp tgN C s0 H0 fp) ifs (fT K ft))
    (he:∀C s0 H0 fp,PE (aQ X scope cp tgN C s0 H0 fp) elt (fE K fe))
    (hk:scope.kind=.function)(hcell:∀y∈scope.names,y.2≠.cell)(hnames:∀y∈scope.names,y.2=.local→scope.names.lookup y.1=some .local)
    (hfr:∀y∈scope.names,y.2=.free→scope.names.lookup y.1=some .free∧sc0.names.lookup y.1=some .cell)
    (hcp:∀p∈cp,N0[p.1]?=some p.2)(hcq:∀p∈cp,sc0.names.lookup p.2=some .cell∧scope.names.lookup p.2=some .free)(hnd:(cp.map (·.1)).Nodup)(hW:∀j∈W,cp.length≤j)
    (hNd:X.N.Nodup)(hix:X.N[ix]?=some nm)(hlc:X.env.scope.names.lookup nm=some .local)(hsw:swapsWith (.ListComp elt [⟨tg,iter,ifs,0⟩] scope pos) (some (.Name nm posn)) poss.line X.env=pure true)
    (hs:∀x,foldedSetIterable iter X.env x=pure x):
    PS X (.Assign [.Name nm posn] (.ListComp elt [⟨tg,iter,ifs,0⟩] scope pos) poss) (fS K (aZ ix (bF cp tgN.length fi g ft fe)) [ix]):=(rR sc0 N0 cp tgN hc hsc hN0 hi hg ht he hk hcell hnames hfr hcp hcq hNd hix hlc hsw hs).mono fun D σ H h=>by
  obtain⟨F,e,fl,R,hf,q⟩:=h
  unfold aZ at hf
  obtain⟨⟨r,e1⟩,h1,hf⟩:=Option.bind_eq_some_iff.mp hf
  obtain⟨e2,h2,hf⟩:=Option.map_eq_some_iff.mp hf
  cases hf
  refine qT hnd hW ⟨F,e,r,e1,R,h1,fun F1 H1 v X1 R1 A1=>?_⟩
  obtain⟨x,R2⟩:=xn R X1 R1 A1 h2
  exact q F1 H1 _ x R2
variable{o:Expr}{fo:FE}{apos cpos:Pos}
theorem dP(hK:X.K=K)(ho:PE X o (fE K fo))(ha:PA X (a::es) (fA K fs))(hbase:attributeBase o "append" X.env (eval o X.env)=eval o X.env)
    (hfew:((backTo cpos (starEach (a::es) X.env)).all (fun x=> !x.1)&&(backToKw cpos (keywordEach [] X.env)).all (fun x=>x.1.isSome)
      &&decide ((a::es).length+([]:List Keyword).length+(if ([]:List Keyword).isEmpty then 0 else 1) < 30))=true)
    (hline:(apos.endLine==cpos.line)=true)(hs:starEach (a::es) X.env=(false,eval a X.env)::starEach es X.env)(hplain:(backTo cpos (starEach es X.env)).any (·.1)=false):
    PE X (.Call (.Attribute o "append" apos) (a::es) [] cpos) (fE K (dZ cv fo fs)):=by
  subst hK;exact Az PySem.F.slot_list_append PySem.F.type_list_append kM vd ho ha hbase hfew hline hs hplain
theorem zJ(hK:X.K=K)(ho:PE X o (fE K fo))(ha:PA X (a::es) (fA K fs))(hbase:attributeBase o "pop" X.env (eval o X.env)=eval o X.env)
    (hfew:((backTo cpos (starEach (a::es) X.env)).all (fun x=> !x.1)&&(backToKw cpos (keywordEach [] X.env)).all (fun x=>x.1.isSome)
      &&decide ((a::es).length+([]:List Keyword).length+(if ([]:List Keyword).isEmpty then 0 else 1) < 30))=true)
    (hline:(apos.endLine==cpos.line)=true)(hs:starEach (a::es) X.env=(false,eval a X.env)::starEach es X.env)(hplain:(backTo cpos (starEach es X.env)).any (·.1)=false):
    PE X (.Call (.Attribute o "pop" apos) (a::es) [] cpos) (fE K (dZ jl fo fs)):=by
  subst hK;exact Az PySem.F.slot_list_pop PySem.F.type_list_pop wB zy ho ha hbase hfew hline hs hplain
end
end L2
namespace L2
open PySem PySem.Spec PyProof.Rows
theorem rX{K:PySem.W.Frag}{H:Hp}{a:Addr}{ns:List Int}{m:FM}{as':List Sv}{Q:VK}{E:XK}(hS:dg K H a (ns.map V.int))(hm:m [.d (.list (ns.map .int))]=some (.d (.bool true),as'))(q:∀H',Q (.bl true) H'):bM K 1 m [.ref a] H Q E:=by
  refine⟨rfl,H,[.d (.list (ns.map .int))],_,as',?_,?_,hm,trivial,fun F' H' v X' R' A'=>?_⟩
  · refine⟨aw.refl _,rfl,fun i x h=>?_,fun i xs h=>?_,fun i xss h=>?_,fun i j l f1 _=>?_⟩
    · match i,h with
      | 0,h=>
        simp at h;subst h
        exact⟨.ref a,rfl,dq.mpr ⟨a,_,rfl,hS,aP.ints.mpr rfl⟩⟩
      | i+1,h=>simp at h
    · match i,h with
      | 0,h=>simp at h
      | i+1,h=>simp at h
    · match i,h with
      | 0,h=>simp at h
      | i+1,h=>simp at h
    · rcases f1 with ⟨_,h,_⟩ | ⟨_,_,_,h,_⟩
      · match i,h with
        | 0,h=>simp at h
        | i+1,h=>simp at h
      · match i,h with
        | 0,h=>simp at h
        | i+1,h=>simp at h
  · intro i xss h
    match i,h with
    | 0,h=>simp at h
    | i+1,h=>simp at h
  · rw [dh.mp (show DA K F' (.bool true) v from A')];exact q H'
end L2
namespace L2
open PySem PySem.Spec PyProof.Rows
section
variable{K:PySem.W.Frag}{σ:L2.St}{H0 F H F' H':Hp}{e e':En}
end
section
variable{X:Cx}{K:PySem.W.Frag}{a b:Expr}{es:List Expr}{fa fb:FE}{fs:FA}{pos p p2 p3 pos':Pos}{x:Str}{i:Nat}
def nC(k:Int):En→Option Int:=fun _=>some k
end
end L2
namespace L2
open PySem PySem.Spec PyProof.Rows
theorem kr{C:Int→Int→Bool}{f:Int→Int→PyData}{e:En}{i j:Int}(h:C i j=true):gI C f e (.d (.int i)) (.d (.int j))=some (.d (f i j)):=by simp [gI,c9,h]
theorem ff{e:En}{i j:Int}:bu e (.d (.int i)) (.d (.int j))=some (.d (.int (i+j))):=rfl
theorem jf{e:En}{i j:Int}:fM e (.d (.int i)) (.d (.int j))=some (.d (.int (i - j))):=rfl
theorem aN{e:En}{i j:Int}(h:jm i j=true):a' e (.d (.int i)) (.d (.int j))=some (.d (.int (i*j))):=by
  unfold a' uZ wc;rw [kr h];rfl
theorem kN{i j:Int}(h1: -(2 ^ 64) < i)(h2:i < 2 ^ 64):jm i j=true:=by
  have:hU i=true:=by unfold hU;rw [decide_eq_true h1,decide_eq_true h2];rfl
  unfold jm;rw [this];simp
theorem iF{i j:Int}(h1: -(2 ^ 64) < j)(h2:j < 2 ^ 64):jm i j=true:=by
  have:hU j=true:=by unfold hU;rw [decide_eq_true h1,decide_eq_true h2];rfl
  unfold jm;rw [this];simp
theorem dO{i j:Int}(h1:Bt 4000 i)(h2:Bt 4000 j):jm i j=true:=by unfold jm;rw [gQ.mpr h1,gQ.mpr h2];simp
theorem aM{e:En}{i j:Int}(h:0 < j):be e (.d (.int i)) (.d (.int j))=some (.d (.int (i % j))):=by
  unfold be;rw [kr (by simp;lia)]
  rw [Int.fmod_eq_emod_of_nonneg i (by lia)]
theorem ef{e:En}{i j:Int}(h:0 < j)(h2:Bt 8000 j):eu e (.d (.int i)) (.d (.int j))=some (.d (.int (i / j))):=by
  unfold eu;rw [kr (by simp [gQ.mpr h2];lia)]
  rw [Int.fdiv_eq_ediv_of_nonneg i (by lia)]
theorem dJ{e:En}{i j:Int}{neg:Bool}:bW neg e (.d (.int i)) (.d (.int j))=some (.d (.bool (if neg then !(i==j) else i==j))):=by
  unfold bW;simp [hZ,SeqAt.shaped,PyData.canLay0,PyData.depth,PyData.eqv]
theorem oS{e:En}{i j:Int}:qX e (.d (.int i)) (.d (.int j))=some (.d (.bool (decide (i < j)))):=rfl
theorem oQ{e:En}{i j:Int}:F8 e (.d (.int i)) (.d (.int j))=some (.d (.bool (decide (i≤j)))):=rfl
theorem oP{e:En}{i j:Int}:sU e (.d (.int i)) (.d (.int j))=some (.d (.bool (decide (j < i)))):=rfl
theorem oO{e:En}{i j:Int}:AZ e (.d (.int i)) (.d (.int j))=some (.d (.bool (decide (j≤i)))):=rfl
theorem lY{e:En}{i j:Int}:g2 wa e [.d (.int i),.d (.int j)]=some (.d (.int (min i j))):=by
  show some (Rv.d (.int (if j < i then j else i)))=_
  congr 3
  split<;>lia
theorem lX{e:En}{i j:Int}:g2 rE e [.d (.int i),.d (.int j)]=some (.d (.int (max i j))):=by
  show some (Rv.d (.int (if j > i then j else i)))=_
  congr 3
  split<;>lia
theorem lZ{e:En}{i:Int}:ul e (.d (.int i))=some (.d (.int (-i))):=rfl
theorem ku{e:En}{b:Bool}:g1 p6 e [.d (.bool b)]=some (.d (.int (if b then 1 else 0))):=rfl
theorem lU{e:En}{i:Int}:g1 rp e [.d (.int i)]=some (.d (.int i.natAbs)):=by
  show some (Rv.d (.int (if i < 0 then -i else i)))=_
  congr 3
  split<;>lia
theorem ja{j:Int}(h1:0 < j)(h2:j < 2 ^ 64):Bt 8000 j:=Bt.mono (m:=64) (by unfold Bt;lia) (by decide)
theorem gL{α:Type}{xs:List α}{i:Int}(h0:0≤i)(h:i < xs.length):atI xs i=xs[i.toNat]?:=by
  unfold atI Dn
  rw [if_pos h0,if_pos h];rfl
theorem vV{e:En}{i:Nat}{xs:List PyData}{neg:Bool}(h:e[i]?=some (some (.l xs)))(hs:SeqAt.shaped (.list xs)=true):bW neg e (.s i) (.l [])=some (.d (.bool (if neg then !xs.isEmpty else xs.isEmpty))):=by
  unfold bW
  simp only [hZ,h,Option.bind_some,hs]
  have h0:SeqAt.shaped (.list [])=true:=by simp [SeqAt.shaped,PyData.canLay0,PyData.canLayAll0,PyData.depth,PyData.depthAll]
  rw [h0]
  cases xs<;>simp [PyData.eqv,PyData.eqvAll]
theorem qI(ns:List Int):SeqAt.shaped (.list (ns.map .int))=true∧SeqAt.shaped (.tuple (ns.map .int))=true:=by
  have h1:PyData.canLayAll0 (ns.map PyData.int)=true:=by
    induction ns with
    | nil=>rfl
    | cons n r ih=>simp [PyData.canLayAll0,PyData.canLay0,ih]
  have h2:PyData.depthAll (ns.map PyData.int)=0:=by
    clear h1
    induction ns with
    | nil=>rfl
    | cons n r ih=>simp [PyData.depthAll,PyData.depth,ih]
  constructor<;>simp [SeqAt.shaped,PyData.canLay0,PyData.depth,h1,h2]
theorem cf{own:fy}{g:FG}{f:FS}(P:Nat→En→Prop):∀(items:List PyData) (k:Nat) (e:En),(∀i x e,items[i]?=some x→P (k+i) e→∃e1 e2,g x e=some e1∧f e1=some (.nx e2)∧keeps own e2∧P (k+i+1) e2)→P k e→∃e',iz own g f items e=some (.nx e')∧P (k+items.length) e'
  | [],k,e,_,h=>⟨e,rfl,h⟩
  | x::r,k,e,hs,h=>by
    obtain⟨e1,e2,h1,h2,h3,h4⟩:=hs 0 x e rfl h
    obtain⟨e',h5,h6⟩:=cf P r (k+1) e2 (fun i y e hy hp=>by
      have:=hs (i+1) y e (by simpa using hy) (by rw [show k+(i+1)=k+1+i by lia];exact hp)
      rw [show k+(i+1)+1=k+1+i+1 by lia] at this
      exact this) h4
    refine⟨e',?_,by rw [List.length_cons,show k+(r.length+1)=k+1+r.length by lia];exact h6⟩
    unfold iz
    simp only [h1,h2,Option.bind_some,if_pos h3]
    exact h5
theorem bT{e:En}:keeps [] e:=fun _ h=>by cases h
theorem b_{W:List Nat}{fi:FI}{g:FG}{f:FS}{e e1:En}{items:List PyData}(h:fi e=some (items,[],e1)):dG W fi g f e=iz [] g f items e1:=by
  unfold dG;rw [h];rfl
theorem cL{lo:Int}{n i:Nat}{x:PyData}(h:(a8 lo n)[i]?=some x):x=.int (lo+i)∧i < n:=by
  unfold a8 at h
  rw [List.getElem?_map] at h
  obtain⟨k,h1,rfl⟩:=Option.map_eq_some_iff.mp h
  obtain⟨h2,h3⟩:=List.getElem?_eq_some_iff.mp h1
  simp at h2 h3
  subst h3
  exact⟨rfl,h2⟩
theorem cN{lo:Int}{n:Nat}:(a8 lo n).length=n:=by simp [a8]
theorem dt{fs:FA}{e e1:En}{n:Int}(h:fs e=some ([.d (.int n)],e1))(h1: -1000000≤n)(h2:n≤1000000):cS fs e=some (a8 0 n.toNat,[],e1):=by
  unfold cS;rw [h]
  have:xI n=true:=by unfold xI;rw [decide_eq_true h1,decide_eq_true h2];rfl
  simp [c9,this]
theorem jv{ft:FT}{f:FS}(P:En→Prop)(μ:En→Nat)(hs:∀e,P e→(∃e1,ft e=some (false,e1)∧True)∨∃e1 e2,ft e=some (true,e1)∧f e1=some (.nx e2)∧P e2∧μ e2 < μ e):
    ∀(n:Nat) (e:En),P e→μ e < n→∃e0 e',hV ft f n e=some (.nx e')∧P e0∧ft e0=some (false,e'):=by
  intro n
  induction n with
  | zero=>intro e _ h;lia
  | succ n ih=>
    intro e hp hm
    rcases hs e hp with ⟨e1,h1,_⟩ | ⟨e1,e2,h1,h2,h3,h4⟩
    · exact⟨e,e1,by unfold hV;rw [h1];rfl,hp,h1⟩
    · obtain⟨e0,e',g1,g2⟩:=ih e2 h3 (by lia)
      exact⟨e0,e',by unfold hV;rw [h1];simp only [Option.bind_some,if_true,h2];exact g1,g2⟩
theorem cQ{cs:En}{ft:FT}{fe:FE}{b:PyData→Bool}{y:PyData→PyData}:∀(items:List PyData) (t:Option Sv) (acc:List PyData),(∀x∈items,ft (cs++[some (.d x)])=some (b x,cs++[some (.d x)]))→(∀x∈items,b x=true→fe (cs++[some (.d x)])=some (.d (y x),cs++[some (.d x)]))→
    acc.length+items.length≤1000000→∃t',dX (ah cs.length) ft fe items (cs++[t]) acc=some (acc++(items.filter b).map y,cs++[t'])
  | [],t,acc,_,_,_=>⟨t,by simp [dX]⟩
  | x::r,t,acc,h1,h2,hl=>by
    have hg:ah cs.length x (cs++[t])=some (cs++[some (.d x)]):=by simp [ah]
    have h1x:=h1 x (by simp)
    unfold dX
    rw [hg]
    simp only [Option.bind_some,h1x]
    cases hb:b x with
    | true=>
      simp only [if_true,h2 x (by simp) hb,Option.bind_some,pW]
      rw [if_pos (by simp at hl;lia)]
      obtain⟨t',ih⟩:=cQ (b:=b) (y:=y) r (some (.d x)) (acc++[y x]) (fun z hz=>h1 z (by simp [hz])) (fun z hz=>h2 z (by simp [hz])) (by simp at hl ⊢;lia)
      exact⟨t',by rw [ih];simp [hb]⟩
    | false=>
      simp only [Bool.false_eq_true,if_false]
      obtain⟨t',ih⟩:=cQ (b:=b) (y:=y) r (some (.d x)) acc (fun z hz=>h1 z (by simp [hz])) (fun z hz=>h2 z (by simp [hz])) (by simp at hl;lia)
      exact⟨t',by rw [ih];simp [hb]⟩
theorem kJ{fa:FE}{e e1:En}{xs:List PyData}(h:fa e=some (.d (.tuple xs),e1)):eM fa e=some (xs,[],e1):=by
  unfold eM;rw [h];rfl
theorem sV{fa:FE}{e e1:En}{xs:List PyData}(h:fa e=some (.d (.list xs),e1)):eM fa e=some (xs,[],e1):=by
  unfold eM;rw [h];rfl
theorem wn{fa:FE}{e e1:En}{xs:List PyData}(h:fa e=some (.l xs,e1)):eM fa e=some (xs,[],e1):=by
  unfold eM;rw [h];rfl
theorem gH{cp:List (Nat × Str)}{nT:Nat}{fi:FI}{g:FG}{ft:FT}{fe:FE}{e e1 cs:En}{t t':En}{items out:List PyData}(h1:fi e=some (items,[],e1))(hc:m4 cp nT e1=cs++t)(hl:cs.length=cp.length)(h3:dX g ft fe items (m4 cp nT e1) []=some (out,cs++t')):bF cp nT fi g ft fe e=some (.l out,e1):=by
  have key:∀i x,e1[i]?=some (some (.l x))→∀k,jU cp i=some k→(cs++t')[k]?=some (some (.l x)):=by
    intro i x hi k hk
    obtain⟨s,hs⟩:=gA hk
    have hk2:k < cp.length:=(List.getElem?_eq_some_iff.mp hs).1
    have:(m4 cp nT e1)[k]?=some (some (.l x)):=by
      unfold m4
      rw [List.getElem?_append_left (by simpa using hk2),List.getElem?_map,hs]
      simp [hi,Dq]
    rw [hc,List.getElem?_append_left (by lia)] at this
    rw [List.getElem?_append_left (by lia)]
    exact this
  unfold bF
  rw [h1]
  simp only [Option.bind_some,List.all_nil,if_true,h3]
  have hb:kf cp (cs++t') e1=true:=by
    unfold kf
    rw [List.all_eq_true]
    intro p hp
    match hi:e1[p.1]? with
    | none=>simp [yj]
    | some none=>simp [yj]
    | some (some (.d x))=>simp [yj]
    | some (some (.n x))=>simp [yj]
    | some (some (.l x))=>
      cases hq:jU cp p.1 with
      | none=>
        unfold jU at hq
        rw [List.findIdx?_eq_none_iff] at hq
        have:=hq p hp
        simp at this
      | some k=>simp [key p.1 x hi k hq,yj]
  rw [if_pos hb]
  congr 2
  refine List.ext_getElem? fun i=>?_
  rw [ck]
  match hi:e1[i]? with
  | none=>rfl
  | some none=>rfl
  | some (some (.d x))=>rfl
  | some (some (.n x))=>rfl
  | some (some (.l x))=>
    cases hp:jU cp i with
    | none=>simp [hp]
    | some k=>simp [hp,key i x hi k hp]
theorem gK{α:Type}{xs:List α}{i:Int}(h0:0≤i)(h1:i < xs.length):∃x∈xs,atI xs i=some x:=by
  rw [gL h0 h1]
  exact⟨xs[i.toNat]'(by lia),List.getElem_mem _,List.getElem?_eq_getElem _⟩
theorem v0{e:En}{xs:List PyData}{i:Int}:bz e (.l xs) (.d (.int i))=(atI xs i).map .d:=rfl
theorem lW{e:En}{xs:List PyData}{i:Int}:bz e (.d (.tuple xs)) (.d (.int i))=(atI xs i).map .d:=rfl
theorem rA{e:En}{xs:List PyData}{i:Int}:bz e (.d (.list xs)) (.d (.int i))=(atI xs i).map .d:=rfl
theorem v_{e:En}{j:Nat}{xs:List PyData}{i:Int}(h:e[j]?=some (some (.l xs))):bz e (.s j) (.d (.int i))=(atI xs i).map .d:=by
  simp [bz,eR,h,c9]
theorem rD{e:En}{xs:List PyData}:g1 ip e [.d (.tuple xs)]=some (.d (.int xs.length)):=rfl
theorem oR{e:En}{xs:List PyData}:g1 ip e [.d (.list xs)]=some (.d (.int xs.length)):=rfl
theorem rB{e:En}{xs:List PyData}:g1 ip e [.l xs]=some (.d (.int xs.length)):=rfl
theorem rC{e:En}{j:Nat}{xs:List PyData}(h:e[j]?=some (some (.l xs))):g1 ip e [.s j]=some (.d (.int xs.length)):=by
  simp [g1,ip,eR,h]
theorem l4{e:En}{j:Nat}{xs:List PyData}(h:e[j]?=some (some (.l xs))):g1 eF e [.s j]=some (.d (.tuple xs)):=by
  simp [g1,eF,eR,h]
theorem l0{e:En}{xs:List PyData}:g1 eF e [.l xs]=some (.d (.tuple xs)):=rfl
theorem ky{e:En}{xs:List PyData}:g1 eF e [.d (.list xs)]=some (.d (.tuple xs)):=rfl
theorem l6{e:En}{xs:List PyData}:g1 eF e [.d (.tuple xs)]=some (.d (.tuple xs)):=rfl
theorem wg{e:En}{xs:List PyData}{lo hi:Option Int}:EQ e (.d (.tuple xs)) lo hi=some (.d (.tuple (cutD xs lo hi))):=rfl
theorem rq{e:En}{xs ys:List PyData}(h:xs.length+ys.length≤1000000):bu e (.d (.tuple xs)) (.d (.tuple ys))=some (.d (.tuple (xs++ys))):=by
  simp [bu,uZ,sS,gI,c9,nA,eR,h]
theorem wb{e:En}{i j:Int}(h:j≠0):be e (.d (.int i)) (.d (.int j))=some (.d (.int (i.fmod j))):=by
  unfold be;rw [kr (by simpa using h)]
theorem sT{e:En}{i j:Int}(h:j≠0)(h2:Bt 8000 j):eu e (.d (.int i)) (.d (.int j))=some (.d (.int (i.fdiv j))):=by
  unfold eu;rw [kr (by simp [gQ.mpr h2,h])]
theorem iA{e:En}{i j:Int}(h:xi i j=true):oT e (.d (.int i)) (.d (.int j))=some (.d (.int (i ^ j.toNat))):=by
  unfold oT;rw [kr h]
theorem jV:xi 10 18=true:=by decide
theorem aV{f g:FS}{e e1:En}(h:f e=some (.nx e1)):aB f g e=g e1:=by unfold aB;rw [h];rfl
theorem D6{ft:FT}{f g:FS}{e e1:En}(h:ft e=some (true,e1)):gD ft f g e=f e1:=by unfold gD;rw [h];rfl
theorem D5{ft:FT}{f g:FS}{e e1:En}(h:ft e=some (false,e1)):gD ft f g e=g e1:=by unfold gD;rw [h];rfl
def Aw(i:Nat)(e:En):Nat:=match e[i]? with
  | some (some (.l xs))=>xs.length
  | _=>0
def nH(i:Nat)(e:En):Nat:=match e[i]? with
  | some (some (.d (.int k)))=>k.natAbs
  | _=>0
theorem o6{n m:Nat}(h:n < 2 ^ m)(hm:m≤4200):n < 2 ^ 4200:=Nat.lt_of_lt_of_le h (Nat.pow_le_pow_right (by decide) hm)
theorem ox{α:Type}{a:α}{r:List α}:atI (a::r) 0=some a:=by
  rw [gL (by decide) (by simp)];rfl
theorem oy{α:Type}{a b:α}{r:List α}:atI (a::b::r) 1=some b:=by
  rw [gL (by decide) (by simp;lia)];rfl
theorem oz{α:Type}{a b c:α}{r:List α}:atI (a::b::c::r) 2=some c:=by
  rw [gL (by decide) (by simp;lia)];rfl
theorem oA{α:Type}{a b c d:α}{r:List α}:atI (a::b::c::d::r) 3=some d:=by
  rw [gL (by decide) (by simp;lia)];rfl
theorem pO{W:br}{k:Int}(h:t5 W k):atI (W.ties.map bG) k=some (bG (W.tie k)):=by
  rw [gL h.1 (by rw [List.length_map];exact h.2),List.getElem?_map,h.get];rfl
theorem jx{ns:List Int}{k:Int}(h0:0≤k)(h1:k < (ns.length:Int)):atI (ns.map PyData.int) k=some (.int (ns.getD k.toNat 0)):=by
  rw [gL h0 (by rw [List.length_map];exact h1),List.getElem?_map]
  have:k.toNat < ns.length:=by lia
  simp [this]
theorem vD{a b c d:PyData}:cutD [a,b,c,d] none (some 2)=[a,b]:=rfl
theorem ko{a b c d:PyData}:cutD [a,b,c,d] (some 2) none=[c,d]:=rfl
theorem kn{a b c:PyData}:cutD [a,b,c] (some 1) none=[b,c]:=rfl
theorem pU(ns:List Int):PyData.canLayAll0 (ns.map PyData.int)=true:=by
  induction ns with
  | nil=>rfl
  | cons n r ih=>simp [PyData.canLayAll0,PyData.canLay0,ih]
theorem pN{x:Int}:∀(ns:List Int),((ns.map PyData.int).any fun y=>PyData.eqv y (.int x))=ns.contains x
  | []=>rfl
  | n::r=>by
    rw [List.map_cons,List.any_cons,pN r,List.contains_cons]
    show(n==x || _)=_
    rw [show(n==x)=(x==n) by rw [Bool.eq_iff_iff];simp;exact eq_comm]
theorem jG{e:En}{x:Int}{ns:List Int}{neg:Bool}:yi neg e (.d (.int x)) (.d (.tuple (ns.map .int)))=some (.d (.bool (if neg then !ns.contains x else ns.contains x))):=by
  unfold yi
  simp only [hZ,eR,Option.bind_some,pU,pN]
  simp [PyData.canLay0,PyData.depth]
theorem jH{e:En}{x a b:Int}{neg:Bool}:yi neg e (.d (.int x)) (.d (.tuple [.int a,.int b]))=some (.d (.bool (if neg then !(a==x || b==x) else(a==x || b==x)))):=by
  have h:=jG (e:=e) (x:=x) (ns:=[a,b]) (neg:=neg)
  simp only [List.map_cons,List.map_nil] at h
  rw [h]
  have:[a,b].contains x=(a==x || b==x):=by
    simp only [List.contains_cons,List.contains_nil,Bool.or_false]
    rw [show(x==a)=(a==x) by rw [Bool.eq_iff_iff];simp;exact eq_comm,show(x==b)=(b==x) by rw [Bool.eq_iff_iff];simp;exact eq_comm]
  rw [this]
theorem jE(W:br):ap W=.tuple [.int W.things,.tuple (W.ties.map bG),.tuple (W.pat.map .int),.int W.asks]:=rfl
end L2
namespace L2
open PySem PySem.Spec PyProof.Rows
def Sh(n:Nat)(d:PyData):Prop:=d.canLay0=true∧d.depth≤n
theorem Sh.ok{n:Nat}{d:PyData}(h:Sh n d)(l:n≤64):SeqAt.shaped d=true:=by
  unfold SeqAt.shaped;rw [h.1,decide_eq_true (Nat.le_trans h.2 l)];rfl
theorem Sh.int{k:Int}:Sh 2 (.int k):=⟨by simp [PyData.canLay0],by simp [PyData.depth]⟩
theorem Sh.all{n:Nat}:∀{ds:List PyData},(∀d∈ds,Sh n d)→PyData.canLayAll0 ds=true∧PyData.depthAll ds≤n
  | [],_=>⟨rfl,by simp [PyData.depthAll]⟩
  | d::r,h=>by
    obtain⟨a1,a2⟩:=h d (by simp)
    obtain⟨b1,b2⟩:=Sh.all (ds:=r) fun x hx=>h x (by simp [hx])
    exact⟨by simp [PyData.canLayAll0,a1,b1],by simp only [PyData.depthAll];lia⟩
theorem Sh.tup{n:Nat}{ds:List PyData}(h:∀d∈ds,Sh n d):Sh (n+2) (.tuple ds):=by
  obtain⟨b1,b2⟩:=Sh.all h
  exact⟨by simp [PyData.canLay0,b1],by simp only [PyData.depth];lia⟩
theorem Sh.ints{ns:List Int}:Sh 4 (.tuple (ns.map .int)):=Sh.tup (n:=2) fun d hd=>by
  obtain⟨k,_,rfl⟩:=List.mem_map.mp hd
  exact Sh.int
abbrev Std:=List Int × List Int
structure CU (W:br) (s:Std):Prop where
  inw:∀k∈s.1,t5 W k
  nd:s.1.Nodup
  tk:s.2.length≤2*s.1.length
  th:∀t∈s.2,0≤t∧t < W.things
def nxt(W:br)(s:Std)(k:Int)(b:Bool):Std:=(br.askd s.1 k,W.took s.2 k b)
structure Nd where
  tie:Int
  yes:Int
  no:Int
def CQ(W:br)(n:Nat)(S:Nat→Std)(i:Nat)(k:Int)(b:Bool)(l:Int):Prop:=l= -1∨(0≤l∧l < (n:Int)∧S l.toNat=nxt W (S i) k b)
structure EH (W:br) (n:Nat) (S:Nat→Std) (i:Nat) (x:Nd):Prop where
  tie:t5 W x.tie
  st:CU W (S i)
  may:W.may (S i).1 (S i).2 x.tie=true
  yes:CQ W n S i x.tie true x.yes
  no:CQ W n S i x.tie false x.no
def EI(W:br)(T:List Nd)(S:Nat→Std):Prop:=∀(i:Nat) (x:Nd),T[i]?=some x→EH W T.length S i x
structure Wt where
  st:Std
  par:Int
  side:Int
def uU(S:Nat→Std)(n:Nat)(s:Std):Nat→Std:=fun i=>if i=n then s else S i
structure FR (W:br) (T:List Nd) (S:Nat→Std) (ws:List Wt):Prop where
  tr:EI W T S
  wt:∀w∈ws,CU W w.st∧(w.par= -1∨∃(p:Nat) (x:Nd),w.par=(p:Int)∧T[p]?=some x∧((w.side=0∧w.st=L2.nxt W (S p) x.tie true)∨(w.side=1∧w.st=L2.nxt W (S p) x.tie false)))
  side:∀w∈ws,w.side=0∨w.side=1
end L2
namespace L2
open PySem PySem.Spec PyProof.Rows
theorem kX{cp:List (Nat × Str)}{nT:Nat}{fi:FI}{g:FG}{ft:FT}{fe:FE}{e e1 cs:En}{t t':En}{items out:List PyData}{own:fy}(h1:fi e=some (items,own,e1))(ho:(own.all fun q=> !(cp.any fun c=>c.1==q.1))=true)(hc:m4 cp nT e1=cs++t)(hl:cs.length=cp.length)(h3:dX g ft fe items (m4 cp nT e1) []=some (out,cs++t')):bF cp nT fi g ft fe e=some (.l out,e1):=by
  have key:=gH (cp:=cp) (nT:=nT) (fi:=fun _=>some (items,[],e1)) (g:=g) (ft:=ft) (fe:=fe) (e:=e) rfl hc hl h3
  unfold bF at key ⊢
  rw [h1]
  simp only [Option.bind_some,List.all_nil,if_true] at key
  simp only [Option.bind_some,ho,if_true]
  exact key
def nm(nums:List Int)(l:Int):Int:=(atI nums l).getD (-1)
structure Fw (order:List Int) (n:Nat) (nums:List Int):Prop where
  len:nums.length=n+1
  top:nums[n]?=some (-1)
  at':∀(j:Nat) (v:Int),j < n→nums[j]?=some v→v= -1∨∃p:Nat,v=(p:Int)∧order[p]?=some (j:Int)
def wC(T:List Nd)(w:Int):Nd:=T.getD w.toNat ⟨0,0,0⟩
end L2
namespace L2
open PySem PySem.Spec PyProof.Rows
structure FZ (S:Nat→Std) (n:Nat) (ss:List Std):Prop where
  len:ss.length=n
  at':∀(j:Nat) (s:Std),ss[j]?=some s→s.1.length≤(S j).1.length∧s.2.length≤2*s.1.length∧(∀k∈s.1,0≤k∧k < 16)∧∀t∈s.2,0≤t∧t < 12
end L2
namespace L2
open PySem PySem.Spec PyProof.Rows
theorem bQ(s:String):PyData.strOk (Str.ofString s)=true:=by
  rw [Str.ofString_eq_toList]
  unfold PyData.strOk
  simp only [List.size_toArray,List.length_map]
  rw [show(List.map Char.toNat s.toList).toArray.all (fun a=>decide (a < 1114112)) 0 s.toList.length=(List.map Char.toNat s.toList).all (fun a=>decide (a < 1114112)) by simp]
  rw [List.all_map,List.all_eq_true]
  intro c _
  show decide (c.toNat < 1114112)=true
  rw [decide_eq_true_eq]
  have:=c.valid
  unfold UInt32.isValidChar Nat.isValidChar at this
  show c.val.toNat < _
  lia
theorem ej{a b:Str}(h1:PyData.strOk a=true)(h2:PyData.strOk b=true):PyData.strOk (a++b)=true:=by
  unfold PyData.strOk at*
  rw [show(a++b).cps=a.cps++b.cps from rfl]
  simp only [Array.all_append,h1,h2,Bool.and_self]
theorem mM{sep:Str}(h:PyData.strOk sep=true):∀(ts:List Str),(∀t∈ts,PyData.strOk t=true)→PyData.strOk (Str.join sep ts)=true
  | [],_=>by show PyData.strOk Str.empty=true;simp [PyData.strOk,Str.empty]
  | [x],hx=>hx x (by simp)
  | x::y::r,hx=>ej (ej (hx x (by simp)) h) (mM h (y::r) fun t ht=>hx t (by simp at ht ⊢;exact .inr ht))
theorem n_{ts:List Str}(h:∀t∈ts,PyData.strOk t=true):PyData.strOk (tupleText ts)=true:=by
  unfold tupleText
  exact ej (ej (bQ _) (mM (bQ _) ts h)) (bQ _)
structure Sz (n dep:Nat) (d:PyData):Prop where
  fl:gf d=true
  sh:d.showable=true
  dp:d.depth≤dep
  ln:d.shown.length≤n
  so:PyData.strOk d.shown=true
theorem yE{e:En}{d:PyData}(h:j8 d=true):g1 lc e [.d d]=some (.d (.str d.shown)):=by
  simp [g1,lc,h]
end L2
namespace L2
open PySem PySem.Spec PyProof.Rows
theorem oM{e:En}{i:Nat}{xs ys:List PyData}(h:e[i]?=some (some (.l xs)))(hl:xs.length+ys.length≤1000000):bu e (.s i) (.l ys)=some (.l (xs++ys)):=by
  simp [bu,uZ,sS,gI,c9,nA,eR,p5,rL,h,hl]
theorem yD{e:En}{xs ys:List PyData}(hl:xs.length+ys.length≤1000000):bu e (.l xs) (.l ys)=some (.l (xs++ys)):=by
  simp [bu,uZ,sS,gI,c9,nA,eR,p5,rL,hl]
def rn(T:List Nd)(ans:List Bool):Nat→Int→List (Int × Bool)
  | 0,_=>[]
  | f+1,at'=>if at' < 0 then [] else((wC T at').tie,ans.getD (wC T at').tie.toNat false)::rn T ans f (if ans.getD (wC T at').tie.toNat false=true then(wC T at').yes else(wC T at').no)
def rt(T:List Nd):Int:=if T.length=0 then -1 else 0
structure Fz (W:br) (T:List Nd) (S:Nat→Std) (ans:List Bool) (r:List (Int × Bool)) (a:Int):Prop where
  at':a= -1∨(0≤a∧a < (T.length:Int)∧r.length≤(S a.toNat).1.length)
  eq:r++rn T ans (17 - r.length) a=rn T ans 17 (rt T)
  len:r.length≤16
  inw:∀p∈r,t5 W p.1
theorem Sz.bool{b:Bool}:Sz 5 2 (.bool b):=by
  cases b
  · exact⟨rfl,rfl,by simp [PyData.depth],by show(Str.ofString "False").length≤5;decide,bQ _⟩
  · exact⟨rfl,rfl,by simp [PyData.depth],by show(Str.ofString "True").length≤5;decide,bQ _⟩
end L2
namespace L2
open PySem PySem.Spec PyProof.Rows
abbrev Fr:=Int × Int
def dF(f:Fr):PyData:=.tuple [.int f.1,.int f.2]
def tm(a b:Fr):Fr:=lowM (a.1*b.1) (a.2*b.2)
def pl(a b:Fr):Fr:=lowM (a.1*b.2+b.1*a.2) (a.2*b.2)
theorem eN{t b:Int}(hb:0 < b)(ht:0≤t):∃d:Int,0 < d∧(lowM t b).1*d=t∧(lowM t b).2*d=b∧0 < (lowM t b).2∧0≤(lowM t b).1:=by
  obtain⟨d,h1,h2,h3,h4,h5⟩:=gu (t:=t) (b:=b) (by lia)
  have d0:0 < d:=by
    rcases Int.lt_trichotomy d 0 with z | z | z
    · have:=Int.mul_neg_of_pos_of_neg h5 z
      lia
    · exact absurd z h2
    · exact z
  refine⟨d,d0,h3,h4,h5,?_⟩
  rcases Int.lt_or_le (lowM t b).1 0 with z | z
  · have:=Int.mul_neg_of_neg_of_pos z d0
    lia
  · exact z
theorem iW{t b i:Int}(hb:0 < b)(ht:0≤t)(h:t≤i*b):(lowM t b).1≤i*(lowM t b).2:=by
  obtain⟨d,d0,h3,h4,h5,h6⟩:=eN hb ht
  refine Int.le_of_mul_le_mul_right (a:=d) ?_ d0
  rw [h3,Int.mul_assoc,h4]
  exact h
theorem iC{t b:Int}(hb:0 < b)(ht:0≤t):(lowM t b).2 ∣ b:=by
  obtain⟨d,d0,h3,h4,h5,h6⟩:=eN hb ht
  exact⟨d,h4.symm⟩
theorem wz{t b M u:Int}(hb:0 < b)(ht:0≤t)(h:t*M=b*u):(lowM t b).2 ∣ M:=by
  have g:=jM (t:=t) (b:=b) (by lia)
  obtain⟨d,d0,h3,h4,h5,h6⟩:=eN hb ht
  generalize (lowM t b).1=p at*
  generalize (lowM t b).2=q at*
  have e:p*M=q*u:=by
    refine Int.eq_of_mul_eq_mul_right (a:=d) (by lia) ?_
    rw [show p*M*d=(p*d)*M by rw [Int.mul_assoc,Int.mul_comm M d,←Int.mul_assoc],h3,h,←h4,Int.mul_assoc,Int.mul_comm d u,←Int.mul_assoc]
  have dv:q.natAbs ∣ (p*M).natAbs:=Int.natAbs_dvd_natAbs.mpr ⟨u,e⟩
  rw [Int.natAbs_mul] at dv
  have cp:Nat.Coprime q.natAbs p.natAbs:=by
    have:Nat.gcd p.natAbs q.natAbs=1:=g
    rw [Nat.Coprime,Nat.gcd_comm];exact this
  exact Int.natAbs_dvd_natAbs.mp (cp.dvd_of_dvd_mul_left dv)
structure t_ (M:Int) (f:Fr):Prop where
  pos:0 < f.2
  lo:0≤f.1
  hi:f.1≤f.2
  dv:f.2 ∣ M
theorem t_.tm{M N:Int}{a b:Fr}(h:t_ M a)(k:t_ N b):t_ (M*N) (tm a b):=by
  have p:0 < a.2*b.2:=Int.mul_pos h.pos k.pos
  have t:0≤a.1*b.1:=Int.mul_nonneg h.lo k.lo
  obtain⟨d,d0,h3,h4,h5,h6⟩:=eN p t
  refine⟨h5,h6,?_,Int.dvd_trans (iC p t) (Int.mul_dvd_mul h.dv k.dv)⟩
  have:=iW (i:=1) p t (by rw [Int.one_mul];exact Int.mul_le_mul h.hi k.hi k.lo (Int.le_of_lt h.pos))
  rw [Int.one_mul] at this
  exact this
structure qW (M i:Int) (f:Fr):Prop where
  pos:0 < f.2
  lo:0≤f.1
  hi:f.1≤i*f.2
  dv:f.2 ∣ M
theorem t_.bt{M:Int}{f:Fr}{n:Nat}(h:t_ M f)(hM:Bt n M)(h0:0 < M):Bt n f.1∧Bt n f.2:=by
  have l:=Int.le_of_dvd h0 h.dv
  have:=h.pos;have:=h.lo;have:=h.hi
  exact⟨hM.of_le (by lia),hM.of_le (by lia)⟩
theorem qW.bt{M i:Int}{f:Fr}{n m:Nat}(h:qW M i f)(hM:Bt n M)(h0:0 < M)(hi:Bt m i):Bt (m+n) f.1∧Bt n f.2:=by
  have l:=Int.le_of_dvd h0 h.dv
  have p:=h.pos;have q:=h.lo;have r:=h.hi
  have b2:Bt n f.2:=hM.of_le (by lia)
  exact⟨(hi.mul b2).of_le (by lia),b2⟩
def bp(W:br):List Int→Int
  | []=>1
  | k::r=>(W.tie k).bot*bp W r
def C3(W:br):Int:=bp W W.rng
def ch(W:br)(k:Int)(b:Bool):Fr:=if b then((W.tie k).top,(W.tie k).bot) else((W.tie k).bot - (W.tie k).top,(W.tie k).bot)
structure FY (W:br) (S:Nat→Std) (n:Nat) (rs:List Fr):Prop where
  len:rs.length=n
  at':∀(j:Nat) (f:Fr),rs[j]?=some f→t_ (bp W (S j).1) f
theorem ve{rs:List Fr}{i:Nat}{z:Fr}(h:i < rs.length):atI (rs.map dF) (i:Int)=some (dF (rs.getD i z)):=by
  rw [gL (by lia) (by rw [List.length_map];lia),List.getElem?_map]
  simp [h,dF]
theorem yr{rs:List Fr}{k:Int}{z:Fr}(h0:0≤k)(h:k < (rs.length:Int)):atI (rs.map dF) k=some (dF (rs.getD k.toNat z)):=by
  have:=ve (rs:=rs) (i:=k.toNat) (z:=z) (by lia)
  rw [show((k.toNat:Nat):Int)=k by lia] at this
  exact this
structure FU (W:br) (i:Nat) (ss:List Fr):Prop where
  len:ss.length=W.ties.length
  at':∀(j:Nat) (f:Fr),ss[j]?=some f→qW (C3 W) (i:Int) f
theorem Sz.intB{n:Nat}{k:Int}(h:Bt n k)(h0:0 < n)(hn:n≤1900):Sz (n+1) 2 (.int k):=by
  have l:=h.log h0
  refine⟨rfl,?_,by simp [PyData.depth],?_,bQ _⟩
  · show decide (k.natAbs.log2 < 1920)=true
    rw [decide_eq_true_eq];lia
  · have:=int_text_length_le h0 l
    show(Str.ofString (toString k)).length≤n+1
    rw [PySem.ofString_length];exact this
end L2
namespace L2
open PySem PySem.Spec PyProof.Rows
def CB(sc:Scope)(x:Str):Bool:=match sc.names.lookup x with
  | some .local=>true
  | some .cell=>true
  | some .free=>true
  | _=>false
theorem Aa{sc:Scope}{x:Str}(h:CB sc x=true):CY sc x:=by
  unfold CB at h
  unfold CY
  split at h
  · rename_i e;exact .inl e
  · rename_i e;exact .inr (.inl e)
  · rename_i e;exact .inr (.inr e)
  · cases h
section
variable{X:Cx}{K:PySem.W.Frag}
theorem qw(i:Nat){x:Str}{pos:Pos}(hN:X.N[i]?=some x)(hv:CB X.env.scope x=true)(hd:((x==("__debug__":Str)) || (x==("__classdict__":Str)))=false):PE X (.Name x pos) (fE K (ae i)):=qv i hN (Aa hv) (Bool.or_eq_false_iff.mp hd).1 (Bool.or_eq_false_iff.mp hd).2
end
end L2
namespace L2
open PySem PySem.Spec PyProof.Rows
section
variable{X:Cx}{tg a b c:Expr}{ta:TA}{p pos p2 pos2:Pos}
end
section
variable{K:PySem.W.Frag}{σ:L2.St}
end
section
variable{X:Cx}{K:PySem.W.Frag}{tg a b c:Expr}{fs:FA}{pos p p2 pos2:Pos}
end
end L2
namespace L2
open PySem PySem.Spec PyProof.Rows
end L2
namespace L2
open PySem PySem.Spec PyProof.Rows
section
variable(P:Program)(w:World)
end
section
variable{P:Program}{w:World}{H H':Hp}{h h':Heap}{a:Addr}{o:HO}
end
section
variable{P:Program}{w:World}{H:Hp}{h h':Heap}{x e:Addr}{o':HO}
end
section
variable{fs fs' ex ex':List Addr}{H H1 H2:Hp}{h h1 h2 h':Heap}{a x e:Addr}{o:HO}
end
end L2
namespace L2
open PySem PySem.Spec PyProof.Rows
section
variable{X:Cx}{pins:List (Addr × Obj)}{σ:List (Option V)}{H H':Hp}{s:Shared}{h':Heap}
end
end L2
namespace L2
open PySem PySem.Spec PyProof.Rows
section
variable{X:Cx}
variable{a b:Expr}{ta tb:TE}{pos:Pos}
variable{tA tB':TT}{eD:List Expr}
end
end L2
namespace L2
open PySem PySem.Spec PyProof.Rows
section
variable{X:Cx}{pins:List (Addr × Obj)}{σ:St}{H:Hp}{s:Shared}{a:Addr}{xs ys:List V}
end
section
variable{X:Cx}{pins:List (Addr × Obj)}{σ:St}{H:Hp}{s:Shared}{E:Value→Shared→Prop}
end
section
variable{X:Cx}{st:Stmt}{eD:List Stmt}{t u:TS}{e:Expr}{te:TE}{pos:Pos}
end
section
variable{X:Cx}{pos:Pos}
end
section
variable{X:Cx}{pos:Pos}
end
end L2
namespace L2
open PySem PySem.Spec PyProof.Rows
section
variable{X:Cx}{tg:Expr}
end
end L2
namespace L2
open PySem PySem.Spec PyProof.Rows
section
variable{X:Cx}{a b c:Expr}{ta tb tc:TE}{pos:Pos}
end
section
variable{X:Cx}{a b c:Expr}{ta tb tc:TE}{pos:Pos}
end
end L2
namespace L2
open PySem PySem.Spec PyProof.Rows
section
variable{prog:Program}{w:World}{A:Around}{E:Value→Shared→Prop}{s:Shared}{K:PySem.W.Frag}{x dx C f:Addr}{mA:Str→Option Value}{name:Str}{v:Value}
end
section
variable{P:Program}{w:World}{H H':Hp}{h h':Heap}{a C dx:Addr}{fs fs':List (Str × V)}
end
section
variable{X:Cx}{pins:List (Addr × Obj)}{σ:St}{H:Hp}{s:Shared}{a C dx:Addr}{fs:List (Str × V)}{f:Str}{v:V}{A:Around}{E:Value→Shared→Prop}
end
section
variable{X:Cx}{o e value:Expr}{f:Str}{pos pos' tpos:Pos}{ta tv:TE}
end
section
variable{X:Cx}{pins:List (Addr × Obj)}{σ:St}{H:Hp}{s:Shared}{A:Around}{E:Value→Shared→Prop}{Q:Value→Shared→Prop}{c:Value}{b:Bool}
end
end L2
namespace L2
open PySem PySem.Spec PyProof.Rows
section
variable{X:Cx}{e:Expr}{es:List Expr}{te:TE}{t:TA}{pos:Pos}
end
section
variable{X:Cx}{pins:List (Addr × Obj)}{σ:St}{H:Hp}{s s':Shared}
end
section
variable{X:Cx}{CX:tZ}{k:Nat}{f C:Addr}{fd:FuncData}{ps:List Str}{sp:Sp}{dvs:List V}{ds:List Value}{E:XK}{x m:Str}{p pos apos:Pos}{e o:Expr}{es:List Expr}{ta:TE}{t:TA}
end
section
variable{X:Cx}{CX:tZ}{k:Nat}{f C:Addr}{fd:FuncData}{ps ks:List Str}{sp:Sp}{E:XK}{x m:Str}{p pos apos kpos:Pos}{e o:Expr}{es:List Expr}{kws:List Keyword}{te ta:TE}{t tk:TA}{nm:Option Str}
variable{g:List Value→List Value→List Value}{gV:List V→List V→List V}
end
end L2
namespace L2
open PySem PySem.Spec PyProof.Rows
section
variable{X:Cx}{x:Str}{p pos:Pos}{e:Expr}{es:List Expr}{t:TA}{id T:String}{r:List V→Hp→VK→Prop}
end
end L2
namespace L2
open PySem PySem.Spec PyProof.Rows
section
variable{κ:Type}[DecidableEq κ]
def qi(kvs:List (κ × V))(k:κ)(v:V):List (κ × V):=
  if (kvs.any fun kv=>decide (kv.1=k))=true then kvs.map (fun kv=>if kv.1=k then(kv.1,v) else kv) else kvs++[(k,v)]
theorem p9(kvs:List (κ × V))(k:κ)(v:V):(qi kvs k v).length≤kvs.length+1:=by
  unfold qi
  split
  · rw [List.length_map];lia
  · rw [List.length_append,List.length_cons,List.length_nil];lia
theorem KV.any{kvs:List (κ × V)}{vs:List (κ × Value)}(r:KV kvs vs)(k:κ):(kvs.any fun kv=>decide (kv.1=k))=vs.any fun kv=>decide (kv.1=k):=by
  unfold KV at r
  induction r with
  | nil=>rfl
  | cons h t ih=>rw [List.any_cons,List.any_cons,ih,h.1]
theorem KV.repl{kvs:List (κ × V)}{vs:List (κ × Value)}(r:KV kvs vs)(k:κ){y:V}{u:Value}(ry:bD y u):
    KV (kvs.map fun kv=>if kv.1=k then(kv.1,y) else kv) (vs.map fun kv=>if kv.1=k then(kv.1,u) else kv):=by
  unfold KV at r ⊢
  induction r with
  | nil=>exact .nil
  | @cons p q ps qs h t ih=>
    rw [List.map_cons,List.map_cons]
    refine .cons ?_ ih
    obtain⟨h1,h2⟩:=h
    by_cases e:p.1=k
    · rw [if_pos e,if_pos (h1.symm.trans e)];exact⟨h1,ry⟩
    · rw [if_neg e,if_neg (fun z=>e (h1.trans z))];exact⟨h1,h2⟩
theorem KV.put{kvs:List (κ × V)}{vs:List (κ × Value)}(r:KV kvs vs)(k:κ){y:V}{u:Value}(ry:bD y u):KV (qi kvs k y) (stored vs k u):=by
  unfold qi stored
  rw [r.any k]
  by_cases e:(vs.any fun kv=>decide (kv.1=k))=true
  · rw [if_pos e,if_pos e];exact r.repl k ry
  · rw [if_neg e,if_neg e];exact Paired.snoc r ⟨rfl,ry⟩
end
theorem Do{P:Program}{w:World}{k:fU}{u:Value}(r:bD (kV k) u):(dN P w).is k u=true:=by
  cases k with
  | inl i=>obtain⟨t,e⟩:=(show ∃t,u=Value.int i t from r);subst e;exact qb P w i t
  | inr x=>obtain⟨t,e⟩:=(show ∃t,u=Value.str x t from r);subst e;exact qc P w x t
section
variable{P:Program}{w:World}{H:Hp}{h:Heap}{a:Addr}
theorem D3{u:HO}(ok:kY P w H h)(e:Rd H a u):cY P w H h a u:=e.ok ok
theorem C8{kvs:List (fU × V)}(ok:kY P w H h)(e:Rd H a (.dK kvs)):kvs.length≤sizeLine∧(a==sysModules)=false∧∃vs,KV kvs vs∧h.DictOf (dN P w) a vs:=
  show cY P w H h a (.dK kvs) from D3 ok e
theorem C7{kvs:List (fU × V)}(ok:kY P w H h)(e:H a=some (.dK kvs)):kvs.length≤sizeLine∧(a==sysModules)=false∧∃vs,KV kvs vs∧h.DictOf (dN P w) a vs:=C8 ok (.inl e)
end
section
variable{X:Cx}{pins:List (Addr × Obj)}{σ:St}{H:Hp}{s:Shared}{a:Addr}{y v:V}{u r:Value}{o:Option V}{A:Around}{E:Value→Shared→Prop}
theorem aF.big(I:aF X pins σ H s):sysModules < s.heap.objs.size:=by
  have h:mainGlobals < s.heap.objs.size:=(I.mod.glob.keeps I.bk).lt
  exact Nat.lt_trans (by decide) h
theorem yz{h':Heap}{t':Nat}{ob:HO}(I:aF X pins σ H s)(mu:CS (H a))(hs:Heap.SameBut a s.heap h')(he:∃q,h'.get? a=some q)(new:cY X.prog X.w (a_ H a ob) h' a ob):
    aF X pins σ (a_ H a ob) {s with heap:=h',toks:=t'}:=
  I.write (x:=a) (e:=a) mu (.inl rfl) (fun b q hb z=>(hs.2 b hb).trans z) he new
theorem AX{P:Program}{w:World}{H':Hp}{h':Heap}{kvs:List (fU × V)}{vs:List (fU × Value)}(z:kvs.length≤sizeLine)(hd:(a==sysModules)=false)(rel:KV kvs vs)(dd:h'.DictOf (dN P w) a vs):
    cY P w H' h' a (.dK kvs):=⟨z,hd,vs,rel,dd⟩
end
section
variable{X:Cx}{pins:List (Addr × Obj)}{σ:St}{H:Hp}{s:Shared}{a:Addr}{kvs:List (fU × V)}{k:fU}{u:Value}{A:Around}{E:Value→Shared→Prop}
end
section
variable{X:Cx}{o i e value:Expr}{pos pos' tpos:Pos}{td ty tv:TE}
end
theorem pX{P:Program}{w:World}{H:Hp}(h:Heap)(hb:sysModules < h.objs.size):cY P w H (h.push {cls:=.type "dict",data:=.dict #[]}) h.objs.size (.dK []):=
  ⟨Nat.zero_le _,beq_eq_false_iff_ne.mpr (Ne.symm (Nat.ne_of_lt hb)),[],.nil,Heap.DictOf.new h⟩
def Cm:TE:=fun _ H Q=>∀p,H p=none→Q (.ref p) (a_ H p (.dK []))
section
variable{X:Cx}{pos:Pos}
theorem wX:PE X (.Dict [] [] pos) Cm:=fun pins s σ H Q I h=>
  wpAny_Dict_empty ⟨.ref s.heap.objs.size,_,I.laid (a:=s.heap.objs.size) (o:=.dK []) (t':=s.toks) (fun _ _ q=>Heap.get?_push_of_some _ q) (Nat.le_refl _) (pX s.heap I.big),rfl,h _ (I.hok.fresh (Nat.le_refl _))⟩
end
def pB:List (TE × TE)→St→Hp→(List (V × V)→Hp→Prop)→Prop
  | [],_,H,Q=>Q [] H
  | (tk,tv)::r,σ,H,Q=>tk σ H fun x H1=>tv σ H1 fun y H2=>pB r σ H2 fun ps H3=>Q ((x,y)::ps) H3
abbrev VV:List (V × V)→List (Value × Value)→Prop:=Paired fun p q=>bD p.1 q.1∧bD p.2 q.2
def Ep(X:Cx)(pos:Pos)(keys:List (Option Expr))(values:List Expr)(trs:List (TE × TE)):Prop:=
  ∀(pins:List (Addr × Obj)) (s:Shared) (σ:St) (H:Hp) (Q:List (V × V)→Hp→Prop),aF X pins σ H s→pB trs σ H Q→
    wpAny (model X.prog X.w) X.A (evalPairs (pairTrees keys values X.env pos)) (fun vs s'=>∃ps H',aF X pins σ H' s'∧VV ps vs∧Q ps H') X.xe s
theorem zA{X:Cx}{pos:Pos}:Ep X pos [] [] []:=fun pins s σ H Q I h=>pairTrees_nil_walk ⟨[],H,I,.nil,h⟩
theorem xj{X:Cx}{pos:Pos}{k v:Expr}{ks:List (Option Expr)}{vs:List Expr}{tk tv:TE}{trs:List (TE × TE)}(hk:PE X k tk)(hv:PE X v tv)(hr:Ep X pos ks vs trs):
    Ep X pos (some k::ks) (v::vs) ((tk,tv)::trs):=fun pins s σ H Q I h=>
  pairTrees_cons_walk (cP (hk pins s σ H _ I h) fun u s1 ⟨x,H1,I1,rx,q1⟩=>cP (hv pins s1 σ H1 _ I1 q1) fun w2 s2 ⟨y,H2,I2,ry,q2⟩=>
    cP (hr pins s2 σ H2 _ I2 q2) fun ws s3 ⟨ps,H3,I3,rel,q3⟩=>⟨(x,y)::ps,H3,I3,.cons ⟨rx,ry⟩ rel,q3⟩)
def iE(kvs more:List (fU × V)):List (fU × V):=more.foldl (fun acc kv=>qi acc kv.1 kv.2) kvs
theorem KV.merge:∀{more:List (fU × V)} {rs:List (fU × Value)} {kvs:List (fU × V)} {vs:List (fU × Value)},KV more rs→KV kvs vs→KV (iE kvs more) (merged vs rs):=by
  intro more rs kvs vs r
  unfold KV at r
  induction r generalizing kvs vs with
  | nil=>intro q;exact q
  | @cons p q ps qs h t ih=>
    intro r0
    have e:KV (qi kvs p.1 p.2) (stored vs q.1 q.2):=by
      have:=r0.put p.1 h.2
      rw [←h.1];exact this
    exact ih e
theorem i5:∀(more kvs:List (fU × V)),(iE kvs more).length≤kvs.length+more.length
  | [],kvs=>by show kvs.length≤kvs.length+0;lia
  | p::r,kvs=>by
    have h1:=i5 r (qi kvs p.1 p.2)
    have h2:=p9 kvs p.1 p.2
    show(iE (qi kvs p.1 p.2) r).length≤_
    rw [List.length_cons];lia
theorem lP{P:Program}{w:World}:∀{kvs:List (fU × V)} {ws:List (Value × Value)},VV (kvs.map fun kv=>(kV kv.1,kv.2)) ws→∃rs,Carries (dN P w) ws rs∧KV kvs rs
  | [],_,r=>by rw [List.map_nil] at r;cases r;exact⟨[],True.intro,.nil⟩
  | p::kvs,_,r=>by
    rw [List.map_cons] at r
    cases r with
    | @cons a b as bs h t=>
      obtain⟨rs,c,q⟩:=lP (P:=P) (w:=w) t
      obtain⟨b1,b2⟩:=b
      exact⟨(p.1,b2)::rs,⟨Do h.1,rfl,c⟩,.cons ⟨rfl,h.2⟩ q⟩
def D'(trs:List (TE × TE)):TE:=fun σ H Q=>∀p,H p=none→pB trs σ (a_ H p (.dK [])) fun ps H2=>H2 p=some (.dK [])∧∃kvs:List (fU × V),ps=kvs.map (fun kv=>(kV kv.1,kv.2))∧kvs.length≤15∧Q (.ref p) (a_ H2 p (.dK (iE [] kvs)))
theorem zo{X:Cx}{pos:Pos}{keys:List (Option Expr)}{values:List Expr}{trs:List (TE × TE)}(h:Ep X pos keys values trs)(hall:keys.all (·.isSome)=true)(hl:keys.length=values.length)(h0:keys≠[])
    (h15:keys.length≤15):PE X (.Dict keys values pos) (D' trs):=by
  intro pins s σ H Q I q
  have hn:=I.hok.fresh (Nat.le_refl s.heap.objs.size)
  have I1:=I.laid (a:=s.heap.objs.size) (o:=.dK []) (h':=s.heap.push {cls:=.type "dict",data:=.dict #[]}) (t':=s.toks) (fun _ _ q=>Heap.get?_push_of_some _ q) (Nat.le_refl _) (pX s.heap I.big)
  refine wpAny_Dict_walk (knd:=dN X.prog X.w) hall hl h0 h15 (cP (h pins _ σ _ _ I1 (q _ hn)) fun ws s2 ⟨ps,H2,I2,rel,e,kvs,ep,lk,q2⟩=>?_)
  subst ep
  obtain⟨rs,c,rk⟩:=lP (P:=X.prog) (w:=X.w) rel
  obtain⟨z,hd,vs0,r0,dd⟩:=C7 I2.hok e
  cases r0
  refine⟨rs,c,dd,fun h' dd' hs=>⟨.ref s.heap.objs.size,_,?_,rfl,q2⟩⟩
  have hz:(iE [] kvs).length≤sizeLine:=by
    have h1:=i5 kvs []
    rw [List.length_nil] at h1
    rw [sizeLine_eq];lia
  have he:∃q,h'.get? s.heap.objs.size=some q:=let ⟨q,_,_,hq,_⟩:=dd';⟨q,hq⟩
  exact yz I2 (by rw [e];exact True.intro) hs he (AX hz hd (rk.merge .nil) dd')
section
variable{X:Cx}{pins:List (Addr × Obj)}{σ:St}{H:Hp}{s:Shared}{a:Addr}{y d:V}{u r:Value}{o:Option V}{A:Around}{E:Value→Shared→Prop}
end
section
variable{X:Cx}{o e f:Expr}{apos cpos:Pos}{td ty tx:TE}
end
section
variable{X:Cx}{pins:List (Addr × Obj)}{σ:St}{H:Hp}{s:Shared}{a:Addr}{kvs:List (fU × V)}{A:Around}{E:Value→Shared→Prop}
end
section
variable{X:Cx}{pins:List (Addr × Obj)}{σ:St}{H:Hp}{s:Shared}{a:Addr}{y:V}{u:Value}{A:Around}{E:Value→Shared→Prop}
end
end L2
namespace Att
open PySem PySem.W PySem.Calls PyProof.Rows
section
variable{prog:Program}{w:World}{A:Around}{E:Value→Shared→Prop}{s:Shared}{K:Frag}
end
end Att
namespace L2
open PySem PySem.Spec PyProof.Rows
end L2
namespace L2
open PySem PySem.Spec PyProof.Rows
end L2
namespace L2
open PySem PySem.Spec PyProof.Rows
section
variable{P:Program}{w:World}{K:PySem.W.Frag}{mg:Str→Option Value}{base:Heap}
end
section
variable{X:Cx}
end
section
variable{κ:Type}[DecidableEq κ]
end
end L2
namespace L2
open PySem PySem.Spec PyProof.Rows
def Em:PyData→String
  | .none=>"NoneType"
  | .bool _=>"bool"
  | .int _=>"int"
  | .str _=>"str"
  | .tuple _=>"tuple"
  | .list _=>"list"
  | .dict _=>"dict"
def Cj(t T:String):Bool:=t==T || (t=="bool"&&T=="int")
def Di(T:String)(d:PyData):Bool:=Cj (Em d) T
def jI(T:String):En→Rv→Option Rv:=fun _ r=>match r with
  | .d x=>some (.d (.bool (Di T x)))
  | _=>some (.d (.bool (Di T (.list []))))
section
variable{X:Cx}{K:PySem.W.Frag}{a:Expr}{fa:FE}{pos p p2:Pos}
def EJ(K:PySem.W.Frag)(H:Hp):V→String→Prop
  | .non,t=>t="NoneType"
  | .bl _,t=>t="bool"
  | .int _,t=>t="int"
  | .str _,t=>t="str"
  | .ref a,t=>(t="tuple"∧∃xs,cD K H a xs)∨(t="list"∧∃xs,dg K H a xs)∨(t="dict"∧∃m,H a=some (.dK m))
  | _,_=>False
theorem vB{T:String}:et X (.builtin "isinstance") (fun xs H Q=>∃x t b,xs=[x,.ty T]∧EJ X.K H x t∧PySem.W.kitOne X.K (.type t) (.type T)=some b∧Q (.bl b) H):=by
  intro pins s σ H xs us Q I r h
  obtain⟨x,t,b,rfl,ht,hk,q⟩:=h
  obtain⟨u1,u2,rfl,r1,r2⟩:∃u1 u2,us=[u1,u2]∧bD x u1∧bD (.ty T) u2:=by
    cases r with
    | cons p q=>cases q with
      | cons p' q'=>cases q';exact⟨_,_,rfl,p,p'⟩
  cases r2
  have q':∀tk,EP X pins σ Q (.bool b) {s with toks:=tk}:=fun tk=>⟨.bl b,H,I.tok _,rfl,q⟩
  cases x with
  | non=>cases (show u1=Value.none from r1);cases (show t=_ from ht);exact PySem.W.kia_one PySem.W.kitx_none I.kIn True.intro hk (fun z=>nomatch z) q'
  | bl y=>cases (show u1=Value.bool y from r1);cases (show t=_ from ht);exact PySem.W.kia_one PySem.W.kitx_bool I.kIn True.intro hk (fun z=>nomatch z) q'
  | int i=>obtain⟨tt,rfl⟩:=r1;cases (show t=_ from ht);exact PySem.W.kia_one PySem.W.kitx_int I.kIn True.intro hk (fun z=>nomatch z) q'
  | str y=>obtain⟨tt,rfl⟩:=r1;cases (show t=_ from ht);exact PySem.W.kia_one PySem.W.kitx_str I.kIn True.intro hk (fun z=>nomatch z) q'
  | ref a=>
    cases (show u1=Value.ref a from r1)
    rcases ht with ⟨rfl,xs,hs⟩ | ⟨rfl,xs,hs⟩ | ⟨rfl,m,hs⟩
    · obtain⟨its,rv,pl,hz⟩:=I.tuple hs
      obtain⟨o,h1,h2⟩:=pl.typeIs
      exact PySem.W.kia_one PySem.W.kitx_tuple I.kIn ⟨o,h1,h2⟩ hk (fun z=>nomatch z) q'
    · obtain⟨its,rv,pl,hz⟩:=I.list hs
      obtain⟨o,h1,h2⟩:=pl.isList.typeIs
      exact PySem.W.kia_one PySem.W.kitx_list I.kIn ⟨o,h1,h2⟩ hk (fun z=>nomatch z) q'
    · obtain⟨_,_,vs,_,pp⟩:=(show cY X.prog X.w H s.heap a (.dK m) from I.hok a _ hs)
      obtain⟨o,es,ep,h1,h2,_⟩:=pp
      exact PySem.W.kia_one PySem.W.kitx_dict I.kIn ⟨o,h1,h2.1⟩ hk (fun z=>nomatch z) q'
  | _=>exact False.elim ht
theorem wZ{x:Str}{T:String}(hg:Gl X x)(hm:X.mg x=none)(hv:bootBuiltins x=some (.type T))(hn:x≠"__name__")(hd:(x==("__debug__":Str))=false):PE X (.Name x pos) (tC (.ty T)):=fun pins s σ H Q I h=>
  iB I hg hm hv ⟨.ty T,H,I,rfl,h⟩ hn hd
theorem Bf{t T:String}(ht:t∈["NoneType","bool","int","str","tuple","list","dict"])(hT:T∈["int","bool","tuple","str"]):PySem.W.kitOne K (.type t) (.type T)=some (Cj t T):=by
  simp only [List.mem_cons,List.not_mem_nil,or_false] at ht hT
  rcases ht with rfl | rfl | rfl | rfl | rfl | rfl | rfl<;>rcases hT with rfl | rfl | rfl | rfl<;>rfl
theorem zZ(d:PyData):Em d∈["NoneType","bool","int","str","tuple","list","dict"]:=by cases d<;>simp [Em]
theorem Cv{F H:Hp}{d:PyData}{v:V}(h:DA K F d v)(s:aw F H):EJ K H v (Em d):=by
  have h:=DA.mono s h
  cases d with
  | none=>rw [gU.mp h];rfl
  | bool b=>rw [dh.mp h];rfl
  | int b=>rw [dn.mp h];rfl
  | str b=>rw [oH.mp h];rfl
  | tuple ds=>obtain⟨a,xs,rfl,h1,_⟩:=dr.mp h;exact .inl ⟨rfl,xs,h1⟩
  | list ds=>obtain⟨a,xs,rfl,h1,_⟩:=dq.mp h;exact .inr (.inl ⟨rfl,xs,h1⟩)
  | dict m=>simp only [DA] at h;obtain⟨a,m,rfl,h1,_⟩:=h;exact .inr (.inr ⟨rfl,_,h1⟩)
theorem yA{f:FE}{σ:L2.St}{H:Hp}{Q Q':VK}(h:fE K f σ H Q)(m:∀v H1,Q v H1→Q' v H1):fE K f σ H Q':=by
  obtain⟨F,e,r,e',R,hf,q⟩:=h
  exact⟨F,e,r,e',R,hf,fun F' H' v x R' A=>m _ _ (q F' H' v x R' A)⟩
theorem Dj{T:String}:CW K (fun v H Q=>∃t,t∈["NoneType","bool","int","str","tuple","list","dict"]∧EJ K H v t∧Q (.bl (Cj t T)) H) (jI T):=by
  intro σ H0 F H e x z v Q R A hg q
  unfold jI at hg
  cases x with
  | d d=>
    cases hg
    exact⟨Em d,zZ d,Cv A R.sm,q F H _ (dS.refl _ _ _ _) R di⟩
  | l xs=>
    cases hg
    obtain⟨l,vs,rfl,h1,h2,h3,h4⟩:=A
    exact⟨"list",by simp,.inr (.inl ⟨rfl,vs,dg.of h3⟩),q F H _ (dS.refl _ _ _ _) R di⟩
  | s i=>
    cases hg
    obtain⟨h1,xs,h2⟩:=A
    obtain⟨l,vs,h3,h4,h5,h6⟩:=R.own i xs h2
    rw [h1] at h3;cases h3
    exact⟨"list",by simp,.inr (.inl ⟨rfl,vs,dg.of h5⟩),q F H _ (dS.refl _ _ _ _) R di⟩
theorem mw{x:Str}{T:String}(hK:X.K=K)(hT:T∈["int","bool","tuple","str"])(hg:Gl X "isinstance")(hm:X.mg "isinstance"=none)(hgT:Gl X x)(hmT:X.mg x=none)(FD:bootBuiltins x=some (.type T))(hn:x≠"__name__")(hd:(x==("__debug__":Str))=false)
    (ha:PE X a (fE K fa))(he:starEach [a,.Name x p2] X.env=(false,eval a X.env)::starEach [.Name x p2] X.env)(hpl:(backTo pos (starEach [.Name x p2] X.env)).any (·.1)=false):
    PE X (.Call (.Name "isinstance" p) [a,.Name x p2] [] pos) (fE K (pI (jI T) fa)):=
  (qh (vB (T:=T)) hg hm boot_isinstance (ph ha (ph (wZ hgT hmT FD hn hd) wW) he) (by decide) (by decide) he hpl).mono fun σ H Q h=>by
    subst hK
    have h1:=yf (Dj (T:=T)) h
    refine yA h1 fun v H1 ⟨t,ht,k,q⟩=>?_
    exact⟨v,t,_,rfl,k,Bf ht hT,q⟩
end
end L2
namespace L2
open PySem PySem.Spec PyProof.Rows
section
variable{X:Cx}{K:PySem.W.Frag}
end
end L2
namespace L2
open PySem PySem.Spec PyProof.Rows
section
variable{X:Cx}{K:PySem.W.Frag}{σ:L2.St}{F H:Hp}{e:En}{pos p1 p2:Pos}
theorem a9.newD(R:a9 K F H σ e){p:Addr}{m:List (fU × V)}(hp:H p=none):a9 K (a_ F p (.dK m)) (a_ H p (.dK m)) σ e∧dS σ F H e (a_ F p (.dK m)) (a_ H p (.dK m)) e:=by
  have hF:=R.freeF hp
  obtain⟨R1,X1⟩:=R.same (aw.new hp (o:=.dK m))
  obtain⟨R2,s2⟩:=R1.freeze (p:=p) hF aG (R1.notOwn aG (fun _ z=>nomatch z))
  refine⟨R2,⟨s2,X1.dom,fun a ws h n _=>?_,X1.lst,X1.tmp,X1.shp,X1.ow⟩⟩
  have z:a≠p:=fun z=>by rw [z,hp] at n;cases n
  rw [aI z];exact h
def lh(m:List (Int × Int)):FE:=fun e=>some (.d (.dict (m.map fun p=>(PyData.int p.1,PyData.int p.2))),e)
theorem qk:PE X (.Dict [] [] pos) (fE K (lh [])):=wX.mono fun σ H Q h=>by
  obtain⟨F,e,z,e2,R,hf,q⟩:=h
  cases hf
  intro p hp
  obtain⟨R3,X3⟩:=R.newD (m:=[]) hp
  exact q _ _ _ X3 R3 (by simp only [cw,DA];exact⟨p,[],rfl,aG,rfl⟩)
theorem xt{i j:Int}{k1 k2}:PE X (.Dict [some (.Constant (.int i) k1 p1)] [.Constant (.int j) k2 p2] pos) (fE K (lh [(i,j)])):=
  (zo (xj (@rP X i k1 p1) (@rP X j k2 p2) zA) rfl rfl (by simp) (by simp)).mono fun σ H Q h=>by
  obtain⟨F,e,z,e2,R,hf,q⟩:=h
  cases hf
  intro p hp
  refine⟨aG,[(Sum.inl i,.int j)],rfl,by simp,?_⟩
  have e1:a_ (a_ H p (.dK [])) p (.dK (iE [] [((Sum.inl i:fU),V.int j)]))=a_ H p (.dK (iE [] [((Sum.inl i:fU),V.int j)])):=by
    funext a;by_cases h:a=p
    · subst h;rw [aG,aG]
    · rw [aI h,aI h,aI h]
  rw [e1]
  obtain⟨R3,X3⟩:=R.newD (m:=iE [] [((Sum.inl i:fU),V.int j)]) hp
  exact q _ _ _ X3 R3 (by simp only [cw,DA];exact⟨p,[(i,j)],rfl,aG,rfl⟩)
end
end L2
namespace L2
open PySem PySem.Spec PyProof.Rows
section
variable{X:Cx}{K:PySem.W.Frag}{a b c d:Expr}{ta tb tc td:TE}{fa fb fc fd:FE}{pos:Pos}
end
end L2
namespace L2
open PySem PySem.Spec PyProof.Rows
section
variable{X:Cx}{K:PySem.W.Frag}{a b:Expr}{es:List Expr}{fa fb:FE}{fs:FA}{pos p apos:Pos}
end
end L2
namespace L2
open PySem PySem.Spec PyProof.Rows
section
variable{X:Cx}{K:PySem.W.Frag}{a b:Expr}{fa fb:FE}{fs:FA}{pos p p2 p3:Pos}
end
end L2
namespace L2
open PySem PySem.Spec PyProof.Rows
theorem qW.plS{M i j:Int}{a b:Fr}(h:qW M i a)(k:qW M j b):qW M (i+j) (L2.pl a b):=by
  have p:0 < a.2*b.2:=Int.mul_pos h.pos k.pos
  have t:0≤a.1*b.2+b.1*a.2:=Int.add_nonneg (Int.mul_nonneg h.lo (Int.le_of_lt k.pos)) (Int.mul_nonneg k.lo (Int.le_of_lt h.pos))
  obtain⟨d,d0,h3,h4,h5,h6⟩:=eN p t
  refine⟨h5,h6,iW p t ?_,?_⟩
  · have e1:a.1*b.2≤i*a.2*b.2:=Int.mul_le_mul_of_nonneg_right h.hi (Int.le_of_lt k.pos)
    have e2:b.1*a.2≤j*b.2*a.2:=Int.mul_le_mul_of_nonneg_right k.hi (Int.le_of_lt h.pos)
    rw [Int.add_mul,show i*(a.2*b.2)=i*a.2*b.2 by ac_rfl,show j*(a.2*b.2)=j*b.2*a.2 by ac_rfl]
    lia
  · obtain⟨x,hx⟩:=h.dv
    obtain⟨y,hy⟩:=k.dv
    refine wz (u:=a.1*x+b.1*y) p t ?_
    rw [Int.add_mul,Int.mul_add]
    congr 1
    · rw [hx]
      rw [show a.1*b.2*(a.2*x)=a.2*b.2*(a.1*x) by ac_rfl]
    · rw [hy]
      rw [show b.1*a.2*(b.2*y)=a.2*b.2*(b.1*y) by ac_rfl]
def bq(W:br)(as:List Int):Int:=bp W (W.rng.filter fun k=> !as.contains k)
def wI(l:Nat):Int:=1000*(2 ^ (16 - l) - 1)
structure FP (W:br) (k:Int) (as:List Int) (y n:Fr):Prop where
  y:qW (bq W (br.askd as k)) (wI (as.length+1)) y
  n:qW (bq W (br.askd as k)) (wI (as.length+1)) n
  len:as.length≤15
  inw:t5 W k
  new:k∉as
def lk(ws:List Fr)(l:Int):Fr:=if l= -1 then(0,1) else ws.getD l.toNat (0,1)
structure F7 (W:br) (S:Nat→Std) (n:Nat) (ws:List Fr):Prop where
  len:ws.length=n
  at':∀(j:Nat) (f:Fr),ws[j]?=some f→qW (bq W (S j).1) (wI (S j).1.length) f
theorem CD{M i:Int}(h:0≤i):qW M i (0,1):=⟨by decide,by decide,by show(0:Int)≤i*1;lia,Int.one_dvd _⟩
theorem Sz.int10{n m:Nat}{k:Int}(hb:Bt m k)(m0:0 < m)(m1:m≤1900)(h:k.natAbs < 10 ^ n)(h0:0 < n):Sz (n+1) 2 (.int k):=by
  refine⟨rfl,?_,by simp [PyData.depth],?_,bQ _⟩
  · show decide (k.natAbs.log2 < 1920)=true
    rw [decide_eq_true_eq]
    have:=hb.log m0
    lia
  · have:=int_text_length_le10 h0 h
    show(Str.ofString (toString k)).length≤n+1
    rw [PySem.ofString_length];exact this
end L2
namespace L2
open PySem PySem.Spec PyProof.Rows
theorem e6{cs:En}{g:FG}{ft:FT}{fe:FE}{b:PyData→Bool}{y:PyData→PyData}{u:PyData→En}(n:Nat):∀(items:List PyData) (t:En) (acc:List PyData),t.length=n→(∀x∈items,∀t:En,t.length=n→g x (cs++t)=some (cs++u x))→(∀x∈items,(u x).length=n)→
    (∀x∈items,ft (cs++u x)=some (b x,cs++u x))→(∀x∈items,b x=true→fe (cs++u x)=some (.d (y x),cs++u x))→acc.length+items.length≤1000000→
    ∃t',t'.length=n∧dX g ft fe items (cs++t) acc=some (acc++(items.filter b).map y,cs++t')
  | [],t,acc,h,_,_,_,_,_=>⟨t,h,by simp [dX]⟩
  | x::r,t,acc,h,hg,hu,h1,h2,hl=>by
    have h1x:=h1 x (by simp)
    unfold dX
    rw [hg x (by simp) t h]
    simp only [Option.bind_some,h1x]
    cases hb:b x with
    | true=>
      simp only [if_true,h2 x (by simp) hb,Option.bind_some,pW]
      rw [if_pos (by simp at hl;lia)]
      obtain⟨t',e1,ih⟩:=e6 (b:=b) (y:=y) (u:=u) n r (u x) (acc++[y x]) (hu x (by simp)) (fun z hz=>hg z (by simp [hz])) (fun z hz=>hu z (by simp [hz])) (fun z hz=>h1 z (by simp [hz])) (fun z hz=>h2 z (by simp [hz])) (by simp at hl ⊢;lia)
      exact⟨t',e1,by rw [ih];simp [hb]⟩
    | false=>
      simp only [Bool.false_eq_true,if_false]
      obtain⟨t',e1,ih⟩:=e6 (b:=b) (y:=y) (u:=u) n r (u x) acc (hu x (by simp)) (fun z hz=>hg z (by simp [hz])) (fun z hz=>hu z (by simp [hz])) (fun z hz=>h1 z (by simp [hz])) (fun z hz=>h2 z (by simp [hz])) (by simp at hl;lia)
      exact⟨t',e1,by rw [ih];simp [hb]⟩
theorem oi{nT:Nat}{fi:FI}{g:FG}{ft:FT}{fe:FE}{e e1 eo:En}{items out:List PyData}{own:fy}(h1:fi e=some (items,own,e1))(h3:dX g ft fe items (List.replicate nT none) []=some (out,eo)):bF [] nT fi g ft fe e=some (.l out,e1):=by
  unfold bF
  rw [h1]
  simp only [Option.bind_some]
  rw [if_pos (by simp),show m4 [] nT e1=List.replicate nT none from rfl,h3]
  simp only [Option.bind_some]
  rw [if_pos (by simp [kf])]
  congr 2
  refine List.ext_getElem? fun i=>?_
  rw [ck]
  match h:e1[i]? with
  | none=>rfl
  | some none=>rfl
  | some (some (.d x))=>rfl
  | some (some (.n x))=>rfl
  | some (some (.l x))=>rfl
theorem nZ{x:Str}(h:PyData.strOk x=true):∀c∈x.cps.toList,c < 1114112:=by
  intro c hc
  unfold PyData.strOk at h
  rw [Array.all_eq_true'] at h
  have:=h c (by simpa using hc)
  simpa using this
theorem xV{l:Array Nat}(h:∀c∈l.toList,c < 1114112):PyData.strOk ⟨l⟩=true:=by
  unfold PyData.strOk
  rw [Array.all_eq_true']
  intro c hc
  simpa using h c (by simpa using hc)
theorem yx(c:Char):c.toNat < 1114112:=by
  have:=c.valid
  unfold UInt32.isValidChar Nat.isValidChar at this
  show c.val.toNat < _
  lia
open PySem.Builtin.Str in
theorem qm{q c:Nat}(hc:c < 1114112):∀d∈reprChar q c,d < 1114112:=by
  intro d hd
  unfold reprChar at hd
  have hx:∀w:Nat,∀d∈(List.replicate (w - ((Nat.toDigits 16 c).map Char.toNat).length) 48++(Nat.toDigits 16 c).map Char.toNat),d < 1114112:=by
    intro w d hd
    rcases List.mem_append.mp hd with h | h
    · have:=List.eq_of_mem_replicate h;lia
    · obtain⟨ch,_,rfl⟩:=List.mem_map.mp h;exact yx ch
  dsimp only at hd
  split at hd
  · simp only [List.mem_cons,List.not_mem_nil,or_false] at hd;lia
  split at hd
  · simp only [List.mem_cons,List.not_mem_nil,or_false] at hd;lia
  split at hd
  · simp only [List.mem_cons,List.not_mem_nil,or_false] at hd;lia
  split at hd
  · simp only [List.mem_cons,List.not_mem_nil,or_false] at hd;lia
  split at hd
  · simp only [List.mem_cons,List.not_mem_nil,or_false] at hd;lia
  split at hd
  · rcases List.mem_append.mp hd with h | h
    · simp only [List.mem_cons,List.not_mem_nil,or_false] at h;lia
    · exact hx 2 d h
  split at hd
  · rcases List.mem_append.mp hd with h | h
    · simp only [List.mem_cons,List.not_mem_nil,or_false] at h;lia
    · exact hx 4 d h
  · rcases List.mem_append.mp hd with h | h
    · simp only [List.mem_cons,List.not_mem_nil,or_false] at h;lia
    · exact hx 8 d h
open PySem.Builtin.Str in
theorem nM{q:Nat}:∀(l:List Nat) (acc:Array Nat),(∀c∈l,c < 1114112)→(∀c∈acc.toList,c < 1114112)→∀c∈(l.foldl (fun out c=>out++(reprChar q c).toArray) acc).toList,c < 1114112
  | [],acc,_,h=>h
  | x::r,acc,h1,h2=>nM r _ (fun c hc=>h1 c (by simp [hc])) fun c hc=>by
    simp only [Array.toList_append,List.mem_append] at hc
    rcases hc with hc | hc
    · exact h2 c hc
    · exact qm (h1 x (by simp)) c hc
theorem qo{x:Str}(h:PyData.strOk x=true):PyData.strOk (reprText x)=true:=by
  unfold reprText
  refine xV fun c hc=>?_
  have hq:reprQuote x < 1114112:=by unfold reprQuote;split<;>lia
  rw [Array.toList_push] at hc
  rcases List.mem_append.mp hc with hc | hc
  · rw [←Array.foldl_toList] at hc
    exact nM _ _ (nZ h) (fun c hc=>by simp at hc;lia) c hc
  · simp at hc;lia
theorem Sz.str{x:Str}{n:Nat}(h:PyData.strOk x=true)(hl:x.length≤n):Sz (10*n+2) 2 (.str x):=by
  refine⟨rfl,rfl,by simp [PyData.depth],?_,qo h⟩
  have:=PySem.StrLaws.reprText_len x fun c hc=>Nat.lt_of_lt_of_le (nZ h c hc) (by decide)
  show(reprText x).length≤_
  lia
end L2
namespace L2
open PySem PySem.Spec PyProof.Rows
section
variable{X:Cx}{K:PySem.W.Frag}{a:Expr}{fa:FE}{pos p pos2 p2:Pos}
end
end L2
namespace L2
open PySem PySem.Spec PyProof.Rows
section
variable{X:Cx}{K:PySem.W.Frag}{a:Expr}{fa:FE}
end
end L2
namespace L2
open PySem PySem.Spec PyProof.Rows
abbrev Rn:=List (Int × Bool)
def yC(R:Rn):List Int:=R.map (·.1)
def Ap(W:br)(R:Rn):List Int:=(R.filter (·.2)).flatMap fun r=>[(W.tie r.1).one,(W.tie r.1).other]
structure FX (W:br) (R:Rn) (asked taken:List Int):Prop where
  pa:asked.Perm (yC R)
  pt:taken.Perm (Ap W R)
  inw:∀k∈yC R,t5 W k
  nd:(yC R).Nodup
  nk:(Ap W R).Nodup
  bd:∀t:Int,0≤t→t < W.things→W.many (yC R) t≤W.pat.getD t.toNat 0
  ak:(R.length:Int)≤W.asks
  sa:asked.Pairwise (· ≤·)
  st:taken.Pairwise (· ≤·)
end L2
namespace L2
open PySem PySem.Spec PyProof.Rows
section
variable{prog:Program}{w:World}{A:Around}{R:Result→Shared→Prop}
end
def Cn(l:Addr)(wi:TI)(g:TG)(tc:TT)(te:TE)(σ:L2.St)(H:Hp)(N:L2.St→Hp→Prop):Prop:=
  wi σ H fun J H1=>∃W:Nat→Nat→L2.St→Hp→Prop,(∃m,W 0 m σ H1)∧∀i m σ' H',W i m σ' H'→
    (J.stop i H'∧N σ' H')∨(J.go i H'∧∃N2:L2.St→Hp→Prop,(∀σ2 H2,N2 σ2 H2→∃m',m' < m∧W (i+1) m' σ2 H2)∧
      ∀x H2,J.yld i H' x H2→g x σ' H2 fun σ2 H3=>tc σ2 H3 fun b H4=>if b=true then te σ2 H4 fun v H5=>∃ys,H5 l=some (.lst ys)∧ys.length < sizeLine∧N2 σ2 (a_ H5 l (.lst (ys++[v]))) else N2 σ2 H4)
structure Fe (cp:List (Nat × Str)) (nT:Nat) (wi:TI) (g:TG) (tc:TT) (wi2:TI) (g2:TG) (tc2:TT) (te:TE) (σ:L2.St) (H:Hp) (Q:VK):Prop where
  go:wi σ H fun J H1=>∀l,H1 l=none→
  ∃W:Nat→Nat→L2.St→Hp→Prop,(∃m,W 0 m (gF cp nT σ) (a_ H1 l (.lst [])))∧∀i m σ' H',W i m σ' H'→
    (J.stop i H'∧Q (.ref l) H')∨(J.go i H'∧∃N:L2.St→Hp→Prop,(∀σ2 H2,N σ2 H2→∃m',m' < m∧W (i+1) m' σ2 H2)∧
      ∀x H2,J.yld i H' x H2→g x σ' H2 fun σ2 H3=>tc σ2 H3 fun b H4=>if b=true then Cn l wi2 g2 tc2 te σ2 H4 N else N σ2 H4)
section
variable{K:PySem.W.Frag}{F H:Hp}{σ:L2.St}{e:En}{cp:List (Nat × Str)}{nT:Nat}
end
section
variable{X:Cx}{K:PySem.W.Frag}{pos:Pos}
end
section
variable{X:Cx}{K:PySem.W.Frag}{pos:Pos}
variable{o:Expr}{fo:FE}{apos cpos:Pos}
end
end L2
namespace L2
open PySem PySem.Spec PyProof.Rows
section
variable{X:Cx}{K:PySem.W.Frag}
def F_:List Int→Int
  | []=>0
  | x::r=>r.foldl max x
end
end L2
namespace L2
open PySem PySem.Spec PyProof.Rows
structure ly (f:Fr):Prop where
  pos:0 < f.2
  cop:Int.gcd f.1 f.2=1
def Vl(M:Int)(f:Fr)(v:Int):Prop:=f.1*M=v*f.2
theorem Vl.of{M i:Int}{f:Fr}(h:qW M i f):Vl M f (f.1*(M / f.2)):=by
  unfold Vl
  obtain⟨c,hc⟩:=h.dv
  have hp:=h.pos
  rw [hc,Int.mul_ediv_cancel_left _ (by lia),Int.mul_assoc,Int.mul_comm c f.2]
theorem Vl.pl{M:Int}{a b:Fr}{v w:Int}(ha:Vl M a v)(hb:Vl M b w)(pa:0 < a.2)(pb:0 < b.2):Vl M (pl a b) (v+w):=by
  unfold Vl at*
  have p:a.2*b.2≠0:=Int.ne_of_gt (Int.mul_pos pa pb)
  have hc:=dw (t:=a.1*b.2+b.1*a.2) (b:=a.2*b.2) p
  change (L2.pl a b).1*(a.2*b.2)=(L2.pl a b).2*(a.1*b.2+b.1*a.2) at hc
  generalize (L2.pl a b).1=x at*
  generalize (L2.pl a b).2=y at*
  refine Int.eq_of_mul_eq_mul_right (a:=a.2*b.2) p ?_
  have e1:x*M*(a.2*b.2)=y*(a.1*M*b.2+b.1*M*a.2):=by
    rw [show x*M*(a.2*b.2)=x*(a.2*b.2)*M by rw [Int.mul_assoc,Int.mul_comm M,←Int.mul_assoc],hc,Int.mul_assoc y,Int.add_mul]
    congr 2
    · rw [Int.mul_assoc,Int.mul_comm b.2 M,←Int.mul_assoc]
    · rw [Int.mul_assoc,Int.mul_comm a.2 M,←Int.mul_assoc]
  rw [e1,ha,hb]
  have e2:v*a.2*b.2+w*b.2*a.2=(v+w)*(a.2*b.2):=by
    rw [Int.add_mul,Int.mul_assoc v,Int.mul_assoc w,Int.mul_comm b.2 a.2]
  rw [e2,←Int.mul_assoc,Int.mul_comm y (v+w)]
theorem ly.lowM{t b:Int}(h:0 < b):ly (L2.lowM t b):=by
  obtain⟨d,_,_,_,_,h5⟩:=gu (t:=t) (b:=b) (by lia)
  exact⟨h5,jM (by lia)⟩
theorem ly.pl{a b:Fr}(pa:0 < a.2)(pb:0 < b.2):ly (pl a b):=ly.lowM (Int.mul_pos pa pb)
def aY(a:Fr)(L:List Fr):Fr:=L.foldl pl a
theorem tN{M j:Int}:∀(L:List Fr) {a:Fr} {i:Int},qW M i a→ly a→0≤j→(∀f∈L,qW M j f)→qW M (i+j*(L.length:Int)) (aY a L)∧ly (aY a L)∧∀v,Vl M a v→Vl M (aY a L) (v+(L.map fun f=>f.1*(M / f.2)).sum)
  | [],a,i,h,hl,_,_=>⟨by simpa [aY] using h,hl,fun v hv=>by simpa [aY] using hv⟩
  | f::r,a,i,h,hl,hj,hf=>by
    have k:=hf f (by simp)
    have hp:=h.plS k
    obtain⟨c1,c2,c3⟩:=tN r (a:=pl a f) hp (ly.pl h.pos k.pos) hj fun x hx=>hf x (by simp [hx])
    refine⟨?_,c2,fun v hv=>?_⟩
    · have e:i+j*((f::r).length:Int)=i+j+j*(r.length:Int):=by
        simp only [List.length_cons,Int.natCast_add,Int.natCast_one,Int.mul_add,Int.mul_one];lia
      rw [e];exact c1
    · have:=c3 _ (hv.pl (Vl.of k) h.pos k.pos)
      simp only [List.map_cons,List.sum_cons]
      rw [Int.add_assoc] at this
      exact this
theorem tV:ly ((0,1):Fr):=⟨by decide,by decide⟩
abbrev Pg:=List Int × Int
def Ga(t:iu)(p:Pg):Bool:= !p.1.contains t.one&& !p.1.contains t.other
def EM(t:iu)(p:Pg):Pg:=(p.1++[t.one,t.other],p.2+t.worth)
def Gc(ps:List Pg)(t:iu):List Pg:=ps++(ps.filter (Ga t)).map (EM t)
def Gb(ts:List iu):List Pg:=ts.foldl Gc [([],0)]
structure Fy (k:Nat) (ps:List Pg):Prop where
  ne:ps≠[]
  len:ps.length≤2 ^ k
  pt:∀p∈ps,p.1.length≤2*k∧0≤p.2∧p.2≤1000*(k:Int)
def FD(ts:List iu):Int:=F_ ((Gb ts).map (·.2))
end L2
namespace L2
open PySem PySem.Spec PyProof.Rows
end L2
namespace L2
open PySem PySem.Spec PyProof.Rows
section
variable{prog:Program}{w:World}{A:Around}{E:Value→Shared→Prop}{s:Shared}
end
section
variable{X:Cx}{a:Expr}{ta:TA}{p p2 pos pos2:Pos}
variable{K:PySem.W.Frag}{fs:FA}{p3:Pos}
end
end L2
namespace L2
open PySem PySem.Spec PyProof.Rows
def yk:PyData→Bool
  | .int _=>true
  | _=>false
theorem ki{α:Type}(p:α→Bool):∀(ds:List α),kg (ds.map fun d=>PyData.bool (p d))=some (ds.map p)
  | []=>rfl
  | d::r=>by simp [kg,ki p r]
theorem pY{α:Type}{e:En}(p:α→Bool)(ds:List α):g1 (gh nv) e [.l (ds.map fun d=>.bool (p d))]=some (.d (.bool (ds.all p))):=by
  simp [g1,gh,eR,nv,ki p,List.all_map]
theorem vU{α:Type}{e:En}(p:α→Bool)(ds:List α):g1 (gh pZ) e [.l (ds.map fun d=>.bool (p d))]=some (.d (.bool (ds.any p))):=by
  simp [g1,gh,eR,pZ,ki p,List.any_map]
theorem cut_len{xs:List PyData}{lo hi:Option Int}:(cutD xs lo hi).length≤xs.length:=by
  unfold cutD
  rw [List.length_take,List.length_drop]
  lia
theorem km{g:FG}{ft:FT}{fe:FE}(P:Nat→En→Prop)(R:PyData→Prop):∀(items:List PyData) (k:Nat) (e:En) (acc:List PyData),(∀i x e,items[i]?=some x→P (k+i) e→∃e1 r d e2,g x e=some e1∧ft e1=some (true,e1)∧fe e1=some (r,e2)∧pW r=some d∧R d∧P (k+i+1) e2)→P k e→acc.length+items.length≤1000000→
    ∃out e',dX g ft fe items e acc=some (acc++out,e')∧out.length=items.length∧(∀d∈out,R d)∧P (k+items.length) e'
  | [],k,e,acc,_,h,_=>⟨[],e,by simp [dX],rfl,(fun _ h=>by cases h),h⟩
  | x::r,k,e,acc,hs,h,hl=>by
    obtain⟨e1,v,d,e2,h1,h2,h3,h3',h4,h5⟩:=hs 0 x e rfl h
    simp only [List.length_cons] at hl
    obtain⟨out,e',h6,h7,h8,h9⟩:=km P R r (k+1) e2 (acc++[d]) (fun i y e hy hp=>by
      have:=hs (i+1) y e (by simpa using hy) (by rw [show k+(i+1)=k+1+i by lia];exact hp)
      rw [show k+(i+1)+1=k+1+i+1 by lia] at this
      exact this) (by simpa using h5) (by simp;lia)
    refine⟨d::out,e',?_,by simp [h7],fun y hy=>?_,by rw [List.length_cons,show k+(r.length+1)=k+1+r.length by lia];exact h9⟩
    · unfold dX
      simp only [h1,h2,h3,h3',Option.bind_some,if_true]
      rw [if_pos (by lia),h6]
      simp
    · rcases List.mem_cons.mp hy with rfl | hy
      · exact h4
      · exact h8 y hy
theorem oj{cp:List (Nat × Str)}{nT:Nat}{fi:FI}{g:FG}{ft:FT}{fe:FE}{e e1 eo:En}{items out:List PyData}(h1:fi e=some (items,[],e1))(h3:dX g ft fe items (m4 cp nT e1) []=some (out,eo))(hb:kf cp eo e1=true):bF cp nT fi g ft fe e=some (.l out,kb (jU cp) eo e1):=by
  unfold bF
  rw [h1]
  simp only [Option.bind_some,List.all_nil,if_true,h3]
  rw [if_pos hb]
theorem iR{own:fy}{g:FG}{f:FS}{Z:Rv}(ok:PyData→Bool)(P Q:En→Prop):∀(items:List PyData) (e:En),(∀x∈items,∀e,P e→∃e1,g x e=some e1∧(ok x=true→∃e2,f e1=some (.nx e2)∧keeps own e2∧P e2)∧(ok x=false→∃e2,f e1=some (.rt Z e2)∧Q e2))→P e→
    (items.all ok=true→∃e',iz own g f items e=some (.nx e')∧P e')∧(items.all ok=false→∃e',iz own g f items e=some (.rt Z e')∧Q e')
  | [],e,_,h=>⟨fun _=>⟨e,rfl,h⟩,fun z=>by simp at z⟩
  | x::r,e,hs,h=>by
    obtain⟨e1,h1,h2,h3⟩:=hs x (by simp) e h
    rw [List.all_cons]
    cases c:ok x with
    | true=>
      obtain⟨e2,h4,h5,h6⟩:=h2 c
      have ih:=iR ok P Q r e2 (fun y hy=>hs y (by simp [hy])) h6
      rw [Bool.true_and]
      have e0:iz own g f (x::r) e=iz own g f r e2:=by
        simp only [iz,h1,h4,Option.bind_some]
        rw [if_pos h5]
      rw [e0]
      exact ih
    | false=>
      obtain⟨e2,h4,h5⟩:=h3 c
      refine⟨fun z=>by simp at z,fun _=>⟨e2,?_,h5⟩⟩
      simp only [iz,h1,h4,Option.bind_some]
end L2
namespace L2
open PySem PySem.Spec PyProof.Rows
mutual
def qY:Nat→PyData→Bool
  | _,.none=>true
  | _,.bool _=>true
  | _,.int i=>decide (i.natAbs < 2 ^ 128)
  | _,.str x=>PyData.strOk x&&decide (x.length≤10)
  | k,.list xs=>decide (0 < k)&&iG (k - 1) xs
  | k,.tuple xs=>decide (0 < k)&&iG (k - 1) xs
  | _,.dict _=>false
def iG:Nat→List PyData→Bool
  | _,[]=>true
  | k,x::r=>qY k x&&iG k r
end
mutual
def wt:PyData→Nat
  | .list xs=>mU xs+1
  | .tuple xs=>mU xs+1
  | .dict _=>1
  | .none=>1
  | .bool _=>1
  | .int _=>1
  | .str _=>1
def mU:List PyData→Nat
  | []=>0
  | x::r=>wt x+mU r
end
theorem nJ{k:Nat}:∀{ds:List PyData},iG k ds=true↔ ∀d∈ds,qY k d=true
  | []=>by simp [iG]
  | d::r=>by simp [iG,nJ (ds:=r)]
theorem qP:∀(ts:List Str) (k:Nat) (acc:Str),(textFrom k acc ts).length≤acc.length+piled ts
  | [],_,acc=>by show acc.length≤acc.length+0;lia
  | t::r,k,acc=>by
    have ih:=qP r (k+1) (acc++(if k > 0 then ", " else "":String)++t)
    have e:(acc++(if k > 0 then ", " else "":String)++t).length≤acc.length+2+t.length:=by
      rw [strLen_append,strLen_append]
      have:(Str.ofString (if k > 0 then ", " else "")).length≤2:=by split<;>decide
      lia
    show(textFrom (k+1) _ r).length≤_
    rw [gZ];lia
theorem p_(ts:List Str):(listText ts).length≤piled ts+2:=by
  unfold listText
  rw [strLen_append]
  have h:=qP ts 0 "["
  have h1:(("[":Str)).length=1:=by decide
  have h2:(("]":Str)).length=1:=by decide
  lia
theorem mN:∀(ts:List Str) (k:Nat) (acc:Str),PyData.strOk acc=true→(∀t∈ts,PyData.strOk t=true)→PyData.strOk (textFrom k acc ts)=true
  | [],_,acc,h,_=>h
  | t::r,k,acc,h,hs=>mN r (k+1) _ (ej (ej h (bQ _)) (hs t (by simp))) fun u hu=>hs u (by simp [hu])
theorem nY{ts:List Str}(h:∀t∈ts,PyData.strOk t=true):PyData.strOk (listText ts)=true:=ej (mN ts 0 _ (bQ _) h) (bQ _)
structure CH (d:PyData) (k:Nat):Prop where
  lay:d.canLay0=true
  sh:d.showable=true
  dp:d.depth≤k
  ln:d.shown.length+2≤104*wt d
  so:PyData.strOk d.shown=true
theorem lO{d:PyData}{n:Nat}{k:Nat}(h:Sz n 0 d∨Sz n 2 d)(hn:n≤102)(hw:wt d=1)(hl:d.canLay0=true)(hd:d.depth=0):CH d k:=by
  rcases h with h | h<;>exact⟨hl,h.sh,by lia,by have:=h.ln;lia,h.so⟩
mutual
theorem i_{k:Nat}:∀{d:PyData},qY k d=true→CH d k
  | .none,_=>⟨rfl,rfl,by simp [PyData.depth],by show(Str.ofString "None").length+2≤104*1;decide,bQ _⟩
  | .bool b,_=>lO (.inr Sz.bool) (by decide) rfl rfl (by simp [PyData.depth])
  | .int i,h=>by
    simp only [qY,decide_eq_true_eq] at h
    exact lO (.inr (Sz.int10 (n:=39) (m:=128) (show Bt 128 i from h) (by decide) (by decide) (Nat.lt_of_lt_of_le h (by decide)) (by decide))) (by decide) rfl rfl (by simp [PyData.depth])
  | .str x,h=>by
    simp only [qY,Bool.and_eq_true,decide_eq_true_eq] at h
    exact lO (.inr (Sz.str (n:=10) h.1 h.2)) (by decide) rfl (by simpa [PyData.canLay0] using h.1) (by simp [PyData.depth])
  | .dict _,h=>by simp [qY] at h
  | .list xs,h=>by
    simp only [qY,Bool.and_eq_true,decide_eq_true_eq] at h
    obtain⟨a1,a2,a3,a4,a5⟩:=ov h.2
    have:=p_ (PyData.shownAll xs)
    refine⟨by simpa [PyData.canLay0] using a1,a2,by simp only [PyData.depth];lia,by simp only [PyData.shown,wt];lia,by simp only [PyData.shown];exact nY a5⟩
  | .tuple xs,h=>by
    simp only [qY,Bool.and_eq_true,decide_eq_true_eq] at h
    obtain⟨a1,a2,a3,a4,a5⟩:=ov h.2
    have:=kW (PyData.shownAll xs)
    refine⟨by simpa [PyData.canLay0] using a1,a2,by simp only [PyData.depth];lia,by simp only [PyData.shown,wt];lia,by simp only [PyData.shown];exact n_ a5⟩
theorem ov{k:Nat}:∀{ds:List PyData},iG k ds=true→PyData.canLayAll0 ds=true∧PyData.showableAll ds=true∧PyData.depthAll ds≤k∧piled (PyData.shownAll ds)≤104*mU ds∧∀t∈PyData.shownAll ds,PyData.strOk t=true
  | [],_=>⟨rfl,rfl,by simp [PyData.depthAll],by simp [PyData.shownAll,piled],by simp [PyData.shownAll]⟩
  | d::r,h=>by
    simp only [iG,Bool.and_eq_true] at h
    obtain⟨a1,a2,a3,a4,a5⟩:=i_ h.1
    obtain⟨b1,b2,b3,b4,b5⟩:=ov h.2
    refine⟨by simp only [PyData.canLayAll0,a1,b1,Bool.and_self],by simp only [PyData.showableAll,a2,b2,Bool.and_self],by simp only [PyData.depthAll];lia,by simp only [PyData.shownAll,gZ,mU];lia,fun t ht=>?_⟩
    simp only [PyData.shownAll,List.mem_cons] at ht
    rcases ht with rfl | ht
    · exact a5
    · exact b5 t ht
end
def jX(n:Int):PyData→Bool
  | .tuple ds=>(ds.length:Int)==n
  | _=>false
def lm:PyData→Bool
  | .tuple [.int t,.int b]=>decide (1≤b)&&decide (Int.gcd t b=1)
  | _=>false
theorem vX{e:En}{xs:List PyData}{neg:Bool}(hs:SeqAt.shaped (.tuple xs)=true):bW neg e (.d (.tuple xs)) (.d (.tuple []))=some (.d (.bool (if neg then !xs.isEmpty else xs.isEmpty))):=by
  unfold bW
  simp only [hZ,Option.bind_some,hs]
  have h0:SeqAt.shaped (.tuple [])=true:=by simp [SeqAt.shaped,PyData.canLay0,PyData.canLayAll0,PyData.depth,PyData.depthAll]
  rw [h0]
  cases xs<;>simp [PyData.eqv,PyData.eqvAll]
theorem vZ{e:En}{s:Str}(h:PyData.strOk s=true):bW true e (.d (.str s)) (.d (.str s))=some (.d (.bool false)):=by
  unfold bW
  simp only [hZ,Option.bind_some]
  have h0:SeqAt.shaped (.str s)=true:=by simp [SeqAt.shaped,PyData.canLay0,PyData.depth,h]
  rw [h0]
  simp [PyData.eqv]
theorem D4{d:PyData}(h:jX 2 d=true):∃x y,d=.tuple [x,y]:=by
  cases d with
  | tuple ds=>
    rcases ds with _ | ⟨x,_ | ⟨y,_ | ⟨z,r⟩⟩⟩
    · simp [jX] at h
    · simp [jX] at h
    · exact⟨x,y,rfl⟩
    · simp [jX] at h;lia
  | _=>simp [jX] at h
theorem lE{d:PyData}(h:yk d=true):∃i,d=.int i:=by
  cases d with
  | int i=>exact⟨i,rfl⟩
  | _=>simp [yk] at h
theorem vY{e:En}{a b c d:Int}:bW false e (.d (.tuple [.int a,.int b])) (.d (.tuple [.int c,.int d]))=some (.d (.bool (a==c&&b==d))):=by
  unfold bW
  have h0:∀x y:Int,SeqAt.shaped (.tuple [.int x,.int y])=true:=fun x y=>by simp [SeqAt.shaped,PyData.canLay0,PyData.canLayAll0,PyData.depth,PyData.depthAll]
  simp only [hZ,Option.bind_some,h0,Bool.and_self,if_true]
  simp [PyData.eqv,PyData.eqvAll]
theorem vo{b:Int}(h:b.natAbs.log2 < 1920)(h0:b≠0):Bt 4000 b:=Bt.mono (m:=1920) ((Nat.log2_lt (by lia)).mp h) (by decide)
theorem yN{t b:Int}(hb:0 < b):((lowM t b).1==t&&(lowM t b).2==b)=decide (Int.gcd t b=1):=by
  rw [Bool.eq_iff_iff]
  simp only [Bool.and_eq_true,beq_iff_eq,decide_eq_true_eq]
  constructor
  · rintro⟨h1,h2⟩
    have:=jM (t:=t) (b:=b) (by lia)
    rwa [h1,h2] at this
  · intro h
    unfold lowM
    rw [if_neg (by lia),h]
    simp
theorem pM{ds:List PyData}(h:PyData.showableAll ds=true):∀d∈ds,d.showable=true:=fun d hd=>by
  induction ds with
  | nil=>cases hd
  | cons x r ih=>
    simp only [PyData.showableAll,Bool.and_eq_true] at h
    rcases List.mem_cons.mp hd with rfl | hd
    · exact h.1
    · exact ih h.2 hd
end L2
namespace L2
open PySem PySem.Spec PyProof.Rows
section
variable{X:Cx}{K:PySem.W.Frag}
variable{a b:Expr}{fa fb:FE}{pos:Pos}
end
end L2
namespace L2
open PySem PySem.Spec PyProof.Rows
def tx(s:Str):List Nat:=s.cps.toList
end L2
namespace L2
open PySem PySem.Spec PyProof.Rows
end L2
namespace L2
open PySem PySem.Spec PyProof.Rows
end L2
namespace L2
open PySem PySem.Spec PyProof.Rows
section
variable{X:Cx}{K:PySem.W.Frag}{es:List Expr}{k0:Nat}{tp:Pos}{a b:Expr}{fs:FA}{p pos:Pos}
end
end L2
namespace L2
open PySem PySem.Spec PyProof.Rows
def F9(x:Nd)(b:Bool):Int:=if b=true then x.yes else x.no
def Ax(T:List Nd)(i:Nat)(b:Bool):Int:=match T[i]? with
  | some x=>F9 x b
  | none=> -1
def EK(T:List Nd):Prop:=∀(i j:Nat) (a b:Bool),Ax T i a=Ax T j b→Ax T i a≠ -1→i=j∧a=b
def Fs(w:Wt):Int × Int:=(w.par,w.side)
structure Gh (T:List Nd) (ws:List Wt):Prop where
  unq:EK T
  rng:∀i a,Ax T i a= -1∨(0 < Ax T i a∧Ax T i a < (T.length:Int))
  free:∀w∈ws,w.par= -1∨(0≤w.par∧w.par < (T.length:Int)∧Ax T w.par.toNat (w.side==0)= -1)
  dst:(ws.map Fs).Nodup
  side:∀w∈ws,w.side=0∨w.side=1
structure Gi (T:List Nd) (w0 ws order:List Int):Prop where
  nd:(order++ws).Nodup
  par:∀v∈order++ws,v=0∨∃u∈order,∃b,Ax T u.toNat b=v∧v≠ -1
  fst:(order=[]∧ws=w0)∨order[0]?=some 0
end L2
namespace L2
open PySem PySem.Spec PyProof.Rows
section
variable{prog:Program}{w:World}{A:Around}{E:Value→Shared→Prop}{s:Shared}
end
section
variable{X:Cx}{tg a:Expr}{ta:TA}{p pos:Pos}
end
section
variable{X:Cx}{K:PySem.W.Frag}{σ:L2.St}{tg a:Expr}{fs:FA}{p pos:Pos}
end
end L2
namespace L2
open PySem PySem.Spec PyProof.Rows
section
variable{X:Cx}{a k:Expr}{p2 pos:Pos}{fa fk:FE}{K:PySem.W.Frag}
section
variable{prog:Program}{w:World}{A:Around}{E:Value→Shared→Prop}{s:Shared}
end
end
end L2
namespace L2
open PySem PySem.Spec PyProof.Rows
section
variable{X:Cx}{a b:Expr}{ta:TA}{p p2 pos pos2:Pos}{K:PySem.W.Frag}{fs:FA}
end
section
variable{X:Cx}{o i e:Expr}{fo fi:FE}{tpos pos:Pos}{K:PySem.W.Frag}
end
end L2
namespace L2
open PySem PySem.Spec PyProof.Rows
section
variable{X:Cx}{K:PySem.W.Frag}
end
end L2
namespace L2
open PySem PySem.Spec PyProof.Rows
section
open PySem.MeetsSeq2 PySem.AutoSeq1 PySem.SeqAt
end
section
variable{X:Cx}{K:PySem.W.Frag}{o a:Expr}{to te:TE}{name:Str}{apos cpos:Pos}{T id:String}{r:V→List V→Hp→VK→Prop}{fo fa:FE}
end
end L2
namespace L2
open PySem PySem.Spec PyProof.Rows
section
variable{X:Cx}{K:PySem.W.Frag}{o a:Expr}{apos cpos:Pos}{fo fa:FE}
end
end L2
namespace L2
open PySem PySem.Spec PyProof.Rows
section
variable{K:PySem.W.Frag}{F H:Hp}{σ:L2.St}{e:En}{cp:List (Nat × Str)}{nT:Nat}
end
section
variable{X:Cx}{K:PySem.W.Frag}{a b:Expr}{es:List Expr}{fa fb:FE}{fs:FA}{pos p p2 p3:Pos}{lo hi:Option Expr}
end
end L2
namespace L2
open PySem PySem.Spec PyProof.Rows
section
variable{X:Cx}{K:PySem.W.Frag}
end
end L2
namespace L2
open PySem PySem.Spec PyProof.Rows
section
variable{X:Cx}{K:PySem.W.Frag}{a b:Expr}{fa fb:FE}{pos:Pos}
end
end L2
namespace L2
open PySem PySem.Spec PyProof.Rows
section
variable{X:Cx}{K:PySem.W.Frag}
end
end L2
namespace L2
open PySem PySem.Spec PyProof.Rows
mutual
theorem je:∀(d:PyData),gf d=true→fm d=true
  | .none,_=>rfl
  | .bool _,_=>rfl
  | .int _,_=>rfl
  | .str _,_=>rfl
  | .tuple ds,h=>by simp only [fm];exact k_ ds (by simpa [gf] using h)
  | .list ds,h=>by simp [gf] at h
  | .dict _,h=>by simp [gf] at h
theorem k_:∀(ds:List PyData),iQ ds=true→eC ds=true
  | [],_=>rfl
  | d::r,h=>by
    simp only [iQ,Bool.and_eq_true] at h
    simp only [eC,je d h.1,k_ r h.2,Bool.and_self]
end
structure Sw (b:Bool) (n dep:Nat) (d:PyData):Prop where
  dl:bif b then fm d=true else d.hasDict=false
  sh:d.showable=true
  dp:d.depth≤dep
  ln:d.shown.length+2≤n
  so:PyData.strOk d.shown=true
theorem Sw.mono{b:Bool}{n m dep e:Nat}{d:PyData}(h:Sw b n dep d)(h1:n≤m)(h2:dep≤e):Sw b m e d:=⟨h.dl,h.sh,Nat.le_trans h.dp h2,Nat.le_trans h.ln h1,h.so⟩
theorem Sz.sw{n dep:Nat}{d:PyData}(h:Sz n dep d)(b:Bool):Sw b (n+2) dep d:=⟨by cases b;exact fB d h.fl;exact je d h.fl,h.sh,h.dp,by have:=h.ln;lia,h.so⟩
theorem CH.sw{k:Nat}{d:PyData}(h:CH d k):Sw false (104*wt d) k d:=⟨PyData.hasDict_of_canLay d h.lay,h.sh,h.dp,h.ln,h.so⟩
theorem CH.swF{k:Nat}{d:PyData}(h:CH d k)(f:gf d=true)(b:Bool):Sw b (104*wt d) k d:=⟨by cases b;exact fB d f;exact je d f,h.sh,h.dp,h.ln,h.so⟩
theorem Sw.all{b:Bool}{n dep:Nat}:∀{ds:List PyData},(∀d∈ds,Sw b n dep d)→(bif b then eC ds=true else PyData.hasDictAll ds=false)∧PyData.showableAll ds=true∧PyData.depthAll ds≤dep∧piled (PyData.shownAll ds)≤ds.length*n∧∀t∈PyData.shownAll ds,PyData.strOk t=true
  | [],_=>⟨by cases b<;>rfl,rfl,by simp [PyData.depthAll],by simp [PyData.shownAll,piled],by simp [PyData.shownAll]⟩
  | d::r,h=>by
    obtain⟨a1,a2,a3,a4,a5⟩:=h d (by simp)
    obtain⟨b1,b2,b3,b4,b5⟩:=Sw.all (ds:=r) fun x hx=>h x (by simp [hx])
    refine⟨?_,?_,?_,?_,?_⟩
    · cases b
      · simp only [cond_false] at a1 b1 ⊢;simp only [PyData.hasDictAll,a1,b1,Bool.or_self]
      · simp only [cond_true] at a1 b1 ⊢;simp only [eC,a1,b1,Bool.and_self]
    · simp only [PyData.showableAll,a2,b2,Bool.and_self]
    · simp only [PyData.depthAll];lia
    · simp only [PyData.shownAll,gZ,List.length_cons,Nat.succ_mul];lia
    · intro t ht
      simp only [PyData.shownAll,List.mem_cons] at ht
      rcases ht with rfl | ht
      · exact a5
      · exact b5 t ht
theorem Sw.tup{b:Bool}{n dep m:Nat}{ds:List PyData}(h:∀d∈ds,Sw b n dep d)(hl:ds.length≤m):Sw b (m*n+5) (dep+1) (.tuple ds):=by
  obtain⟨b1,b2,b3,b4,b5⟩:=Sw.all h
  refine⟨by cases b<;>simpa [fm,PyData.hasDict] using b1,b2,by simp only [PyData.depth];lia,?_,by simp only [PyData.shown];exact n_ b5⟩
  have h2:=kW (PyData.shownAll ds)
  have:=Nat.mul_le_mul_right n hl
  simp only [PyData.shown]
  lia
theorem Sw.lst{n dep m:Nat}{ds:List PyData}(h:∀d∈ds,Sw false n dep d)(hl:ds.length≤m):Sw false (m*n+5) (dep+1) (.list ds):=by
  obtain⟨b1,b2,b3,b4,b5⟩:=Sw.all h
  refine⟨by simpa [PyData.hasDict] using b1,b2,by simp only [PyData.depth];lia,?_,by simp only [PyData.shown];exact nY b5⟩
  have h2:=p_ (PyData.shownAll ds)
  have:=Nat.mul_le_mul_right n hl
  simp only [PyData.shown]
  lia
theorem Sw.ok{b:Bool}{n dep:Nat}{d:PyData}(h:Sw b n dep d)(h1:n≤16777216)(h2:dep≤60):j8 d=true:=by
  have sl:sizeLine=16777216:=sizeLine_eq
  have hd:(!d.hasDict || fm d)=true:=by
    have:=h.dl
    cases b
    · simp only [cond_false] at this;simp [this]
    · simp only [cond_true] at this;simp [this]
  have:=h.ln
  unfold j8
  rw [hd,h.sh,decide_eq_true (Nat.le_trans h.dp h2),decide_eq_true (show d.shown.length≤sizeLine by rw [sl];lia)]
  simp
theorem Sw.repr{b:Bool}{n dep:Nat}{d:PyData}(h:Sw b n dep d)(h1:n≤16777216)(h2:dep≤60)(e:En):g1 lc e [.d d]=some (.d (.str d.shown)):=yE (h.ok h1 h2)
theorem Sw.int{b:Bool}{i:Int}(h:i.natAbs < 2 ^ 128):Sw b 200 0 (.int i):=((i_ (k:=0) (d:=.int i) (by simp only [qY,decide_eq_true_eq];exact h)).swF rfl b).mono (by simp [wt]) (by decide)
theorem Sw.ints{b:Bool}{ns:List Int}{m:Nat}(h:∀r∈ns,r.natAbs < 2 ^ 128)(hl:ns.length≤m):Sw b (m*200+5) 1 (.tuple (ns.map .int)):=Sw.tup (n:=200) (dep:=0) (fun d hd=>by
  obtain⟨x,hx,rfl⟩:=List.mem_map.mp hd
  exact Sw.int (h x hx)) (by rw [List.length_map];exact hl)
theorem Sw.bool{b c:Bool}:Sw b 200 0 (.bool c):=((i_ (k:=0) (d:=.bool c) rfl).swF rfl b).mono (by simp [wt]) (by decide)
end L2
namespace L2
open PySem PySem.Spec PyProof.Rows
def zB:List Fr→Int
  | []=>1
  | f::r=>f.2*zB r
theorem pj:∀{ws:List Fr},(∀f∈ws,0 < f.2)→0 < zB ws
  | [],_=>by decide
  | f::r,h=>Int.mul_pos (h f (by simp)) (pj fun g hg=>h g (by simp [hg]))
theorem lF:∀{ws:List Fr} {f:Fr},f∈ws→f.2 ∣ zB ws
  | [],f,h=>by cases h
  | g::r,f,h=>by
    rcases List.mem_cons.mp h with rfl | h
    · exact⟨zB r,rfl⟩
    · exact Int.dvd_trans (lF h) ⟨g.2,by rw [zB,Int.mul_comm]⟩
theorem mv{n:Nat}:∀{ws:List Fr},(∀f∈ws,Bt n f.2)→Bt (n*ws.length+1) (zB ws)
  | [],_=>by show Bt 1 1;unfold Bt;decide
  | f::r,h=>by
    have:=(h f (by simp)).mul (mv (ws:=r) fun g hg=>h g (by simp [hg]))
    rw [zB]
    exact this.mono (by rw [List.length_cons,Nat.mul_succ];lia)
structure S1 (n:Nat) (f:Fr):Prop where
  low:ly f
  lo:0≤f.1
  hi:f.1≤f.2
  bt:Bt n f.2
theorem S1.mono{n m:Nat}{f:Fr}(h:S1 n f)(hm:n≤m):S1 m f:=⟨h.low,h.lo,h.hi,h.bt.mono hm⟩
theorem S1.top{n:Nat}{f:Fr}(h:S1 n f):Bt n f.1:=h.bt.of_le (by have:=h.lo;have:=h.hi;lia)
theorem S1.rok{n:Nat}{f:Fr}{M:Int}(h:S1 n f)(hd:f.2 ∣ M):t_ M f:=⟨h.low.pos,h.lo,h.hi,hd⟩
def kj(t:iu):Fr:=(t.top,t.bot)
theorem jb{W:br}(ok:W.Ok){t:iu}(ht:t∈W.ties):S1 7 (kj t):=by
  have o:=ok.ties t ht
  exact⟨⟨by have:=o.b0;show 0 < t.bot;lia,o.cop⟩,o.c0,o.c1,by have:=o.b1;have:=o.b0;show Bt 7 t.bot;unfold Bt;lia⟩
def Av(e:Int)(t:iu):Bool:=t.one==e || t.other==e
def fQ(W:br)(ws:List Fr)(e:Int):List (Fr × iu):=(ws.zip W.ties).filter fun p=>Av e p.2
def uv(W:br)(ws:List Fr)(e:Int):Fr:=aY (0,1) ((fQ W ws e).map fun p=>tm p.1 (kj p.2))
def rH(W:br)(ws:List Fr)(e:Int):Fr:=aY (0,1) ((fQ W ws e).map (·.1))
def yL(W:br)(ws:List Fr)(e:Nat):List (Fr × Int):=[(uv W ws e,1),(rH W ws e,W.pat.getD e 0)]
def dY(W:br)(ws:List Fr):Nat→List (Fr × Int)
  | 0=>[(aY (0,1) ws,W.asks)]
  | n+1=>dY W ws n++yL W ws n
def cM(W:br)(ws:List Fr):Int:=zB ws*zB (W.ties.map kj)
theorem vt{W:br}(ok:W.Ok){ws:List Fr}{n:Nat}(h:∀f∈ws,S1 n f):0 < cM W ws∧Bt (n*ws.length+114) (cM W ws):=by
  have hc:∀f∈W.ties.map kj,S1 7 f:=fun f hf=>by
    obtain⟨t,ht,rfl⟩:=List.mem_map.mp hf
    exact jb ok ht
  refine⟨Int.mul_pos (pj fun f hf=>(h f hf).low.pos) (pj fun f hf=>(hc f hf).low.pos),?_⟩
  have wl:=ok.len
  exact((mv fun f hf=>(h f hf).bt).mul (mv fun f hf=>(hc f hf).bt)).mono (by rw [List.length_map];lia)
theorem cF{W:br}{ws:List Fr}{e:Int}{p:Fr × iu}(h:p∈fQ W ws e):p.1∈ws∧p.2∈W.ties∧Av e p.2=true:=by
  have:=List.mem_filter.mp h
  have hz:=List.of_mem_zip (show(p.1,p.2)∈ws.zip W.ties from this.1)
  exact⟨hz.1,hz.2,this.2⟩
theorem lH{W:br}{ws:List Fr}{e:Int}:(fQ W ws e).length≤ws.length:=Nat.le_trans (List.length_filter_le _ _) (by rw [List.length_zip];lia)
theorem lG{W:br}{ws:List Fr}{n:Nat}(h:∀f∈ws,S1 n f){f:Fr}(hf:f∈ws):t_ (cM W ws) f:=(h f hf).rok (Int.dvd_trans (lF hf) ⟨_,rfl⟩)
theorem xK{W:br}(ok:W.Ok){ws:List Fr}{n:Nat}(h:∀f∈ws,S1 n f){f:Fr}{t:iu}(hf:f∈ws)(ht:t∈W.ties):t_ (cM W ws) (tm f (kj t)):=((h f hf).rok (lF hf)).tm ((jb ok ht).rok (lF (List.mem_map_of_mem ht)))
theorem xW{M:Int}{L:List Fr}(h:∀f∈L,t_ M f):qW M (L.length:Int) (aY (0,1) L)∧ly (aY (0,1) L):=by
  obtain⟨h1,h2,_⟩:=tN (M:=M) (j:=1) L (a:=(0,1)) (i:=0) (CD (Int.le_refl 0)) tV (by decide) fun f hf=>⟨(h f hf).pos,(h f hf).lo,by rw [Int.one_mul];exact(h f hf).hi,(h f hf).dv⟩
  rw [Int.zero_add,Int.one_mul] at h1
  exact⟨h1,h2⟩
structure kZ (b f g:Fr):Prop where
  pf:0 < f.2
  pg:0 < g.2
  eq:g.1*(f.2*b.1)=g.2*(f.1*b.2)
theorem kZ.zero{b:Fr}:kZ b (0,1) (0,1):=⟨by decide,by decide,by simp⟩
theorem kZ.tm{b f g c:Fr}(h:kZ b f g)(hc:0 < c.2):kZ b (tm f c) (L2.tm g c):=by
  obtain⟨p1,p2,e⟩:=h
  have q1:=dw (t:=f.1*c.1) (b:=f.2*c.2) (Int.ne_of_gt (Int.mul_pos p1 hc))
  have q2:=dw (t:=g.1*c.1) (b:=g.2*c.2) (Int.ne_of_gt (Int.mul_pos p2 hc))
  have r1:=(ly.lowM (t:=f.1*c.1) (Int.mul_pos p1 hc)).pos
  have r2:=(ly.lowM (t:=g.1*c.1) (Int.mul_pos p2 hc)).pos
  refine⟨r1,r2,?_⟩
  change (L2.tm f c).1*(f.2*c.2)=(L2.tm f c).2*(f.1*c.1) at q1
  change (L2.tm g c).1*(g.2*c.2)=(L2.tm g c).2*(g.1*c.1) at q2
  generalize (L2.tm f c)=x at*
  generalize (L2.tm g c)=y at*
  refine Int.eq_of_mul_eq_mul_right (a:=f.2*c.2*(g.2*c.2)) (Int.ne_of_gt (Int.mul_pos (Int.mul_pos p1 hc) (Int.mul_pos p2 hc))) ?_
  grind
theorem kZ.pl{b f g f' g':Fr}(h:kZ b f g)(k:kZ b f' g'):kZ b (pl f f') (L2.pl g g'):=by
  obtain⟨p1,p2,e⟩:=h
  obtain⟨p3,p4,e'⟩:=k
  have q1:=dw (t:=f.1*f'.2+f'.1*f.2) (b:=f.2*f'.2) (Int.ne_of_gt (Int.mul_pos p1 p3))
  have q2:=dw (t:=g.1*g'.2+g'.1*g.2) (b:=g.2*g'.2) (Int.ne_of_gt (Int.mul_pos p2 p4))
  have r1:=(ly.lowM (t:=f.1*f'.2+f'.1*f.2) (Int.mul_pos p1 p3)).pos
  have r2:=(ly.lowM (t:=g.1*g'.2+g'.1*g.2) (Int.mul_pos p2 p4)).pos
  refine⟨r1,r2,?_⟩
  change (L2.pl f f').1*(f.2*f'.2)=(L2.pl f f').2*(f.1*f'.2+f'.1*f.2) at q1
  change (L2.pl g g').1*(g.2*g'.2)=(L2.pl g g').2*(g.1*g'.2+g'.1*g.2) at q2
  generalize (L2.pl f f')=x at*
  generalize (L2.pl g g')=y at*
  refine Int.eq_of_mul_eq_mul_right (a:=f.2*f'.2*(g.2*g'.2)) (Int.ne_of_gt (Int.mul_pos (Int.mul_pos p1 p3) (Int.mul_pos p2 p4))) ?_
  grind
theorem kZ.sum{b:Fr}:∀{L M:List Fr} {a c:Fr},kZ b a c→L.length=M.length→(∀p∈L.zip M,kZ b p.1 p.2)→kZ b (aY a L) (aY c M)
  | [],[],a,c,h,_,_=>h
  | x::L,y::M,a,c,h,hl,hp=>by
    show kZ b (aY (L2.pl a x) L) (aY (L2.pl c y) M)
    exact kZ.sum (h.pl (hp (x,y) (by simp))) (by simpa using hl) fun p hp'=>hp p (by simp [hp'])
  | [],_::_,_,_,_,h,_=>by simp at h
  | _::_,[],_,_,_,h,_=>by simp at h
theorem kZ.within{b f g:Fr}{m:Int}(h:kZ b f g)(hb:0 < b.1)(hm:f.1*b.2≤b.1*f.2*m):g.1≤m*g.2:=by
  obtain⟨p1,p2,e⟩:=h
  refine Int.le_of_mul_le_mul_right (a:=f.2*b.1) ?_ (Int.mul_pos p1 hb)
  rw [e]
  have:=Int.mul_le_mul_of_nonneg_left hm (Int.le_of_lt p2)
  rw [show m*g.2*(f.2*b.1)=g.2*(b.1*f.2*m) by ac_rfl]
  exact this
def pH(b f:Fr):Fr:=lowM (f.1*b.2) (f.2*b.1)
theorem rV{b f:Fr}(hb:0 < b.1)(hf:0 < f.2):kZ b f (pH b f):=by
  have p:=Int.mul_pos hf hb
  have q:=dw (t:=f.1*b.2) (b:=f.2*b.1) (Int.ne_of_gt p)
  exact⟨hf,(ly.lowM p).pos,q⟩
theorem Cg{b f:Fr}{n m:Nat}(hf:S1 n f)(b1:0 < b.2)(b2:b.2≤b.1)(bt:Bt m b.1):S1 (n+m) (pH b f):=by
  have hb:0 < b.1:=by lia
  have p:=Int.mul_pos hf.low.pos hb
  have t:0≤f.1*b.2:=Int.mul_nonneg hf.lo (Int.le_of_lt b1)
  obtain⟨d,d0,h3,h4,h5,h6⟩:=eN p t
  refine⟨ly.lowM p,h6,?_,?_⟩
  · have:=iW (i:=1) p t (by rw [Int.one_mul];exact Int.mul_le_mul hf.hi b2 (Int.le_of_lt b1) (Int.le_of_lt hf.low.pos))
    rwa [Int.one_mul] at this
  · have l:=Int.le_of_dvd p (iC p t)
    have:=(ly.lowM (t:=f.1*b.2) p).pos
    exact(hf.bt.mul bt).of_le (by show(lowM _ _).2.natAbs≤_;lia)
theorem kZ.sumM{b:Fr}{α:Type}(f g:α→Fr)(L:List α)(h:∀x∈L,kZ b (f x) (g x)):kZ b (aY (0,1) (L.map f)) (aY (0,1) (L.map g)):=by
  refine kZ.sum kZ.zero (by simp) fun p hp=>?_
  rw [List.zip_map'] at hp
  obtain⟨x,hx,rfl⟩:=List.mem_map.mp hp
  exact h x hx
theorem tM{W:br}(g:Fr→Fr)(ws:List Fr)(e:Int):fQ W (ws.map g) e=(fQ W ws e).map fun p=>(g p.1,p.2):=by
  unfold fQ
  rw [List.zip_map_left,List.filter_map]
  rfl
theorem i7{W:br}(ok:W.Ok){ws:List Fr}{n:Nat}{b:Fr}(h:∀f∈ws,S1 n f)(hb:0 < b.1):∀k,(∀p∈dY W ws k,p.1.1*b.2≤b.1*p.1.2*p.2)→∀p∈dY W (ws.map (pH b)) k,p.1.1≤p.2*p.1.2
  | 0,hp,p,hm=>by
    simp only [dY,List.mem_cons,List.not_mem_nil,or_false] at hm hp
    subst hm
    have:=hp _ rfl
    exact(by
      have s:=kZ.sumM (b:=b) (fun x=>x) (pH b) ws fun x hx=>rV hb (h x hx).low.pos
      rw [List.map_id'] at s
      exact s.within hb this)
  | k+1,hp,p,hm=>by
    simp only [dY,List.mem_append] at hm hp
    rcases hm with hm | hm
    · exact i7 ok h hb k (fun q hq=>hp q (.inl hq)) p hm
    · simp only [yL,List.mem_cons,List.not_mem_nil,or_false] at hm hp
      rcases hm with rfl | rfl
      · have:=hp _ (.inr (.inl rfl))
        have s:=kZ.sumM (b:=b) (fun p:Fr × iu=>L2.tm p.1 (kj p.2)) (fun p=>L2.tm (pH b p.1) (kj p.2)) (fQ W ws k) fun x hx=>by
          obtain⟨h1,h2,_⟩:=cF hx
          exact(rV hb (h _ h1).low.pos).tm (jb ok h2).low.pos
        have e:uv W (ws.map (pH b)) k=aY (0,1) ((fQ W ws k).map fun p=>L2.tm (pH b p.1) (kj p.2)):=by
          unfold uv;rw [tM,List.map_map];rfl
        rw [e]
        exact s.within hb this
      · have:=hp _ (.inr (.inr rfl))
        have s:=kZ.sumM (b:=b) (fun p:Fr × iu=>p.1) (fun p=>pH b p.1) (fQ W ws k) fun x hx=>by
          obtain⟨h1,h2,_⟩:=cF hx
          exact rV hb (h _ h1).low.pos
        have e:rH W (ws.map (pH b)) k=aY (0,1) ((fQ W ws k).map fun p=>pH b p.1):=by
          unfold rH;rw [tM,List.map_map];rfl
        rw [e]
        exact s.within hb this
end L2
namespace V46
open PySem PySem.Spec PyProof.Rows L2
variable{P:Program}{w:World}{K:W.Frag}{mg:Str→Option Value}{base:Heap}{f:Addr}{fd:FuncData}
local macro_rules|`(tactic|trivial)=>`(tactic|first|exact .inl rfl|exact .inr rfl|assumption)
local macro_rules|`(¬$n:num)=>`(@qw _ _ $n _ _ (by rfl) (by rfl) (by decide))
local macro_rules|`($a∘$b)=>`(@E9 _ _ _ _ _ _ $a $b (by rfl))
def top(i:Nat):Stmt:=PySem.Challenge.pw_askedpairs_k46_shares_right_or_not.main.body.getD i (.Pass ⟨0,0,0,0⟩)
theorem vM{α:Type u}{β:Type v}{f:α→β}:List.map f []=[]:=rfl
theorem vL{α:Type u}{β:Type v}{f:α→β}{a:α}{l:List α}:List.map f (a::l)=f a::List.map f l:=rfl
theorem vH{α:Type u}{l:List α}:[]++l=l:=rfl
theorem vG{α:Type u}{a:α}{l m:List α}:(a::l)++m=a::(l++m):=rfl
theorem vJ{α:Type u}{a:α}{l:List α}:(a::l)[0]?=some a:=rfl
theorem vK{α:Type u}{a:α}{l:List α}{i:Nat}:(a::l)[i+1]?=l[i]?:=rfl
theorem vI{α:Type u}{β:Type v}{a:α}{f:α→Option β}:Option.bind (some a) f=f a:=rfl
theorem vN{α:Type u}{β:Type v}{a:α}{f:α→β}:Option.map f (some a)=some (f a):=rfl
abbrev cj:Stmt:=top 3
abbrev fw:Stmt:=top 4
abbrev mI:Stmt:=top 5
abbrev j5:Stmt:=top 6
abbrev kS:Stmt:=top 7
abbrev iY:Stmt:=top 8
abbrev eE:Stmt:=top 10
abbrev dD:Stmt:=top 11
abbrev df:Stmt:=top 12
abbrev cO:Stmt:=top 13
abbrev bo:Stmt:=top 14
abbrev bA:Stmt:=top 16
abbrev bZ:Stmt:=top 17
abbrev j0:Stmt:=top 19
abbrev jY:Stmt:=top 20
abbrev iI:Stmt:=top 21
abbrev nO:Stmt:=top 22
abbrev jZ:Stmt:=top 23
abbrev mF:Stmt:=top 24
abbrev j2:Stmt:=top 25
abbrev mE:Stmt:=top 26
abbrev mG:Stmt:=top 27
abbrev fv:Stmt:=top 28
abbrev j3:Stmt:=top 29
abbrev mH:Stmt:=top 30
abbrev qr:Stmt:=top 31
abbrev nP:Stmt:=top 32
abbrev de:Stmt:=top 33
abbrev qq:Stmt:=top 34
abbrev eQ:Stmt:=top 35
abbrev dR:Stmt:=top 36
abbrev gE:Stmt:=top 37
abbrev iJ:Stmt:=top 38
abbrev j1:Stmt:=top 39
abbrev mD:Stmt:=top 40
abbrev j4:Stmt:=top 41
structure ik (mg:Str→Option Value):Prop where
  b_abs:mg "abs"=none
  b_len:mg "len"=none
  b_min:mg "min"=none
  b_max:mg "max"=none
  b_range:mg "range"=none
  b_repr:mg "repr"=none
  b_tuple:mg "tuple"=none
  b_int:mg "int"=none
  b_zip:mg "zip"=none
  b_isinstance:mg "isinstance"=none
  b_bool:mg "bool"=none
  b_any:mg "any"=none
  b_all:mg "all"=none
  b_list:mg "list"=none
noncomputable def bN:FT:=(aJ (ao (bW true) (ae 1) (vC (.int 0))))
noncomputable def cq:FS:=(rT 0 1 (aa (ae 1) (aa (ao be (ae 0) (ae 1)) ag)))
noncomputable def f9:FS:=(aB (jq (2 ^ 4200) bN cq)
    (aT (aW (g1 rp) (aa (ae 0) ag))))
noncomputable def cg:FM:=gw 2 0 ([0,1]++[]) f9
theorem fK:ay ["one","other"] ["one","other"] (am cj):=⟨rfl,rfl,rfl,by decide+kernel,rfl,by decide+kernel,by decide+kernel⟩
theorem jS(h:aX K mg "common_divisor" cj f fd ["one","other"])(T:ik mg):aC P w K mg base bH 1 f fd ["one","other"] (bM K 2 cg):=by
  have nd:=fK.nd
  exact h.fn fK rfl rfl (fun cdv A outer s H E hr=>(@af _ _ _ _ _ _ _ _ (@mz _ _ _ _ _ _ _ _ _ PassesOwn.never (@bj _ _ _ _ _ _ _ _ _ (@vx _ _ _ rfl hr) (¬1) ab (aO _))
      (@aj _ _ _ _ _ (@xA _ _ _ _ _ 0 1 _ _ _ _ _ _ _ _ _ rfl nd rfl rfl (by decide) rfl rfl ((¬1)∘((@a7 _ _ _ _ _ _ _ (¬0) (¬1))∘ac)) (by rfl) (by rfl))))
      (@aj _ _ _ _ _ (@au _ _ _ _ _ (@bJ _ _ _ _ _ _ _ _ _ (@b_abs _ _) (by rfl) T.b_abs ((¬0)∘ac) (by decide) (by decide) (by rfl) (by rfl))))))
noncomputable def pS:FS:=(aB (aZ 2 (bU 2 cg (aa (ae 0) (aa (ae 1) ag))))
    (aB (gD (aJ (ao qX (ae 1) (vC (.int 0))))
    (aZ 2 (pI ul (ae 2)))
    cG)
    (aT (aR (aa (ao eu (ae 0) (ae 2)) (aa (ao eu (ae 1) (ae 2)) ag))))))
noncomputable def dM:FM:=gw 2 1 ([2]++(([2]++[])++[])) pS
theorem nU:ay ["top","bottom","divisor"] ["top","bottom"] (am fw):=⟨rfl,rfl,rfl,by decide+kernel,rfl,by decide+kernel,by decide+kernel⟩
theorem uG(h:aX K mg "lowest" fw f fd ["top","bottom"])(T:ik mg){f_common_divisor:Addr}{e_common_divisor:FuncData}(h_common_divisor:aX K mg "common_divisor" cj f_common_divisor e_common_divisor ["one","other"])(G_common_divisor:aC P w K mg base bH 1 f_common_divisor e_common_divisor ["one","other"] (bM K 2 cg)):aC P w K mg base bH 2 f fd ["top","bottom"] (bM K 2 dM):=by
  have nd:=nU.nd
  exact h.fn nU rfl rfl (fun cdv A outer s H E hr=>(@af _ _ _ _ _ _ _ _ (@aA _ _ _ _ _ 2 _ _ nd rfl (Or.inl rfl) (@aK _ _ _ _ _ _ _ _ _ _ _ _ _ _ _ h_common_divisor G_common_divisor (hr.mono (by decide)) ((¬0)∘((¬1)∘ac)) (by rfl) (by decide) (by rfl) (by rfl)) (by rfl) (by trivial))
      (@af _ _ _ _ _ _ _ _ (@cn _ _ _ _ _ _ _ _ _ _ _ (@bj _ _ _ _ _ _ _ _ _ (@pT _ _) (¬1) ab (aO _))
      (@aj _ _ _ _ _ (@aA _ _ _ _ _ 2 _ _ nd rfl (Or.inl rfl) (@xo _ _ _ _ _ (¬2)) (by rfl) (by trivial)))
      (@aU _ _))
      (@aj _ _ _ _ _ (@au _ _ _ _ _ (@aq _ _ _ _ _ _ ((@fP _ _ _ _ _ _ _ (¬0) (¬2))∘((@fP _ _ _ _ _ _ _ (¬1) (¬2))∘ac))))))))
noncomputable def vk:FS:=(aT (bU 2 dM (aa (ao bu (ao a' (ao bz (ae 0) (vC (.int 0))) (ao bz (ae 1) (vC (.int 1)))) (ao a' (ao bz (ae 1) (vC (.int 0))) (ao bz (ae 0) (vC (.int 1))))) (aa (ao a' (ao bz (ae 0) (vC (.int 1))) (ao bz (ae 1) (vC (.int 1)))) ag))))
noncomputable def mj:FM:=gw 2 0 [] vk
theorem tK:ay ["one","other"] ["one","other"] (am mI):=⟨rfl,rfl,rfl,by decide+kernel,rfl,by decide+kernel,by decide+kernel⟩
theorem y3(h:aX K mg "plus" mI f fd ["one","other"])(T:ik mg){f_lowest:Addr}{e_lowest:FuncData}(h_lowest:aX K mg "lowest" fw f_lowest e_lowest ["top","bottom"])(G_lowest:aC P w K mg base bH 2 f_lowest e_lowest ["top","bottom"] (bM K 2 dM)):aC P w K mg base bH 3 f fd ["one","other"] (bM K 2 mj):=by
  have nd:=tK.nd
  exact h.fn tK rfl rfl (fun cdv A outer s H E hr=>(@aj _ _ _ _ _ (@au _ _ _ _ _ (@aK _ _ _ _ _ _ _ _ _ _ _ _ _ _ _ h_lowest G_lowest (hr.mono (by decide)) ((@bY _ _ _ _ _ _ _ rfl (@bP _ _ _ _ _ _ _ rfl (@aH _ _ _ _ _ _ _ rfl (¬0) ab (fun _ _=>rfl)) (@aH _ _ _ _ _ _ _ rfl (¬1) ab (fun _ _=>rfl))) (@bP _ _ _ _ _ _ _ rfl (@aH _ _ _ _ _ _ _ rfl (¬1) ab (fun _ _=>rfl)) (@aH _ _ _ _ _ _ _ rfl (¬0) ab (fun _ _=>rfl))))∘((@bP _ _ _ _ _ _ _ rfl (@aH _ _ _ _ _ _ _ rfl (¬0) ab (fun _ _=>rfl)) (@aH _ _ _ _ _ _ _ rfl (¬1) ab (fun _ _=>rfl)))∘ac)) (by rfl) (by decide) (by rfl) (by rfl)))))
noncomputable def sN:FS:=(aT (bU 2 dM (aa (ao a' (ao bz (ae 0) (vC (.int 0))) (ao bz (ae 1) (vC (.int 0)))) (aa (ao a' (ao bz (ae 0) (vC (.int 1))) (ao bz (ae 1) (vC (.int 1)))) ag))))
noncomputable def jR:FM:=gw 2 0 [] sN
theorem qD:ay ["one","other"] ["one","other"] (am j5):=⟨rfl,rfl,rfl,by decide+kernel,rfl,by decide+kernel,by decide+kernel⟩
theorem wQ(h:aX K mg "times" j5 f fd ["one","other"])(T:ik mg){f_lowest:Addr}{e_lowest:FuncData}(h_lowest:aX K mg "lowest" fw f_lowest e_lowest ["top","bottom"])(G_lowest:aC P w K mg base bH 2 f_lowest e_lowest ["top","bottom"] (bM K 2 dM)):aC P w K mg base bH 3 f fd ["one","other"] (bM K 2 jR):=by
  have nd:=qD.nd
  exact h.fn qD rfl rfl (fun cdv A outer s H E hr=>(@aj _ _ _ _ _ (@au _ _ _ _ _ (@aK _ _ _ _ _ _ _ _ _ _ _ _ _ _ _ h_lowest G_lowest (hr.mono (by decide)) ((@bP _ _ _ _ _ _ _ rfl (@aH _ _ _ _ _ _ _ rfl (¬0) ab (fun _ _=>rfl)) (@aH _ _ _ _ _ _ _ rfl (¬1) ab (fun _ _=>rfl)))∘((@bP _ _ _ _ _ _ _ rfl (@aH _ _ _ _ _ _ _ rfl (¬0) ab (fun _ _=>rfl)) (@aH _ _ _ _ _ _ _ rfl (¬1) ab (fun _ _=>rfl)))∘ac)) (by rfl) (by decide) (by rfl) (by rfl)))))
noncomputable def vj:FS:=(aT (ao qX (ao a' (ao bz (ae 0) (vC (.int 0))) (ao bz (ae 1) (vC (.int 1)))) (ao a' (ao bz (ae 1) (vC (.int 0))) (ao bz (ae 0) (vC (.int 1))))))
noncomputable def gY:FM:=gw 2 0 [] vj
theorem tJ:ay ["one","other"] ["one","other"] (am kS):=⟨rfl,rfl,rfl,by decide+kernel,rfl,by decide+kernel,by decide+kernel⟩
theorem y2(h:aX K mg "less" kS f fd ["one","other"])(T:ik mg):aC P w K mg base bH 1 f fd ["one","other"] (bM K 2 gY):=by
  have nd:=tJ.nd
  exact h.fn tJ rfl rfl (fun cdv A outer s H E hr=>(@aj _ _ _ _ _ (@au _ _ _ _ _ (@gB _ _ _ _ _ _ _ _ _ (@pT _ _) (@bP _ _ _ _ _ _ _ rfl (@aH _ _ _ _ _ _ _ rfl (¬0) ab (fun _ _=>rfl)) (@aH _ _ _ _ _ _ _ rfl (¬1) ab (fun _ _=>rfl))) (@bP _ _ _ _ _ _ _ rfl (@aH _ _ _ _ _ _ _ rfl (¬1) ab (fun _ _=>rfl)) (@aH _ _ _ _ _ _ _ rfl (¬0) ab (fun _ _=>rfl))) (aO _)))))
noncomputable def iU:FI:=(eM (ae 0))
noncomputable def f_:FS:=(aZ 1 (bU 2 mj (aa (ae 1) (aa (ae 2) ag))))
noncomputable def sO:FS:=(aB (aZ 1 (vC (.tuple [.int (0),.int (1)])))
    (aB (dG ([2]++[1]) iU (ah 2) f_)
    (aT (ae 1))))
noncomputable def fJ:FM:=gw 1 2 ([1]++(([2]++[1])++[])) sO
theorem qE:ay ["row","amount","part"] ["row"] (am iY):=⟨rfl,rfl,rfl,by decide+kernel,rfl,by decide+kernel,by decide+kernel⟩
theorem wR(h:aX K mg "total" iY f fd ["row"])(T:ik mg){f_plus:Addr}{e_plus:FuncData}(h_plus:aX K mg "plus" mI f_plus e_plus ["one","other"])(G_plus:aC P w K mg base bH 3 f_plus e_plus ["one","other"] (bM K 2 mj)){g_ZERO:Addr}(m_ZERO:mg "ZERO"=some (.ref g_ZERO))(c_ZERO:∀F,DA K F (.tuple [.int (0),.int (1)]) (.ref g_ZERO)):aC P w K mg base bH 4 f fd ["row"] (bM K 1 fJ):=by
  have nd:=qE.nd
  exact h.fn qE rfl rfl (fun cdv A outer s H E hr=>(@af _ _ _ _ _ _ _ _ (@aA _ _ _ _ _ 1 _ _ nd rfl (Or.inl rfl) (@pk _ _ _ (V.ref g_ZERO) _ _ (PyData.tuple [.int (0),.int (1)]) rfl m_ZERO rfl c_ZERO (by decide)) (by rfl) (by trivial))
      (@af _ _ _ _ _ _ _ _ (@dy _ _ _ _ _ _ _ _ _ _ _ PassesOwn.never rfl (@cX _ _ _ _ _ rfl (¬0)) (@aD _ _ _ 2 _ nd rfl (Or.inl rfl) (by trivial))
      (@aj _ _ _ _ _ (@aA _ _ _ _ _ 1 _ _ nd rfl (Or.inl rfl) (@aK _ _ _ _ _ _ _ _ _ _ _ _ _ _ _ h_plus G_plus (hr.mono (by decide)) ((¬1)∘((¬2)∘ac)) (by rfl) (by decide) (by rfl) (by rfl)) (by rfl) (by trivial))) (by intro _;rfl))
      (@aj _ _ _ _ _ (@au _ _ _ _ _ (¬1))))))
noncomputable def k8:FS:=(aT (i9 (pI (jI "int") (ae 0)) (mS (pI (jI "bool") (ae 0)))))
noncomputable def dC:FM:=gw 1 0 [] k8
theorem j6:ay ["thing"] ["thing"] (am eE):=⟨rfl,rfl,rfl,by decide+kernel,rfl,by decide+kernel,by decide+kernel⟩
theorem o8(h:aX K mg "is_number" eE f fd ["thing"])(T:ik mg):aC P w K mg base bH 1 f fd ["thing"] (bM K 1 dC):=by
  have nd:=j6.nd
  exact h.fn j6 rfl rfl (fun cdv A outer s H E hr=>(@aj _ _ _ _ _ (@au _ _ _ _ _ (@mx _ _ _ _ _ _ _ _ (@mw _ _ _ _ _ _ _ _ "int" rfl (by decide) rfl T.b_isinstance rfl T.b_int PyProof.Rows.boot_int (by decide) (by decide) (¬0) (by rfl) (by rfl)) (@kR _ _ _ _ _ _ (@xu _ _ _ _ _ (@mw _ _ _ _ _ _ _ _ "bool" rfl (by decide) rfl T.b_isinstance rfl T.b_bool PyProof.Rows.boot_bool (by decide) (by decide) (¬0) (by rfl) (by rfl))))))))
noncomputable def iw:FS:=(aT (i9 (pI (jI "tuple") (ae 0)) (ao (bW false) (aW (g1 ip) (aa (ae 0) ag)) (ae 1))))
noncomputable def cm:FM:=gw 2 0 [] iw
theorem j7:ay ["thing","many"] ["thing","many"] (am dD):=⟨rfl,rfl,rfl,by decide+kernel,rfl,by decide+kernel,by decide+kernel⟩
theorem o_(h:aX K mg "is_row_of" dD f fd ["thing","many"])(T:ik mg):aC P w K mg base bH 1 f fd ["thing","many"] (bM K 2 cm):=by
  have nd:=j7.nd
  exact h.fn j7 rfl rfl (fun cdv A outer s H E hr=>(@aj _ _ _ _ _ (@au _ _ _ _ _ (@mx _ _ _ _ _ _ _ _ (@mw _ _ _ _ _ _ _ _ "tuple" rfl (by decide) rfl T.b_isinstance rfl T.b_tuple PyProof.Rows.boot_tuple (by decide) (by decide) (¬0) (by rfl) (by rfl)) (@kR _ _ _ _ _ _ (@gB _ _ _ _ _ _ _ _ _ (@jB _ _ _ rfl hr) (@bJ _ _ _ _ _ _ _ _ _ (@b_len _ _ rfl) (by rfl) T.b_len ((¬0)∘ac) (by decide) (by decide) (by rfl) (by rfl)) (¬1) (aO _)))))))
noncomputable def cC:FS:=(aB (gD (jt (aJ (bU 2 cm (aa (ae 0) (aa (vC (.int 2)) ag)))))
    (aT (vC (.bool false)))
    cG)
    (aB (qp (ae 0) (bX (av (ah 1) (av (ah 2) bO))))
    (aB (gD (sk (jt (aJ (bU 1 dC (aa (ae 1) ag)))) (sk (jt (aJ (bU 1 dC (aa (ae 2) ag)))) (aJ (ao qX (ae 2) (vC (.int 1))))))
    (aT (vC (.bool false)))
    cG)
    (aT (ao (bW false) (bU 2 dM (aa (ae 1) (aa (ae 2) ag))) (ae 0))))))
noncomputable def bw:FM:=gw 1 2 (([]++[])++(([1]++([2]++[]))++(([]++[])++[]))) cC
theorem iL:ay ["thing","top","bottom"] ["thing"] (am df):=⟨rfl,rfl,rfl,by decide+kernel,rfl,by decide+kernel,by decide+kernel⟩
theorem mr(h:aX K mg "is_fraction" df f fd ["thing"])(T:ik mg){f_is_row_of:Addr}{e_is_row_of:FuncData}(h_is_row_of:aX K mg "is_row_of" dD f_is_row_of e_is_row_of ["thing","many"])(G_is_row_of:aC P w K mg base bH 1 f_is_row_of e_is_row_of ["thing","many"] (bM K 2 cm)){f_lowest:Addr}{e_lowest:FuncData}(h_lowest:aX K mg "lowest" fw f_lowest e_lowest ["top","bottom"])(G_lowest:aC P w K mg base bH 2 f_lowest e_lowest ["top","bottom"] (bM K 2 dM)){f_is_number:Addr}{e_is_number:FuncData}(h_is_number:aX K mg "is_number" eE f_is_number e_is_number ["thing"])(G_is_number:aC P w K mg base bH 1 f_is_number e_is_number ["thing"] (bM K 1 dC)):aC P w K mg base bH 3 f fd ["thing"] (bM K 1 bw):=by
  have nd:=iL.nd
  exact h.fn iL rfl rfl (fun cdv A outer s H E hr=>(@af _ _ _ _ _ _ _ _ (@cn _ _ _ _ _ _ _ _ _ _ _ (@hJ _ _ _ _ _ (@dz _ _ _ _ (@aK _ _ _ _ _ _ _ _ _ _ _ _ _ _ _ h_is_row_of G_is_row_of (hr.mono (by decide)) ((¬0)∘(ab∘ac)) (by rfl) (by decide) (by rfl) (by rfl)) (by intro _;rfl)))
      (@aj _ _ _ _ _ (@au _ _ _ _ _ (@cA _ _ _ _ _)))
      (@aU _ _))
      (@af _ _ _ _ _ _ _ _ (@rS _ _ _ _ _ _ _ _ (¬0) (@g_ _ _ _ _ _ _ _ _ rfl rfl (@bh _ _ _ _ _ _ _ _ (@aD _ _ _ 1 _ nd rfl (Or.inl rfl) (by trivial)) (@bh _ _ _ _ _ _ _ _ (@aD _ _ _ 2 _ nd rfl (Or.inl rfl) (by trivial)) (@eO _ _) (by rfl)) (by rfl)) (bR (bR gW)) (by rfl) (by rfl)) (by rfl) (by rfl) (by rfl))
      (@af _ _ _ _ _ _ _ _ (@cn _ _ _ _ _ _ _ _ _ _ _ (@pv _ _ _ _ (@jW _ _ _ _ _ _ _ _ (@hJ _ _ _ _ _ (@dz _ _ _ _ (@aK _ _ _ _ _ _ _ _ _ _ _ _ _ _ _ h_is_number G_is_number (hr.mono (by decide)) ((¬1)∘ac) (by rfl) (by decide) (by rfl) (by rfl)) (by intro _;rfl))) (@jW _ _ _ _ _ _ _ _ (@hJ _ _ _ _ _ (@dz _ _ _ _ (@aK _ _ _ _ _ _ _ _ _ _ _ _ _ _ _ h_is_number G_is_number (hr.mono (by decide)) ((¬2)∘ac) (by rfl) (by decide) (by rfl) (by rfl)) (by intro _;rfl))) (@jp _ _ _ _ _ (@bj _ _ _ _ _ _ _ _ _ (@pT _ _) (¬2) ab (aO _))))))
      (@aj _ _ _ _ _ (@au _ _ _ _ _ (@cA _ _ _ _ _)))
      (@aU _ _))
      (@aj _ _ _ _ _ (@au _ _ _ _ _ (@gB _ _ _ _ _ _ _ _ _ (@jB _ _ _ rfl hr) (@aK _ _ _ _ _ _ _ _ _ _ _ _ _ _ _ h_lowest G_lowest (hr.mono (by decide)) ((¬1)∘((¬2)∘ac)) (by rfl) (by decide) (by rfl) (by rfl)) (¬0) (aO _))))))))
noncomputable def eX:FS:=(aT (i9 (bU 1 bw (aa (ae 0) ag)) (ao AZ (ao bz (ae 0) (vC (.int 0))) (vC (.int 0)))))
noncomputable def ci:FM:=gw 1 0 [] eX
theorem ig:ay ["thing"] ["thing"] (am cO):=⟨rfl,rfl,rfl,by decide+kernel,rfl,by decide+kernel,by decide+kernel⟩
theorem lu(h:aX K mg "is_from_zero" cO f fd ["thing"])(T:ik mg){f_is_fraction:Addr}{e_is_fraction:FuncData}(h_is_fraction:aX K mg "is_fraction" df f_is_fraction e_is_fraction ["thing"])(G_is_fraction:aC P w K mg base bH 3 f_is_fraction e_is_fraction ["thing"] (bM K 1 bw)):aC P w K mg base bH 4 f fd ["thing"] (bM K 1 ci):=by
  have nd:=ig.nd
  exact h.fn ig rfl rfl (fun cdv A outer s H E hr=>(@aj _ _ _ _ _ (@au _ _ _ _ _ (@mx _ _ _ _ _ _ _ _ (@aK _ _ _ _ _ _ _ _ _ _ _ _ _ _ _ h_is_fraction G_is_fraction (hr.mono (by decide)) ((¬0)∘ac) (by rfl) (by decide) (by rfl) (by rfl)) (@kR _ _ _ _ _ _ (@gB _ _ _ _ _ _ _ _ _ (@AR _ _) (@aH _ _ _ _ _ _ _ rfl (¬0) ab (fun _ _=>rfl)) ab (aO _)))))))
noncomputable def eA:FI:=(eM (ae 0))
noncomputable def bV:FE:=(bU 1 ci (aa (ae 0) ag))
noncomputable def dm:FS:=(aT (i9 (bU 2 cm (aa (ae 0) (aa (ae 1) ag))) (aW (g1 (gh nv)) (aa (bF [] 1 eA (ah 0) bB bV) ag))))
noncomputable def bi:FM:=gw 2 0 [] dm
theorem eJ:ay ["thing","many"] ["thing","many"] (am bo):=⟨rfl,rfl,rfl,by decide+kernel,rfl,by decide+kernel,by decide+kernel⟩
theorem i0(h:aX K mg "is_row_from_zero" bo f fd ["thing","many"])(T:ik mg){f_is_row_of:Addr}{e_is_row_of:FuncData}(h_is_row_of:aX K mg "is_row_of" dD f_is_row_of e_is_row_of ["thing","many"])(G_is_row_of:aC P w K mg base bH 1 f_is_row_of e_is_row_of ["thing","many"] (bM K 2 cm)){f_is_from_zero:Addr}{e_is_from_zero:FuncData}(h_is_from_zero:aX K mg "is_from_zero" cO f_is_from_zero e_is_from_zero ["thing"])(G_is_from_zero:aC P w K mg base bH 4 f_is_from_zero e_is_from_zero ["thing"] (bM K 1 ci)):aC P w K mg base bH 5 f fd ["thing","many"] (bM K 2 bi):=by
  have nd:=eJ.nd
  exact h.fn eJ rfl rfl (fun cdv A outer s H E hr=>(@aj _ _ _ _ _ (@au _ _ _ _ _ (@mx _ _ _ _ _ _ _ _ (@aK _ _ _ _ _ _ _ _ _ _ _ _ _ _ _ h_is_row_of G_is_row_of (hr.mono (by decide)) ((¬0)∘((¬1)∘ac)) (by rfl) (by decide) (by rfl) (by rfl)) (@kR _ _ _ _ _ _ (@bJ _ _ _ _ _ _ _ _ _ (@b_all _ _ _ rfl hr) (by rfl) T.b_all ((@fN _ _ _ _ _ _ _ _ _ _ _ _ _ (am bo) ["thing","many"] [] ["part"] rfl rfl rfl (@cX _ _ _ _ _ rfl (¬0))
        (fun C s0 H0 fp=>(@aD _ _ _ 0 _ (show List.Nodup (["part"]:List Str) by decide+kernel) rfl (Or.inl rfl) (by trivial))) (fun C s0 H0 fp=>(@em _ _))
        (fun C s0 H0 fp=>(@aK _ _ _ _ _ _ _ _ _ _ _ _ _ _ _ h_is_from_zero G_is_from_zero (hr.mono (by decide)) ((¬0)∘ac) (by rfl) (by decide) (by rfl) (by rfl))) rfl (by decide+kernel) (by decide+kernel) (by decide+kernel) (by decide+kernel) (by decide+kernel) (by decide+kernel) (by decide+kernel) (by intro _;rfl))∘ac) (by decide) (by decide) (by rfl) (by rfl)))))))
noncomputable def gj:FI:=(eM (ae 3))
noncomputable def ee:FE:=(ae 0)
noncomputable def gq:FI:=(eM (ae 3))
noncomputable def ce:FE:=(bU 2 jR (aa (ae 0) (aa (ae 1) ag)))
noncomputable def cT:FI:=(nF (aa (ae 1) (aa (ao bz (ae 0) (vC (.int 1))) ag)))
noncomputable def bK:FT:=(aJ (ao (yi false) (ae 0) (mT (ae 2) dc (cW (vC (.int 2))))))
noncomputable def bL:FE:=(aR (aa (ae 1) (aa (ao bz (ae 2) (vC (.int 2))) ag)))
noncomputable def iv:FS:=(aB (aZ 3 (bF [(2,"thing")] 2 cT (bX (av (ah 1) (av (ah 2) bO))) bK bL))
    (aB (gD (aJ (bU 2 gY (aa (vC (.tuple [.int (1),.int (1)])) (aa (bU 1 fJ (aa (bF [] 2 gq (bX (av (ah 0) (av (ah 1) bO))) bB ce) ag)) ag))))
    (aT (vC (.bool false)))
    cG)
    (aT (mS (bU 2 gY (aa (aR (aa (ao bz (ao bz (ae 0) (vC (.int 2))) (ae 2)) (aa (vC (.int 1)) ag))) (aa (bU 1 fJ (aa (bF [] 2 gj (bX (av (ah 0) (av (ah 1) bO))) bB ee) ag)) ag)))))))
noncomputable def cK:FM:=gw 3 1 ([3]++(([]++[])++[])) iv
theorem ie:ay ["web","shares","thing","of_thing"] ["web","shares","thing"] (am bA):=⟨rfl,rfl,rfl,by decide+kernel,rfl,by decide+kernel,by decide+kernel⟩
theorem lr(h:aX K mg "bears_shares" bA f fd ["web","shares","thing"])(T:ik mg){f_less:Addr}{e_less:FuncData}(h_less:aX K mg "less" kS f_less e_less ["one","other"])(G_less:aC P w K mg base bH 1 f_less e_less ["one","other"] (bM K 2 gY)){f_total:Addr}{e_total:FuncData}(h_total:aX K mg "total" iY f_total e_total ["row"])(G_total:aC P w K mg base bH 4 f_total e_total ["row"] (bM K 1 fJ)){f_times:Addr}{e_times:FuncData}(h_times:aX K mg "times" j5 f_times e_times ["one","other"])(G_times:aC P w K mg base bH 3 f_times e_times ["one","other"] (bM K 2 jR)){g_ONE:Addr}(m_ONE:mg "ONE"=some (.ref g_ONE))(c_ONE:∀F,DA K F (.tuple [.int (1),.int (1)]) (.ref g_ONE)):aC P w K mg base bH 5 f fd ["web","shares","thing"] (bM K 3 cK):=by
  have nd:=ie.nd
  exact h.fn ie rfl rfl (fun cdv A outer s H E hr=>(@af _ _ _ _ _ _ _ _ (@nK _ _ _ (3) _ _ _ _ _ _ _ _ _ _ _ _ _ (am bA) ["web","shares","thing","of_thing"] [(2,"thing")] ["share","tie"] rfl rfl rfl (@xx _ _ _ _ _ _ _ _ _ _ rfl rfl T.b_zip ((¬1)∘((@aH _ _ _ _ _ _ _ rfl (¬0) ab (fun _ _=>rfl))∘ac)) (by rfl) (by rfl))
        (fun C s0 H0 fp=>(@g_ _ _ _ _ _ _ _ _ rfl rfl (@bh _ _ _ _ _ _ _ _ (@aD _ _ _ 1 _ (show List.Nodup (["thing","share","tie"]:List Str) by decide+kernel) rfl (Or.inl rfl) (by trivial)) (@bh _ _ _ _ _ _ _ _ (@aD _ _ _ 2 _ (show List.Nodup (["thing","share","tie"]:List Str) by decide+kernel) rfl (Or.inl rfl) (by trivial)) (@eO _ _) (by rfl)) (by rfl)) (bR (bR gW)) (by rfl) (by rfl))) (fun C s0 H0 fp=>(@sY _ _ _ _ (@bj _ _ _ _ _ _ _ _ _ (@C5 _ _ _ rfl hr) (¬0) (@g9 _ _ _ _ _ _ _ _ _ _ rfl (¬2) (@hE _ _) (@hG _ _ _ _ ab)) (by with_unfolding_all rfl))))
        (fun C s0 H0 fp=>(@aq _ _ _ _ _ _ ((¬1)∘((@aH _ _ _ _ _ _ _ rfl (¬2) ab (fun _ _=>rfl))∘ac)))) rfl (by decide+kernel) (by decide+kernel) (by decide+kernel) (by decide+kernel) (by decide+kernel) (by decide+kernel) (by decide+kernel) nd rfl rfl (by rfl) (by intro _;rfl))
      (@af _ _ _ _ _ _ _ _ (@cn _ _ _ _ _ _ _ _ _ _ _ (@dz _ _ _ _ (@aK _ _ _ _ _ _ _ _ _ _ _ _ _ _ _ h_less G_less (hr.mono (by decide)) ((@pk _ _ _ (V.ref g_ONE) _ _ (PyData.tuple [.int (1),.int (1)]) rfl m_ONE rfl c_ONE (by decide))∘((@aK _ _ _ _ _ _ _ _ _ _ _ _ _ _ _ h_total G_total (hr.mono (by decide)) ((@fN _ _ _ _ _ _ _ _ _ _ _ _ _ (am bA) ["web","shares","thing","of_thing"] [] ["share","chance"] rfl rfl rfl (@cX _ _ _ _ _ rfl (¬3))
        (fun C s0 H0 fp=>(@g_ _ _ _ _ _ _ _ _ rfl rfl (@bh _ _ _ _ _ _ _ _ (@aD _ _ _ 0 _ (show List.Nodup (["share","chance"]:List Str) by decide+kernel) rfl (Or.inl rfl) (by trivial)) (@bh _ _ _ _ _ _ _ _ (@aD _ _ _ 1 _ (show List.Nodup (["share","chance"]:List Str) by decide+kernel) rfl (Or.inl rfl) (by trivial)) (@eO _ _) (by rfl)) (by rfl)) (bR (bR gW)) (by rfl) (by rfl))) (fun C s0 H0 fp=>(@em _ _))
        (fun C s0 H0 fp=>(@aK _ _ _ _ _ _ _ _ _ _ _ _ _ _ _ h_times G_times (hr.mono (by decide)) ((¬0)∘((¬1)∘ac)) (by rfl) (by decide) (by rfl) (by rfl))) rfl (by decide+kernel) (by decide+kernel) (by decide+kernel) (by decide+kernel) (by decide+kernel) (by decide+kernel) (by decide+kernel) (by intro _;rfl))∘ac) (by rfl) (by decide) (by rfl) (by rfl))∘ac)) (by rfl) (by decide) (by rfl) (by rfl)) (by intro _;rfl))
      (@aj _ _ _ _ _ (@au _ _ _ _ _ (@cA _ _ _ _ _)))
      (@aU _ _))
      (@aj _ _ _ _ _ (@au _ _ _ _ _ (@xu _ _ _ _ _ (@aK _ _ _ _ _ _ _ _ _ _ _ _ _ _ _ h_less G_less (hr.mono (by decide)) ((@aq _ _ _ _ _ _ ((@aH _ _ _ _ _ _ _ rfl (@aH _ _ _ _ _ _ _ rfl (¬0) ab (fun _ _=>rfl)) (¬2) (fun _ _=>rfl))∘(ab∘ac)))∘((@aK _ _ _ _ _ _ _ _ _ _ _ _ _ _ _ h_total G_total (hr.mono (by decide)) ((@fN _ _ _ _ _ _ _ _ _ _ _ _ _ (am bA) ["web","shares","thing","of_thing"] [] ["share","chance"] rfl rfl rfl (@cX _ _ _ _ _ rfl (¬3))
        (fun C s0 H0 fp=>(@g_ _ _ _ _ _ _ _ _ rfl rfl (@bh _ _ _ _ _ _ _ _ (@aD _ _ _ 0 _ (show List.Nodup (["share","chance"]:List Str) by decide+kernel) rfl (Or.inl rfl) (by trivial)) (@bh _ _ _ _ _ _ _ _ (@aD _ _ _ 1 _ (show List.Nodup (["share","chance"]:List Str) by decide+kernel) rfl (Or.inl rfl) (by trivial)) (@eO _ _) (by rfl)) (by rfl)) (bR (bR gW)) (by rfl) (by rfl))) (fun C s0 H0 fp=>(@em _ _))
        (fun C s0 H0 fp=>(¬0)) rfl (by decide+kernel) (by decide+kernel) (by decide+kernel) (by decide+kernel) (by decide+kernel) (by decide+kernel) (by decide+kernel) (by intro _;rfl))∘ac) (by rfl) (by decide) (by rfl) (by rfl))∘ac)) (by rfl) (by decide) (by rfl) (by rfl))))))))
noncomputable def eG:FI:=(cS (aa (ao bz (ae 0) (vC (.int 0))) ag))
noncomputable def cx:FE:=(bU 3 cK (aa (ae 0) (aa (ae 1) (aa (ae 2) ag))))
noncomputable def ic:FI:=(eM (ae 1))
noncomputable def cy:FE:=(bU 2 gY (aa (vC (.tuple [.int (1),.int (1)])) (aa (ae 0) ag)))
noncomputable def ek:FS:=(aB (gD (sk (jt (aJ (bU 2 bi (aa (ae 1) (aa (aW (g1 ip) (aa (ao bz (ae 0) (vC (.int 1))) ag)) ag))))) (aJ (aW (g1 (gh pZ)) (aa (bF [] 1 ic (ah 0) bB cy) ag))))
    (aT (vC (.bool false)))
    cG)
    (aB (gD (aJ (bU 2 gY (aa (aR (aa (ao bz (ae 0) (vC (.int 3))) (aa (vC (.int 1)) ag))) (aa (bU 1 fJ (aa (ae 1) ag)) ag))))
    (aT (vC (.bool false)))
    cG)
    (aT (aW (g1 (gh nv)) (aa (bF [(0,"web"),(1,"thing")] 1 eG (ah 2) bB cx) ag)))))
noncomputable def bx:FM:=gw 2 0 (([]++[])++(([]++[])++[])) ek
theorem iM:ay ["web","thing"] ["web","thing"] (am bZ):=⟨rfl,rfl,rfl,by decide+kernel,rfl,by decide+kernel,by decide+kernel⟩
theorem ms(h:aX K mg "shares_hold" bZ f fd ["web","thing"])(T:ik mg){f_less:Addr}{e_less:FuncData}(h_less:aX K mg "less" kS f_less e_less ["one","other"])(G_less:aC P w K mg base bH 1 f_less e_less ["one","other"] (bM K 2 gY)){f_total:Addr}{e_total:FuncData}(h_total:aX K mg "total" iY f_total e_total ["row"])(G_total:aC P w K mg base bH 4 f_total e_total ["row"] (bM K 1 fJ)){f_is_row_from_zero:Addr}{e_is_row_from_zero:FuncData}(h_is_row_from_zero:aX K mg "is_row_from_zero" bo f_is_row_from_zero e_is_row_from_zero ["thing","many"])(G_is_row_from_zero:aC P w K mg base bH 5 f_is_row_from_zero e_is_row_from_zero ["thing","many"] (bM K 2 bi)){f_bears_shares:Addr}{e_bears_shares:FuncData}(h_bears_shares:aX K mg "bears_shares" bA f_bears_shares e_bears_shares ["web","shares","thing"])(G_bears_shares:aC P w K mg base bH 5 f_bears_shares e_bears_shares ["web","shares","thing"] (bM K 3 cK)){g_ONE:Addr}(m_ONE:mg "ONE"=some (.ref g_ONE))(c_ONE:∀F,DA K F (.tuple [.int (1),.int (1)]) (.ref g_ONE)):aC P w K mg base bH 6 f fd ["web","thing"] (bM K 2 bx):=by
  have nd:=iM.nd
  exact h.fn iM rfl rfl (fun cdv A outer s H E hr=>(@af _ _ _ _ _ _ _ _ (@cn _ _ _ _ _ _ _ _ _ _ _ (@pv _ _ _ _ (@jW _ _ _ _ _ _ _ _ (@hJ _ _ _ _ _ (@dz _ _ _ _ (@aK _ _ _ _ _ _ _ _ _ _ _ _ _ _ _ h_is_row_from_zero G_is_row_from_zero (hr.mono (by decide)) ((¬1)∘((@bJ _ _ _ _ _ _ _ _ _ (@b_len _ _ rfl) (by rfl) T.b_len ((@aH _ _ _ _ _ _ _ rfl (¬0) ab (fun _ _=>rfl))∘ac) (by decide) (by decide) (by rfl) (by rfl))∘ac)) (by rfl) (by decide) (by rfl) (by rfl)) (by intro _;rfl))) (@jp _ _ _ _ _ (@dz _ _ _ _ (@bJ _ _ _ _ _ _ _ _ _ (@b_any _ _ _ rfl hr) (by rfl) T.b_any ((@fN _ _ _ _ _ _ _ _ _ _ _ _ _ (am bZ) ["web","thing"] [] ["share"] rfl rfl rfl (@cX _ _ _ _ _ rfl (¬1))
        (fun C s0 H0 fp=>(@aD _ _ _ 0 _ (show List.Nodup (["share"]:List Str) by decide+kernel) rfl (Or.inl rfl) (by trivial))) (fun C s0 H0 fp=>(@em _ _))
        (fun C s0 H0 fp=>(@aK _ _ _ _ _ _ _ _ _ _ _ _ _ _ _ h_less G_less (hr.mono (by decide)) ((@pk _ _ _ (V.ref g_ONE) _ _ (PyData.tuple [.int (1),.int (1)]) rfl m_ONE rfl c_ONE (by decide))∘((¬0)∘ac)) (by rfl) (by decide) (by rfl) (by rfl))) rfl (by decide+kernel) (by decide+kernel) (by decide+kernel) (by decide+kernel) (by decide+kernel) (by decide+kernel) (by decide+kernel) (by intro _;rfl))∘ac) (by decide) (by decide) (by rfl) (by rfl)) (by intro _;rfl)))))
      (@aj _ _ _ _ _ (@au _ _ _ _ _ (@cA _ _ _ _ _)))
      (@aU _ _))
      (@af _ _ _ _ _ _ _ _ (@cn _ _ _ _ _ _ _ _ _ _ _ (@dz _ _ _ _ (@aK _ _ _ _ _ _ _ _ _ _ _ _ _ _ _ h_less G_less (hr.mono (by decide)) ((@aq _ _ _ _ _ _ ((@aH _ _ _ _ _ _ _ rfl (¬0) ab (fun _ _=>rfl))∘(ab∘ac)))∘((@aK _ _ _ _ _ _ _ _ _ _ _ _ _ _ _ h_total G_total (hr.mono (by decide)) ((¬1)∘ac) (by rfl) (by decide) (by rfl) (by rfl))∘ac)) (by rfl) (by decide) (by rfl) (by rfl)) (by intro _;rfl))
      (@aj _ _ _ _ _ (@au _ _ _ _ _ (@cA _ _ _ _ _)))
      (@aU _ _))
      (@aj _ _ _ _ _ (@au _ _ _ _ _ (@bJ _ _ _ _ _ _ _ _ _ (@b_all _ _ _ rfl hr) (by rfl) T.b_all ((@fN _ _ _ _ _ _ _ _ _ _ _ _ _ (am bZ) ["web","thing"] [(0,"web"),(1,"thing")] ["at"] rfl rfl rfl (@cV _ _ _ _ _ _ _ rfl T.b_range ((@aH _ _ _ _ _ _ _ rfl (¬0) ab (fun _ _=>rfl))∘ac) (by rfl))
        (fun C s0 H0 fp=>(@aD _ _ _ 2 _ (show List.Nodup (["web","thing","at"]:List Str) by decide+kernel) rfl (Or.inl rfl) (by trivial))) (fun C s0 H0 fp=>(@em _ _))
        (fun C s0 H0 fp=>(@aK _ _ _ _ _ _ _ _ _ _ _ _ _ _ _ h_bears_shares G_bears_shares (hr.mono (by decide)) ((¬0)∘((¬1)∘((¬2)∘ac))) (by rfl) (by decide) (by rfl) (by rfl))) rfl (by decide+kernel) (by decide+kernel) (by decide+kernel) (by decide+kernel) (by decide+kernel) (by decide+kernel) (by decide+kernel) (by intro _;rfl))∘ac) (by decide) (by decide) (by rfl) (by rfl)))))))
noncomputable def sI:FS:=(aB (aZ 2 (ao be (ao bu (ao bu (ao a' (ao be (ae 0) (vC (.int 2147483647))) (vC (.int 48271))) (ao a' (ao a' (vC (.int 7919)) (ae 1)) (ae 1))) (vC (.int 104729))) (vC (.int 2147483647))))
    (aT (ao be (ao a' (ae 2) (ae 2)) (vC (.int 2147483629)))))
noncomputable def iX:FM:=gw 2 1 ([2]++[]) sI
theorem qz:ay ["_law_cell","_law_k","_law_number"] ["_law_cell","_law_k"] (am j0):=⟨rfl,rfl,rfl,by decide+kernel,rfl,by decide+kernel,by decide+kernel⟩
theorem wL(h:aX K mg "_law_mixed" j0 f fd ["_law_cell","_law_k"])(T:ik mg):aC P w K mg base bH 1 f fd ["_law_cell","_law_k"] (bM K 2 iX):=by
  have nd:=qz.nd
  exact h.fn qz rfl rfl (fun cdv A outer s H E hr=>(@af _ _ _ _ _ _ _ _ (@aA _ _ _ _ _ 2 _ _ nd rfl (Or.inl rfl) (@a7 _ _ _ _ _ _ _ (@bY _ _ _ _ _ _ _ rfl (@bY _ _ _ _ _ _ _ rfl (@bP _ _ _ _ _ _ _ rfl (@a7 _ _ _ _ _ _ _ (¬0) ab) ab) (@bP _ _ _ _ _ _ _ rfl (@bP _ _ _ _ _ _ _ rfl ab (¬1)) (¬1))) ab) ab) (by rfl) (by trivial))
      (@aj _ _ _ _ _ (@au _ _ _ _ _ (@a7 _ _ _ _ _ _ _ (@bP _ _ _ _ _ _ _ rfl (¬2) (¬2)) ab)))))
noncomputable def eU:FT:=(qQ (aJ (ao AZ (ae 3) (ao oT (vC (.int 10)) (vC (.int 18))))) (aJ (ao qX (aW (g1 ip) (aa (ae 1) ag)) (vC (.int 900)))))
noncomputable def iO:FS:=(aB (gC (dZ cv (ae 1) (aa (ao be (ae 3) (vC (.int 2147483629))) ag)))
    (aZ 3 (ao eu (ae 3) (vC (.int 2147483629)))))
noncomputable def iS:FI:=(cS (aa (vC (.int 12)) ag))
noncomputable def fX:FS:=(gC (dZ cv (ae 1) (aa (bU 2 iX (aa (bU 2 iX (aa (ae 3) (aa (ao bu (ao a' (vC (.int 3)) (ae 4)) (vC (.int 1))) ag))) (aa (ao bu (ao bu (ae 4) (ae 2)) (vC (.int 2))) ag))) ag)))
noncomputable def kz:FI:=(cS (aa (aW (g2 wa) (aa (aW (g1 ip) (aa (ae 0) ag)) (aa (vC (.int 63)) ag))) ag))
noncomputable def eS:FS:=(aB (aZ 3 (aW (g1 rp) (aa (ao bz (ae 0) (ae 2)) ag)))
    (aB (gD (aJ (ao qX (ae 3) (ao oT (vC (.int 10)) (vC (.int 18)))))
    (dG ([4]++[]) iS (ah 4) fX)
    cG)
    (aB (jq (2 ^ 4200) eU iO)
    (gD (aJ (ao AZ (ae 3) (vC (.int 2147483629))))
    (gC (dZ cv (ae 1) (aa (ao be (ae 3) (vC (.int 2147483629))) ag)))
    cG))))
noncomputable def sG:FS:=(aB (aZ 1 (cH ag))
    (aB (dG ([2]++([3]++((([4]++[])++[])++(([]++[3])++([]++[]))))) kz (ah 2) eS)
    (aT (ae 1))))
noncomputable def jN:FM:=gw 1 4 ([1]++(([2]++([3]++((([4]++[])++[])++(([]++[3])++([]++[])))))++[])) sG
theorem qt:ay ["_law_script","_law_drawn","_law_k","_law_cell","_law_j"] ["_law_script"] (am jY):=⟨rfl,rfl,rfl,by decide+kernel,rfl,by decide+kernel,by decide+kernel⟩
theorem wJ(h:aX K mg "_law_draws" jY f fd ["_law_script"])(T:ik mg){fLmixed:Addr}{eLmixed:FuncData}(hLmixed:aX K mg "_law_mixed" j0 fLmixed eLmixed ["_law_cell","_law_k"])(GLmixed:aC P w K mg base bH 1 fLmixed eLmixed ["_law_cell","_law_k"] (bM K 2 iX)):aC P w K mg base bH 2 f fd ["_law_script"] (bM K 1 jN):=by
  have nd:=qt.nd
  exact h.fn qt rfl rfl (fun cdv A outer s H E hr=>(@af _ _ _ _ _ _ _ _ (@aA _ _ _ _ _ 1 _ _ nd rfl (Or.inl rfl) (@bg _ _ _ _ _ ac) (by rfl) (by trivial))
      (@af _ _ _ _ _ _ _ _ (@dy _ _ _ _ _ _ _ _ _ _ _ PassesOwn.never rfl (@cV _ _ _ _ _ _ _ rfl T.b_range ((@bJ _ _ _ _ _ _ _ _ _ (@b_min _ _ rfl) (by rfl) T.b_min ((@bJ _ _ _ _ _ _ _ _ _ (@b_len _ _ rfl) (by rfl) T.b_len ((¬0)∘ac) (by decide) (by decide) (by rfl) (by rfl))∘(ab∘ac)) (by decide) (by decide) (by rfl) (by rfl))∘ac) (by rfl)) (@aD _ _ _ 2 _ nd rfl (Or.inl rfl) (by trivial))
      (@af _ _ _ _ _ _ _ _ (@aA _ _ _ _ _ 3 _ _ nd rfl (Or.inl rfl) (@bJ _ _ _ _ _ _ _ _ _ (@b_abs _ _) (by rfl) T.b_abs ((@aH _ _ _ _ _ _ _ rfl (¬0) (¬2) (fun _ _=>rfl))∘ac) (by decide) (by decide) (by rfl) (by rfl)) (by rfl) (by trivial))
      (@af _ _ _ _ _ _ _ _ (@cn _ _ _ _ _ _ _ _ _ _ _ (@bj _ _ _ _ _ _ _ _ _ (@pT _ _) (¬3) (@xq _ _ _ _ _ _ _ ab ab) (aO _))
      (@aj _ _ _ _ _ (@dy _ _ _ _ _ _ _ _ _ _ _ PassesOwn.never rfl (@cV _ _ _ _ _ _ _ rfl T.b_range (ab∘ac) (by rfl)) (@aD _ _ _ 4 _ nd rfl (Or.inl rfl) (by trivial))
      (@aj _ _ _ _ _ (@eP _ _ _ _ _ (@dP _ _ _ _ _ _ _ _ _ rfl (¬1) ((@aK _ _ _ _ _ _ _ _ _ _ _ _ _ _ _ hLmixed GLmixed (hr.mono (by decide)) ((@aK _ _ _ _ _ _ _ _ _ _ _ _ _ _ _ hLmixed GLmixed (hr.mono (by decide)) ((¬3)∘((@bY _ _ _ _ _ _ _ rfl (@bP _ _ _ _ _ _ _ rfl ab (¬4)) ab)∘ac)) (by rfl) (by decide) (by rfl) (by rfl))∘((@bY _ _ _ _ _ _ _ rfl (@bY _ _ _ _ _ _ _ rfl (¬4) (¬2)) ab)∘ac)) (by rfl) (by decide) (by rfl) (by rfl))∘ac) (by rfl) (by rfl) (by rfl) (by rfl) (by rfl)) (by rfl))) (by intro _;rfl)))
      (@aU _ _))
      (@af _ _ _ _ _ _ _ _ (@mz _ _ _ _ _ _ _ _ _ PassesOwn.never (@pv _ _ _ _ (@xB _ _ _ _ _ _ _ _ (@bj _ _ _ _ _ _ _ _ _ (@AR _ _) (¬3) (@xq _ _ _ _ _ _ _ ab ab) (aO _)) (@sZ _ _ _ _ _ (@bj _ _ _ _ _ _ _ _ _ (@pT _ _) (@bJ _ _ _ _ _ _ _ _ _ (@b_len _ _ rfl) (by rfl) T.b_len ((¬1)∘ac) (by decide) (by decide) (by rfl) (by rfl)) ab (aO _)))))
      (@af _ _ _ _ _ _ _ _ (@eP _ _ _ _ _ (@dP _ _ _ _ _ _ _ _ _ rfl (¬1) ((@a7 _ _ _ _ _ _ _ (¬3) ab)∘ac) (by rfl) (by rfl) (by rfl) (by rfl) (by rfl)) (by rfl))
      (@aj _ _ _ _ _ (@aA _ _ _ _ _ 3 _ _ nd rfl (Or.inl rfl) (@fP _ _ _ _ _ _ _ (¬3) ab) (by rfl) (by trivial)))))
      (@aj _ _ _ _ _ (@cn _ _ _ _ _ _ _ _ _ _ _ (@bj _ _ _ _ _ _ _ _ _ (@AR _ _) (¬3) ab (aO _))
      (@aj _ _ _ _ _ (@eP _ _ _ _ _ (@dP _ _ _ _ _ _ _ _ _ rfl (¬1) ((@a7 _ _ _ _ _ _ _ (¬3) ab)∘ac) (by rfl) (by rfl) (by rfl) (by rfl) (by rfl)) (by rfl)))
      (@aU _ _)))))) (by intro _;rfl))
      (@aj _ _ _ _ _ (@au _ _ _ _ _ (¬1))))))
noncomputable def rh:FS:=(aB (gD (aJ (ao (bW false) (ae 0) (cH ag)))
    (aT (vC (.int 0)))
    cG)
    (aT (dZ jl (ae 0) (aa (vC (.int 0)) ag))))
noncomputable def bf:FM:=gw 1 0 (([]++[])++[]) rh
theorem tF:ay ["_law_drawn"] ["_law_drawn"] (am iI):=⟨rfl,rfl,rfl,by decide+kernel,rfl,by decide+kernel,by decide+kernel⟩
theorem yW(h:aX K mg "_law_next" iI f fd ["_law_drawn"])(T:ik mg):aC P w K mg base bH 1 f fd ["_law_drawn"] (bM K 1 bf):=by
  have nd:=tF.nd
  exact h.fn tF rfl rfl (fun cdv A outer s H E hr=>(@af _ _ _ _ _ _ _ _ (@cn _ _ _ _ _ _ _ _ _ _ _ (@bj _ _ _ _ _ _ _ _ _ (@jB _ _ _ rfl hr) (¬0) (@bg _ _ _ _ _ ac) (aO _))
      (@aj _ _ _ _ _ (@au _ _ _ _ _ ab))
      (@aU _ _))
      (@aj _ _ _ _ _ (@au _ _ _ _ _ (@zJ _ _ _ _ _ _ _ _ _ rfl (¬0) (ab∘ac) (by rfl) (by rfl) (by rfl) (by rfl) (by rfl))))))
noncomputable def jA:FT:=(aJ (ao (bW true) (ae 1) (vC (.int 0))))
noncomputable def lB:FS:=(rT 0 1 (aa (ae 1) (aa (ao be (ae 0) (ae 1)) ag)))
noncomputable def Aj:FS:=(aB (jq (2 ^ 4200) jA lB)
    (aT (aW (g1 rp) (aa (ae 0) ag))))
noncomputable def ma:FM:=gw 2 0 ([0,1]++[]) Aj
theorem xN:ay ["_law_one","_law_other"] ["_law_one","_law_other"] (am nO):=⟨rfl,rfl,rfl,by decide+kernel,rfl,by decide+kernel,by decide+kernel⟩
theorem Bn(h:aX K mg "_law_gcd" nO f fd ["_law_one","_law_other"])(T:ik mg):aC P w K mg base bH 1 f fd ["_law_one","_law_other"] (bM K 2 ma):=by
  have nd:=xN.nd
  exact h.fn xN rfl rfl (fun cdv A outer s H E hr=>(@af _ _ _ _ _ _ _ _ (@mz _ _ _ _ _ _ _ _ _ PassesOwn.never (@bj _ _ _ _ _ _ _ _ _ (@vx _ _ _ rfl hr) (¬1) ab (aO _))
      (@aj _ _ _ _ _ (@xA _ _ _ _ _ 0 1 _ _ _ _ _ _ _ _ _ rfl nd rfl rfl (by decide) rfl rfl ((¬1)∘((@a7 _ _ _ _ _ _ _ (¬0) (¬1))∘ac)) (by rfl) (by rfl))))
      (@aj _ _ _ _ _ (@au _ _ _ _ _ (@bJ _ _ _ _ _ _ _ _ _ (@b_abs _ _) (by rfl) T.b_abs ((¬0)∘ac) (by decide) (by decide) (by rfl) (by rfl))))))
noncomputable def Ak:FS:=(aB (aZ 2 (bU 2 ma (aa (ae 0) (aa (ae 1) ag))))
    (aT (aR (aa (ao eu (ae 0) (ae 2)) (aa (ao eu (ae 1) (ae 2)) ag)))))
noncomputable def eB:FM:=gw 2 1 ([2]++[]) Ak
theorem xO:ay ["_law_top","_law_bottom","_law_common"] ["_law_top","_law_bottom"] (am jZ):=⟨rfl,rfl,rfl,by decide+kernel,rfl,by decide+kernel,by decide+kernel⟩
theorem Bo(h:aX K mg "_law_low" jZ f fd ["_law_top","_law_bottom"])(T:ik mg){fLgcd:Addr}{eLgcd:FuncData}(hLgcd:aX K mg "_law_gcd" nO fLgcd eLgcd ["_law_one","_law_other"])(GLgcd:aC P w K mg base bH 1 fLgcd eLgcd ["_law_one","_law_other"] (bM K 2 ma)):aC P w K mg base bH 2 f fd ["_law_top","_law_bottom"] (bM K 2 eB):=by
  have nd:=xO.nd
  exact h.fn xO rfl rfl (fun cdv A outer s H E hr=>(@af _ _ _ _ _ _ _ _ (@aA _ _ _ _ _ 2 _ _ nd rfl (Or.inl rfl) (@aK _ _ _ _ _ _ _ _ _ _ _ _ _ _ _ hLgcd GLgcd (hr.mono (by decide)) ((¬0)∘((¬1)∘ac)) (by rfl) (by decide) (by rfl) (by rfl)) (by rfl) (by trivial))
      (@aj _ _ _ _ _ (@au _ _ _ _ _ (@aq _ _ _ _ _ _ ((@fP _ _ _ _ _ _ _ (¬0) (¬2))∘((@fP _ _ _ _ _ _ _ (¬1) (¬2))∘ac)))))))
noncomputable def vg:FS:=(aT (bU 2 eB (aa (ao bu (ao a' (ao bz (ae 0) (vC (.int 0))) (ao bz (ae 1) (vC (.int 1)))) (ao a' (ao bz (ae 1) (vC (.int 0))) (ao bz (ae 0) (vC (.int 1))))) (aa (ao a' (ao bz (ae 0) (vC (.int 1))) (ao bz (ae 1) (vC (.int 1)))) ag))))
noncomputable def me:FM:=gw 2 0 [] vg
theorem tG:ay ["_law_one","_law_other"] ["_law_one","_law_other"] (am mF):=⟨rfl,rfl,rfl,by decide+kernel,rfl,by decide+kernel,by decide+kernel⟩
theorem yX(h:aX K mg "_law_plus" mF f fd ["_law_one","_law_other"])(T:ik mg){fLlow:Addr}{eLlow:FuncData}(hLlow:aX K mg "_law_low" jZ fLlow eLlow ["_law_top","_law_bottom"])(GLlow:aC P w K mg base bH 2 fLlow eLlow ["_law_top","_law_bottom"] (bM K 2 eB)):aC P w K mg base bH 3 f fd ["_law_one","_law_other"] (bM K 2 me):=by
  have nd:=tG.nd
  exact h.fn tG rfl rfl (fun cdv A outer s H E hr=>(@aj _ _ _ _ _ (@au _ _ _ _ _ (@aK _ _ _ _ _ _ _ _ _ _ _ _ _ _ _ hLlow GLlow (hr.mono (by decide)) ((@bY _ _ _ _ _ _ _ rfl (@bP _ _ _ _ _ _ _ rfl (@aH _ _ _ _ _ _ _ rfl (¬0) ab (fun _ _=>rfl)) (@aH _ _ _ _ _ _ _ rfl (¬1) ab (fun _ _=>rfl))) (@bP _ _ _ _ _ _ _ rfl (@aH _ _ _ _ _ _ _ rfl (¬1) ab (fun _ _=>rfl)) (@aH _ _ _ _ _ _ _ rfl (¬0) ab (fun _ _=>rfl))))∘((@bP _ _ _ _ _ _ _ rfl (@aH _ _ _ _ _ _ _ rfl (¬0) ab (fun _ _=>rfl)) (@aH _ _ _ _ _ _ _ rfl (¬1) ab (fun _ _=>rfl)))∘ac)) (by rfl) (by decide) (by rfl) (by rfl)))))
noncomputable def sL:FS:=(aT (bU 2 eB (aa (ao a' (ao bz (ae 0) (vC (.int 0))) (ao bz (ae 1) (vC (.int 0)))) (aa (ao a' (ao bz (ae 0) (vC (.int 1))) (ao bz (ae 1) (vC (.int 1)))) ag))))
noncomputable def jP:FM:=gw 2 0 [] sL
theorem qB:ay ["_law_one","_law_other"] ["_law_one","_law_other"] (am j2):=⟨rfl,rfl,rfl,by decide+kernel,rfl,by decide+kernel,by decide+kernel⟩
theorem wN(h:aX K mg "_law_times" j2 f fd ["_law_one","_law_other"])(T:ik mg){fLlow:Addr}{eLlow:FuncData}(hLlow:aX K mg "_law_low" jZ fLlow eLlow ["_law_top","_law_bottom"])(GLlow:aC P w K mg base bH 2 fLlow eLlow ["_law_top","_law_bottom"] (bM K 2 eB)):aC P w K mg base bH 3 f fd ["_law_one","_law_other"] (bM K 2 jP):=by
  have nd:=qB.nd
  exact h.fn qB rfl rfl (fun cdv A outer s H E hr=>(@aj _ _ _ _ _ (@au _ _ _ _ _ (@aK _ _ _ _ _ _ _ _ _ _ _ _ _ _ _ hLlow GLlow (hr.mono (by decide)) ((@bP _ _ _ _ _ _ _ rfl (@aH _ _ _ _ _ _ _ rfl (¬0) ab (fun _ _=>rfl)) (@aH _ _ _ _ _ _ _ rfl (¬1) ab (fun _ _=>rfl)))∘((@bP _ _ _ _ _ _ _ rfl (@aH _ _ _ _ _ _ _ rfl (¬0) ab (fun _ _=>rfl)) (@aH _ _ _ _ _ _ _ rfl (¬1) ab (fun _ _=>rfl)))∘ac)) (by rfl) (by decide) (by rfl) (by rfl)))))
noncomputable def vf:FS:=(aT (ao qX (ao a' (ao bz (ae 0) (vC (.int 0))) (ao bz (ae 1) (vC (.int 1)))) (ao a' (ao bz (ae 1) (vC (.int 0))) (ao bz (ae 0) (vC (.int 1))))))
noncomputable def md:FM:=gw 2 0 [] vf
theorem tD:ay ["_law_one","_law_other"] ["_law_one","_law_other"] (am mE):=⟨rfl,rfl,rfl,by decide+kernel,rfl,by decide+kernel,by decide+kernel⟩
theorem yV(h:aX K mg "_law_less" mE f fd ["_law_one","_law_other"])(T:ik mg):aC P w K mg base bH 1 f fd ["_law_one","_law_other"] (bM K 2 md):=by
  have nd:=tD.nd
  exact h.fn tD rfl rfl (fun cdv A outer s H E hr=>(@aj _ _ _ _ _ (@au _ _ _ _ _ (@gB _ _ _ _ _ _ _ _ _ (@pT _ _) (@bP _ _ _ _ _ _ _ rfl (@aH _ _ _ _ _ _ _ rfl (¬0) ab (fun _ _=>rfl)) (@aH _ _ _ _ _ _ _ rfl (¬1) ab (fun _ _=>rfl))) (@bP _ _ _ _ _ _ _ rfl (@aH _ _ _ _ _ _ _ rfl (¬1) ab (fun _ _=>rfl)) (@aH _ _ _ _ _ _ _ rfl (¬0) ab (fun _ _=>rfl))) (aO _)))))
noncomputable def vh:FS:=(aB (gD (aJ (ae 1))
    (aT (ao Dc (ae 0) (vC (.bool true))))
    cG)
    (aT (ao Dc (ae 0) (vC (.bool false)))))
noncomputable def mf:FM:=gw 2 0 (([]++[])++[]) vh
theorem tH:ay ["_law_found","_law_due"] ["_law_found","_law_due"] (am mG):=⟨rfl,rfl,rfl,by decide+kernel,rfl,by decide+kernel,by decide+kernel⟩
theorem yY(h:aX K mg "_law_says" mG f fd ["_law_found","_law_due"])(T:ik mg):aC P w K mg base bH 1 f fd ["_law_found","_law_due"] (bM K 2 mf):=by
  have nd:=tH.nd
  exact h.fn tH rfl rfl (fun cdv A outer s H E hr=>(@af _ _ _ _ _ _ _ _ (@cn _ _ _ _ _ _ _ _ _ _ _ (@dz _ _ _ _ (¬1) (by intro _;rfl))
      (@aj _ _ _ _ _ (@au _ _ _ _ _ (@gB _ _ _ _ _ _ _ _ _ (@C6 _ _) (¬0) (@cA _ _ _ _ _) (aO _))))
      (@aU _ _))
      (@aj _ _ _ _ _ (@au _ _ _ _ _ (@gB _ _ _ _ _ _ _ _ _ (@C6 _ _) (¬0) (@cA _ _ _ _ _) (aO _))))))
noncomputable def fW:FS:=(aB (gD (aJ (ao (bW false) (ae 1) (vC (.int 0))))
    (aT (ao bz (cH (aa (aR (aa (vC (.int 1)) (aa (vC (.int 2)) ag))) (aa (aR (aa (vC (.int 1)) (aa (vC (.int 3)) ag))) (aa (aR (aa (vC (.int 2)) (aa (vC (.int 3)) ag))) (aa (aR (aa (vC (.int 1)) (aa (vC (.int 1)) ag))) (aa (aR (aa (vC (.int 0)) (aa (vC (.int 1)) ag))) (aa (aR (aa (vC (.int 3)) (aa (vC (.int 4)) ag))) ag))))))) (ao be (ae 0) (vC (.int 6)))))
    cG)
    (aB (gD (aJ (ao (bW false) (ae 1) (vC (.int 1))))
    (aB (aZ 2 (ao bu (vC (.int 2)) (ao be (ae 0) (vC (.int 9)))))
    (aT (bU 2 eB (aa (ao bu (vC (.int 1)) (ao be (ao eu (ae 0) (vC (.int 9))) (ao fM (ae 2) (vC (.int 1))))) (aa (ae 2) ag)))))
    cG)
    (aB (gD (aJ (ao (bW false) (ae 1) (vC (.int 2))))
    (aB (aZ 2 (ao bu (vC (.int 1)) (ao be (ae 0) (vC (.int 100)))))
    (aT (bU 2 eB (aa (ao be (ao eu (ae 0) (vC (.int 100))) (ao bu (ae 2) (vC (.int 1)))) (aa (ae 2) ag)))))
    cG)
    (aT (aR (aa (vC (.int 1)) (aa (vC (.int 1)) ag)))))))
noncomputable def bE:FM:=gw 2 1 (([]++[])++((([2]++[])++[])++((([2]++[])++[])++[]))) fW
theorem nQ:ay ["_law_number","_law_kind","_law_bottom"] ["_law_number","_law_kind"] (am fv):=⟨rfl,rfl,rfl,by decide+kernel,rfl,by decide+kernel,by decide+kernel⟩
theorem uD(h:aX K mg "_law_chance" fv f fd ["_law_number","_law_kind"])(T:ik mg){fLlow:Addr}{eLlow:FuncData}(hLlow:aX K mg "_law_low" jZ fLlow eLlow ["_law_top","_law_bottom"])(GLlow:aC P w K mg base bH 2 fLlow eLlow ["_law_top","_law_bottom"] (bM K 2 eB)):aC P w K mg base bH 3 f fd ["_law_number","_law_kind"] (bM K 2 bE):=by
  have nd:=nQ.nd
  exact h.fn nQ rfl rfl (fun cdv A outer s H E hr=>(@af _ _ _ _ _ _ _ _ (@cn _ _ _ _ _ _ _ _ _ _ _ (@bj _ _ _ _ _ _ _ _ _ (@jB _ _ _ rfl hr) (¬1) ab (aO _))
      (@aj _ _ _ _ _ (@au _ _ _ _ _ (@aH _ _ _ _ _ _ _ rfl (@bg _ _ _ _ _ ((@aq _ _ _ _ _ _ (ab∘(ab∘ac)))∘((@aq _ _ _ _ _ _ (ab∘(ab∘ac)))∘((@aq _ _ _ _ _ _ (ab∘(ab∘ac)))∘((@aq _ _ _ _ _ _ (ab∘(ab∘ac)))∘((@aq _ _ _ _ _ _ (ab∘(ab∘ac)))∘((@aq _ _ _ _ _ _ (ab∘(ab∘ac)))∘ac))))))) (@a7 _ _ _ _ _ _ _ (¬0) ab) (fun _ _=>rfl))))
      (@aU _ _))
      (@af _ _ _ _ _ _ _ _ (@cn _ _ _ _ _ _ _ _ _ _ _ (@bj _ _ _ _ _ _ _ _ _ (@jB _ _ _ rfl hr) (¬1) ab (aO _))
      (@af _ _ _ _ _ _ _ _ (@aA _ _ _ _ _ 2 _ _ nd rfl (Or.inl rfl) (@bY _ _ _ _ _ _ _ rfl ab (@a7 _ _ _ _ _ _ _ (¬0) ab)) (by rfl) (by trivial))
      (@aj _ _ _ _ _ (@au _ _ _ _ _ (@aK _ _ _ _ _ _ _ _ _ _ _ _ _ _ _ hLlow GLlow (hr.mono (by decide)) ((@bY _ _ _ _ _ _ _ rfl ab (@a7 _ _ _ _ _ _ _ (@fP _ _ _ _ _ _ _ (¬0) ab) (@qj _ _ _ _ _ _ _ (¬2) ab)))∘((¬2)∘ac)) (by rfl) (by decide) (by rfl) (by rfl)))))
      (@aU _ _))
      (@af _ _ _ _ _ _ _ _ (@cn _ _ _ _ _ _ _ _ _ _ _ (@bj _ _ _ _ _ _ _ _ _ (@jB _ _ _ rfl hr) (¬1) ab (aO _))
      (@af _ _ _ _ _ _ _ _ (@aA _ _ _ _ _ 2 _ _ nd rfl (Or.inl rfl) (@bY _ _ _ _ _ _ _ rfl ab (@a7 _ _ _ _ _ _ _ (¬0) ab)) (by rfl) (by trivial))
      (@aj _ _ _ _ _ (@au _ _ _ _ _ (@aK _ _ _ _ _ _ _ _ _ _ _ _ _ _ _ hLlow GLlow (hr.mono (by decide)) ((@a7 _ _ _ _ _ _ _ (@fP _ _ _ _ _ _ _ (¬0) ab) (@bY _ _ _ _ _ _ _ rfl (¬2) ab))∘((¬2)∘ac)) (by rfl) (by decide) (by rfl) (by rfl)))))
      (@aU _ _))
      (@aj _ _ _ _ _ (@au _ _ _ _ _ (@aq _ _ _ _ _ _ (ab∘(ab∘ac)))))))))
noncomputable def sM:FS:=(aT (ao bz (cH (aa (ao be (ae 0) (vC (.int 7))) (aa (ao bu (vC (.int 5)) (ao be (ae 0) (vC (.int 2)))) (aa (ao be (ae 0) (vC (.int 1001))) (aa (ao fM (vC (.int 1000)) (ao be (ae 0) (vC (.int 3)))) ag))))) (ao be (ae 1) (vC (.int 4)))))
noncomputable def jQ:FM:=gw 2 0 [] sM
theorem qC:ay ["_law_number","_law_kind"] ["_law_number","_law_kind"] (am j3):=⟨rfl,rfl,rfl,by decide+kernel,rfl,by decide+kernel,by decide+kernel⟩
theorem wO(h:aX K mg "_law_worth" j3 f fd ["_law_number","_law_kind"])(T:ik mg):aC P w K mg base bH 1 f fd ["_law_number","_law_kind"] (bM K 2 jQ):=by
  have nd:=qC.nd
  exact h.fn qC rfl rfl (fun cdv A outer s H E hr=>(@aj _ _ _ _ _ (@au _ _ _ _ _ (@aH _ _ _ _ _ _ _ rfl (@bg _ _ _ _ _ ((@a7 _ _ _ _ _ _ _ (¬0) ab)∘((@bY _ _ _ _ _ _ _ rfl ab (@a7 _ _ _ _ _ _ _ (¬0) ab))∘((@a7 _ _ _ _ _ _ _ (¬0) ab)∘((@qj _ _ _ _ _ _ _ ab (@a7 _ _ _ _ _ _ _ (¬0) ab))∘ac))))) (@a7 _ _ _ _ _ _ _ (¬1) ab) (fun _ _=>rfl)))))
noncomputable def l7:FI:=(cS (aa (ae 2) ag))
noncomputable def fZ:FS:=(aB (aZ 8 (bU 1 bf (aa (ae 0) ag)))
    (aB (aZ 9 (ao bz (cH (aa (ao be (ae 8) (ae 1)) (aa (vC (.int 0)) (aa (ao be (ae 7) (ae 1)) (aa (ao be (ae 8) (ae 1)) (aa (ao be (ae 8) (vC (.int 2))) (aa (ao be (ae 8) (ae 1)) ag))))))) (ae 3)))
    (aB (aZ 10 (ao be (ao bu (ao bu (ae 9) (vC (.int 1))) (ao be (ao eu (ae 8) (vC (.int 12))) (ao fM (ae 1) (vC (.int 1))))) (ae 1)))
    (aB (gD (aJ (ao (bW false) (ae 3) (vC (.int 4))))
    (qp (aR (aa (vC (.int 0)) (aa (vC (.int 1)) ag))) (bX (av (ah 9) (av (ah 10) bO))))
    cG)
    (aB (aZ 11 (bU 1 bf (aa (ae 0) ag)))
    (aB (aZ 12 (aR (aa (aW (g2 wa) (aa (ae 9) (aa (ae 10) ag))) (aa (aW (g2 rE) (aa (ae 9) (aa (ae 10) ag))) ag))))
    (gC (dZ cv (ae 6) (aa (ao bu (ae 12) (aR (aa (bU 2 bE (aa (ae 11) (aa (ae 4) ag))) (aa (bU 2 jQ (aa (ao eu (ae 11) (vC (.int 10007))) (aa (ae 5) ag))) ag)))) ag)))))))))
noncomputable def vi:FS:=(aB (aZ 3 (ao be (bU 1 bf (aa (ae 0) ag)) (vC (.int 6))))
    (aB (aZ 4 (ao be (bU 1 bf (aa (ae 0) ag)) (vC (.int 4))))
    (aB (aZ 5 (ao be (bU 1 bf (aa (ae 0) ag)) (vC (.int 4))))
    (aB (aZ 6 (cH ag))
    (aB (dG ([7]++([8]++([9]++([10]++((([9]++([10]++[]))++[])++([11]++([12]++[]))))))) l7 (ah 7) fZ)
    (aT (aW (g1 eF) (aa (ae 6) ag))))))))
noncomputable def mh:FM:=gw 3 10 ([3]++([4]++([5]++([6]++(([7]++([8]++([9]++([10]++((([9]++([10]++[]))++[])++([11]++([12]++[])))))))++[]))))) vi
theorem tI:ay ["_law_drawn","_law_things","_law_many","_law_shape","_law_odds","_law_worths","_law_found","_law_k","_law_number","_law_one","_law_other","_law_cell","_law_ends"] ["_law_drawn","_law_things","_law_many"] (am mH):=⟨rfl,rfl,rfl,by decide+kernel,rfl,by decide+kernel,by decide+kernel⟩
theorem yZ(h:aX K mg "_law_ties" mH f fd ["_law_drawn","_law_things","_law_many"])(T:ik mg){fLnext:Addr}{eLnext:FuncData}(hLnext:aX K mg "_law_next" iI fLnext eLnext ["_law_drawn"])(GLnext:aC P w K mg base bH 1 fLnext eLnext ["_law_drawn"] (bM K 1 bf)){fLchance:Addr}{eLchance:FuncData}(hLchance:aX K mg "_law_chance" fv fLchance eLchance ["_law_number","_law_kind"])(GLchance:aC P w K mg base bH 3 fLchance eLchance ["_law_number","_law_kind"] (bM K 2 bE)){fLworth:Addr}{eLworth:FuncData}(hLworth:aX K mg "_law_worth" j3 fLworth eLworth ["_law_number","_law_kind"])(GLworth:aC P w K mg base bH 1 fLworth eLworth ["_law_number","_law_kind"] (bM K 2 jQ)):aC P w K mg base bH 4 f fd ["_law_drawn","_law_things","_law_many"] (bM K 3 mh):=by
  have nd:=tI.nd
  exact h.fn tI rfl rfl (fun cdv A outer s H E hr=>(@af _ _ _ _ _ _ _ _ (@aA _ _ _ _ _ 3 _ _ nd rfl (Or.inl rfl) (@a7 _ _ _ _ _ _ _ (@aK _ _ _ _ _ _ _ _ _ _ _ _ _ _ _ hLnext GLnext (hr.mono (by decide)) ((¬0)∘ac) (by rfl) (by decide) (by rfl) (by rfl)) ab) (by rfl) (by trivial))
      (@af _ _ _ _ _ _ _ _ (@aA _ _ _ _ _ 4 _ _ nd rfl (Or.inl rfl) (@a7 _ _ _ _ _ _ _ (@aK _ _ _ _ _ _ _ _ _ _ _ _ _ _ _ hLnext GLnext (hr.mono (by decide)) ((¬0)∘ac) (by rfl) (by decide) (by rfl) (by rfl)) ab) (by rfl) (by trivial))
      (@af _ _ _ _ _ _ _ _ (@aA _ _ _ _ _ 5 _ _ nd rfl (Or.inl rfl) (@a7 _ _ _ _ _ _ _ (@aK _ _ _ _ _ _ _ _ _ _ _ _ _ _ _ hLnext GLnext (hr.mono (by decide)) ((¬0)∘ac) (by rfl) (by decide) (by rfl) (by rfl)) ab) (by rfl) (by trivial))
      (@af _ _ _ _ _ _ _ _ (@aA _ _ _ _ _ 6 _ _ nd rfl (Or.inl rfl) (@bg _ _ _ _ _ ac) (by rfl) (by trivial))
      (@af _ _ _ _ _ _ _ _ (@dy _ _ _ _ _ _ _ _ _ _ _ PassesOwn.never rfl (@cV _ _ _ _ _ _ _ rfl T.b_range ((¬2)∘ac) (by rfl)) (@aD _ _ _ 7 _ nd rfl (Or.inl rfl) (by trivial))
      (@af _ _ _ _ _ _ _ _ (@aA _ _ _ _ _ 8 _ _ nd rfl (Or.inl rfl) (@aK _ _ _ _ _ _ _ _ _ _ _ _ _ _ _ hLnext GLnext (hr.mono (by decide)) ((¬0)∘ac) (by rfl) (by decide) (by rfl) (by rfl)) (by rfl) (by trivial))
      (@af _ _ _ _ _ _ _ _ (@aA _ _ _ _ _ 9 _ _ nd rfl (Or.inl rfl) (@aH _ _ _ _ _ _ _ rfl (@bg _ _ _ _ _ ((@a7 _ _ _ _ _ _ _ (¬8) (¬1))∘(ab∘((@a7 _ _ _ _ _ _ _ (¬7) (¬1))∘((@a7 _ _ _ _ _ _ _ (¬8) (¬1))∘((@a7 _ _ _ _ _ _ _ (¬8) ab)∘((@a7 _ _ _ _ _ _ _ (¬8) (¬1))∘ac))))))) (¬3) (fun _ _=>rfl)) (by rfl) (by trivial))
      (@af _ _ _ _ _ _ _ _ (@aA _ _ _ _ _ 10 _ _ nd rfl (Or.inl rfl) (@a7 _ _ _ _ _ _ _ (@bY _ _ _ _ _ _ _ rfl (@bY _ _ _ _ _ _ _ rfl (¬9) ab) (@a7 _ _ _ _ _ _ _ (@fP _ _ _ _ _ _ _ (¬8) ab) (@qj _ _ _ _ _ _ _ (¬1) ab))) (¬1)) (by rfl) (by trivial))
      (@af _ _ _ _ _ _ _ _ (@cn _ _ _ _ _ _ _ _ _ _ _ (@bj _ _ _ _ _ _ _ _ _ (@jB _ _ _ rfl hr) (¬3) ab (aO _))
      (@aj _ _ _ _ _ (@rS _ _ _ _ _ _ _ _ (@aq _ _ _ _ _ _ (ab∘(ab∘ac))) (@g_ _ _ _ _ _ _ _ _ rfl rfl (@bh _ _ _ _ _ _ _ _ (@aD _ _ _ 9 _ nd rfl (Or.inl rfl) (by trivial)) (@bh _ _ _ _ _ _ _ _ (@aD _ _ _ 10 _ nd rfl (Or.inl rfl) (by trivial)) (@eO _ _) (by rfl)) (by rfl)) (bR (bR gW)) (by rfl) (by rfl)) (by rfl) (by rfl) (by rfl)))
      (@aU _ _))
      (@af _ _ _ _ _ _ _ _ (@aA _ _ _ _ _ 11 _ _ nd rfl (Or.inl rfl) (@aK _ _ _ _ _ _ _ _ _ _ _ _ _ _ _ hLnext GLnext (hr.mono (by decide)) ((¬0)∘ac) (by rfl) (by decide) (by rfl) (by rfl)) (by rfl) (by trivial))
      (@af _ _ _ _ _ _ _ _ (@aA _ _ _ _ _ 12 _ _ nd rfl (Or.inl rfl) (@aq _ _ _ _ _ _ ((@bJ _ _ _ _ _ _ _ _ _ (@b_min _ _ rfl) (by rfl) T.b_min ((¬9)∘((¬10)∘ac)) (by decide) (by decide) (by rfl) (by rfl))∘((@bJ _ _ _ _ _ _ _ _ _ (@b_max _ _ rfl) (by rfl) T.b_max ((¬9)∘((¬10)∘ac)) (by decide) (by decide) (by rfl) (by rfl))∘ac))) (by rfl) (by trivial))
      (@aj _ _ _ _ _ (@eP _ _ _ _ _ (@dP _ _ _ _ _ _ _ _ _ rfl (¬6) ((@bY _ _ _ _ _ _ _ rfl (¬12) (@aq _ _ _ _ _ _ ((@aK _ _ _ _ _ _ _ _ _ _ _ _ _ _ _ hLchance GLchance (hr.mono (by decide)) ((¬11)∘((¬4)∘ac)) (by rfl) (by decide) (by rfl) (by rfl))∘((@aK _ _ _ _ _ _ _ _ _ _ _ _ _ _ _ hLworth GLworth (hr.mono (by decide)) ((@fP _ _ _ _ _ _ _ (¬11) ab)∘((¬5)∘ac)) (by rfl) (by decide) (by rfl) (by rfl))∘ac))))∘ac) (by rfl) (by rfl) (by rfl) (by rfl) (by rfl)) (by rfl))))))))) (by intro _;rfl))
      (@aj _ _ _ _ _ (@au _ _ _ _ _ (@bJ _ _ _ _ _ _ _ _ _ (@b_tuple _ _ rfl) (by rfl) T.b_tuple ((¬6)∘ac) (by decide) (by decide) (by rfl) (by rfl))))))))))
noncomputable def oW:FI:=(cS (aa (ae 3) ag))
noncomputable def lC:FS:=(gC (dZ cv (ae 7) (aa (ao bz (cH (aa (vC (.int 20)) (aa (ao bu (vC (.int 1)) (ao be (bU 1 bf (aa (ae 0) ag)) (vC (.int 3)))) (aa (ao be (bU 1 bf (aa (ae 0) ag)) (vC (.int 21))) ag)))) (ae 6)) ag)))
noncomputable def Am:FS:=(aB (aZ 3 (ao be (bU 1 bf (aa (ae 0) ag)) (ao bu (ae 1) (vC (.int 1)))))
    (aB (aZ 4 (ao a' (ao be (bU 1 bf (aa (ae 0) ag)) (ao bu (ae 2) (vC (.int 1)))) (aW (g1 p6) (aa (ao sU (ae 3) (vC (.int 1))) ag))))
    (aB (aZ 5 (bU 3 mh (aa (ae 0) (aa (aW (g2 rE) (aa (vC (.int 2)) (aa (ae 3) ag))) (aa (ae 4) ag)))))
    (aB (aZ 6 (ao be (bU 1 bf (aa (ae 0) ag)) (vC (.int 3))))
    (aB (aZ 7 (cH ag))
    (aB (dG ([8]++[]) oW (ah 8) lC)
    (aB (aZ 9 (ao bz (cH (aa (vC (.int 40)) (aa (ao bu (vC (.int 1)) (ao be (bU 1 bf (aa (ae 0) ag)) (aW (g2 rE) (aa (vC (.int 1)) (aa (ae 4) ag))))) (aa (ao be (bU 1 bf (aa (ae 0) ag)) (vC (.int 41))) ag)))) (ao be (bU 1 bf (aa (ae 0) ag)) (vC (.int 3)))))
    (aT (aR (aa (ae 3) (aa (ae 5) (aa (aW (g1 eF) (aa (ae 7) ag)) (aa (ae 9) ag)))))))))))))
noncomputable def qa:FM:=gw 3 7 ([3]++([4]++([5]++([6]++([7]++(([8]++[])++([9]++[]))))))) Am
theorem xR:ay ["_law_drawn","_law_most","_law_ties_here","_law_things","_law_many","_law_rows","_law_way","_law_patience","_law_k","_law_asks"] ["_law_drawn","_law_most","_law_ties_here"] (am qr):=⟨rfl,rfl,rfl,by decide+kernel,rfl,by decide+kernel,by decide+kernel⟩
theorem Br(h:aX K mg "_law_web" qr f fd ["_law_drawn","_law_most","_law_ties_here"])(T:ik mg){fLties:Addr}{eLties:FuncData}(hLties:aX K mg "_law_ties" mH fLties eLties ["_law_drawn","_law_things","_law_many"])(GLties:aC P w K mg base bH 4 fLties eLties ["_law_drawn","_law_things","_law_many"] (bM K 3 mh)){fLnext:Addr}{eLnext:FuncData}(hLnext:aX K mg "_law_next" iI fLnext eLnext ["_law_drawn"])(GLnext:aC P w K mg base bH 1 fLnext eLnext ["_law_drawn"] (bM K 1 bf)):aC P w K mg base bH 5 f fd ["_law_drawn","_law_most","_law_ties_here"] (bM K 3 qa):=by
  have nd:=xR.nd
  exact h.fn xR rfl rfl (fun cdv A outer s H E hr=>(@af _ _ _ _ _ _ _ _ (@aA _ _ _ _ _ 3 _ _ nd rfl (Or.inl rfl) (@a7 _ _ _ _ _ _ _ (@aK _ _ _ _ _ _ _ _ _ _ _ _ _ _ _ hLnext GLnext (hr.mono (by decide)) ((¬0)∘ac) (by rfl) (by decide) (by rfl) (by rfl)) (@bY _ _ _ _ _ _ _ rfl (¬1) ab)) (by rfl) (by trivial))
      (@af _ _ _ _ _ _ _ _ (@aA _ _ _ _ _ 4 _ _ nd rfl (Or.inl rfl) (@bP _ _ _ _ _ _ _ rfl (@a7 _ _ _ _ _ _ _ (@aK _ _ _ _ _ _ _ _ _ _ _ _ _ _ _ hLnext GLnext (hr.mono (by decide)) ((¬0)∘ac) (by rfl) (by decide) (by rfl) (by rfl)) (@bY _ _ _ _ _ _ _ rfl (¬2) ab)) (@bJ _ _ _ _ _ _ _ _ _ (@b_int _ _) (by rfl) T.b_int ((@gB _ _ _ _ _ _ _ _ _ (@vw _ _) (¬3) ab (aO _))∘ac) (by decide) (by decide) (by rfl) (by rfl))) (by rfl) (by trivial))
      (@af _ _ _ _ _ _ _ _ (@aA _ _ _ _ _ 5 _ _ nd rfl (Or.inl rfl) (@aK _ _ _ _ _ _ _ _ _ _ _ _ _ _ _ hLties GLties (hr.mono (by decide)) ((¬0)∘((@bJ _ _ _ _ _ _ _ _ _ (@b_max _ _ rfl) (by rfl) T.b_max (ab∘((¬3)∘ac)) (by decide) (by decide) (by rfl) (by rfl))∘((¬4)∘ac))) (by rfl) (by decide) (by rfl) (by rfl)) (by rfl) (by trivial))
      (@af _ _ _ _ _ _ _ _ (@aA _ _ _ _ _ 6 _ _ nd rfl (Or.inl rfl) (@a7 _ _ _ _ _ _ _ (@aK _ _ _ _ _ _ _ _ _ _ _ _ _ _ _ hLnext GLnext (hr.mono (by decide)) ((¬0)∘ac) (by rfl) (by decide) (by rfl) (by rfl)) ab) (by rfl) (by trivial))
      (@af _ _ _ _ _ _ _ _ (@aA _ _ _ _ _ 7 _ _ nd rfl (Or.inl rfl) (@bg _ _ _ _ _ ac) (by rfl) (by trivial))
      (@af _ _ _ _ _ _ _ _ (@dy _ _ _ _ _ _ _ _ _ _ _ PassesOwn.never rfl (@cV _ _ _ _ _ _ _ rfl T.b_range ((¬3)∘ac) (by rfl)) (@aD _ _ _ 8 _ nd rfl (Or.inl rfl) (by trivial))
      (@aj _ _ _ _ _ (@eP _ _ _ _ _ (@dP _ _ _ _ _ _ _ _ _ rfl (¬7) ((@aH _ _ _ _ _ _ _ rfl (@bg _ _ _ _ _ (ab∘((@bY _ _ _ _ _ _ _ rfl ab (@a7 _ _ _ _ _ _ _ (@aK _ _ _ _ _ _ _ _ _ _ _ _ _ _ _ hLnext GLnext (hr.mono (by decide)) ((¬0)∘ac) (by rfl) (by decide) (by rfl) (by rfl)) ab))∘((@a7 _ _ _ _ _ _ _ (@aK _ _ _ _ _ _ _ _ _ _ _ _ _ _ _ hLnext GLnext (hr.mono (by decide)) ((¬0)∘ac) (by rfl) (by decide) (by rfl) (by rfl)) ab)∘ac)))) (¬6) (fun _ _=>rfl))∘ac) (by rfl) (by rfl) (by rfl) (by rfl) (by rfl)) (by rfl))) (by intro _;rfl))
      (@af _ _ _ _ _ _ _ _ (@aA _ _ _ _ _ 9 _ _ nd rfl (Or.inl rfl) (@aH _ _ _ _ _ _ _ rfl (@bg _ _ _ _ _ (ab∘((@bY _ _ _ _ _ _ _ rfl ab (@a7 _ _ _ _ _ _ _ (@aK _ _ _ _ _ _ _ _ _ _ _ _ _ _ _ hLnext GLnext (hr.mono (by decide)) ((¬0)∘ac) (by rfl) (by decide) (by rfl) (by rfl)) (@bJ _ _ _ _ _ _ _ _ _ (@b_max _ _ rfl) (by rfl) T.b_max (ab∘((¬4)∘ac)) (by decide) (by decide) (by rfl) (by rfl))))∘((@a7 _ _ _ _ _ _ _ (@aK _ _ _ _ _ _ _ _ _ _ _ _ _ _ _ hLnext GLnext (hr.mono (by decide)) ((¬0)∘ac) (by rfl) (by decide) (by rfl) (by rfl)) ab)∘ac)))) (@a7 _ _ _ _ _ _ _ (@aK _ _ _ _ _ _ _ _ _ _ _ _ _ _ _ hLnext GLnext (hr.mono (by decide)) ((¬0)∘ac) (by rfl) (by decide) (by rfl) (by rfl)) ab) (fun _ _=>rfl)) (by rfl) (by trivial))
      (@aj _ _ _ _ _ (@au _ _ _ _ _ (@aq _ _ _ _ _ _ ((¬3)∘((¬5)∘((@bJ _ _ _ _ _ _ _ _ _ (@b_tuple _ _ rfl) (by rfl) T.b_tuple ((¬7)∘ac) (by decide) (by decide) (by rfl) (by rfl))∘((¬9)∘ac)))))))))))))))
noncomputable def Al:FS:=(aB (aZ 1 (cH (aa (vC .none) (aa (vC (.bool true)) (aa (vC (.bool false)) (aa (vC (.int 0)) (aa (vC (.int 1)) (aa (pI ul (vC (.int 1))) (aa (vC (.int 5)) (aa (vC (.str ("":Str))) (aa (vC (.str ("a":Str))) (aa (vC (.str ("0":Str))) (aa (aR ag) (aa (aR (aa (vC (.int 0)) ag)) (aa (aR (aa (vC (.int 0)) (aa (vC (.int 1)) ag))) (aa (aR (aa (aR ag) (aa (aR ag) ag))) (aa (cH ag) (aa (cH (aa (vC (.int 0)) ag)) (aa (lh []) (aa (lh [(0,1)]) ag))))))))))))))))))))
    (aB (aZ 1 (ao bu (ae 1) (cH (aa (aR (aa (vC .none) ag)) (aa (aR (aa (aR ag) ag)) (aa (cH (aa (aR ag) ag)) (aa (aR (aa (vC (.bool true)) (aa (vC (.bool false)) ag))) (aa (aR (aa (aR (aa (vC (.int 0)) (aa (vC (.int 1)) ag))) (aa (aR (aa (vC (.int 1)) (aa (vC (.int 2)) ag))) ag))) (aa (aR (aa (aR (aa (aR ag) (aa (aR ag) ag))) ag)) (aa (aR (aa (vC (.str ("a":Str))) (aa (vC (.int 1)) ag))) (aa (aR (aa (aR (aa (vC (.int 0)) (aa (vC (.int 1)) ag))) ag)) (aa (ao oT (vC (.int 10)) (vC (.int 30))) ag))))))))))))
    (aT (ao bz (ae 1) (ao be (ae 0) (aW (g1 ip) (aa (ae 1) ag)))))))
noncomputable def lg:FM:=gw 1 1 ([1]++([1]++[])) Al
theorem xP:ay ["_law_number","_law_odd_here"] ["_law_number"] (am nP):=⟨rfl,rfl,rfl,by decide+kernel,rfl,by decide+kernel,by decide+kernel⟩
theorem Bp(h:aX K mg "_law_odd" nP f fd ["_law_number"])(T:ik mg):aC P w K mg base bH 1 f fd ["_law_number"] (bM K 1 lg):=by
  have nd:=xP.nd
  exact h.fn xP rfl rfl (fun cdv A outer s H E hr=>(@af _ _ _ _ _ _ _ _ (@aA _ _ _ _ _ 1 _ _ nd rfl (Or.inl rfl) (@bg _ _ _ _ _ ((@pq _ _ _ _)∘((@cA _ _ _ _ _)∘((@cA _ _ _ _ _)∘(ab∘(ab∘((@xo _ _ _ _ _ ab)∘(ab∘((@my _ _ _ _ _)∘((@my _ _ _ _ _)∘((@my _ _ _ _ _)∘((@aq _ _ _ _ _ _ ac)∘((@aq _ _ _ _ _ _ (ab∘ac))∘((@aq _ _ _ _ _ _ (ab∘(ab∘ac)))∘((@aq _ _ _ _ _ _ ((@aq _ _ _ _ _ _ ac)∘((@aq _ _ _ _ _ _ ac)∘ac)))∘((@bg _ _ _ _ _ ac)∘((@bg _ _ _ _ _ (ab∘ac))∘((@qk _ _ _)∘((@xt _ _ _ _ _ _ _ _ _)∘ac))))))))))))))))))) (by rfl) (by trivial))
      (@af _ _ _ _ _ _ _ _ (@aA _ _ _ _ _ 1 _ _ nd rfl (Or.inl rfl) (@bY _ _ _ _ _ _ _ rfl (¬1) (@bg _ _ _ _ _ ((@aq _ _ _ _ _ _ ((@pq _ _ _ _)∘ac))∘((@aq _ _ _ _ _ _ ((@aq _ _ _ _ _ _ ac)∘ac))∘((@bg _ _ _ _ _ ((@aq _ _ _ _ _ _ ac)∘ac))∘((@aq _ _ _ _ _ _ ((@cA _ _ _ _ _)∘((@cA _ _ _ _ _)∘ac)))∘((@aq _ _ _ _ _ _ ((@aq _ _ _ _ _ _ (ab∘(ab∘ac)))∘((@aq _ _ _ _ _ _ (ab∘(ab∘ac)))∘ac)))∘((@aq _ _ _ _ _ _ ((@aq _ _ _ _ _ _ ((@aq _ _ _ _ _ _ ac)∘((@aq _ _ _ _ _ _ ac)∘ac)))∘ac))∘((@aq _ _ _ _ _ _ ((@my _ _ _ _ _)∘(ab∘ac)))∘((@aq _ _ _ _ _ _ ((@aq _ _ _ _ _ _ (ab∘(ab∘ac)))∘ac))∘((@xq _ _ _ _ _ _ _ ab ab)∘ac))))))))))) (by rfl) (by trivial))
      (@aj _ _ _ _ _ (@au _ _ _ _ _ (@aH _ _ _ _ _ _ _ rfl (¬1) (@a7 _ _ _ _ _ _ _ (¬0) (@bJ _ _ _ _ _ _ _ _ _ (@b_len _ _ rfl) (by rfl) T.b_len ((¬1)∘ac) (by decide) (by decide) (by rfl) (by rfl))) (fun _ _=>rfl)))))))
noncomputable def h_:FI:=(eM (ae 0))
noncomputable def bS:FS:=(gD (sk (jt (aJ (pI (jI "int") (ae 1)))) (aJ (pI (jI "bool") (ae 1))))
    (aT (vC (.bool false)))
    cG)
noncomputable def cB:FS:=(aB (gD (sk (jt (aJ (pI (jI "tuple") (ae 0)))) (aJ (ao (bW true) (aW (g1 ip) (aa (ae 0) ag)) (vC (.int 2)))))
    (aT (vC (.bool false)))
    cG)
    (aB (dG ([1]++([]++[])) h_ (ah 1) bS)
    (aT (i9 (ao sU (ao bz (ae 0) (vC (.int 1))) (vC (.int 0))) (ao (bW false) (bU 2 ma (aa (ao bz (ae 0) (vC (.int 0))) (aa (ao bz (ae 0) (vC (.int 1))) ag))) (vC (.int 1)))))))
noncomputable def bv:FM:=gw 1 1 (([]++[])++(([1]++([]++[]))++[])) cB
theorem iK:ay ["_law_thing","_law_part"] ["_law_thing"] (am de):=⟨rfl,rfl,rfl,by decide+kernel,rfl,by decide+kernel,by decide+kernel⟩
theorem mq(h:aX K mg "_law_is_fraction" de f fd ["_law_thing"])(T:ik mg){fLgcd:Addr}{eLgcd:FuncData}(hLgcd:aX K mg "_law_gcd" nO fLgcd eLgcd ["_law_one","_law_other"])(GLgcd:aC P w K mg base bH 1 fLgcd eLgcd ["_law_one","_law_other"] (bM K 2 ma)):aC P w K mg base bH 2 f fd ["_law_thing"] (bM K 1 bv):=by
  have nd:=iK.nd
  exact h.fn iK rfl rfl (fun cdv A outer s H E hr=>(@af _ _ _ _ _ _ _ _ (@cn _ _ _ _ _ _ _ _ _ _ _ (@pv _ _ _ _ (@jW _ _ _ _ _ _ _ _ (@hJ _ _ _ _ _ (@dz _ _ _ _ (@mw _ _ _ _ _ _ _ _ "tuple" rfl (by decide) rfl T.b_isinstance rfl T.b_tuple PyProof.Rows.boot_tuple (by decide) (by decide) (¬0) (by rfl) (by rfl)) (by intro _;rfl))) (@jp _ _ _ _ _ (@bj _ _ _ _ _ _ _ _ _ (@vx _ _ _ rfl hr) (@bJ _ _ _ _ _ _ _ _ _ (@b_len _ _ rfl) (by rfl) T.b_len ((¬0)∘ac) (by decide) (by decide) (by rfl) (by rfl)) ab (aO _)))))
      (@aj _ _ _ _ _ (@au _ _ _ _ _ (@cA _ _ _ _ _)))
      (@aU _ _))
      (@af _ _ _ _ _ _ _ _ (@dy _ _ _ _ _ _ _ _ _ _ _ PassesOwn.never rfl (@cX _ _ _ _ _ rfl (¬0)) (@aD _ _ _ 1 _ nd rfl (Or.inl rfl) (by trivial))
      (@aj _ _ _ _ _ (@cn _ _ _ _ _ _ _ _ _ _ _ (@pv _ _ _ _ (@jW _ _ _ _ _ _ _ _ (@hJ _ _ _ _ _ (@dz _ _ _ _ (@mw _ _ _ _ _ _ _ _ "int" rfl (by decide) rfl T.b_isinstance rfl T.b_int PyProof.Rows.boot_int (by decide) (by decide) (¬1) (by rfl) (by rfl)) (by intro _;rfl))) (@jp _ _ _ _ _ (@dz _ _ _ _ (@mw _ _ _ _ _ _ _ _ "bool" rfl (by decide) rfl T.b_isinstance rfl T.b_bool PyProof.Rows.boot_bool (by decide) (by decide) (¬1) (by rfl) (by rfl)) (by intro _;rfl)))))
      (@aj _ _ _ _ _ (@au _ _ _ _ _ (@cA _ _ _ _ _)))
      (@aU _ _))) (by intro _;rfl))
      (@aj _ _ _ _ _ (@au _ _ _ _ _ (@mx _ _ _ _ _ _ _ _ (@gB _ _ _ _ _ _ _ _ _ (@vw _ _) (@aH _ _ _ _ _ _ _ rfl (¬0) ab (fun _ _=>rfl)) ab (aO _)) (@kR _ _ _ _ _ _ (@gB _ _ _ _ _ _ _ _ _ (@jB _ _ _ rfl hr) (@aK _ _ _ _ _ _ _ _ _ _ _ _ _ _ _ hLgcd GLgcd (hr.mono (by decide)) ((@aH _ _ _ _ _ _ _ rfl (¬0) ab (fun _ _=>rfl))∘((@aH _ _ _ _ _ _ _ rfl (¬0) ab (fun _ _=>rfl))∘ac)) (by rfl) (by decide) (by rfl) (by rfl)) ab (aO _)))))))))
noncomputable def jJ:FI:=(eM (ae 0))
noncomputable def gP:FS:=(aZ 1 (bU 2 me (aa (ae 1) (aa (ae 2) ag))))
noncomputable def sJ:FS:=(aB (aZ 1 (aR (aa (vC (.int 0)) (aa (vC (.int 1)) ag))))
    (aB (dG ([2]++[1]) jJ (ah 2) gP)
    (aT (ae 1))))
noncomputable def jO:FM:=gw 1 2 ([1]++(([2]++[1])++[])) sJ
theorem xQ:ay ["_law_rows","_law_found","_law_one"] ["_law_rows"] (am qq):=⟨rfl,rfl,rfl,by decide+kernel,rfl,by decide+kernel,by decide+kernel⟩
theorem Bq(h:aX K mg "_law_sum" qq f fd ["_law_rows"])(T:ik mg){fLplus:Addr}{eLplus:FuncData}(hLplus:aX K mg "_law_plus" mF fLplus eLplus ["_law_one","_law_other"])(GLplus:aC P w K mg base bH 3 fLplus eLplus ["_law_one","_law_other"] (bM K 2 me)):aC P w K mg base bH 4 f fd ["_law_rows"] (bM K 1 jO):=by
  have nd:=xQ.nd
  exact h.fn xQ rfl rfl (fun cdv A outer s H E hr=>(@af _ _ _ _ _ _ _ _ (@aA _ _ _ _ _ 1 _ _ nd rfl (Or.inl rfl) (@aq _ _ _ _ _ _ (ab∘(ab∘ac))) (by rfl) (by trivial))
      (@af _ _ _ _ _ _ _ _ (@dy _ _ _ _ _ _ _ _ _ _ _ PassesOwn.never rfl (@cX _ _ _ _ _ rfl (¬0)) (@aD _ _ _ 2 _ nd rfl (Or.inl rfl) (by trivial))
      (@aj _ _ _ _ _ (@aA _ _ _ _ _ 1 _ _ nd rfl (Or.inl rfl) (@aK _ _ _ _ _ _ _ _ _ _ _ _ _ _ _ hLplus GLplus (hr.mono (by decide)) ((¬1)∘((¬2)∘ac)) (by rfl) (by decide) (by rfl) (by rfl)) (by rfl) (by trivial))) (by intro _;rfl))
      (@aj _ _ _ _ _ (@au _ _ _ _ _ (¬1))))))
noncomputable def kB:FI:=(eM (ae 4))
noncomputable def ec:FE:=(ao bz (ae 0) (ae 1))
noncomputable def kG:FI:=(eM (ae 4))
noncomputable def ed:FE:=(bU 2 jP (aa (ao bz (ae 0) (ae 2)) (aa (ao bz (ao bz (ao bz (ae 1) (vC (.int 1))) (ae 2)) (vC (.int 2))) ag)))
noncomputable def iT:FI:=(cS (aa (aW (g1 ip) (aa (ao bz (ae 0) (vC (.int 1))) ag)) ag))
noncomputable def eV:FT:=(aJ (ao (yi false) (ae 0) (mT (ao bz (ao bz (ae 1) (vC (.int 1))) (ae 2)) dc (cW (vC (.int 2))))))
noncomputable def iP:FE:=(ae 2)
noncomputable def nD:FI:=(cS (aa (ao bz (ae 0) (vC (.int 0))) ag))
noncomputable def fY:FS:=(aB (aZ 4 (bF [(3,"_law_end"),(0,"_law_web_here")] 1 iT (ah 2) eV iP))
    (aB (gC (dZ cv (ae 2) (aa (aR (aa (bU 1 jO (aa (bF [(1,"_law_shares_here"),(0,"_law_web_here")] 1 kG (ah 2) bB ed) ag)) (aa (vC (.int 1)) ag))) ag)))
    (gC (dZ cv (ae 2) (aa (aR (aa (bU 1 jO (aa (bF [(1,"_law_shares_here")] 1 kB (ah 1) bB ec) ag)) (aa (ao bz (ao bz (ae 0) (vC (.int 2))) (ae 3)) ag))) ag)))))
noncomputable def oC:FS:=(aB (aZ 2 (cH (aa (aR (aa (bU 1 jO (aa (ae 1) ag)) (aa (ao bz (ae 0) (vC (.int 3))) ag))) ag)))
    (aB (dG ([3]++([4]++([]++[]))) nD (ah 3) fY)
    (aT (ae 2))))
noncomputable def fF:FM:=gw 2 3 ([2]++(([3]++([4]++([]++[])))++[])) oC
theorem qu:ay ["_law_web_here","_law_shares_here","_law_found","_law_end","_law_some"] ["_law_web_here","_law_shares_here"] (am eQ):=⟨rfl,rfl,rfl,by decide+kernel,rfl,by decide+kernel,by decide+kernel⟩
theorem wK(h:aX K mg "_law_loads" eQ f fd ["_law_web_here","_law_shares_here"])(T:ik mg){fLsum:Addr}{eLsum:FuncData}(hLsum:aX K mg "_law_sum" qq fLsum eLsum ["_law_rows"])(GLsum:aC P w K mg base bH 4 fLsum eLsum ["_law_rows"] (bM K 1 jO)){fLtimes:Addr}{eLtimes:FuncData}(hLtimes:aX K mg "_law_times" j2 fLtimes eLtimes ["_law_one","_law_other"])(GLtimes:aC P w K mg base bH 3 fLtimes eLtimes ["_law_one","_law_other"] (bM K 2 jP)):aC P w K mg base bH 5 f fd ["_law_web_here","_law_shares_here"] (bM K 2 fF):=by
  have nd:=qu.nd
  exact h.fn qu rfl rfl (fun cdv A outer s H E hr=>(@af _ _ _ _ _ _ _ _ (@aA _ _ _ _ _ 2 _ _ nd rfl (Or.inl rfl) (@bg _ _ _ _ _ ((@aq _ _ _ _ _ _ ((@aK _ _ _ _ _ _ _ _ _ _ _ _ _ _ _ hLsum GLsum (hr.mono (by decide)) ((¬1)∘ac) (by rfl) (by decide) (by rfl) (by rfl))∘((@aH _ _ _ _ _ _ _ rfl (¬0) ab (fun _ _=>rfl))∘ac)))∘ac)) (by rfl) (by trivial))
      (@af _ _ _ _ _ _ _ _ (@dy _ _ _ _ _ _ _ _ _ _ _ PassesOwn.never rfl (@cV _ _ _ _ _ _ _ rfl T.b_range ((@aH _ _ _ _ _ _ _ rfl (¬0) ab (fun _ _=>rfl))∘ac) (by rfl)) (@aD _ _ _ 3 _ nd rfl (Or.inr rfl) (by trivial))
      (@af _ _ _ _ _ _ _ _ (@nK _ _ _ (4) _ _ _ _ _ _ _ _ _ _ _ _ _ (am eQ) ["_law_web_here","_law_shares_here","_law_found","_law_end","_law_some"] [(3,"_law_end"),(0,"_law_web_here")] ["_law_tie"] rfl rfl rfl (@cV _ _ _ _ _ _ _ rfl T.b_range ((@bJ _ _ _ _ _ _ _ _ _ (@b_len _ _ rfl) (by rfl) T.b_len ((@aH _ _ _ _ _ _ _ rfl (¬0) ab (fun _ _=>rfl))∘ac) (by decide) (by decide) (by rfl) (by rfl))∘ac) (by rfl))
        (fun C s0 H0 fp=>(@aD _ _ _ 2 _ (show List.Nodup (["_law_end","_law_web_here","_law_tie"]:List Str) by decide+kernel) rfl (Or.inl rfl) (by trivial))) (fun C s0 H0 fp=>(@sY _ _ _ _ (@bj _ _ _ _ _ _ _ _ _ (@C5 _ _ _ rfl hr) (¬0) (@g9 _ _ _ _ _ _ _ _ _ _ rfl (@aH _ _ _ _ _ _ _ rfl (@aH _ _ _ _ _ _ _ rfl (¬1) ab (fun _ _=>rfl)) (¬2) (fun _ _=>rfl)) (@hE _ _) (@hG _ _ _ _ ab)) (by with_unfolding_all rfl))))
        (fun C s0 H0 fp=>(¬2)) rfl (by decide+kernel) (by decide+kernel) (by decide+kernel) (by decide+kernel) (by decide+kernel) (by decide+kernel) (by decide+kernel) nd rfl rfl (by rfl) (by intro _;rfl))
      (@af _ _ _ _ _ _ _ _ (@eP _ _ _ _ _ (@dP _ _ _ _ _ _ _ _ _ rfl (¬2) ((@aq _ _ _ _ _ _ ((@aK _ _ _ _ _ _ _ _ _ _ _ _ _ _ _ hLsum GLsum (hr.mono (by decide)) ((@fN _ _ _ _ _ _ _ _ _ _ _ _ _ (am eQ) ["_law_web_here","_law_shares_here","_law_found","_law_end","_law_some"] [(1,"_law_shares_here"),(0,"_law_web_here")] ["_law_tie"] rfl rfl rfl (@cX _ _ _ _ _ rfl (¬4))
        (fun C s0 H0 fp=>(@aD _ _ _ 2 _ (show List.Nodup (["_law_shares_here","_law_web_here","_law_tie"]:List Str) by decide+kernel) rfl (Or.inl rfl) (by trivial))) (fun C s0 H0 fp=>(@em _ _))
        (fun C s0 H0 fp=>(@aK _ _ _ _ _ _ _ _ _ _ _ _ _ _ _ hLtimes GLtimes (hr.mono (by decide)) ((@aH _ _ _ _ _ _ _ rfl (¬0) (¬2) (fun _ _=>rfl))∘((@aH _ _ _ _ _ _ _ rfl (@aH _ _ _ _ _ _ _ rfl (@aH _ _ _ _ _ _ _ rfl (¬1) ab (fun _ _=>rfl)) (¬2) (fun _ _=>rfl)) ab (fun _ _=>rfl))∘ac)) (by rfl) (by decide) (by rfl) (by rfl))) rfl (by decide+kernel) (by decide+kernel) (by decide+kernel) (by decide+kernel) (by decide+kernel) (by decide+kernel) (by decide+kernel) (by intro _;rfl))∘ac) (by rfl) (by decide) (by rfl) (by rfl))∘(ab∘ac)))∘ac) (by rfl) (by rfl) (by rfl) (by rfl) (by rfl)) (by rfl))
      (@aj _ _ _ _ _ (@eP _ _ _ _ _ (@dP _ _ _ _ _ _ _ _ _ rfl (¬2) ((@aq _ _ _ _ _ _ ((@aK _ _ _ _ _ _ _ _ _ _ _ _ _ _ _ hLsum GLsum (hr.mono (by decide)) ((@fN _ _ _ _ _ _ _ _ _ _ _ _ _ (am eQ) ["_law_web_here","_law_shares_here","_law_found","_law_end","_law_some"] [(1,"_law_shares_here")] ["_law_tie"] rfl rfl rfl (@cX _ _ _ _ _ rfl (¬4))
        (fun C s0 H0 fp=>(@aD _ _ _ 1 _ (show List.Nodup (["_law_shares_here","_law_tie"]:List Str) by decide+kernel) rfl (Or.inl rfl) (by trivial))) (fun C s0 H0 fp=>(@em _ _))
        (fun C s0 H0 fp=>(@aH _ _ _ _ _ _ _ rfl (¬0) (¬1) (fun _ _=>rfl))) rfl (by decide+kernel) (by decide+kernel) (by decide+kernel) (by decide+kernel) (by decide+kernel) (by decide+kernel) (by decide+kernel) (by intro _;rfl))∘ac) (by rfl) (by decide) (by rfl) (by rfl))∘((@aH _ _ _ _ _ _ _ rfl (@aH _ _ _ _ _ _ _ rfl (¬0) ab (fun _ _=>rfl)) (¬3) (fun _ _=>rfl))∘ac)))∘ac) (by rfl) (by rfl) (by rfl) (by rfl) (by rfl)) (by rfl))))) (by intro _;rfl))
      (@aj _ _ _ _ _ (@au _ _ _ _ _ (¬2))))))
noncomputable def fg:FI:=(eM (bU 2 fF (aa (ae 0) (aa (ae 1) ag))))
noncomputable def cI:FS:=(gD (aJ (ao sU (ao bz (ae 2) (vC (.int 0))) (ao a' (ae 3) (ao bz (ae 2) (vC (.int 1))))))
    (aT (vC (.bool false)))
    cG)
noncomputable def gM:FS:=(aB (dG (([2]++([3]++[]))++([]++[])) fg (bX (av (ah 2) (av (ah 3) bO))) cI)
    (aT (vC (.bool true))))
noncomputable def cU:FM:=gw 2 2 ((([2]++([3]++[]))++([]++[]))++[]) gM
theorem i6:ay ["_law_web_here","_law_shares_here","_law_load","_law_most"] ["_law_web_here","_law_shares_here"] (am dR):=⟨rfl,rfl,rfl,by decide+kernel,rfl,by decide+kernel,by decide+kernel⟩
theorem m7(h:aX K mg "_law_are_within" dR f fd ["_law_web_here","_law_shares_here"])(T:ik mg){fLloads:Addr}{eLloads:FuncData}(hLloads:aX K mg "_law_loads" eQ fLloads eLloads ["_law_web_here","_law_shares_here"])(GLloads:aC P w K mg base bH 5 fLloads eLloads ["_law_web_here","_law_shares_here"] (bM K 2 fF)):aC P w K mg base bH 6 f fd ["_law_web_here","_law_shares_here"] (bM K 2 cU):=by
  have nd:=i6.nd
  exact h.fn i6 rfl rfl (fun cdv A outer s H E hr=>(@af _ _ _ _ _ _ _ _ (@dy _ _ _ _ _ _ _ _ _ _ _ PassesOwn.never rfl (@cX _ _ _ _ _ rfl (@aK _ _ _ _ _ _ _ _ _ _ _ _ _ _ _ hLloads GLloads (hr.mono (by decide)) ((¬0)∘((¬1)∘ac)) (by rfl) (by decide) (by rfl) (by rfl))) (@g_ _ _ _ _ _ _ _ _ rfl rfl (@bh _ _ _ _ _ _ _ _ (@aD _ _ _ 2 _ nd rfl (Or.inl rfl) (by trivial)) (@bh _ _ _ _ _ _ _ _ (@aD _ _ _ 3 _ nd rfl (Or.inl rfl) (by trivial)) (@eO _ _) (by rfl)) (by rfl)) (bR (bR gW)) (by rfl) (by rfl))
      (@aj _ _ _ _ _ (@cn _ _ _ _ _ _ _ _ _ _ _ (@bj _ _ _ _ _ _ _ _ _ (@vw _ _) (@aH _ _ _ _ _ _ _ rfl (¬2) ab (fun _ _=>rfl)) (@bP _ _ _ _ _ _ _ rfl (¬3) (@aH _ _ _ _ _ _ _ rfl (¬2) ab (fun _ _=>rfl))) (aO _))
      (@aj _ _ _ _ _ (@au _ _ _ _ _ (@cA _ _ _ _ _)))
      (@aU _ _))) (by intro _;rfl))
      (@aj _ _ _ _ _ (@au _ _ _ _ _ (@cA _ _ _ _ _)))))
noncomputable def jg:FI:=(eM (ae 2))
noncomputable def e_:FE:=(bU 2 eB (aa (ao a' (ao bz (ae 1) (vC (.int 0))) (ao bz (ae 0) (vC (.int 1)))) (aa (ao a' (ao bz (ae 1) (vC (.int 1))) (ao bz (ae 0) (vC (.int 0)))) ag)))
noncomputable def jh:FI:=(eM (bU 2 fF (aa (ae 0) (aa (ae 2) ag))))
noncomputable def dk:FS:=(gD (qQ (aJ (ao sU (ae 8) (vC (.int 0)))) (aJ (bU 2 md (aa (ae 6) (aa (bU 2 eB (aa (ao bz (ae 7) (vC (.int 0))) (aa (ao a' (ao bz (ae 7) (vC (.int 1))) (ae 8)) ag))) ag)))))
    (aZ 6 (bU 2 eB (aa (ao bz (ae 7) (vC (.int 0))) (aa (ao a' (ao bz (ae 7) (vC (.int 1))) (ae 8)) ag))))
    cG)
noncomputable def ji:FI:=(nF (aa (ae 1) (aa (ao bz (ae 0) (vC (.int 1))) ag)))
noncomputable def cJ:FS:=(aB (aZ 5 (sr (ao (bW false) (ao bz (ae 0) (vC (.int 3))) (vC (.int 0))) (sr (ao (bW false) (ao bz (ao bz (ae 0) (vC (.int 2))) (ao bz (ae 4) (vC (.int 0)))) (vC (.int 0))) (ao (bW false) (ao bz (ao bz (ae 0) (vC (.int 2))) (ao bz (ae 4) (vC (.int 1)))) (vC (.int 0))))))
    (gC (dZ cv (ae 2) (aa (ao bz (cH (aa (ae 3) (aa (aR (aa (vC (.int 0)) (aa (vC (.int 1)) ag))) ag))) (aW (g1 p6) (aa (ae 5) ag))) ag))))
noncomputable def pQ:FS:=(aB (aZ 2 (cH ag))
    (aB (dG (([3]++([4]++[]))++([5]++[])) ji (bX (av (ah 3) (av (ah 4) bO))) cJ)
    (aB (aZ 6 (aR (aa (vC (.int 1)) (aa (vC (.int 1)) ag))))
    (aB (dG (([7]++([8]++[]))++([6]++[])) jh (bX (av (ah 7) (av (ah 8) bO))) dk)
    (aT (aW (g1 eF) (aa (bF [(6,"_law_by")] 1 jg (ah 1) bB e_) ag)))))))
noncomputable def gv:FM:=gw 2 7 ([2]++((([3]++([4]++[]))++([5]++[]))++([6]++((([7]++([8]++[]))++([6]++[]))++[])))) pQ
theorem nR:ay ["_law_web_here","_law_shares_here","_law_own","_law_share","_law_tie","_law_shut","_law_by","_law_load","_law_most"] ["_law_web_here","_law_shares_here"] (am gE):=⟨rfl,rfl,rfl,by decide+kernel,rfl,by decide+kernel,by decide+kernel⟩
theorem uE(h:aX K mg "_law_scaled" gE f fd ["_law_web_here","_law_shares_here"])(T:ik mg){fLloads:Addr}{eLloads:FuncData}(hLloads:aX K mg "_law_loads" eQ fLloads eLloads ["_law_web_here","_law_shares_here"])(GLloads:aC P w K mg base bH 5 fLloads eLloads ["_law_web_here","_law_shares_here"] (bM K 2 fF)){fLless:Addr}{eLless:FuncData}(hLless:aX K mg "_law_less" mE fLless eLless ["_law_one","_law_other"])(GLless:aC P w K mg base bH 1 fLless eLless ["_law_one","_law_other"] (bM K 2 md)){fLlow:Addr}{eLlow:FuncData}(hLlow:aX K mg "_law_low" jZ fLlow eLlow ["_law_top","_law_bottom"])(GLlow:aC P w K mg base bH 2 fLlow eLlow ["_law_top","_law_bottom"] (bM K 2 eB)):aC P w K mg base bH 6 f fd ["_law_web_here","_law_shares_here"] (bM K 2 gv):=by
  have nd:=nR.nd
  exact h.fn nR rfl rfl (fun cdv A outer s H E hr=>(@af _ _ _ _ _ _ _ _ (@aA _ _ _ _ _ 2 _ _ nd rfl (Or.inl rfl) (@bg _ _ _ _ _ ac) (by rfl) (by trivial))
      (@af _ _ _ _ _ _ _ _ (@dy _ _ _ _ _ _ _ _ _ _ _ PassesOwn.never rfl (@xx _ _ _ _ _ _ _ _ _ _ rfl rfl T.b_zip ((¬1)∘((@aH _ _ _ _ _ _ _ rfl (¬0) ab (fun _ _=>rfl))∘ac)) (by rfl) (by rfl)) (@g_ _ _ _ _ _ _ _ _ rfl rfl (@bh _ _ _ _ _ _ _ _ (@aD _ _ _ 3 _ nd rfl (Or.inl rfl) (by trivial)) (@bh _ _ _ _ _ _ _ _ (@aD _ _ _ 4 _ nd rfl (Or.inl rfl) (by trivial)) (@eO _ _) (by rfl)) (by rfl)) (bR (bR gW)) (by rfl) (by rfl))
      (@af _ _ _ _ _ _ _ _ (@aA _ _ _ _ _ 5 _ _ nd rfl (Or.inl rfl) (@AA _ _ _ _ _ _ _ _ (@gB _ _ _ _ _ _ _ _ _ (@jB _ _ _ rfl hr) (@aH _ _ _ _ _ _ _ rfl (¬0) ab (fun _ _=>rfl)) ab (aO _)) (@AA _ _ _ _ _ _ _ _ (@gB _ _ _ _ _ _ _ _ _ (@jB _ _ _ rfl hr) (@aH _ _ _ _ _ _ _ rfl (@aH _ _ _ _ _ _ _ rfl (¬0) ab (fun _ _=>rfl)) (@aH _ _ _ _ _ _ _ rfl (¬4) ab (fun _ _=>rfl)) (fun _ _=>rfl)) ab (aO _)) (@kR _ _ _ _ _ _ (@gB _ _ _ _ _ _ _ _ _ (@jB _ _ _ rfl hr) (@aH _ _ _ _ _ _ _ rfl (@aH _ _ _ _ _ _ _ rfl (¬0) ab (fun _ _=>rfl)) (@aH _ _ _ _ _ _ _ rfl (¬4) ab (fun _ _=>rfl)) (fun _ _=>rfl)) ab (aO _))))) (by rfl) (by trivial))
      (@aj _ _ _ _ _ (@eP _ _ _ _ _ (@dP _ _ _ _ _ _ _ _ _ rfl (¬2) ((@aH _ _ _ _ _ _ _ rfl (@bg _ _ _ _ _ ((¬3)∘((@aq _ _ _ _ _ _ (ab∘(ab∘ac)))∘ac))) (@bJ _ _ _ _ _ _ _ _ _ (@b_int _ _) (by rfl) T.b_int ((¬5)∘ac) (by decide) (by decide) (by rfl) (by rfl)) (fun _ _=>rfl))∘ac) (by rfl) (by rfl) (by rfl) (by rfl) (by rfl)) (by rfl)))) (by intro _;rfl))
      (@af _ _ _ _ _ _ _ _ (@aA _ _ _ _ _ 6 _ _ nd rfl (Or.inr rfl) (@aq _ _ _ _ _ _ (ab∘(ab∘ac))) (by rfl) (by trivial))
      (@af _ _ _ _ _ _ _ _ (@dy _ _ _ _ _ _ _ _ _ _ _ PassesOwn.never rfl (@cX _ _ _ _ _ rfl (@aK _ _ _ _ _ _ _ _ _ _ _ _ _ _ _ hLloads GLloads (hr.mono (by decide)) ((¬0)∘((¬2)∘ac)) (by rfl) (by decide) (by rfl) (by rfl))) (@g_ _ _ _ _ _ _ _ _ rfl rfl (@bh _ _ _ _ _ _ _ _ (@aD _ _ _ 7 _ nd rfl (Or.inl rfl) (by trivial)) (@bh _ _ _ _ _ _ _ _ (@aD _ _ _ 8 _ nd rfl (Or.inl rfl) (by trivial)) (@eO _ _) (by rfl)) (by rfl)) (bR (bR gW)) (by rfl) (by rfl))
      (@aj _ _ _ _ _ (@cn _ _ _ _ _ _ _ _ _ _ _ (@pv _ _ _ _ (@xB _ _ _ _ _ _ _ _ (@bj _ _ _ _ _ _ _ _ _ (@vw _ _) (¬8) ab (aO _)) (@sZ _ _ _ _ _ (@dz _ _ _ _ (@aK _ _ _ _ _ _ _ _ _ _ _ _ _ _ _ hLless GLless (hr.mono (by decide)) ((¬6)∘((@aK _ _ _ _ _ _ _ _ _ _ _ _ _ _ _ hLlow GLlow (hr.mono (by decide)) ((@aH _ _ _ _ _ _ _ rfl (¬7) ab (fun _ _=>rfl))∘((@bP _ _ _ _ _ _ _ rfl (@aH _ _ _ _ _ _ _ rfl (¬7) ab (fun _ _=>rfl)) (¬8))∘ac)) (by rfl) (by decide) (by rfl) (by rfl))∘ac)) (by rfl) (by decide) (by rfl) (by rfl)) (by intro _;rfl)))))
      (@aj _ _ _ _ _ (@aA _ _ _ _ _ 6 _ _ nd rfl (Or.inr rfl) (@aK _ _ _ _ _ _ _ _ _ _ _ _ _ _ _ hLlow GLlow (hr.mono (by decide)) ((@aH _ _ _ _ _ _ _ rfl (¬7) ab (fun _ _=>rfl))∘((@bP _ _ _ _ _ _ _ rfl (@aH _ _ _ _ _ _ _ rfl (¬7) ab (fun _ _=>rfl)) (¬8))∘ac)) (by rfl) (by decide) (by rfl) (by rfl)) (by rfl) (by trivial)))
      (@aU _ _))) (by intro _;rfl))
      (@aj _ _ _ _ _ (@au _ _ _ _ _ (@bJ _ _ _ _ _ _ _ _ _ (@b_tuple _ _ rfl) (by rfl) T.b_tuple ((@fN _ _ _ _ _ _ _ _ _ _ _ _ _ (am gE) ["_law_web_here","_law_shares_here","_law_own","_law_share","_law_tie","_law_shut","_law_by","_law_load","_law_most"] [(6,"_law_by")] ["_law_share"] rfl rfl rfl (@cX _ _ _ _ _ rfl (¬2))
        (fun C s0 H0 fp=>(@aD _ _ _ 1 _ (show List.Nodup (["_law_by","_law_share"]:List Str) by decide+kernel) rfl (Or.inl rfl) (by trivial))) (fun C s0 H0 fp=>(@em _ _))
        (fun C s0 H0 fp=>(@aK _ _ _ _ _ _ _ _ _ _ _ _ _ _ _ hLlow GLlow (hr.mono (by decide)) ((@bP _ _ _ _ _ _ _ rfl (@aH _ _ _ _ _ _ _ rfl (¬1) ab (fun _ _=>rfl)) (@aH _ _ _ _ _ _ _ rfl (¬0) ab (fun _ _=>rfl)))∘((@bP _ _ _ _ _ _ _ rfl (@aH _ _ _ _ _ _ _ rfl (¬1) ab (fun _ _=>rfl)) (@aH _ _ _ _ _ _ _ rfl (¬0) ab (fun _ _=>rfl)))∘ac)) (by rfl) (by decide) (by rfl) (by rfl))) rfl (by decide+kernel) (by decide+kernel) (by decide+kernel) (by decide+kernel) (by decide+kernel) (by decide+kernel) (by decide+kernel) (by intro _;rfl))∘ac) (by decide) (by decide) (by rfl) (by rfl)))))))))
noncomputable def jj:FI:=(eM (ao bz (ae 1) (vC (.int 1))))
noncomputable def gN:FS:=(aB (aZ 5 (bU 1 bf (aa (ae 0) ag)))
    (gC (dZ cv (ae 2) (aa (ao bz (cH (aa (bU 2 bE (aa (ae 5) (aa (vC (.int 1)) ag))) (aa (bU 2 bE (aa (ae 5) (aa (vC (.int 0)) ag))) (aa (bU 2 bE (aa (ae 5) (aa (vC (.int 2)) ag))) ag)))) (ae 3)) ag))))
noncomputable def pR:FS:=(aB (aZ 2 (cH ag))
    (aB (aZ 3 (ao be (bU 1 bf (aa (ae 0) ag)) (vC (.int 3))))
    (aB (dG ([4]++([5]++[])) jj (ah 4) gN)
    (aT (aW (g1 eF) (aa (ae 2) ag))))))
noncomputable def iD:FM:=gw 2 4 ([2]++([3]++(([4]++([5]++[]))++[]))) pR
theorem nS:ay ["_law_drawn","_law_web_here","_law_found","_law_kind","_law_tie","_law_number"] ["_law_drawn","_law_web_here"] (am iJ):=⟨rfl,rfl,rfl,by decide+kernel,rfl,by decide+kernel,by decide+kernel⟩
theorem uF(h:aX K mg "_law_shares" iJ f fd ["_law_drawn","_law_web_here"])(T:ik mg){fLnext:Addr}{eLnext:FuncData}(hLnext:aX K mg "_law_next" iI fLnext eLnext ["_law_drawn"])(GLnext:aC P w K mg base bH 1 fLnext eLnext ["_law_drawn"] (bM K 1 bf)){fLchance:Addr}{eLchance:FuncData}(hLchance:aX K mg "_law_chance" fv fLchance eLchance ["_law_number","_law_kind"])(GLchance:aC P w K mg base bH 3 fLchance eLchance ["_law_number","_law_kind"] (bM K 2 bE)):aC P w K mg base bH 4 f fd ["_law_drawn","_law_web_here"] (bM K 2 iD):=by
  have nd:=nS.nd
  exact h.fn nS rfl rfl (fun cdv A outer s H E hr=>(@af _ _ _ _ _ _ _ _ (@aA _ _ _ _ _ 2 _ _ nd rfl (Or.inl rfl) (@bg _ _ _ _ _ ac) (by rfl) (by trivial))
      (@af _ _ _ _ _ _ _ _ (@aA _ _ _ _ _ 3 _ _ nd rfl (Or.inl rfl) (@a7 _ _ _ _ _ _ _ (@aK _ _ _ _ _ _ _ _ _ _ _ _ _ _ _ hLnext GLnext (hr.mono (by decide)) ((¬0)∘ac) (by rfl) (by decide) (by rfl) (by rfl)) ab) (by rfl) (by trivial))
      (@af _ _ _ _ _ _ _ _ (@dy _ _ _ _ _ _ _ _ _ _ _ PassesOwn.never rfl (@cX _ _ _ _ _ rfl (@aH _ _ _ _ _ _ _ rfl (¬1) ab (fun _ _=>rfl))) (@aD _ _ _ 4 _ nd rfl (Or.inl rfl) (by trivial))
      (@af _ _ _ _ _ _ _ _ (@aA _ _ _ _ _ 5 _ _ nd rfl (Or.inl rfl) (@aK _ _ _ _ _ _ _ _ _ _ _ _ _ _ _ hLnext GLnext (hr.mono (by decide)) ((¬0)∘ac) (by rfl) (by decide) (by rfl) (by rfl)) (by rfl) (by trivial))
      (@aj _ _ _ _ _ (@eP _ _ _ _ _ (@dP _ _ _ _ _ _ _ _ _ rfl (¬2) ((@aH _ _ _ _ _ _ _ rfl (@bg _ _ _ _ _ ((@aK _ _ _ _ _ _ _ _ _ _ _ _ _ _ _ hLchance GLchance (hr.mono (by decide)) ((¬5)∘(ab∘ac)) (by rfl) (by decide) (by rfl) (by rfl))∘((@aK _ _ _ _ _ _ _ _ _ _ _ _ _ _ _ hLchance GLchance (hr.mono (by decide)) ((¬5)∘(ab∘ac)) (by rfl) (by decide) (by rfl) (by rfl))∘((@aK _ _ _ _ _ _ _ _ _ _ _ _ _ _ _ hLchance GLchance (hr.mono (by decide)) ((¬5)∘(ab∘ac)) (by rfl) (by decide) (by rfl) (by rfl))∘ac)))) (¬3) (fun _ _=>rfl))∘ac) (by rfl) (by rfl) (by rfl) (by rfl) (by rfl)) (by rfl)))) (by intro _;rfl))
      (@aj _ _ _ _ _ (@au _ _ _ _ _ (@bJ _ _ _ _ _ _ _ _ _ (@b_tuple _ _ rfl) (by rfl) T.b_tuple ((¬2)∘ac) (by decide) (by decide) (by rfl) (by rfl))))))))
noncomputable def nE:FI:=(eM (ae 1))
noncomputable def d_:FS:=(gD (sk (jt (aJ (bU 1 bv (aa (ae 2) ag)))) (sk (aJ (ao qX (ao bz (ae 2) (vC (.int 0))) (vC (.int 0)))) (aJ (ao sU (ao bz (ae 2) (vC (.int 0))) (ao bz (ae 2) (vC (.int 1)))))))
    (aT (vC (.bool false)))
    cG)
noncomputable def jy:FS:=(aB (gD (sk (jt (aJ (pI (jI "tuple") (ae 1)))) (aJ (ao (bW true) (aW (g1 ip) (aa (ae 1) ag)) (aW (g1 ip) (aa (ao bz (ae 0) (vC (.int 1))) ag)))))
    (aT (vC (.bool false)))
    cG)
    (aB (dG ([2]++([]++[])) nE (ah 2) d_)
    (aT (bU 2 cU (aa (ae 0) (aa (ae 1) ag))))))
noncomputable def fH:FM:=gw 2 1 (([]++[])++(([2]++([]++[]))++[])) jy
theorem qA:ay ["_law_web_here","_law_thing","_law_share"] ["_law_web_here","_law_thing"] (am j1):=⟨rfl,rfl,rfl,by decide+kernel,rfl,by decide+kernel,by decide+kernel⟩
theorem wM(h:aX K mg "_law_right" j1 f fd ["_law_web_here","_law_thing"])(T:ik mg){fLare_within:Addr}{eLare_within:FuncData}(hLare_within:aX K mg "_law_are_within" dR fLare_within eLare_within ["_law_web_here","_law_shares_here"])(GLare_within:aC P w K mg base bH 6 fLare_within eLare_within ["_law_web_here","_law_shares_here"] (bM K 2 cU)){fLis_fraction:Addr}{eLis_fraction:FuncData}(hLis_fraction:aX K mg "_law_is_fraction" de fLis_fraction eLis_fraction ["_law_thing"])(GLis_fraction:aC P w K mg base bH 2 fLis_fraction eLis_fraction ["_law_thing"] (bM K 1 bv)):aC P w K mg base bH 7 f fd ["_law_web_here","_law_thing"] (bM K 2 fH):=by
  have nd:=qA.nd
  exact h.fn qA rfl rfl (fun cdv A outer s H E hr=>(@af _ _ _ _ _ _ _ _ (@cn _ _ _ _ _ _ _ _ _ _ _ (@pv _ _ _ _ (@jW _ _ _ _ _ _ _ _ (@hJ _ _ _ _ _ (@dz _ _ _ _ (@mw _ _ _ _ _ _ _ _ "tuple" rfl (by decide) rfl T.b_isinstance rfl T.b_tuple PyProof.Rows.boot_tuple (by decide) (by decide) (¬1) (by rfl) (by rfl)) (by intro _;rfl))) (@jp _ _ _ _ _ (@bj _ _ _ _ _ _ _ _ _ (@vx _ _ _ rfl hr) (@bJ _ _ _ _ _ _ _ _ _ (@b_len _ _ rfl) (by rfl) T.b_len ((¬1)∘ac) (by decide) (by decide) (by rfl) (by rfl)) (@bJ _ _ _ _ _ _ _ _ _ (@b_len _ _ rfl) (by rfl) T.b_len ((@aH _ _ _ _ _ _ _ rfl (¬0) ab (fun _ _=>rfl))∘ac) (by decide) (by decide) (by rfl) (by rfl)) (aO _)))))
      (@aj _ _ _ _ _ (@au _ _ _ _ _ (@cA _ _ _ _ _)))
      (@aU _ _))
      (@af _ _ _ _ _ _ _ _ (@dy _ _ _ _ _ _ _ _ _ _ _ PassesOwn.never rfl (@cX _ _ _ _ _ rfl (¬1)) (@aD _ _ _ 2 _ nd rfl (Or.inl rfl) (by trivial))
      (@aj _ _ _ _ _ (@cn _ _ _ _ _ _ _ _ _ _ _ (@pv _ _ _ _ (@jW _ _ _ _ _ _ _ _ (@hJ _ _ _ _ _ (@dz _ _ _ _ (@aK _ _ _ _ _ _ _ _ _ _ _ _ _ _ _ hLis_fraction GLis_fraction (hr.mono (by decide)) ((¬2)∘ac) (by rfl) (by decide) (by rfl) (by rfl)) (by intro _;rfl))) (@jW _ _ _ _ _ _ _ _ (@bj _ _ _ _ _ _ _ _ _ (@pT _ _) (@aH _ _ _ _ _ _ _ rfl (¬2) ab (fun _ _=>rfl)) ab (aO _)) (@jp _ _ _ _ _ (@bj _ _ _ _ _ _ _ _ _ (@vw _ _) (@aH _ _ _ _ _ _ _ rfl (¬2) ab (fun _ _=>rfl)) (@aH _ _ _ _ _ _ _ rfl (¬2) ab (fun _ _=>rfl)) (aO _))))))
      (@aj _ _ _ _ _ (@au _ _ _ _ _ (@cA _ _ _ _ _)))
      (@aU _ _))) (by intro _;rfl))
      (@aj _ _ _ _ _ (@au _ _ _ _ _ (@aK _ _ _ _ _ _ _ _ _ _ _ _ _ _ _ hLare_within GLare_within (hr.mono (by decide)) ((¬0)∘((¬1)∘ac)) (by rfl) (by decide) (by rfl) (by rfl)))))))
noncomputable def oB:FS:=(aB (gD (aJ (ao (bW false) (ae 1) (aR ag)))
    (aT (bU 1 lg (aa (ae 0) ag)))
    cG)
    (aB (aZ 2 (ao be (ao eu (ae 0) (vC (.int 22))) (aW (g1 ip) (aa (ae 1) ag))))
    (aB (qp (ao bz (ae 1) (ae 2)) (bX (av (ah 3) (av (ah 4) bO))))
    (aB (aZ 5 (cH (aa (bU 2 eB (aa (ao bu (ao a' (ae 3) (vC (.int 1000))) (ae 4)) (aa (ao a' (ae 4) (vC (.int 1000))) ag))) (aa (bU 2 eB (aa (aW (g2 rE) (aa (vC (.int 0)) (aa (ao fM (ao a' (ae 3) (vC (.int 1000))) (ae 4)) ag))) (aa (ao a' (ae 4) (vC (.int 1000))) ag))) ag))))
    (aB (aZ 6 (ao bu (ae 5) (cH (aa (aR (aa (pI ul (vC (.int 1))) (aa (vC (.int 2)) ag))) (aa (aR (aa (vC (.int 2)) (aa (vC (.int 1)) ag))) (aa (aR (aa (ao a' (vC (.int 2)) (ae 3)) (aa (ao a' (vC (.int 2)) (ae 4)) ag))) (aa (ae 3) (aa (vC (.bool true)) (aa (vC .none) (aa (aR (aa (vC (.bool true)) (aa (vC (.int 1)) ag))) (aa (cH (aa (ae 3) (aa (ae 4) ag))) (aa (lh []) (aa (aR (aa (vC (.int 0)) (aa (vC (.int 1)) ag))) ag)))))))))))))
    (aB (aZ 6 (ao bu (ae 6) (cH (aa (aR (aa (vC .none) (aa (ae 4) ag))) (aa (aR (aa (ae 3) (aa (vC (.str ("1":Str))) ag))) (aa (aR (aa (aR (aa (ae 3) ag)) (aa (ae 4) ag))) (aa (aR (aa (cH (aa (ae 3) ag)) (aa (ae 4) ag))) (aa (aR (aa (vC (.bool false)) (aa (vC (.int 1)) ag))) (aa (aR (aa (ae 3) (aa (vC (.bool true)) ag))) ag)))))))))
    (aB (aZ 7 (ao be (ae 0) (vC (.int 22))))
    (aB (gD (aJ (ao qX (ae 7) (vC (.int 18))))
    (aT (ao bu (ao bu (mT (ae 1) dc (cW (ae 2))) (aR (aa (ao bz (ae 6) (ae 7)) ag))) (mT (ae 1) (cW (ao bu (ae 2) (vC (.int 1)))) dc)))
    cG)
    (aB (gD (aJ (ao (bW false) (ae 7) (vC (.int 18))))
    (aT (mT (ae 1) (cW (vC (.int 1))) dc))
    cG)
    (aT (ao bz (cH (aa (ao bu (ae 1) (aR (aa (aR (aa (vC (.int 0)) (aa (vC (.int 1)) ag))) ag))) (aa (aW (g1 nB) (aa (ae 1) ag)) (aa (ao bu (mT (ae 1) (cW (ae 2)) dc) (mT (ae 1) dc (cW (ae 2)))) ag)))) (ao fM (ae 7) (vC (.int 19))))))))))))))
noncomputable def jk:FM:=gw 2 6 (([]++[])++([2]++(([3]++([4]++[]))++([5]++([6]++([6]++([7]++(([]++[])++(([]++[])++[]))))))))) oB
theorem tu:ay ["_law_number","_law_shares_here","_law_at","_law_top","_law_bottom","_law_hair","_law_some","_law_kind"] ["_law_number","_law_shares_here"] (am mD):=⟨rfl,rfl,rfl,by decide+kernel,rfl,by decide+kernel,by decide+kernel⟩
theorem yU(h:aX K mg "_law_bent" mD f fd ["_law_number","_law_shares_here"])(T:ik mg){fLodd:Addr}{eLodd:FuncData}(hLodd:aX K mg "_law_odd" nP fLodd eLodd ["_law_number"])(GLodd:aC P w K mg base bH 1 fLodd eLodd ["_law_number"] (bM K 1 lg)){fLlow:Addr}{eLlow:FuncData}(hLlow:aX K mg "_law_low" jZ fLlow eLlow ["_law_top","_law_bottom"])(GLlow:aC P w K mg base bH 2 fLlow eLlow ["_law_top","_law_bottom"] (bM K 2 eB)):aC P w K mg base bH 3 f fd ["_law_number","_law_shares_here"] (bM K 2 jk):=by
  have nd:=tu.nd
  exact h.fn tu rfl rfl (fun cdv A outer s H E hr=>(@af _ _ _ _ _ _ _ _ (@cn _ _ _ _ _ _ _ _ _ _ _ (@bj _ _ _ _ _ _ _ _ _ (@jB _ _ _ rfl hr) (¬1) (@aq _ _ _ _ _ _ ac) (aO _))
      (@aj _ _ _ _ _ (@au _ _ _ _ _ (@aK _ _ _ _ _ _ _ _ _ _ _ _ _ _ _ hLodd GLodd (hr.mono (by decide)) ((¬0)∘ac) (by rfl) (by decide) (by rfl) (by rfl))))
      (@aU _ _))
      (@af _ _ _ _ _ _ _ _ (@aA _ _ _ _ _ 2 _ _ nd rfl (Or.inl rfl) (@a7 _ _ _ _ _ _ _ (@fP _ _ _ _ _ _ _ (¬0) ab) (@bJ _ _ _ _ _ _ _ _ _ (@b_len _ _ rfl) (by rfl) T.b_len ((¬1)∘ac) (by decide) (by decide) (by rfl) (by rfl))) (by rfl) (by trivial))
      (@af _ _ _ _ _ _ _ _ (@rS _ _ _ _ _ _ _ _ (@aH _ _ _ _ _ _ _ rfl (¬1) (¬2) (fun _ _=>rfl)) (@g_ _ _ _ _ _ _ _ _ rfl rfl (@bh _ _ _ _ _ _ _ _ (@aD _ _ _ 3 _ nd rfl (Or.inl rfl) (by trivial)) (@bh _ _ _ _ _ _ _ _ (@aD _ _ _ 4 _ nd rfl (Or.inl rfl) (by trivial)) (@eO _ _) (by rfl)) (by rfl)) (bR (bR gW)) (by rfl) (by rfl)) (by rfl) (by rfl) (by rfl))
      (@af _ _ _ _ _ _ _ _ (@aA _ _ _ _ _ 5 _ _ nd rfl (Or.inl rfl) (@bg _ _ _ _ _ ((@aK _ _ _ _ _ _ _ _ _ _ _ _ _ _ _ hLlow GLlow (hr.mono (by decide)) ((@bY _ _ _ _ _ _ _ rfl (@bP _ _ _ _ _ _ _ rfl (¬3) ab) (¬4))∘((@bP _ _ _ _ _ _ _ rfl (¬4) ab)∘ac)) (by rfl) (by decide) (by rfl) (by rfl))∘((@aK _ _ _ _ _ _ _ _ _ _ _ _ _ _ _ hLlow GLlow (hr.mono (by decide)) ((@bJ _ _ _ _ _ _ _ _ _ (@b_max _ _ rfl) (by rfl) T.b_max (ab∘((@qj _ _ _ _ _ _ _ (@bP _ _ _ _ _ _ _ rfl (¬3) ab) (¬4))∘ac)) (by decide) (by decide) (by rfl) (by rfl))∘((@bP _ _ _ _ _ _ _ rfl (¬4) ab)∘ac)) (by rfl) (by decide) (by rfl) (by rfl))∘ac))) (by rfl) (by trivial))
      (@af _ _ _ _ _ _ _ _ (@aA _ _ _ _ _ 6 _ _ nd rfl (Or.inl rfl) (@bY _ _ _ _ _ _ _ rfl (¬5) (@bg _ _ _ _ _ ((@aq _ _ _ _ _ _ ((@xo _ _ _ _ _ ab)∘(ab∘ac)))∘((@aq _ _ _ _ _ _ (ab∘(ab∘ac)))∘((@aq _ _ _ _ _ _ ((@bP _ _ _ _ _ _ _ rfl ab (¬3))∘((@bP _ _ _ _ _ _ _ rfl ab (¬4))∘ac)))∘((¬3)∘((@cA _ _ _ _ _)∘((@pq _ _ _ _)∘((@aq _ _ _ _ _ _ ((@cA _ _ _ _ _)∘(ab∘ac)))∘((@bg _ _ _ _ _ ((¬3)∘((¬4)∘ac)))∘((@qk _ _ _)∘((@aq _ _ _ _ _ _ (ab∘(ab∘ac)))∘ac)))))))))))) (by rfl) (by trivial))
      (@af _ _ _ _ _ _ _ _ (@aA _ _ _ _ _ 6 _ _ nd rfl (Or.inl rfl) (@bY _ _ _ _ _ _ _ rfl (¬6) (@bg _ _ _ _ _ ((@aq _ _ _ _ _ _ ((@pq _ _ _ _)∘((¬4)∘ac)))∘((@aq _ _ _ _ _ _ ((¬3)∘((@my _ _ _ _ _)∘ac)))∘((@aq _ _ _ _ _ _ ((@aq _ _ _ _ _ _ ((¬3)∘ac))∘((¬4)∘ac)))∘((@aq _ _ _ _ _ _ ((@bg _ _ _ _ _ ((¬3)∘ac))∘((¬4)∘ac)))∘((@aq _ _ _ _ _ _ ((@cA _ _ _ _ _)∘(ab∘ac)))∘((@aq _ _ _ _ _ _ ((¬3)∘((@cA _ _ _ _ _)∘ac)))∘ac)))))))) (by rfl) (by trivial))
      (@af _ _ _ _ _ _ _ _ (@aA _ _ _ _ _ 7 _ _ nd rfl (Or.inl rfl) (@a7 _ _ _ _ _ _ _ (¬0) ab) (by rfl) (by trivial))
      (@af _ _ _ _ _ _ _ _ (@cn _ _ _ _ _ _ _ _ _ _ _ (@bj _ _ _ _ _ _ _ _ _ (@pT _ _) (¬7) ab (aO _))
      (@aj _ _ _ _ _ (@au _ _ _ _ _ (@bY _ _ _ _ _ _ _ rfl (@bY _ _ _ _ _ _ _ rfl (@g9 _ _ _ _ _ _ _ _ _ _ rfl (¬1) (@hE _ _) (@hG _ _ _ _ (¬2))) (@aq _ _ _ _ _ _ ((@aH _ _ _ _ _ _ _ rfl (¬6) (¬7) (fun _ _=>rfl))∘ac))) (@g9 _ _ _ _ _ _ _ _ _ _ rfl (¬1) (@hG _ _ _ _ (@bY _ _ _ _ _ _ _ rfl (¬2) ab)) (@hE _ _)))))
      (@aU _ _))
      (@af _ _ _ _ _ _ _ _ (@cn _ _ _ _ _ _ _ _ _ _ _ (@bj _ _ _ _ _ _ _ _ _ (@jB _ _ _ rfl hr) (¬7) ab (aO _))
      (@aj _ _ _ _ _ (@au _ _ _ _ _ (@g9 _ _ _ _ _ _ _ _ _ _ rfl (¬1) (@hG _ _ _ _ ab) (@hE _ _))))
      (@aU _ _))
      (@aj _ _ _ _ _ (@au _ _ _ _ _ (@aH _ _ _ _ _ _ _ rfl (@bg _ _ _ _ _ ((@bY _ _ _ _ _ _ _ rfl (¬1) (@aq _ _ _ _ _ _ ((@aq _ _ _ _ _ _ (ab∘(ab∘ac)))∘ac)))∘((@bJ _ _ _ _ _ _ _ _ _ (@b_list _ _ rfl) (by rfl) T.b_list ((¬1)∘ac) (by decide) (by decide) (by rfl) (by rfl))∘((@bY _ _ _ _ _ _ _ rfl (@g9 _ _ _ _ _ _ _ _ _ _ rfl (¬1) (@hG _ _ _ _ (¬2)) (@hE _ _)) (@g9 _ _ _ _ _ _ _ _ _ _ rfl (¬1) (@hE _ _) (@hG _ _ _ _ (¬2))))∘ac)))) (@qj _ _ _ _ _ _ _ (¬7) ab) (fun _ _=>rfl))))))))))))))
noncomputable def Ew:FI:=(eM (ae 6))
noncomputable def CL:FS:=(aB (aZ 8 (aW (g1 lc) (aa (aR (aa (ae 3) (aa (ae 7) ag))) ag)))
    (gD (sk (jt (aJ (bU 2 mf (aa (bU 2 bx (aa (ae 3) (aa (ae 7) ag))) (aa (bU 2 fH (aa (ae 3) (aa (ae 7) ag))) ag))))) (aJ (ao (bW true) (aW (g1 lc) (aa (aR (aa (ae 3) (aa (ae 7) ag))) ag)) (ae 8))))
    (aT (vC (.bool false)))
    cG))
noncomputable def Ex:FI:=(cS (aa (vC (.int 5)) ag))
noncomputable def C9:FE:=(bU 2 jk (aa (bU 1 bf (aa (ae 1) ag)) (aa (ae 0) ag)))
noncomputable def Ey:FI:=(eM (ao bz (ae 3) (vC (.int 1))))
noncomputable def Et:FE:=(bU 2 bE (aa (bU 1 bf (aa (ae 0) ag)) (aa (vC (.int 1)) ag)))
noncomputable def FH:FI:=(cS (aa (vC (.int 3)) ag))
noncomputable def AM:FS:=(aB (aZ 3 (bU 3 qa (aa (ae 1) (aa (ao bz (cH (aa (vC (.int 8)) (aa (vC (.int 8)) (aa (vC (.int 12)) ag)))) (ae 2)) (aa (ao bz (cH (aa (vC (.int 10)) (aa (vC (.int 10)) (aa (vC (.int 16)) ag)))) (ae 2)) ag)))))
    (aB (aZ 4 (bU 2 iD (aa (ae 1) (aa (ae 3) ag))))
    (aB (gD (aJ (ao (bW false) (ae 2) (vC (.int 2))))
    (aZ 4 (aW (g1 eF) (aa (bF [(1,"_law_drawn")] 1 Ey (ah 1) bB Et) ag)))
    cG)
    (aB (aZ 5 (bU 2 gv (aa (ae 3) (aa (ae 4) ag))))
    (aB (gD (aJ (ao lV (bU 2 bx (aa (ae 3) (aa (ae 5) ag))) (vC (.bool true))))
    (aT (vC (.bool false)))
    cG)
    (aB (aZ 6 (ao bu (cH (aa (ae 4) (aa (bU 1 lg (aa (bU 1 bf (aa (ae 1) ag)) ag)) ag))) (bF [(5,"_law_right_here"),(1,"_law_drawn")] 1 Ex (ah 2) bB C9)))
    (dG ([7]++([8]++([]++[]))) Ew (ah 7) CL)))))))
noncomputable def An:FS:=(aB (aZ 1 (bU 1 jN (aa (ae 0) ag)))
    (aB (dG ([2]++([3]++([4]++(([4]++[])++([5]++(([]++[])++([6]++([7]++([8]++([]++[])))))))))) FH (ah 2) AM)
    (aT (vC (.bool true)))))
noncomputable def mi:FM:=gw 1 8 ([1]++(([2]++([3]++([4]++(([4]++[])++([5]++(([]++[])++([6]++([7]++([8]++([]++[]))))))))))++[])) An
theorem xS:ay ["_law_script","_law_drawn","_law_k","_law_web_here","_law_shares_here","_law_right_here","_law_things","_law_thing","_law_mark"] ["_law_script"] (am j4):=⟨rfl,rfl,rfl,by decide+kernel,rfl,by decide+kernel,by decide+kernel⟩
theorem Bs(h:aX K mg "law" j4 f fd ["_law_script"])(T:ik mg){fLdraws:Addr}{eLdraws:FuncData}(hLdraws:aX K mg "_law_draws" jY fLdraws eLdraws ["_law_script"])(GLdraws:aC P w K mg base bH 2 fLdraws eLdraws ["_law_script"] (bM K 1 jN)){fLweb:Addr}{eLweb:FuncData}(hLweb:aX K mg "_law_web" qr fLweb eLweb ["_law_drawn","_law_most","_law_ties_here"])(GLweb:aC P w K mg base bH 5 fLweb eLweb ["_law_drawn","_law_most","_law_ties_here"] (bM K 3 qa)){fLshares:Addr}{eLshares:FuncData}(hLshares:aX K mg "_law_shares" iJ fLshares eLshares ["_law_drawn","_law_web_here"])(GLshares:aC P w K mg base bH 4 fLshares eLshares ["_law_drawn","_law_web_here"] (bM K 2 iD)){fLscaled:Addr}{eLscaled:FuncData}(hLscaled:aX K mg "_law_scaled" gE fLscaled eLscaled ["_law_web_here","_law_shares_here"])(GLscaled:aC P w K mg base bH 6 fLscaled eLscaled ["_law_web_here","_law_shares_here"] (bM K 2 gv)){f_shares_hold:Addr}{e_shares_hold:FuncData}(h_shares_hold:aX K mg "shares_hold" bZ f_shares_hold e_shares_hold ["web","thing"])(G_shares_hold:aC P w K mg base bH 6 f_shares_hold e_shares_hold ["web","thing"] (bM K 2 bx)){fLodd:Addr}{eLodd:FuncData}(hLodd:aX K mg "_law_odd" nP fLodd eLodd ["_law_number"])(GLodd:aC P w K mg base bH 1 fLodd eLodd ["_law_number"] (bM K 1 lg)){fLbent:Addr}{eLbent:FuncData}(hLbent:aX K mg "_law_bent" mD fLbent eLbent ["_law_number","_law_shares_here"])(GLbent:aC P w K mg base bH 3 fLbent eLbent ["_law_number","_law_shares_here"] (bM K 2 jk)){fLchance:Addr}{eLchance:FuncData}(hLchance:aX K mg "_law_chance" fv fLchance eLchance ["_law_number","_law_kind"])(GLchance:aC P w K mg base bH 3 fLchance eLchance ["_law_number","_law_kind"] (bM K 2 bE)){fLnext:Addr}{eLnext:FuncData}(hLnext:aX K mg "_law_next" iI fLnext eLnext ["_law_drawn"])(GLnext:aC P w K mg base bH 1 fLnext eLnext ["_law_drawn"] (bM K 1 bf)){fLsays:Addr}{eLsays:FuncData}(hLsays:aX K mg "_law_says" mG fLsays eLsays ["_law_found","_law_due"])(GLsays:aC P w K mg base bH 1 fLsays eLsays ["_law_found","_law_due"] (bM K 2 mf)){fLright:Addr}{eLright:FuncData}(hLright:aX K mg "_law_right" j1 fLright eLright ["_law_web_here","_law_thing"])(GLright:aC P w K mg base bH 7 fLright eLright ["_law_web_here","_law_thing"] (bM K 2 fH)):aC P w K mg base bH 8 f fd ["_law_script"] (bM K 1 mi):=by
  have nd:=xS.nd
  exact h.fn xS rfl rfl (fun cdv A outer s H E hr=>(@af _ _ _ _ _ _ _ _ (@aA _ _ _ _ _ 1 _ _ nd rfl (Or.inr rfl) (@aK _ _ _ _ _ _ _ _ _ _ _ _ _ _ _ hLdraws GLdraws (hr.mono (by decide)) ((¬0)∘ac) (by rfl) (by decide) (by rfl) (by rfl)) (by rfl) (by trivial))
      (@af _ _ _ _ _ _ _ _ (@dy _ _ _ _ _ _ _ _ _ _ _ PassesOwn.never rfl (@cV _ _ _ _ _ _ _ rfl T.b_range (ab∘ac) (by rfl)) (@aD _ _ _ 2 _ nd rfl (Or.inl rfl) (by trivial))
      (@af _ _ _ _ _ _ _ _ (@aA _ _ _ _ _ 3 _ _ nd rfl (Or.inl rfl) (@aK _ _ _ _ _ _ _ _ _ _ _ _ _ _ _ hLweb GLweb (hr.mono (by decide)) ((¬1)∘((@aH _ _ _ _ _ _ _ rfl (@bg _ _ _ _ _ (ab∘(ab∘(ab∘ac)))) (¬2) (fun _ _=>rfl))∘((@aH _ _ _ _ _ _ _ rfl (@bg _ _ _ _ _ (ab∘(ab∘(ab∘ac)))) (¬2) (fun _ _=>rfl))∘ac))) (by rfl) (by decide) (by rfl) (by rfl)) (by rfl) (by trivial))
      (@af _ _ _ _ _ _ _ _ (@aA _ _ _ _ _ 4 _ _ nd rfl (Or.inl rfl) (@aK _ _ _ _ _ _ _ _ _ _ _ _ _ _ _ hLshares GLshares (hr.mono (by decide)) ((¬1)∘((¬3)∘ac)) (by rfl) (by decide) (by rfl) (by rfl)) (by rfl) (by trivial))
      (@af _ _ _ _ _ _ _ _ (@cn _ _ _ _ _ _ _ _ _ _ _ (@bj _ _ _ _ _ _ _ _ _ (@jB _ _ _ rfl hr) (¬2) ab (aO _))
      (@aj _ _ _ _ _ (@aA _ _ _ _ _ 4 _ _ nd rfl (Or.inl rfl) (@bJ _ _ _ _ _ _ _ _ _ (@b_tuple _ _ rfl) (by rfl) T.b_tuple ((@fN _ _ _ _ _ _ _ _ _ _ _ _ _ (am j4) ["_law_script","_law_drawn","_law_k","_law_web_here","_law_shares_here","_law_right_here","_law_things","_law_thing","_law_mark"] [(1,"_law_drawn")] ["_law_tie"] rfl rfl rfl (@cX _ _ _ _ _ rfl (@aH _ _ _ _ _ _ _ rfl (¬3) ab (fun _ _=>rfl)))
        (fun C s0 H0 fp=>(@aD _ _ _ 1 _ (show List.Nodup (["_law_drawn","_law_tie"]:List Str) by decide+kernel) rfl (Or.inl rfl) (by trivial))) (fun C s0 H0 fp=>(@em _ _))
        (fun C s0 H0 fp=>(@aK _ _ _ _ _ _ _ _ _ _ _ _ _ _ _ hLchance GLchance (hr.mono (by decide)) ((@aK _ _ _ _ _ _ _ _ _ _ _ _ _ _ _ hLnext GLnext (hr.mono (by decide)) ((¬0)∘ac) (by rfl) (by decide) (by rfl) (by rfl))∘(ab∘ac)) (by rfl) (by decide) (by rfl) (by rfl))) rfl (by decide+kernel) (by decide+kernel) (by decide+kernel) (by decide+kernel) (by decide+kernel) (by decide+kernel) (by decide+kernel) (by intro _;rfl))∘ac) (by decide) (by decide) (by rfl) (by rfl)) (by rfl) (by trivial)))
      (@aU _ _))
      (@af _ _ _ _ _ _ _ _ (@aA _ _ _ _ _ 5 _ _ nd rfl (Or.inr rfl) (@aK _ _ _ _ _ _ _ _ _ _ _ _ _ _ _ hLscaled GLscaled (hr.mono (by decide)) ((¬3)∘((¬4)∘ac)) (by rfl) (by decide) (by rfl) (by rfl)) (by rfl) (by trivial))
      (@af _ _ _ _ _ _ _ _ (@cn _ _ _ _ _ _ _ _ _ _ _ (@bj _ _ _ _ _ _ _ _ _ (@yw _ _) (@aK _ _ _ _ _ _ _ _ _ _ _ _ _ _ _ h_shares_hold G_shares_hold (hr.mono (by decide)) ((¬3)∘((¬5)∘ac)) (by rfl) (by decide) (by rfl) (by rfl)) (@cA _ _ _ _ _) (aO _))
      (@aj _ _ _ _ _ (@au _ _ _ _ _ (@cA _ _ _ _ _)))
      (@aU _ _))
      (@af _ _ _ _ _ _ _ _ (@aA _ _ _ _ _ 6 _ _ nd rfl (Or.inl rfl) (@bY _ _ _ _ _ _ _ rfl (@bg _ _ _ _ _ ((¬4)∘((@aK _ _ _ _ _ _ _ _ _ _ _ _ _ _ _ hLodd GLodd (hr.mono (by decide)) ((@aK _ _ _ _ _ _ _ _ _ _ _ _ _ _ _ hLnext GLnext (hr.mono (by decide)) ((¬1)∘ac) (by rfl) (by decide) (by rfl) (by rfl))∘ac) (by rfl) (by decide) (by rfl) (by rfl))∘ac))) (@fN _ _ _ _ _ _ _ _ _ _ _ _ _ (am j4) ["_law_script","_law_drawn","_law_k","_law_web_here","_law_shares_here","_law_right_here","_law_things","_law_thing","_law_mark"] [(5,"_law_right_here"),(1,"_law_drawn")] ["_law_j"] rfl rfl rfl (@cV _ _ _ _ _ _ _ rfl T.b_range (ab∘ac) (by rfl))
        (fun C s0 H0 fp=>(@aD _ _ _ 2 _ (show List.Nodup (["_law_right_here","_law_drawn","_law_j"]:List Str) by decide+kernel) rfl (Or.inl rfl) (by trivial))) (fun C s0 H0 fp=>(@em _ _))
        (fun C s0 H0 fp=>(@aK _ _ _ _ _ _ _ _ _ _ _ _ _ _ _ hLbent GLbent (hr.mono (by decide)) ((@aK _ _ _ _ _ _ _ _ _ _ _ _ _ _ _ hLnext GLnext (hr.mono (by decide)) ((¬1)∘ac) (by rfl) (by decide) (by rfl) (by rfl))∘((¬0)∘ac)) (by rfl) (by decide) (by rfl) (by rfl))) rfl (by decide+kernel) (by decide+kernel) (by decide+kernel) (by decide+kernel) (by decide+kernel) (by decide+kernel) (by decide+kernel) (by intro _;rfl))) (by rfl) (by trivial))
      (@aj _ _ _ _ _ (@dy _ _ _ _ _ _ _ _ _ _ _ PassesOwn.never rfl (@cX _ _ _ _ _ rfl (¬6)) (@aD _ _ _ 7 _ nd rfl (Or.inl rfl) (by trivial))
      (@af _ _ _ _ _ _ _ _ (@aA _ _ _ _ _ 8 _ _ nd rfl (Or.inl rfl) (@bJ _ _ _ _ _ _ _ _ _ (@b_repr _ _ _ rfl hr) (by rfl) T.b_repr ((@aq _ _ _ _ _ _ ((¬3)∘((¬7)∘ac)))∘ac) (by decide) (by decide) (by rfl) (by rfl)) (by rfl) (by trivial))
      (@aj _ _ _ _ _ (@cn _ _ _ _ _ _ _ _ _ _ _ (@pv _ _ _ _ (@jW _ _ _ _ _ _ _ _ (@hJ _ _ _ _ _ (@dz _ _ _ _ (@aK _ _ _ _ _ _ _ _ _ _ _ _ _ _ _ hLsays GLsays (hr.mono (by decide)) ((@aK _ _ _ _ _ _ _ _ _ _ _ _ _ _ _ h_shares_hold G_shares_hold (hr.mono (by decide)) ((¬3)∘((¬7)∘ac)) (by rfl) (by decide) (by rfl) (by rfl))∘((@aK _ _ _ _ _ _ _ _ _ _ _ _ _ _ _ hLright GLright (hr.mono (by decide)) ((¬3)∘((¬7)∘ac)) (by rfl) (by decide) (by rfl) (by rfl))∘ac)) (by rfl) (by decide) (by rfl) (by rfl)) (by intro _;rfl))) (@jp _ _ _ _ _ (@bj _ _ _ _ _ _ _ _ _ (@vx _ _ _ rfl hr) (@bJ _ _ _ _ _ _ _ _ _ (@b_repr _ _ _ rfl hr) (by rfl) T.b_repr ((@aq _ _ _ _ _ _ ((¬3)∘((¬7)∘ac)))∘ac) (by decide) (by decide) (by rfl) (by rfl)) (¬8) (aO _)))))
      (@aj _ _ _ _ _ (@au _ _ _ _ _ (@cA _ _ _ _ _)))
      (@aU _ _)))) (by intro _;rfl))))))))) (by intro _;rfl))
      (@aj _ _ _ _ _ (@au _ _ _ _ _ (@cA _ _ _ _ _))))))
local macro_rules | `(tactic| simp? [$ts,*]) => `(tactic| simp [$ts,*, gw, nI, aB, gD, aT, cG, aZ, gC, qp, rT, xm, aJ, ao, pI, ae, vC, cH, ag, aa, aR, aW, bU, qQ, sk, jt, Fo, i9, sr, mS, mT, dc, cW, dZ, cv, Bj, jl, i4, pW, eZ, c9, vF, tU, bX, av, ah, bO, dj, aL, bC, yR, eY, ff, jf, dJ, oS, oQ, oP, oO, lY, lX, lZ, ku, lU, v0, lW, rA, v_, rD, oR, rB, rC, l4, l0, ky, l6, wg, ox, oy, oz, oA, vD, ko, kn, jG, jH, List.replicate, -List.map_nil, -List.map_cons, -List.nil_append, -List.cons_append, -Option.bind_some, -Option.map_some, -getElem?_pos, -List.append_nil, vM, vL, vH, vG, vJ, vK, vI, vN])
theorem uh{n k:Int}(h:0 < k):0≤n % k:=Int.emod_nonneg _ (Int.ne_of_gt h)
theorem ui{n k:Int}(h:0 < k):n % k < k:=Int.emod_lt_of_pos _ h
def nx:List Int→Int
  | []=>0
  | d::_=>d
def gS(ds:List Int):Prop:=∀d∈ds,0≤d∧d < 2147483648
theorem Ay{ds:List Int}(h:gS ds):0≤nx ds∧nx ds < 2147483648:=by
  cases ds with
  | nil=>exact⟨Int.le_refl 0,by show(0:Int) < 2147483648;decide⟩
  | cons d r=>exact h d (by simp)
theorem El{ds:List Int}(h:gS ds):gS ds.tail:=fun d hd=>h d (List.mem_of_mem_tail hd)
theorem Cs(ds:List Int):bf [.l (ds.map .int)]=some (.d (.int (nx ds)),[.l (ds.tail.map .int)]):=by
  have hq:∀e:En,e[0]?=some (some (.l (ds.map .int)))→bW false e (.s 0) (.l [])=some (.d (.bool (ds.map PyData.int).isEmpty)):=fun e he=>vV he (qI ds).1
  cases ds with
  | nil=>simp? [bf,rh,hq,nx]
  | cons d r=>simp? [bf,rh,hq,nx]
theorem iq{ds:List Int}(hd:gS ds):∃(n:Int) (ds':List Int),bf [.l (ds.map .int)]=some (.d (.int n),[.l (ds'.map .int)])∧0≤n∧n < 2147483648∧gS ds':=⟨nx ds,ds.tail,Cs ds,(Ay hd).1,(Ay hd).2,El hd⟩
theorem tS(cell k:Int)(h0:0≤k)(h1:k≤1000):∃r,iX [.d (.int cell),.d (.int k)]=some (.d (.int r),[.d (.int cell),.d (.int k)])∧0≤r∧r < 2147483648:=by
  have a1:jm (cell % 2147483647) 48271=true:=iF (by decide) (by decide)
  have a2:jm 7919 k=true:=kN (by decide) (by decide)
  have a3:jm (7919*k) k=true:=iF (by lia) (by lia)
  have a4:jm ((cell % 2147483647*48271+7919*k*k+104729) % 2147483647) ((cell % 2147483647*48271+7919*k*k+104729) % 2147483647)=true:=iF (by lia) (by lia)
  refine⟨_,by simp? [iX,sI,aM,aN,a1,a2,a3,a4];rfl,?_,?_⟩
  · lia
  · lia
theorem oG{ds:List Int}(h:gS ds){r:Int}(h0:0≤r)(h1:r < 2147483648):gS (ds++[r]):=fun d hd=>by
  rcases List.mem_append.mp hd with hd | hd
  · exact h d hd
  · simp at hd;subst hd;exact⟨h0,h1⟩
abbrev dE(ns ds:List Int)(v2 v3 v4:Option Sv):En:=[some (.d (.list (ns.map .int))),some (.l (ds.map .int)),v2,v3,v4]
inductive DI (ns:List Int) (i:Nat):En→Prop
  | mk {ds v2 v3 v4} (hd:gS ds) (hl:ds.length≤1000*i):DI ns i (dE ns ds v2 v3 v4)
inductive DJ (ns:List Int) (k cell:Int) (n i:Nat):En→Prop
  | mk {ds v4} (hd:gS ds) (hl:ds.length=n+i):DJ ns k cell n i (dE ns ds (some (.d (.int k))) (some (.d (.int cell))) v4)
inductive DW (ns:List Int) (k:Int) (v4:Option Sv) (n:Nat):En→Prop
  | mk {cell ds} (hc:0≤cell) (hd:gS ds) (hl:ds.length≤max n 900):DW ns k v4 n (dE ns ds (some (.d (.int k))) (some (.d (.int cell))) v4)
theorem zS(ns:List Int)(hn:ns.length≤63):∃ds,jN [.d (.list (ns.map .int))]=some (.l (ds.map .int),[.d (.list (ns.map .int))])∧gS ds:=by
  have inner:∀(cell k:Int) (ds:List Int) (v4:Option Sv),0≤k→k≤63→gS ds→ds.length≤63000→∃ds' v4',(∀W,dG W iS (ah 4) fX (dE ns ds (some (.d (.int k))) (some (.d (.int cell))) v4)=some (.nx (dE ns ds' (some (.d (.int k))) (some (.d (.int cell))) v4')))∧gS ds'∧ds'.length=ds.length+12:=by
    intro cell k ds v4 k0 k1 hd hl
    obtain⟨e',h1,h2⟩:=cf (own:=[]) (g:=ah 4) (f:=fX) (DJ ns k cell ds.length) (a8 0 12) 0 (dE ns ds (some (.d (.int k))) (some (.d (.int cell))) v4) (fun i x e hx hI=>by
      obtain⟨rfl,hi⟩:=cL hx
      obtain⟨hd',hl'⟩:=hI
      rename_i ds' v4'
      obtain⟨r1,c1,_,_⟩:=tS cell (3*(0+(i:Int))+1) (by lia) (by lia)
      obtain⟨r2,c2,c3,c4⟩:=tS r1 (0+(i:Int)+k+2) (by lia) (by lia)
      have a1:jm 3 (0+(i:Int))=true:=kN (by decide) (by decide)
      refine⟨_,dE ns (ds'++[r2]) (some (.d (.int k))) (some (.d (.int cell))) (some (.d (.int (0+(i:Int))))),rfl,?_,bT,.mk (oG hd' c3 c4) (by simp;lia)⟩
      have hlen:ds'.length < 1000000:=by lia
      simp only [Int.zero_add] at a1 c1 c2
      simp? [dE,fX,c1,c2,aN,a1,hlen]) (.mk hd rfl)
    obtain⟨hd',hl'⟩:=h2
    rename_i ds' v4'
    rw [cN] at hl'
    refine⟨ds',v4',fun W=>?_,hd',by lia⟩
    rw [b_ (show iS _=some (a8 0 12,[],_) from dt (n:=12) rfl (by decide) (by decide))]
    exact h1
  have wh:∀(cell k:Int) (ds:List Int) (v4:Option Sv),0≤cell→gS ds→ds.length≤63100→∃cell' ds',jq (2 ^ 4200) eU iO (dE ns ds (some (.d (.int k))) (some (.d (.int cell))) v4)=some (.nx (dE ns ds' (some (.d (.int k))) (some (.d (.int cell'))) v4))∧0≤cell'∧gS ds'∧ds'.length≤max ds.length 900:=by
    intro cell k ds v4 hc hd hl
    have tst:∀(cell:Int) (ds:List Int),eU (dE ns ds (some (.d (.int k))) (some (.d (.int cell))) v4)=some (decide (1000000000000000000≤cell)&&decide ((ds.length:Int) < 900),dE ns ds (some (.d (.int k))) (some (.d (.int cell))) v4):=by
      intro cell ds
      by_cases h:(1000000000000000000:Int)≤cell
      · simp? [dE,eU,iA,jV,h]
      · simp? [dE,eU,iA,jV,h]
    obtain⟨e0,e',h1,hI,h3⟩:=jv (ft:=eU) (f:=iO) (DW ns k v4 ds.length)
      (fun e=>1000000 - Aw 1 e) (fun e hI=>by
        obtain⟨hc',hd',hl'⟩:=hI
        rename_i cell' ds'
        rw [tst]
        by_cases c1:(1000000000000000000:Int)≤cell'
        · by_cases c2:(ds'.length:Int) < 900
          · refine .inr ⟨_,dE ns (ds'++[cell' % 2147483629]) (some (.d (.int k))) (some (.d (.int (cell' / 2147483629)))) v4,by rw [decide_eq_true c1,decide_eq_true c2];rfl,?_,.mk (by lia) (oG hd' (by lia) (by lia)) (by simp;lia),?_⟩
            · have hlen:ds'.length < 1000000:=by lia
              have b8:Bt 8000 2147483629:=ja (by decide) (by decide)
              simp? [dE,iO,aM,ef,b8,hlen]
            · simp [Aw,dE];lia
          · exact .inl ⟨_,by rw [decide_eq_true c1,decide_eq_false c2];rfl,trivial⟩
        · exact .inl ⟨_,by rw [decide_eq_false c1];rfl,trivial⟩) (2 ^ 4200) _ (.mk hc hd (by lia)) (o6 (m:=20) (Nat.lt_of_le_of_lt (Nat.sub_le _ _) (by decide)) (by decide))
    obtain⟨hc',hd',hl'⟩:=hI
    rename_i cell' ds'
    rw [tst] at h3
    have h4:=(Prod.mk.inj (Option.some.inj h3)).2
    subst h4
    exact⟨cell',ds',h1,hc',hd',hl'⟩
  have turn:∀(i:Nat) (ds:List Int) (v3 v4:Option Sv) (hi:i < ns.length),gS ds→ds.length≤1000*i→∃ds2 v3' v4',eS (dE ns ds (some (.d (.int (i:Int)))) v3 v4)=some (.nx (dE ns ds2 (some (.d (.int (i:Int)))) v3' v4'))∧gS ds2∧ds2.length≤1000*(i+1):=by
    intro i ds v3 v4 hi hd hl
    have hcell:atI (ns.map PyData.int) (i:Int)=some (.int ns[i]):=by
      rw [gL (by lia) (by rw [List.length_map];lia)]
      simp [hi]
    have c0:(0:Int)≤(ns[i].natAbs:Int):=by lia
    have st:aZ 3 (aW (g1 rp) (aa (ao bz (ae 0) (ae 2)) ag)) (dE ns ds (some (.d (.int (i:Int)))) v3 v4)=some (.nx (dE ns ds (some (.d (.int (i:Int)))) (some (.d (.int (ns[i].natAbs:Int)))) v4)):=by
      simp? [dE,hcell]
    generalize (ns[i].natAbs:Int)=cell at c0 st
    have mid:∃ds1 v4',gD (aJ (ao qX (ae 3) (ao oT (vC (.int 10)) (vC (.int 18))))) (dG ([4]++[]) iS (ah 4) fX) cG (dE ns ds (some (.d (.int (i:Int)))) (some (.d (.int cell))) v4)=some (.nx (dE ns ds1 (some (.d (.int (i:Int)))) (some (.d (.int cell))) v4'))∧gS ds1∧ds1.length≤ds.length+12:=by
      by_cases cb:cell < 1000000000000000000
      · obtain⟨ds1,v4',f1,f2,f3⟩:=inner cell (i:Int) ds v4 (by lia) (by lia) hd (by lia)
        refine⟨ds1,v4',?_,f2,by lia⟩
        rw [D6 (e1:=dE ns ds (some (.d (.int (i:Int)))) (some (.d (.int cell))) v4) (by simp? [dE,iA,jV,cb])]
        exact f1 _
      · refine⟨ds,v4,?_,hd,by lia⟩
        rw [D5 (e1:=dE ns ds (some (.d (.int (i:Int)))) (some (.d (.int cell))) v4) (by simp? [dE,iA,jV,cb])]
        rfl
    obtain⟨ds1,v4',m1,m2,m3⟩:=mid
    obtain⟨cell2,ds2,w1,w2,w3,w4⟩:=wh cell (i:Int) ds1 v4' c0 m2 (by lia)
    by_cases c2:(2147483629:Int)≤cell2
    · refine⟨ds2++[cell2 % 2147483629],some (.d (.int cell2)),v4',?_,oG w3 (by lia) (by lia),by simp;lia⟩
      have hlen:ds2.length < 1000000:=by lia
      unfold eS
      rw [aV st,aV m1,aV w1]
      simp? [dE,c2,aM,hlen]
    · refine⟨ds2,some (.d (.int cell2)),v4',?_,w3,by lia⟩
      unfold eS
      rw [aV st,aV m1,aV w1]
      simp? [dE,c2]
  obtain⟨e',h1,hI⟩:=cf (own:=[]) (g:=ah 2) (f:=eS) (DI ns) (a8 0 (min (ns.length:Int) 63).toNat) 0 (dE ns [] none none none) (fun i x e hx hI=>by
    obtain⟨rfl,hi⟩:=cL hx
    obtain⟨hd,hl⟩:=hI
    rename_i ds v2 v3 v4
    rw [Nat.zero_add] at hl ⊢
    obtain⟨ds2,v3',v4',t1,t2,t3⟩:=turn i ds v3 v4 (by lia) hd hl
    exact⟨dE ns ds (some (.d (.int (i:Int)))) v3 v4,_,by simp [ah,dE],t1,bT,.mk t2 t3⟩) (.mk (fun d hd=>by cases hd) (by simp))
  obtain⟨hd,hl⟩:=hI
  rename_i ds v2 v3 v4
  refine⟨ds,?_,hd⟩
  have hf:∀W,dG W kz (ah 2) eS (dE ns [] none none none)=some (.nx (dE ns ds v2 v3 v4)):=fun W=>by
    rw [b_ (show kz _=some (a8 0 (min (ns.length:Int) 63).toNat,[],dE ns [] none none none) from dt (n:=min (ns.length:Int) 63) (by simp? [dE]) (by lia) (by lia))]
    exact h1
  unfold dE at hf
  simp only [List.map_nil] at hf
  simp? [jN,sG,hf]
theorem AD(a b:Int)(hb:Bt 4000 b):ma [.d (.int a),.d (.int b)]=some (.d (.int (Int.gcd a b)),[.d (.int a),.d (.int b)]):=by
  have tst:∀x y:Int,jA [some (.d (.int x)),some (.d (.int y))]=some (!(y==0),[some (.d (.int x)),some (.d (.int y))]):=fun x y=>by simp? [jA]
  obtain⟨e0,e',h1,⟨x,y,he,hg,hy⟩,h3⟩:=jv (ft:=jA) (f:=lB) (fun e=>∃x y,e=[some (.d (.int x)),some (.d (.int y))]∧Int.gcd x y=Int.gcd a b∧Bt 4000 y) (nH 1) (fun e ⟨x,y,he,hg,hy⟩=>by
    subst he
    rw [tst]
    by_cases c:y=0
    · subst c;exact .inl ⟨_,rfl,trivial⟩
    · refine .inr ⟨_,[some (.d (.int y)),some (.d (.int (x.fmod y)))],by rw [beq_false_of_ne c];rfl,by simp? [lB,wb c],⟨y,x.fmod y,rfl,by rw [p7,hg],?_⟩,?_⟩
      · have:=fD x c
        exact Bt.of_le hy (by lia)
      · have:=fD x c
        simpa [nH] using this) (2 ^ 4200) _ ⟨a,b,rfl,rfl,hb⟩ (o6 (m:=4000) (by simpa [nH,Bt] using hb) (by decide))
  subst he
  rw [tst] at h3
  have h4:=Prod.mk.inj (Option.some.inj h3)
  have hy0:y=0:=by simpa using h4.1
  subst hy0
  have h5:=h4.2
  subst h5
  have hs:jq (2 ^ 4200) jA lB [some (.d (.int a)),some (.d (.int b))]=some (.nx [some (.d (.int x)),some (.d (.int 0))]):=h1
  have hg':(x.natAbs:Int)=(Int.gcd a b:Int):=by rw [←hg];simp
  simp only [ma,Aj,gw,nI,aB,gD,aT,cG,aZ,gC,qp,rT,xm,aJ,ao,pI,ae,vC,cH,ag,aa,aR,aW,bU,qQ,sk,jt,Fo,i9,sr,mS,mT,dc,cW,dZ,cv,Bj,jl,i4,pW,eZ,c9,vF,tU,bX,av,ah,bO,dj,aL,bC,yR,eY,ff,jf,dJ,oS,oQ,oP,oO,lY,lX,lZ,ku,lU,v0,lW,rA,v_,rD,oR,rB,rC,l4,l0,ky,l6,wg,ox,oy,oz,oA,vD,ko,kn,jG,jH,List.replicate, -List.map_nil, -List.map_cons, -List.nil_append, -List.cons_append, -Option.bind_some, -Option.map_some, -getElem?_pos, -List.append_nil,vM,vL,vH,vG,vJ,vK,vI,vN]
  simp? [hs,hg']
theorem ka(t b:Int)(hb:0 < b)(h:Bt 4000 b):eB [.d (.int t),.d (.int b)]=some (.d (.tuple [.int (lowM t b).1,.int (lowM t b).2]),[.d (.int t),.d (.int b)]):=by
  have g0:=oU (t:=t) (b:=b) (by lia)
  have g1:(Int.gcd t b:Int)≠0:=by lia
  have g8:Bt 8000 (Int.gcd t b:Int):=(wj (t:=t) (by lia) h).mono (by decide)
  have e:lowM t b=(t.fdiv (Int.gcd t b:Int),b.fdiv (Int.gcd t b:Int)):=by unfold lowM;rw [if_neg (by lia)]
  rw [e]
  simp? [eB,Ak,AD t b h,sT g1 g8]
theorem vp{i:Int}{n:Nat}(h1: -2147483648 < i)(h2:i < 2147483648)(hn:31≤n):Bt n i:=Bt.mono (m:=31) (by unfold Bt;lia) hn
def uf(t b:Int):Prop:=0≤t∧t≤b∧1≤b∧b≤100∧Int.gcd t b=1
theorem j'(n k:Int)(hn:0≤n):∃t b,bE [.d (.int n),.d (.int k)]=some (.d (.tuple [.int t,.int b]),[.d (.int n),.d (.int k)])∧uf t b:=by
  have b9:Bt 8000 9:=ja (by decide) (by decide)
  have b100:Bt 8000 100:=ja (by decide) (by decide)
  have low:∀t b:Int,0 < b→0≤t→t≤b→b≤100→uf (lowM t b).1 (lowM t b).2:=fun t b hb h0 h1 h2=>by
    obtain⟨r1,r2,r3,r4⟩:=rK hb h0 h1 h2
    exact⟨r1,r2,r3,r4,jM (by lia)⟩
  by_cases c0:k=0
  · subst c0
    obtain⟨x,hx,ha⟩:=gK (xs:=[PyData.tuple [.int 1,.int 2],.tuple [.int 1,.int 3],.tuple [.int 2,.int 3],.tuple [.int 1,.int 1],.tuple [.int 0,.int 1],.tuple [.int 3,.int 4]]) (i:=n % 6) (by lia) (by simp;lia)
    obtain⟨t,b,rfl,hc⟩:∃t b,x=.tuple [.int t,.int b]∧uf t b:=by
      simp only [List.mem_cons,List.not_mem_nil,or_false] at hx
      rcases hx with rfl | rfl | rfl | rfl | rfl | rfl<;>exact⟨_,_,rfl,by unfold uf;decide⟩
    exact⟨t,b,by simp? [bE,fW,aM,ha],hc⟩
  · by_cases c1:k=1
    · subst c1
      have hm:(n / 9) % (2+n % 9 - 1) < 2+n % 9 - 1:=Int.emod_lt_of_pos _ (by lia)
      have hm0:0≤(n / 9) % (2+n % 9 - 1):=Int.emod_nonneg _ (by lia)
      refine⟨_,_,?_,low (1+(n / 9) % (2+n % 9 - 1)) (2+n % 9) (by lia) (by lia) (by lia) (by lia)⟩
      have hpos:∀e:En,be e (.d (.int (n / 9))) (.d (.int (2+n % 9 - 1)))=_:=fun e=>aM (by lia)
      have hl:=ka (1+(n / 9) % (2+n % 9 - 1)) (2+n % 9) (by lia) (vp (by lia) (by lia) (by decide))
      simp? [bE,fW,aM,ef,b9,hpos,hl]
    · by_cases c2:k=2
      · subst c2
        have hm:(n / 100) % (1+n % 100+1) < 1+n % 100+1:=Int.emod_lt_of_pos _ (by lia)
        have hm0:0≤(n / 100) % (1+n % 100+1):=Int.emod_nonneg _ (by lia)
        refine⟨_,_,?_,low ((n / 100) % (1+n % 100+1)) (1+n % 100) (by lia) (by lia) (by lia) (by lia)⟩
        have hpos:∀e:En,be e (.d (.int (n / 100))) (.d (.int (1+n % 100+1)))=_:=fun e=>aM (by lia)
        have hl:=ka ((n / 100) % (1+n % 100+1)) (1+n % 100) (by lia) (vp (by lia) (by lia) (by decide))
        simp? [bE,fW,aM,ef,b100,hpos,hl]
      · refine⟨1,1,?_,by unfold uf;decide⟩
        simp? [bE,fW,c0,c1,c2]
theorem zW(n k:Int):∃r,jQ [.d (.int n),.d (.int k)]=some (.d (.int r),[.d (.int n),.d (.int k)])∧0≤r∧r≤1000:=by
  obtain⟨x,hx,ha⟩:=gK (xs:=[PyData.int (n % 7),.int (5+n % 2),.int (n % 1001),.int (1000 - n % 3)]) (i:=k % 4) (by lia) (by simp;lia)
  obtain⟨r,rfl,hr⟩:∃r,x=.int r∧0≤r∧r≤1000:=by
    simp only [List.mem_cons,List.not_mem_nil,or_false] at hx
    rcases hx with rfl | rfl | rfl | rfl<;>exact⟨_,rfl,by lia,by lia⟩
  exact⟨r,by simp? [jQ,sM,aM,ha],hr⟩
abbrev tE(ds:List Int)(things many shape odds ws:Int)(ts:List iu)(v7 v8 v9 v10 v11 v12:Option Sv):En:=[some (.l (ds.map .int)),some (.d (.int things)),some (.d (.int many)),some (.d (.int shape)),some (.d (.int odds)),some (.d (.int ws)),some (.l (ts.map bG)),v7,v8,v9,v10,v11,v12]
inductive TR (things many shape odds ws:Int) (ts:List iu) (k:Option Sv):En→Prop
  | mk {t ds w8 w9 w10 w11 w12} (hd:gS ds) (ht:t.Ok things):TR things many shape odds ws ts k (tE ds things many shape odds ws (ts++[t]) k w8 w9 w10 w11 w12)
inductive TI (things many a b c:Int) (i:Nat):En→Prop
  | mk {ts ds w7 w8 w9 w10 w11 w12} (hd:gS ds) (hl:ts.length=i) (ht:∀t∈ts,t.Ok things):TI things many a b c i (tE ds things many a b c ts w7 w8 w9 w10 w11 w12)
theorem Ej(ds:List Int)(things many shape odds ws:Int)(ts:List iu)(k:Int)(v8 v9 v10 v11 v12:Option Sv)(hd:gS ds)(h2:2≤things)(h12:things≤100)(s0:0≤shape)(s1:shape < 6)(k0:0≤k)(hl:ts.length≤1000):
    ∃e',fZ (tE ds things many shape odds ws ts (some (.d (.int k))) v8 v9 v10 v11 v12)=some (.nx e')∧TR things many shape odds ws ts (some (.d (.int k))) e':=by
  obtain⟨n,d1,tn, -, -,hd1⟩:=iq hd
  obtain⟨m,d2,tm,m0, -,hd2⟩:=iq hd1
  obtain⟨x,hx,ha⟩:=gK (xs:=[PyData.int (n % things),.int 0,.int (k % things),.int (n % things),.int (n % 2),.int (n % things)]) (i:=shape) s0 (by simp;lia)
  have tp:0 < things:=Int.lt_of_lt_of_le (by decide) h2
  have tq:0 < things - 1:=Int.sub_pos_of_lt (Int.lt_of_lt_of_le (by decide) h2)
  have nt:0≤n % things∧n % things < things:=⟨uh tp,ui tp⟩
  have kt:0≤k % things∧k % things < things:=⟨uh tp,ui tp⟩
  obtain⟨one,rfl,o0,o1⟩:∃r,x=.int r∧0≤r∧r < things:=by
    simp only [List.mem_cons,List.not_mem_nil,or_false] at hx
    rcases hx with rfl | rfl | rfl | rfl | rfl | rfl<;>exact⟨_,rfl,by lia,by lia⟩
  have r0:0≤(n / 12) % (things - 1):=uh tq
  have r1:(n / 12) % (things - 1) < things - 1:=ui tq
  have q0:0≤(one+1+(n / 12) % (things - 1)) % things:=uh tp
  have q1:(one+1+(n / 12) % (things - 1)) % things < things:=ui tp
  have qn:(one+1+(n / 12) % (things - 1)) % things≠one:=fun z=>by
    by_cases c:one+1+(n / 12) % (things - 1) < things
    · rw [Int.emod_eq_of_lt (by lia) c] at z;lia
    · have e:(one+1+(n / 12) % (things - 1)) % things=(one+1+(n / 12) % (things - 1) - things) % things:=by rw [Int.sub_emod_right]
      rw [e,Int.emod_eq_of_lt (by lia) (by lia)] at z;lia
  obtain⟨t,b,c1,c2,c3,c4,c5,c6⟩:=j' m odds m0
  obtain⟨w,w1,w2,w3⟩:=zW (m / 10007) ws
  have b12:Bt 8000 12:=ja (by decide) (by decide)
  have b107:Bt 8000 10007:=ja (by decide) (by decide)
  have g1:∀(e:En) (i:Int),be e (.d (.int i)) (.d (.int things))=some (.d (.int (i % things))):=fun e i=>aM tp
  have g2:∀(e:En) (i:Int),be e (.d (.int i)) (.d (.int (things - 1)))=some (.d (.int (i % (things - 1)))):=fun e i=>aM tq
  have hlen:ts.length < 1000000:=by lia
  by_cases c:shape=4
  · subst c
    refine⟨tE d2 things many 4 odds ws (ts++[⟨0,1,t,b,w⟩]) (some (.d (.int k))) (some (.d (.int n))) (some (.d (.int 0))) (some (.d (.int 1))) (some (.d (.int m))) (some (.d (.tuple [.int 0,.int 1]))),?_,.mk hd2 ⟨by show(0:Int)≤0;decide,by show(0:Int) < 1;decide,by show(1:Int) < things;lia,c2,c3,c4,c5,w2,w3,c6⟩⟩
    simp? [tE,fZ,tn,tm,aM,g1,g2,ef,b12,b107,ha,c1,w1,rq,bG,hlen]
    decide
  · refine⟨tE d2 things many shape odds ws (ts++[⟨min one ((one+1+(n / 12) % (things - 1)) % things),max one ((one+1+(n / 12) % (things - 1)) % things),t,b,w⟩]) (some (.d (.int k))) (some (.d (.int n))) (some (.d (.int one))) (some (.d (.int ((one+1+(n / 12) % (things - 1)) % things)))) (some (.d (.int m))) (some (.d (.tuple [.int (min one ((one+1+(n / 12) % (things - 1)) % things)),.int (max one ((one+1+(n / 12) % (things - 1)) % things))]))),?_,.mk hd2 ⟨by show 0≤min _ _;lia,by show min _ _ < max _ _;lia,by show max _ _ < _;lia,c2,c3,c4,c5,w2,w3,c6⟩⟩
    simp? [tE,fZ,tn,tm,aM,g1,g2,ef,b12,b107,ha,c1,w1,rq,bG,hlen,c]
theorem Cu(ds:List Int)(things many:Int)(hd:gS ds)(h2:2≤things)(h12:things≤100)(m0:0≤many)(m1:many≤1000):∃(ts:List iu) (ds':List Int),mh [.l (ds.map .int),.d (.int things),.d (.int many)]=some (.d (.tuple (ts.map bG)),[.l (ds'.map .int),.d (.int things),.d (.int many)])∧gS ds'∧(ts.length:Int)=many∧∀t∈ts,t.Ok things:=by
  obtain⟨n0,d1,t0, -, -,hd1⟩:=iq hd
  obtain⟨n1,d2,t1, -, -,hd2⟩:=iq hd1
  obtain⟨n2,d3,t2, -, -,hd3⟩:=iq hd2
  obtain⟨e',h1,hI⟩:=cf (own:=[]) (g:=ah 7) (f:=fZ) (TI things many (n0 % 6) (n1 % 4) (n2 % 4)) (a8 0 many.toNat) 0 (tE d3 things many (n0 % 6) (n1 % 4) (n2 % 4) [] none none none none none none) (fun i x e hx hI=>by
    obtain⟨rfl,hi⟩:=cL hx
    obtain⟨hd',hl,ht⟩:=hI
    rename_i ts ds' w7 w8 w9 w10 w11 w12
    obtain⟨e9,s1,⟨s2,s3⟩⟩:=Ej ds' things many (n0 % 6) (n1 % 4) (n2 % 4) ts (0+(i:Int)) w8 w9 w10 w11 w12 hd' h2 h12 (uh (by decide)) (ui (by decide)) (by lia) (by lia)
    exact⟨_,_,rfl,s1,bT,.mk s2 (by simp;lia) fun z hz=>by
      rcases List.mem_append.mp hz with hz | hz
      · exact ht z hz
      · simp at hz;subst hz;exact s3⟩) (.mk hd3 rfl fun t ht=>by cases ht)
  obtain⟨hd',hl,ht⟩:=hI
  rename_i ts ds' w7 w8 w9 w10 w11 w12
  refine⟨ts,ds',?_,hd',by rw [hl,cN];lia,ht⟩
  have hf:∀W,dG W l7 (ah 7) fZ (tE d3 things many (n0 % 6) (n1 % 4) (n2 % 4) [] none none none none none none)=some (.nx (tE ds' things many (n0 % 6) (n1 % 4) (n2 % 4) ts w7 w8 w9 w10 w11 w12)):=fun W=>by
    rw [b_ (show l7 _=some (a8 0 many.toNat,[],tE d3 things many (n0 % 6) (n1 % 4) (n2 % 4) [] none none none none none none) from dt (n:=many) (by simp? [tE]) (by lia) (by lia))]
    exact h1
  unfold tE at hf
  simp only [List.map_nil] at hf
  simp? [mh,vi,t0,t1,t2,aM,hf]
abbrev wE(ds:List Int)(most tn things many:Int)(ts:List iu)(way:Int)(ps:List Int)(v8 v9:Option Sv):En:=[some (.l (ds.map .int)),some (.d (.int most)),some (.d (.int tn)),some (.d (.int things)),some (.d (.int many)),some (.d (.tuple (ts.map bG))),some (.d (.int way)),some (.l (ps.map .int)),v8,v9]
inductive WI (most tn things many:Int) (ts:List iu) (way:Int) (i:Nat):En→Prop
  | mk {ps ds w8} (hd:gS ds) (hpl:ps.length=i) (hps:∀p∈ps,0≤p∧p≤20):WI most tn things many ts way i (wE ds most tn things many ts way ps w8 none)
theorem Ek(ds:List Int)(most tn:Int)(hd:gS ds)(m0:0≤most)(m1:most≤12)(k0:0≤tn)(k1:tn≤16):∃(W:br) (ds':List Int),qa [.l (ds.map .int),.d (.int most),.d (.int tn)]=some (.d (ap W),[.l (ds'.map .int),.d (.int most),.d (.int tn)])∧gS ds'∧W.Ok∧W.things≤most∧(W.ties.length:Int)≤tn:=by
  obtain⟨n0,d1,t0, -, -,hd1⟩:=iq hd
  obtain⟨n1,d2,t1, -, -,hd2⟩:=iq hd1
  have mp:0 < most+1:=Int.lt_add_one_of_le m0
  have kp:0 < tn+1:=Int.lt_add_one_of_le k0
  have g0:∀(e:En),be e (.d (.int n0)) (.d (.int (most+1)))=some (.d (.int (n0 % (most+1)))):=fun e=>aM mp
  have g1':∀(e:En),be e (.d (.int n1)) (.d (.int (tn+1)))=some (.d (.int (n1 % (tn+1)))):=fun e=>aM kp
  have th0:0≤n0 % (most+1):=uh mp
  have th1:n0 % (most+1) < most+1:=ui mp
  have ti0:0≤n1 % (tn+1):=uh kp
  have ti1:n1 % (tn+1) < tn+1:=ui kp
  clear mp kp
  generalize n0 % (most+1)=things at th0 th1 g0
  generalize n1 % (tn+1)=tm at ti0 ti1 g1'
  obtain⟨many,hmany,mm,m00,m01⟩:∃many:Int,many=tm*(if decide (1 < things)=true then 1 else 0)∧(1 < things∨many=0)∧0≤many∧many≤tn:=by
    by_cases c:1 < things
    · exact⟨tm,by simp [c],.inl c,ti0,by lia⟩
    · exact⟨0,by simp [c],.inr rfl,by lia,by lia⟩
  have gm:∀e:En,a' e (.d (.int tm)) (.d (.int (if decide (1 < things)=true then 1 else 0)))=some (.d (.int many)):=fun e=>by
    rw [aN (iF (by split<;>decide) (by split<;>decide)),hmany]
  have gi:∀e:En,g1 p6 e [.d (.bool (decide (1 < things)))]=some (.d (.int (if decide (1 < things)=true then 1 else 0))):=fun e=>rfl
  generalize (if decide (1 < things)=true then 1 else 0:Int)=one at gm gi
  obtain⟨ts,d3,t3,hd3,hlen,hts⟩:=Cu d2 (max 2 things) many hd2 (by lia) (by lia) m00 (by lia)
  obtain⟨n4,d4,t4, -, -,hd4⟩:=iq hd3
  obtain⟨e',h1,hI⟩:=cf (own:=[]) (g:=ah 8) (f:=lC) (WI most tn things many ts (n4 % 3)) (a8 0 things.toNat) 0 (wE d4 most tn things many ts (n4 % 3) [] none none) (fun i x e hx hI=>by
    obtain⟨rfl,hi⟩:=cL hx
    obtain⟨hd5,hpl,hps⟩:=hI
    rename_i ps d5 w8
    obtain⟨p1,d6,t6, -, -,hd6⟩:=iq hd5
    obtain⟨p2,d7,t7, -, -,hd7⟩:=iq hd6
    obtain⟨z,hz,ha⟩:=gK (xs:=[PyData.int 20,.int (1+p1 % 3),.int (p2 % 21)]) (i:=n4 % 3) (uh (by decide)) (ui (k:=3) (by decide))
    obtain⟨p,rfl,hp⟩:∃r,z=.int r∧0≤r∧r≤20:=by
      simp only [List.mem_cons,List.not_mem_nil,or_false] at hz
      rcases hz with rfl | rfl | rfl<;>exact⟨_,rfl,by lia,by lia⟩
    refine⟨wE d5 most tn things many ts (n4 % 3) ps (some (.d (.int (0+(i:Int))))) none,wE d7 most tn things many ts (n4 % 3) (ps++[p]) (some (.d (.int (0+(i:Int))))) none,rfl,?_,bT,.mk hd7 (by simp;lia) fun q hq=>by
      rcases List.mem_append.mp hq with hq | hq
      · exact hps q hq
      · simp at hq;subst hq;exact hp⟩
    have hlen:ps.length < 1000000:=by lia
    simp? [wE,lC,t6,t7,aM,ha,hlen]) (.mk hd4 rfl fun p hp=>by cases hp)
  obtain⟨hd5,hpl,hps⟩:=hI
  rename_i ps d5 w8
  have hf:∀W,dG W oW (ah 8) lC (wE d4 most tn things many ts (n4 % 3) [] none none)=some (.nx (wE d5 most tn things many ts (n4 % 3) ps w8 none)):=fun W=>by
    rw [b_ (show oW _=some (a8 0 things.toNat,[],wE d4 most tn things many ts (n4 % 3) [] none none) from dt (n:=things) (by simp? [wE]) (by lia) (by lia))]
    exact h1
  obtain⟨p1,d6,t6, -, -,hd6⟩:=iq hd5
  obtain⟨p2,d7,t7, -, -,hd7⟩:=iq hd6
  obtain⟨p3,d8,t8, -, -,hd8⟩:=iq hd7
  have xp:0 < max 1 many:=Int.lt_of_lt_of_le Int.zero_lt_one (Int.le_max_left _ _)
  have gx:∀(e:En),be e (.d (.int p1)) (.d (.int (max 1 many)))=some (.d (.int (p1 % max 1 many))):=fun e=>aM xp
  have x0:0≤p1 % max 1 many:=uh xp
  have x1:p1 % max 1 many < max 1 many:=ui xp
  obtain⟨z,hz,ha⟩:=gK (xs:=[PyData.int 40,.int (1+p1 % max 1 many),.int (p2 % 41)]) (i:=p3 % 3) (uh (by decide)) (ui (k:=3) (by decide))
  obtain⟨asks,rfl,hasks⟩:∃r,z=.int r∧0≤r∧r≤40:=by
    simp only [List.mem_cons,List.not_mem_nil,or_false] at hz
    rcases hz with rfl | rfl | rfl<;>exact⟨_,rfl,by lia,by lia⟩
  rw [cN] at hpl
  refine⟨⟨things,ts,ps,asks⟩,d8,?_,hd8,⟨th0,by show things≤12;lia,fun t ht=>?_,by show ts.length≤16;lia,by show(ps.length:Int)=things;lia,hps,hasks.1,hasks.2⟩,by show things≤most;lia,by show(ts.length:Int)≤tn;lia⟩
  · unfold wE at hf
    simp only [List.map_nil] at hf
    simp? [qa,Am,t0,t1,g0,g1',gm,gi,t3,t4,aM,hf,t6,t7,t8,gx,ha,ap]
  · rcases mm with c | c
    · have:=hts t ht
      rw [show max 2 things=things by lia] at this
      exact this
    · have:ts=[]:=List.length_eq_zero_iff.mp (by lia)
      subst this;cases ht
def yG:PyData→Bool
  | .int _=>true
  | .bool _=>true
  | _=>false
def yF:PyData→Bool
  | .bool _=>true
  | _=>false
def wq:PyData→Bool
  | .tuple _=>true
  | _=>false
theorem Ar{e:En}{d:PyData}:jI "int" e (.d d)=some (.d (.bool (yG d))):=by cases d<;>rfl
theorem C'{e:En}{d:PyData}:jI "bool" e (.d d)=some (.d (.bool (yF d))):=by cases d<;>rfl
theorem um{e:En}{d:PyData}:jI "tuple" e (.d d)=some (.d (.bool (wq d))):=by cases d<;>rfl
theorem oY{d:PyData}(h:wq d=true):∃ds,d=.tuple ds:=by cases d<;>first | exact⟨_,rfl⟩ | cases h
theorem rF(d:PyData):yk d=(yG d&& !yF d):=by cases d<;>rfl
theorem x4(d:PyData):dC [.d d]=some (.d (.bool (yk d)),[.d d]):=by
  rw [rF]
  have g1:=fun e=>Ar (e:=e) (d:=d)
  have g2:=fun e=>C' (e:=e) (d:=d)
  generalize yG d=a at*
  generalize yF d=b at*
  cases a<;>simp? [dC,k8,g1,g2]
def wH:List PyData:=[.none,.bool true,.bool false,.int 0,.int 1,.int (-1),.int 5,.str "",.str "a",.str "0",.tuple [],.tuple [.int 0],.tuple [.int 0,.int 1],.tuple [.tuple [],.tuple []],.list [],.list [.int 0],.dict [],.dict [(.int 0,.int 1)],.tuple [.none],.tuple [.tuple []],.list [.tuple []],.tuple [.bool true,.bool false],.tuple [.tuple [.int 0,.int 1],.tuple [.int 1,.int 2]],.tuple [.tuple [.tuple [],.tuple []]],.tuple [.str "a",.int 1],.tuple [.tuple [.int 0,.int 1]],.int (10 ^ 30)]
theorem AE(n:Int):∃d∈wH,lg [.d (.int n)]=some (.d d,[.d (.int n)]):=by
  have m0:0≤n % 27:=Int.emod_nonneg _ (by decide)
  have m1:n % 27 < 27:=Int.emod_lt_of_pos _ (by decide)
  obtain⟨d,hd,ha⟩:=gK (xs:=wH) m0 (by show n % 27 < 27;exact m1)
  have gm:∀e,be e (.d (.int n)) (.d (.int 27))=some (.d (.int (n % 27))):=fun e=>aM (by decide)
  have gp:∀e,oT e (.d (.int 10)) (.d (.int 30))=some (.d (.int (10 ^ 30))):=fun e=>iA (i:=10) (j:=30) (by decide)
  refine⟨d,hd,?_⟩
  generalize n % 27=k at*
  generalize hb:(10 ^ 30:Int)=big at*
  rw [show wH=[.none,.bool true,.bool false,.int 0,.int 1,.int (-1),.int 5,.str "",.str "a",.str "0",.tuple [],.tuple [.int 0],.tuple [.int 0,.int 1],.tuple [.tuple [],.tuple []],.list [],.list [.int 0],.dict [],.dict [(.int 0,.int 1)],.tuple [.none],.tuple [.tuple []],.list [.tuple []],.tuple [.bool true,.bool false],.tuple [.tuple [.int 0,.int 1],.tuple [.int 1,.int 2]],.tuple [.tuple [.tuple [],.tuple []]],.tuple [.str "a",.int 1],.tuple [.tuple [.int 0,.int 1]],.int big] by rw [←hb];rfl] at ha
  have gc:∀(e:En) (xs ys:List PyData),e[1]?=some (some (.l xs))→xs.length+ys.length≤1000000→bu e (.s 1) (.l ys)=some (.l (xs++ys)):=fun e xs ys he h=>oM he h
  simp? [lg,Al,gm,gp,gc,ha,lh]
theorem Ct(a b:Bool):mf [.d (.bool a),.d (.bool b)]=some (.d (.bool (a==b)),[.d (.bool a),.d (.bool b)]):=by
  have gi:∀(e:En) (x y:Bool),Dc e (.d (.bool x)) (.d (.bool y))=some (.d (.bool (x==y))):=fun e x y=>rfl
  cases a<;>cases b<;>simp? [mf,vh,gi]
theorem kU(a b:Int)(hb:Bt 4000 b):cg [.d (.int a),.d (.int b)]=some (.d (.int (Int.gcd a b)),[.d (.int a),.d (.int b)]):=by
  have tst:∀x y:Int,bN [some (.d (.int x)),some (.d (.int y))]=some (!(y==0),[some (.d (.int x)),some (.d (.int y))]):=fun x y=>by simp? [bN]
  obtain⟨e0,e',h1,⟨x,y,he,hg,hy⟩,h3⟩:=jv (ft:=bN) (f:=cq) (fun e=>∃x y,e=[some (.d (.int x)),some (.d (.int y))]∧Int.gcd x y=Int.gcd a b∧Bt 4000 y) (nH 1) (fun e ⟨x,y,he,hg,hy⟩=>by
    subst he
    rw [tst]
    by_cases c:y=0
    · subst c;exact .inl ⟨_,rfl,trivial⟩
    · refine .inr ⟨_,[some (.d (.int y)),some (.d (.int (x.fmod y)))],by rw [beq_false_of_ne c];rfl,by simp? [cq,wb c],⟨y,x.fmod y,rfl,by rw [p7,hg],?_⟩,?_⟩
      · have:=fD x c
        exact Bt.of_le hy (by lia)
      · have:=fD x c
        simpa [nH] using this) (2 ^ 4200) _ ⟨a,b,rfl,rfl,hb⟩ (o6 (m:=4000) (by simpa [nH,Bt] using hb) (by decide))
  subst he
  rw [tst] at h3
  have h4:=Prod.mk.inj (Option.some.inj h3)
  have hy0:y=0:=by simpa using h4.1
  subst hy0
  have h5:=h4.2
  subst h5
  have hs:jq (2 ^ 4200) bN cq [some (.d (.int a)),some (.d (.int b))]=some (.nx [some (.d (.int x)),some (.d (.int 0))]):=h1
  have hg':(x.natAbs:Int)=(Int.gcd a b:Int):=by rw [←hg];simp
  simp only [cg,f9,gw,nI,aB,gD,aT,cG,aZ,gC,qp,rT,xm,aJ,ao,pI,ae,vC,cH,ag,aa,aR,aW,bU,qQ,sk,jt,Fo,i9,sr,mS,mT,dc,cW,dZ,cv,Bj,jl,i4,pW,eZ,c9,vF,tU,bX,av,ah,bO,dj,aL,bC,yR,eY,ff,jf,dJ,oS,oQ,oP,oO,lY,lX,lZ,ku,lU,v0,lW,rA,v_,rD,oR,rB,rC,l4,l0,ky,l6,wg,ox,oy,oz,oA,vD,ko,kn,jG,jH,List.replicate, -List.map_nil, -List.map_cons, -List.nil_append, -List.cons_append, -Option.bind_some, -Option.map_some, -getElem?_pos, -List.append_nil,vM,vL,vH,vG,vJ,vK,vI,vN]
  simp? [hs,hg']
theorem mR(t b:Int)(hb:0 < b)(h:Bt 4000 b):dM [.d (.int t),.d (.int b)]=some (.d (dF (lowM t b)),[.d (.int t),.d (.int b)]):=by
  have g0:=oU (t:=t) (b:=b) (by lia)
  have g1:(Int.gcd t b:Int)≠0:=by lia
  have g8:Bt 8000 (Int.gcd t b:Int):=(wj (t:=t) (by lia) h).mono (by decide)
  have e:lowM t b=(t.fdiv (Int.gcd t b:Int),b.fdiv (Int.gcd t b:Int)):=by unfold lowM;rw [if_neg (by lia)]
  have nb:¬b < 0:=by lia
  rw [e]
  simp? [dM,pS,kU t b h,sT g1 g8,nb,dF]
theorem zV{a b:Fr}{n:Nat}(a2:0 < a.2)(b2:0 < b.2)(ha1:Bt n a.1)(ha:Bt n a.2)(hb1:Bt n b.1)(hb:Bt n b.2)(hn:n≤1900):jR [.d (dF a),.d (dF b)]=some (.d (dF (tm a b)),[.d (dF a),.d (dF b)]):=by
  have g1:∀e:En,a' e (.d (.int a.1)) (.d (.int b.1))=some (.d (.int (a.1*b.1))):=fun e=>aN (dO (ha1.mono (by lia)) (hb1.mono (by lia)))
  have g2:∀e:En,a' e (.d (.int a.2)) (.d (.int b.2))=some (.d (.int (a.2*b.2))):=fun e=>aN (dO (ha.mono (by lia)) (hb.mono (by lia)))
  have tl:=mR (a.1*b.1) (a.2*b.2) (Int.mul_pos a2 b2) ((ha.mul hb).mono (by lia))
  unfold tm
  unfold dF at*
  simp? [jR,sN,g1,g2,tl]
theorem zQ{a b:Fr}{n:Nat}(a2:0 < a.2)(b2:0 < b.2)(ha1:Bt n a.1)(ha:Bt n a.2)(hb1:Bt n b.1)(hb:Bt n b.2)(hn:n≤1900):jP [.d (dF a),.d (dF b)]=some (.d (dF (tm a b)),[.d (dF a),.d (dF b)]):=by
  have g1:∀e:En,a' e (.d (.int a.1)) (.d (.int b.1))=some (.d (.int (a.1*b.1))):=fun e=>aN (dO (ha1.mono (by lia)) (hb1.mono (by lia)))
  have g2:∀e:En,a' e (.d (.int a.2)) (.d (.int b.2))=some (.d (.int (a.2*b.2))):=fun e=>aN (dO (ha.mono (by lia)) (hb.mono (by lia)))
  have tl:=ka (a.1*b.1) (a.2*b.2) (Int.mul_pos a2 b2) ((ha.mul hb).mono (by lia))
  unfold tm
  unfold dF at*
  simp? [jP,sL,g1,g2,tl]
theorem oh(d:PyData)(n:Int):cm [.d d,.d (.int n)]=some (.d (.bool (jX n d)),[.d d,.d (.int n)]):=by
  have g:=fun e=>um (e:=e) (d:=d)
  cases c:wq d with
  | false=>
    rw [c] at g
    have e:jX n d=false:=by cases d<;>first | rfl | cases c
    rw [e]
    simp? [cm,iw,g]
  | true=>
    rw [c] at g
    obtain⟨ds,rfl⟩:=oY c
    simp? [cm,iw,g,jX]
theorem mQ{d:PyData}(h:d.showable=true):bw [.d d]=some (.d (.bool (lm d)),[.d d]):=by
  have tr:=oh d 2
  cases c:jX 2 d with
  | false=>
    rw [c] at tr
    have e:lm d=false:=by
      cases q:lm d with
      | false=>rfl
      | true=>
        unfold lm at q
        split at q
        · simp [jX] at c
        · cases q
    rw [e]
    simp? [bw,cC,tr]
  | true=>
    obtain⟨x,y,rfl⟩:=D4 c
    rw [c] at tr
    have nx:=x4 x
    have ny:=x4 y
    cases hx:yk x with
    | false=>
      rw [hx] at nx
      have e:lm (.tuple [x,y])=false:=by cases x<;>first | rfl | simp [yk] at hx
      rw [e]
      simp? [bw,cC,tr,nx]
    | true=>
      obtain⟨t,rfl⟩:=lE hx
      rw [hx] at nx
      cases hy:yk y with
      | false=>
        rw [hy] at ny
        have e:lm (.tuple [.int t,y])=false:=by cases y<;>first | rfl | simp [yk] at hy
        rw [e]
        simp? [bw,cC,tr,nx,ny]
      | true=>
        obtain⟨b,rfl⟩:=lE hy
        rw [hy] at ny
        by_cases c1:b < 1
        · have e:lm (.tuple [.int t,.int b])=false:=by
            simp only [lm,Bool.and_eq_false_iff,decide_eq_false_iff_not];left;lia
          rw [e]
          simp? [bw,cC,tr,nx,ny,c1]
        · simp only [PyData.showable,PyData.showableAll,Bool.and_eq_true,decide_eq_true_eq] at h
          have tl:=mR t b (by lia) (vo h.2.1 (by lia))
          have e:lm (.tuple [.int t,.int b])=((lowM t b).1==t&&(lowM t b).2==b):=by
            rw [yN (by lia)]
            show(decide (1≤b)&&_)=_
            rw [decide_eq_true (by lia),Bool.true_and]
          rw [e]
          unfold dF at tl
          have ge:=fun e=>vY (e:=e) (a:=(lowM t b).1) (b:=(lowM t b).2) (c:=t) (d:=b)
          generalize lowM t b=p at*
          simp? [bw,cC,tr,nx,ny,c1,tl,ge]
theorem zT{a b:Fr}(a2:0 < a.2)(b2:0 < b.2)(ha1:Bt 3600 a.1)(ha:Bt 3600 a.2)(hb1:Bt 300 b.1)(hb:Bt 300 b.2):mj [.d (dF a),.d (dF b)]=some (.d (dF (pl a b)),[.d (dF a),.d (dF b)]):=by
  have g1:∀e:En,a' e (.d (.int a.1)) (.d (.int b.2))=some (.d (.int (a.1*b.2))):=fun e=>aN (dO (ha1.mono (by lia)) (hb.mono (by lia)))
  have g3:∀e:En,a' e (.d (.int b.1)) (.d (.int a.2))=some (.d (.int (b.1*a.2))):=fun e=>aN (dO (hb1.mono (by lia)) (ha.mono (by lia)))
  have g2:∀e:En,a' e (.d (.int a.2)) (.d (.int b.2))=some (.d (.int (a.2*b.2))):=fun e=>aN (dO (ha.mono (by lia)) (hb.mono (by lia)))
  have tl:=mR (a.1*b.2+b.1*a.2) (a.2*b.2) (Int.mul_pos a2 b2) ((ha.mul hb).mono (by lia))
  unfold pl
  unfold dF at*
  simp? [mj,vk,g1,g2,g3,tl]
theorem xZ{a b:Fr}(a2:0 < a.2)(b2:0 < b.2)(ha1:Bt 3600 a.1)(ha:Bt 3600 a.2)(hb1:Bt 300 b.1)(hb:Bt 300 b.2):me [.d (dF a),.d (dF b)]=some (.d (dF (pl a b)),[.d (dF a),.d (dF b)]):=by
  have g1:∀e:En,a' e (.d (.int a.1)) (.d (.int b.2))=some (.d (.int (a.1*b.2))):=fun e=>aN (dO (ha1.mono (by lia)) (hb.mono (by lia)))
  have g3:∀e:En,a' e (.d (.int b.1)) (.d (.int a.2))=some (.d (.int (b.1*a.2))):=fun e=>aN (dO (hb1.mono (by lia)) (ha.mono (by lia)))
  have g2:∀e:En,a' e (.d (.int a.2)) (.d (.int b.2))=some (.d (.int (a.2*b.2))):=fun e=>aN (dO (ha.mono (by lia)) (hb.mono (by lia)))
  have tl:=ka (a.1*b.2+b.1*a.2) (a.2*b.2) (Int.mul_pos a2 b2) ((ha.mul hb).mono (by lia))
  unfold pl
  unfold dF at*
  simp? [me,vg,g1,g2,g3,tl]
structure ir (M:Int) (L:List Fr):Prop where
  m0:0 < M
  bt:Bt 3500 M
  rok:∀f∈L,t_ M f
  small:∀f∈L,Bt 300 f.2
  len:L.length≤1000
theorem ir.part{M:Int}{L:List Fr}(h:ir M L)(i:Nat):0 < (aY (0,1) (L.take i)).2∧Bt 3600 (aY (0,1) (L.take i)).1∧Bt 3600 (aY (0,1) (L.take i)).2:=by
  have s:=(xW (M:=M) (L:=L.take i) fun f hf=>h.rok f (List.mem_of_mem_take hf)).1
  have l:(L.take i).length≤1000:=by rw [List.length_take];have:=h.len;lia
  have b:=s.bt (n:=3500) (m:=10) h.bt h.m0 (by unfold Bt;lia)
  exact⟨s.pos,b.1.mono (by decide),b.2.mono (by decide)⟩
theorem ir.one{M:Int}{L:List Fr}(h:ir M L){f:Fr}(hf:f∈L):0 < f.2∧Bt 300 f.1∧Bt 300 f.2:=by
  have r:=h.rok f hf
  exact⟨r.pos,(h.small f hf).of_le (by have:=r.lo;have:=r.hi;lia),h.small f hf⟩
theorem qL{L:List Fr}{i:Nat}{f:Fr}(h:L[i]?=some f):aY (0,1) (L.take (i+1))=pl (aY (0,1) (L.take i)) f:=by
  rw [List.take_succ,h]
  unfold aY
  rw [List.foldl_append]
  rfl
theorem r8{M:Int}{L:List Fr}(h:ir M L){N:Option Sv}{own:fy}(ho:∀p∈own,p.1=0∧N=some (.l p.2)):∃v2,iz own (ah 2) f_ (L.map dF) [N,some (.d (.tuple [.int 0,.int 1])),none]=some (.nx [N,some (.d (dF (aY (0,1) L))),v2]):=by
  obtain⟨e',h1,⟨v2,he⟩⟩:=cf (own:=own) (g:=ah 2) (f:=f_) (fun i e=>∃v2,e=[N,some (.d (dF (aY (0,1) (L.take i)))),v2]) (L.map dF) 0 [N,some (.d (.tuple [.int 0,.int 1])),none] (fun i x e hx ⟨v2,he⟩=>by
    subst he
    rw [Nat.zero_add] at*
    rw [List.getElem?_map] at hx
    obtain⟨f,hf,rfl⟩:=Option.map_eq_some_iff.mp hx
    obtain⟨p1,p2,p3⟩:=h.part i
    obtain⟨q1,q2,q3⟩:=h.one (List.mem_of_getElem? hf)
    have tp:=zT p1 q1 p2 p3 q2 q3
    rw [←qL hf] at tp
    refine⟨[N,some (.d (dF (aY (0,1) (L.take i)))),some (.d (dF f))],[N,some (.d (dF (aY (0,1) (L.take (i+1))))),some (.d (dF f))],rfl,?_,fun p hp=>by obtain⟨e1,e2⟩:=ho p hp;rw [e1,e2];rfl,_,rfl⟩
    generalize dF (aY (0,1) (L.take i))=A at*
    generalize dF (aY (0,1) (L.take (i+1)))=B at*
    generalize dF f=C at*
    simp? [f_,tp]) ⟨none,rfl⟩
  rw [Nat.zero_add,List.length_map,List.take_length] at he
  subst he
  exact⟨v2,h1⟩
theorem pD{M:Int}{L:List Fr}(h:ir M L){N:Sv}(hN:N=.d (.tuple (L.map dF))∨N=.d (.list (L.map dF))):fJ [N]=some (.d (dF (aY (0,1) L)),[N]):=by
  obtain⟨v2,hl⟩:=r8 h (N:=some N) (own:=[]) fun p hp=>by cases hp
  have hs:∀Wl,dG Wl iU (ah 2) f_ [some N,some (.d (.tuple [.int 0,.int 1])),none]=some (.nx [some N,some (.d (dF (aY (0,1) L))),v2]):=fun Wl=>by
    rcases hN with rfl | rfl
    · rw [b_ (show iU _=_ from kJ rfl)]
      exact hl
    · rw [b_ (show iU _=_ from sV rfl)]
      exact hl
  generalize dF (aY (0,1) L)=q at hs ⊢
  rcases hN with rfl | rfl<;>(generalize L.map dF=M at hs ⊢;simp? [fJ,sO,hs])
theorem kL{M:Int}{L:List Fr}(h:ir M L){N:Option Sv}{own:fy}(ho:∀p∈own,p.1=0∧N=some (.l p.2)):∃v2,iz own (ah 2) gP (L.map dF) [N,some (.d (.tuple [.int 0,.int 1])),none]=some (.nx [N,some (.d (dF (aY (0,1) L))),v2]):=by
  obtain⟨e',h1,⟨v2,he⟩⟩:=cf (own:=own) (g:=ah 2) (f:=gP) (fun i e=>∃v2,e=[N,some (.d (dF (aY (0,1) (L.take i)))),v2]) (L.map dF) 0 [N,some (.d (.tuple [.int 0,.int 1])),none] (fun i x e hx ⟨v2,he⟩=>by
    subst he
    rw [Nat.zero_add] at*
    rw [List.getElem?_map] at hx
    obtain⟨f,hf,rfl⟩:=Option.map_eq_some_iff.mp hx
    obtain⟨p1,p2,p3⟩:=h.part i
    obtain⟨q1,q2,q3⟩:=h.one (List.mem_of_getElem? hf)
    have tp:=xZ p1 q1 p2 p3 q2 q3
    rw [←qL hf] at tp
    refine⟨[N,some (.d (dF (aY (0,1) (L.take i)))),some (.d (dF f))],[N,some (.d (dF (aY (0,1) (L.take (i+1))))),some (.d (dF f))],rfl,?_,fun p hp=>by obtain⟨e1,e2⟩:=ho p hp;rw [e1,e2];rfl,_,rfl⟩
    generalize dF (aY (0,1) (L.take i))=A at*
    generalize dF (aY (0,1) (L.take (i+1)))=B at*
    generalize dF f=C at*
    simp? [gP,tp]) ⟨none,rfl⟩
  rw [Nat.zero_add,List.length_map,List.take_length] at he
  subst he
  exact⟨v2,h1⟩
theorem xY{M:Int}{L:List Fr}(h:ir M L){N:Sv}(hN:N=.d (.tuple (L.map dF))∨N=.d (.list (L.map dF))∨N=.l (L.map dF)):jO [N]=some (.d (dF (aY (0,1) L)),[N]):=by
  rcases hN with rfl | rfl | rfl
  · obtain⟨v2,hl⟩:=kL h (N:=some (.d (.tuple (L.map dF)))) (own:=[]) fun p hp=>by cases hp
    have hs:=fun Wl=>b_ (W:=Wl) (g:=ah 2) (f:=gP) (e:=[some (.d (.tuple (L.map dF))),some (.d (.tuple [.int 0,.int 1])),none]) (show jJ _=_ from kJ rfl)
    rw [hl] at hs
    generalize dF (aY (0,1) L)=q at hs ⊢
    generalize L.map dF=M at hs ⊢
    simp? [jO,sJ,hs]
  · obtain⟨v2,hl⟩:=kL h (N:=some (.d (.list (L.map dF)))) (own:=[]) fun p hp=>by cases hp
    have hs:=fun Wl=>b_ (W:=Wl) (g:=ah 2) (f:=gP) (e:=[some (.d (.list (L.map dF))),some (.d (.tuple [.int 0,.int 1])),none]) (show jJ _=_ from sV rfl)
    rw [hl] at hs
    generalize dF (aY (0,1) L)=q at hs ⊢
    generalize L.map dF=M at hs ⊢
    simp? [jO,sJ,hs]
  · obtain⟨v2,hl⟩:=kL h (N:=some (.l (L.map dF))) (own:=[(0,L.map dF)]) fun p hp=>by simp at hp;subst hp;exact⟨rfl,rfl⟩
    have hs:∀Wl,0∉Wl→dG Wl jJ (ah 2) gP [some (.l (L.map dF)),some (.d (.tuple [.int 0,.int 1])),none]=some (.nx [some (.l (L.map dF)),some (.d (dF (aY (0,1) L))),v2]):=fun Wl hW=>by
      unfold dG
      rw [show jJ [some (.l (L.map dF)),some (.d (.tuple [.int 0,.int 1])),none]=some (L.map dF,[(0,L.map dF)],[some (.l (L.map dF)),some (.d (.tuple [.int 0,.int 1])),none]) from rfl]
      simpa [hW] using hl
    generalize dF (aY (0,1) L)=q at hs ⊢
    generalize L.map dF=M at hs ⊢
    simp? [jO,sJ,hs]
theorem pC{p:Int}(p0:0≤p)(p1:p≤100)(f:Fr):gY [.d (.tuple [.int p,.int 1]),.d (dF f)]=some (.d (.bool (decide (p*f.2 < f.1))),[.d (.tuple [.int p,.int 1]),.d (dF f)]):=by
  have g1:∀e:En,a' e (.d (.int p)) (.d (.int f.2))=some (.d (.int (p*f.2))):=fun e=>aN (kN (by lia) (by lia))
  have g2:∀e:En,a' e (.d (.int f.1)) (.d (.int 1))=some (.d (.int f.1)):=fun e=>by rw [aN (iF (by decide) (by decide)),Int.mul_one]
  have gl:∀e:En,qX e (.d (.int (p*f.2))) (.d (.int f.1))=some (.d (.bool (decide (p*f.2 < f.1)))):=fun e=>rfl
  generalize decide (p*f.2 < f.1)=bb at*
  unfold dF
  simp? [gY,vj,g1,g2,gl]
theorem Co{a b:Fr}(h1:Bt 4000 a.1)(h2:Bt 4000 a.2)(h3:Bt 4000 b.1)(h4:Bt 4000 b.2):md [.d (dF a),.d (dF b)]=some (.d (.bool (decide (a.1*b.2 < b.1*a.2))),[.d (dF a),.d (dF b)]):=by
  have g1:∀e:En,a' e (.d (.int a.1)) (.d (.int b.2))=some (.d (.int (a.1*b.2))):=fun e=>aN (dO h1 h4)
  have g2:∀e:En,a' e (.d (.int b.1)) (.d (.int a.2))=some (.d (.int (b.1*a.2))):=fun e=>aN (dO h3 h2)
  have gl:∀e:En,qX e (.d (.int (a.1*b.2))) (.d (.int (b.1*a.2)))=some (.d (.bool (decide (a.1*b.2 < b.1*a.2)))):=fun e=>rfl
  generalize decide (a.1*b.2 < b.1*a.2)=bb at*
  unfold dF
  simp? [md,vf,g1,g2,gl]
theorem tj{W:br}(ok:W.Ok){ws:List Fr}(h:∀f∈ws,S1 210 f)(hl:ws.length≤16):ir (cM W ws) ws:=by
  obtain⟨m0,mb⟩:=vt ok h
  exact⟨m0,mb.mono (by lia),fun f hf=>lG h hf,fun f hf=>(h f hf).bt.mono (by decide),by lia⟩
theorem tL{W:br}(ok:W.Ok){ws:List Fr}(h:∀f∈ws,S1 210 f)(hl:ws.length≤16)(e:Int):ir (cM W ws) ((fQ W ws e).map (·.1))∧ir (cM W ws) ((fQ W ws e).map fun p=>tm p.1 (kj p.2)):=by
  obtain⟨m0,mb⟩:=vt ok h
  have sl:=lH (W:=W) (ws:=ws) (e:=e)
  refine⟨⟨m0,mb.mono (by lia),fun f hf=>?_,fun f hf=>?_,by rw [List.length_map];lia⟩,⟨m0,mb.mono (by lia),fun f hf=>?_,fun f hf=>?_,by rw [List.length_map];lia⟩⟩
  · obtain⟨p,hp,rfl⟩:=List.mem_map.mp hf
    exact lG h (cF hp).1
  · obtain⟨p,hp,rfl⟩:=List.mem_map.mp hf
    exact(h _ (cF hp).1).bt.mono (by decide)
  · obtain⟨p,hp,rfl⟩:=List.mem_map.mp hf
    exact xK ok h (cF hp).1 (cF hp).2.1
  · obtain⟨p,hp,rfl⟩:=List.mem_map.mp hf
    have a:=h _ (cF hp).1
    have c:=jb ok (cF hp).2.1
    have r:=(a.rok (Int.dvd_refl _)).tm (c.rok (Int.dvd_refl _))
    exact((r.bt (n:=217) ((a.bt.mul c.bt).mono (by decide)) (Int.mul_pos a.low.pos c.low.pos)).2).mono (by decide)
theorem FC{W:br}(e:En):bz e (.d (ap W)) (.d (.int 0))=some (.d (.int W.things)):=by rw [jE,lW,ox];rfl
theorem As{W:br}(e:En):bz e (.d (ap W)) (.d (.int 1))=some (.d (.tuple (W.ties.map bG))):=by rw [jE,lW,oy];rfl
theorem ET{W:br}(e:En):bz e (.d (ap W)) (.d (.int 2))=some (.d (.tuple (W.pat.map .int))):=by rw [jE,lW,oz];rfl
theorem EU{W:br}(e:En):bz e (.d (ap W)) (.d (.int 3))=some (.d (.int W.asks)):=by rw [jE,lW,oA];rfl
theorem dB{α:Type}(l:List α):l.filter (fun _=>true)=l:=List.filter_eq_self.mpr fun _ _=>rfl
def nu:PyData→Bool
  | .tuple [.int t,.int b]=>lm (.tuple [.int t,.int b])&&decide (0≤t)
  | _=>false
theorem lT{d:PyData}(h:lm d=true):∃f:Fr,d=dF f∧ly f:=by
  unfold lm at h
  split at h
  · rename_i t b
    simp only [Bool.and_eq_true,decide_eq_true_eq] at h
    exact⟨(t,b),rfl,⟨by show(0:Int) < b;lia,h.2⟩⟩
  · cases h
theorem oJ{f:Fr}(h:ly f):lm (dF f)=true:=by
  have:=h.pos
  simp only [dF,lm,Bool.and_eq_true,decide_eq_true_eq]
  exact⟨by lia,h.cop⟩
theorem ro{d:PyData}(h:nu d=true):∃f:Fr,d=dF f∧ly f∧0≤f.1:=by
  unfold nu at h
  split at h
  · rename_i t b
    simp only [Bool.and_eq_true,decide_eq_true_eq] at h
    obtain⟨f,hf,hl⟩:=lT h.1
    simp only [dF,PyData.tuple.injEq,List.cons.injEq,PyData.int.injEq,and_true] at hf
    exact⟨f,by rw [hf.1,hf.2];rfl,hl,by rw [←hf.1];exact h.2⟩
  · cases h
theorem vP{f:Fr}(h:ly f)(h0:0≤f.1):nu (dF f)=true:=by
  have:=oJ h
  unfold dF at this ⊢
  simp only [nu,this,Bool.true_and,decide_eq_true_eq]
  exact h0
theorem qN{d:PyData}(hs:d.showable=true):ci [.d d]=some (.d (.bool (nu d)),[.d d]):=by
  have t:=mQ hs
  cases c:lm d with
  | false=>
    rw [c] at t
    have e:nu d=false:=by
      cases q:nu d with
      | false=>rfl
      | true=>
        obtain⟨f,rfl,hl,_⟩:=ro q
        rw [oJ hl] at c;cases c
    rw [e]
    simp? [ci,eX,t]
  | true=>
    rw [c] at t
    obtain⟨f,rfl,hl⟩:=lT c
    have e:nu (dF f)=decide (0≤f.1):=by
      unfold dF at c ⊢
      simp only [nu,c,Bool.true_and]
    rw [e]
    have gg:∀e:En,AZ e (.d (.int f.1)) (.d (.int 0))=some (.d (.bool (decide (0≤f.1)))):=fun e=>rfl
    generalize decide (0≤f.1)=bb at*
    unfold dF at t ⊢
    simp? [ci,eX,t,gg]
def lx(n:Int):PyData→Bool
  | .tuple ds=>((ds.length:Int)==n)&&ds.all nu
  | _=>false
theorem rZ{d:PyData}(hs:d.showable=true){n:Int}(hn:n≤65535):bi [.d d,.d (.int n)]=some (.d (.bool (lx n d)),[.d d,.d (.int n)]):=by
  have tr:=oh d n
  cases c:jX n d with
  | false=>
    rw [c] at tr
    have e:lx n d=false:=by
      cases d with
      | tuple ds=>have c':((ds.length:Int)==n)=false:=c;simp only [lx,c',Bool.false_and]
      | _=>rfl
    rw [e]
    simp? [bi,dm,tr]
  | true=>
    cases d with
    | tuple ds=>
      have c':((ds.length:Int)==n)=true:=c
      have c2:(ds.length:Int)=n:=by simpa using c'
      rw [c] at tr
      simp only [PyData.showable] at hs
      obtain⟨t',hf⟩:=cQ (cs:=[]) (ft:=bB) (fe:=bV) (b:=fun _=>true) (y:=fun d=>.bool (nu d)) ds none [] (fun x _=>rfl) (fun x hx _=>by
        have t:=qN (pM hs x hx)
        generalize nu x=bb at*
        simp? [bV,t]) (by simp;lia)
      have hv:=gH (cp:=[]) (nT:=1) (fi:=eA) (g:=ah 0) (ft:=bB) (fe:=bV) (e:=[some (.d (.tuple ds)),some (.d (.int n))]) (cs:=[]) (t:=[none]) (t':=[t']) (kJ (fa:=ae 0) rfl) rfl rfl hf
      rw [List.nil_append,dB] at hv
      have ga:=fun e=>pY (e:=e) nu ds
      rw [show lx n (.tuple ds)=ds.all nu by simp only [lx,c',Bool.true_and]]
      generalize ds.all nu=bb at*
      generalize ds.map (fun d=>PyData.bool (nu d))=M at*
      simp? [bi,dm,tr,hv,ga]
    | _=>simp [jX] at c
theorem oK:∀{ds:List PyData},ds.all nu=true→∃ws:List Fr,ds=ws.map dF∧∀f∈ws,ly f∧0≤f.1
  | [],_=>⟨[],rfl,fun _ h=>by cases h⟩
  | d::r,h=>by
    rw [List.all_cons,Bool.and_eq_true] at h
    obtain⟨ws,rfl,hw⟩:=oK h.2
    obtain⟨f,rfl,hl,h0⟩:=ro h.1
    refine⟨f::ws,rfl,fun g hg=>?_⟩
    rcases List.mem_cons.mp hg with rfl | hg
    · exact⟨hl,h0⟩
    · exact hw g hg
def wi(p:Fr × Int):Bool:=decide (p.1.1≤p.2*p.1.2)
def uC(W:br)(ws:List Fr)(e:Nat):Bool:=(yL W ws e).all wi
def qg(p:Fr × iu):PyData:=.tuple [dF p.1,bG p.2]
theorem mV:∀(ws:List Fr) (ts:List iu),i3 (ws.map dF) (ts.map bG)=(ws.zip ts).map qg
  | [],_=>by cases ‹List iu›<;>rfl
  | _::_,[]=>rfl
  | w::ws,t::ts=>by
    show PyData.tuple [dF w,bG t]::i3 (ws.map dF) (ts.map bG)=_
    rw [mV ws ts]
    rfl
def A8(e:Int):PyData→Bool
  | .tuple [_,.tuple [.int o,.int h,_,_]]=>o==e || h==e
  | _=>false
def Fb:PyData→PyData
  | .tuple [s,.tuple [_,_,c,_]]=>.tuple [s,c]
  | _=>.none
def u9(p:Fr × iu):PyData:=.tuple [dF p.1,dF (kj p.2)]
def EN:PyData→PyData
  | .tuple [s,_]=>s
  | _=>.none
def q_:PyData→Fr
  | .tuple [.int a,.int b]=>(a,b)
  | _=>(0,1)
def Ge:PyData→PyData
  | .tuple [s,c]=>dF (tm (q_ s) (q_ c))
  | _=>.none
def yc:PyData→En
  | .tuple [a,b]=>[some (.d a),some (.d b)]
  | _=>[]
theorem yd{cs:En}{i j:Nat}(hi:i=cs.length)(hj:j=cs.length+1){x a b:PyData}(hx:x=.tuple [a,b])(t:En)(ht:t.length=2):bX (av (ah i) (av (ah j) bO)) x (cs++t)=some (cs++yc x):=by
  subst hx hi hj
  rcases t with _ | ⟨a1,_ | ⟨a2,_ | ⟨a3,r⟩⟩⟩
  · simp at ht
  · simp at ht
  · simp [bX,av,ah,bO,yc]
  · simp at ht
theorem xT{W:br}{ws:List Fr}{e:Int}{a b c d:Option Sv}(hl:ws.length≤1000):bF [(2,"thing")] 2 cT (bX (av (ah 1) (av (ah 2) bO))) bK bL [some (.d (ap W)),some (.d (.tuple (ws.map dF))),some (.d (.int e)),d]=some (.l ((fQ W ws e).map u9),[some (.d (ap W)),some (.d (.tuple (ws.map dF))),some (.d (.int e)),d]):=by
  have g1':=As (W:=W)
  have hz:=mV ws W.ties
  obtain⟨t2,ht2,hf2⟩:=e6 (cs:=[some (.d (.int e))]) (g:=bX (av (ah 1) (av (ah 2) bO))) (ft:=bK) (fe:=bL) (b:=A8 e) (y:=Fb) (u:=yc) 2 (i3 (ws.map dF) (W.ties.map bG)) [none,none] [] rfl (fun x hx t ht=>by
    rw [hz] at hx
    obtain⟨p,_,rfl⟩:=List.mem_map.mp hx
    exact yd rfl rfl rfl t ht) (fun x hx=>by
    rw [hz] at hx
    obtain⟨p,_,rfl⟩:=List.mem_map.mp hx
    rfl) (fun x hx=>by
    rw [hz] at hx
    obtain⟨p,_,rfl⟩:=List.mem_map.mp hx
    show bK [some (.d (.int e)),some (.d (dF p.1)),some (.d (bG p.2))]=some (A8 e (qg p),[some (.d (.int e)),some (.d (dF p.1)),some (.d (bG p.2))])
    have gi:∀(e':En),yi false e' (.d (.int e)) (.d (.tuple [.int p.2.one,.int p.2.other]))=some (.d (.bool (p.2.one==e || p.2.other==e))):=fun e'=>jH
    rw [show A8 e (qg p)=(p.2.one==e || p.2.other==e) from rfl]
    have cu:L2.cutD [PyData.int p.2.one,.int p.2.other,.tuple [.int p.2.top,.int p.2.bot],.int p.2.worth] none (some 2)=[.int p.2.one,.int p.2.other]:=rfl
    generalize (p.2.one==e || p.2.other==e)=bb at*
    generalize dF p.1=FF at*
    unfold bG
    simp? [bK,cu,gi]) (fun x hx _=>by
    rw [hz] at hx
    obtain⟨p,_,rfl⟩:=List.mem_map.mp hx
    show bL [some (.d (.int e)),some (.d (dF p.1)),some (.d (bG p.2))]=some (.d (.tuple [dF p.1,.tuple [.int p.2.top,.int p.2.bot]]),[some (.d (.int e)),some (.d (dF p.1)),some (.d (bG p.2))])
    generalize dF p.1=FF at*
    unfold bG
    simp? [bL]) (by
    have:=L2.zipD_len (ws.map dF) (W.ties.map bG)
    simp at this ⊢
    lia)
  have hv:=gH (cp:=[(2,"thing")]) (nT:=2) (fi:=cT) (g:=bX (av (ah 1) (av (ah 2) bO))) (ft:=bK) (fe:=bL) (e:=[some (.d (ap W)),some (.d (.tuple (ws.map dF))),some (.d (.int e)),d]) (e1:=[some (.d (ap W)),some (.d (.tuple (ws.map dF))),some (.d (.int e)),d]) (items:=i3 (ws.map dF) (W.ties.map bG)) (cs:=[some (.d (.int e))]) (t:=[none,none]) (t':=t2) (by
    generalize W.ties.map bG=TT at*
    generalize ws.map dF=FF at*
    simp? [cT,nF,rY,g1']) rfl rfl hf2
  rw [hv,List.nil_append,hz]
  congr 3
  unfold fQ
  rw [List.filter_map,List.map_map]
  rfl
theorem vS{W:br}{ws:List Fr}{e:Int}{a b c:Option Sv}(hl:ws.length≤1000):bF [] 2 gj (bX (av (ah 0) (av (ah 1) bO))) bB ee [a,b,c,some (.l ((fQ W ws e).map u9))]=some (.l (((fQ W ws e).map (·.1)).map dF),[a,b,c,some (.l ((fQ W ws e).map u9))]):=by
  have sl:=lH (W:=W) (ws:=ws) (e:=e)
  obtain⟨t2,ht2,hf2⟩:=e6 (cs:=[]) (g:=bX (av (ah 0) (av (ah 1) bO))) (ft:=bB) (fe:=ee) (b:=fun _=>true) (y:=EN) (u:=yc) 2 ((fQ W ws e).map u9) [none,none] [] rfl (fun x hx t ht=>by
    obtain⟨p,_,rfl⟩:=List.mem_map.mp hx
    exact yd rfl rfl rfl t ht) (fun x hx=>by
    obtain⟨p,_,rfl⟩:=List.mem_map.mp hx
    rfl) (fun x hx=>rfl) (fun x hx _=>by
    obtain⟨p,_,rfl⟩:=List.mem_map.mp hx
    rfl) (by simp;lia)
  rw [oi (own:=[(3,(fQ W ws e).map u9)]) (e1:=[a,b,c,some (.l ((fQ W ws e).map u9))]) rfl hf2,List.nil_append,dB,List.map_map,List.map_map]
  rfl
theorem zX{W:br}(ok:W.Ok){ws:List Fr}{e:Int}{a b c:Option Sv}(h:∀f∈ws,S1 210 f)(hl:ws.length≤1000):bF [] 2 gq (bX (av (ah 0) (av (ah 1) bO))) bB ce [a,b,c,some (.l ((fQ W ws e).map u9))]=some (.l (((fQ W ws e).map fun p=>tm p.1 (kj p.2)).map dF),[a,b,c,some (.l ((fQ W ws e).map u9))]):=by
  have sl:=lH (W:=W) (ws:=ws) (e:=e)
  obtain⟨t2,ht2,hf2⟩:=e6 (cs:=[]) (g:=bX (av (ah 0) (av (ah 1) bO))) (ft:=bB) (fe:=ce) (b:=fun _=>true) (y:=Ge) (u:=yc) 2 ((fQ W ws e).map u9) [none,none] [] rfl (fun x hx t ht=>by
    obtain⟨p,_,rfl⟩:=List.mem_map.mp hx
    exact yd rfl rfl rfl t ht) (fun x hx=>by
    obtain⟨p,_,rfl⟩:=List.mem_map.mp hx
    rfl) (fun x hx=>rfl) (fun x hx _=>by
    obtain⟨p,hp,rfl⟩:=List.mem_map.mp hx
    have a:=h _ (cF hp).1
    have c:=jb ok (cF hp).2.1
    have tt:=zV (n:=210) a.low.pos c.low.pos a.top a.bt (c.top.mono (by decide)) (c.bt.mono (by decide)) (by decide)
    show ce [some (.d (dF p.1)),some (.d (dF (kj p.2)))]=some (.d (dF (tm p.1 (kj p.2))),[some (.d (dF p.1)),some (.d (dF (kj p.2)))])
    generalize dF (tm p.1 (kj p.2))=A at*
    generalize dF p.1=B at*
    generalize dF (kj p.2)=C at*
    simp? [ce,tt]) (by simp;lia)
  rw [oi (own:=[(3,(fQ W ws e).map u9)]) (e1:=[a,b,c,some (.l ((fQ W ws e).map u9))]) rfl hf2,List.nil_append,dB,List.map_map,List.map_map]
  rfl
theorem mP{W:br}(ok:W.Ok){ws:List Fr}{e:Nat}(h:∀f∈ws,S1 210 f)(hl:ws.length≤16)(he:(e:Int) < W.things):cK [.d (ap W),.d (.tuple (ws.map dF)),.d (.int (e:Int))]=some (.d (.bool (uC W ws e)),[.d (ap W),.d (.tuple (ws.map dF)),.d (.int (e:Int))]):=by
  have t0:=ok.t0;have t1:=ok.t1;have pl:=ok.pl
  have g2':=ET (W:=W)
  obtain⟨A1,A2⟩:=tL ok h hl (e:Int)
  have k1:=xT (W:=W) (ws:=ws) (e:=(e:Int)) (a:=none) (b:=none) (c:=none) (d:=none) (by lia)
  have k2:=fun a b c=>vS (W:=W) (ws:=ws) (e:=(e:Int)) (a:=a) (b:=b) (c:=c) (by lia)
  have k3:=fun a b c=>zX ok (ws:=ws) (e:=(e:Int)) (a:=a) (b:=b) (c:=c) h (by lia)
  have s1:=pD A1 (.inr rfl)
  have s2:=pD A2 (.inr rfl)
  have pa:=ok.pat
  have ai:=jx (ns:=W.pat) (k:=(e:Int)) (by lia) (by lia)
  rw [Int.toNat_natCast] at ai
  have pr:0≤W.pat.getD e 0∧W.pat.getD e 0≤20:=by
    have hlt:e < W.pat.length:=by lia
    rw [List.getD_eq_getElem?_getD,List.getElem?_eq_getElem hlt]
    exact pa _ (List.getElem_mem hlt)
  have L1:=pC (p:=1) (by decide) (by decide) (uv W ws (e:Int))
  have L2':=pC (p:=W.pat.getD e 0) pr.1 (by lia) (rH W ws (e:Int))
  have eq:uC W ws e=(!decide (1*(uv W ws (e:Int)).2 < (uv W ws (e:Int)).1)&& !decide (W.pat.getD e 0*(rH W ws (e:Int)).2 < (rH W ws (e:Int)).1)):=by
    simp only [uC,yL,List.all_cons,List.all_nil,Bool.and_true,wi]
    congr 1
    · rw [←decide_not];congr 1;simp only [Int.not_lt]
    · rw [←decide_not];congr 1;simp only [Int.not_lt]
  rw [eq]
  rw [show aY (0,1) ((fQ W ws (e:Int)).map fun p=>tm p.1 (kj p.2))=uv W ws (e:Int) from rfl] at s2
  rw [show aY (0,1) ((fQ W ws (e:Int)).map (·.1))=rH W ws (e:Int) from rfl] at s1
  generalize decide (1*(uv W ws (e:Int)).2 < (uv W ws (e:Int)).1)=b1 at*
  generalize decide (W.pat.getD e 0*(rH W ws (e:Int)).2 < (rH W ws (e:Int)).1)=b2 at*
  generalize W.pat.getD e 0=pe at*
  generalize dF (uv W ws (e:Int))=D1 at*
  generalize dF (rH W ws (e:Int))=D2 at*
  generalize ((fQ W ws (e:Int)).map fun p=>tm p.1 (kj p.2)).map dF=Q1 at*
  generalize ((fQ W ws (e:Int)).map (·.1)).map dF=Q2 at*
  generalize (fQ W ws (e:Int)).map u9=Q3 at*
  generalize ws.map dF=FF at*
  generalize W.pat.map PyData.int=PP at*
  generalize ap W=WW at*
  cases b1<;>simp? [cK,iv,k1,k2,k3,s1,s2,L1,L2',g2',ai]
def qZ(W:br):PyData→Bool
  | .tuple ds=>lx (W.ties.length:Int) (.tuple ds)&&((ds.map q_).all (fun f=>decide (f.1≤f.2))&&(dY W (ds.map q_) W.things.toNat).all wi)
  | _=>false
theorem sX{W:br}{ws:List Fr}:∀k,(dY W ws k).all wi=(wi (aY (0,1) ws,W.asks)&&(List.range k).all (uC W ws))
  | 0=>by simp [dY]
  | k+1=>by
    rw [dY,List.all_append,sX k,List.range_succ,List.all_append,Bool.and_assoc]
    simp [uC]
theorem pE(ws:List Fr):(ws.map dF).map q_=ws:=by
  rw [List.map_map]
  exact List.map_id'' (fun f=>rfl) ws
structure Bd (d:PyData):Prop where
  sh:d.showable=true
  bd:∀ws:List Fr,d=.tuple (ws.map dF)→∀f∈ws,Bt 210 f.2
theorem i8{W:br}(ok:W.Ok){d:PyData}(hd:Bd d):bx [.d (ap W),.d d]=some (.d (.bool (qZ W d)),[.d (ap W),.d d]):=by
  have wl:=ok.len;have t0:=ok.t0;have t1:=ok.t1;have a0:=ok.a0;have a1:=ok.a1
  have g0':=FC (W:=W)
  have g1':=As (W:=W)
  have g3':=EU (W:=W)
  have tz:=rZ hd.sh (n:=(W.ties.length:Int)) (by lia)
  have ql:((W.ties.map bG).length:Int)=(W.ties.length:Int):=by simp
  cases c:lx (W.ties.length:Int) d with
  | false=>
    rw [c] at tz
    have e:qZ W d=false:=by
      cases d with
      | tuple ds=>simp only [qZ,c,Bool.false_and]
      | _=>rfl
    rw [e]
    generalize W.ties.map bG=TT at*
    generalize ap W=WW at*
    simp? [bx,ek,g1',ql,tz]
  | true=>
    rw [c] at tz
    cases d with
    | tuple ds=>
      have c':=c
      simp only [lx,Bool.and_eq_true,beq_iff_eq] at c'
      obtain⟨ws,rfl,hw⟩:=oK c'.2
      have hb:=hd.bd ws rfl
      have wl2:ws.length≤16:=by have:=c'.1;simp at this;lia
      have e:qZ W (.tuple (ws.map dF))=(!ws.any (fun f=>decide (1*f.2 < f.1))&&(dY W ws W.things.toNat).all wi):=by
        simp only [qZ,c,Bool.true_and,pE]
        congr 1
        rw [List.not_any_eq_all_not]
        congr 1
        funext f
        rw [Int.one_mul,←decide_not]
        congr 1
        simp only [Int.not_lt]
      rw [e]
      obtain⟨t1',hf1⟩:=cQ (cs:=[]) (ft:=bB) (fe:=cy) (b:=fun _=>true) (y:=fun d=>.bool (decide (1*(q_ d).2 < (q_ d).1))) (ws.map dF) none [] (fun x _=>rfl) (fun x hx _=>by
        obtain⟨f,hf,rfl⟩:=List.mem_map.mp hx
        have t:=pC (p:=1) (by decide) (by decide) f
        show cy [some (.d (dF f))]=some (.d (.bool (decide (1*f.2 < f.1))),[some (.d (dF f))])
        generalize decide (1*f.2 < f.1)=bb at*
        generalize dF f=FF at*
        simp? [cy,t]) (by simp;lia)
      have hv1:=gH (cp:=[]) (nT:=1) (fi:=ic) (g:=ah 0) (ft:=bB) (fe:=cy) (e:=[some (.d (ap W)),some (.d (.tuple (ws.map dF)))]) (cs:=[]) (t:=[none]) (t':=[t1']) (kJ (fa:=ae 1) rfl) rfl rfl hf1
      rw [List.nil_append,dB,List.map_map] at hv1
      have ga1:=fun e=>vU (e:=e) (fun f:Fr=>decide (1*f.2 < f.1)) ws
      rw [show Function.comp (fun d=>PyData.bool (decide (1*(q_ d).2 < (q_ d).1))) dF=fun f:Fr=>PyData.bool (decide (1*f.2 < f.1)) from rfl] at hv1
      cases c1:ws.any (fun f=>decide (1*f.2 < f.1)) with
      | true=>
        rw [c1] at ga1
        generalize (ws.map fun f:Fr=>PyData.bool (decide (1*f.2 < f.1)))=M1 at*
        generalize W.ties.map bG=TT at*
        generalize ws.map dF=FF at*
        generalize ap W=WW at*
        simp? [bx,ek,g1',ql,tz,hv1,ga1]
      | false=>
        rw [c1] at ga1
        have hs:∀f∈ws,S1 210 f:=fun f hf=>⟨(hw f hf).1,(hw f hf).2,by
          have:=(List.any_eq_false.mp c1) f hf
          simp only [decide_eq_true_eq] at this
          lia,hb f hf⟩
        have st:=pD (tj ok hs wl2) (.inl rfl)
        have ls:=pC (p:=W.asks) a0 (by lia) (aY (0,1) ws)
        obtain⟨t2',hf2⟩:=cQ (cs:=[some (.d (ap W)),some (.d (.tuple (ws.map dF)))]) (ft:=bB) (fe:=cx) (b:=fun _=>true) (y:=fun d=>.bool (match d with | .int i=>uC W ws i.toNat | _=>false)) (a8 0 W.things.toNat) none [] (fun x _=>rfl) (fun x hx _=>by
          obtain⟨i,hi⟩:=List.getElem?_of_mem hx
          obtain⟨rfl,hlt⟩:=cL hi
          rw [Int.zero_add]
          have t:=mP ok hs wl2 (e:=i) (by lia)
          show cx [some (.d (ap W)),some (.d (.tuple (ws.map dF))),some (.d (.int (i:Int)))]=some (.d (.bool (uC W ws (i:Int).toNat)),[some (.d (ap W)),some (.d (.tuple (ws.map dF))),some (.d (.int (i:Int)))])
          rw [Int.toNat_natCast]
          generalize uC W ws i=bb at*
          generalize ws.map dF=FF at*
          generalize ap W=WW at*
          simp? [cx,t]) (by simp [cN];lia)
        have hi2:eG [some (.d (ap W)),some (.d (.tuple (ws.map dF)))]=some (a8 0 W.things.toNat,[],[some (.d (ap W)),some (.d (.tuple (ws.map dF)))]):=dt (n:=W.things) (by simp? [g0']) (by lia) (by lia)
        have hv2:=gH (cp:=[(0,"web"),(1,"thing")]) (nT:=1) (fi:=eG) (g:=ah 2) (ft:=bB) (fe:=cx) (e:=[some (.d (ap W)),some (.d (.tuple (ws.map dF)))]) (cs:=[some (.d (ap W)),some (.d (.tuple (ws.map dF)))]) (t:=[none]) (t':=[t2']) hi2 rfl rfl hf2
        rw [List.nil_append,dB] at hv2
        have er:((a8 0 W.things.toNat).map fun d=>PyData.bool (match d with | .int i=>uC W ws i.toNat | _=>false))=(List.range W.things.toNat).map fun i=>PyData.bool (uC W ws i):=by
          unfold a8
          rw [List.map_map]
          refine List.map_congr_left fun i _=>?_
          simp only [Function.comp_apply,Int.zero_add,Int.toNat_natCast]
        rw [er] at hv2
        have ga2:=fun e=>pY (e:=e) (uC W ws) (List.range W.things.toNat)
        rw [sX]
        have ew:wi (aY (0,1) ws,W.asks)= !decide (W.asks*(aY (0,1) ws).2 < (aY (0,1) ws).1):=by
          unfold wi
          rw [←decide_not]
          congr 1
          simp only [Int.not_lt]
        rw [ew]
        generalize decide (W.asks*(aY (0,1) ws).2 < (aY (0,1) ws).1)=b3 at*
        generalize (List.range W.things.toNat).all (uC W ws)=b4 at*
        generalize (List.range W.things.toNat).map (fun i=>PyData.bool (uC W ws i))=M2 at*
        generalize (ws.map fun f:Fr=>PyData.bool (decide (1*f.2 < f.1)))=M1 at*
        generalize dF (aY (0,1) ws)=SS at*
        generalize W.ties.map bG=TT at*
        generalize ws.map dF=FF at*
        generalize ap W=WW at*
        cases b3<;>simp? [bx,ek,g1',g3',ql,tz,hv1,ga1,st,ls,hv2,ga2]
    | _=>simp [lx] at c
theorem qO{d:PyData}(hs:d.showable=true):bv [.d d]=some (.d (.bool (lm d)),[.d d]):=by
  have gt:=fun e=>um (e:=e) (d:=d)
  cases c:jX 2 d with
  | false=>
    have e:lm d=false:=by
      cases q:lm d with
      | false=>rfl
      | true=>
        obtain⟨f,rfl,_⟩:=lT q
        simp [jX,dF] at c
    rw [e]
    cases c0:wq d with
    | false=>
      rw [c0] at gt
      simp? [bv,cB,gt]
    | true=>
      rw [c0] at gt
      obtain⟨ds,rfl⟩:=oY c0
      have c':((ds.length:Int)==2)=false:=c
      have gn:∀e:En,bW true e (.d (.int ds.length)) (.d (.int 2))=some (.d (.bool true)):=fun e=>by rw [dJ,c'];rfl
      simp? [bv,cB,gt,gn]
  | true=>
    obtain⟨x,y,rfl⟩:=D4 c
    have tst:=iR (own:=[]) (g:=ah 1) (f:=bS) (Z:=.d (.bool false)) yk (fun e=>∃v,e=[some (.d (.tuple [x,y])),v]) (fun e=>∃v,e=[some (.d (.tuple [x,y])),v]) [x,y] [some (.d (.tuple [x,y])),none] (fun z hz e ⟨v,he⟩=>by
      subst he
      have q1:=fun e=>Ar (e:=e) (d:=z)
      have q2:=fun e=>C' (e:=e) (d:=z)
      refine⟨[some (.d (.tuple [x,y])),some (.d z)],rfl,fun h=>?_,fun h=>?_⟩
      · rw [rF,Bool.and_eq_true,Bool.not_eq_true'] at h
        rw [h.1] at q1
        rw [h.2] at q2
        exact⟨[some (.d (.tuple [x,y])),some (.d z)],by simp? [bS,q1,q2],bT,_,rfl⟩
      · refine⟨[some (.d (.tuple [x,y])),some (.d z)],?_,_,rfl⟩
        rw [rF] at h
        cases b1:yG z with
        | false=>rw [b1] at q1;simp? [bS,q1]
        | true=>
          rw [b1,Bool.true_and] at h
          have b2:yF z=true:=by simpa using h
          rw [b1] at q1
          rw [b2] at q2
          simp? [bS,q1,q2]) ⟨none,rfl⟩
    have hg:=fun Wl=>b_ (W:=Wl) (g:=ah 1) (f:=bS) (show h_ [some (.d (.tuple [x,y])),none]=some ([x,y],[],[some (.d (.tuple [x,y])),none]) from rfl)
    have gt':∀e:En,jI "tuple" e (.d (.tuple [x,y]))=some (.d (.bool true)):=fun e=>rfl
    cases hN:[x,y].all yk with
    | false=>
      obtain⟨e',h1,v,rfl⟩:=tst.2 hN
      rw [h1] at hg
      have e:lm (.tuple [x,y])=false:=by
        cases q:lm (.tuple [x,y]) with
        | false=>rfl
        | true=>
          obtain⟨f,hf,_⟩:=lT q
          simp only [dF,PyData.tuple.injEq,List.cons.injEq,and_true] at hf
          rw [hf.1,hf.2] at hN
          cases hN
      rw [e]
      simp? [bv,cB,gt',hg]
    | true=>
      obtain⟨e',h1,v,rfl⟩:=tst.1 hN
      rw [h1] at hg
      simp only [List.all_cons,List.all_nil,Bool.and_true,Bool.and_eq_true] at hN
      obtain⟨t,rfl⟩:=lE hN.1
      obtain⟨b,rfl⟩:=lE hN.2
      by_cases c1:0 < b
      · simp only [PyData.showable,PyData.showableAll,Bool.and_eq_true,decide_eq_true_eq] at hs
        have tg:=AD t b (vo hs.2.1 (by lia))
        have e:lm (.tuple [.int t,.int b])=((Int.gcd t b:Int)==1):=by
          simp only [lm]
          rw [decide_eq_true (show 1≤b by lia),Bool.true_and]
          rw [Bool.eq_iff_iff,decide_eq_true_eq,beq_iff_eq]
          lia
        rw [e]
        have gg:∀e:En,sU e (.d (.int b)) (.d (.int 0))=some (.d (.bool true)):=fun e=>by
          have:decide (0 < b)=true:=decide_eq_true c1
          rw [←this];rfl
        have ge:∀e:En,bW false e (.d (.int (Int.gcd t b))) (.d (.int 1))=some (.d (.bool ((Int.gcd t b:Int)==1))):=fun e=>by rw [dJ];rfl
        generalize ((Int.gcd t b:Int)==1)=bb at*
        simp? [bv,cB,gt',hg,tg,gg,ge]
      · have e:lm (.tuple [.int t,.int b])=false:=by
          simp only [lm,Bool.and_eq_false_iff,decide_eq_false_iff_not];left;lia
        rw [e]
        have gg:∀e:En,sU e (.d (.int b)) (.d (.int 0))=some (.d (.bool false)):=fun e=>by
          have:decide (0 < b)=false:=decide_eq_false c1
          rw [←this];rfl
        simp? [bv,cB,gt',hg,gg]
def eI(W:br)(e:Int):List Nat:=(List.range W.ties.length).filter fun k=>Av e (W.tie (k:Int))
theorem tT{W:br}{k:Nat}(h:k < W.ties.length):W.ties[k]?=some (W.tie (k:Int)):=by
  have:=t5.get (W:=W) (k:=(k:Int)) ⟨by lia,by lia⟩
  rwa [Int.toNat_natCast] at this
theorem qG{W:br}{ws:List Fr}(hl:ws.length=W.ties.length)(e:Int):(eI W e).map (fun k=>(ws.getD k (0,1),W.tie (k:Int)))=fQ W ws e:=by
  have hz:(List.range W.ties.length).map (fun k=>(ws.getD k (0,1),W.tie (k:Int)))=ws.zip W.ties:=by
    apply List.ext_getElem?
    intro i
    rw [List.getElem?_map]
    by_cases h:i < W.ties.length
    · have hz:(ws.zip W.ties)[i]?=some (ws.getD i (0,1),W.tie (i:Int)):=List.getElem?_zip_eq_some.mpr ⟨by
        rw [List.getD_eq_getElem?_getD,List.getElem?_eq_getElem (by lia)];rfl,tT h⟩
      rw [List.getElem?_range h,hz]
      rfl
    · rw [List.getElem?_eq_none (by simp;lia),List.getElem?_eq_none (by simp;lia)]
      rfl
  unfold fQ eI
  rw [←hz,List.filter_map]
  rfl
def mW(p:Fr × Int):PyData:=.tuple [dF p.1,.int p.2]
def kD(k:Nat):PyData:=.int (k:Int)
theorem qH{W:br}{e:Int}{k:Nat}(h:k∈eI W e):k < W.ties.length:=by
  have:=(List.mem_filter.mp h).1
  simpa using this
theorem A_{W:br}(ok:W.Ok){e:Int}{b c f:Option Sv}:bF [(3,"_law_end"),(0,"_law_web_here")] 1 iT (ah 2) eV iP [some (.d (ap W)),b,c,some (.d (.int e)),f]=some (.l ((eI W e).map kD),[some (.d (ap W)),b,c,some (.d (.int e)),f]):=by
  have wl:=ok.len
  have g1':=As (W:=W)
  obtain⟨t1,hf1⟩:=cQ (cs:=[some (.d (.int e)),some (.d (ap W))]) (ft:=eV) (fe:=iP) (b:=fun x=>match x with | .int k=>Av e (W.tie k) | _=>false) (y:=fun x=>x) (a8 0 W.ties.length) none [] (fun x hx=>by
    obtain⟨i,hi⟩:=List.getElem?_of_mem hx
    obtain⟨rfl,hlt⟩:=cL hi
    rw [Int.zero_add]
    have ai:=pO (W:=W) (k:=(i:Int)) ⟨by lia,by lia⟩
    show eV [some (.d (.int e)),some (.d (ap W)),some (.d (.int (i:Int)))]=some (Av e (W.tie (i:Int)),[some (.d (.int e)),some (.d (ap W)),some (.d (.int (i:Int)))])
    have gi:∀(e':En),yi false e' (.d (.int e)) (.d (.tuple [.int (W.tie (i:Int)).one,.int (W.tie (i:Int)).other]))=some (.d (.bool (Av e (W.tie (i:Int))))):=fun e'=>jH
    generalize Av e (W.tie (i:Int))=bb at*
    unfold bG at ai g1'
    have cu:L2.cutD [PyData.int (W.tie (i:Int)).one,.int (W.tie (i:Int)).other,.tuple [.int (W.tie (i:Int)).top,.int (W.tie (i:Int)).bot],.int (W.tie (i:Int)).worth] none (some 2)=[.int (W.tie (i:Int)).one,.int (W.tie (i:Int)).other]:=rfl
    generalize (W.ties.map fun t=>PyData.tuple [.int t.one,.int t.other,.tuple [.int t.top,.int t.bot],.int t.worth])=TT at*
    generalize W.tie (i:Int)=T at*
    generalize ap W=WW at*
    simp? [eV,g1',ai,cu,gi]) (fun x hx _=>rfl) (by simp [cN];lia)
  have hi:iT [some (.d (ap W)),b,c,some (.d (.int e)),f]=some (a8 0 W.ties.length,[],[some (.d (ap W)),b,c,some (.d (.int e)),f]):=by
    have:=dt (fs:=aa (aW (g1 ip) (aa (ao bz (ae 0) (vC (.int 1))) ag)) ag) (e:=[some (.d (ap W)),b,c,some (.d (.int e)),f]) (e1:=[some (.d (ap W)),b,c,some (.d (.int e)),f]) (n:=(W.ties.length:Int)) (by simp? [g1']) (by lia) (by lia)
    rw [Int.toNat_natCast] at this
    exact this
  have hv:=gH (cp:=[(3,"_law_end"),(0,"_law_web_here")]) (nT:=1) (fi:=iT) (g:=ah 2) (ft:=eV) (fe:=iP) (cs:=[some (.d (.int e)),some (.d (ap W))]) (t:=[none]) (t':=[t1]) hi rfl rfl hf1
  rw [hv,List.nil_append,List.map_id']
  congr 3
  unfold a8 eI
  rw [List.filter_map]
  have:∀l:List Nat,(List.map (fun(i:Nat)=>PyData.int (0+(i:Int))) l)=l.map kD:=fun l=>List.map_congr_left fun i _=>by rw [Int.zero_add];rfl
  rw [this]
  congr 1
  refine List.filter_congr fun i _=>?_
  simp only [Function.comp_apply,Int.zero_add]
theorem pP{ws:List Fr}{k:Nat}(h:k < ws.length):atI (ws.map dF) (k:Int)=some (dF (ws.getD k (0,1))):=ve h
theorem yu{W:br}{ws:List Fr}(hl:ws.length=W.ties.length)(wl:W.ties.length≤16){N:Sv}(hN:N=.d (.tuple (ws.map dF))∨N=.l (ws.map dF)){e:Int}{a c d:Option Sv}:bF [(1,"_law_shares_here")] 1 kB (ah 1) bB ec [a,some N,c,d,some (.l ((eI W e).map kD))]=some (.l (((fQ W ws e).map (·.1)).map dF),[a,some N,c,d,some (.l ((eI W e).map kD))]):=by
  obtain⟨t1,hf1⟩:=cQ (cs:=[some N]) (ft:=bB) (fe:=ec) (b:=fun _=>true) (y:=fun x=>match x with | .int k=>dF (ws.getD k.toNat (0,1)) | _=>.none) ((eI W e).map kD) none [] (fun x hx=>rfl) (fun x hx _=>by
    obtain⟨k,hk,rfl⟩:=List.mem_map.mp hx
    have as:=pP (ws:=ws) (k:=k) (by have:=qH hk;lia)
    show ec [some N,some (.d (.int (k:Int)))]=some (.d (dF (ws.getD (k:Int).toNat (0,1))),[some N,some (.d (.int (k:Int)))])
    rw [Int.toNat_natCast]
    rcases hN with rfl | rfl
    · generalize dF (ws.getD k (0,1))=D at*
      generalize ws.map dF=FF at*
      simp? [ec,as]
    · generalize dF (ws.getD k (0,1))=D at*
      generalize ws.map dF=FF at*
      simp? [ec,as]) (by
    have:(eI W e).length≤W.ties.length:=Nat.le_trans (List.length_filter_le _ _) (by simp)
    simp;lia)
  have hin:m4 [(1,"_law_shares_here")] 1 [a,some N,c,d,some (.l ((eI W e).map kD))]=[some N]++[none]:=by rcases hN with rfl | rfl<;>rfl
  have hv:=kX (cp:=[(1,"_law_shares_here")]) (nT:=1) (g:=ah 1) (ft:=bB) (fe:=ec) (cs:=[some N]) (t:=[none]) (t':=[t1]) (show kB [a,some N,c,d,some (.l ((eI W e).map kD))]=some ((eI W e).map kD,[(4,(eI W e).map kD)],[a,some N,c,d,some (.l ((eI W e).map kD))]) from rfl) rfl hin rfl (by rw [hin];exact hf1)
  rw [hv,List.nil_append,dB,←qG hl,List.map_map,List.map_map,List.map_map]
  rfl
theorem yv{W:br}(ok:W.Ok){ws:List Fr}(h:∀f∈ws,S1 210 f)(hl:ws.length=W.ties.length){N:Sv}(hN:N=.d (.tuple (ws.map dF))∨N=.l (ws.map dF)){e:Int}{c d:Option Sv}:bF [(1,"_law_shares_here"),(0,"_law_web_here")] 1 kG (ah 2) bB ed [some (.d (ap W)),some N,c,d,some (.l ((eI W e).map kD))]=some (.l (((fQ W ws e).map fun p=>tm p.1 (kj p.2)).map dF),[some (.d (ap W)),some N,c,d,some (.l ((eI W e).map kD))]):=by
  have wl:=ok.len
  have g1':=As (W:=W)
  obtain⟨t1,hf1⟩:=cQ (cs:=[some N,some (.d (ap W))]) (ft:=bB) (fe:=ed) (b:=fun _=>true) (y:=fun x=>match x with | .int k=>dF (tm (ws.getD k.toNat (0,1)) (kj (W.tie k))) | _=>.none) ((eI W e).map kD) none [] (fun x hx=>rfl) (fun x hx _=>by
    obtain⟨k,hk,rfl⟩:=List.mem_map.mp hx
    have kl:=qH hk
    have as:=pP (ws:=ws) (k:=k) (by lia)
    have ai:=pO (W:=W) (k:=(k:Int)) ⟨by lia,by lia⟩
    have a:=h (ws.getD k (0,1)) (by rw [List.getD_eq_getElem?_getD,List.getElem?_eq_getElem (by lia)];exact List.getElem_mem _)
    have cc:=jb ok (List.mem_of_getElem? (tT kl))
    have tt:=zQ (n:=210) a.low.pos cc.low.pos a.top a.bt (cc.top.mono (by decide)) (cc.bt.mono (by decide)) (by decide)
    show ed [some N,some (.d (ap W)),some (.d (.int (k:Int)))]=some (.d (dF (tm (ws.getD (k:Int).toNat (0,1)) (kj (W.tie (k:Int))))),[some N,some (.d (ap W)),some (.d (.int (k:Int)))])
    rw [Int.toNat_natCast]
    rw [show dF (kj (W.tie (k:Int)))=.tuple [.int (W.tie (k:Int)).top,.int (W.tie (k:Int)).bot] from rfl] at tt
    generalize dF (tm (ws.getD k (0,1)) (kj (W.tie (k:Int))))=R at*
    unfold bG at ai g1'
    generalize (W.ties.map fun t=>PyData.tuple [.int t.one,.int t.other,.tuple [.int t.top,.int t.bot],.int t.worth])=TT at*
    generalize W.tie (k:Int)=T at*
    generalize ap W=WW at*
    rcases hN with rfl | rfl
    · generalize dF (ws.getD k (0,1))=D at*
      generalize ws.map dF=FF at*
      simp? [ed,as,g1',ai,tt]
    · generalize dF (ws.getD k (0,1))=D at*
      generalize ws.map dF=FF at*
      simp? [ed,as,g1',ai,tt]) (by
    have:(eI W e).length≤W.ties.length:=Nat.le_trans (List.length_filter_le _ _) (by simp)
    simp;lia)
  have hin:m4 [(1,"_law_shares_here"),(0,"_law_web_here")] 1 [some (.d (ap W)),some N,c,d,some (.l ((eI W e).map kD))]=[some N,some (.d (ap W))]++[none]:=by rcases hN with rfl | rfl<;>rfl
  have hv:=kX (cp:=[(1,"_law_shares_here"),(0,"_law_web_here")]) (nT:=1) (g:=ah 2) (ft:=bB) (fe:=ed) (cs:=[some N,some (.d (ap W))]) (t:=[none]) (t':=[t1]) (show kG [some (.d (ap W)),some N,c,d,some (.l ((eI W e).map kD))]=some ((eI W e).map kD,[(4,(eI W e).map kD)],[some (.d (ap W)),some N,c,d,some (.l ((eI W e).map kD))]) from rfl) rfl hin rfl (by rw [hin];exact hf1)
  rw [hv,List.nil_append,dB,←qG hl,List.map_map,List.map_map,List.map_map]
  rfl
theorem oZ{W:br}{ws:List Fr}:∀k,(dY W ws k).length=1+2*k
  | 0=>rfl
  | k+1=>by rw [dY,List.length_append,oZ k];simp [yL];lia
theorem l9{W:br}(ok:W.Ok){ws:List Fr}:∀k,∀p∈dY W ws k,0≤p.2∧p.2≤40
  | 0,p,h=>by
    simp only [dY,List.mem_cons,List.not_mem_nil,or_false] at h
    subst h
    exact⟨ok.a0,ok.a1⟩
  | k+1,p,h=>by
    rw [dY,List.mem_append] at h
    rcases h with h | h
    · exact l9 ok k p h
    · simp only [yL,List.mem_cons,List.not_mem_nil,or_false] at h
      rcases h with rfl | rfl
      · exact⟨by show(0:Int)≤1;decide,by show(1:Int)≤40;decide⟩
      · show 0≤W.pat.getD k 0∧W.pat.getD k 0≤40
        rw [List.getD_eq_getElem?_getD]
        cases q:W.pat[k]? with
        | none=>exact⟨by decide,by decide⟩
        | some z=>have:=ok.pat z (List.mem_of_getElem? q);show 0≤z∧z≤40;lia
theorem uw{W:br}(ok:W.Ok){ws:List Fr}(h:∀f∈ws,S1 210 f)(hl:ws.length=W.ties.length){N:Sv}(hN:N=.d (.tuple (ws.map dF))∨N=.l (ws.map dF)){i:Nat}(hi:(i:Int) < W.things){v4:Option Sv}:
    fY [some (.d (ap W)),some N,some (.l ((dY W ws i).map mW)),some (.d (.int (i:Int))),v4]=some (.nx [some (.d (ap W)),some N,some (.l ((dY W ws (i+1)).map mW)),some (.d (.int (i:Int))),some (.l ((eI W (i:Int)).map kD))]):=by
  have wl:=ok.len;have t1:=ok.t1;have pl:=ok.pl
  have g2':=ET (W:=W)
  have k1:=fun b c f=>A_ ok (e:=(i:Int)) (b:=b) (c:=c) (f:=f)
  have k2:=fun a c d=>yu hl wl hN (e:=(i:Int)) (a:=a) (c:=c) (d:=d)
  have k3:=fun c d=>yv ok h hl hN (e:=(i:Int)) (c:=c) (d:=d)
  obtain⟨A1,A2⟩:=tL ok h (by lia) (i:Int)
  have s1:=xY A1 (.inr (.inl rfl))
  have s2:=xY A2 (.inr (.inl rfl))
  have ai:=jx (ns:=W.pat) (k:=(i:Int)) (by lia) (by lia)
  rw [Int.toNat_natCast] at ai
  have ll:((dY W ws i).map mW).length < 1000000:=by rw [List.length_map,oZ];lia
  have ll2:((dY W ws i).map mW).length+1 < 1000000:=by rw [List.length_map,oZ];lia
  rw [dY,List.map_append,show(yL W ws i).map mW=[.tuple [dF (uv W ws (i:Int)),.int 1],.tuple [dF (rH W ws (i:Int)),.int (W.pat.getD i 0)]] from rfl]
  rw [show aY (0,1) ((fQ W ws (i:Int)).map fun p=>tm p.1 (kj p.2))=uv W ws (i:Int) from rfl] at s2
  rw [show aY (0,1) ((fQ W ws (i:Int)).map (·.1))=rH W ws (i:Int) from rfl] at s1
  generalize W.pat.getD i 0=pe at*
  generalize dF (uv W ws (i:Int))=D1 at*
  generalize dF (rH W ws (i:Int))=D2 at*
  generalize ((fQ W ws (i:Int)).map fun p=>tm p.1 (kj p.2)).map dF=Q1 at*
  generalize ((fQ W ws (i:Int)).map (·.1)).map dF=Q2 at*
  generalize (eI W (i:Int)).map kD=Q3 at*
  generalize (dY W ws i).map mW=LL at*
  generalize W.pat.map PyData.int=PP at*
  generalize ap W=WW at*
  unfold fY
  rcases hN with rfl | rfl
  · generalize ws.map dF=FF at*
    refine(aV (e1:=[some (.d WW),some (.d (.tuple FF)),some (.l LL),some (.d (.int (i:Int))),some (.l Q3)]) ?_).trans ?_
    · simp? [k1]
    refine(aV (e1:=[some (.d WW),some (.d (.tuple FF)),some (.l (LL++[.tuple [D1,.int 1]])),some (.d (.int (i:Int))),some (.l Q3)]) ?_).trans ?_
    · simp? [k3,s2,ll]
    · simp? [k2,s1,g2',ai,ll2]
  · generalize ws.map dF=FF at*
    refine(aV (e1:=[some (.d WW),some (.l FF),some (.l LL),some (.d (.int (i:Int))),some (.l Q3)]) ?_).trans ?_
    · simp? [k1]
    refine(aV (e1:=[some (.d WW),some (.l FF),some (.l (LL++[.tuple [D1,.int 1]])),some (.d (.int (i:Int))),some (.l Q3)]) ?_).trans ?_
    · simp? [k3,s2,ll]
    · simp? [k2,s1,g2',ai,ll2]
theorem tR{W:br}(ok:W.Ok){ws:List Fr}(h:∀f∈ws,S1 210 f)(hl:ws.length=W.ties.length){N:Sv}(hN:N=.d (.tuple (ws.map dF))∨N=.l (ws.map dF)):fF [.d (ap W),N]=some (.l ((dY W ws W.things.toNat).map mW),[.d (ap W),N]):=by
  have wl:=ok.len;have t0:=ok.t0;have t1:=ok.t1
  have g0':=FC (W:=W)
  have g3':=EU (W:=W)
  have s0:=xY (tj ok h (by lia)) (N:=N) (by rcases hN with rfl | rfl<;>simp)
  obtain⟨e',h1,⟨v3,v4,he⟩⟩:=cf (own:=[]) (g:=ah 3) (f:=fY) (fun i e=>∃v3 v4,e=[some (.d (ap W)),some N,some (.l ((dY W ws i).map mW)),v3,v4]) (a8 0 W.things.toNat) 0 [some (.d (ap W)),some N,some (.l ((dY W ws 0).map mW)),none,none] (fun i x e hx ⟨v3,v4,he⟩=>by
    subst he
    obtain⟨rfl,hlt⟩:=cL hx
    rw [Nat.zero_add,Int.zero_add]
    exact⟨[some (.d (ap W)),some N,some (.l ((dY W ws i).map mW)),some (.d (.int (i:Int))),v4],_,rfl,uw ok h hl hN (by lia),bT,_,_,rfl⟩) ⟨none,none,rfl⟩
  rw [Nat.zero_add,cN] at he
  subst he
  have hi:nD [some (.d (ap W)),some N,some (.l ((dY W ws 0).map mW)),none,none]=some (a8 0 W.things.toNat,[],[some (.d (ap W)),some N,some (.l ((dY W ws 0).map mW)),none,none]):=dt (n:=W.things) (by simp? [g0']) (by lia) (by lia)
  have hg:=fun Wl=>b_ (W:=Wl) (g:=ah 3) (f:=fY) hi
  rw [h1] at hg
  rw [show(dY W ws 0).map mW=[.tuple [dF (aY (0,1) ws),.int W.asks]] from rfl] at hg
  generalize dF (aY (0,1) ws)=SS at*
  generalize (dY W ws W.things.toNat).map mW=LL at*
  generalize ap W=WW at*
  rcases hN with rfl | rfl
  · generalize ws.map dF=FF at*
    simp? [fF,oC,s0,g3',hg]
  · generalize ws.map dF=FF at*
    simp? [fF,oC,s0,g3',hg]
def Fq:PyData→Bool
  | .tuple [.tuple [.int a,.int b],.int m]=>decide (a≤m*b)
  | _=>false
theorem x8{W:br}(ok:W.Ok){ws:List Fr}(h:∀f∈ws,S1 210 f)(hl:ws.length=W.ties.length):cU [.d (ap W),.d (.tuple (ws.map dF))]=some (.d (.bool ((dY W ws W.things.toNat).all wi)),[.d (ap W),.d (.tuple (ws.map dF))]):=by
  have tl:=tR ok h hl (.inl rfl)
  have tst:=iR (own:=[]) (g:=bX (av (ah 2) (av (ah 3) bO))) (f:=cI) (Z:=.d (.bool false)) Fq (fun e=>∃v2 v3,e=[some (.d (ap W)),some (.d (.tuple (ws.map dF))),v2,v3]) (fun e=>∃v2 v3,e=[some (.d (ap W)),some (.d (.tuple (ws.map dF))),v2,v3]) ((dY W ws W.things.toNat).map mW) [some (.d (ap W)),some (.d (.tuple (ws.map dF))),none,none] (fun x hx e ⟨v2,v3,he⟩=>by
    subst he
    obtain⟨p,hp,rfl⟩:=List.mem_map.mp hx
    have m:=l9 ok _ p hp
    have gm:∀e:En,a' e (.d (.int p.2)) (.d (.int p.1.2))=some (.d (.int (p.2*p.1.2))):=fun e=>aN (kN (by lia) (by lia))
    have ew:Fq (mW p)=decide (p.1.1≤p.2*p.1.2):=rfl
    refine⟨[some (.d (ap W)),some (.d (.tuple (ws.map dF))),some (.d (dF p.1)),some (.d (.int p.2))],rfl,fun q=>?_,fun q=>?_⟩
    · rw [ew,decide_eq_true_eq] at q
      have gg:∀e:En,sU e (.d (.int p.1.1)) (.d (.int (p.2*p.1.2)))=some (.d (.bool false)):=fun e=>by
        have:decide (p.2*p.1.2 < p.1.1)=false:=decide_eq_false (by lia)
        rw [←this];rfl
      refine⟨_,?_,bT,some (.d (dF p.1)),some (.d (.int p.2)),rfl⟩
      unfold dF at*
      simp? [cI,gm,gg]
    · rw [ew,decide_eq_false_iff_not] at q
      have gg:∀e:En,sU e (.d (.int p.1.1)) (.d (.int (p.2*p.1.2)))=some (.d (.bool true)):=fun e=>by
        have:decide (p.2*p.1.2 < p.1.1)=true:=decide_eq_true (by lia)
        rw [←this];rfl
      refine⟨_,?_,some (.d (dF p.1)),some (.d (.int p.2)),rfl⟩
      unfold dF at*
      simp? [cI,gm,gg]) ⟨none,none,rfl⟩
  rw [show((dY W ws W.things.toNat).map mW).all Fq=(dY W ws W.things.toNat).all wi by rw [List.all_map];rfl] at tst
  have hi:fg [some (.d (ap W)),some (.d (.tuple (ws.map dF))),none,none]=some ((dY W ws W.things.toNat).map mW,[],[some (.d (ap W)),some (.d (.tuple (ws.map dF))),none,none]):=by
    unfold fg
    refine wn ?_
    generalize (dY W ws W.things.toNat).map mW=LL at*
    generalize ap W=WW at*
    generalize ws.map dF=FF at*
    simp? [tl]
  have hg:=fun Wl=>b_ (W:=Wl) (g:=bX (av (ah 2) (av (ah 3) bO))) (f:=cI) hi
  cases c:(dY W ws W.things.toNat).all wi with
  | true=>
    obtain⟨e',h1,v2,v3,rfl⟩:=tst.1 c
    rw [h1] at hg
    generalize ap W=WW at*
    generalize ws.map dF=FF at*
    simp? [cU,gM,hg]
  | false=>
    obtain⟨e',h1,v2,v3,rfl⟩:=tst.2 c
    rw [h1] at hg
    generalize ap W=WW at*
    generalize ws.map dF=FF at*
    simp? [cU,gM,hg]
def jT(d:PyData):Bool:=nu d&&decide ((q_ d).1≤(q_ d).2)
theorem zU{W:br}(ok:W.Ok){d:PyData}(hd:Bd d):fH [.d (ap W),.d d]=some (.d (.bool (qZ W d)),[.d (ap W),.d d]):=by
  have g1':=As (W:=W)
  have gt:=fun e=>um (e:=e) (d:=d)
  have ql:((W.ties.map bG).length:Int)=(W.ties.length:Int):=by simp
  cases c0:wq d with
  | false=>
    rw [c0] at gt
    have e:qZ W d=false:=by cases d<;>first | rfl | cases c0
    rw [e]
    simp? [fH,jy,gt]
  | true=>
    rw [c0] at gt
    obtain⟨ds,rfl⟩:=oY c0
    by_cases hl:(ds.length:Int)=(W.ties.length:Int)
    case neg=>
      have e:qZ W (.tuple ds)=false:=by
        have:((ds.length:Int)==(W.ties.length:Int))=false:=by simpa using hl
        simp only [qZ,lx,this,Bool.false_and]
      rw [e]
      have gn:∀e:En,bW true e (.d (.int ds.length)) (.d (.int W.ties.length))=some (.d (.bool true)):=fun e=>by rw [dJ];simp [hl]
      generalize W.ties.map bG=TT at*
      generalize ap W=WW at*
      simp? [fH,jy,gt,g1',ql,gn]
    case pos=>
      have gn:∀e:En,bW true e (.d (.int ds.length)) (.d (.int W.ties.length))=some (.d (.bool false)):=fun e=>by rw [dJ];simp [hl]
      have hs:=hd.sh
      simp only [PyData.showable] at hs
      have tst:=iR (own:=[]) (g:=ah 2) (f:=d_) (Z:=.d (.bool false)) jT (fun e=>∃v2,e=[some (.d (ap W)),some (.d (.tuple ds)),v2]) (fun e=>∃v2,e=[some (.d (ap W)),some (.d (.tuple ds)),v2]) ds [some (.d (ap W)),some (.d (.tuple ds)),none] (fun x hx e ⟨v2,he⟩=>by
        subst he
        have tf:=qO (pM hs x hx)
        refine⟨[some (.d (ap W)),some (.d (.tuple ds)),some (.d x)],rfl,fun q=>?_,fun q=>?_⟩
        · refine⟨_,?_,bT,some (.d x),rfl⟩
          unfold jT at q
          rw [Bool.and_eq_true,decide_eq_true_eq] at q
          obtain⟨f,rfl,fl,f0⟩:=ro q.1
          have q2:f.1≤f.2:=q.2
          rw [oJ fl] at tf
          have n1:¬f.1 < 0:=by lia
          have n2:¬f.2 < f.1:=by lia
          generalize ap W=WW at*
          unfold dF at*
          simp? [d_,tf,n1,n2]
        · refine⟨_,?_,some (.d x),rfl⟩
          cases cb:lm x with
          | false=>
            rw [cb] at tf
            generalize ap W=WW at*
            simp? [d_,tf]
          | true=>
            rw [cb] at tf
            obtain⟨f,rfl,fl⟩:=lT cb
            by_cases n1:f.1 < 0
            · generalize ap W=WW at*
              unfold dF at*
              simp? [d_,tf,n1]
            · have n2:f.2 < f.1:=by
                by_cases z:f.2 < f.1
                · exact z
                · exfalso
                  have:jT (dF f)=true:=by
                    unfold jT
                    rw [vP fl (by lia),Bool.true_and,decide_eq_true_eq]
                    show f.1≤f.2
                    lia
                  rw [this] at q;cases q
              generalize ap W=WW at*
              unfold dF at*
              simp? [d_,tf,n1,n2]) ⟨none,rfl⟩
      have hg:=fun Wl=>b_ (W:=Wl) (g:=ah 2) (f:=d_) (show nE [some (.d (ap W)),some (.d (.tuple ds)),none]=some (ds,[],[some (.d (ap W)),some (.d (.tuple ds)),none]) from rfl)
      have eb:qZ W (.tuple ds)=(ds.all jT&&(dY W (ds.map q_) W.things.toNat).all wi):=by
        have:((ds.length:Int)==(W.ties.length:Int))=true:=by simpa using hl
        simp only [qZ,lx,this,Bool.true_and]
        rw [←Bool.and_assoc]
        congr 1
        rw [List.all_map]
        clear hl hd gt tst hg this gn hs c0
        induction ds with
        | nil=>rfl
        | cons x r ih=>
          simp only [List.all_cons,jT,Function.comp_apply] at ih ⊢
          rw [←ih]
          cases nu x<;>cases decide ((q_ x).1≤(q_ x).2)<;>simp
      rw [eb]
      cases c:ds.all jT with
      | false=>
        obtain⟨e',h1,v2,rfl⟩:=tst.2 c
        rw [h1] at hg
        generalize W.ties.map bG=TT at*
        generalize ap W=WW at*
        simp? [fH,jy,gt,g1',ql,gn,hg]
      | true=>
        obtain⟨e',h1,v2,rfl⟩:=tst.1 c
        rw [h1] at hg
        have cz:ds.all nu=true:=List.all_eq_true.mpr fun x hx=>by
          have:=List.all_eq_true.mp c x hx
          unfold jT at this
          rw [Bool.and_eq_true] at this
          exact this.1
        obtain⟨ws,rfl,hw⟩:=oK cz
        have hb:=hd.bd ws rfl
        have h01:∀f∈ws,S1 210 f:=fun f hf=>⟨(hw f hf).1,(hw f hf).2,by
          have:=List.all_eq_true.mp c (dF f) (List.mem_map_of_mem hf)
          unfold jT at this
          rw [Bool.and_eq_true,decide_eq_true_eq] at this
          exact this.2,hb f hf⟩
        have tw:=x8 ok h01 (by have:=hl;simp at this;lia)
        rw [pE,Bool.true_and]
        generalize (dY W ws W.things.toNat).all wi=bb at*
        generalize ws.map dF=FF at*
        generalize W.ties.map bG=TT at*
        generalize ap W=WW at*
        simp? [fH,jy,gt,g1',ql,gn,hg,tw]
def rW(W:br)(t:iu):Bool:=W.asks==0 || (W.pat.getD t.one.toNat 0==0 || W.pat.getD t.other.toNat 0==0)
def lw(W:br)(p:Fr × iu):Fr:=if rW W p.2=true then(0,1) else p.1
def cE(W:br)(ws:List Fr):List Fr:=(ws.zip W.ties).map (lw W)
theorem CF{n:Nat}:S1 (n+1) ((0,1):Fr):=⟨tV,by decide,by decide,Bt.mono (m:=1) (by unfold Bt;decide) (by lia)⟩
theorem BH{W:br}{ws:List Fr}{n:Nat}(h:∀f∈ws,S1 (n+1) f):∀f∈cE W ws,S1 (n+1) f:=fun f hf=>by
  obtain⟨p,hp,rfl⟩:=List.mem_map.mp hf
  unfold lw
  split
  · exact CF
  · exact h _ (List.of_mem_zip (show(p.1,p.2)∈ws.zip W.ties from hp)).1
theorem zg{W:br}{ws:List Fr}(hl:ws.length=W.ties.length):(cE W ws).length=W.ties.length:=by
  unfold cE;rw [List.length_map,List.length_zip];lia
theorem mO:∀(L:List Fr),(∀f∈L,f=(0,1))→aY (0,1) L=(0,1)
  | [],_=>rfl
  | x::r,h=>by
    have hx:=h x (by simp)
    subst hx
    show aY (pl (0,1) (0,1)) r=(0,1)
    rw [show pl ((0,1):Fr) (0,1)=(0,1) by decide]
    exact mO r fun f hf=>h f (by simp [hf])
theorem zN{W:br}{ws:List Fr}{e:Int}{p:Fr × iu}(h:p∈fQ W (cE W ws) e):rW W p.2=true→p.1=(0,1):=fun hs=>by
  have hz:=(List.mem_filter.mp h).1
  unfold cE at hz
  obtain⟨i,hi⟩:=List.getElem?_of_mem hz
  rw [List.getElem?_zip_eq_some] at hi
  obtain⟨h1,h2⟩:=hi
  rw [List.getElem?_map] at h1
  obtain⟨q,hq,e1⟩:=Option.map_eq_some_iff.mp h1
  rw [List.getElem?_zip_eq_some] at hq
  have e2:q.2=p.2:=Option.some.inj (hq.2.symm.trans h2)
  rw [←e1]
  unfold lw
  rw [e2,if_pos hs]
theorem p8{W:br}(ok:W.Ok){ws:List Fr}:∀k,∀p∈dY W (cE W ws) k,p.2=0→p.1.1=0
  | 0,p,h,z=>by
    simp only [dY,List.mem_cons,List.not_mem_nil,or_false] at h
    subst h
    have z':W.asks=0:=z
    have:aY (0,1) (cE W ws)=(0,1):=mO _ fun f hf=>by
      obtain⟨p,hp,rfl⟩:=List.mem_map.mp hf
      unfold lw
      rw [if_pos (by unfold rW;rw [z'];rfl)]
    show(aY (0,1) (cE W ws)).1=0
    rw [this]
  | k+1,p,h,z=>by
    rw [dY,List.mem_append] at h
    rcases h with h | h
    · exact p8 ok k p h z
    · simp only [yL,List.mem_cons,List.not_mem_nil,or_false] at h
      rcases h with rfl | rfl
      · exact absurd z (by show ¬(1:Int)=0;decide)
      · have z':W.pat.getD k 0=0:=z
        have:rH W (cE W ws) k=(0,1):=mO _ fun f hf=>by
          obtain⟨p,hp,rfl⟩:=List.mem_map.mp hf
          refine zN hp ?_
          have hi:=(cF hp).2.2
          unfold Av at hi
          unfold rW
          rw [Bool.or_eq_true] at hi
          rcases hi with hi | hi
          · rw [beq_iff_eq] at hi;rw [hi,Int.toNat_natCast,z'];simp
          · rw [beq_iff_eq] at hi;rw [hi,Int.toNat_natCast,z'];simp
        show(rH W (cE W ws) k).1=0
        rw [this]
def qF(p:Fr × Int):Fr:=lowM p.1.1 (p.1.2*p.2)
def vq(b:Fr)(p:Fr × Int):Fr:=if 0 < p.2∧b.1*(qF p).2 < (qF p).1*b.2 then qF p else b
structure u_ (b:Fr):Prop where
  pos:0 < b.2
  one:b.2≤b.1
  top:Bt 188 b.1
structure t9 (p:Fr × Int):Prop where
  pos:0 < p.1.2
  lo:0≤p.1.1
  hi:p.1.1≤16*p.1.2
  bt:Bt 178 p.1.2
  m0:0≤p.2
  m1:p.2≤40
theorem B6{p:Fr × Int}(h:t9 p)(hp:0 < p.2):0 < (qF p).2∧0≤(qF p).1∧Bt 188 (qF p).1∧Bt 188 (qF p).2∧(qF p).1*(p.1.2*p.2)=(qF p).2*p.1.1:=by
  have pos:=Int.mul_pos h.pos hp
  have c:=dw (t:=p.1.1) (b:=p.1.2*p.2) (Int.ne_of_gt pos)
  obtain⟨d,d0,h3,h4,h5,h6⟩:=eN pos h.lo
  have m6:Bt 6 p.2:=by have:=h.m0;have:=h.m1;unfold Bt;lia
  have bb:Bt 184 (p.1.2*p.2):=(h.bt.mul m6).mono (by decide)
  have lb:=Int.le_of_dvd pos (iC pos h.lo)
  have b2:Bt 184 (lowM p.1.1 (p.1.2*p.2)).2:=bb.of_le (by lia)
  have ht:p.1.1≤16*(p.1.2*p.2):=by
    have e1:p.1.2*1≤p.1.2*p.2:=Int.mul_le_mul_of_nonneg_left (by lia) (Int.le_of_lt h.pos)
    have:=h.hi
    lia
  have l16:=iW (i:=16) pos h.lo ht
  have b1:Bt 188 (lowM p.1.1 (p.1.2*p.2)).1:=by
    have:Bt (4+184) (15*(lowM p.1.1 (p.1.2*p.2)).2):=Bt.mul (by unfold Bt;decide) b2
    unfold Bt at b2 ⊢
    have e:(2:Nat) ^ 188=16*2 ^ 184:=by decide
    rw [e]
    lia
  exact⟨h5,h6,b1,b2.mono (by decide),c⟩
theorem AQ{b:Fr}{p:Fr × Int}(h:u_ b)(k:t9 p):u_ (vq b p)∧b.1*(vq b p).2≤(vq b p).1*b.2∧(0 < p.2→p.1.1*(vq b p).2≤(vq b p).1*p.1.2*p.2):=by
  unfold vq
  split
  · rename_i c
    obtain⟨q1,q2,q3,q4,q5⟩:=B6 k c.1
    refine⟨⟨q1,?_,q3⟩,by lia,fun _=>?_⟩
    · have e1:b.2*(qF p).2≤b.1*(qF p).2:=Int.mul_le_mul_of_nonneg_right h.one (Int.le_of_lt q1)
      refine Int.le_of_mul_le_mul_right (a:=b.2) ?_ h.pos
      have:(qF p).2*b.2=b.2*(qF p).2:=Int.mul_comm _ _
      lia
    · rw [Int.mul_assoc,q5,Int.mul_comm]
      exact Int.le_refl _
  · rename_i c
    refine⟨h,Int.le_refl _,fun hp=>?_⟩
    obtain⟨q1,q2,q3,q4,q5⟩:=B6 k hp
    have c':(qF p).1*b.2≤b.1*(qF p).2:=by
      by_cases z:b.1*(qF p).2 < (qF p).1*b.2
      · exact absurd ⟨hp,z⟩ c
      · lia
    refine Int.le_of_mul_le_mul_right (a:=(qF p).2) ?_ q1
    have X:=Int.mul_pos k.pos hp
    have:=Int.mul_le_mul_of_nonneg_right c' (Int.le_of_lt X)
    have e1:(qF p).1*b.2*(p.1.2*p.2)=p.1.1*b.2*(qF p).2:=by
      rw [show(qF p).1*b.2*(p.1.2*p.2)=(qF p).1*(p.1.2*p.2)*b.2 by ac_rfl,q5]
      ac_rfl
    rw [e1] at this
    rw [show b.1*p.1.2*p.2*(qF p).2=b.1*(qF p).2*(p.1.2*p.2) by ac_rfl]
    exact this
theorem Ao{b c:Fr}{x X:Int}(hb:0 < b.2)(hc:0 < c.2)(h:b.1*c.2≤c.1*b.2)(hx:0≤X)(k:x*b.2≤b.1*X):x*c.2≤c.1*X:=by
  refine Int.le_of_mul_le_mul_right (a:=b.2) ?_ hb
  have e1:=Int.mul_le_mul_of_nonneg_right k (Int.le_of_lt hc)
  have e2:=Int.mul_le_mul_of_nonneg_right h hx
  rw [show x*c.2*b.2=x*b.2*c.2 by ac_rfl,show c.1*X*b.2=c.1*b.2*X by ac_rfl]
  rw [show b.1*X*c.2=b.1*c.2*X by ac_rfl] at e1
  lia
def sP(b:Fr)(L:List (Fr × Int)):Fr:=L.foldl vq b
theorem rj:∀(L:List (Fr × Int)) {b:Fr},u_ b→(∀p∈L,t9 p)→u_ (sP b L)∧b.1*(sP b L).2≤(sP b L).1*b.2∧∀p∈L,0 < p.2→p.1.1*(sP b L).2≤(sP b L).1*p.1.2*p.2
  | [],b,h,_=>⟨h,Int.le_refl _,fun p hp=>by cases hp⟩
  | x::r,b,h,hL=>by
    have kx:=hL x (by simp)
    obtain⟨s1,s2,s3⟩:=AQ h kx
    obtain⟨t1,t2,t3⟩:=rj r s1 fun p hp=>hL p (by simp [hp])
    have e:sP b (x::r)=sP (vq b x) r:=rfl
    rw [e]
    refine⟨t1,?_,fun p hp h0=>?_⟩
    · exact Ao (b:=vq b x) (X:=b.2) (x:=b.1) s1.pos t1.pos t2 (Int.le_of_lt h.pos) s2
    · rcases List.mem_cons.mp hp with rfl | hp
      · rw [Int.mul_assoc]
        have s3':=s3 h0
        rw [Int.mul_assoc] at s3'
        exact Ao s1.pos t1.pos t2 (Int.le_of_lt (Int.mul_pos kx.pos h0)) s3'
      · exact t3 p hp h0
theorem Bh{W:br}(ok:W.Ok){ws:List Fr}{n:Nat}(h:∀f∈ws,S1 n f)(hl:ws.length=W.ties.length)(hn:n*W.ties.length+7*W.ties.length+2≤178):∀k,∀p∈dY W ws k,t9 p:=fun k p hp=>by
  have wl:=ok.len
  obtain⟨m0, -⟩:=vt ok h
  have mb:Bt 178 (cM W ws):=by
    have hc:∀f∈W.ties.map kj,S1 7 f:=fun f hf=>by
      obtain⟨t,ht,rfl⟩:=List.mem_map.mp hf
      exact jb ok ht
    exact((mv fun f hf=>(h f hf).bt).mul (mv fun f hf=>(hc f hf).bt)).mono (by rw [List.length_map,hl];lia)
  obtain⟨q0,q1⟩:=l9 ok k p hp
  have fin:∀L:List Fr,p.1=aY (0,1) L→(∀f∈L,t_ (cM W ws) f)→L.length≤16→t9 p:=fun L e hL ll=>by
    have s:=(xW hL).1
    rw [←e] at s
    have b:=s.bt (n:=178) (m:=10) mb m0 (by unfold Bt;lia)
    refine⟨s.pos,s.lo,?_,b.2,q0,q1⟩
    have:=s.hi
    have e2:(L.length:Int)*p.1.2≤16*p.1.2:=Int.mul_le_mul_of_nonneg_right (by lia) (Int.le_of_lt s.pos)
    lia
  have sl:=fun e:Int=>lH (W:=W) (ws:=ws) (e:=e)
  clear q0 q1
  induction k with
  | zero=>
    simp only [dY,List.mem_cons,List.not_mem_nil,or_false] at hp
    exact fin ws (by rw [hp]) (fun f hf=>lG h hf) (by lia)
  | succ k ih=>
    rw [dY,List.mem_append] at hp
    rcases hp with hp | hp
    · exact ih hp
    · simp only [yL,List.mem_cons,List.not_mem_nil,or_false] at hp
      rcases hp with hp | hp
      · exact fin ((fQ W ws (k:Int)).map fun p=>tm p.1 (kj p.2)) (by rw [hp];rfl) (fun f hf=>by
          obtain⟨q,hq,rfl⟩:=List.mem_map.mp hf
          exact xK ok h (cF hq).1 (cF hq).2.1) (by rw [List.length_map];have:=sl (k:Int);lia)
      · exact fin ((fQ W ws (k:Int)).map (·.1)) (by rw [hp];rfl) (fun f hf=>by
          obtain⟨q,hq,rfl⟩:=List.mem_map.mp hf
          exact lG h (cF hq).1) (by rw [List.length_map];have:=sl (k:Int);lia)
abbrev fq(W:br)(ws:List Fr)(os:List Fr)(v3 v4 v5 v6 v7 v8:Option Sv):En:=[some (.d (ap W)),some (.d (.tuple (ws.map dF))),some (.l (os.map dF)),v3,v4,v5,v6,v7,v8]
theorem wV{W:br}(ok:W.Ok){ws os:List Fr}{p:Fr × iu}(ht:p.2∈W.ties)(hl:os.length≤100){v5 v6 v7 v8:Option Sv}:
    cJ (fq W ws os (some (.d (dF p.1))) (some (.d (bG p.2))) v5 v6 v7 v8)=some (.nx (fq W ws (os++[lw W p]) (some (.d (dF p.1))) (some (.d (bG p.2))) (some (.d (.bool (rW W p.2)))) v6 v7 v8)):=by
  have o:=ok.ties p.2 ht
  have o0:=o.o0;have o1:=o.o1;have o2:=o.o2;have pl:=ok.pl
  have g2':=ET (W:=W)
  have g3':=EU (W:=W)
  have a1:=jx (ns:=W.pat) (k:=p.2.one) o0 (by lia)
  have a2:=jx (ns:=W.pat) (k:=p.2.other) (by lia) (by lia)
  have gi:∀(e:En) (b:Bool),g1 p6 e [.d (.bool b)]=some (.d (.int (if b=true then 1 else 0))):=fun e b=>by cases b<;>rfl
  have ge:∀(e:En) (i:Int),bW false e (.d (.int i)) (.d (.int 0))=some (.d (.bool (i==0))):=fun e i=>by rw [dJ];rfl
  have ll:os.length < 1000000:=by lia
  unfold lw rW
  generalize W.pat.getD p.2.one.toNat 0=x at*
  generalize W.pat.getD p.2.other.toNat 0=y at*
  generalize W.asks=z at*
  have e1:=fun e=>ge e x
  have e2:=fun e=>ge e y
  have e3:=fun e=>ge e z
  generalize (x==0)=b1 at*
  generalize (y==0)=b2 at*
  generalize (z==0)=b3 at*
  simp only [fq,List.map_append,List.map_cons,List.map_nil]
  generalize ws.map dF=FF at*
  generalize W.pat.map PyData.int=PP at*
  generalize ap W=WW at*
  unfold bG
  cases b3
  · cases b1
    · cases b2
      · simp? [cJ,g2',g3',a1,a2,gi,e1,e2,e3,ll]
      · simp? [cJ,g2',g3',a1,a2,gi,e1,e2,e3,ll,dF]
    · simp? [cJ,g2',g3',a1,a2,gi,e1,e2,e3,ll,dF]
  · simp? [cJ,g2',g3',a1,a2,gi,e1,e2,e3,ll,dF]
theorem yt{W:br}{ws os:List Fr}{b:Fr}{p:Fr × Int}(hb:u_ b)(hp:t9 p){v3 v4 v5:Option Sv}:
    dk (fq W ws os v3 v4 v5 (some (.d (dF b))) (some (.d (dF p.1))) (some (.d (.int p.2))))=some (.nx (fq W ws os v3 v4 v5 (some (.d (dF (vq b p)))) (some (.d (dF p.1))) (some (.d (.int p.2))))):=by
  have m0:=hp.m0;have m1:=hp.m1
  unfold vq
  by_cases c:0 < p.2
  · have pos:=Int.mul_pos hp.pos c
    obtain⟨q1,q2,q3,q4,q5⟩:=B6 hp c
    have m6:Bt 6 p.2:=by unfold Bt;lia
    have gm:∀e:En,a' e (.d (.int p.1.2)) (.d (.int p.2))=some (.d (.int (p.1.2*p.2))):=fun e=>aN (iF (by lia) (by lia))
    have tl:=ka p.1.1 (p.1.2*p.2) pos ((hp.bt.mul m6).mono (by decide))
    rw [show PyData.tuple [.int (lowM p.1.1 (p.1.2*p.2)).1,.int (lowM p.1.1 (p.1.2*p.2)).2]=dF (qF p) from rfl] at tl
    have tq:=Co (a:=b) (b:=qF p) (hb.top.mono (by decide)) (hb.top.of_le (by have:=hb.pos;have:=hb.one;lia) |>.mono (by decide)) (q3.mono (by decide)) (q4.mono (by decide))
    have gg:∀e:En,sU e (.d (.int p.2)) (.d (.int 0))=some (.d (.bool true)):=fun e=>by
      have:decide (0 < p.2)=true:=decide_eq_true c
      rw [←this];rfl
    simp only [fq]
    generalize ws.map dF=FF at*
    generalize os.map dF=OO at*
    generalize ap W=WW at*
    by_cases c2:b.1*(qF p).2 < (qF p).1*b.2
    · rw [decide_eq_true c2] at tq
      rw [if_pos ⟨c,c2⟩]
      generalize dF (qF p)=Q at*
      generalize dF b=B at*
      unfold dF
      simp? [dk,gg,gm,tl,tq]
    · rw [decide_eq_false c2] at tq
      rw [if_neg (fun z=>c2 z.2)]
      generalize dF (qF p)=Q at*
      generalize dF b=B at*
      unfold dF
      simp? [dk,gg,gm,tl,tq]
  · rw [if_neg (fun z=>c z.1)]
    have gg:∀e:En,sU e (.d (.int p.2)) (.d (.int 0))=some (.d (.bool false)):=fun e=>by
      have:decide (0 < p.2)=false:=decide_eq_false c
      rw [←this];rfl
    simp only [fq]
    generalize dF b=B at*
    generalize dF p.1=D at*
    simp? [dk,gg]
theorem x5{W:br}(ok:W.Ok){ws:List Fr}{n:Nat}(h:∀f∈ws,S1 (n+1) f)(hl:ws.length=W.ties.length)(hn:(n+1)*W.ties.length+7*W.ties.length+2≤178)(h7:n+1≤7):
    ∃ss:List Fr,gv [.d (ap W),.d (.tuple (ws.map dF))]=some (.d (.tuple (ss.map dF)),[.d (ap W),.d (.tuple (ws.map dF))])∧(∀f∈ss,S1 195 f)∧ss.length=W.ties.length∧(dY W ss W.things.toNat).all wi=true:=by
  have wl:=ok.len
  have g1':=As (W:=W)
  have hz:=mV ws W.ties
  have zl:(ws.zip W.ties).length=W.ties.length:=by rw [List.length_zip];lia
  have hos:=BH (W:=W) h
  have ol:=zg (W:=W) hl
  obtain⟨e1,h1,⟨a3,a4,a5,he1⟩⟩:=cf (own:=[]) (g:=bX (av (ah 3) (av (ah 4) bO))) (f:=cJ) (fun i e=>∃v3 v4 v5,e=fq W ws (((ws.zip W.ties).take i).map (lw W)) v3 v4 v5 none none none) ((ws.zip W.ties).map qg) 0 (fq W ws [] none none none none none none) (fun i x e hx ⟨v3,v4,v5,he⟩=>by
    subst he
    rw [Nat.zero_add] at*
    rw [List.getElem?_map] at hx
    obtain⟨p,hp,rfl⟩:=Option.map_eq_some_iff.mp hx
    have il:=(List.getElem?_eq_some_iff.mp hp).1
    have ht:p.2∈W.ties:=(List.of_mem_zip (show(p.1,p.2)∈ws.zip W.ties from List.mem_of_getElem? hp)).2
    have tt:=wV ok (ws:=ws) (os:=((ws.zip W.ties).take i).map (lw W)) (p:=p) ht (by rw [List.length_map,List.length_take];lia) (v5:=v5) (v6:=none) (v7:=none) (v8:=none)
    refine⟨fq W ws (((ws.zip W.ties).take i).map (lw W)) (some (.d (dF p.1))) (some (.d (bG p.2))) v5 none none none,_,rfl,tt,bT,some (.d (dF p.1)),some (.d (bG p.2)),some (.d (.bool (rW W p.2))),?_⟩
    rw [List.take_succ,hp]
    simp only [Option.toList_some,List.map_append,List.map_cons,List.map_nil]) ⟨none,none,none,rfl⟩
  rw [Nat.zero_add,List.length_map,List.take_length] at he1
  change e1=fq W ws (cE W ws) a3 a4 a5 none none none at he1
  subst he1
  have hi1:ji (fq W ws [] none none none none none none)=some ((ws.zip W.ties).map qg,[],fq W ws [] none none none none none none):=by
    rw [←hz]
    simp only [fq,List.map_nil]
    generalize W.ties.map bG=TT at*
    generalize ws.map dF=FF at*
    generalize ap W=WW at*
    simp? [ji,nF,rY,g1']
  have hg1:=fun Wl=>b_ (W:=Wl) (g:=bX (av (ah 3) (av (ah 4) bO))) (f:=cJ) hi1
  rw [h1] at hg1
  have hL:=Bh ok hos ol hn W.things.toNat
  have lo:=tR ok (fun f hf=>(hos f hf).mono (by lia)) ol (.inr rfl)
  obtain⟨e2,h2,⟨c7,c8,he2⟩⟩:=cf (own:=[]) (g:=bX (av (ah 7) (av (ah 8) bO))) (f:=dk) (fun i e=>∃v7 v8,e=fq W ws (cE W ws) a3 a4 a5 (some (.d (dF (sP (1,1) ((dY W (cE W ws) W.things.toNat).take i))))) v7 v8) ((dY W (cE W ws) W.things.toNat).map mW) 0 (fq W ws (cE W ws) a3 a4 a5 (some (.d (dF (1,1)))) none none) (fun i x e hx ⟨v7,v8,he⟩=>by
    subst he
    rw [Nat.zero_add] at*
    rw [List.getElem?_map] at hx
    obtain⟨p,hp,rfl⟩:=Option.map_eq_some_iff.mp hx
    have b:=(rj ((dY W (cE W ws) W.things.toNat).take i) (b:=(1,1)) ⟨by decide,by decide,by unfold Bt;decide⟩ fun p hp=>hL p (List.mem_of_mem_take hp)).1
    have tt:=yt (W:=W) (ws:=ws) (os:=cE W ws) b (hL p (List.mem_of_getElem? hp)) (v3:=a3) (v4:=a4) (v5:=a5)
    refine⟨fq W ws (cE W ws) a3 a4 a5 (some (.d (dF (sP (1,1) ((dY W (cE W ws) W.things.toNat).take i))))) (some (.d (dF p.1))) (some (.d (.int p.2))),_,rfl,tt,bT,some (.d (dF p.1)),some (.d (.int p.2)),?_⟩
    rw [List.take_succ,hp]
    unfold sP
    rw [List.foldl_append]
    rfl) ⟨none,none,rfl⟩
  rw [Nat.zero_add,List.length_map,List.take_length] at he2
  subst he2
  obtain⟨B1, -,B3⟩:=rj (dY W (cE W ws) W.things.toNat) (b:=(1,1)) ⟨by decide,by decide,by unfold Bt;decide⟩ hL
  have hi2:jh (fq W ws (cE W ws) a3 a4 a5 (some (.d (dF (1,1)))) none none)=some ((dY W (cE W ws) W.things.toNat).map mW,[],fq W ws (cE W ws) a3 a4 a5 (some (.d (dF (1,1)))) none none):=by
    unfold jh
    refine wn ?_
    simp only [fq]
    generalize (dY W (cE W ws) W.things.toNat).map mW=LL at*
    generalize (cE W ws).map dF=OO at*
    generalize ws.map dF=FF at*
    generalize ap W=WW at*
    simp? [lo]
  have hg2:=fun Wl=>b_ (W:=Wl) (g:=bX (av (ah 7) (av (ah 8) bO))) (f:=dk) hi2
  rw [h2] at hg2
  have bp:0 < (sP (1,1) (dY W (cE W ws) W.things.toNat)).1:=by have:=B1.pos;have:=B1.one;lia
  have b2t:Bt 188 (sP (1,1) (dY W (cE W ws) W.things.toNat)).2:=B1.top.of_le (by have:=B1.pos;have:=B1.one;lia)
  have wi1:=i7 ok hos bp W.things.toNat (b:=sP (1,1) (dY W (cE W ws) W.things.toNat)) fun p hp=>by
    by_cases z:0 < p.2
    · exact B3 p hp z
    · have z0:p.2=0:=by have:=(hL p hp).m0;lia
      rw [p8 ok _ p hp z0,z0]
      simp
  generalize sP (1,1) (dY W (cE W ws) W.things.toNat)=by_ at*
  obtain⟨t1,hf1⟩:=cQ (cs:=[some (.d (dF by_))]) (ft:=bB) (fe:=e_) (b:=fun _=>true) (y:=fun x=>dF (pH by_ (q_ x))) ((cE W ws).map dF) none [] (fun x hx=>rfl) (fun x hx _=>by
    obtain⟨f,hf,rfl⟩:=List.mem_map.mp hx
    have s:=hos f hf
    have g1:∀e:En,a' e (.d (.int f.1)) (.d (.int by_.2))=some (.d (.int (f.1*by_.2))):=fun e=>aN (dO (s.top.mono (by lia)) (b2t.mono (by decide)))
    have g2:∀e:En,a' e (.d (.int f.2)) (.d (.int by_.1))=some (.d (.int (f.2*by_.1))):=fun e=>aN (dO (s.bt.mono (by lia)) (B1.top.mono (by decide)))
    have tl:=ka (f.1*by_.2) (f.2*by_.1) (Int.mul_pos s.low.pos bp) ((s.bt.mul B1.top).mono (by lia))
    rw [show PyData.tuple [.int (lowM (f.1*by_.2) (f.2*by_.1)).1,.int (lowM (f.1*by_.2) (f.2*by_.1)).2]=dF (pH by_ f) from rfl] at tl
    show e_ [some (.d (dF by_)),some (.d (dF f))]=some (.d (dF (pH by_ f)),[some (.d (dF by_)),some (.d (dF f))])
    generalize dF (pH by_ f)=R at*
    unfold dF
    simp? [e_,g1,g2,tl]) (by simp;lia)
  have hv:=kX (cp:=[(6,"_law_by")]) (nT:=1) (fi:=jg) (g:=ah 1) (ft:=bB) (fe:=e_) (cs:=[some (.d (dF by_))]) (t:=[none]) (t':=[t1]) (show jg (fq W ws (cE W ws) a3 a4 a5 (some (.d (dF by_))) c7 c8)=some ((cE W ws).map dF,[(2,(cE W ws).map dF)],fq W ws (cE W ws) a3 a4 a5 (some (.d (dF by_))) c7 c8) from rfl) rfl rfl rfl hf1
  rw [List.nil_append,dB,List.map_map] at hv
  refine⟨(cE W ws).map (pH by_),?_,fun f hf=>?_,by rw [List.length_map];exact ol,List.all_eq_true.mpr fun p hp=>by unfold wi;rw [decide_eq_true_eq];exact wi1 p hp⟩
  · rw [List.map_map]
    rw [show Function.comp (fun x=>dF (pH by_ (q_ x))) dF=Function.comp dF (pH by_) from rfl] at hv
    simp only [fq,List.map_nil] at hg1 hg2 hv
    generalize (cE W ws).map (Function.comp dF (pH by_))=RR at*
    generalize (cE W ws).map dF=OO at*
    generalize dF by_=BY at*
    generalize ws.map dF=FF at*
    generalize ap W=WW at*
    unfold dF at hg2
    simp? [gv,pQ,hg1,hg2,hv]
  · obtain⟨g,hg,rfl⟩:=List.mem_map.mp hf
    exact(Cg (hos g hg) B1.pos B1.one B1.top).mono (by lia)
theorem Sw.intB{b:Bool}{i:Int}(h:Bt 210 i):Sw b 213 2 (.int i):=(Sz.intB h (by decide) (by decide)).sw b
theorem Sw.fr{b:Bool}{x y:PyData}(h1:Sw b 213 2 x)(h2:Sw b 213 2 y):Sw b 1000 4 (.tuple [x,y]):=(Sw.tup (n:=213) (dep:=2) (m:=2) (fun d hd=>by
  simp only [List.mem_cons,List.not_mem_nil,or_false] at hd
  rcases hd with rfl | rfl
  · exact h1
  · exact h2) (by simp)).mono (by decide) (by decide)
structure AK (b:Bool) (x:PyData):Prop where
  sw:Sw b 1000 4 x
  bd:∀f:Fr,x=dF f→Bt 210 f.2
structure ua (d:PyData):Prop where
  bd:Bd d
  sw:∃b,Sw b 50000 6 d
theorem iH{b:Bool}{f:Fr}(h1:Bt 210 f.1)(h2:Bt 210 f.2):AK b (dF f):=⟨Sw.fr (Sw.intB h1) (Sw.intB h2),fun g e=>by
  simp only [dF,PyData.tuple.injEq,List.cons.injEq,PyData.int.injEq,and_true] at e
  rw [←e.2];exact h2⟩
theorem rO{b:Bool}{f:Fr}(h:S1 195 f):AK b (dF f):=iH (h.top.mono (by decide)) (h.bt.mono (by decide))
theorem iZ{b:Bool}{L:List PyData}(h:∀d∈L,AK b d)(hl:L.length≤40):ua (.tuple L):=by
  have s:Sw b (40*1000+5) 5 (.tuple L):=Sw.tup (n:=1000) (dep:=4) (m:=40) (fun d hd=>(h d hd).sw) hl
  exact⟨⟨s.sh,fun ws e f hf=>(h (dF f) (by rw [PyData.tuple.inj e];exact List.mem_map_of_mem hf)).bd f rfl⟩,b,s.mono (by decide) (by decide)⟩
theorem og{b:Bool}{d:PyData}(h:Sw b 50000 6 d)(hn:∀ds,d≠.tuple ds):ua d:=⟨⟨h.sh,fun ws e=>absurd e (hn _)⟩,b,h⟩
theorem tO:∀d∈wH,ua d:=fun d h=>by
  have s0:PyData.strOk ""=true:=bQ _
  have s1:PyData.strOk "a"=true:=bQ _
  have s2:PyData.strOk "0"=true:=bQ _
  have k0:("":Str).length≤10:=by decide
  have k1:("a":Str).length≤10:=by decide
  have k2:("0":Str).length≤10:=by decide
  have yes:∀d,qY 4 d=true→wt d≤9→ua d:=fun d hd hw=>by
    have s:=(i_ hd).sw
    refine⟨⟨s.sh,fun ws e f hf=>?_⟩,false,s.mono (by lia) (by decide)⟩
    subst e
    simp only [qY,Bool.and_eq_true] at hd
    have:=nJ.mp hd.2 (dF f) (List.mem_map_of_mem hf)
    simp only [dF,qY,iG,Bool.and_eq_true,decide_eq_true_eq] at this
    exact Bt.mono (m:=128) this.2.2.1 (by decide)
  unfold wH at h
  simp only [List.mem_cons,List.not_mem_nil,or_false] at h
  rcases h with rfl | rfl | rfl | rfl | rfl | rfl | rfl | rfl | rfl | rfl | rfl | rfl | rfl | rfl | rfl | rfl | rfl | rfl | rfl | rfl | rfl | rfl | rfl | rfl | rfl | rfl | rfl
  all_goals first
    | exact yes _ (by first | rfl | decide | (simp only [qY,iG,s0,s1,s2,k0,k1,k2];first | done | decide)) (by first | decide | (simp only [wt,mU];decide))
    | exact og (b:=true) ⟨rfl,by decide+kernel,by simp [PyData.depth,PyData.depthKv],by decide+kernel,by decide+kernel⟩ (fun ds e=>by cases e)
def ez(t m:Int):List PyData:=[dF (lowM (t*1000+m) (m*1000)),dF (lowM (max 0 (t*1000 - m)) (m*1000))]
def js(t m:Int):List PyData:=ez t m++[.tuple [.int (-1),.int 2],.tuple [.int 2,.int 1],.tuple [.int (2*t),.int (2*m)],.int t,.bool true,.none,.tuple [.bool true,.int 1],.list [.int t,.int m],.dict [],.tuple [.int 0,.int 1],.tuple [.none,.int m],.tuple [.int t,.str "1"],.tuple [.tuple [.int t],.int m],.tuple [.list [.int t],.int m],.tuple [.bool false,.int 1],.tuple [.int t,.bool true]]
theorem wA{t b:Int}(hb:0 < b)(ht:0≤t)(h:t≤2*b){n:Nat}(hn:Bt n b):Bt (n+2) (lowM t b).1∧Bt n (lowM t b).2:=by
  obtain⟨d,d0,h3,h4,h5,h6⟩:=eN hb ht
  have l:=Int.le_of_dvd hb (iC hb ht)
  have u:=iW (i:=2) hb ht h
  have b2:Bt n (lowM t b).2:=hn.of_le (by lia)
  refine⟨?_,b2⟩
  unfold Bt at b2 ⊢
  rw [Nat.pow_add]
  lia
theorem uQ{t m:Int}(hp:0 < m)(h0:0≤t)(h1:t≤m)(hb:Bt 195 m):∀x∈js t m,∃b,AK b x:=fun x hx=>by
  have bt:Bt 210 t:=(hb.of_le (by lia)).mono (by decide)
  have bm:Bt 210 m:=hb.mono (by decide)
  have b10:Bt 10 1000:=by unfold Bt;decide
  have bk:Bt 205 (m*1000):=(hb.mul b10).mono (by decide)
  have no:∀{b:Bool} {d:PyData},Sw b 1000 4 d→(∀f:Fr,d≠dF f)→∃b,AK b d:=fun{b d} h hn=>⟨b,h,fun f e=>absurd e (hn f)⟩
  have sn:∀b,Sw b 213 2 .none:=fun b=>((i_ (k:=0) (d:=.none) rfl).swF rfl b).mono (by simp [wt]) (by decide)
  have sbo:∀b c,Sw b 213 2 (.bool c):=fun b c=>Sw.bool.mono (by decide) (by decide)
  have s1:PyData.strOk "1"=true:=bQ _
  have k1:("1":Str).length≤10:=by decide
  have ss:∀b,Sw b 213 2 (.str "1"):=fun b=>((i_ (k:=0) (d:=.str "1") (by simp only [qY,s1,k1];decide)).swF rfl b).mono (by simp [wt]) (by decide)
  have one:Bt 210 1:=by unfold Bt;decide
  unfold js ez at hx
  simp only [List.cons_append,List.nil_append,List.mem_cons,List.not_mem_nil,or_false] at hx
  rcases hx with rfl | rfl | rfl | rfl | rfl | rfl | rfl | rfl | rfl | rfl | rfl | rfl | rfl | rfl | rfl | rfl | rfl | rfl
  · obtain⟨l1,l2⟩:=wA (t:=t*1000+m) (b:=m*1000) (by lia) (by lia) (by lia) bk
    exact⟨true,iH (l1.mono (by decide)) (l2.mono (by decide))⟩
  · obtain⟨l1,l2⟩:=wA (t:=max 0 (t*1000 - m)) (b:=m*1000) (by lia) (by lia) (by lia) bk
    exact⟨true,iH (l1.mono (by decide)) (l2.mono (by decide))⟩
  · exact⟨true,iH (f:=(-1,2)) (by show Bt 210 (-1);unfold Bt;decide) (by show Bt 210 2;unfold Bt;decide)⟩
  · exact⟨true,iH (f:=(2,1)) (by show Bt 210 2;unfold Bt;decide) one⟩
  · have d1:Bt 210 (2*t):=by rw [show 2*t=t+t by lia];exact((hb.of_le (i:=t) (by lia)).add (hb.of_le (i:=t) (by lia))).mono (by decide)
    have d2:Bt 210 (2*m):=by rw [show 2*m=m+m by lia];exact(hb.add hb).mono (by decide)
    exact⟨true,iH (f:=(2*t,2*m)) d1 d2⟩
  · exact no (b:=true) ((Sw.intB bt).mono (by decide) (by decide)) (fun f e=>by cases e)
  · exact no (b:=true) ((sbo _ _).mono (by decide) (by decide)) (fun f e=>by cases e)
  · exact no (b:=true) ((sn _).mono (by decide) (by decide)) (fun f e=>by cases e)
  · exact no (b:=true) (Sw.fr (sbo _ _) (Sw.intB one)) (fun f e=>by simp [dF] at e)
  · exact no (b:=false) ((Sw.lst (n:=213) (dep:=2) (m:=2) (fun d hd=>by
      simp only [List.mem_cons,List.not_mem_nil,or_false] at hd
      rcases hd with rfl | rfl
      · exact Sw.intB bt
      · exact Sw.intB bm) (by simp)).mono (by decide) (by decide)) (fun f e=>by cases e)
  · exact no (b:=true) ⟨rfl,by decide+kernel,by simp [PyData.depth,PyData.depthKv],by decide+kernel,by decide+kernel⟩ (fun f e=>by cases e)
  · exact⟨true,iH (f:=(0,1)) (by show Bt 210 0;unfold Bt;decide) one⟩
  · exact no (b:=true) (Sw.fr (sn _) (Sw.intB bm)) (fun f e=>by simp [dF] at e)
  · exact no (b:=true) (Sw.fr (Sw.intB bt) (ss _)) (fun f e=>by simp [dF] at e)
  · exact no (b:=true) ((Sw.tup (n:=400) (dep:=3) (m:=2) (fun d hd=>by
      simp only [List.mem_cons,List.not_mem_nil,or_false] at hd
      rcases hd with rfl | rfl
      · exact(Sw.tup (n:=213) (dep:=2) (m:=1) (fun d hd=>by simp at hd;subst hd;exact Sw.intB bt) (by simp)).mono (by decide) (by decide)
      · exact(Sw.intB bm).mono (by decide) (by decide)) (by simp)).mono (by decide) (by decide)) (fun f e=>by simp [dF] at e)
  · exact no (b:=false) ((Sw.tup (n:=400) (dep:=3) (m:=2) (fun d hd=>by
      simp only [List.mem_cons,List.not_mem_nil,or_false] at hd
      rcases hd with rfl | rfl
      · exact(Sw.lst (n:=213) (dep:=2) (m:=1) (fun d hd=>by simp at hd;subst hd;exact Sw.intB bt) (by simp)).mono (by decide) (by decide)
      · exact(Sw.intB bm).mono (by decide) (by decide)) (by simp)).mono (by decide) (by decide)) (fun f e=>by simp [dF] at e)
  · exact no (b:=true) (Sw.fr (sbo _ _) (Sw.intB one)) (fun f e=>by simp [dF] at e)
  · exact no (b:=true) (Sw.fr (Sw.intB bt) (sbo _ _)) (fun f e=>by simp [dF] at e)
theorem yO{x:PyData}{xs:List PyData}{lo hi:Option Int}(h:x∈L2.cutD xs lo hi):x∈xs:=List.mem_of_mem_drop (List.mem_of_mem_take h)
theorem Cr{ss:List Fr}(hs:∀f∈ss,S1 195 f)(hl:ss.length≤16){n:Int}(hn:0≤n):∃d,jk [.d (.int n),.d (.tuple (ss.map dF))]=some (.d d,[.d (.int n),.d (.tuple (ss.map dF))])∧ua d:=by
  have all:∀b,∀d∈ss.map dF,AK b d:=fun b d hd=>by
    obtain⟨f,hf,rfl⟩:=List.mem_map.mp hd
    exact rO (hs f hf)
  have sh:SeqAt.shaped (.tuple (ss.map dF))=true:=(Sh.tup (n:=4) fun d hd=>by
    obtain⟨f,hf,rfl⟩:=List.mem_map.mp hd
    exact Sh.ints (ns:=[f.1,f.2])).ok (by decide)
  have eT:=fun e=>vX (e:=e) (neg:=false) sh
  by_cases c:ss=[]
  · subst c
    obtain⟨d,hd,td⟩:=AE n
    refine⟨d,?_,tO d hd⟩
    simp only [List.map_nil,List.isEmpty_nil,Bool.false_eq_true,if_false] at eT ⊢
    simp? [jk,oB,eT,td]
  · have pos:0 < ss.length:=List.length_pos_iff.mpr c
    have ne:(ss.map dF).isEmpty=false:=by cases ss with | nil=>exact absurd rfl c | cons _ _=>rfl
    rw [ne] at eT
    simp only [Bool.false_eq_true,if_false] at eT
    have b22:Bt 8000 22:=ja (by decide) (by decide)
    have f22:∀e:En,eu e (.d (.int n)) (.d (.int 22))=some (.d (.int (n / 22))):=fun e=>ef (by decide) b22
    have lp:0 < (ss.length:Int):=by lia
    have gm:∀e:En,be e (.d (.int (n / 22))) (.d (.int (ss.length:Int)))=some (.d (.int (n / 22 % (ss.length:Int)))):=fun e=>aM lp
    have x0:=uh (n:=n / 22) lp;have x1:=ui (n:=n / 22) lp
    generalize n / 22 % (ss.length:Int)=at_ at*
    have gk:∀e:En,be e (.d (.int n)) (.d (.int 22))=some (.d (.int (n % 22))):=fun e=>aM (by decide)
    have y0:=uh (n:=n) (k:=22) (by decide);have y1:=ui (n:=n) (k:=22) (by decide)
    generalize n % 22=q at*
    have ai:=yr (rs:=ss) (z:=(0,1)) x0 x1
    have sx:=hs (ss.getD at_.toNat (0,1)) (by rw [List.getD_eq_getElem?_getD,List.getElem?_eq_getElem (by lia)];exact List.getElem_mem _)
    generalize ss.getD at_.toNat (0,1)=f at*
    obtain⟨t,m⟩:=f
    have mp:0 < m:=sx.low.pos
    have t0:0≤t:=sx.lo
    have t1:t≤m:=sx.hi
    have bm:Bt 195 m:=sx.bt
    have b10:Bt 10 1000:=by unfold Bt;decide
    have mu1:∀e:En,a' e (.d (.int t)) (.d (.int 1000))=some (.d (.int (t*1000))):=fun e=>aN (iF (by decide) (by decide))
    have mu2:∀e:En,a' e (.d (.int m)) (.d (.int 1000))=some (.d (.int (m*1000))):=fun e=>aN (iF (by decide) (by decide))
    have mu3:∀e:En,a' e (.d (.int 2)) (.d (.int t))=some (.d (.int (2*t))):=fun e=>aN (kN (by decide) (by decide))
    have mu4:∀e:En,a' e (.d (.int 2)) (.d (.int m))=some (.d (.int (2*m))):=fun e=>aN (kN (by decide) (by decide))
    have l1:=ka (t*1000+m) (m*1000) (by lia) ((bm.mul b10).mono (by decide))
    have l2:=ka (max 0 (t*1000 - m)) (m*1000) (by lia) ((bm.mul b10).mono (by decide))
    have lnn:((ss.map dF).length:Int)=(ss.length:Int):=by simp
    have ca5:∀(e:En) (xs ys:List PyData),e[5]?=some (some (.l xs))→xs.length+ys.length≤1000000→bu e (.s 5) (.l ys)=some (.l (xs++ys)):=fun e xs ys he h=>oM he h
    have ca6:∀(e:En) (xs ys:List PyData),e[6]?=some (some (.l xs))→xs.length+ys.length≤1000000→bu e (.s 6) (.l ys)=some (.l (xs++ys)):=fun e xs ys he h=>oM he h
    have sok:=uQ mp t0 t1 bm
    have lN:(ss.map dF).length≤16:=by simpa using hl
    have allc:∀b lo hi,∀d∈L2.cutD (ss.map dF) lo hi,AK b d:=fun b lo hi d hd=>all b d (yO hd)
    obtain⟨S,hS⟩:∃S,S=js t m:=⟨_,rfl⟩
    have head:∀R,(aB (gD (aJ (ao qX (ae 7) (vC (.int 18))))
      (aT (ao bu (ao bu (mT (ae 1) dc (cW (ae 2))) (aR (aa (ao bz (ae 6) (ae 7)) ag))) (mT (ae 1) (cW (ao bu (ae 2) (vC (.int 1)))) dc)))
      cG)
      (aB (gD (aJ (ao (bW false) (ae 7) (vC (.int 18))))
      (aT (mT (ae 1) (cW (vC (.int 1))) dc))
      cG)
      (aT (ao bz (cH (aa (ao bu (ae 1) (aR (aa (aR (aa (vC (.int 0)) (aa (vC (.int 1)) ag))) ag))) (aa (aW (g1 nB) (aa (ae 1) ag)) (aa (ao bu (mT (ae 1) (cW (ae 2)) dc) (mT (ae 1) dc (cW (ae 2)))) ag)))) (ao fM (ae 7) (vC (.int 19))))))) [some (.d (.int n)),some (.d (.tuple (ss.map dF))),some (.d (.int at_)),some (.d (.int t)),some (.d (.int m)),some (.l (ez t m)),some (.l S),some (.d (.int q))]=R→oB [some (.d (.int n)),some (.d (.tuple (ss.map dF))),none,none,none,none,none,none]=R:=fun R hR=>by
      rw [←hR]
      unfold oB
      subst hS
      generalize ss.map dF=NN at*
      generalize (ss.length:Int)=SL at*
      refine(aV (e1:=[some (.d (.int n)),some (.d (.tuple NN)),none,none,none,none,none,none]) ?_).trans ?_
      · simp? [eT]
      refine(aV (e1:=[some (.d (.int n)),some (.d (.tuple NN)),some (.d (.int at_)),none,none,none,none,none]) ?_).trans ?_
      · simp? [f22,lnn,gm]
      refine(aV (e1:=[some (.d (.int n)),some (.d (.tuple NN)),some (.d (.int at_)),some (.d (.int t)),some (.d (.int m)),none,none,none]) ?_).trans ?_
      · unfold dF at ai
        simp? [ai]
      refine(aV (e1:=[some (.d (.int n)),some (.d (.tuple NN)),some (.d (.int at_)),some (.d (.int t)),some (.d (.int m)),some (.l (ez t m)),none,none]) ?_).trans ?_
      · unfold ez dF
        simp? [mu1,mu2,l1,l2]
      have hh:(ez t m).length=2:=rfl
      refine(aV (e1:=[some (.d (.int n)),some (.d (.tuple NN)),some (.d (.int at_)),some (.d (.int t)),some (.d (.int m)),some (.l (ez t m)),some (.l (ez t m++[.tuple [.int (-1),.int 2],.tuple [.int 2,.int 1],.tuple [.int (2*t),.int (2*m)],.int t,.bool true,.none,.tuple [.bool true,.int 1],.list [.int t,.int m],.dict [],.tuple [.int 0,.int 1]])),none]) ?_).trans ?_
      · generalize ez t m=HH at*
        simp? [mu3,mu4,ca5,hh,lh]
      refine(aV (e1:=[some (.d (.int n)),some (.d (.tuple NN)),some (.d (.int at_)),some (.d (.int t)),some (.d (.int m)),some (.l (ez t m)),some (.l (js t m)),none]) ?_).trans ?_
      · unfold js
        generalize ez t m=HH at*
        simp? [ca6,hh,lh]
      refine(aV (e1:=[some (.d (.int n)),some (.d (.tuple NN)),some (.d (.int at_)),some (.d (.int t)),some (.d (.int m)),some (.l (ez t m)),some (.l (js t m)),some (.d (.int q))]) ?_).trans ?_
      · generalize ez t m=HH at*
        generalize js t m=SM at*
        simp? [gk]
      rfl
    have fin:∀(d:PyData),ua d→(∀e,e=[some (.d (.int n)),some (.d (.tuple (ss.map dF))),some (.d (.int at_)),some (.d (.int t)),some (.d (.int m)),some (.l (ez t m)),some (.l S),some (.d (.int q))]→(aB (gD (aJ (ao qX (ae 7) (vC (.int 18))))
      (aT (ao bu (ao bu (mT (ae 1) dc (cW (ae 2))) (aR (aa (ao bz (ae 6) (ae 7)) ag))) (mT (ae 1) (cW (ao bu (ae 2) (vC (.int 1)))) dc)))
      cG)
      (aB (gD (aJ (ao (bW false) (ae 7) (vC (.int 18))))
      (aT (mT (ae 1) (cW (vC (.int 1))) dc))
      cG)
      (aT (ao bz (cH (aa (ao bu (ae 1) (aR (aa (aR (aa (vC (.int 0)) (aa (vC (.int 1)) ag))) ag))) (aa (aW (g1 nB) (aa (ae 1) ag)) (aa (ao bu (mT (ae 1) (cW (ae 2)) dc) (mT (ae 1) dc (cW (ae 2)))) ag)))) (ao fM (ae 7) (vC (.int 19))))))) e=some (.rt (.d d) e))→∃d,jk [.d (.int n),.d (.tuple (ss.map dF))]=some (.d d,[.d (.int n),.d (.tuple (ss.map dF))])∧ua d:=fun d hd h=>by
      refine⟨d,?_,hd⟩
      have hb:=head _ (h _ rfl)
      generalize ss.map dF=NN at*
      simp? [jk,hb]
    have gc:∀(xs ys:List PyData),xs.length≤100→ys.length≤100→∀e:En,bu e (.d (.tuple xs)) (.d (.tuple ys))=some (.d (.tuple (xs++ys))):=fun xs ys h1 h2 e=>rq (by lia)
    have cl:∀lo hi,(L2.cutD (ss.map dF) lo hi).length≤16:=fun lo hi=>Nat.le_trans L2.cut_len lN
    have l1':=cl none (some at_);have l2':=cl (some (at_+1)) none;have l3':=cl (some 1) none;have l4':=cl (some at_) none
    by_cases c18:q < 18
    · obtain⟨x,hx,ax⟩:=gK (xs:=S) (i:=q) y0 (by rw [hS];show q < 18;exact c18)
      rw [hS] at hx
      obtain⟨b,px⟩:=sok x hx
      refine fin (.tuple (L2.cutD (ss.map dF) none (some at_)++[x]++L2.cutD (ss.map dF) (some (at_+1)) none)) (iZ (b:=b) (fun d hd=>?_) (by simp only [List.length_append,List.length_cons,List.length_nil];lia)) (fun e he=>?_)
      · rcases List.mem_append.mp hd with h | h
        · rcases List.mem_append.mp h with h | h
          · exact allc b _ _ d h
          · simp at h;subst h;exact px
        · exact allc b _ _ d h
      · subst he
        clear hS
        generalize ss.map dF=NN at*
        have k4:=gc (L2.cutD NN none (some at_)) [x] (by lia) (by simp)
        have k5:=gc (L2.cutD NN none (some at_)++[x]) (L2.cutD NN (some (at_+1)) none) (by simp;lia) (by lia)
        generalize L2.cutD NN none (some at_)++[x]++L2.cutD NN (some (at_+1)) none=E2 at*
        generalize hE4:L2.cutD NN none (some at_)++[x]=E4 at*
        generalize hA:L2.cutD NN none (some at_)=A at*
        generalize hB:L2.cutD NN (some (at_+1)) none=B at*
        generalize ez t m=HH at*
        simp? [c18,ax,hA,hB,k4,k5, -ff,ff]
    · by_cases c2:q=18
      · subst c2
        refine fin (.tuple (L2.cutD (ss.map dF) (some 1) none)) (iZ (b:=true) (allc _ _ _) (by lia)) (fun e he=>?_)
        subst he
        generalize ss.map dF=NN at*
        generalize ez t m=HH at*
        simp? [List.replicate]
      · have ge:∀e:En,bW false e (.d (.int q)) (.d (.int 18))=some (.d (.bool false)):=fun e=>by rw [dJ];simp [c2]
        obtain⟨x,hx,ax⟩:=gK (xs:=[PyData.tuple (ss.map dF++[.tuple [.int 0,.int 1]]),.list (ss.map dF),.tuple (L2.cutD (ss.map dF) (some at_) none++L2.cutD (ss.map dF) none (some at_))]) (i:=q - 19) (by lia) (by simp;lia)
        refine fin x ?_ (fun e he=>?_)
        · simp only [List.mem_cons,List.not_mem_nil,or_false] at hx
          rcases hx with rfl | rfl | rfl
          · refine iZ (b:=true) (fun d hd=>?_) (by simp only [List.length_append,List.length_cons,List.length_nil];lia)
            rcases List.mem_append.mp hd with h | h
            · exact all _ d h
            · simp at h;subst h;exact iH (f:=(0,1)) (by show Bt 210 0;unfold Bt;decide) (by show Bt 210 1;unfold Bt;decide)
          · exact og (b:=false) ((Sw.lst (n:=1000) (dep:=4) (m:=16) (fun d hd=>(all false d hd).sw) lN).mono (by decide) (by decide)) (fun ds e=>by cases e)
          · refine iZ (b:=true) (fun d hd=>?_) (by simp only [List.length_append];lia)
            rcases List.mem_append.mp hd with h | h
            · exact allc _ _ _ d h
            · exact allc _ _ _ d h
        · subst he
          clear hS
          generalize ss.map dF=NN at*
          have k4:=gc NN [.tuple [.int 0,.int 1]] (by lia) (by simp)
          have k5:=gc (L2.cutD NN (some at_) none) (L2.cutD NN none (some at_)) (by lia) (by lia)
          generalize L2.cutD NN (some at_) none++L2.cutD NN none (some at_)=E1 at*
          generalize NN++[.tuple [.int 0,.int 1]]=E2 at*
          generalize hA:L2.cutD NN none (some at_)=A at*
          generalize hB:L2.cutD NN (some at_) none=B at*
          have gl:∀(e:En),g1 nB e [.d (.tuple NN)]=some (.l NN):=fun e=>rfl
          generalize ez t m=HH at*
          simp? [c18,ge,ax,hA,hB,k4,k5,gl, -ff,ff]
theorem CC{W:br}(ok:W.Ok)(b:Bool):Sw b 64025 5 (ap W):=by
  have t0:=ok.t0;have t1:=ok.t1;have a0:=ok.a0;have a1:=ok.a1;have wl:=ok.len;have pl:=ok.pl
  have T2:∀d∈W.ties.map bG,Sw b 1000 3 d:=fun d hd=>by
    obtain⟨t,ht,rfl⟩:=List.mem_map.mp hd
    have o:=ok.ties t ht
    have o0:=o.o0;have o1:=o.o1;have o2:=o.o2;have c0:=o.c0;have c1:=o.c1;have b1:=o.b1;have w0:=o.w0;have w1:=o.w1
    have hd:qY 2 (bG t)=true:=by
      simp only [bG,qY,iG,Bool.and_eq_true,decide_eq_true_eq,Nat.reducePow]
      exact⟨by decide,by lia,by lia,⟨by decide,by lia,by lia,trivial⟩,by lia,trivial⟩
    exact((i_ hd).swF rfl b).mono (by simp [bG,wt,mU]) (by decide)
  have T3:Sw b 16005 4 (.tuple (W.ties.map bG)):=Sw.tup (n:=1000) (dep:=3) (m:=16) T2 (by simpa using wl)
  have P1:Sw b 16005 4 (.tuple (W.pat.map .int)):=(Sw.ints (m:=12) (fun r hr=>by have:=ok.pat r hr;lia) (by lia)).mono (by decide) (by decide)
  have i1:Sw b 16005 4 (.int W.things):=(Sw.int (by lia)).mono (by decide) (by decide)
  have i2:Sw b 16005 4 (.int W.asks):=(Sw.int (by lia)).mono (by decide) (by decide)
  exact Sw.tup (n:=16005) (dep:=4) (m:=4) (fun d hd=>by
    simp only [List.mem_cons,List.not_mem_nil,or_false] at hd
    rcases hd with rfl | rfl | rfl | rfl
    · exact i1
    · exact T3
    · exact P1
    · exact i2) (by simp)
theorem xM{t b:Int}(h:uf t b):S1 7 (t,b):=⟨⟨by have:=h.2.2.1;show(0:Int) < b;lia,h.2.2.2.2⟩,h.1,h.2.1,by have:=h.2.2.1;have:=h.2.2.2.1;show Bt 7 b;unfold Bt;lia⟩
theorem uS(n:Int)(hn:0≤n):∃f:Fr,bE [.d (.int n),.d (.int 1)]=some (.d (dF f),[.d (.int n),.d (.int 1)])∧S1 4 f:=by
  have b9:Bt 8000 9:=ja (by decide) (by decide)
  have hm:(n / 9) % (2+n % 9 - 1) < 2+n % 9 - 1:=Int.emod_lt_of_pos _ (by lia)
  have hm0:0≤(n / 9) % (2+n % 9 - 1):=Int.emod_nonneg _ (by lia)
  have hb:(0:Int) < 2+n % 9:=by lia
  have ht:0≤1+(n / 9) % (2+n % 9 - 1):=by lia
  obtain⟨d,d0,h3,h4,h5,h6⟩:=eN hb ht
  have u:=iW (i:=1) hb ht (by lia)
  have l:=Int.le_of_dvd hb (iC hb ht)
  refine⟨lowM (1+(n / 9) % (2+n % 9 - 1)) (2+n % 9),?_,ly.lowM hb,h6,by rw [Int.one_mul] at u;exact u,by unfold Bt;lia⟩
  have hpos:∀e:En,be e (.d (.int (n / 9))) (.d (.int (2+n % 9 - 1)))=_:=fun e=>aM (by lia)
  have hl:=ka (1+(n / 9) % (2+n % 9 - 1)) (2+n % 9) (by lia) (vp (by lia) (by lia) (by decide))
  unfold dF
  simp? [bE,fW,aM,ef,b9,hpos,hl]
inductive SK (W:br) (q:Int) (i:Nat):En→Prop
  | mk {ds:List Int} {ws:List Fr} {v4 v5:Option Sv} (hd:gS ds) (hl:ws.length=i) (hs:∀f∈ws,S1 7 f):SK W q i [some (.l (ds.map .int)),some (.d (ap W)),some (.l (ws.map dF)),some (.d (.int q)),v4,v5]
theorem x6{W:br}(ok:W.Ok){ds:List Int}(hd:gS ds):∃(ws:List Fr) (ds':List Int),iD [.l (ds.map .int),.d (ap W)]=some (.d (.tuple (ws.map dF)),[.l (ds'.map .int),.d (ap W)])∧gS ds'∧ws.length=W.ties.length∧∀f∈ws,S1 7 f:=by
  have wl:=ok.len
  have g1':=As (W:=W)
  obtain⟨n1,d1,t1, -, -,hd1⟩:=iq hd
  have gm:∀e:En,be e (.d (.int n1)) (.d (.int 3))=some (.d (.int (n1 % 3))):=fun e=>aM (by decide)
  have q0:=uh (n:=n1) (k:=3) (by decide);have q1:=ui (n:=n1) (k:=3) (by decide)
  generalize n1 % 3=q at*
  obtain⟨e',h1,hI⟩:=cf (own:=[]) (g:=ah 4) (f:=gN) (SK W q) (W.ties.map bG) 0 [some (.l (d1.map .int)),some (.d (ap W)),some (.l []),some (.d (.int q)),none,none] (fun i x e hx hI=>by
    obtain⟨hd,hl,hs⟩:=hI
    rename_i ds ws v4 v5
    rw [Nat.zero_add] at*
    have il:=(List.getElem?_eq_some_iff.mp hx).1
    rw [List.length_map] at il
    obtain⟨n,d2,t2,a2, -,hd2⟩:=iq hd
    obtain⟨ta,ba,ca,oa⟩:=j' n 1 a2
    obtain⟨tb,bb,cb,ob⟩:=j' n 0 a2
    obtain⟨tc,bc,cc,oc⟩:=j' n 2 a2
    obtain⟨z,hz,az⟩:=gK (xs:=[PyData.tuple [.int ta,.int ba],.tuple [.int tb,.int bb],.tuple [.int tc,.int bc]]) (i:=q) q0 (by simpa using q1)
    obtain⟨f,rfl,hf⟩:∃f:Fr,z=dF f∧S1 7 f:=by
      simp only [List.mem_cons,List.not_mem_nil,or_false] at hz
      rcases hz with rfl | rfl | rfl
      · exact⟨(ta,ba),rfl,xM oa⟩
      · exact⟨(tb,bb),rfl,xM ob⟩
      · exact⟨(tc,bc),rfl,xM oc⟩
    refine⟨[some (.l (ds.map .int)),some (.d (ap W)),some (.l (ws.map dF)),some (.d (.int q)),some (.d x),v5],[some (.l (d2.map .int)),some (.d (ap W)),some (.l ((ws++[f]).map dF)),some (.d (.int q)),some (.d x),some (.d (.int n))],rfl,?_,bT,.mk hd2 (by simp;lia) (fun g hg=>by
      rcases List.mem_append.mp hg with h | h
      · exact hs g h
      · simp at h;subst h;exact hf)⟩
    have ll:(ws.map dF).length < 1000000:=by simp;lia
    rw [List.map_append,List.map_cons,List.map_nil]
    generalize dF f=F at*
    generalize ws.map dF=WF at*
    generalize ap W=WW at*
    simp? [gN,t2,ca,cb,cc,az,ll]) (SK.mk (ws:=[]) hd1 rfl fun f h=>by cases h)
  obtain⟨hd2,hl2,hs2⟩:=hI
  rename_i d2 ws v4 v5
  rw [Nat.zero_add,List.length_map] at hl2
  refine⟨ws,d2,?_,hd2,hl2,hs2⟩
  have hi:jj [some (.l (d1.map .int)),some (.d (ap W)),some (.l []),some (.d (.int q)),none,none]=some (W.ties.map bG,[],[some (.l (d1.map .int)),some (.d (ap W)),some (.l []),some (.d (.int q)),none,none]):=by
    unfold jj
    exact kJ (by simp? [g1'])
  have hg:=fun Wl=>b_ (W:=Wl) (g:=ah 4) (f:=gN) hi
  rw [h1] at hg
  generalize ws.map dF=WF at*
  generalize ap W=WW at*
  simp? [iD,pR,t1,gm,hg]
def uU(ei:En)(o:Option Nat)(s:Option Sv):Option Sv:=match s with
  | some (.l xs)=>match o with
    | some k=>(ei[k]?).join
    | none=>some (.l xs)
  | s=>s
theorem AF{ei:En}{s:Option Sv}:uU ei none s=s:=by rcases s with _ | (_ | _ | _)<;>rfl
theorem vR{n:Nat}{out:List PyData}(h:∀d∈out,∃f:Fr,d=dF f∧S1 n f):∃ws:List Fr,out=ws.map dF∧∀f∈ws,S1 n f:=by
  induction out with
  | nil=>exact⟨[],rfl,fun f h=>by cases h⟩
  | cons d r ih=>
    obtain⟨ws,rfl,hw⟩:=ih fun x hx=>h x (by simp [hx])
    obtain⟨f,rfl,hf⟩:=h d (by simp)
    exact⟨f::ws,rfl,fun g hg=>by
      rcases List.mem_cons.mp hg with rfl | hg
      · exact hf
      · exact hw g hg⟩
theorem AV{ns ds:List Int}{W:br}(ok:W.Ok){v2 v4 v5 v6 v7 v8:Option Sv}(hd:gS ds):∃(ds':List Int) (ws:List Fr),bF [(1,"_law_drawn")] 1 Ey (ah 1) bB Et [some (.d (.list (ns.map .int))),some (.l (ds.map .int)),v2,some (.d (ap W)),v4,v5,v6,v7,v8]=some (.l (ws.map dF),[some (.d (.list (ns.map .int))),some (.l (ds'.map .int)),v2,some (.d (ap W)),v4,v5,v6,v7,v8])∧gS ds'∧ws.length=W.ties.length∧∀f∈ws,S1 4 f:=by
  have wl:=ok.len
  have g1':=As (W:=W)
  obtain⟨out,e',h1,h2,h3,⟨ds',v,he,hd'⟩⟩:=km (g:=ah 1) (ft:=bB) (fe:=Et) (fun i e=>∃ds v,e=[some (.l (ds.map .int)),v]∧gS ds) (fun d=>∃f:Fr,d=dF f∧S1 4 f) (W.ties.map bG) 0 [some (.l (ds.map .int)),none] [] (fun i x e hx ⟨ds,v,he,hd⟩=>by
    subst he
    obtain⟨n,d1,t1,a1,b1,hd1⟩:=iq hd
    obtain⟨f,tc,hf⟩:=uS n a1
    refine⟨_,.d (dF f),dF f,_,rfl,rfl,?_,rfl,⟨f,rfl,hf⟩,d1,some (.d x),rfl,hd1⟩
    generalize dF f=F at*
    simp? [Et,t1,tc]) ⟨ds,none,rfl,hd⟩ (by simp;lia)
  subst he
  rw [List.nil_append] at h1
  obtain⟨ws,rfl,hw⟩:=vR h3
  refine⟨ds',ws,?_,hd',by simpa using h2,hw⟩
  have hi:Ey [some (.d (.list (ns.map .int))),some (.l (ds.map .int)),v2,some (.d (ap W)),v4,v5,v6,v7,v8]=some (W.ties.map bG,[],[some (.d (.list (ns.map .int))),some (.l (ds.map .int)),v2,some (.d (ap W)),v4,v5,v6,v7,v8]):=by
    unfold Ey
    exact kJ (by simp? [g1'])
  rw [oj (cp:=[(1,"_law_drawn")]) (nT:=1) hi h1 rfl]
  refine congrArg (fun z=>some (Rv.l (ws.map dF),z)) ?_
  have u:kb (jU [(1,"_law_drawn")]) [some (.l (ds'.map .int)),v] [some (.d (.list (ns.map .int))),some (.l (ds.map .int)),v2,some (.d (ap W)),v4,v5,v6,v7,v8]=[some (.d (.list (ns.map .int))),some (.l (ds'.map .int)),uU [] none v2,some (.d (ap W)),uU [] none v4,uU [] none v5,uU [] none v6,uU [] none v7,uU [] none v8]:=rfl
  simp only [AF] at u
  exact u
theorem AN{ns ds:List Int}{W:br}{ss:List Fr}(hs:∀f∈ss,S1 195 f)(hl:ss.length≤16){v2 v4 v6 v7 v8:Option Sv}(hd:gS ds):∃(ds':List Int) (out:List PyData),bF [(5,"_law_right_here"),(1,"_law_drawn")] 1 Ex (ah 2) bB C9 [some (.d (.list (ns.map .int))),some (.l (ds.map .int)),v2,some (.d (ap W)),v4,some (.d (.tuple (ss.map dF))),v6,v7,v8]=some (.l out,[some (.d (.list (ns.map .int))),some (.l (ds'.map .int)),v2,some (.d (ap W)),v4,some (.d (.tuple (ss.map dF))),v6,v7,v8])∧gS ds'∧out.length=5∧∀d∈out,ua d:=by
  obtain⟨out,e',h1,h2,h3,⟨ds',v,he,hd'⟩⟩:=km (g:=ah 2) (ft:=bB) (fe:=C9) (fun i e=>∃ds v,e=[some (.d (.tuple (ss.map dF))),some (.l (ds.map .int)),v]∧gS ds) ua (a8 0 5) 0 [some (.d (.tuple (ss.map dF))),some (.l (ds.map .int)),none] [] (fun i x e hx ⟨ds,v,he,hd⟩=>by
    subst he
    obtain⟨n,d1,t1,a1,b1,hd1⟩:=iq hd
    obtain⟨d,tb,td⟩:=Cr hs hl a1
    refine⟨_,.d d,d,_,rfl,rfl,?_,rfl,td,d1,some (.d x),rfl,hd1⟩
    generalize ss.map dF=SS at*
    simp? [C9,t1,tb]) ⟨ds,none,rfl,hd⟩ (by simp [cN])
  subst he
  rw [List.nil_append] at h1
  refine⟨ds',out,?_,hd',by rw [h2,cN],h3⟩
  rw [oj (cp:=[(5,"_law_right_here"),(1,"_law_drawn")]) (nT:=1) (fi:=Ex) (e:=[some (.d (.list (ns.map .int))),some (.l (ds.map .int)),v2,some (.d (ap W)),v4,some (.d (.tuple (ss.map dF))),v6,v7,v8]) (e1:=[some (.d (.list (ns.map .int))),some (.l (ds.map .int)),v2,some (.d (ap W)),v4,some (.d (.tuple (ss.map dF))),v6,v7,v8]) (items:=a8 0 5) rfl h1 rfl]
  refine congrArg (fun z=>some (Rv.l out,z)) ?_
  have u:kb (jU [(5,"_law_right_here"),(1,"_law_drawn")]) [some (.d (.tuple (ss.map dF))),some (.l (ds'.map .int)),v] [some (.d (.list (ns.map .int))),some (.l (ds.map .int)),v2,some (.d (ap W)),v4,some (.d (.tuple (ss.map dF))),v6,v7,v8]=[some (.d (.list (ns.map .int))),some (.l (ds'.map .int)),uU [] none v2,some (.d (ap W)),uU [] none v4,some (.d (.tuple (ss.map dF))),uU [] none v6,uU [] none v7,uU [] none v8]:=rfl
  simp only [AF] at u
  exact u
abbrev du(ns ds:List Int)(k:Int)(W:br)(v4 v5 v6 v7 v8:Option Sv):En:=[some (.d (.list (ns.map .int))),some (.l (ds.map .int)),some (.d (.int k)),some (.d (ap W)),v4,v5,v6,v7,v8]
theorem r6{ns ds:List Int}{k:Int}{W:br}(ok:W.Ok){v4 v5 v6 v8:Option Sv}{d:PyData}(hd:ua d):∃w8,CL (du ns ds k W v4 v5 v6 (some (.d d)) v8)=some (.nx (du ns ds k W v4 v5 v6 (some (.d d)) w8)):=by
  obtain⟨b,sd⟩:=hd.sw
  have sA:Sw b (2*64025+5) 7 (.tuple [ap W,d]):=Sw.tup (n:=64025) (dep:=6) (m:=2) (fun x hx=>by
    simp only [List.mem_cons,List.not_mem_nil,or_false] at hx
    rcases hx with rfl | rfl
    · exact(CC ok b).mono (by decide) (by decide)
    · exact sd.mono (by decide) (by decide)) (by simp)
  have gr:=sA.repr (by decide) (by decide)
  have ge:=fun e=>vZ (e:=e) sA.so
  have r1:=i8 ok hd.bd
  have r2:=zU ok hd.bd
  have r3:=Ct (qZ W d) (qZ W d)
  rw [beq_self_eq_true] at r3
  refine⟨some (.d (.str (PyData.tuple [ap W,d]).shown)),?_⟩
  generalize (PyData.tuple [ap W,d]).shown=SH at*
  generalize qZ W d=bb at*
  simp only [du]
  generalize ap W=WW at*
  simp? [CL,gr,ge,r1,r2,r3]
theorem xH{ns ds:List Int}{k:Int}{W:br}(ok:W.Ok){ws:List Fr}{n:Nat}(h:∀f∈ws,S1 (n+1) f)(hl:ws.length=W.ties.length)(hn:(n+1)*W.ties.length+7*W.ties.length+2≤178)(h7:n+1≤7){v5 v6 v7 v8:Option Sv}(hd:gS ds):
    ∃d2 w5 w6 w7 w8,(aB (aZ 5 (bU 2 gv (aa (ae 3) (aa (ae 4) ag))))
    (aB (gD (aJ (ao lV (bU 2 bx (aa (ae 3) (aa (ae 5) ag))) (vC (.bool true))))
    (aT (vC (.bool false)))
    cG)
    (aB (aZ 6 (ao bu (cH (aa (ae 4) (aa (bU 1 lg (aa (bU 1 bf (aa (ae 1) ag)) ag)) ag))) (bF [(5,"_law_right_here"),(1,"_law_drawn")] 1 Ex (ah 2) bB C9)))
    (dG ([7]++([8]++([]++[]))) Ew (ah 7) CL)))) (du ns ds k W (some (.d (.tuple (ws.map dF)))) v5 v6 v7 v8)=some (.nx (du ns d2 k W (some (.d (.tuple (ws.map dF)))) w5 w6 w7 w8))∧gS d2:=by
  have wl:=ok.len
  obtain⟨ss,ts,hs,sl,sw⟩:=x5 ok h hl hn h7
  have ts':ua (.tuple (ss.map dF)):=iZ (b:=true) (fun d hd=>by
    obtain⟨f,hf,rfl⟩:=List.mem_map.mp hd
    exact rO (hs f hf)) (by simp;lia)
  have tw:ua (.tuple (ws.map dF)):=iZ (b:=true) (fun d hd=>by
    obtain⟨f,hf,rfl⟩:=List.mem_map.mp hd
    exact rO ((h f hf).mono (by lia))) (by simp;lia)
  have r1:=i8 ok ts'.bd
  have e1:qZ W (.tuple (ss.map dF))=true:=by
    simp only [qZ,lx,pE,sw,Bool.and_true,Bool.and_eq_true,List.all_eq_true,beq_iff_eq,decide_eq_true_eq]
    refine⟨⟨by simp [sl],fun d hd=>?_⟩,fun f hf=>(hs f hf).hi⟩
    obtain⟨f,hf,rfl⟩:=List.mem_map.mp hd
    exact vP (hs f hf).low (hs f hf).lo
  rw [e1] at r1
  have gb:∀e:En,lV e (.d (.bool true)) (.d (.bool true))=some (.d (.bool false)):=fun e=>rfl
  obtain⟨n1,d1,t1,a1, -,hd1⟩:=iq hd
  obtain⟨o,ho,to⟩:=AE n1
  obtain⟨d2,out,hv,hd2,l5,hT⟩:=AN (ns:=ns) (W:=W) hs (by lia) (v2:=some (.d (.int k))) (v4:=some (.d (.tuple (ws.map dF)))) (v6:=v6) (v7:=v7) (v8:=v8) hd1
  have ca:∀(e:En) (xs ys:List PyData),xs.length+ys.length≤1000000→bu e (.l xs) (.l ys)=some (.l (xs++ys)):=fun e xs ys h=>yD h
  obtain⟨T,hT1⟩:∃T,T=[PyData.tuple (ws.map dF),o]++out:=⟨_,rfl⟩
  have allT:∀d∈T,ua d:=fun d hd=>by
    rw [hT1] at hd
    rcases List.mem_append.mp hd with h | h
    · simp only [List.mem_cons,List.not_mem_nil,or_false] at h
      rcases h with rfl | rfl
      · exact tw
      · exact tO _ ho
    · exact hT d h
  obtain⟨e3,h3,⟨w7,w8,he3⟩⟩:=cf (own:=[(6,T)]) (g:=ah 7) (f:=CL) (fun i e=>∃v7 v8,e=du ns d2 k W (some (.d (.tuple (ws.map dF)))) (some (.d (.tuple (ss.map dF)))) (some (.l T)) v7 v8) T 0 (du ns d2 k W (some (.d (.tuple (ws.map dF)))) (some (.d (.tuple (ss.map dF)))) (some (.l T)) v7 v8) (fun i y e hy ⟨v7,v8,he⟩=>by
    subst he
    obtain⟨w8,ht⟩:=r6 (ns:=ns) (ds:=d2) (k:=k) ok (v4:=some (.d (.tuple (ws.map dF)))) (v5:=some (.d (.tuple (ss.map dF)))) (v6:=some (.l T)) (v8:=v8) (allT y (List.mem_of_getElem? hy))
    exact⟨_,_,rfl,ht,fun p hp=>by simp at hp;subst hp;rfl,_,_,rfl⟩) ⟨v7,v8,rfl⟩
  subst he3
  have hf:dG ([7]++([8]++([]++[]))) Ew (ah 7) CL (du ns d2 k W (some (.d (.tuple (ws.map dF)))) (some (.d (.tuple (ss.map dF)))) (some (.l T)) v7 v8)=some (.nx (du ns d2 k W (some (.d (.tuple (ws.map dF)))) (some (.d (.tuple (ss.map dF)))) (some (.l T)) w7 w8)):=by
    unfold dG
    rw [show Ew (du ns d2 k W (some (.d (.tuple (ws.map dF)))) (some (.d (.tuple (ss.map dF)))) (some (.l T)) v7 v8)=some (T,[(6,T)],du ns d2 k W (some (.d (.tuple (ws.map dF)))) (some (.d (.tuple (ss.map dF)))) (some (.l T)) v7 v8) from rfl]
    exact h3
  refine⟨d2,some (.d (.tuple (ss.map dF))),some (.l T),w7,w8,?_,hd2⟩
  refine(aV (e1:=du ns ds k W (some (.d (.tuple (ws.map dF)))) (some (.d (.tuple (ss.map dF)))) v6 v7 v8) ?_).trans ?_
  · simp only [du]
    generalize ws.map dF=WF at*
    generalize ss.map dF=SF at*
    generalize ap W=WW at*
    simp? [ts]
  refine(aV (e1:=du ns ds k W (some (.d (.tuple (ws.map dF)))) (some (.d (.tuple (ss.map dF)))) v6 v7 v8) ?_).trans ?_
  · simp only [du]
    generalize ws.map dF=WF at*
    generalize ss.map dF=SF at*
    generalize ap W=WW at*
    simp? [r1,gb]
  refine(aV (e1:=du ns d2 k W (some (.d (.tuple (ws.map dF)))) (some (.d (.tuple (ss.map dF)))) (some (.l T)) v7 v8) ?_).trans ?_
  · rw [hT1]
    have lo:out.length+2≤1000000:=by lia
    simp only [du]
    generalize ws.map dF=WF at*
    generalize ss.map dF=SF at*
    generalize ap W=WW at*
    simp? [t1,to,hv,ca,l5]
  exact hf
inductive LI (ns:List Int):En→Prop
  | mk {ds v2 v3 v4 v5 v6 v7 v8} (hd:gS ds):LI ns [some (.d (.list (ns.map .int))),some (.l (ds.map .int)),v2,v3,v4,v5,v6,v7,v8]
theorem wy{ns ds:List Int}{i:Nat}(hi:i < 3){v3 v4 v5 v6 v7 v8:Option Sv}(hd:gS ds):∃e2,AM [some (.d (.list (ns.map .int))),some (.l (ds.map .int)),some (.d (.int (i:Int))),v3,v4,v5,v6,v7,v8]=some (.nx e2)∧LI ns e2:=by
  have go:∀(a b:Int),0≤a→a≤12→0≤b→b≤16→atI [PyData.int 8,.int 8,.int 12] (i:Int)=some (.int a)→atI [PyData.int 10,.int 10,.int 16] (i:Int)=some (.int b)→((i:Int)=2∨b≤10)→∃e2,AM [some (.d (.list (ns.map .int))),some (.l (ds.map .int)),some (.d (.int (i:Int))),v3,v4,v5,v6,v7,v8]=some (.nx e2)∧LI ns e2:=fun a b a0 a1 b0 b1 ia ib hb=>by
    obtain⟨W,d1,tw,hd1,ok, -,tl⟩:=Ek ds a b hd a0 a1 b0 b1
    have wl:=ok.len
    obtain⟨ws,d2,ts,hd2,l2,s2⟩:=x6 ok hd1
    by_cases c:(i:Int)=2
    · obtain⟨d3,us,hv,hd3,l3,s3⟩:=AV (ns:=ns) ok (v2:=some (.d (.int (i:Int)))) (v4:=some (.d (.tuple (ws.map dF)))) (v5:=v5) (v6:=v6) (v7:=v7) (v8:=v8) hd2
      obtain⟨d4,w5,w6,w7,w8,hr,hd4⟩:=xH (ns:=ns) (k:=(i:Int)) ok (n:=3) s3 l3 (by lia) (by decide) (v5:=v5) (v6:=v6) (v7:=v7) (v8:=v8) hd3
      refine⟨du ns d4 (i:Int) W (some (.d (.tuple (us.map dF)))) w5 w6 w7 w8,?_,.mk hd4⟩
      unfold AM
      refine(aV (e1:=du ns d1 (i:Int) W v4 v5 v6 v7 v8) ?_).trans ?_
      · simp only [du]
        simp? [ia,ib,tw]
      refine(aV (e1:=du ns d2 (i:Int) W (some (.d (.tuple (ws.map dF)))) v5 v6 v7 v8) ?_).trans ?_
      · simp only [du]
        simp? [ts]
      refine(aV (e1:=du ns d3 (i:Int) W (some (.d (.tuple (us.map dF)))) v5 v6 v7 v8) ?_).trans ?_
      · simp only [du]
        have ge:∀e:En,bW false e (.d (.int (i:Int))) (.d (.int 2))=some (.d (.bool true)):=fun e=>by rw [dJ];simp [c]
        generalize us.map dF=UF at*
        generalize ws.map dF=WF at*
        generalize ap W=WW at*
        simp? [ge,hv]
      exact hr
    · have b10:b≤10:=by lia
      obtain⟨d4,w5,w6,w7,w8,hr,hd4⟩:=xH (ns:=ns) (k:=(i:Int)) ok (n:=6) s2 l2 (by lia) (by decide) (v5:=v5) (v6:=v6) (v7:=v7) (v8:=v8) hd2
      refine⟨du ns d4 (i:Int) W (some (.d (.tuple (ws.map dF)))) w5 w6 w7 w8,?_,.mk hd4⟩
      unfold AM
      refine(aV (e1:=du ns d1 (i:Int) W v4 v5 v6 v7 v8) ?_).trans ?_
      · simp only [du]
        simp? [ia,ib,tw]
      refine(aV (e1:=du ns d2 (i:Int) W (some (.d (.tuple (ws.map dF)))) v5 v6 v7 v8) ?_).trans ?_
      · simp only [du]
        simp? [ts]
      refine(aV (e1:=du ns d2 (i:Int) W (some (.d (.tuple (ws.map dF)))) v5 v6 v7 v8) ?_).trans ?_
      · simp only [du]
        have ge:∀e:En,bW false e (.d (.int (i:Int))) (.d (.int 2))=some (.d (.bool false)):=fun e=>by rw [dJ];simp [c]
        generalize ws.map dF=WF at*
        generalize ap W=WW at*
        simp? [ge]
      exact hr
  rcases(by lia:i=0∨i=1∨i=2) with rfl | rfl | rfl
  · exact go 8 10 (by decide) (by decide) (by decide) (by decide) rfl rfl (.inr (by decide))
  · exact go 8 10 (by decide) (by decide) (by decide) (by decide) rfl rfl (.inr (by decide))
  · exact go 12 16 (by decide) (by decide) (by decide) (by decide) rfl rfl (.inl rfl)
theorem wx(ns:List Int)(hl:ns.length≤63):∃as',mi [.d (.list (ns.map .int))]=some (.d (.bool true),as'):=by
  obtain⟨ds,td,hd⟩:=zS ns hl
  obtain⟨e2,h1,hI⟩:=cf (own:=[]) (g:=ah 2) (f:=AM) (fun _=>LI ns) (a8 0 3) 0 [some (.d (.list (ns.map .int))),some (.l (ds.map .int)),none,none,none,none,none,none,none] (fun i x e hx hI=>by
    obtain⟨hd⟩:=hI
    rename_i ds v2 v3 v4 v5 v6 v7 v8
    obtain⟨rfl,hi⟩:=cL hx
    rw [Int.zero_add]
    obtain⟨e2,k1,k2⟩:=wy (ns:=ns) (i:=i) hi (v3:=v3) (v4:=v4) (v5:=v5) (v6:=v6) (v7:=v7) (v8:=v8) hd
    exact⟨_,e2,rfl,k1,bT,k2⟩) (.mk hd)
  obtain⟨hd2⟩:=hI
  rename_i ds2 v2 v3 v4 v5 v6 v7 v8
  have hfor:=fun Wl=>b_ (W:=Wl) (g:=ah 2) (f:=AM) (show FH [some (.d (.list (ns.map .int))),some (.l (ds.map .int)),none,none,none,none,none,none,none]=some (a8 0 3,[],[some (.d (.list (ns.map .int))),some (.l (ds.map .int)),none,none,none,none,none,none,none]) from rfl)
  rw [h1] at hfor
  simp? [mi,An,td,hfor]
def kE(P:Params)(k:Str)(t:Tok)(v:Value):DictEntry:=⟨PyData.keyHash P k,.str k t,v⟩
def kF(n:Str)(s:Stmt)(doc pm:Value)(c:Addr):Obj:=⟨.type "function",none,.func (W.fnOf n n (dI s) (cR s) (am s) .none .none doc pm none (.ref c) .none),#[]⟩
def kI(n:Int):Value:=.int n 0
def kC(n:Str)(a:Nat)(l:List Value)(z:Nat):Obj:=⟨.type "code",none,.fields (Value.str n a::Value.str n (a+1)::Value.str "/claim/cut.py" (a+2)::l++[Value.str "/claim/cut.py" z]).toArray,#[]⟩
def kT(l:List Value)(n:Nat):Obj:=⟨.type "tuple",none,.seq l.toArray n,#[]⟩
def u7:Value:=.str "askedpairs.fractions" 187
def yl:Value:=.str "askedpairs.forms" 245
def Ez:Value:=.str "askedpairs.pricepaper" 284
def fj:Value:=.str "law_askedpairs_k46_shares_right_or_not" 298
def kK(P:Params):W.Frag:=[(3,⟨.type "dict",none,.dict (List.toArray [kE P "__name__" 165 (.str "law_askedpairs_k46_shares_right_or_not" 298),kE P "__doc__" 166 (.none),kE P "__package__" 167 (.none),kE P "__loader__" 168 (.builtin "__main__.__loader__#opaque"),kE P "__spec__" 169 (.none),kE P "__annotations__" 170 (.ref 6),kE P "__builtins__" 171 (.ref 4),kE P "__file__" 173 (.str "/claim/cut.py" 172),kE P "__cached__" 174 (.none),kE P "ZERO" 191 (.ref 15),kE P "ONE" 194 (.ref 16),kE P "common_divisor" 202 (.ref 23),kE P "lowest" 211 (.ref 30),kE P "plus" 219 (.ref 37),kE P "times" 227 (.ref 44),kE P "less" 235 (.ref 51),kE P "total" 244 (.ref 58),kE P "is_number" 253 (.ref 65),kE P "is_row_of" 261 (.ref 72),kE P "is_fraction" 270 (.ref 79),kE P "is_from_zero" 277 (.ref 86),kE P "is_row_from_zero" 283 (.ref 91),kE P "bears_shares" 291 (.ref 96),kE P "shares_hold" 297 (.ref 101),kE P "_law_mixed" 308 (.ref 108),kE P "_law_draws" 319 (.ref 115),kE P "_law_next" 326 (.ref 122),kE P "_law_gcd" 334 (.ref 129),kE P "_law_low" 343 (.ref 136),kE P "_law_plus" 351 (.ref 143),kE P "_law_times" 359 (.ref 150),kE P "_law_less" 367 (.ref 157),kE P "_law_says" 375 (.ref 164),kE P "_law_chance" 384 (.ref 171),kE P "_law_worth" 392 (.ref 178),kE P "_law_ties" 411 (.ref 185),kE P "_law_web" 427 (.ref 192),kE P "_law_odd" 435 (.ref 199),kE P "_law_is_fraction" 443 (.ref 206),kE P "_law_sum" 452 (.ref 213),kE P "_law_loads" 458 (.ref 218),kE P "_law_are_within" 468 (.ref 225),kE P "_law_scaled" 474 (.ref 230),kE P "_law_shares" 486 (.ref 237),kE P "_law_right" 495 (.ref 244),kE P "_law_bent" 509 (.ref 251),kE P "law" 515 (.ref 256)]) 47,#[]⟩),
  (23,kF "common_divisor" cj (.none) u7 22),
  (22,kC "common_divisor" 195 [kI 4,kI 2,kI 0,kI 0,kI 3,.ref 17,.bool true,kI 181,.ref 18,.none,.ref 19,.ref 20,.ref 21,kI 200,kI 4] 201),
  (30,kF "lowest" fw (.none) u7 29),
  (29,kC "lowest" 203 [kI 8,kI 2,kI 0,kI 0,kI 3,.ref 24,.bool true,kI 181,.ref 25,.none,.ref 26,.ref 27,.ref 28,kI 209,kI 8] 210),
  (37,kF "plus" mI (.none) u7 36),
  (36,kC "plus" 212 [kI 13,kI 2,kI 0,kI 0,kI 3,.ref 31,.bool true,kI 181,.ref 32,.none,.ref 33,.ref 34,.ref 35,kI 217,kI 13] 218),
  (44,kF "times" j5 (.none) u7 43),
  (43,kC "times" 220 [kI 15,kI 2,kI 0,kI 0,kI 3,.ref 38,.bool true,kI 181,.ref 39,.none,.ref 40,.ref 41,.ref 42,kI 225,kI 15] 226),
  (51,kF "less" kS (.none) u7 50),
  (50,kC "less" 228 [kI 17,kI 2,kI 0,kI 0,kI 3,.ref 45,.bool true,kI 181,.ref 46,.none,.ref 47,.ref 48,.ref 49,kI 233,kI 17] 234),
  (58,kF "total" iY (.none) u7 57),
  (57,kC "total" 236 [kI 19,kI 1,kI 0,kI 0,kI 3,.ref 52,.bool true,kI 181,.ref 53,.none,.ref 54,.ref 55,.ref 56,kI 242,kI 19] 243),
  (65,kF "is_number" eE (.none) yl 64),
  (64,kC "is_number" 247 [kI 25,kI 1,kI 0,kI 0,kI 3,.ref 59,.bool true,kI 181,.ref 60,.none,.ref 61,.ref 62,.ref 63,kI 251,kI 25] 252),
  (72,kF "is_row_of" dD (.none) yl 71),
  (71,kC "is_row_of" 254 [kI 27,kI 2,kI 0,kI 0,kI 3,.ref 66,.bool true,kI 181,.ref 67,.none,.ref 68,.ref 69,.ref 70,kI 259,kI 27] 260),
  (79,kF "is_fraction" df (.none) yl 78),
  (78,kC "is_fraction" 262 [kI 29,kI 1,kI 0,kI 0,kI 3,.ref 73,.bool true,kI 181,.ref 74,.none,.ref 75,.ref 76,.ref 77,kI 268,kI 29] 269),
  (86,kF "is_from_zero" cO (.none) yl 85),
  (85,kC "is_from_zero" 271 [kI 36,kI 1,kI 0,kI 0,kI 3,.ref 80,.bool true,kI 181,.ref 81,.none,.ref 82,.ref 83,.ref 84,kI 275,kI 36] 276),
  (91,kF "is_row_from_zero" bo (.none) yl 90),
  (90,kC "is_row_from_zero" 278 [kI 38,kI 2,kI 0,kI 0,kI 3,.ref 87,.bool true,kI 181,.ref 88,.none,.none,.none,.ref 89,kI 281,kI 38] 282),
  (96,kF "bears_shares" bA (.none) Ez 95),
  (95,kC "bears_shares" 286 [kI 41,kI 3,kI 0,kI 0,kI 3,.ref 92,.bool true,kI 181,.ref 93,.none,.none,.none,.ref 94,kI 289,kI 41] 290),
  (101,kF "shares_hold" bZ (.none) Ez 100),
  (100,kC "shares_hold" 292 [kI 46,kI 2,kI 0,kI 0,kI 3,.ref 97,.bool true,kI 181,.ref 98,.none,.none,.none,.ref 99,kI 295,kI 46] 296),
  (108,kF "_law_mixed" j0 (.none) fj 107),
  (107,kC "_law_mixed" 300 [kI 53,kI 2,kI 0,kI 0,kI 3,.ref 102,.bool true,kI 181,.ref 103,.none,.ref 104,.ref 105,.ref 106,kI 306,kI 53] 307),
  (115,kF "_law_draws" jY (.none) fj 114),
  (114,kC "_law_draws" 309 [kI 56,kI 1,kI 0,kI 0,kI 3,.ref 109,.bool true,kI 181,.ref 110,.none,.ref 111,.ref 112,.ref 113,kI 317,kI 56] 318),
  (122,kF "_law_next" iI (.none) fj 121),
  (121,kC "_law_next" 320 [kI 69,kI 1,kI 0,kI 0,kI 3,.ref 116,.bool true,kI 181,.ref 117,.none,.ref 118,.ref 119,.ref 120,kI 324,kI 69] 325),
  (129,kF "_law_gcd" nO (.none) fj 128),
  (128,kC "_law_gcd" 327 [kI 73,kI 2,kI 0,kI 0,kI 3,.ref 123,.bool true,kI 181,.ref 124,.none,.ref 125,.ref 126,.ref 127,kI 332,kI 73] 333),
  (136,kF "_law_low" jZ (.none) fj 135),
  (135,kC "_law_low" 335 [kI 77,kI 2,kI 0,kI 0,kI 3,.ref 130,.bool true,kI 181,.ref 131,.none,.ref 132,.ref 133,.ref 134,kI 341,kI 77] 342),
  (143,kF "_law_plus" mF (.none) fj 142),
  (142,kC "_law_plus" 344 [kI 80,kI 2,kI 0,kI 0,kI 3,.ref 137,.bool true,kI 181,.ref 138,.none,.ref 139,.ref 140,.ref 141,kI 349,kI 80] 350),
  (150,kF "_law_times" j2 (.none) fj 149),
  (149,kC "_law_times" 352 [kI 82,kI 2,kI 0,kI 0,kI 3,.ref 144,.bool true,kI 181,.ref 145,.none,.ref 146,.ref 147,.ref 148,kI 357,kI 82] 358),
  (157,kF "_law_less" mE (.none) fj 156),
  (156,kC "_law_less" 360 [kI 84,kI 2,kI 0,kI 0,kI 3,.ref 151,.bool true,kI 181,.ref 152,.none,.ref 153,.ref 154,.ref 155,kI 365,kI 84] 366),
  (164,kF "_law_says" mG (.none) fj 163),
  (163,kC "_law_says" 368 [kI 86,kI 2,kI 0,kI 0,kI 3,.ref 158,.bool true,kI 181,.ref 159,.none,.ref 160,.ref 161,.ref 162,kI 373,kI 86] 374),
  (171,kF "_law_chance" fv (.none) fj 170),
  (170,kC "_law_chance" 376 [kI 90,kI 2,kI 0,kI 0,kI 3,.ref 165,.bool true,kI 181,.ref 166,.none,.ref 167,.ref 168,.ref 169,kI 382,kI 90] 383),
  (178,kF "_law_worth" j3 (.none) fj 177),
  (177,kC "_law_worth" 385 [kI 100,kI 2,kI 0,kI 0,kI 3,.ref 172,.bool true,kI 181,.ref 173,.none,.ref 174,.ref 175,.ref 176,kI 390,kI 100] 391),
  (185,kF "_law_ties" mH (.none) fj 184),
  (184,kC "_law_ties" 393 [kI 102,kI 3,kI 0,kI 0,kI 3,.ref 179,.bool true,kI 181,.ref 180,.none,.ref 181,.ref 182,.ref 183,kI 409,kI 102] 410),
  (192,kF "_law_web" qr (.none) fj 191),
  (191,kC "_law_web" 412 [kI 117,kI 3,kI 0,kI 0,kI 3,.ref 186,.bool true,kI 181,.ref 187,.none,.ref 188,.ref 189,.ref 190,kI 425,kI 117] 426),
  (199,kF "_law_odd" nP (.none) fj 198),
  (198,kC "_law_odd" 428 [kI 127,kI 1,kI 0,kI 0,kI 3,.ref 193,.bool true,kI 181,.ref 194,.none,.ref 195,.ref 196,.ref 197,kI 433,kI 127] 434),
  (206,kF "_law_is_fraction" de (.none) fj 205),
  (205,kC "_law_is_fraction" 436 [kI 131,kI 1,kI 0,kI 0,kI 3,.ref 200,.bool true,kI 181,.ref 201,.none,.ref 202,.ref 203,.ref 204,kI 441,kI 131] 442),
  (213,kF "_law_sum" qq (.none) fj 212),
  (212,kC "_law_sum" 444 [kI 138,kI 1,kI 0,kI 0,kI 3,.ref 207,.bool true,kI 181,.ref 208,.none,.ref 209,.ref 210,.ref 211,kI 450,kI 138] 451),
  (218,kF "_law_loads" eQ (.none) fj 217),
  (217,kC "_law_loads" 453 [kI 143,kI 2,kI 0,kI 0,kI 3,.ref 214,.bool true,kI 181,.ref 215,.none,.none,.none,.ref 216,kI 456,kI 143] 457),
  (225,kF "_law_are_within" dR (.none) fj 224),
  (224,kC "_law_are_within" 459 [kI 150,kI 2,kI 0,kI 0,kI 3,.ref 219,.bool true,kI 181,.ref 220,.none,.ref 221,.ref 222,.ref 223,kI 466,kI 150] 467),
  (230,kF "_law_scaled" gE (.none) fj 229),
  (229,kC "_law_scaled" 469 [kI 155,kI 2,kI 0,kI 0,kI 3,.ref 226,.bool true,kI 181,.ref 227,.none,.none,.none,.ref 228,kI 472,kI 155] 473),
  (237,kF "_law_shares" iJ (.none) fj 236),
  (236,kC "_law_shares" 475 [kI 165,kI 2,kI 0,kI 0,kI 3,.ref 231,.bool true,kI 181,.ref 232,.none,.ref 233,.ref 234,.ref 235,kI 484,kI 165] 485),
  (244,kF "_law_right" j1 (.none) fj 243),
  (243,kC "_law_right" 487 [kI 172,kI 2,kI 0,kI 0,kI 3,.ref 238,.bool true,kI 181,.ref 239,.none,.ref 240,.ref 241,.ref 242,kI 493,kI 172] 494),
  (251,kF "_law_bent" mD (.none) fj 250),
  (250,kC "_law_bent" 496 [kI 179,kI 2,kI 0,kI 0,kI 3,.ref 245,.bool true,kI 181,.ref 246,.none,.ref 247,.ref 248,.ref 249,kI 507,kI 179] 508),
  (256,kF "law" j4 (.none) fj 255),
  (255,kC "law" 510 [kI 193,kI 1,kI 0,kI 0,kI 3,.ref 252,.bool true,kI 181,.ref 253,.none,.none,.none,.ref 254,kI 513,kI 193] 514),
  (15,kT [.int (0) 189,.int (1) 190] 0),
  (16,kT [.int (1) 192,.int (1) 193] 0)]
def kA:List Addr:=[3,23,22,30,29,37,36,44,43,51,50,58,57,65,64,72,71,79,78,86,85,91,90,96,95,101,100,108,107,115,114,122,121,129,128,136,135,143,142,150,149,157,156,164,163,171,170,178,177,185,184,192,191,199,198,206,205,213,212,218,217,225,224,230,229,237,236,244,243,251,250,256,255,15,16]
def kq:Program:={PySem.Challenge.pw_askedpairs_k46_shares_right_or_not with main:={PySem.Challenge.pw_askedpairs_k46_shares_right_or_not.main with body:=[top 1,top 2,top 3,top 4,top 5,top 6,top 7,top 8,top 10,top 11,top 12,top 13,top 14,top 16,top 17,top 19,top 20,top 21,top 22,top 23,top 24,top 25,top 26,top 27,top 28,top 29,top 30,top 31,top 32,top 33,top 34,top 35,top 36,top 37,top 38,top 39,top 40,top 41]}}
def kH:W.Hook:=W.kHook kK kA (fun _=>by kernel_rfl)
theorem left:W.LeftO PySem.Challenge.pw_askedpairs_k46_shares_right_or_not kq [] (fun s=>W.xlAt kq [] s&&W.recOk (W.RowW.records (W.OpenRow.toRowW (W.OpenLaw.row PySem.Challenge.rw_askedpairs_k46_shares_right_or_not))) s) (W.Hook.obs kH) (W.Hook.val kH) 2436:=fun w=>by kernel_rfl
theorem ym{P:List Value→Prop}(h:∀a0,P [a0]):∀us:List Value,us.length=1→P us:=fun us e=>match us,e with | [a0],_=>h a0
theorem l_{P:List Value→Prop}(h:∀a0 a1,P [a0,a1]):∀us:List Value,us.length=2→P us:=fun us e=>match us,e with | [a0,a1],_=>h a0 a1
theorem E5{P:List Value→Prop}(h:∀a0 a1 a2,P [a0,a1,a2]):∀us:List Value,us.length=3→P us:=fun us e=>match us,e with | [a0,a1,a2],_=>h a0 a1 a2
theorem hm{w:World}{h:Heap}{mg:Str→Option Value}{n:Str}{s:Stmt}{a:Addr}{ps:List Str}(c:Addr)(d p:Value)(X:(kK w.params).In h)(G:h.Ns mainGlobals mg)
    (e:(W.nsIn (kK w.params) mainGlobals n,List.lookup a (kK w.params),W.codeIn (kK w.params) (.ref c) n,W.keepIn (kK w.params) (.ref a))=(some (some (.ref a)),some (kF n s d p c),true,true))
    (b:∀(kV doc pm:Value) (an:Option Addr) (cdv ct:Value) (us:List Value),us.length=ps.length→bindArgs (W.fnOf n n (dI s) (cR s) (am s) .none kV doc pm an cdv ct) ⟨us,[]⟩=pure (ps.zip us)):
    aX (kK w.params) mg n s a (W.fnOf n n (dI s) (cR s) (am s) .none .none d p none (.ref c) .none) ps:=A0 X G (congrArg (·.1) e) (congrArg (·.2.1) e) (congrArg (·.2.2.1) e) (congrArg (·.2.2.2) e) b
theorem all_mk{l:W.OpenLaw}{w:World}{h:Heap}{mg:Str→Option Value}{fa:Addr}(X:(kK w.params).In h)(G:h.Ns mainGlobals mg)(hfa:mg "law"=some (.ref fa)):
    ∃fd:FuncData,(∀(s:Shared) (v:Value),BindsTo s fd ⟨[v],[]⟩ [("_law_script",v)])∧∀base:Heap,(kK w.params).In base→base.Ns mainGlobals mg→aC l.prog w (kK w.params) mg base bH 8 fa fd ["_law_script"] (bM (kK w.params) 1 mi):=by
  have e:=hfa.symm.trans (W.mg_of X G (show W.nsIn (kK w.params) mainGlobals "law"=some (some (.ref 256)) by kernel_rfl))
  cases e
  have T:ik mg:=⟨W.mg_none_of X G (show W.nsIn (kK w.params) mainGlobals "abs"=some none by kernel_rfl),W.mg_none_of X G (show W.nsIn (kK w.params) mainGlobals "len"=some none by kernel_rfl),W.mg_none_of X G (show W.nsIn (kK w.params) mainGlobals "min"=some none by kernel_rfl),W.mg_none_of X G (show W.nsIn (kK w.params) mainGlobals "max"=some none by kernel_rfl),W.mg_none_of X G (show W.nsIn (kK w.params) mainGlobals "range"=some none by kernel_rfl),W.mg_none_of X G (show W.nsIn (kK w.params) mainGlobals "repr"=some none by kernel_rfl),W.mg_none_of X G (show W.nsIn (kK w.params) mainGlobals "tuple"=some none by kernel_rfl),W.mg_none_of X G (show W.nsIn (kK w.params) mainGlobals "int"=some none by kernel_rfl),W.mg_none_of X G (show W.nsIn (kK w.params) mainGlobals "zip"=some none by kernel_rfl),W.mg_none_of X G (show W.nsIn (kK w.params) mainGlobals "isinstance"=some none by kernel_rfl),W.mg_none_of X G (show W.nsIn (kK w.params) mainGlobals "bool"=some none by kernel_rfl),W.mg_none_of X G (show W.nsIn (kK w.params) mainGlobals "any"=some none by kernel_rfl),W.mg_none_of X G (show W.nsIn (kK w.params) mainGlobals "all"=some none by kernel_rfl),W.mg_none_of X G (show W.nsIn (kK w.params) mainGlobals "list"=some none by kernel_rfl)⟩
  have h_common_divisor:aX (kK w.params) mg "common_divisor" cj 23 _ ["one","other"]:=hm 22 (.none) u7 X G (by kernel_rfl) fun _ _ _ _ _ _=>l_ fun _ _=>rfl
  have h_lowest:aX (kK w.params) mg "lowest" fw 30 _ ["top","bottom"]:=hm 29 (.none) u7 X G (by kernel_rfl) fun _ _ _ _ _ _=>l_ fun _ _=>rfl
  have h_plus:aX (kK w.params) mg "plus" mI 37 _ ["one","other"]:=hm 36 (.none) u7 X G (by kernel_rfl) fun _ _ _ _ _ _=>l_ fun _ _=>rfl
  have h_times:aX (kK w.params) mg "times" j5 44 _ ["one","other"]:=hm 43 (.none) u7 X G (by kernel_rfl) fun _ _ _ _ _ _=>l_ fun _ _=>rfl
  have h_less:aX (kK w.params) mg "less" kS 51 _ ["one","other"]:=hm 50 (.none) u7 X G (by kernel_rfl) fun _ _ _ _ _ _=>l_ fun _ _=>rfl
  have h_total:aX (kK w.params) mg "total" iY 58 _ ["row"]:=hm 57 (.none) u7 X G (by kernel_rfl) fun _ _ _ _ _ _=>ym fun _=>rfl
  have h_is_number:aX (kK w.params) mg "is_number" eE 65 _ ["thing"]:=hm 64 (.none) yl X G (by kernel_rfl) fun _ _ _ _ _ _=>ym fun _=>rfl
  have h_is_row_of:aX (kK w.params) mg "is_row_of" dD 72 _ ["thing","many"]:=hm 71 (.none) yl X G (by kernel_rfl) fun _ _ _ _ _ _=>l_ fun _ _=>rfl
  have h_is_fraction:aX (kK w.params) mg "is_fraction" df 79 _ ["thing"]:=hm 78 (.none) yl X G (by kernel_rfl) fun _ _ _ _ _ _=>ym fun _=>rfl
  have h_is_from_zero:aX (kK w.params) mg "is_from_zero" cO 86 _ ["thing"]:=hm 85 (.none) yl X G (by kernel_rfl) fun _ _ _ _ _ _=>ym fun _=>rfl
  have h_is_row_from_zero:aX (kK w.params) mg "is_row_from_zero" bo 91 _ ["thing","many"]:=hm 90 (.none) yl X G (by kernel_rfl) fun _ _ _ _ _ _=>l_ fun _ _=>rfl
  have h_bears_shares:aX (kK w.params) mg "bears_shares" bA 96 _ ["web","shares","thing"]:=hm 95 (.none) Ez X G (by kernel_rfl) fun _ _ _ _ _ _=>E5 fun _ _ _=>rfl
  have h_shares_hold:aX (kK w.params) mg "shares_hold" bZ 101 _ ["web","thing"]:=hm 100 (.none) Ez X G (by kernel_rfl) fun _ _ _ _ _ _=>l_ fun _ _=>rfl
  have hLmixed:aX (kK w.params) mg "_law_mixed" j0 108 _ ["_law_cell","_law_k"]:=hm 107 (.none) fj X G (by kernel_rfl) fun _ _ _ _ _ _=>l_ fun _ _=>rfl
  have hLdraws:aX (kK w.params) mg "_law_draws" jY 115 _ ["_law_script"]:=hm 114 (.none) fj X G (by kernel_rfl) fun _ _ _ _ _ _=>ym fun _=>rfl
  have hLnext:aX (kK w.params) mg "_law_next" iI 122 _ ["_law_drawn"]:=hm 121 (.none) fj X G (by kernel_rfl) fun _ _ _ _ _ _=>ym fun _=>rfl
  have hLgcd:aX (kK w.params) mg "_law_gcd" nO 129 _ ["_law_one","_law_other"]:=hm 128 (.none) fj X G (by kernel_rfl) fun _ _ _ _ _ _=>l_ fun _ _=>rfl
  have hLlow:aX (kK w.params) mg "_law_low" jZ 136 _ ["_law_top","_law_bottom"]:=hm 135 (.none) fj X G (by kernel_rfl) fun _ _ _ _ _ _=>l_ fun _ _=>rfl
  have hLplus:aX (kK w.params) mg "_law_plus" mF 143 _ ["_law_one","_law_other"]:=hm 142 (.none) fj X G (by kernel_rfl) fun _ _ _ _ _ _=>l_ fun _ _=>rfl
  have hLtimes:aX (kK w.params) mg "_law_times" j2 150 _ ["_law_one","_law_other"]:=hm 149 (.none) fj X G (by kernel_rfl) fun _ _ _ _ _ _=>l_ fun _ _=>rfl
  have hLless:aX (kK w.params) mg "_law_less" mE 157 _ ["_law_one","_law_other"]:=hm 156 (.none) fj X G (by kernel_rfl) fun _ _ _ _ _ _=>l_ fun _ _=>rfl
  have hLsays:aX (kK w.params) mg "_law_says" mG 164 _ ["_law_found","_law_due"]:=hm 163 (.none) fj X G (by kernel_rfl) fun _ _ _ _ _ _=>l_ fun _ _=>rfl
  have hLchance:aX (kK w.params) mg "_law_chance" fv 171 _ ["_law_number","_law_kind"]:=hm 170 (.none) fj X G (by kernel_rfl) fun _ _ _ _ _ _=>l_ fun _ _=>rfl
  have hLworth:aX (kK w.params) mg "_law_worth" j3 178 _ ["_law_number","_law_kind"]:=hm 177 (.none) fj X G (by kernel_rfl) fun _ _ _ _ _ _=>l_ fun _ _=>rfl
  have hLties:aX (kK w.params) mg "_law_ties" mH 185 _ ["_law_drawn","_law_things","_law_many"]:=hm 184 (.none) fj X G (by kernel_rfl) fun _ _ _ _ _ _=>E5 fun _ _ _=>rfl
  have hLweb:aX (kK w.params) mg "_law_web" qr 192 _ ["_law_drawn","_law_most","_law_ties_here"]:=hm 191 (.none) fj X G (by kernel_rfl) fun _ _ _ _ _ _=>E5 fun _ _ _=>rfl
  have hLodd:aX (kK w.params) mg "_law_odd" nP 199 _ ["_law_number"]:=hm 198 (.none) fj X G (by kernel_rfl) fun _ _ _ _ _ _=>ym fun _=>rfl
  have hLis_fraction:aX (kK w.params) mg "_law_is_fraction" de 206 _ ["_law_thing"]:=hm 205 (.none) fj X G (by kernel_rfl) fun _ _ _ _ _ _=>ym fun _=>rfl
  have hLsum:aX (kK w.params) mg "_law_sum" qq 213 _ ["_law_rows"]:=hm 212 (.none) fj X G (by kernel_rfl) fun _ _ _ _ _ _=>ym fun _=>rfl
  have hLloads:aX (kK w.params) mg "_law_loads" eQ 218 _ ["_law_web_here","_law_shares_here"]:=hm 217 (.none) fj X G (by kernel_rfl) fun _ _ _ _ _ _=>l_ fun _ _=>rfl
  have hLare_within:aX (kK w.params) mg "_law_are_within" dR 225 _ ["_law_web_here","_law_shares_here"]:=hm 224 (.none) fj X G (by kernel_rfl) fun _ _ _ _ _ _=>l_ fun _ _=>rfl
  have hLscaled:aX (kK w.params) mg "_law_scaled" gE 230 _ ["_law_web_here","_law_shares_here"]:=hm 229 (.none) fj X G (by kernel_rfl) fun _ _ _ _ _ _=>l_ fun _ _=>rfl
  have hLshares:aX (kK w.params) mg "_law_shares" iJ 237 _ ["_law_drawn","_law_web_here"]:=hm 236 (.none) fj X G (by kernel_rfl) fun _ _ _ _ _ _=>l_ fun _ _=>rfl
  have hLright:aX (kK w.params) mg "_law_right" j1 244 _ ["_law_web_here","_law_thing"]:=hm 243 (.none) fj X G (by kernel_rfl) fun _ _ _ _ _ _=>l_ fun _ _=>rfl
  have hLbent:aX (kK w.params) mg "_law_bent" mD 251 _ ["_law_number","_law_shares_here"]:=hm 250 (.none) fj X G (by kernel_rfl) fun _ _ _ _ _ _=>l_ fun _ _=>rfl
  have h_law:aX (kK w.params) mg "law" j4 256 _ ["_law_script"]:=hm 255 (.none) fj X G (by kernel_rfl) fun _ _ _ _ _ _=>ym fun _=>rfl
  have lG_15:List.lookup 15 (kK w.params)=some (kT [.int (0) 189,.int (1) 190] 0):=by kernel_rfl
  have m_ZERO:=W.mg_of X G (show W.nsIn (kK w.params) mainGlobals "ZERO"=some (some (.ref 15)) by kernel_rfl)
  have c_ZERO:∀F,DA (kK w.params) F (.tuple [.int (0),.int (1)]) (.ref 15):=fun F=>by simp only [DA,aP];exact⟨15,[V.int (0),V.int (1)],rfl,.inr ⟨_,_,_,lG_15,rfl,rfl,rfl,(by show 2≤sizeLine;decide),(.cons ⟨_,rfl⟩ (.cons ⟨_,rfl⟩ .nil))⟩,⟨_,_,rfl,rfl,⟨_,_,rfl,rfl,rfl⟩⟩⟩
  have lG_16:List.lookup 16 (kK w.params)=some (kT [.int (1) 192,.int (1) 193] 0):=by kernel_rfl
  have m_ONE:=W.mg_of X G (show W.nsIn (kK w.params) mainGlobals "ONE"=some (some (.ref 16)) by kernel_rfl)
  have c_ONE:∀F,DA (kK w.params) F (.tuple [.int (1),.int (1)]) (.ref 16):=fun F=>by simp only [DA,aP];exact⟨16,[V.int (1),V.int (1)],rfl,.inr ⟨_,_,_,lG_16,rfl,rfl,rfl,(by show 2≤sizeLine;decide),(.cons ⟨_,rfl⟩ (.cons ⟨_,rfl⟩ .nil))⟩,⟨_,_,rfl,rfl,⟨_,_,rfl,rfl,rfl⟩⟩⟩
  refine⟨W.fnOf "law" "law" (dI j4) (cR j4) (am j4) .none .none (.none) fj none (.ref 255) .none,fun s v=>.of_eq rfl,fun base _ _=>?_⟩
  have G_common_divisor:=jS (P:=l.prog) (w:=w) (base:=base) h_common_divisor T
  have G_lowest:=uG (P:=l.prog) (w:=w) (base:=base) h_lowest T h_common_divisor G_common_divisor
  have G_plus:=y3 (P:=l.prog) (w:=w) (base:=base) h_plus T h_lowest G_lowest
  have G_times:=wQ (P:=l.prog) (w:=w) (base:=base) h_times T h_lowest G_lowest
  have G_less:=y2 (P:=l.prog) (w:=w) (base:=base) h_less T
  have G_total:=wR (P:=l.prog) (w:=w) (base:=base) h_total T h_plus G_plus m_ZERO c_ZERO
  have G_is_number:=o8 (P:=l.prog) (w:=w) (base:=base) h_is_number T
  have G_is_row_of:=o_ (P:=l.prog) (w:=w) (base:=base) h_is_row_of T
  have G_is_fraction:=mr (P:=l.prog) (w:=w) (base:=base) h_is_fraction T h_is_row_of G_is_row_of h_lowest G_lowest h_is_number G_is_number
  have G_is_from_zero:=lu (P:=l.prog) (w:=w) (base:=base) h_is_from_zero T h_is_fraction G_is_fraction
  have G_is_row_from_zero:=i0 (P:=l.prog) (w:=w) (base:=base) h_is_row_from_zero T h_is_row_of G_is_row_of h_is_from_zero G_is_from_zero
  have G_bears_shares:=lr (P:=l.prog) (w:=w) (base:=base) h_bears_shares T h_less G_less h_total G_total h_times G_times m_ONE c_ONE
  have G_shares_hold:=ms (P:=l.prog) (w:=w) (base:=base) h_shares_hold T h_less G_less h_total G_total h_is_row_from_zero G_is_row_from_zero h_bears_shares G_bears_shares m_ONE c_ONE
  have GLmixed:=wL (P:=l.prog) (w:=w) (base:=base) hLmixed T
  have GLdraws:=wJ (P:=l.prog) (w:=w) (base:=base) hLdraws T hLmixed GLmixed
  have GLnext:=yW (P:=l.prog) (w:=w) (base:=base) hLnext T
  have GLgcd:=Bn (P:=l.prog) (w:=w) (base:=base) hLgcd T
  have GLlow:=Bo (P:=l.prog) (w:=w) (base:=base) hLlow T hLgcd GLgcd
  have GLplus:=yX (P:=l.prog) (w:=w) (base:=base) hLplus T hLlow GLlow
  have GLtimes:=wN (P:=l.prog) (w:=w) (base:=base) hLtimes T hLlow GLlow
  have GLless:=yV (P:=l.prog) (w:=w) (base:=base) hLless T
  have GLsays:=yY (P:=l.prog) (w:=w) (base:=base) hLsays T
  have GLchance:=uD (P:=l.prog) (w:=w) (base:=base) hLchance T hLlow GLlow
  have GLworth:=wO (P:=l.prog) (w:=w) (base:=base) hLworth T
  have GLties:=yZ (P:=l.prog) (w:=w) (base:=base) hLties T hLnext GLnext hLchance GLchance hLworth GLworth
  have GLweb:=Br (P:=l.prog) (w:=w) (base:=base) hLweb T hLties GLties hLnext GLnext
  have GLodd:=Bp (P:=l.prog) (w:=w) (base:=base) hLodd T
  have GLis_fraction:=mq (P:=l.prog) (w:=w) (base:=base) hLis_fraction T hLgcd GLgcd
  have GLsum:=Bq (P:=l.prog) (w:=w) (base:=base) hLsum T hLplus GLplus
  have GLloads:=wK (P:=l.prog) (w:=w) (base:=base) hLloads T hLsum GLsum hLtimes GLtimes
  have GLare_within:=m7 (P:=l.prog) (w:=w) (base:=base) hLare_within T hLloads GLloads
  have GLscaled:=uE (P:=l.prog) (w:=w) (base:=base) hLscaled T hLloads GLloads hLless GLless hLlow GLlow
  have GLshares:=uF (P:=l.prog) (w:=w) (base:=base) hLshares T hLnext GLnext hLchance GLchance
  have GLright:=wM (P:=l.prog) (w:=w) (base:=base) hLright T hLare_within GLare_within hLis_fraction GLis_fraction
  have GLbent:=yU (P:=l.prog) (w:=w) (base:=base) hLbent T hLodd GLodd hLlow GLlow
  have G_law:=Bs (P:=l.prog) (w:=w) (base:=base) h_law T hLdraws GLdraws hLweb GLweb hLshares GLshares hLscaled GLscaled h_shares_hold G_shares_hold hLodd GLodd hLbent GLbent hLchance GLchance hLnext GLnext hLsays GLsays hLright GLright
  exact G_law
def D7(K:W.Frag):Sp:=fun vs H Q _=>∃(a:Addr) (ns:List Int),vs=[.ref a]∧dg K H a (ns.map V.int)∧ns.length≤63∧∀H',Q (.bl true) H'
theorem Bg{K:W.Frag}{vs:List V}{H:Hp}{Q:VK}{E:XK}(h:D7 K vs H Q E):bM K 1 mi vs H Q E:=by
  obtain⟨a,ns,rfl,hS,hl,q⟩:=h
  obtain⟨as',hm⟩:=wx ns hl
  exact rX hS hm q
theorem walk{l:W.OpenLaw}{q:Program}{loose:List Str}{XP:(Str→Option Value)→Heap→Prop}{YP:World→Heap→Prop}{d:DefRec}{K:Params→W.Frag}(hn:l.most=some 63)(hdf:d.params.defaults=[])
    (hY:∀(w:World) (h:Heap),YP w h→(K w.params).In h)
    (F:∀(w:World) (mg:Str→Option Value) (fa:Addr) (h:Heap),(K w.params).In h→h.Ns mainGlobals mg→mg d.name=some (.ref fa)→
      ∃fd:FuncData,(∀(s:Shared) (u:Value),BindsTo s fd ⟨[u],[]⟩ [("_law_script",u)])∧∀base:Heap,(K w.params).In base→base.Ns mainGlobals mg→aC l.prog w (K w.params) mg base bH 8 fa fd ["_law_script"] (bM (K w.params) 1 mi)):
    W.WalkO q loose XP YP l.row.toRowW d [] (fun f vs=>PySem.call f vs):=
  L2.walk_of (n:=63) (k:=8) (x:="_law_script") (CX:=fun _=>bH) (sp:=fun w=>bM (K w.params) 1 mi) hn (by decide) hdf ⟨rfl,by decide,by decide,rfl⟩ hY F (fun _ _ a ns hl _ hS=>Bg ⟨a,ns,rfl,hS,hl,fun _=>rfl⟩) fun _ _ _ _ _ z=>z
end V46
open PySem PySem.W PyProof.Rows
set_option maxRecDepth 100000 in
set_option maxHeartbeats 0 in
theorem PySem.Challenge.cw_askedpairs_k46_shares_right_or_not_holds : PySem.Challenge.rw_askedpairs_k46_shares_right_or_not.Holds := by
  w_on;o_law
  refine holds_open (q:=V46.kq) (loose:=[]) (Xt:=fun s=>xlAt V46.kq [] s&&recOk (RowW.records (OpenRow.toRowW (OpenLaw.row PySem.Challenge.rw_askedpairs_k46_shares_right_or_not))) s) (XP:=XL V46.kq []) (Yf:=Hook.obs V46.kH) (Ya:=Hook.val V46.kH) (YP:=Hook.says V46.kH) (N:=2436) V46.left (Hook.of V46.kH) (Hook.keeps V46.kH) (fun s e=>xl_of s (Bool.and_eq_true_iff.mp e).1) XL.keeps (by rfl) (by rfl) (by rfl) (fun s e=>recFacts_of (Bool.and_eq_true_iff.mp e).2) (by rfl) (by assumption) (by decide+kernel) ⟨rfl,rfl,rfl,rfl,rfl,by decide+kernel⟩ ?hw ?hc
  case hw=>w_witness2
  case hc=>exact V46.walk (l:=PySem.Challenge.rw_askedpairs_k46_shares_right_or_not) rfl rfl (fun w h Y=>kIn_of Y) (fun w mg fa h KX G hmg=>V46.all_mk KX G hmg)
