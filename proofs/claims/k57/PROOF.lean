import PyProof.Rows.All
import Wide.All
import OpenK.AllK
import Wide.FinOn
import Lean
import PyProof.EqAt
import PyProof.EqKinds
import PyProof.TupleCall
import PyProof.ReprRoads
import PyProof.IsInstance
import PyProof.IsInstanceH
import PyProof.FitsBits
import PyProof.CompFree
import PyProof.Rows.SumAny
import PyProof.Rows.SortShell
import PyProof.Rows.TupAdd
import PyProof.NeKinds
import PyProof.ConsumeWalk
import PyProof.ZipIter
import PyProof.TupleIter
import PyProof.LayNew
import PyProof.CollectWalk
import PyProof.ListNew
import PyProof.Draws
import PyProof.EnumFor
import PyProof.EnumMake
import PyProof.ListRange
import PyProof.CollectIter
import KE.KRevIter
import PyProof.ListMulRoad
import PyProof.TupleOps
import PyProof.TupleOfStr
import PyProof.WalksMore
import PyProof.FactsAll.range_iterator
import PyProof.IsRules
import PyProof.CompUse
import PyProof.P3In
import PyProof.EqLayable
import KE.KIsAll
import PyProof.Rows.FactsN_isinstance
import PyProof.CallStr
import PyProof.Rows.StrWeight2
import PyProof.Rows.FStr
import PyProof.StrLawsRepr
import PyProof.Rows.SetFrom
import KE.KIntText
import KE.KRevSl
import PyProof.Rows.SeqMore2
import OpenK.KOwn
import KE.KTryMore
import PyProof.Rows.Range3
import PySem.Challenge.RW_askedpairs_k57_pairings_of_anything
set_option Elab.async false
set_option linter.all false
set_option maxRecDepth 100000
namespace L2
open PySem PySem.Spec PyProof.Rows
abbrev ec:=Sum Int Str
def km:ec→Value→Bool
  | .inl k,v=>Value.isInt k v
  | .inr x,v=>Value.isStrOf x v
def Di(w:World):ec→Int
  | .inl k=>hashInt k
  | .inr x=>hashStr w x
theorem be:∀{k:ec} {v:Value},km k v=true→(∃i t,k=Sum.inl i∧v=Value.int i t)∨(∃x t,k=Sum.inr x∧v=Value.str x t)
  | .inl i,v,h=>by
    obtain⟨t,e⟩:=Value.isInt_shape (k:=i) (v:=v) h
    exact .inl ⟨i,t,rfl,e⟩
  | .inr x,v,h=>by
    obtain⟨t,e⟩:=Value.isStrOf_shape (x:=x) (v:=v) h
    exact .inr ⟨x,t,rfl,e⟩
theorem rA(i:Int)(t:Tok):km (.inl i) (.int i t)=true:=by simp [km,Value.isInt]
theorem rB(x:Str)(t:Tok):km (.inr x) (.str x t)=true:=by simp [km,Value.isStrOf]
theorem yZ(a b:Int):decide ((Sum.inl a:ec)=Sum.inl b)=(a==b):=by
  by_cases e:a=b
  · subst e;simp
  · have h:¬(Sum.inl a:ec)=Sum.inl b:=fun q=>e (Sum.inl.inj q)
    rw [decide_eq_false h]
    exact(beq_eq_false_iff_ne.mpr e).symm
theorem y3(a b:Str):decide ((Sum.inr a:ec)=Sum.inr b)=decide (a=b):=by
  by_cases e:a=b
  · subst e;simp
  · have h:¬(Sum.inr a:ec)=Sum.inr b:=fun q=>e (Sum.inr.inj q)
    rw [decide_eq_false h,decide_eq_false e]
theorem y0(a:Int)(b:Str):decide ((Sum.inl a:ec)=Sum.inr b)=false:=decide_eq_false (fun q=>nomatch q)
theorem y2(a:Str)(b:Int):decide ((Sum.inr a:ec)=Sum.inl b)=false:=decide_eq_false (fun q=>nomatch q)
def cF(prog:Program)(w:World):PySem.KeyKind prog w ec where
  is:=km
  hash:=Di w
  inj:=fun v a b ha hb=>by
    rcases be ha with ⟨i,t,rfl,rfl⟩ | ⟨x,t,rfl,rfl⟩
    · rcases be hb with ⟨j,u,rfl,e⟩ | ⟨y,u,rfl,e⟩
      · injection e with e1 _;rw [e1]
      · exact nomatch e
    · rcases be hb with ⟨j,u,rfl,e⟩ | ⟨y,u,rfl,e⟩
      · exact nomatch e
      · injection e with e1 _;rw [e1]
  byValue:=fun k v h=>by
    rcases be h with ⟨i,t,rfl,rfl⟩ | ⟨x,t,rfl,rfl⟩<;>rfl
  pyHash:=fun hv h=>by
    rcases be hv with ⟨i,t,rfl,rfl⟩ | ⟨x,t,rfl,rfl⟩
    · exact wpAny_pyHash_int h
    · exact wpAny_pyHash_str h
  eqBool:=fun hu hv h=>by
    rcases be hu with ⟨i,t,rfl,rfl⟩ | ⟨x,t,rfl,rfl⟩
    · rcases be hv with ⟨j,u,rfl,rfl⟩ | ⟨y,u,rfl,rfl⟩
      · rw [yZ] at h;exact wpAny_eqBool_int h
      · rw [y0] at h;exact SeqAt.EqAt.int_str i t y u _ _ _ _ h
    · rcases be hv with ⟨j,u,rfl,rfl⟩ | ⟨y,u,rfl,rfl⟩
      · rw [y2] at h;exact SeqAt.EqAt.str_int x t j u _ _ _ _ h
      · rw [y3] at h;exact wpAny_eqBool_str h
  «strs»:=fun k x t v h=>by
    rcases be h with ⟨i,u,rfl,e⟩ | ⟨y,u,rfl,e⟩
    · exact nomatch e
    · injection e with e1 _
      subst e1
      cases v<;>rfl
theorem oq(prog:Program)(w:World)(i:Int)(t:Tok):(cF prog w).is (.inl i) (.int i t)=true:=rA i t
theorem ou(prog:Program)(w:World)(x:Str)(t:Tok):(cF prog w).is (.inr x) (.str x t)=true:=rB x t
end L2
namespace L2
open PySem PySem.Spec PyProof.Rows
inductive V where
  | non | bl (b:Bool) | int (i:Int) | str (x:Str) | byt (b:Array UInt8) | flt (b:UInt64) | ref (a:Addr) | ty (n:String)
  deriving DecidableEq
def bf:V→Value→Prop
  | .non,u=>u=Value.none
  | .bl b,u=>u=Value.bool b
  | .int i,u=>∃t,u=Value.int i t
  | .str x,u=>∃t,u=Value.str x t
  | .byt b,u=>∃t,u=Value.bytes b t
  | .flt b,u=>∃t,u=Value.float b t
  | .ref a,u=>u=Value.ref a
  | .ty n,u=>u=Value.type n
abbrev aF:List V→List Value→Prop:=Paired bf
theorem aF.length{xs:List V}{us:List Value}(r:aF xs us):xs.length=us.length:=Paired.length r
theorem aF.get:∀{xs:List V} {us:List Value} {i:Nat} {x:V},aF xs us→xs[i]?=some x→∃u,us[i]?=some u∧bf x u
  | _,_,_,_,.nil,e=>by simp at e
  | _,_,0,_,.cons r _,e=>by simp at e;subst e;exact⟨_,rfl,r⟩
  | _,_,i+1,x,.cons _ t,e=>by
    obtain⟨u,h1,h2⟩:=aF.get (i:=i) (x:=x) t (by simpa using e)
    exact⟨u,by simpa using h1,h2⟩
theorem aF.append:∀{xs ys:List V} {us ws:List Value},aF xs us→aF ys ws→aF (xs++ys) (us++ws)
  | _,_,_,_,.nil,s=>s
  | _,_,_,_,.cons r t,s=>.cons r (aF.append t s)
theorem aF.take:∀{xs:List V} {us:List Value} (n:Nat),aF xs us→aF (xs.take n) (us.take n)
  | _,_,0,_=>.nil
  | _,_,_+1,.nil=>.nil
  | _,_,n+1,.cons r t=>.cons r (aF.take n t)
theorem aF.drop:∀{xs:List V} {us:List Value} (n:Nat),aF xs us→aF (xs.drop n) (us.drop n)
  | _,_,0,r=>r
  | _,_,_+1,.nil=>.nil
  | _,_,n+1,.cons _ t=>aF.drop n t
def AR:Option V→Option Value→Prop
  | some v,some u=>bf v u
  | none,none=>True
  | _,_=>False
def KV{κ:Type}:List (κ × V)→List (κ × Value)→Prop:=Paired fun(p:κ × V) (q:κ × Value)=>p.1=q.1∧bf p.2 q.2
def kV:ec→V
  | .inl i=>.int i
  | .inr x=>.str x
inductive HO where
  /-- a list -/
  | lst (xs:List V)
  /-- a tuple (never changes) -/
  | tup (xs:List V)
  /-- a dict whose keys are ints and texts; one whose keys are tuples of ints and texts (the empty one is both) -/
  | dK (kvs:List (ec × V)) | dT (kvs:List (List ec × V))
  /-- a set of ints: its members, its size -/
  | set (S:Int→Bool) (n:Nat)
  /-- an instance of the class at C, its dict at dx, its attributes -/
  | ins (C dx:Addr) (fs:List (Str × V))
  /-- the dict of the instance at x -/
  | own (x:Addr)
  /-- the dict of an exception -/
  | xd (fs:List (Str × V))
  /-- a bound method, f of x -/
  | met (f x:Addr)
  /-- a range object lo, lo + 1, .. below hi -/
  | rng (lo hi:Int)
  /-- a thing that is known to the object (the script; a dict while a loop walks it): read, never written while it is so -/
  | frz (o:Obj) (u:HO)
  /-- a code object's table -/
  | tbl (ps:Array Value)
  /-- any other thing, by what is true of its one object (a def of one's own: SetO a S n := HO.ext fun h => ..) -/
  | ext (φ:Heap→Prop)
abbrev Hp:=Addr→Option HO
def a7(H:Hp)(a:Addr)(o:HO):Hp:=fun b=>if b=a then some o else H b
theorem am{H:Hp}{a:Addr}{o:HO}:a7 H a o a=some o:=by unfold a7;rw [if_pos rfl]
theorem aB{H:Hp}{a b:Addr}{o:HO}(h:b≠a):a7 H a o b=H b:=by unfold a7;rw [if_neg h]
theorem cS{H:Hp}{a b:Addr}{o:HO}(h:H a=some o)(h':H b=none):a≠b:=by
  intro e;subst e;rw [h] at h';cases h'
def kY(h:Heap)(a:Addr)(items:Array Value):Prop:=∃o,h.get? a=some o∧o.cls=.type "tuple"∧∃n,o.data=.seq items n∧o.dict=none
theorem kY.tup{h:Heap}{a:Addr}{items:Array Value}(x:kY h a items):IsTup h a items:=let ⟨o,ho,hc,n,hd,_⟩:=x;⟨o,ho,hc,n,hd⟩
theorem kY.new(h:Heap)(items:Array Value):kY (h.push {cls:=.type "tuple",data:=.seq items}) h.objs.size items:=⟨_,Heap.get?_push_size _ rfl,rfl,_,rfl,rfl⟩
section
variable(P:Program)(w:World)
def bY(H:Hp)(h:Heap)(a:Addr):HO→Prop
  | .lst xs=>xs.length≤sizeLine∧∃(its:List Value) (n:Nat),aF xs its∧h.get? a=some {cls:=.type "list",data:=.seq its.toArray n}
  | .tup xs=>xs.length≤sizeLine∧∃its:List Value,aF xs its∧kY h a its.toArray
  | .dK kvs=>kvs.length≤sizeLine∧(a==sysModules)=false∧∃vs,KV kvs vs∧h.DictOf (cF P w) a vs
  | .dT kvs=>kvs.length≤sizeLine∧(a==sysModules)=false∧∃xs:List (List ec × Addr × Value),
      Paired (fun(p:List ec × V) (q:List ec × Addr × Value)=>p.1=q.1∧H q.2.1=some (.tup (p.1.map kV))∧bf p.2 q.2.2) kvs xs∧
      ∃o es ep,h.get? a=some o∧o.ExactDict∧o.data=.dict es ep∧es.toList=xs.map (entryOfKey (tupleKind (cF P w)))∧(xs.map (·.1)).Nodup
  | .set S n=>h.SetOf (intKind P w) a S n
  | .ins C dx fs=>H dx=some (.own a)∧fs.length≤1000∧dx≠a∧h.get? a=some (PySem.W.instObj C dx)∧
      ∃mA,h.Ns1 dx mA∧(∀f,AR (fs.lookup f) (mA f))∧PySem.Within mA (fs.map (·.1))
  | .own _=>∃o,h.get? a=some o
  | .xd fs=>∃mA,h.Ns1 a mA∧∀f,AR (fs.lookup f) (mA f)
  | .rng lo hi=>∃t u v,h.get? a=some {cls:=.type "range",data:=.fields #[.int lo t,.int hi u,.int 1 v]}
  | .frz o u=>h.get? a=some o∧bY H h a u
  | .tbl ps=>h.get? a=some {cls:=.none,data:=.fields ps}
  | .met f x=>h.get? a=some (PySem.W.methodObj (.ref f) (.ref x))
  | .ext φ=>φ h∧(∃o,h.get? a=some o)∧∀h1 h2:Heap,φ h1→(∀o,h1.get? a=some o→h2.get? a=some o)→φ h2
def iJ(H:Hp)(h:Heap):Prop:=∀a o,H a=some o→bY P w H h a o
end
section
variable{P:Program}{w:World}{H H':Hp}{h h':Heap}{a:Addr}{o:HO}
theorem bY.lt(x:bY P w H h a o):a < h.objs.size:=by
  cases o with
  | lst xs=>obtain⟨_,_,_,_,e⟩:=x;exact Heap.lt_size e
  | tup xs=>obtain⟨_,_,_,p⟩:=x;exact p.tup.lt
  | dK kvs=>obtain⟨_,_,_,_,o,_,_,e,_⟩:=x;exact Heap.lt_size e
  | dT kvs=>obtain⟨_,_,_,_,o,_,_,e,_⟩:=x;exact Heap.lt_size e
  | set S n=>obtain⟨o,_,_,_,e,_⟩:=x;exact Heap.lt_size e
  | ins C dx fs=>obtain⟨_,_,_,e,_⟩:=x;exact Heap.lt_size e
  | own y=>obtain⟨_,e⟩:=x;exact Heap.lt_size e
  | xd fs=>obtain⟨_,⟨_,_,_,e,_⟩,_⟩:=x;exact Heap.lt_size e
  | rng lo hi=>obtain⟨_,_,_,e⟩:=x;exact Heap.lt_size e
  | frz ob u=>obtain⟨e,_⟩:=x;exact Heap.lt_size e
  | tbl ps=>exact Heap.lt_size (show h.get? a=some _ from x)
  | met f y=>exact Heap.lt_size (show h.get? a=some _ from x)
  | ext φ=>obtain⟨_,⟨_,e⟩,_⟩:=x;exact Heap.lt_size e
theorem Paired.mapP{α β:Type}{F G:α→β→Prop}:∀{l₁:List α} {l₂:List β},Paired F l₁ l₂→(∀a b,F a b→G a b)→Paired G l₁ l₂
  | _,_,.nil,_=>.nil
  | _,_,.cons r t,f=>.cons (f _ _ r) (Paired.mapP t f)
theorem bY.stay(x:bY P w H h a o)(k:∀b u,(b=a∨H b=some (.own a))→h.get? b=some u→h'.get? b=some u)
    (ho:∀b,H b=some (.own a)→H' b=some (.own a))(ht:∀b xs,H b=some (.tup xs)→H' b=some (.tup xs)):bY P w H' h' a o:=by
  induction o with
  | lst xs=>obtain⟨z,its,n,r,e⟩:=x;exact⟨z,its,n,r,k _ _ (.inl rfl) e⟩
  | tup xs=>obtain⟨z,its,r,ob,e,c⟩:=x;exact⟨z,its,r,ob,k _ _ (.inl rfl) e,c⟩
  | dK kvs=>obtain⟨z,y,vs,r,ob,es,ep,e,c⟩:=x;exact⟨z,y,vs,r,ob,es,ep,k _ _ (.inl rfl) e,c⟩
  | dT kvs=>
    obtain⟨z,y,xs,r,ob,es,ep,e,c⟩:=x
    exact⟨z,y,xs,Paired.mapP r fun p q z=>⟨z.1,ht _ _ z.2.1,z.2.2⟩,ob,es,ep,k _ _ (.inl rfl) e,c⟩
  | set S n=>obtain⟨ob,es,ep,t,e,c⟩:=x;exact⟨ob,es,ep,t,k _ _ (.inl rfl) e,c⟩
  | ins C dx fs=>
    obtain⟨d,z,ne,e,mA,⟨od,es,ep,e2,c⟩,r⟩:=x
    exact⟨ho _ d,z,ne,k _ _ (.inl rfl) e,mA,⟨od,es,ep,k _ _ (.inr d) e2,c⟩,r⟩
  | own y=>obtain⟨ob,e⟩:=x;exact⟨ob,k _ _ (.inl rfl) e⟩
  | xd fs=>obtain⟨mA,⟨od,es,ep,e,c⟩,r⟩:=x;exact⟨mA,⟨od,es,ep,k _ _ (.inl rfl) e,c⟩,r⟩
  | rng lo hi=>obtain⟨t,u,v,e⟩:=x;exact⟨t,u,v,k _ _ (.inl rfl) e⟩
  | frz ob u ih=>obtain⟨e,q⟩:=x;exact⟨k _ _ (.inl rfl) e,ih q⟩
  | tbl ps=>
    have e:h.get? a=some {cls:=.none,data:=.fields ps}:=x
    show h'.get? a=some {cls:=.none,data:=.fields ps}
    exact k a _ (.inl rfl) e
  | met f y=>
    have e:h.get? a=some (PySem.W.methodObj (.ref f) (.ref y)):=x
    show h'.get? a=some (PySem.W.methodObj (.ref f) (.ref y))
    exact k a _ (.inl rfl) e
  | ext φ=>obtain⟨p,⟨o,e⟩,st⟩:=x;exact⟨st _ _ p fun o q=>k _ _ (.inl rfl) q,⟨o,k _ _ (.inl rfl) e⟩,st⟩
theorem iJ.lt(x:iJ P w H h)(e:H a=some o):a < h.objs.size:=(x a o e).lt
theorem iJ.fresh(x:iJ P w H h)(e:h.objs.size≤a):H a=none:=by
  cases q:H a with
  | none=>rfl
  | some u=>exact absurd (Nat.lt_of_lt_of_le (x.lt q) e) (Nat.lt_irrefl _)
theorem iJ.kept(x:iJ P w H h)(k:∀b u,h.get? b=some u→h'.get? b=some u):iJ P w H h':=fun a o e=>
  (x a o e).stay (fun b u _ q=>k b u q) (fun _ q=>q) fun _ _ q=>q
theorem iJ.laid(x:iJ P w H h)(k:∀b u,h.get? b=some u→h'.get? b=some u)(hp:h.objs.size≤a)(new:bY P w (a7 H a o) h' a o):iJ P w (a7 H a o) h':=fun b u e=>by
  have hn:=x.fresh hp
  by_cases hb:b=a
  · subst hb;rw [am] at e;cases e;exact new
  · rw [aB hb] at e
    exact(x b u e).stay (fun c v _ q=>k c v q) (fun c q=>by rw [aB (cS q hn)];exact q) fun c xs q=>by rw [aB (cS q hn)];exact q
end
def Rd(H:Hp)(a:Addr)(u:HO):Prop:=H a=some u∨∃o,H a=some (.frz o u)
theorem Rd.ok{P:Program}{w:World}{H:Hp}{h:Heap}{a:Addr}{u:HO}(r:Rd H a u)(x:iJ P w H h):bY P w H h a u:=by
  rcases r with r | ⟨o,r⟩
  · exact x a u r
  · obtain⟨_,q⟩:=x a _ r
    exact q
def AO:Option HO→Prop
  | some (.lst _)=>True
  | some (.dK _)=>True
  | some (.dT _)=>True
  | some (.set _ _)=>True
  | some (.ins _ _ _)=>True
  | some (.ext _)=>True
  | _=>False
section
variable{P:Program}{w:World}{H:Hp}{h h':Heap}{x e:Addr}{o':HO}
theorem iJ.write(ok:iJ P w H h)(mu:AO (H x))(he:e=x∨H e=some (.own x))(k:∀b u,b≠e→h.get? b=some u→h'.get? b=some u)(heo:∃u,h'.get? e=some u)
    (new:bY P w (a7 H x o') h' x o'):iJ P w (a7 H x o') h':=fun b u q=>by
  have nown:∀c y,H c=some (.own y)→c≠x:=fun c y r z=>by subst z;rw [r] at mu;exact mu
  have ntup:∀c xs,H c=some (.tup xs)→c≠x:=fun c xs r z=>by subst z;rw [r] at mu;exact mu
  by_cases hb:b=x
  · subst hb;rw [am] at q;cases q;exact new
  · rw [aB hb] at q
    by_cases hbe:b=e
    · have q':H b=some (.own x):=by
        rcases he with z | z
        · exact absurd (hbe.trans z) hb
        · rw [hbe];exact z
      rw [q] at q';cases q'
      obtain⟨v,hv⟩:=heo
      exact⟨v,by rw [hbe];exact hv⟩
    · refine(ok b u q).stay (fun c v hc r=>k c v ?_ r) (fun c r=>by rw [aB (nown c b r)];exact r) fun c xs r=>by rw [aB (ntup c xs r)];exact r
      rcases hc with rfl | hc
      · exact hbe
      · rintro rfl
        rcases he with z | z
        · exact nown c b hc z
        · rw [hc] at z;cases z;exact hb rfl
end
structure Un (fs ex:List Addr) (H H':Hp) (h h':Heap):Prop where
  keep:∀b o,h.get? b=some o→H b=none→b∉fs→b∉ex→h'.get? b=some o
  slot:∀b o,h.get? b=some o→H b=none→b∈fs→b∉ex→∃sl,h'.get? b=some {o with slots:=sl}
  free:∀b o,h.get? b=some o→H b=none→b∉ex→H' b=none
  there:∀b o,h.get? b=some o→b∉ex→∃o',h'.get? b=some o'
  tups:∀b xs,H b=some (.tup xs)→H' b=some (.tup xs)
  frzs:∀b o u,H b=some (.frz o u)→H' b=some (.frz o u)
  tbls:∀b ps,H b=some (.tbl ps)→∃more,H' b=some (.tbl (ps++more))
section
variable{fs fs' ex ex':List Addr}{H H1 H2:Hp}{h h1 h2 h':Heap}{a x e:Addr}{o:HO}
theorem Un.any(u:Un fs ex H H1 h h1){b:Addr}{ob:Obj}(q:h.get? b=some ob)(n:H b=none)(hx:b∉ex):∃sl,h1.get? b=some {ob with slots:=sl}:=by
  by_cases hb:b∈fs
  · exact u.slot b ob q n hb hx
  · exact⟨ob.slots,u.keep b ob q n hb hx⟩
theorem Un.kept(k:∀b u,h.get? b=some u→h'.get? b=some u):Un fs ex H H h h':=
  ⟨fun b ob q _ _ _=>k b ob q,fun b ob q _ _ _=>⟨ob.slots,k b ob q⟩,fun _ _ _ n _=>n,fun b ob q _=>⟨ob,k b ob q⟩,fun _ _ q=>q,fun _ _ _ q=>q,fun _ ps q=>⟨#[],by rw [q];simp⟩⟩
theorem Un.refl:Un fs ex H H h h:=Un.kept fun _ _ q=>q
theorem Un.laid(k:∀b u,h.get? b=some u→h'.get? b=some u)(hp:h.objs.size≤a)(hn:H a=none):Un fs ex H (a7 H a o) h h' where
  keep:=fun b u q _ _ _=>k b u q
  slot:=fun b u q _ _ _=>⟨u.slots,k b u q⟩
  free:=fun b u q n _=>by rw [aB (Nat.ne_of_lt (Nat.lt_of_lt_of_le (Heap.lt_size q) hp))];exact n
  there:=fun b u q _=>⟨u,k b u q⟩
  tups:=fun b xs q=>by rw [aB (cS q hn)];exact q
  frzs:=fun b u xs q=>by rw [aB (cS q hn)];exact q
  tbls:=fun b ps q=>⟨#[],by rw [aB (cS q hn),q];simp⟩
theorem Un.write(mu:AO (H x))(he:e=x∨H e=some (.own x))(k:∀b u,b≠e→h.get? b=some u→h'.get? b=some u)(heo:∃u,h'.get? e=some u):Un fs ex H (a7 H x o) h h':=by
  have hx:∀b,H b=none→b≠x:=fun b n z=>by subst z;rw [n] at mu;exact mu
  have hb:∀b,H b=none→b≠e:=fun b n z=>by
    subst z
    rcases he with r | r
    · exact hx b n r
    · rw [n] at r;cases r
  have hm:∀b u,H b=some u→¬AO (some u)→b≠x:=fun b u q nm z=>by subst z;rw [q] at mu;exact nm mu
  refine⟨fun b u q n _ _=>k b u (hb b n) q,fun b u q n _ _=>⟨u.slots,k b u (hb b n) q⟩,fun b u q n _=>by rw [aB (hx b n)];exact n,fun b u q _=>?_,
    fun b xs q=>by rw [aB (hm b _ q fun z=>z)];exact q,fun b u xs q=>by rw [aB (hm b _ q fun z=>z)];exact q,fun b ps q=>⟨#[],by rw [aB (hm b _ q fun z=>z),q];simp⟩⟩
  by_cases hbe:b=e
  · subst hbe;exact heo
  · exact⟨u,k b u hbe q⟩
end
def CQ(h:Heap)(H:Hp):List Addr:=(List.range h.objs.size).filter fun a=>(H a).isSome
def mO(h:Heap)(H:Hp):Heap:=PySem.W.hideAll h (CQ h H)
theorem ri(h:Heap)(H:Hp):(mO h H).objs.size=h.objs.size:=PySem.W.hideAll_size _ _
theorem tS{h:Heap}{H:Hp}{b:Addr}{o:Obj}(e:h.get? b=some o)(n:H b=none):(mO h H).get? b=some o:=
  PySem.W.hideAll_get _ e fun hm=>by
    have q:(H b).isSome=true:=(List.mem_filter.mp hm).2
    rw [n] at q;simp at q
theorem ww{h:Heap}{H:Hp}{b:Addr}{o:Obj}(e:(mO h H).get? b=some o):h.get? b=some o∧H b=none:=by
  have e':h.get? b=some o:=PySem.W.of_hideAll (CQ h H) e
  refine⟨e',?_⟩
  cases q:H b with
  | none=>rfl
  | some x=>
    have hm:b∈CQ h H:=List.mem_filter.mpr ⟨List.mem_range.mpr (Heap.lt_size e'),by simp [q]⟩
    have z:(mO h H).get? b=none:=PySem.W.hideAll_none (CQ h H) hm
    rw [z] at e;cases e
def mn(g h:Heap)(L:Addr):List (Addr × Obj):=(List.range h.objs.size).filterMap fun a=>if a=L∨(g.get? a).isSome=true then none else(h.get? a).map fun o=>(a,o)
theorem kG{g h:Heap}{L:Addr}{p:Addr × Obj}(hp:p∈mn g h L):p.1≠L∧g.get? p.1=none∧h.get? p.1=some p.2:=by
  obtain⟨b,_,e⟩:=List.mem_filterMap.mp hp
  split at e
  · cases e
  · rename_i hn
    cases q:h.get? b with
    | none=>rw [q] at e;simp at e
    | some u=>
      rw [q] at e
      simp only [Option.map_some,Option.some.injEq] at e
      subst e
      refine⟨fun z=>hn (.inl z),?_,q⟩
      show g.get? b=none
      cases r:g.get? b with
      | none=>rfl
      | some v=>exact(hn (.inr (by simp [r]))).elim
def dI(g h:Heap)(L d:Addr):List (Addr × Obj):=(mn g h L).filter fun p=>decide (p.1≠d)
theorem ui{g h:Heap}{L:Addr}:News g L h (mn g h L):=fun p hp=>let ⟨a,b,c⟩:=kG hp;⟨c,a,b⟩
end L2
namespace L2
open PySem PySem.Spec PyProof.Rows
structure Mod (K:PySem.W.Frag) (mg:Str→Option Value) (base:Heap):Prop where
  kin:K.In base
  glob:base.Ns mainGlobals mg
  blt:∃mb,base.Ns builtinsNs mb∧∀x:Str,x≠"__name__"→mb x=bootBuiltins x
  nolimit:base.NoLimit
structure Cx where
  prog:Program
  w:World
  K:PySem.W.Frag
  mg:Str→Option Value
  base:Heap
  A:Around
  N:List Str
  s₀:Shared
  H₀:Hp
  env:Env
  outer:List Env
  stack:List Env
  ex:List Addr
  fn:Str→Bool
  calm:Bool
  pn:List (Addr × Obj)
  xe:Value→Shared→Prop
def sW(l:List Env):List Addr:=l.filterMap (·.frame)
abbrev Cx.fs(X:Cx):List Addr:=sW X.outer
def AV(sc:Scope)(x:Str):Prop:=sc.names.lookup x=some .local∨sc.names.lookup x=some .cell∨sc.names.lookup x=some .free
def AE(sc:Scope)(x:Str):Prop:=sc.names.lookup x=some .local∨sc.names.lookup x=some .cell
def CY(env:Env)(h:Heap)(m:Str→Option Value)(x:Str)(u:Value):Prop:=
  (env.kindOf x=some .local∧m x=some u)∨((env.kindOf x=some .cell∨env.kindOf x=some .free)∧∃c,env.cells.lookup x=some c∧h.IsCell c (some u))
structure Cx.Ok (X:Cx):Prop where
  mod:Mod X.K X.mg X.base
  kind:X.env.scope.kind=.function
  glob:X.env.globals=mainGlobals
  blt:X.env.builtins=builtinsNs
  above:X.s₀.heap.objs.size≤X.env.locals
  inj:∀x y c,X.env.cells.lookup x=some c→X.env.cells.lookup y=some c→x=y
  has:∀x,(X.env.kindOf x=some .cell∨X.env.kindOf x=some .free)→∃c,X.env.cells.lookup x=some c
  cab:∀x c,X.fn x=true→X.env.cells.lookup x=some c→X.s₀.heap.objs.size≤c
  hd:X.calm=true→X.A.handled=none
  frames:X.A.frames=some X.stack
  stk:X.stack=X.outer∨(X.stack=X.env::X.outer∧X.env.frame=some X.env.locals)
  exf:∀b∈X.ex,b≠X.env.locals∧∀x c,X.env.cells.lookup x=some c→c≠b
  bs:∀b o,X.base.get? b=some o→X.s₀.heap.get? b=some o∧X.H₀ b=none
  bsz:X.base.objs.size≤X.s₀.heap.objs.size
  noex:∀b o,X.base.get? b=some o→b∉X.ex
  exfs:∀b∈X.ex,b∉X.fs
  funs:X.s₀.heap.FunFrames X.base X.outer
  frf:∀b∈X.fs,X.H₀ b=none
structure ar (X:Cx) (pins:List (Addr × Obj)) (σ:List (Option V)) (H:Hp) (s:Shared):Prop where
  ok:X.Ok
  os:s.os=X.s₀.os
  bare:AllBare s.gens
  base:Un X.fs X.ex X.H₀ H X.s₀.heap s.heap
  loc:∃m,s.heap.Ns X.env.locals m∧∀(i:Nat) (x:Str) (v:V),X.N[i]?=some x→σ[i]?=some (some v)→AV X.env.scope x→∃u,bf v u∧CY X.env s.heap m x u
  cell:∀x c,X.env.cells.lookup x=some c→∃v,s.heap.IsCell c v
  free:H X.env.locals=none
  freeC:∀x c,X.env.cells.lookup x=some c→H c=none
  pin:∀p∈X.pn++pins,s.heap.get? p.1=some p.2∧H p.1=none∧p.1≠X.env.locals∧p.1∉X.fs∧∀v,p.2.data≠.cell v
  hok:iJ X.prog X.w H s.heap
  len:σ.length=X.N.length
section
variable{X:Cx}{pins:List (Addr × Obj)}{σ:List (Option V)}{H H':Hp}{s:Shared}{h':Heap}
theorem Cx.Ok.nofr(ok:X.Ok){b:Addr}{o:Obj}(e:X.base.get? b=some o):b∉X.fs:=fun hb=>by
  have:=(ok.funs.mem hb).1
  rw [e] at this;cases this
theorem ar.bs(I:ar X pins σ H s):∀b o,X.base.get? b=some o→s.heap.get? b=some o∧H b=none:=fun b o e=>
  ⟨I.base.keep b o (I.ok.bs b o e).1 (I.ok.bs b o e).2 (I.ok.nofr e) (I.ok.noex b o e),I.base.free b o (I.ok.bs b o e).1 (I.ok.bs b o e).2 (I.ok.noex b o e)⟩
theorem ar.bk(I:ar X pins σ H s):∀b o,X.base.get? b=some o→s.heap.get? b=some o:=fun b o e=>(I.bs b o e).1
theorem ar.mod(I:ar X pins σ H s):Mod X.K X.mg X.base:=I.ok.mod
theorem ar.kIn(I:ar X pins σ H s):X.K.In s.heap:=I.ok.mod.kin.keeps I.bk
theorem ar.fr(I:ar X pins σ H s):∃m,Fr X.base X.env.locals s.heap m:=
  let ⟨m,hn,_⟩:=I.loc
  ⟨m,hn,I.bk,Nat.le_trans I.ok.bsz I.ok.above⟩
theorem ar.lt(I:ar X pins σ H s):X.env.locals < s.heap.objs.size:=let ⟨_,hn,_⟩:=I.loc;hn.lt
theorem ar.sz(I:ar X pins σ H s):X.s₀.heap.objs.size≤s.heap.objs.size:=Nat.le_trans I.ok.above (Nat.le_of_lt I.lt)
theorem ar.nofs(I:ar X pins σ H s){a:Addr}(h:s.heap.objs.size≤a):a∉X.fs:=fun hb=>by
  obtain⟨_,o,ho,_⟩:=I.ok.funs.mem hb
  exact absurd (Nat.lt_of_lt_of_le (Heap.lt_size ho) (Nat.le_trans I.sz h)) (Nat.lt_irrefl _)
theorem ar.cne(I:ar X pins σ H s):∀x c,X.env.cells.lookup x=some c→c≠X.env.locals:=fun x c e z=>by
  obtain⟨v,o,ho,hd⟩:=I.cell x c e
  obtain⟨m,⟨o',es,ep,ho',hd',_⟩,_⟩:=I.loc
  rw [z,ho'] at ho;cases ho;rw [hd'] at hd;cases hd
theorem ar.funs(I:ar X pins σ H s):s.heap.FunFrames X.base X.outer:=by
  have all:∀(l:List Env),(∀b∈sW l,b∈X.fs)→X.s₀.heap.FunFrames X.base l→s.heap.FunFrames X.base l:=by
    intro l
    induction l with
    | nil=>intro _ _;trivial
    | cons env r ih=>
      intro hs hl
      obtain⟨hk,⟨L,o,hf,hn,ho,hd⟩,hr⟩:=hl
      have hL:L∈X.fs:=hs L (by unfold sW;rw [List.filterMap_cons,hf];exact List.mem_cons_self)
      obtain⟨sl,e⟩:=I.base.slot L o ho (I.ok.frf L hL) hL fun z=>I.ok.exfs L z hL
      exact⟨hk,⟨L,_,hf,hn,e,hd⟩,ih (fun b hb=>hs b (by unfold sW;rw [List.filterMap_cons,hf];exact List.mem_cons_of_mem _ hb)) hr⟩
  exact all X.outer (fun _ hb=>hb) I.ok.funs
theorem ar.stack(I:ar X pins σ H s):s.heap.FunFrames X.base X.stack:=by
  rcases I.ok.stk with e | ⟨e,hf⟩
  · rw [e];exact I.funs
  · rw [e]
    obtain⟨m,hn,_⟩:=I.loc
    refine .cons (by rw [I.ok.kind];decide) hf hn ?_ I.funs
    exact Heap.get?_none_of_le (Nat.le_trans I.ok.bsz I.ok.above)
theorem ar.stkSub(I:ar X pins σ H s):∀b∈sW X.stack,b∈X.env.locals::X.fs:=fun b hb=>by
  rcases I.ok.stk with e | ⟨e,hf⟩
  · rw [e] at hb;exact List.mem_cons_of_mem _ hb
  · rw [e] at hb
    unfold sW at hb
    rw [List.filterMap_cons,hf] at hb
    exact hb
theorem ar.stkFree(I:ar X pins σ H s):∀b∈sW X.stack,H b=none:=fun b hb=>by
  rcases List.mem_cons.mp (I.stkSub b hb) with e | hb
  · rw [e];exact I.free
  · obtain⟨_,o,ho,_⟩:=I.ok.funs.mem hb
    exact I.base.free b o ho (I.ok.frf b hb) fun z=>I.ok.exfs b z hb
theorem ar.step{g':Array GenState}{t':Nat}{d':Drawn}{ch:List Addr}(I:ar X pins σ H s)
    (hch:∀b∈ch,(b∈X.ex∨X.s₀.heap.objs.size≤b)∧b≠X.env.locals∧(∀x c,X.env.cells.lookup x=some c→c≠b)∧∀p∈X.pn++pins,p.1≠b)
    (keep:∀b o,b≠X.env.locals→b∉X.fs→b∉ch→s.heap.get? b=some o→H b=none→h'.get? b=some o)
    (slot:∀b o,b≠X.env.locals→b∈X.fs→b∉ch→s.heap.get? b=some o→H b=none→∃sl,h'.get? b=some {o with slots:=sl})(free:∀b o,b∉ch→s.heap.get? b=some o→H b=none→H' b=none)
    (there:∀b o,b∉ch→s.heap.get? b=some o→∃o',h'.get? b=some o')
    (tups:∀b xs,H b=some (.tup xs)→H' b=some (.tup xs))(frzs:∀b o u,H b=some (.frz o u)→H' b=some (.frz o u))(tbls:∀b ps,H b=some (.tbl ps)→∃more,H' b=some (.tbl (ps++more)))
    (ns:∀m,s.heap.Ns X.env.locals m→h'.Ns X.env.locals m)(hok:iJ X.prog X.w H' h')(hg:AllBare g'):
    ar X pins σ H' {s with heap:=h',gens:=g',drawn:=d',toks:=t'}:=by
  have neL:∀b o,X.s₀.heap.get? b=some o→b≠X.env.locals:=fun b o e=>Nat.ne_of_lt (Nat.lt_of_lt_of_le (Heap.lt_size e) I.ok.above)
  have neC:∀b o,X.s₀.heap.get? b=some o→b∉X.ex→b∉ch:=fun b o e hx hb=>by
    rcases(hch b hb).1 with z | z
    · exact hx z
    · exact absurd (Nat.lt_of_lt_of_le (Heap.lt_size e) z) (Nat.lt_irrefl _)
  have cellK:∀x c,X.env.cells.lookup x=some c→∀v,s.heap.IsCell c v→h'.IsCell c v:=fun x c e v ⟨o,ho,hd⟩=>by
    have nch:c∉ch:=fun z=>(hch c z).2.2.1 x c e rfl
    by_cases hc:c∈X.fs
    · obtain⟨sl,q⟩:=slot c o (I.cne x c e) hc nch ho (I.freeC x c e)
      exact⟨_,q,hd⟩
    · exact⟨o,keep c o (I.cne x c e) hc nch ho (I.freeC x c e),hd⟩
  refine⟨I.ok,I.os,hg,⟨fun b o e n hb hx=>?_,fun b o e n hb hx=>?_,fun b o e n hx=>?_,fun b o e hx=>?_,fun b xs e=>tups b xs (I.base.tups b xs e),fun b o xs e=>frzs b o xs (I.base.frzs b o xs e),fun b ps e=>?_⟩,?_,fun x c e=>?_,?_,fun x c e=>?_,fun p hp=>?_,hok,I.len⟩
  · exact keep b o (neL b o e) hb (neC b o e hx) (I.base.keep b o e n hb hx) (I.base.free b o e n hx)
  · obtain⟨sl,e1⟩:=I.base.slot b o e n hb hx
    obtain⟨sl',e2⟩:=slot b _ (neL b o e) hb (neC b o e hx) e1 (I.base.free b o e n hx)
    exact⟨sl',e2⟩
  · obtain⟨o',e1⟩:=I.base.there b o e hx
    exact free b o' (neC b o e hx) e1 (I.base.free b o e n hx)
  · obtain⟨o',e1⟩:=I.base.there b o e hx
    exact there b o' (neC b o e hx) e1
  · obtain⟨m1,e1⟩:=I.base.tbls b ps e
    obtain⟨m2,e2⟩:=tbls b _ e1
    exact⟨m1++m2,by rw [e2,Array.append_assoc]⟩
  · obtain⟨m,hn,hl⟩:=I.loc
    refine⟨m,ns m hn,fun i x v e1 e2 e3=>?_⟩
    obtain⟨u,r,l⟩:=hl i x v e1 e2 e3
    refine⟨u,r,?_⟩
    rcases l with l | ⟨k,c,e,z⟩
    · exact .inl l
    · exact .inr ⟨k,c,e,cellK x c e _ z⟩
  · obtain⟨v,z⟩:=I.cell x c e
    exact⟨v,cellK x c e v z⟩
  · obtain⟨m,⟨o,_,_,ho,_⟩,_⟩:=I.loc
    exact free _ o (fun z=>(hch _ z).2.1 rfl) ho I.free
  · obtain⟨v,o,ho,hd⟩:=I.cell x c e
    exact free c o (fun z=>(hch c z).2.2.1 x c e rfl) ho (I.freeC x c e)
  · obtain⟨e,n,ne,nf,d⟩:=I.pin p hp
    have nch:p.1∉ch:=fun z=>(hch p.1 z).2.2.2 p hp rfl
    exact⟨keep p.1 p.2 ne nf nch e n,free p.1 p.2 nch e n,ne,nf,d⟩
theorem ar.un{t':Nat}(I:ar X pins σ H s)(u:Un X.fs [] H H' s.heap h')(hok:iJ X.prog X.w H' h'):ar X pins σ H' {s with heap:=h',toks:=t'}:=by
  obtain⟨m,⟨o,es,ep,ho,r⟩,_⟩:=id I.loc
  obtain⟨sl,hL⟩:=u.any ho I.free (by simp)
  exact I.step (g':=s.gens) (d':=s.drawn) (ch:=[]) (fun _ z=>nomatch z) (fun b o _ hb _ e n=>u.keep b o e n hb (by simp)) (fun b o _ hb _ e n=>u.slot b o e n hb (by simp)) (fun b o _ e n=>u.free b o e n (by simp)) (fun b o _ e=>u.there b o e (by simp)) u.tups u.frzs u.tbls (fun m' hm=>by
    obtain⟨o',es',ep',ho',r'⟩:=hm
    rw [ho] at ho';cases ho'
    exact⟨_,es',ep',hL,r'⟩) hok I.bare
theorem ar.call{g':Array GenState}{t':Nat}{d':Drawn}{ch:List Addr}(I:ar X pins σ H s)(u:Un (sW X.stack) ch H H' s.heap h')(hok:iJ X.prog X.w H' h')(hg:AllBare g')
    (hch:∀b∈ch,(b∈X.ex∨X.s₀.heap.objs.size≤b)∧b≠X.env.locals∧(∀x c,X.env.cells.lookup x=some c→c≠b)∧∀p∈X.pn++pins,p.1≠b):
    ar X pins σ H' {s with heap:=h',gens:=g',drawn:=d',toks:=t'}:=by
  obtain⟨m,⟨o,es,ep,ho,r⟩,_⟩:=id I.loc
  obtain⟨sl,hL⟩:=u.any ho I.free fun z=>(hch _ z).2.1 rfl
  exact I.step (ch:=ch) hch (fun b o hL hb hc e n=>u.keep b o e n (fun z=>(List.mem_cons.mp (I.stkSub b z)).elim hL hb) hc) (fun b o _ _ hc e n=>u.any e n hc) (fun b o hc e n=>u.free b o e n hc) (fun b o hc e=>u.there b o e hc) u.tups u.frzs u.tbls (fun m' hm=>by
    obtain⟨o',es',ep',ho',r'⟩:=hm
    rw [ho] at ho';cases ho'
    exact⟨_,es',ep',hL,r'⟩) hok hg
theorem ar.turned{t':Nat}{it:Addr}(I:ar X pins σ H s)(k:∀b o,b≠it→s.heap.get? b=some o→h'.get? b=some o)(hn:H it=none)(hL:it≠X.env.locals)
    (h1:it∈X.ex∨X.s₀.heap.objs.size≤it)(h2:∀x c,X.env.cells.lookup x=some c→c≠it)(h3:∀p∈X.pn++pins,p.1≠it):ar X pins σ H {s with heap:=h',toks:=t'}:=by
  have nit:∀b u,H b=some u→b≠it:=fun b u e z=>by rw [z,hn] at e;cases e
  refine I.step (g':=s.gens) (d':=s.drawn) (ch:=[it]) (fun b hb=>?_) (fun b o _ _ hc e _=>k b o (fun z=>hc (by simp [z])) e) (fun b o _ _ hc e _=>⟨o.slots,k b o (fun z=>hc (by simp [z])) e⟩) (fun _ _ _ _ n=>n)
    (fun b o hc e=>⟨o,k b o (fun z=>hc (by simp [z])) e⟩) (fun _ _ e=>e) (fun _ _ _ e=>e) (fun b ps e=>⟨#[],by rw [e];simp⟩) (fun m hm=>?_) (fun b u e=>?_) I.bare
  · have e:b=it:=by simpa using hb
    subst e
    exact⟨h1,hL,h2,h3⟩
  · obtain⟨o,es,ep,ho,r⟩:=hm
    exact⟨o,es,ep,k _ o (Ne.symm hL) ho,r⟩
  · refine(I.hok b u e).stay (fun c v hc q=>k c v ?_ q) (fun _ q=>q) fun _ _ q=>q
    rcases hc with z | z
    · rw [z];exact nit b u e
    · exact nit c _ z
theorem ar.tok(I:ar X pins σ H s)(t:Nat):ar X pins σ H {s with toks:=t}:=I.un (h':=s.heap) (t':=t) Un.refl I.hok
theorem ar.kept{t':Nat}(I:ar X pins σ H s)(k:∀b u,s.heap.get? b=some u→h'.get? b=some u):ar X pins σ H {s with heap:=h',toks:=t'}:=I.un (Un.kept k) (I.hok.kept k)
theorem ar.laid{a:Addr}{o:HO}{t':Nat}(I:ar X pins σ H s)(k:∀b u,s.heap.get? b=some u→h'.get? b=some u)(hp:s.heap.objs.size≤a)(new:bY X.prog X.w (a7 H a o) h' a o):
    ar X pins σ (a7 H a o) {s with heap:=h',toks:=t'}:=I.un (Un.laid k hp (I.hok.fresh hp)) (I.hok.laid k hp new)
theorem ar.write{x e:Addr}{o:HO}{t':Nat}(I:ar X pins σ H s)(mu:AO (H x))(he:e=x∨H e=some (.own x))(k:∀b u,b≠e→s.heap.get? b=some u→h'.get? b=some u)(heo:∃u,h'.get? e=some u)
    (new:bY X.prog X.w (a7 H x o) h' x o):ar X pins σ (a7 H x o) {s with heap:=h',toks:=t'}:=I.un (Un.write mu he k heo) (I.hok.write mu he k heo new)
theorem ar.pins_of{pins':List (Addr × Obj)}(I:ar X pins σ H s)(h:∀p∈pins',s.heap.get? p.1=some p.2∧H p.1=none∧p.1≠X.env.locals∧p.1∉X.fs∧∀v,p.2.data≠.cell v):ar X pins' σ H s:=
  ⟨I.ok,I.os,I.bare,I.base,I.loc,I.cell,I.free,I.freeC,fun p hp=>(List.mem_append.mp hp).elim (fun z=>I.pin p (List.mem_append_left _ z)) (h p),I.hok,I.len⟩
theorem oy{N:List Str}(hN:N.Nodup){i j:Nat}{x:Str}(a:N[i]?=some x)(b:N[j]?=some x):i=j:=by
  obtain⟨h1,e1⟩:=List.getElem?_eq_some_iff.mp a
  obtain⟨h2,e2⟩:=List.getElem?_eq_some_iff.mp b
  exact(List.getElem_inj hN).mp (e1.trans e2.symm)
theorem ma{M:Model}{A:Around}{E:Value→Shared→Prop}{i:Nat}{x:Str}{v:V}{u:Value}{Q:Unit→Shared→Prop}(I:ar X pins σ H s)(hN:X.N.Nodup)(hi:X.N[i]?=some x)(hx:AE X.env.scope x)(r:bf v u)
    (h:∀s',ar X pins (σ.set i (some v)) H s'→(∃a,Heap.SameBut a s.heap s'.heap∧(a=X.env.locals∨X.env.cells.lookup x=some a))→Q () s')(hf:X.fn x=true∨X.env.scope.names.lookup x=some .local:=by first | exact .inl rfl | exact .inr rfl | assumption):wpAny M A (storeName X.env x u) Q E s:=by
  obtain⟨m,hn,hl⟩:=id I.loc
  have hcls:(X.env.scope.kind==.class || (X.env.scope.kind==.module&&X.env.locals != X.env.globals))=false:=by rw [I.ok.kind];rfl
  have hiσ:i < σ.length:=by rw [I.len];exact(List.getElem?_eq_some_iff.mp hi).1
  have cne:=I.cne
  have tracked:∀{a:Addr} {h':Heap},(∃o,s.heap.get? a=some o∧H a=none)→Heap.SameBut a s.heap h'→iJ X.prog X.w H h':=fun{a h'} ha hs b ob e=>by
    obtain⟨_,_,hfree⟩:=ha
    refine(I.hok b ob e).stay (fun c w' hc q=>(hs.2 c ?_).trans q) (fun _ q=>q) fun _ _ q=>q
    rintro rfl
    rcases hc with rfl | hc
    · rw [hfree] at e;cases e
    · rw [hfree] at hc;cases hc
  rcases hx with hk | hk
  · refine wpAny_storeName_local hk hn (fun h' hn' hs=>?_) hcls
    obtain⟨oL,_,_,hoL,_⟩:=id hn
    refine h _ ⟨I.ok,I.os,I.bare,⟨fun b o e n hb hx=>?_,fun b o e n hb hx=>?_,I.base.free,fun b o e hx=>?_,I.base.tups,I.base.frzs,I.base.tbls⟩,⟨_,hn',fun j y v' e1 e2 e3=>?_⟩,fun y c e=>?_,I.free,I.freeC,fun p hp=>?_,tracked ⟨oL,hoL,I.free⟩ hs,by simpa using I.len⟩ ⟨_,hs,.inl rfl⟩
    · exact(hs.2 b (Nat.ne_of_lt (Nat.lt_of_lt_of_le (Heap.lt_size e) I.ok.above))).trans (I.base.keep b o e n hb hx)
    · obtain⟨sl,e1⟩:=I.base.slot b o e n hb hx
      exact⟨sl,(hs.2 b (Nat.ne_of_lt (Nat.lt_of_lt_of_le (Heap.lt_size e) I.ok.above))).trans e1⟩
    · obtain⟨o',e1⟩:=I.base.there b o e hx
      exact⟨o',(hs.2 b (Nat.ne_of_lt (Nat.lt_of_lt_of_le (Heap.lt_size e) I.ok.above))).trans e1⟩
    · by_cases hj:j=i
      · subst hj
        rw [hi] at e1;cases e1
        rw [List.getElem?_set_self hiσ] at e2
        cases e2
        exact⟨u,r,.inl ⟨hk,by simp⟩⟩
      · rw [List.getElem?_set_ne (Ne.symm hj)] at e2
        obtain⟨u',r',q⟩:=hl j y v' e1 e2 e3
        refine⟨u',r',?_⟩
        rcases q with ⟨k,e⟩ | ⟨k,c,e,z⟩
        · refine .inl ⟨k,?_⟩
          have:y≠x:=fun e=>hj (oy hN e1 (e ▸ hi))
          simp [this,e]
        · exact .inr ⟨k,c,e,z.sameBut hs (cne y c e)⟩
    · obtain⟨w',z⟩:=I.cell y c e
      exact⟨w',z.sameBut hs (cne y c e)⟩
    · obtain⟨e,n,ne,nf,d⟩:=I.pin p hp
      exact⟨(hs.2 p.1 ne).trans e,n,ne,nf,d⟩
  · have hfn:X.fn x=true:=by
      rcases hf with z | z
      · exact z
      · rw [z] at hk;cases hk
    obtain⟨c,hc⟩:=I.ok.has x (.inl hk)
    obtain⟨w',z⟩:=I.cell x c hc
    refine wpAny_storeName_cell I.ok.kind hk hc z (fun h' hc' hs=>?_)
    obtain⟨oc,hoc,hocd⟩:=id z
    refine h {s with heap:=h'} ⟨I.ok,I.os,I.bare,⟨fun b o e n hb hx=>?_,fun b o e n hb hx=>?_,I.base.free,fun b o e hx=>?_,I.base.tups,I.base.frzs,I.base.tbls⟩,⟨m,hn.sameBut hs (Ne.symm (cne x c hc)),fun j y v' e1 e2 e3=>?_⟩,fun y c' e=>?_,I.free,I.freeC,fun p hp=>?_,tracked ⟨oc,hoc,I.freeC x c hc⟩ hs,by simpa using I.len⟩ ⟨c,hs,.inr hc⟩
    · exact(hs.2 b (Nat.ne_of_lt (Nat.lt_of_lt_of_le (Heap.lt_size e) (I.ok.cab x c hfn hc)))).trans (I.base.keep b o e n hb hx)
    · obtain⟨sl,e1⟩:=I.base.slot b o e n hb hx
      exact⟨sl,(hs.2 b (Nat.ne_of_lt (Nat.lt_of_lt_of_le (Heap.lt_size e) (I.ok.cab x c hfn hc)))).trans e1⟩
    · obtain⟨o',e1⟩:=I.base.there b o e hx
      exact⟨o',(hs.2 b (Nat.ne_of_lt (Nat.lt_of_lt_of_le (Heap.lt_size e) (I.ok.cab x c hfn hc)))).trans e1⟩
    · by_cases hj:j=i
      · subst hj
        rw [hi] at e1;cases e1
        rw [List.getElem?_set_self hiσ] at e2
        cases e2
        exact⟨u,r,.inr ⟨.inl hk,c,hc,hc'⟩⟩
      · rw [List.getElem?_set_ne (Ne.symm hj)] at e2
        obtain⟨u',r',q⟩:=hl j y v' e1 e2 e3
        refine⟨u',r',?_⟩
        rcases q with q | ⟨k,c',e,z'⟩
        · exact .inl q
        · refine .inr ⟨k,c',e,z'.sameBut hs ?_⟩
          rintro rfl
          exact hj (oy hN e1 (I.ok.inj _ _ _ e hc ▸ hi))
    · by_cases hcc:c'=c
      · subst hcc;exact⟨_,hc'⟩
      · obtain⟨w2,z2⟩:=I.cell y c' e
        exact⟨w2,z2.sameBut hs hcc⟩
    · obtain⟨e,n,ne,nf,d⟩:=I.pin p hp
      refine⟨(hs.2 p.1 ?_).trans e,n,ne,nf,d⟩
      intro q
      rw [q,hoc] at e
      have q':oc=p.2:=Option.some.inj e
      exact d w' (by rw [←q'];exact hocd)
theorem iH{M:Model}{A:Around}{E:Value→Shared→Prop}{i:Nat}{x:Str}{v:V}{u:Value}{Q:Unit→Shared→Prop}(I:ar X pins σ H s)(hN:X.N.Nodup)(hi:X.N[i]?=some x)(hx:AE X.env.scope x)(r:bf v u)
    (h:∀s',ar X pins (σ.set i (some v)) H s'→Q () s')(hf:X.fn x=true∨X.env.scope.names.lookup x=some .local:=by first | exact .inl rfl | exact .inr rfl | assumption):wpAny M A (storeName X.env x u) Q E s:=
  ma I hN hi hx r (fun s' I' _=>h s' I') hf
theorem ar.call'{s':Shared}{ch:List Addr}(I:ar X pins σ H s)(ho:s'.os=s.os)(u:Un (sW X.stack) ch H H' s.heap s'.heap)(hok:iJ X.prog X.w H' s'.heap)(hg:AllBare s'.gens)
    (hch:∀b∈ch,(b∈X.ex∨X.s₀.heap.objs.size≤b)∧b≠X.env.locals∧(∀x c,X.env.cells.lookup x=some c→c≠b)∧∀p∈X.pn++pins,p.1≠b):ar X pins σ H' s':=by
  obtain⟨h',g',d',t',o'⟩:=s'
  have e:o'=s.os:=ho
  subst e
  exact I.call (g':=g') (t':=t') (d':=d') u hok hg hch
end
abbrev XK:=Value→Option Addr→Hp→Prop
abbrev St:=List (Option V)
abbrev VK:=V→Hp→Prop
abbrev TE:=St→Hp→VK→Prop
abbrev TT:=St→Hp→(Bool→Hp→Prop)→Prop
abbrev TA:=St→Hp→(List V→Hp→Prop)→Prop
structure oT where
  nx:St→Hp→Prop
  rt:VK
  bk:St→Hp→Prop:=fun _ _=>False
  ct:St→Hp→Prop:=fun _ _=>False
abbrev TS:=oT→St→Hp→Prop
def EP(X:Cx)(pins:List (Addr × Obj))(σ:St)(Q:VK)(u:Value)(s':Shared):Prop:=∃v H',ar X pins σ H' s'∧bf v u∧Q v H'
def TP(X:Cx)(pins:List (Addr × Obj))(σ:St)(Q:Bool→Hp→Prop)(b:Bool)(s':Shared):Prop:=∃H',ar X pins σ H' s'∧Q b H'
def AP(X:Cx)(pins:List (Addr × Obj))(σ:St)(Q:List V→Hp→Prop)(us:List Value)(s':Shared):Prop:=∃vs H',ar X pins σ H' s'∧aF vs us∧Q vs H'
def SP(X:Cx)(pins:List (Addr × Obj))(D:oT)(f:Flow)(s':Shared):Prop:=
  match f with
  | .next=>∃σ' H',ar X pins σ' H' s'∧D.nx σ' H'
  | .brk=>∃σ' H',ar X pins σ' H' s'∧D.bk σ' H'
  | .cont=>∃σ' H',ar X pins σ' H' s'∧D.ct σ' H'
  | .ret u=>∃v σ' H',ar X pins σ' H' s'∧bf v u∧D.rt v H'
def PE(X:Cx)(e:Expr)(t:TE):Prop:=
  ∀(pins:List (Addr × Obj)) (s:Shared) (σ:St) (H:Hp) (Q:VK),ar X pins σ H s→t σ H Q→wpAny (model X.prog X.w) X.A (eval e X.env) (EP X pins σ Q) X.xe s
def PT(X:Cx)(e:Expr)(t:TT):Prop:=
  ∀(pins:List (Addr × Obj)) (s:Shared) (σ:St) (H:Hp) (Q:Bool→Hp→Prop),ar X pins σ H s→t σ H Q→wpAny (model X.prog X.w) X.A (isTrue e X.env (eval e X.env)) (TP X pins σ Q) X.xe s
def PW(X:Cx)(e:Expr)(t:TT):Prop:=
  ∀(whole:Sem Value) (pins:List (Addr × Obj)) (s:Shared) (σ:St) (H:Hp) (Q:Bool→Hp→Prop),ar X pins σ H s→t σ H Q→wpAny (model X.prog X.w) X.A (isTrue e X.env whole) (TP X pins σ Q) X.xe s
theorem PW.pt{X:Cx}{e:Expr}{t:TT}(h:PW X e t):PT X e t:=h _
def PA(X:Cx)(es:List Expr)(t:TA):Prop:=
  ∀(pos:Pos) (pins:List (Addr × Obj)) (s:Shared) (σ:St) (H:Hp) (Q:List V→Hp→Prop),ar X pins σ H s→t σ H Q→wpAny (model X.prog X.w) X.A (spliced (backTo pos (starEach es X.env))) (AP X pins σ Q) X.xe s
def PS(X:Cx)(st:Stmt)(t:TS):Prop:=
  ∀(pins:List (Addr × Obj)) (s:Shared) (σ:St) (H:Hp) (D:oT),ar X pins σ H s→t D σ H→wpAny (model X.prog X.w) X.A (exec st X.env) (SP X pins D) X.xe s
def jB(X:Cx)(st:List Stmt)(t:TS):Prop:=
  ∀(pins:List (Addr × Obj)) (s:Shared) (σ:St) (H:Hp) (D:oT),ar X pins σ H s→t D σ H→wpAny (model X.prog X.w) X.A (execs st X.env) (SP X pins D) X.xe s
theorem bw{α:Type}{t:Sem α}{Q Q':α→Shared→Prop}{M:Model}{A:Around}{E:Value→Shared→Prop}{s:Shared}(h:wpAny M A t Q E s)(hQ:∀a s,Q a s→Q' a s):wpAny M A t Q' E s:=wpAny_mono h hQ fun _ _ x=>x
end L2
namespace L2
open PySem PySem.Spec PyProof.Rows
section
variable{X:Cx}
def Cr(i:Nat):TE:=fun σ H Q=>∃v,σ[i]?=some (some v)∧Q v H
def tC(v:V):TE:=fun _ H Q=>Q v H
theorem zK{i:Nat}{x:Str}{pos:Pos}(hN:X.N[i]?=some x)(hv:AV X.env.scope x)(hd:(x==("__debug__":Str))=false:=by decide)(hcd:(x==("__classdict__":Str))=false:=by decide):PE X (.Name x pos) (Cr i):=by
  intro pins s σ H Q I h
  obtain⟨v,e,h⟩:=h
  obtain⟨m,hn,hl⟩:=I.loc
  obtain⟨u,r,l⟩:=hl i x v hN e hv
  have fin:EP X pins σ Q u s:=⟨v,H,I,r,h⟩
  rcases l with ⟨hk,hm⟩ | ⟨hk,c,hc,hcell⟩
  · exact wpAny_Name (wpAny_loadName_local I.ok.kind hk hn hm fin) hd
  · rcases hk with hk | hk
    · exact wpAny_Name (wpAny_loadName_cell I.ok.kind hk hc hcell fin) hd
    · exact wpAny_Name (wpAny_loadName_free I.ok.kind hk hc hcell fin hcd) hd
theorem pw{i j pos}:PE X (.Constant (.int i) j pos) (tC (.int i)):=fun _ _ _ H _ I h=>wpAny_Constant_int ⟨.int i,H,I.tok _,⟨_,rfl⟩,h⟩
theorem BJ{b j pos}:PE X (.Constant (.bool b) j pos) (tC (.bl b)):=fun _ _ _ H _ I h=>Constant_bool ⟨.bl b,H,I,rfl,h⟩
theorem zF{j pos}:PE X (.Constant .none j pos) (tC .non):=fun _ _ _ H _ I h=>Constant_none ⟨.non,H,I,rfl,h⟩
theorem zI{x j pos}:PE X (.Constant (.str x) j pos) (tC (.str x)):=fun _ _ _ H _ I h=>Calls.Constant_str ⟨.str x,H,I.tok _,⟨_,rfl⟩,h⟩
def Gl(X:Cx)(x:Str):Prop:=X.env.kindOf x=some .globalImplicit
theorem wn{E:Value→Shared→Prop}{pins:List (Addr × Obj)}{s:Shared}{σ:St}{H:Hp}{x:Str}{u:Value}{pos:Pos}{Q:Value→Shared→Prop}(I:ar X pins σ H s)(hg:Gl X x)(hm:X.mg x=some u)(h:Q u s)
    (hd:(x==("__debug__":Str))=false:=by decide):wpAny (model X.prog X.w) X.A (eval (.Name x pos) X.env) Q E s:=
  Calls.Name_function_global I.ok.kind hg (Calls.loadGlobal_global (by rw [I.ok.glob];exact I.mod.glob.keeps I.bk) hm h) hd
theorem iQ{E:Value→Shared→Prop}{pins:List (Addr × Obj)}{s:Shared}{σ:St}{H:Hp}{x:Str}{u:Value}{pos:Pos}{Q:Value→Shared→Prop}(I:ar X pins σ H s)(hg:Gl X x)(hm:X.mg x=none)(hv:bootBuiltins x=some u)(h:Q u s)
    (hn:x≠"__name__":=by decide)(hd:(x==("__debug__":Str))=false:=by decide):wpAny (model X.prog X.w) X.A (eval (.Name x pos) X.env) Q E s:=by
  obtain⟨mb,h1,h2⟩:=I.mod.blt
  exact Calls.Name_function_global I.ok.kind hg (Calls.loadGlobal_builtin (by rw [I.ok.glob];exact I.mod.glob.keeps I.bk) hm (by rw [I.ok.blt];exact h1.keeps I.bk) ((h2 x hn).trans hv) h) hd
variable{a b:Expr}{ta tb:TE}{pos:Pos}
def tB(t:TE):TT:=fun σ H Q=>t σ H fun x H1=>∃c,x=.bl c∧Q c H1
theorem zT{e:Expr}{t:TE}(h:PE X e t)(he:∀whole,isTrue e X.env whole=(do let v ←whole;standAt e.pos;holding [v] (truthy v)):=by intro _;rfl):PT X e (tB t):=by
  intro pins s σ H Q I hw
  refine isTrue_plain (bw (h pins s σ H _ I hw) fun v s1 ⟨x,H1,I1,r1,q1⟩=>?_) (he _)
  obtain⟨d,rfl,q⟩:=q1
  cases r1
  exact wpAny_truthy_bool ⟨H1,I1,q⟩
variable{tA tB':TT}{dI:List Expr}
def Ce(t u:TT):TT:=fun σ H Q=>t σ H fun c H1=>if c=true then u σ H1 Q else Q false H1
def DU(t u:TT):TT:=fun σ H Q=>t σ H fun c H1=>if c=true then Q true H1 else u σ H1 Q
def Cm(t:TT):TT:=fun σ H Q=>t σ H fun c H1=>Q (!c) H1
theorem xo(ha:PT X a tA):PW X (.BoolOp .And [a] pos) tA:=by
  intro wh pins s σ H Q I h
  refine isTrue_and (bw (ha pins s σ H Q I h) fun c s1 e=>?_)
  cases c with
  | true=>exact isTrue_and_nil e
  | false=>exact e
theorem zV(ha:PT X a tA):PW X (.BoolOp .Or [a] pos) tA:=by
  intro wh pins s σ H Q I h
  refine isTrue_or (bw (ha pins s σ H Q I h) fun c s1 e=>?_)
  cases c with
  | false=>exact isTrue_or_nil e
  | true=>exact e
theorem zU(ha:PT X a tA)(hb:PW X (.BoolOp .And (b::dI) pos) tB'):PW X (.BoolOp .And (a::b::dI) pos) (Ce tA tB'):=by
  intro wh pins s σ H Q I h
  refine isTrue_and (bw (ha pins s σ H _ I h) fun c s1 ⟨H1,I1,q1⟩=>?_)
  cases c with
  | true=>exact hb wh pins s1 σ H1 Q I1 q1
  | false=>exact⟨H1,I1,q1⟩
theorem BR(ha:PT X a tA)(hb:PW X (.BoolOp .Or (b::dI) pos) tB'):PW X (.BoolOp .Or (a::b::dI) pos) (DU tA tB'):=by
  intro wh pins s σ H Q I h
  refine isTrue_or (bw (ha pins s σ H _ I h) fun c s1 ⟨H1,I1,q1⟩=>?_)
  cases c with
  | true=>exact⟨H1,I1,q1⟩
  | false=>exact hb wh pins s1 σ H1 Q I1 q1
theorem zS(ha:PT X a tA):PT X (.UnaryOp .Not a pos) (Cm tA):=by
  intro pins s σ H Q I h
  exact isTrue_not (ha pins s σ H (fun c H1=>Q (!c) H1) I h)
def Cf(ta tb:TE):TE:=fun σ H Q=>ta σ H fun x H1=>∃c,x=.bl c∧if c=true then tb σ H1 Q else Q (.bl false) H1
def Cn(ta:TE):TE:=fun σ H Q=>ta σ H fun x H1=>∃c,x=.bl c∧Q (.bl (!c)) H1
theorem zH{op}{t:TE}(h:PE X a t):PE X (.BoolOp op [a] pos) t:=fun pins s σ H Q I hw=>BoolOp_one (h pins s σ H Q I hw)
theorem zD(ha:PE X a ta)(hb:PE X (.BoolOp .And (b::dI) pos) tb):PE X (.BoolOp .And (a::b::dI) pos) (Cf ta tb):=by
  intro pins s σ H Q I h
  refine BoolOp_and (bw (ha pins s σ H _ I h) fun v s1 ⟨x,H1,I1,r1,q1⟩=>?_)
  obtain⟨c,rfl,q1⟩:=q1
  cases r1
  refine wpAny_truthy_bool ?_
  cases c with
  | true=>exact hb pins s1 σ H1 Q I1 q1
  | false=>exact⟨.bl false,H1,I1,rfl,q1⟩
theorem zG(ha:PE X a ta):PE X (.UnaryOp .Not a pos) (Cn ta):=by
  intro pins s σ H Q I h
  refine UnaryOp_ (bw (ha pins s σ H _ I h) fun v s1 ⟨x,H1,I1,r1,q1⟩=>?_)
  obtain⟨c,rfl,q1⟩:=q1
  cases r1
  exact not_of (wpAny_truthy_bool ⟨.bl (!c),H1,I1,rfl,q1⟩)
end
end L2
namespace L2
open PySem PySem.Spec PyProof.Rows
def fy(K:PySem.W.Frag)(H:Hp)(a:Addr)(xs:List V):Prop:=
  Rd H a (.lst xs)∨
    ∃(o:Obj) (its:Array Value) (n:Nat),K.lookup a=some o∧o.cls=.type "list"∧o.dict=none∧o.data=.seq its n∧its.size≤sizeLine∧aF xs its.toList
def cM(K:PySem.W.Frag)(H:Hp)(a:Addr)(xs:List V):Prop:=
  Rd H a (.tup xs)∨
    ∃(o:Obj) (its:Array Value) (n:Nat),K.lookup a=some o∧o.cls=.type "tuple"∧o.dict=none∧o.data=.seq its n∧its.size≤sizeLine∧aF xs its.toList
def C5:Value→Option V
  | .none=>some .non
  | .bool b=>some (.bl b)
  | .int i _=>some (.int i)
  | .str x _=>some (.str x)
  | .bytes b _=>some (.byt b)
  | .float b _=>some (.flt b)
  | .ref a=>some (.ref a)
  | .type n=>some (.ty n)
  | _=>none
theorem bf.abs{x:V}{u:Value}(r:bf x u):C5 u=some x:=by
  cases x with
  | non=>cases r;rfl
  | bl _=>cases r;rfl
  | int _=>obtain⟨t,rfl⟩:=r;rfl
  | str _=>obtain⟨t,rfl⟩:=r;rfl
  | byt _=>obtain⟨t,rfl⟩:=r;rfl
  | flt _=>obtain⟨t,rfl⟩:=r;rfl
  | ref _=>cases r;rfl
  | ty _=>cases r;rfl
theorem bf.inj{x y:V}{u:Value}(r:bf x u)(q:bf y u):x=y:=Option.some.inj (r.abs.symm.trans q.abs)
theorem aF.inj:∀{xs ys:List V} {us:List Value},aF xs us→aF ys us→xs=ys
  | _,_,_,.nil,.nil=>rfl
  | _,_,_,.cons r t,.cons r' t'=>by rw [r.inj r',aF.inj t t']
section
variable{X:Cx}{pins:List (Addr × Obj)}{σ:St}{H:Hp}{s:Shared}{a:Addr}{xs ys:List V}
theorem fy.of{K:PySem.W.Frag}(h:H a=some (.lst xs)):fy K H a xs:=.inl (.inl h)
theorem cM.of{K:PySem.W.Frag}(h:H a=some (.tup xs)):cM K H a xs:=.inl (.inl h)
theorem ar.list(I:ar X pins σ H s)(h:fy X.K H a xs):∃its:List Value,aF xs its∧PlainL s.heap a its.toArray∧xs.length≤sizeLine:=by
  rcases h with h | ⟨o,its,n,hk,hc,hd,hs,hz,r⟩
  · obtain⟨z,its,n,r,e⟩:=h.ok I.hok
    exact⟨its,r,⟨_,n,e,rfl,rfl,rfl⟩,z⟩
  · refine⟨its.toList,r,⟨o,n,I.kIn a o hk,hc,hd,by simpa using hs⟩,?_⟩
    have e:=r.length
    simp only [Array.length_toList] at e
    lia
theorem ar.tuple(I:ar X pins σ H s)(h:cM X.K H a xs):∃its:List Value,aF xs its∧IsTup s.heap a its.toArray∧xs.length≤sizeLine:=by
  rcases h with h | ⟨o,its,n,hk,hc,_,hs,hz,r⟩
  · obtain⟨z,its,r,p⟩:=h.ok I.hok
    exact⟨its,r,p.tup,z⟩
  · refine⟨its.toList,r,⟨o,I.kIn a o hk,hc,n,by simpa using hs⟩,?_⟩
    have e:=r.length
    simp only [Array.length_toList] at e
    lia
theorem ar.list_inj(I:ar X pins σ H s)(h:fy X.K H a xs)(h':fy X.K H a ys):xs=ys:=by
  obtain⟨its,r,⟨o,n,e,_,_,d⟩,_⟩:=I.list h
  obtain⟨its',r',⟨o',n',e',_,_,d'⟩,_⟩:=I.list h'
  rw [e] at e';cases e'
  rw [d] at d'
  injection d' with d1 _
  have:its=its':=by simpa using congrArg Array.toList d1
  subst this
  exact r.inj r'
theorem ar.tuple_inj(I:ar X pins σ H s)(h:cM X.K H a xs)(h':cM X.K H a ys):xs=ys:=by
  obtain⟨its,r,⟨o,e,_,n,d⟩,_⟩:=I.tuple h
  obtain⟨its',r',⟨o',e',_,n',d'⟩,_⟩:=I.tuple h'
  rw [e] at e';cases e'
  rw [d] at d'
  injection d' with d1 _
  have:its=its':=by simpa using congrArg Array.toList d1
  subst this
  exact r.inj r'
end
abbrev Cx.wish(X:Cx)(E:Value→Shared→Prop):Cx:={X with xe:=E}
abbrev Cx.nox(X:Cx):Cx:=X.wish fun _ _=>False
theorem Cx.Ok.wish{X:Cx}(ok:X.Ok)(E:Value→Shared→Prop):(X.wish E).Ok:=
  ⟨ok.mod,ok.kind,ok.glob,ok.blt,ok.above,ok.inj,ok.has,ok.cab,ok.hd,ok.frames,ok.stk,ok.exf,ok.bs,ok.bsz,ok.noex,ok.exfs,ok.funs,ok.frf⟩
theorem Cx.Ok.unwish{X:Cx}{E:Value→Shared→Prop}(ok:(X.wish E).Ok):X.Ok:=
  ⟨ok.mod,ok.kind,ok.glob,ok.blt,ok.above,ok.inj,ok.has,ok.cab,ok.hd,ok.frames,ok.stk,ok.exf,ok.bs,ok.bsz,ok.noex,ok.exfs,ok.funs,ok.frf⟩
section
variable{X:Cx}{pins:List (Addr × Obj)}{σ:St}{H:Hp}{s:Shared}{E:Value→Shared→Prop}
theorem ar.wish(I:ar X pins σ H s)(E:Value→Shared→Prop):ar (X.wish E) pins σ H s:=⟨I.ok.wish E,I.os,I.bare,I.base,I.loc,I.cell,I.free,I.freeC,I.pin,I.hok,I.len⟩
theorem ar.unwish(I:ar (X.wish E) pins σ H s):ar X pins σ H s:=⟨I.ok.unwish,I.os,I.bare,I.base,I.loc,I.cell,I.free,I.freeC,I.pin,I.hok,I.len⟩
theorem SP.unwish{D:oT}{f:Flow}{s':Shared}(h:SP (X.wish E) pins D f s'):SP X pins D f s':=by
  cases f with
  | next=>obtain⟨σ',H',I,q⟩:=h;exact⟨σ',H',I.unwish,q⟩
  | brk=>obtain⟨σ',H',I,q⟩:=h;exact⟨σ',H',I.unwish,q⟩
  | cont=>obtain⟨σ',H',I,q⟩:=h;exact⟨σ',H',I.unwish,q⟩
  | ret u=>obtain⟨v,σ',H',I,r,q⟩:=h;exact⟨v,σ',H',I.unwish,r,q⟩
theorem jB.nox{st:List Stmt}{t:TS}(h:jB X.nox st t):jB X st t:=fun pins s σ H D I hw=>
  wpAny_mono (h pins s σ H D (I.wish _) hw) (fun _ _ q=>q.unwish) fun _ _ z=>False.elim z
end
section
variable{X:Cx}{st:Stmt}{dI:List Stmt}{t u:TS}{e:Expr}{te:TE}{pos:Pos}
def Ck:TS:=fun D σ H=>D.nx σ H
def DB(t u:TS):TS:=fun D σ H=>t {D with nx:=u D} σ H
theorem xj:jB X [] Ck:=fun _ _ σ H _ I h=>wpAny_execs_nil ⟨σ,H,I,h⟩
theorem uG(h1:PS X st t)(h2:jB X dI u):jB X (st::dI) (DB t u):=by
  intro pins s σ H D I h
  refine wpAny_execs_cons (bw (h1 pins s σ H {D with nx:=u D} I h) fun f s1 q=>?_)
  cases f with
  | next=>
    obtain⟨σ',H',I',q⟩:=q
    exact h2 pins s1 σ' H' D I' q
  | ret v=>exact q
  | brk=>exact q
  | cont=>exact q
theorem xk(h1:PS X st t):jB X [st] t:=by
  intro pins s σ H D I h
  refine wpAny_execs_cons (bw (h1 pins s σ H D I h) fun f s1 q=>?_)
  cases f with
  | next=>exact wpAny_execs_nil q
  | ret v=>exact q
  | brk=>exact q
  | cont=>exact q
theorem ar.quiet{pins:List (Addr × Obj)}{σ:St}{H:Hp}{s:Shared}(I:ar X pins σ H s):interactive X.env=false:=by simp [interactive,I.ok.kind]
def Ci(te:TE):TS:=fun D σ H=>te σ H fun _ H1=>D.nx σ H1
theorem xi(he:PE X e te)(hs:swapsWith e none pos.line X.env=pure false:=by rfl):PS X (.Expr e pos) (Ci te):=by
  intro pins s σ H D I h
  exact wpAny_Expr_any (bw (he pins s σ H _ I h) fun v s1 ⟨x,H1,I1,r1,q1⟩=>⟨σ,H1,I1,q1⟩) I.quiet hs
def Dz(te:TE):TS:=fun D σ H=>te σ H D.rt
theorem zQ(he:PE X e te):PS X (.Return (some e) pos) (Dz te):=by
  intro pins s σ H D I h
  exact wpAny_Return_some (bw (he pins s σ H _ I h) fun v s1 ⟨x,H1,I1,r1,q1⟩=>⟨x,σ,H1,I1,r1,q1⟩)
def Dv(c:TT)(t u:TS):TS:=fun D σ H=>c σ H fun b H1=>if b=true then t D σ H1 else u D σ H1
theorem BQ{c:Expr}{a b:List Stmt}{tc:TT}(hc:PT X c tc)(ha:jB X a t)(hb:jB X b u):PS X (.If c a b pos) (Dv tc t u):=by
  intro pins s σ H D I h
  refine wpAny_If (bw (hc pins s σ H _ I h) fun d s1 ⟨H1,I1,q1⟩=>?_)
  cases d with
  | true=>exact ha pins s1 σ H1 D I1 q1
  | false=>exact hb pins s1 σ H1 D I1 q1
end
abbrev TG:=V→St→Hp→(St→Hp→Prop)→Prop
abbrev vA:=List V→St→Hp→(St→Hp→Prop)→Prop
def PG(X:Cx)(target:Expr)(t:TG):Prop:=
  ∀(pins:List (Addr × Obj)) (s:Shared) (σ:St) (H:Hp) (v:V) (u:Value) (Q:St→Hp→Prop),ar X pins σ H s→bf v u→t v σ H Q→
    wpAny (model X.prog X.w) X.A (assign target X.env u) (fun _ s'=>∃σ' H',ar X pins σ' H' s'∧Q σ' H') X.xe s
def se(X:Cx)(ts:List Expr)(t:vA):Prop:=
  ∀(pins:List (Addr × Obj)) (s:Shared) (σ:St) (H:Hp) (vs:List V) (us:List Value) (Q:St→Hp→Prop),ar X pins σ H s→aF vs us→t vs σ H Q→
    wpAny (model X.prog X.w) X.A (assignInOrder ((assignEach ts X.env).map (·.2)) us) (fun _ s'=>∃σ' H',ar X pins σ' H' s'∧Q σ' H') X.xe s
section
variable{X:Cx}{pos:Pos}
def tJ(i:Nat):TG:=fun v σ H Q=>Q (σ.set i (some v)) H
theorem wX{i:Nat}{x:Str}(hN:X.N.Nodup)(hi:X.N[i]?=some x)(hx:AE X.env.scope x)(hf:X.fn x=true∨X.env.scope.names.lookup x=some .local:=by first | exact .inl rfl | exact .inr rfl | assumption):PG X (.Name x pos) (tJ i):=by
  intro pins s σ H v u Q I r h
  exact wpAny_assign_Name (iH I hN hi hx r (fun s' I'=>⟨_,H,I',h⟩) hf)
def C8:vA:=fun vs σ H Q=>vs=[]∧Q σ H
def Bf(t:TG)(u:vA):vA:=fun vs σ H Q=>∃v r,vs=v::r∧t v σ H fun σ' H'=>u r σ' H' Q
theorem wZ:se X [] C8:=by
  intro pins s σ H vs us Q I r h
  obtain⟨e,h⟩:=h
  subst e
  cases r
  exact assignInOrder_nil ⟨σ,H,I,h⟩
theorem ux{e:Expr}{es:List Expr}{t:TG}{u:vA}(h1:PG X e t)(h2:se X es u)
    (hs:(assignEach (e::es) X.env).map (·.2)=assign e X.env::(assignEach es X.env).map (·.2):=by rfl):se X (e::es) (Bf t u):=by
  intro pins s σ H vs us Q I r h
  obtain⟨v,vr,e1,h⟩:=h
  subst e1
  cases r with
  | cons r rr=>
    rw [hs]
    refine assignInOrder_cons (bw (h1 pins s σ H _ _ _ I r h) fun _ s1 ⟨σ1,H1,I1,q1⟩=>?_)
    exact h2 pins s1 σ1 H1 _ _ Q I1 rr q1
def tP(K:PySem.W.Frag)(n:Nat)(t:vA):TG:=fun v σ H Q=>∃a xs,v=.ref a∧cM K H a xs∧xs.length=n∧t xs σ H Q
theorem zL{es:List Expr}{k:Nat}{t:vA}{n:Nat}(hc:X.calm=true)(h:se X es t)
    (hn:(assignEach es X.env).length=n:=by rfl)(hst:(assignEach es X.env).findIdx? (·.1)=none:=by rfl):PG X (.Tuple es k pos) (tP X.K n t):=by
  intro pins s σ H v u Q I r hw
  obtain⟨a,xs,e1,hq,hl,hw⟩:=hw
  subst e1
  cases r
  obtain⟨its,rv,ht,hz⟩:=I.tuple hq
  refine assign_Tuple_tuple (I.ok.hd hc) ht (by simp [hn,←hl,rv.length]) hst fun h' hx=>?_
  have I1:ar X pins σ H {s with heap:=h'}:=I.kept (t':=s.toks) fun b o e=>hx b o (Nat.ne_of_lt (Heap.lt_size e)) e
  exact h pins _ σ H xs _ Q I1 (by simpa using rv) hw
def Al(te:TE)(g:TG):TS:=fun D σ H=>te σ H fun x H1=>g x σ H1 D.nx
theorem zN{tg e:Expr}{te:TE}{g:TG}(he:PE X e te)(hg:PG X tg g)(hs:swapsWithSole [tg] e pos.line X.env=pure false:=by rfl)(hw:swappedStores [tg] e X.env=pure none:=by rfl)
    (h1:(assignEach [tg] X.env).map (·.2)=[assign tg X.env]:=by rfl):PS X (.Assign [tg] e pos) (Al te g):=by
  intro pins s σ H D I h
  refine wpAny_Assign_stores (bw (he pins s σ H _ I h) fun v s1 ⟨x,H1,I1,r1,q1⟩=>?_) hs hw
  rw [h1]
  exact bw (hg pins s1 σ H1 x v _ I1 r1 q1) fun _ s2 q=>q
theorem zR{i:Nat}{x:Str}{e:Expr}{te:TE}{pos':Pos}(hN:X.N.Nodup)(hi:X.N[i]?=some x)(hx:AE X.env.scope x)(he:PE X e te)(hs:swapsWith e (some (.Name x pos')) pos.line X.env=pure false:=by rfl)(hf:X.fn x=true∨X.env.scope.names.lookup x=some .local:=by first | exact .inl rfl | exact .inr rfl | assumption):
    PS X (.Assign [.Name x pos'] e pos) (Al te (tJ i)):=by
  intro pins s σ H D I h
  refine wpAny_Assign_Name (bw (he pins s σ H _ I h) fun v s1 ⟨y,H1,I1,r1,q1⟩=>?_) hs
  exact iH I1 hN hi hx r1 (fun s2 I2=>⟨_,H1,I2,q1⟩) hf
def Dy(i j:Nat)(ta:TA):TS:=fun D σ H=>ta σ H fun vs H1=>∃v w,vs=[v,w]∧D.nx ((σ.set i (some v)).set j (some w)) H1
theorem zP{i j:Nat}{x y:Str}{a b:Expr}{ta:TA}{px py pt:Pos}{kt k2 pt2}(hc:X.calm=true)(hN:X.N.Nodup)(hi:X.N[i]?=some x)(hj:X.N[j]?=some y)(hij:i≠j)
    (hx:X.env.scope.names.lookup x=some .local)(hy:X.env.scope.names.lookup y=some .local)(ha:PA X [a,b] ta)
    (hw:swappedStores [.Tuple [.Name x px,.Name y py] kt pt] (.Tuple [a,b] k2 pt2) X.env=pure (some [x,y]))
    (hs:swapsWithSole [.Tuple [.Name x px,.Name y py] kt pt] (.Tuple [a,b] k2 pt2) pos.line X.env=pure false:=by rfl):
    PS X (.Assign [.Tuple [.Name x px,.Name y py] kt pt] (.Tuple [a,b] k2 pt2) pos) (Dy i j ta):=by
  intro pins s σ H D I h
  rw [exec_Assign_arm]
  refine wpAny_bind (wpAny_standAt ?_)
  rw [hs]
  refine wpAny_bind (wpAny_pure ?_)
  rw [if_neg (by decide)]
  refine wpAny_bind (Tuple_ (bw (ha _ pins s σ H _ I h) fun us s1 ⟨vs,H1,I1,r1,q1⟩=>?_))
  obtain⟨v,w,e1,q1⟩:=q1
  subst e1
  obtain⟨u1,u2,rfl,rv,rw'⟩:∃u1 u2,us=[u1,u2]∧bf v u1∧bf w u2:=by
    cases r1 with
    | cons p q=>
      cases q with
      | cons p' q'=>
        cases q'
        exact⟨_,_,rfl,p,p'⟩
  refine wpAny_newObj_type ?_ (by show 2≤sizeLine;decide)
  have I2:ar X pins σ H1 {s1 with heap:=s1.heap.push {cls:=.type "tuple",data:=.seq [u1,u2].toArray}}:=I1.kept (t':=s1.toks) fun b o e=>Heap.get?_push_of_some _ e
  rw [hw]
  refine wpAny_bind (wpAny_pure ?_)
  show wpAny (model X.prog X.w) X.A (do rule "assign.swapped-stores";let items ←unpackItems (.ref s1.heap.objs.size) 2 none;assignInOrder [fun v=>bindName X.env y v,fun v=>bindName X.env x v] items.reverse;pure Flow.next) _ _ _
  refine wpAny_bind (wpAny_rule (wpAny_bind (unpackItems_tuple (items:=#[u1,u2]) (I.ok.hd hc) (IsTup.new s1.heap _) fun h' hx'=>?_)))
  have I3:=I2.kept (h':=h') (t':=s1.toks) fun b o e=>hx' b o (Nat.ne_of_lt (Heap.lt_size e)) e
  show wpAny _ _ (assignInOrder [fun v=>bindName X.env y v,fun v=>bindName X.env x v] [u2,u1] >>= fun _=>pure Flow.next) _ _ _
  refine wpAny_bind (assignInOrder_cons (wpAny_bindName (iH I3 hN hj (.inl hy) rw' (fun s2 I4=>?_) (.inr hy))))
  refine assignInOrder_cons (wpAny_bindName (iH I4 hN hi (.inl hx) rv (fun s3 I5=>assignInOrder_nil (wpAny_pure ?_)) (.inr hx)))
  rw [List.set_comm _ _ (Ne.symm hij)] at I5
  exact⟨_,H1,I5,q1⟩
end
section
variable{X:Cx}{pos:Pos}
def An(c:TT)(tb:TS):TS:=fun D σ H=>∃W:Nat→St→Hp→Prop,(∃m,W m σ H)∧∀m σ H,W m σ H→
  c σ H fun b H1=>if b=true then ∃N:St→Hp→Prop,(∀σ' H',N σ' H'→∃m',m' < m∧W m' σ' H')∧tb {D with nx:=N,ct:=N,bk:=D.nx} σ H1 else D.nx σ H1
theorem uF{c:Expr}{body:List Stmt}{tc:TT}{tb:TS}(hp:PassesOwn (model X.prog X.w) X.A X.env X.xe)(hc:PT X c tc)(hb:jB X body tb):PS X (.While c body [] pos) (An tc tb):=by
  intro pins s σ H D I h
  obtain⟨W,⟨m0,w0⟩,turn⟩:=h
  refine wpAny_While (codeAny_whileLoop (fun n s'=>∃σ' H',ar X pins σ' H' s'∧W n σ' H') ?_ m0 ⟨σ,H,I,w0⟩)
  rintro n s1 ⟨σ1,H1,I1,w1⟩
  refine wpAny_passesOwn hp (bw (hc pins s1 σ1 H1 _ I1 (turn n σ1 H1 w1)) fun b s2 ⟨H2,I2,q2⟩=>?_)
  cases b with
  | true=>
    obtain⟨N,hN,q2⟩:=q2
    rw [if_pos rfl]
    refine wpAny_passesOwn hp (bw (hb pins s2 σ1 H2 _ I2 q2) fun f s3 q3=>?_)
    cases f with
    | next=>
      obtain⟨σ3,H3,I3,n3⟩:=q3
      obtain⟨m',hm,w3⟩:=hN σ3 H3 n3
      exact⟨m',hm,σ3,H3,I3,w3⟩
    | cont=>
      obtain⟨σ3,H3,I3,n3⟩:=q3
      obtain⟨m',hm,w3⟩:=hN σ3 H3 n3
      exact⟨m',hm,σ3,H3,I3,w3⟩
    | brk=>exact q3
    | ret v=>exact q3
  | false=>
    rw [if_neg Bool.false_ne_true]
    exact wpAny_execs_nil ⟨σ1,H2,I2,q2⟩
end
structure It where
  go:Nat→Hp→Prop
  yld:Nat→Hp→V→Hp→Prop
  stop:Nat→Hp→Prop
def iI(X:Cx)(pins:List (Addr × Obj))(H:Hp)(b:Addr):Prop:=
  H b=none∧b≠X.env.locals∧b∉X.fs∧(b∈X.ex∨X.s₀.heap.objs.size≤b)∧(∀x c,X.env.cells.lookup x=some c→c≠b)∧∀p∈X.pn++pins,p.1≠b
theorem ar.fpOk{X:Cx}{pins:List (Addr × Obj)}{σ:St}{H H':Hp}{s:Shared}{b:Addr}(I:ar X pins σ H s)(hb:s.heap.objs.size≤b)(hn:H' b=none):iI X pins H' b:=by
  refine⟨hn,Nat.ne_of_gt (Nat.lt_of_lt_of_le I.lt hb),I.nofs hb,.inr (Nat.le_trans I.sz hb),fun x c e z=>?_,fun p hp z=>?_⟩
  · obtain⟨v,q⟩:=I.cell x c e
    exact absurd (Nat.lt_of_lt_of_le q.lt (by rw [z];exact hb)) (Nat.lt_irrefl _)
  · exact absurd (Nat.lt_of_lt_of_le (Heap.lt_size (I.pin p hp).1) (by rw [z];exact hb)) (Nat.lt_irrefl _)
structure vI (P:Program) (w:World) (K:PySem.W.Frag) (tg:Expr) (J:It) (fp:List Addr) (it:Addr) (tn:Nat→Heap→Prop):Prop where
  mem:it∈fp
  obj:∀i h,tn i h→∀b∈fp,∃o,h.get? b=some o∧∀v,o.data≠.cell v
  keep:∀i h h',tn i h→(∀b∈fp,∀o,h.get? b=some o→h'.get? b=some o)→tn i h'
  item:∀(X:Cx),X.prog=P→X.w=w→X.K=K→X.calm=true→∀(i:Nat) (pins:List (Addr × Obj)) (s:Shared) (σ:St) (H:Hp) (E:Value→Shared→Prop),ar X pins σ H s→(∀b∈fp,iI X pins H b)→tn i s.heap→J.go i H→
    wpAny (model P w) X.A (pyNext (.ref it)) (fun r s1=>∃u,r=some u∧
      wpAny (model P w) X.A (letOwnedTupleGo tg (.ref it) u) (fun _ s2=>∃x H',ar X pins σ H' s2∧bf x u∧J.yld i H x H'∧tn (i+1) s2.heap∧∀b∈fp,H' b=none) E s1) E s
  done:∀(X:Cx),X.prog=P→X.w=w→X.K=K→X.calm=true→∀(i:Nat) (pins:List (Addr × Obj)) (s:Shared) (σ:St) (H:Hp) (E:Value→Shared→Prop),ar X pins σ H s→(∀b∈fp,iI X pins H b)→tn i s.heap→J.stop i H→
    wpAny (model P w) X.A (pyNext (.ref it)) (fun r s1=>r=none∧ar X pins σ H s1) E s
  self:∀(A:Around) (i:Nat) (s:Shared) (Q:Value→Shared→Prop) (E:Value→Shared→Prop),tn i s.heap→Q (.ref it) s→wpAny (model P w) A (pyIter (.ref it)) Q E s
abbrev TI:=St→Hp→(It→Hp→Prop)→Prop
def DK(X:Cx)(pins:List (Addr × Obj))(σ:St)(tg:Expr)(R:It→Hp→Prop)(itv:Value)(s2:Shared):Prop:=
  ∃(it:Addr) (fp:List Addr) (tn:Nat→Heap→Prop) (J:It) (H':Hp),itv=.ref it∧ar X pins σ H' s2∧vI X.prog X.w X.K tg J fp it tn∧tn 0 s2.heap∧(∀b∈fp,iI X pins H' b)∧R J H'
def PI(X:Cx)(tg iter:Expr)(wi:TI):Prop:=
  ∀(pins:List (Addr × Obj)) (s:Shared) (σ:St) (H:Hp) (R:It→Hp→Prop),ar X pins σ H s→wi σ H R→
    wpAny (model X.prog X.w) X.A (eval iter X.env) (fun v s1=>wpAny (model X.prog X.w) X.A (pyIter v) (DK X pins σ tg R) X.xe s1) X.xe s
theorem tR{M:Model}{A:Around}{E:Value→Shared→Prop}{s:Shared}{tg:Expr}{it:Addr}{u:Value}{o:Obj}{n:String}{vs:Array Value}{Q:Unit→Shared→Prop}(ho:s.heap.get? it=some o)(hc:o.cls=.type n)(hd:o.data=.fields vs)
    (hn:["enumerate","zip","dict_itemiterator","dict_reverseitemiterator","odict_iterator","itertools.zip_longest","itertools.pairwise"].contains n=false)(hQ:Q () s):wpAny M A (letOwnedTupleGo tg (.ref it) u) Q E s:=by
  unfold letOwnedTupleGo
  cases tg<;>first
    | exact wpAny_pure hQ
    | (cases u<;>first
        | exact wpAny_pure hQ
        | (refine wpAny_bind (wpAny_load ho ?_)
           rw [hc,hd]
           show wpAny M A (if (["enumerate","zip","dict_itemiterator","dict_reverseitemiterator","odict_iterator","itertools.zip_longest","itertools.pairwise"].contains n&&vs[0]?==some (rawInt _))=true then _ else _) Q E s
           rw [if_neg (by intro h;rw [hn,Bool.false_and] at h;cases h)]
           exact wpAny_pure hQ))
def CU(K:PySem.W.Frag)(a:Addr):It:=
  ⟨fun i H=>∃xs x,fy K H a xs∧xs[i]?=some x,fun i H x H'=>H'=H∧∀xs,fy K H a xs→xs[i]?=some x,fun i H=>∃xs,fy K H a xs∧xs.length≤i⟩
def CV(K:PySem.W.Frag)(a:Addr):It:=
  ⟨fun i H=>∃xs x,cM K H a xs∧xs[i]?=some x,fun i H x H'=>H'=H∧∀xs,cM K H a xs→xs[i]?=some x,fun i H=>∃xs,cM K H a xs∧xs.length≤i⟩
def CB(lo:Int)(n:Nat):It:=⟨fun i _=>i < n,fun i H x H'=>H'=H∧x=.int (lo+i),fun i _=>n≤i⟩
theorem r6{P:Program}{w:World}{K:PySem.W.Frag}{tg:Expr}(a it:Addr):vI P w K tg (CU K a) [it] it (fun i h=>h.IsListIter it a i) where
  mem:=by simp
  obj:=fun i h st b hb=>by
    have e:b=it:=by simpa using hb
    subst e
    obtain⟨o,e,c,d⟩:=st
    exact⟨o,e,fun v z=>by rw [d] at z;cases z⟩
  keep:=fun i h h' st k=>st.at fun o e=>k it (by simp) o e
  item:=by
    intro X hP hw hK hc i pins s σ H E I hf st hg
    subst hP hw hK
    obtain⟨xs,x,hq,hx⟩:=hg
    obtain⟨its,rv,p,hz⟩:=I.list hq
    obtain⟨u,hu,ru⟩:=rv.get hx
    obtain⟨f0,f1,f2,f3,f4,f5⟩:=hf it (by simp)
    refine wpAny_pyNext_list_item st p.isList (x:=u) (by simpa using hu) fun h' st' sb=>?_
    have I1:ar X pins σ H {s with heap:=h'}:=I.turned (t':=s.toks) (fun b o hb e=>(sb.2 b hb).trans e) f0 f1 f3 f4 f5
    obtain⟨o,e,c,d⟩:=id st'
    exact⟨u,rfl,tR (s:={s with heap:=h'}) e c d (by decide) ⟨x,H,I1,ru,⟨rfl,fun ys hy=>by rw [I.list_inj hy hq];exact hx⟩,st',fun b hb=>(hf b hb).1⟩⟩
  done:=by
    intro X hP hw hK hc i pins s σ H E I hf st hg
    subst hP hw hK
    obtain⟨xs,hq,hx⟩:=hg
    obtain⟨its,rv,p,hz⟩:=I.list hq
    obtain⟨f0,f1,f2,f3,f4,f5⟩:=hf it (by simp)
    have hl:=rv.length
    exact wpAny_pyNext_list_end (I.ok.hd hc) st p.isList (by simp;lia) fun h' eb=>⟨rfl,I.turned (t':=s.toks) (fun b o hb e=>eb b o hb e) f0 f1 f3 f4 f5⟩
  self:=fun _ _ _ _ _ st h=>wpAny_pyIter_listiter st h
theorem pR{P:Program}{w:World}{K:PySem.W.Frag}{tg:Expr}(a it:Addr):vI P w K tg (CV K a) [it] it (fun i h=>h.IsTupleIter it a i) where
  mem:=by simp
  obj:=fun i h st b hb=>by
    have e:b=it:=by simpa using hb
    subst e
    obtain⟨o,e,c,d⟩:=st
    exact⟨o,e,fun v z=>by rw [d] at z;cases z⟩
  keep:=fun i h h' st k=>st.at fun o e=>k it (by simp) o e
  item:=by
    intro X hP hw hK hc i pins s σ H E I hf st hg
    subst hP hw hK
    obtain⟨xs,x,hq,hx⟩:=hg
    obtain⟨its,rv,p,hz⟩:=I.tuple hq
    obtain⟨u,hu,ru⟩:=rv.get hx
    obtain⟨f0,f1,f2,f3,f4,f5⟩:=hf it (by simp)
    refine wpAny_pyNext_tuple_item st (show s.heap.IsTuple a its.toArray from p) (x:=u) (by simpa using hu) fun h' st' sb=>?_
    have I1:ar X pins σ H {s with heap:=h'}:=I.turned (t':=s.toks) (fun b o hb e=>(sb.2 b hb).trans e) f0 f1 f3 f4 f5
    obtain⟨o,e,c,d⟩:=id st'
    exact⟨u,rfl,tR (s:={s with heap:=h'}) e c d (by decide) ⟨x,H,I1,ru,⟨rfl,fun ys hy=>by rw [I.tuple_inj hy hq];exact hx⟩,st',fun b hb=>(hf b hb).1⟩⟩
  done:=by
    intro X hP hw hK hc i pins s σ H E I hf st hg
    subst hP hw hK
    obtain⟨xs,hq,hx⟩:=hg
    obtain⟨its,rv,p,hz⟩:=I.tuple hq
    obtain⟨f0,f1,f2,f3,f4,f5⟩:=hf it (by simp)
    have hl:=rv.length
    exact wpAny_pyNext_tuple_end (I.ok.hd hc) st (show s.heap.IsTuple a its.toArray from p) (by simp;lia) fun h' eb=>⟨rfl,I.turned (t':=s.toks) (fun b o hb e=>eb b o hb e) f0 f1 f3 f4 f5⟩
  self:=fun _ _ _ _ _ st h=>wpAny_pyIter_tupleiter st h
theorem pQ{P:Program}{w:World}{K:PySem.W.Frag}{tg:Expr}(it:Addr)(lo:Int)(n:Nat):vI P w K tg (CB lo n) [it] it (fun i h=>IsRangeIter h it (lo+(i:Nat)*1) ((n:Int) - (i:Nat)) 1) where
  mem:=by simp
  obj:=fun i h st b hb=>by
    have e:b=it:=by simpa using hb
    subst e
    exact⟨_,st,fun v z=>by
      have z':Data.fields _=Data.cell v:=z
      cases z'⟩
  keep:=fun i h h' st k=>k it (by simp) _ st
  item:=by
    intro X hP hw hK hc i pins s σ H E I hf st hg
    subst hP hw hK
    obtain⟨f0,f1,f2,f3,f4,f5⟩:=hf it (by simp)
    have W:=Walks.range (prog:=X.prog) (w:=X.w) (I.ok.hd hc) it lo 1 n
    refine W.item i s _ _ hg st fun v h' tk hv st' kk=>?_
    obtain⟨t,rfl⟩:=hv
    have I1:ar X pins σ H {s with heap:=h',toks:=tk}:=I.turned (fun b o hb e=>kk b o (by simpa using hb) e) f0 f1 f3 f4 f5
    refine⟨_,rfl,tR (s:={s with heap:=h',toks:=tk}) (n:="range_iterator") st' rfl rfl (by decide) ⟨.int (lo+i),H,I1,⟨t,?_⟩,⟨rfl,rfl⟩,st',fun b hb=>(hf b hb).1⟩⟩
    rw [Int.mul_one]
  done:=by
    intro X hP hw hK hc i pins s σ H E I hf st hg
    subst hP hw hK
    obtain⟨f0,f1,f2,f3,f4,f5⟩:=hf it (by simp)
    exact wpAny_pyNext_range_end (I.ok.hd hc) st (by have:n≤i:=hg;lia) fun h' eb=>⟨rfl,I.turned (t':=s.toks) (fun b o hb e=>eb b o hb e) f0 f1 f3 f4 f5⟩
  self:=fun _ _ _ _ _ st h=>wpAny_pyIter_rangeiter st h
end L2
namespace L2
open PySem PySem.Spec PyProof.Rows
section
variable{X:Cx}{tg:Expr}
def yo(K:PySem.W.Frag)(tl:TE):TI:=fun σ H R=>tl σ H fun x H1=>∃a,x=.ref a∧(∃xs,fy K H1 a xs)∧R (CU K a) H1
def Bj(K:PySem.W.Frag)(tl:TE):TI:=fun σ H R=>tl σ H fun x H1=>∃a,x=.ref a∧(∃xs,cM K H1 a xs)∧R (CV K a) H1
theorem w_{l:Expr}{tl:TE}(hl:PE X l tl):PI X tg l (yo X.K tl):=by
  intro pins s σ H R I h
  refine bw (hl pins s σ H _ I h) fun v s1 ⟨x,H1,I1,r1,q1⟩=>?_
  obtain⟨a,e,⟨xs,hq⟩,q⟩:=q1
  subst e
  cases r1
  obtain⟨its,rv,p,hz⟩:=I1.list hq
  refine wpAny_pyIter_list p.isList ?_
  refine⟨s1.heap.objs.size,[s1.heap.objs.size],_,_,H1,rfl,I1.kept (t':=s1.toks) fun b o e=>Heap.get?_push_of_some _ e,r6 a _,⟨_,Heap.get?_push_size _ rfl,rfl,rfl⟩,fun b hb=>?_,q⟩
  have e:b=s1.heap.objs.size:=by simpa using hb
  subst e
  exact I1.fpOk (Nat.le_refl _) (I1.hok.fresh (Nat.le_refl _))
theorem zM{l:Expr}{tl:TE}(hl:PE X l tl):PI X tg l (Bj X.K tl):=by
  intro pins s σ H R I h
  refine bw (hl pins s σ H _ I h) fun v s1 ⟨x,H1,I1,r1,q1⟩=>?_
  obtain⟨a,e,⟨xs,hq⟩,q⟩:=q1
  subst e
  cases r1
  obtain⟨its,rv,p,hz⟩:=I1.tuple hq
  refine wpAny_pyIter_tuple (show s1.heap.IsTuple a its.toArray from p) ?_
  refine⟨s1.heap.objs.size,[s1.heap.objs.size],_,_,H1,rfl,I1.kept (t':=s1.toks) fun b o e=>Heap.get?_push_of_some _ e,pR a _,⟨_,Heap.get?_push_size _ rfl,rfl,rfl⟩,fun b hb=>?_,q⟩
  have e:b=s1.heap.objs.size:=by simpa using hb
  subst e
  exact I1.fpOk (Nat.le_refl _) (I1.hok.fresh (Nat.le_refl _))
theorem uX{pins:List (Addr × Obj)}{σ:St}{H:Hp}{s:Shared}{R:It→Hp→Prop}{E:Value→Shared→Prop}{lo hi:Int}{t u v:Tok}{tk:Nat}(I:ar X pins σ H s)(h1: -(2 ^ 62)≤lo)(h2:lo < 2 ^ 62)(h3: -(2 ^ 62)≤hi)(h4:hi < 2 ^ 62)
    (q:R (CB lo (hi - lo).toNat) H):wpAny (model X.prog X.w) X.A (pyIter (.ref s.heap.objs.size)) (DK X pins σ tg R) E {s with heap:=s.heap.push {cls:=.type "range",data:=.fields #[.int lo t,.int hi u,.int 1 v]},toks:=tk}:=by
  refine wpAny_pyIter_range (IsRange.new ..) (small_one h1 h2 h3 h4) ?_
  have I1:ar X pins σ H {s with heap:=s.heap.push {cls:=.type "range",data:=.fields #[.int lo t,.int hi u,.int 1 v]},toks:=tk}:=I.kept fun b o e=>Heap.get?_push_of_some _ e
  refine⟨(s.heap.push {cls:=.type "range",data:=.fields #[.int lo t,.int hi u,.int 1 v]}).objs.size,[(s.heap.push {cls:=.type "range",data:=.fields #[.int lo t,.int hi u,.int 1 v]}).objs.size],_,_,H,rfl,
    I1.kept (t':=tk) fun b o e=>Heap.get?_push_of_some _ e,pQ _ lo (hi - lo).toNat,?_,fun b hb=>?_,q⟩
  · have e1:lo+((0:Nat):Int)*1=lo:=by simp
    have e2:(((hi - lo).toNat:Nat):Int) - ((0:Nat):Int)=Builtin.Range.rangeSize lo hi 1:=by rw [rangeSize_one];split<;>lia
    show IsRangeIter _ _ (lo+((0:Nat):Int)*1) ((((hi - lo).toNat:Nat):Int) - ((0:Nat):Int)) 1
    rw [e1,e2]
    exact Heap.get?_push_size _ rfl
  · have e:b=(s.heap.push {cls:=.type "range",data:=.fields #[.int lo t,.int hi u,.int 1 v]}).objs.size:=by simpa using hb
    subst e
    exact I1.fpOk (Nat.le_refl _) (I1.hok.fresh (Nat.le_refl _))
def Bi(ta:TA):TI:=fun σ H R=>ta σ H fun vs H1=>∃j:Int,vs=[.int j]∧ -(2 ^ 62)≤j∧j < 2 ^ 62∧R (CB 0 j.toNat) H1
theorem rM{a:Expr}{ta:TA}{p pos:Pos}(hg:Gl X "range")(hm:X.mg "range"=none)(ha:PA X [a] ta)(hs:starEach [a] X.env=[(false,eval a X.env)]:=by rfl):PI X tg (.Call (.Name "range" p) [a] [] pos) (Bi ta):=by
  intro pins s σ H R I h
  refine Call_ (iQ I hg hm boot_range (PyProof.Rows.callWith_type1 (bw (ha pos pins s σ H _ I h) fun us s1 ⟨vs,H1,I1,r1,q1⟩=>?_) hs rfl))
  obtain⟨j,e,q1,q2,q⟩:=q1
  subst e
  cases r1 with
  | cons r rr=>
    cases rr
    obtain⟨t,rfl⟩:=r
    exact call_range_1 (uX I1 (by lia) (by lia) q1 q2 (by simpa using q))
def Du(wi:TI)(g:TG)(tb:TS):TS:=fun D σ H=>wi σ H fun J H1=>∃W:Nat→Nat→St→Hp→Prop,(∃m,W 0 m σ H1)∧∀i m σ H,W i m σ H→
  (J.stop i H∧D.nx σ H)∨(J.go i H∧∃N:St→Hp→Prop,(∀σ' H',N σ' H'→∃m',m' < m∧W (i+1) m' σ' H')∧∀x H',J.yld i H x H'→g x σ H' fun σ2 H2=>tb {D with nx:=N,ct:=N,bk:=D.nx} σ2 H2)
def g9(fp:List Addr)(h:Heap):List (Addr × Obj):=fp.filterMap fun b=>(h.get? b).map fun o=>(b,o)
theorem bR{fp:List Addr}{h:Heap}{b:Addr}{o:Obj}(hb:b∈fp)(e:h.get? b=some o):(b,o)∈g9 fp h:=List.mem_filterMap.mpr ⟨b,hb,by rw [e];rfl⟩
theorem rG{fp:List Addr}{h:Heap}{p:Addr × Obj}(hp:p∈g9 fp h):p.1∈fp∧h.get? p.1=some p.2:=by
  obtain⟨b,hb,e⟩:=List.mem_filterMap.mp hp
  cases q:h.get? b with
  | none=>rw [q] at e;cases e
  | some o=>
    rw [q] at e
    have e':(b,o)=p:=Option.some.inj e
    subst e'
    exact⟨hb,q⟩
theorem ar.pinned{pins:List (Addr × Obj)}{σ:St}{H:Hp}{s:Shared}{fp:List Addr}(I:ar X pins σ H s)(hf:∀b∈fp,iI X pins H b)(ho:∀b∈fp,∃o,s.heap.get? b=some o∧∀v,o.data≠.cell v):ar X (pins++g9 fp s.heap) σ H s:=
  I.pins_of fun p hp=>(List.mem_append.mp hp).elim (fun z=>I.pin p (List.mem_append_right _ z)) fun z=>by
    obtain⟨hb,e⟩:=rG z
    obtain⟨f0,f1,f2,_⟩:=hf p.1 hb
    obtain⟨o,e',d⟩:=ho p.1 hb
    rw [e] at e';cases e'
    exact⟨e,f0,f1,f2,d⟩
theorem ar.unpinned{pins pl:List (Addr × Obj)}{σ:St}{H:Hp}{s:Shared}(I:ar X (pins++pl) σ H s):ar X pins σ H s:=I.pins_of fun p hp=>I.pin p (List.mem_append_right _ (List.mem_append_left _ hp))
theorem zO{iter:Expr}{body:List Stmt}{wi:TI}{g:TG}{tb:TS}{pos:Pos}(hp:PassesOwn (model X.prog X.w) X.A X.env X.xe)(hc:X.calm=true)(hi:PI X tg iter wi)(hg:PG X tg g)(hb:jB X body tb)
    (hs:∀x,foldedSetIterable iter X.env x=pure x:=by intro _;rfl):PS X (.For tg iter body [] pos) (Du wi g tb):=by
  intro pins s σ H D I h
  refine wpAny_For (bw (hi pins s σ H _ I h) fun v s1 h1=>bw h1 fun itv s2 h2=>?_) hs
  obtain⟨it,fp,tn,J,H2,e,I2,T,st2,f2,W,⟨m0,w0⟩,turn⟩:=h2
  subst e
  have stat:∀{H':Hp},(∀b∈fp,H' b=none)→∀b∈fp,iI X pins H' b:=fun hn b hb=>⟨hn b hb,(f2 b hb).2⟩
  refine codeAny_forLoop_any (fun n s'=>∃i σ' H',ar X pins σ' H' s'∧tn i s'.heap∧(∀b∈fp,H' b=none)∧W i n σ' H') ?_ m0 ⟨0,σ,H2,I2,st2,fun b hb=>(f2 b hb).1,w0⟩
  rintro n s3 ⟨i,σ3,H3,I3,st3,fr3,w3⟩
  rcases turn i n σ3 H3 w3 with ⟨stop,qn⟩ | ⟨go,N,hN,step⟩
  · refine wpAny_passesOwn hp (bw (T.done X rfl rfl rfl hc i pins s3 σ3 H3 X.xe I3 (stat fr3) st3 stop) fun r s4 ⟨hr,I4⟩=>?_)
    subst hr
    exact wpAny_execs_nil ⟨σ3,H3,I4,qn⟩
  · refine wpAny_passesOwn hp (bw (T.item X rfl rfl rfl hc i pins s3 σ3 H3 X.xe I3 (stat fr3) st3 go) fun r s4 ⟨u,hr,h4⟩=>?_)
    subst hr
    refine wpAny_passesOwn hp (bw h4 fun _ s5 ⟨x,H5,I5,r5,y5,st5,fr5⟩=>?_)
    have I5':=I5.pinned (stat fr5) (T.obj _ _ st5)
    refine wpAny_passesOwn hp (bw (hg _ s5 σ3 H5 x u _ I5' r5 (step x H5 y5)) fun _ s6 ⟨σ6,H6,I6,q6⟩=>?_)
    refine wpAny_passesOwn hp (bw (hb _ s6 σ6 H6 _ I6 q6) fun f s7 q7=>?_)
    have again:∀{σ7:St} {H7:Hp},ar X (pins++g9 fp s5.heap) σ7 H7 s7→N σ7 H7→∃m,m < n∧∃i σ' H',ar X pins σ' H' s7∧tn i s7.heap∧(∀b∈fp,H' b=none)∧W i m σ' H':=fun{σ7 H7} I7 n7=>by
      obtain⟨m',hm,w7⟩:=hN σ7 H7 n7
      refine⟨m',hm,i+1,σ7,H7,I7.unpinned,T.keep _ _ _ st5 fun b hb o e=>(I7.pin (b,o) (List.mem_append_right _ (List.mem_append_right _ (bR hb e)))).1,fun b hb=>?_,w7⟩
      obtain⟨o,e,d⟩:=T.obj _ _ st5 b hb
      exact(I7.pin (b,o) (List.mem_append_right _ (List.mem_append_right _ (bR hb e)))).2.1
    cases f with
    | next=>obtain⟨σ7,H7,I7,n7⟩:=q7;exact again I7 n7
    | cont=>obtain⟨σ7,H7,I7,n7⟩:=q7;exact again I7 n7
    | brk=>obtain⟨σ7,H7,I7,q7⟩:=q7;exact⟨σ7,H7,I7.unpinned,q7⟩
    | ret v=>obtain⟨x7,σ7,H7,I7,r7,q7⟩:=q7;exact⟨x7,σ7,H7,I7.unpinned,r7,q7⟩
end
end L2
namespace L2
open PySem PySem.Spec PyProof.Rows
abbrev R2:=V→V→Hp→VK→Prop
def dy(X:Cx)(f:Value→Value→Sem Value)(r:R2):Prop:=
  ∀(pins:List (Addr × Obj)) (s:Shared) (σ:St) (H:Hp) (x y:V) (v u:Value) (Q:VK),ar X pins σ H s→bf x v→bf y u→r x y H Q→
    wpAny (model X.prog X.w) X.A (f v u) (EP X pins σ Q) X.xe s
def CH(X:Cx)(f:Value→Sem Value)(r:V→Hp→VK→Prop):Prop:=
  ∀(pins:List (Addr × Obj)) (s:Shared) (σ:St) (H:Hp) (x:V) (v:Value) (Q:VK),ar X pins σ H s→bf x v→r x H Q→
    wpAny (model X.prog X.w) X.A (f v) (EP X pins σ Q) X.xe s
def bO(X:Cx)(f:Value)(r:List V→Hp→VK→Prop):Prop:=
  ∀(pins:List (Addr × Obj)) (s:Shared) (σ:St) (H:Hp) (xs:List V) (us:List Value) (Q:VK),ar X pins σ H s→aF xs us→r xs H Q→
    wpAny (model X.prog X.w) X.A (call f us) (EP X pins σ Q) X.xe s
def Co(r:R2)(ta tb:TE):TE:=fun σ H Q=>ta σ H fun x H1=>tb σ H1 fun y H2=>r x y H2 Q
def DV(r:V→Hp→VK→Prop)(ta:TE):TE:=fun σ H Q=>ta σ H fun x H1=>r x H1 Q
def rI(C:Int→Int→Prop)(g:Int→Int→V):R2:=fun x y H Q=>∃i j,x=.int i∧y=.int j∧C i j∧Q (g i j) H
def pF(g:Int→Int→V):R2:=fun x y H Q=>∃i j,x=.int i∧y=.int j∧Q (g i j) H
def rU(g:Int→V):V→Hp→VK→Prop:=fun x H Q=>∃i,x=.int i∧Q (g i) H
section
variable{X:Cx}{a b c:Expr}{ta tb tc:TE}{pos:Pos}
theorem yI(ha:PE X a ta)(hb:PE X b tb){pins:List (Addr × Obj)}{s:Shared}{σ:St}{H:Hp}{R:V→V→Hp→Prop}(I:ar X pins σ H s)
    (h:ta σ H fun x H1=>tb σ H1 fun y H2=>R x y H2){Q:Value→Shared→Prop}{f:Value→Value→Sem Value}
    (hf:∀v u s2 x y H2,ar X pins σ H2 s2→bf x v→bf y u→R x y H2→wpAny (model X.prog X.w) X.A (f v u) Q X.xe s2):
    wpAny (model X.prog X.w) X.A (eval a X.env) (fun v s₁=>wpAny (model X.prog X.w) X.A (eval b X.env) (fun u s₂=>wpAny (model X.prog X.w) X.A (f v u) Q X.xe s₂) X.xe s₁) X.xe s:=by
  refine bw (ha pins s σ H _ I h) fun v s1 ⟨x,H1,I1,r1,q1⟩=>?_
  refine bw (hb pins s1 σ H1 _ I1 q1) fun u s2 ⟨y,H2,I2,r2,q2⟩=>?_
  exact hf v u s2 x y H2 I2 r1 r2 q2
theorem BM{op:Operator}{r:R2}(ho:dy X (binaryOp op) r)(ha:PE X a ta)(hb:PE X b tb):PE X (.BinOp a op b pos) (Co r ta tb):=by
  intro pins s σ H Q I h
  exact wpAny_BinOp (yI ha hb I h fun v u s2 x y H2 I2 rx ry q=>ho pins s2 σ H2 x y v u Q I2 rx ry q)
theorem BO{op:UnaryOp}{r:V→Hp→VK→Prop}(ho:CH X (unaryOp op) r)(ha:PE X a ta):PE X (.UnaryOp op a pos) (DV r ta):=by
  intro pins s σ H Q I h
  exact UnaryOp_ (bw (ha pins s σ H _ I h) fun v s1 ⟨x,H1,I1,r1,q1⟩=>ho pins s1 σ H1 x v Q I1 r1 q1)
theorem BC{f:Value→Value→Sem Value}{C:Int→Int→Prop}{g:Int→Int→Int}
    (rule:∀(i j:Int) (t u:Tok) (s:Shared) (Q:Value→Shared→Prop) (E:Value→Shared→Prop),C i j→Q (.int (g i j) s.toks) {s with toks:=s.toks+1}→wpAny (model X.prog X.w) X.A (f (.int i t) (.int j u)) Q E s):
    dy X f (rI C fun i j=>.int (g i j)):=by
  intro pins s σ H x y v u Q I rx ry h
  obtain⟨i,j,rfl,rfl,hc,q⟩:=h
  obtain⟨t,rfl⟩:=rx
  obtain⟨t',rfl⟩:=ry
  exact rule i j t t' s _ _ hc ⟨.int (g i j),H,I.tok _,⟨_,rfl⟩,q⟩
theorem BD{f:Value→Value→Sem Value}{g:Int→Int→Int}
    (rule:∀(i j:Int) (t u:Tok) (s:Shared) (Q:Value→Shared→Prop) (E:Value→Shared→Prop),Q (.int (g i j) s.toks) {s with toks:=s.toks+1}→wpAny (model X.prog X.w) X.A (f (.int i t) (.int j u)) Q E s):
    dy X f (pF fun i j=>.int (g i j)):=by
  intro pins s σ H x y v u Q I rx ry h
  obtain⟨i,j,rfl,rfl,q⟩:=h
  obtain⟨t,rfl⟩:=rx
  obtain⟨t',rfl⟩:=ry
  exact rule i j t t' s _ _ ⟨.int (g i j),H,I.tok _,⟨_,rfl⟩,q⟩
theorem wF{f:Value→Value→Sem Value}{g:Int→Int→Bool}
    (rule:∀(i j:Int) (t u:Tok) (s:Shared) (Q:Value→Shared→Prop) (E:Value→Shared→Prop),Q (.bool (g i j)) s→wpAny (model X.prog X.w) X.A (f (.int i t) (.int j u)) Q E s):
    dy X f (pF fun i j=>.bl (g i j)):=by
  intro pins s σ H x y v u Q I rx ry h
  obtain⟨i,j,rfl,rfl,q⟩:=h
  obtain⟨t,rfl⟩:=rx
  obtain⟨t',rfl⟩:=ry
  exact rule i j t t' s _ _ ⟨.bl (g i j),H,I,rfl,q⟩
def yD(i j:Int):Prop:=0≤j∧j≤1000000∧i.natAbs < 2 ^ 64
def vD(i j:Int):Prop:=(-(2 ^ 64) < i∧i < 2 ^ 64)∨(-(2 ^ 64) < j∧j < 2 ^ 64)
theorem vD.ok{i j:Int}(h:vD i j):IntMulOk i j:=by
  rcases h with ⟨h1,h2⟩ | ⟨h1,h2⟩
  · exact .of_left (intBits_le_64 h1 h2)
  · exact .of_right (intBits_le_64 h1 h2)
theorem zr:dy X (binaryOp .Add) (pF fun i j=>.int (i+j)):=BD fun _ _ _ _ _ _ _ q=>add_int q
theorem zC:dy X (binaryOp .Sub) (pF fun i j=>.int (i - j)):=BD fun _ _ _ _ _ _ _ q=>sub_int q
theorem zy:dy X (binaryOp .Mult) (rI vD fun i j=>.int (i*j)):=BC fun _ _ _ _ _ _ _ hc q=>mul_int q hc.ok
theorem wK:dy X (binaryOp .Mod) (rI (fun _ j=>j≠0) fun i j=>.int (i.fmod j)):=BC fun _ _ _ _ _ _ _ hc q=>mod_int' hc q
theorem zA:dy X (binaryOp .Pow) (rI yD fun i j=>.int (i ^ j.toNat)):=BC fun _ _ _ _ _ _ _ hc q=>pow_int_small hc.1 hc.2.1 hc.2.2 q
theorem Ep{f:Value→Sem Value}{g:Int→Int}
    (rule:∀(i:Int) (t:Tok) (s:Shared) (Q:Value→Shared→Prop) (E:Value→Shared→Prop),Q (.int (g i) s.toks) {s with toks:=s.toks+1}→wpAny (model X.prog X.w) X.A (f (.int i t)) Q E s):
    CH X f (rU fun i=>.int (g i)):=by
  intro pins s σ H x v Q I rx h
  obtain⟨i,rfl,q⟩:=h
  obtain⟨t,rfl⟩:=rx
  exact rule i t s _ _ ⟨.int (g i),H,I.tok _,⟨_,rfl⟩,q⟩
theorem Ax:CH X (unaryOp .USub) (rU fun i=>.int (-i)):=Ep fun _ _ _ _ _ q=>neg_int q
end
section
variable{X:Cx}{a b c:Expr}{ta tb tc:TE}{pos:Pos}
theorem sV{pins:List (Addr × Obj)}{σ:St}{H:Hp}{s:Shared}{Q:VK}{k k':Bool}(I:ar X pins σ H s)(q:Q (.bl k) H)(e:k=k'):EP X pins σ Q (.bool k') s:=by
  subst e
  exact⟨.bl k,H,I,rfl,q⟩
theorem BH:dy X (compareOp .Lt) (pF fun i j=>.bl (decide (i < j))):=wF fun _ _ _ _ _ _ _ q=>lt_int q
theorem BG:dy X (compareOp .LtE) (pF fun i j=>.bl (decide (i≤j))):=wF fun _ _ _ _ _ _ _ q=>le_int q
theorem BF:dy X (compareOp .Gt) (pF fun i j=>.bl (decide (j < i))):=wF fun _ _ _ _ _ _ _ q=>gt_int q
theorem BE:dy X (compareOp .GtE) (pF fun i j=>.bl (decide (j≤i))):=wF fun _ _ _ _ _ _ _ q=>ge_int q
theorem zx:dy X (compareOp .Is) (fun x y H Q=>y=.non∧Q (.bl (decide (x=.non))) H):=by
  intro pins s σ H x y v u Q I rx ry h
  obtain⟨rfl,q⟩:=h
  cases ry
  refine is_none_gen (sV I q ?_)
  cases x<;>first
    | (cases rx;rfl)
    | (obtain⟨t,rfl⟩:=rx;rfl)
theorem wO:dy X (compareOp .IsNot) (fun x y H Q=>y=.non∧Q (.bl (!decide (x=.non))) H):=by
  intro pins s σ H x y v u Q I rx ry h
  obtain⟨rfl,q⟩:=h
  cases ry
  refine isnot_none_gen (sV I q ?_)
  cases x<;>first
    | (cases rx;rfl)
    | (obtain⟨t,rfl⟩:=rx;rfl)
theorem dy.or{f:Value→Value→Sem Value}{r r':R2}(h:dy X f r)(h':dy X f r'):dy X f (fun x y H Q=>r x y H Q∨r' x y H Q):=by
  intro pins s σ H x y v u Q I rx ry q
  rcases q with q | q
  · exact h pins s σ H x y v u Q I rx ry q
  · exact h' pins s σ H x y v u Q I rx ry q
theorem bc(b:Expr){op:CmpOp}(h:op≠.In:=by decide)(h2:op≠.NotIn:=by decide):behindInMarks op b=false:=by
  have e1:(op==CmpOp.In)=false:=by cases op<;>first | rfl | exact absurd rfl h
  have e2:(op==CmpOp.NotIn)=false:=by cases op<;>first | rfl | exact absurd rfl h2
  cases b<;>simp [behindInMarks,e1,e2]
theorem wU{op:CmpOp}{r:R2}(ho:dy X (compareOp op) r)(ha:PE X a ta)(hb:PE X b tb)(hm:behindInMarks op b=false):PE X (.Compare a [op] [b] pos) (Co r ta tb):=by
  intro pins s σ H Q I h
  exact wpAny_Compare1 (yI ha hb I h fun v u s2 x y H2 I2 rx ry q=>ho pins s2 σ H2 x y v u Q I2 rx ry q) hm
def yA(t:TE):TT:=fun σ H Q=>t σ H fun x H'=>∃k,x=.bl k∧Q k H'
theorem xl{op:CmpOp}{r:R2}(ho:dy X (compareOp op) r)(ha:PE X a ta)(hb:PE X b tb)(hm:behindInMarks op b=false):PT X (.Compare a [op] [b] pos) (yA (Co r ta tb)):=by
  intro pins s σ H Q I h
  refine wpAny_isTrue_Compare1 (bw (ha pins s σ H _ I h) fun v s1 ⟨x,H1,I1,r1,q1⟩=>bw (hb pins s1 σ H1 _ I1 q1) fun u s2 ⟨y,H2,I2,r2,q2⟩=>
    bw (ho pins s2 σ H2 x y v u _ I2 r1 r2 q2) fun c s3 ⟨z,H3,I3,r3,k,e,q3⟩=>?_) hm
  subst e
  cases r3
  exact wpAny_truthy_bool ⟨H3,I3,q3⟩
def pM(r r':R2)(ta tb tc:TE):TE:=fun σ H Q=>ta σ H fun x H1=>tb σ H1 fun y H2=>r x y H2 fun z H3=>∃k,z=.bl k∧
  (if k=true then tc σ H3 fun w' H4=>r' y w' H4 Q else Q (.bl false) H3)
theorem ut{op op':CmpOp}{r r':R2}(ho:dy X (compareOp op) r)(ho':dy X (compareOp op') r')(ha:PE X a ta)(hb:PE X b tb)(hc:PE X c tc)
    (hm:lastMarks [op,op'] [b,c]=false:=by with_unfolding_all rfl):PE X (.Compare a [op,op'] [b,c] pos) (pM r r' ta tb tc):=by
  intro pins s σ H Q I h
  refine Compare_chain (bw (ha pins s σ H _ I h) fun v s1 ⟨x,H1,I1,r1,q1⟩=>chain_link (bw (hb pins s1 σ H1 _ I1 q1) fun u s2 ⟨y,H2,I2,r2,q2⟩=>
    bw (ho pins s2 σ H2 x y v u _ I2 r1 r2 q2) fun d s3 ⟨z,H3,I3,r3,k,e,q3⟩=>?_)) hm
  subst e
  cases r3
  refine wpAny_truthy_bool ?_
  cases k with
  | false=>exact ite_ff ⟨.bl false,H3,I3,rfl,q3⟩
  | true=>exact ite_tt (chain_last (bw (hc pins s3 σ H3 _ I3 q3) fun w' s4 ⟨z',H4,I4,r4,q4⟩=>ho' pins s4 σ H4 y z' u w' Q I4 r2 r4 q4))
theorem uH{op op':CmpOp}{r r':R2}(ho:dy X (compareOp op) r)(ho':dy X (compareOp op') r')(ha:PE X a ta)(hb:PE X b tb)(hc:PE X c tc)
    (hm:lastMarks [op,op'] [b,c]=false:=by with_unfolding_all rfl):PT X (.Compare a [op,op'] [b,c] pos) (yA (pM r r' ta tb tc)):=by
  intro pins s σ H Q I h
  refine isTrue_chain (bw (ha pins s σ H _ I h) fun v s1 ⟨x,H1,I1,r1,q1⟩=>test_link (bw (hb pins s1 σ H1 _ I1 q1) fun u s2 ⟨y,H2,I2,r2,q2⟩=>
    bw (ho pins s2 σ H2 x y v u _ I2 r1 r2 q2) fun d s3 ⟨z,H3,I3,r3,k,e,q3⟩=>?_)) hm
  subst e
  cases r3
  refine wpAny_truthy_bool ?_
  cases k with
  | false=>
    obtain⟨k',e',q'⟩:=q3
    cases e'
    exact ite_ff ⟨H3,I3,q'⟩
  | true=>
    refine ite_tt (test_last (bw (hc pins s3 σ H3 _ I3 q3) fun w' s4 ⟨z',H4,I4,r4,q4⟩=>bw (ho' pins s4 σ H4 y z' u w' _ I4 r2 r4 q4) fun d' s5 ⟨z2,H5,I5,r5,k2,e2,q5⟩=>?_))
    subst e2
    cases r5
    exact wpAny_truthy_bool ⟨H5,I5,q5⟩
theorem pk:(sizeLine:Nat) < 2 ^ 63:=by rw [sizeLine_eq];decide
theorem mi{x:V}{us:List Value}(r:aF [x] us):∃u,us=[u]∧bf x u:=by
  cases r with
  | cons r1 r2=>cases r2;exact⟨_,rfl,r1⟩
theorem yC{x y:V}{us:List Value}(r:aF [x,y] us):∃u w',us=[u,w']∧bf x u∧bf y w':=by
  cases r with
  | cons r1 r2=>
    cases r2 with
    | cons r3 r4=>cases r4;exact⟨_,_,rfl,r1,r3⟩
theorem sJ:bO X (.builtin "abs") (fun xs H Q=>∃i,xs=[.int i]∧Q (.int (if i < 0 then -i else i)) H):=by
  intro pins s σ H xs us Q I r h
  obtain⟨i,rfl,q⟩:=h
  obtain⟨u,rfl,t,rfl⟩:=mi r
  exact call_abs_int fun u tk=>⟨.int (if i < 0 then -i else i),H,I.tok _,⟨_,rfl⟩,q⟩
theorem qQ(hc:X.calm=true):bO X (.builtin "max") (fun xs H Q=>∃i j,xs=[.int i,.int j]∧Q (.int (if j > i then j else i)) H):=by
  intro pins s σ H xs us Q I r h
  obtain⟨i,j,rfl,q⟩:=h
  obtain⟨u,w',rfl,⟨t,rfl⟩,⟨t',rfl⟩⟩:=yC r
  refine max_two_ints (I.ok.hd hc) fun h' tk k=>⟨_,H,I.kept k,?_,q⟩
  by_cases hj:j > i
  · rw [if_pos hj,if_pos hj];exact⟨_,rfl⟩
  · rw [if_neg hj,if_neg hj];exact⟨_,rfl⟩
theorem qR(hc:X.calm=true):bO X (.builtin "min") (fun xs H Q=>∃i j,xs=[.int i,.int j]∧Q (.int (if j < i then j else i)) H):=by
  intro pins s σ H xs us Q I r h
  obtain⟨i,j,rfl,q⟩:=h
  obtain⟨u,w',rfl,⟨t,rfl⟩,⟨t',rfl⟩⟩:=yC r
  refine min_two_ints (I.ok.hd hc) fun h' tk k=>⟨_,H,I.kept k,?_,q⟩
  by_cases hj:j < i
  · rw [if_pos hj,if_pos hj];exact⟨_,rfl⟩
  · rw [if_neg hj,if_neg hj];exact⟨_,rfl⟩
theorem qO:bO X (.type "int") (fun xs H Q=>(∃i,xs=[.int i]∧Q (.int i) H)∨∃k,xs=[.bl k]∧Q (.int (if k then 1 else 0)) H):=by
  intro pins s σ H xs us Q I r h
  rcases h with ⟨i,rfl,q⟩ | ⟨k,rfl,q⟩
  · obtain⟨u,rfl,t,rfl⟩:=mi r
    exact call_int_int ⟨.int i,H,I,⟨_,rfl⟩,q⟩
  · obtain⟨u,rfl,r1⟩:=mi r
    cases r1
    exact call_int_bool ⟨.int (if k then 1 else 0),H,I.tok _,⟨_,rfl⟩,q⟩
end
end L2
namespace L2
open PySem PySem.Spec PyProof.Rows
structure D8 (h:Heap) (x dx C:Addr) (mA:Str→Option Value):Prop where
  obj:h.get? x=some (PySem.W.instObj C dx)
  ns:h.Ns1 dx mA
  ne:dx≠x
section
variable{prog:Program}{w:World}{A:Around}{E:Value→Shared→Prop}{s:Shared}{K:PySem.W.Frag}{x dx C f:Addr}{mA:Str→Option Value}{name:Str}{v:Value}
end
section
variable{P:Program}{w:World}{H H':Hp}{h h':Heap}{a C dx:Addr}{fs fs':List (Str × V)}
end
structure D1 (K:PySem.W.Frag) (C:Addr):Prop where
  pg:PySem.W.plainGet K C Str.empty=true
  hd:PySem.W.hasDictIn K C=true
  po:PySem.W.plainOver K C=true
  sa:PySem.W.findIn K (.ref C) "__setattr__"=some (some (.builtin "object.__setattr__"))
structure Er (K:PySem.W.Frag) (C:Addr) (f:Str) (v:V) (u:Value):Prop where
  at_:PySem.W.findIn K (.ref C) f=some (some u)
  rel:bf v u
  get:PySem.W.specialIn K u "__get__"=some none
  cp:PySem.W.copiedNames.contains f=false
structure D7 (K:PySem.W.Frag) (C:Addr) (m:Str) (f:Addr):Prop where
  at_:PySem.W.findIn K (.ref C) m=some (some (.ref f))
  fn:PySem.W.isFn K (.ref f)=true
  kp:PySem.W.keepIn K (.ref f)=true
section
variable{X:Cx}{pins:List (Addr × Obj)}{σ:St}{H:Hp}{s:Shared}{a C dx:Addr}{fs:List (Str × V)}{f:Str}{v:V}{A:Around}{E:Value→Shared→Prop}
end
section
variable{X:Cx}{o e value:Expr}{f:Str}{pos pos' tpos:Pos}{ta tv:TE}
end
section
variable{X:Cx}{pins:List (Addr × Obj)}{σ:St}{H:Hp}{s:Shared}{A:Around}{E:Value→Shared→Prop}{Q:Value→Shared→Prop}{c:Value}{b:Bool}
inductive jV (K:PySem.W.Frag) (H:Hp):V→Value→Prop where
  | non:jV K H .non (.type "NoneType")
  | bl (x:Bool):jV K H (.bl x) (.type "bool")
  | int (i:Int):jV K H (.int i) (.type "int")
  | str (x:Str):jV K H (.str x) (.type "str")
  | flt (x:UInt64):jV K H (.flt x) (.type "float")
  | lst {a:Addr} {xs:List V} (e:H a=some (.lst xs)):jV K H (.ref a) (.type "list")
  | frz {a:Addr} {o:Obj} {xs:List V} (e:H a=some (.frz o (.lst xs))):jV K H (.ref a) (.type "list")
  | tup {a:Addr} {xs:List V} (e:H a=some (.tup xs)):jV K H (.ref a) (.type "tuple")
  | dK {a:Addr} {kvs:List (ec × V)} (e:H a=some (.dK kvs)):jV K H (.ref a) (.type "dict")
  | dT {a:Addr} {kvs:List (List ec × V)} (e:H a=some (.dT kvs)):jV K H (.ref a) (.type "dict")
  | ins {a C dx:Addr} {fs:List (Str × V)} (e:H a=some (.ins C dx fs)) (cl:D1 K C) (ha:PySem.W.findIn K (.ref C) "__class__"=some (some (.builtin "object.__class__")))
      (hn:PySem.W.specialIn K (.builtin "object.__class__") "__get__"=some (some (.builtin "getset_descriptor.__get__"))) (htk:PySem.W.takesIn K (.builtin "object.__class__")=some true)
      (hm:PySem.W.mroIn K C (.type "object")=some true):jV K H (.ref a) (.ref C)
end
end L2
namespace L2
open PySem PySem.Spec PyProof.Rows
structure cN (k:Nat) (A:Around):Prop where
  hd:A.handled=none
  dp:A.depth+3*k+5 < recursionLimit
  un:A.units+16*k+200 < cLine
  gd:A.guards=some []
theorem cN.mono{j k:Nat}{A:Around}(r:cN k A)(h:j≤k):cN j A:=⟨r.hd,by have:=r.dp;lia,by have:=r.un;lia,r.gd⟩
theorem cN.deeper{k:Nat}{A:Around}(r:cN (k+1) A)(env:Env):cN k (A.deeper env):=
  ⟨r.hd,by have:=r.dp;show A.depth+1+3*k+5 < _;lia,by have:=r.un;show A.units+3+16*k+200 < _;lia,r.gd⟩
theorem cN.depth{k:Nat}{A:Around}(r:cN k A):A.depth < recursionLimit:=by have:=r.dp;lia
theorem cN.units{k:Nat}{A:Around}(r:cN k A):A.units+64 < cLine:=by have:=r.un;lia
def xH:TA:=fun _ H Q=>Q [] H
def jx(ta:TE)(tr:TA):TA:=fun σ H Q=>ta σ H fun x H1=>tr σ H1 fun xs H2=>Q (x::xs) H2
section
variable{X:Cx}{e:Expr}{es:List Expr}{te:TE}{t:TA}{pos:Pos}
theorem iV:PA X [] xH:=fun _ _ _ _ H Q I h=>Calls.spliced_nil ⟨[],H,I,.nil,h⟩
theorem fj(ha:PE X e te)(hr:PA X es t)(hs:starEach (e::es) X.env=(false,eval e X.env)::starEach es X.env:=by rfl):PA X (e::es) (jx te t):=by
  intro pos pins s σ H Q I h
  rw [hs]
  show wpAny _ _ (spliced ((false,eval e X.env)::backTo pos (starEach es X.env))) _ _ s
  refine Calls.spliced_cons (bw (ha pins s σ H _ I h) fun u s1 ⟨x,H1,I1,r1,q1⟩=>?_)
  exact bw (hr pos pins s1 σ H1 _ I1 q1) fun us s2 ⟨xs,H2,I2,r2,q2⟩=>⟨x::xs,H2,I2,.cons r1 r2,q2⟩
def Cq(t:TA):TE:=fun σ H Q=>t σ H fun xs H1=>xs.length≤sizeLine∧∀p,H1 p=none→Q (.ref p) (a7 H1 p (.tup xs))
def Cj(t:TA):TE:=fun σ H Q=>t σ H fun xs H1=>xs.length≤sizeLine∧∀p,H1 p=none→Q (.ref p) (a7 H1 p (.lst xs))
theorem zJ{x1}(h:PA X es t):PE X (.Tuple es x1 pos) (Cq t):=by
  intro pins s σ H Q I hq
  refine wpAny_Tuple_spliced (bw (h pos pins s σ H _ I hq) fun us s1 ⟨xs,H1,I1,r,z,q⟩=>⟨by rw [←r.length];exact z,?_⟩)
  have hf:H1 s1.heap.objs.size=none:=I1.hok.fresh (Nat.le_refl _)
  refine⟨.ref s1.heap.objs.size,a7 H1 s1.heap.objs.size (.tup xs),I1.laid (t':=s1.toks) (fun b u e=>Heap.get?_push_of_some _ e) (Nat.le_refl _) ?_,rfl,q _ hf⟩
  exact⟨z,us,r,⟨_,Heap.get?_push_size _ rfl,rfl,_,rfl,rfl⟩⟩
theorem zE(h:PA X es t):PE X (.List es pos) (Cj t):=by
  intro pins s σ H Q I hq
  refine wpAny_List_spliced (bw (h pos pins s σ H _ I hq) fun us s1 ⟨xs,H1,I1,r,z,q⟩=>⟨by rw [←r.length];exact z,?_⟩)
  have hf:H1 s1.heap.objs.size=none:=I1.hok.fresh (Nat.le_refl _)
  refine⟨.ref s1.heap.objs.size,a7 H1 s1.heap.objs.size (.lst xs),I1.laid (t':=s1.toks) (fun b u e=>Heap.get?_push_of_some _ e) (Nat.le_refl _) ?_,rfl,q _ hf⟩
  exact⟨z,us,0,r,Heap.get?_push_size _ rfl⟩
end
abbrev Sp:=List V→Hp→VK→XK→Prop
abbrev qM:=List Env→Hp→Shared→XK→Value→Shared→Prop
structure vE (P:Program) (w:World) (K:PySem.W.Frag) (mg:Str→Option Value) (base:Heap) (A:Around) (outer:List Env) (s:Shared) (H:Hp):Prop where
  frames:A.frames=some outer
  mod:Mod K mg base
  bs:∀b o,base.get? b=some o→s.heap.get? b=some o∧H b=none
  bsz:base.objs.size≤s.heap.objs.size
  funs:s.heap.FunFrames base outer
  frf:∀b∈sW outer,H b=none
  hok:iJ P w H s.heap
  bare:AllBare s.gens
def CE(outer:List Env)(P:Program)(w:World)(H:Hp)(s:Shared)(Q:VK)(u:Value)(s':Shared):Prop:=
  ∃v H',s'.os=s.os∧AllBare s'.gens∧Un (sW outer) [] H H' s.heap s'.heap∧iJ P w H' s'.heap∧bf v u∧Q v H'
def CR(CX:qM)(outer:List Env)(P:Program)(w:World)(H:Hp)(s:Shared)(Q:VK)(E:XK)(r:Result)(s':Shared):Prop:=
  match r with
  | .ok (.ret u)=>CE outer P w H s Q u s'
  | .ok _=>False
  | .error e=>CX outer H s E e s'
structure aP (P:Program) (w:World) (K:PySem.W.Frag) (mg:Str→Option Value) (base:Heap) (CX:qM) (k:Nat) (f:Addr) (fd:FuncData) (ps:List Str) (sp:Sp):Prop where
  len:∀vs H Q E,sp vs H Q E→vs.length=ps.length
  run:∀(A:Around) (outer:List Env) (s:Shared) (H:Hp) (args:Args) (us:List Value) (vs:List V) (Q:VK) (E:XK),cN k A→vE P w K mg base A outer s H→BindsTo s fd args (ps.zip us)→aF vs us→sp vs H Q E→
    codeAny (model P w) A (.call (.ref f) args) (CR CX outer P w H s Q E) s
section
variable{X:Cx}{pins:List (Addr × Obj)}{σ:St}{H:Hp}{s s':Shared}
theorem ar.env0(I:ar X pins σ H s):vE X.prog X.w X.K X.mg X.base X.A X.stack s H:=
  ⟨I.ok.frames,I.ok.mod,I.bs,Nat.le_trans I.ok.bsz I.sz,I.stack,I.stkFree,I.hok,I.bare⟩
theorem ar.after{Q:VK}{u:Value}(I:ar X pins σ H s)(h:CE X.stack X.prog X.w H s Q u s'):EP X pins σ Q u s':=by
  obtain⟨v,H',os,bare,un,hok,r,q⟩:=h
  obtain⟨hh,g,d,t,os'⟩:=s'
  obtain rfl:os'=s.os:=os
  exact⟨v,H',I.call (h':=hh) (g':=g) (d':=d) (t':=t) (ch:=[]) un hok bare (fun b z=>absurd z (by simp)),r,q⟩
end
def vo(sp:Sp)(dvs:List V)(E:XK)(t:TA):TE:=fun σ H Q=>t σ H fun vs H1=>sp (vs++dvs) H1 Q E
def lw(K:PySem.W.Frag)(fd:FuncData)(ps:List Str)(ds:List Value):Prop:=
  ∀(s:Shared) (us:List Value),K.In s.heap→(us++ds).length=ps.length→BindsTo s fd ⟨us,[]⟩ (ps.zip (us++ds))
theorem lw.all{K:PySem.W.Frag}{fd:FuncData}{ps:List Str}(h:∀us:List Value,us.length=ps.length→bindArgs fd ⟨us,[]⟩=pure (ps.zip us)):lw K fd ps []:=fun s us _ hl=>by
  rw [List.append_nil] at hl ⊢
  exact .of_eq (h us hl)
def oU(CX:qM)(X:Cx)(E:XK):Prop:=∀(pins:List (Addr × Obj)) (σ:St) (H:Hp) (s:Shared) (e:Value) (s':Shared),ar X pins σ H s→CX X.stack H s E e s'→X.xe e s'
section
variable{X:Cx}{CX:qM}{k:Nat}{f C:Addr}{fd:FuncData}{ps:List Str}{sp:Sp}{dvs:List V}{ds:List Value}{E:XK}{x m:Str}{p pos apos:Pos}{e o:Expr}{es:List Expr}{ta:TE}{t:TA}
theorem Ae{pins:List (Addr × Obj)}{σ:St}{H:Hp}{s:Shared}{Q:VK}{us:List Value}{vs:List V}(F:aP X.prog X.w X.K X.mg X.base CX k f fd ps sp)(hr:cN k X.A)(hb:lw X.K fd ps ds)(hd:aF dvs ds)(hx:oU CX X E)
    (I:ar X pins σ H s)(r:aF vs us)(h:sp (vs++dvs) H Q E):wpAny (model X.prog X.w) X.A (call (.ref f) us) (EP X pins σ Q) X.xe s:=by
  have r2:aF (vs++dvs) (us++ds):=r.append hd
  have hl:(us++ds).length=ps.length:=by rw [←r2.length];exact F.len _ _ _ _ h
  refine wpAny_call (codeAny_mono (F.run X.A X.stack s H ⟨us,[]⟩ (us++ds) (vs++dvs) Q E hr I.env0 (hb s us I.kIn hl) r2 h) fun r s' hq=>?_)
  cases r with
  | error e=>exact hx pins σ H s e s' I hq
  | ok fl=>
    cases fl with
    | ret u=>exact I.after hq
    | next=>exact False.elim hq
    | brk=>exact False.elim hq
    | cont=>exact False.elim hq
theorem wR(F:aP X.prog X.w X.K X.mg X.base CX k f fd ps sp)(hr:cN k X.A)(hg:Gl X x)(hm:X.mg x=some (.ref f))(hk:PySem.W.keepIn X.K (.ref f)=true)(hb:lw X.K fd ps ds)(hd:aF dvs ds)(hx:oU CX X E)
    (ha:PA X (e::es) t)(hdb:(x==("__debug__":Str))=false:=by decide)(he:starEach (e::es) X.env=(false,eval e X.env)::starEach es X.env:=by rfl)(hpl:(backTo pos (starEach es X.env)).any (·.1)=false:=by rfl):
    PE X (.Call (.Name x p) (e::es) [] pos) (vo sp dvs E t):=by
  intro pins s σ H Q I h
  refine wpAny_Call_Name_kw (wn I hg hm ?_ hdb)
  refine PySem.W.callWith_K (h₀:=X.base) I.ok.mod.kin hk (bw (ha pos pins s σ H _ I h) fun us s1 ⟨vs,H1,I1,r,q⟩=>⟨I1.kIn,?_⟩) he hpl
  exact Ae F hr hb hd hx I1 r q
structure Mk (K:PySem.W.Frag) (C f:Addr):Prop where
  makes:PySem.W.makesIn K C=true
  init:PySem.W.findIn K (.ref C) "__init__"=some (some (.ref f))
  fn:PySem.W.isFn K (.ref f)=true
  kp:PySem.W.keepIn K (.ref C)=true
end
section
variable{X:Cx}{CX:qM}{k:Nat}{f C:Addr}{fd:FuncData}{ps ks:List Str}{sp:Sp}{E:XK}{x m:Str}{p pos apos kpos:Pos}{e o:Expr}{es:List Expr}{kws:List Keyword}{te ta:TE}{t tk:TA}{nm:Option Str}
structure CW (K:PySem.W.Frag) (fd:FuncData) (ps ks:List Str) (g:List Value→List Value→List Value) (gV:List V→List V→List V):Prop where
  to:∀(s:Shared) (us ws:List Value),K.In s.heap→(g us ws).length=ps.length→BindsTo s fd ⟨us,ks.zip ws⟩ (ps.zip (g us ws))
  rel:∀{vs:List V} {us:List Value} {zs:List V} {ws:List Value},aF vs us→aF zs ws→aF (gV vs zs) (g us ws)
variable{g:List Value→List Value→List Value}{gV:List V→List V→List V}
end
structure aJ (N P:List Str) (sc:Scope):Prop where
  kind:sc.kind=.function
  co:sc.isCoroutine=false
  gen:sc.isGenerator=false
  nd:N.Nodup
  pre:N.take P.length=P
  par:∀x∈P,sc.names.lookup x=some .local∨sc.names.lookup x=some .cell
  nofree:∀y∈sc.names,y.2≠.free
theorem lD{kindOf:Str→Option NameKind}{x:Str}:∀{binds:List (Str × Value)} {m:Str→Option Value},(∀v,(x,v)∉binds)→bindL kindOf binds m x=m x
  | [],_,_=>rfl
  | (n,v)::r,m,h=>by
    unfold bindL
    rw [lD fun w hw=>h w (List.mem_cons_of_mem _ hw)]
    split
    · have:x≠n:=by rintro rfl;exact h v List.mem_cons_self
      simp [this]
    · rfl
theorem lz{kindOf:Str→Option NameKind}{x:Str}:∀{binds:List (Str × Value)} {m:Str→Option Value},(∀v,(x,v)∉binds)→bindC kindOf binds m x=m x
  | [],_,_=>rfl
  | (n,v)::r,m,h=>by
    unfold bindC
    rw [lz fun w hw=>h w (List.mem_cons_of_mem _ hw)]
    split
    · rfl
    · have:x≠n:=by rintro rfl;exact h v List.mem_cons_self
      simp [this]
theorem lA{kindOf:Str→Option NameKind}{x:Str}{v:Value}:∀{P:List Str} {vs:List Value} {i:Nat} {m:Str→Option Value},P.Nodup→P[i]?=some x→vs[i]?=some v→kindOf x=some .local→
    bindL kindOf (P.zip vs) m x=some v
  | [],_,_,_,_,h,_,_=>by simp at h
  | _::_,[],_,_,_,_,h,_=>by simp at h
  | p::P,w::vs,0,m,nd,h1,h2,hk=>by
    simp at h1 h2;subst h1;subst h2
    show bindL kindOf ((p,w)::P.zip vs) m p=_
    unfold bindL
    rw [lD fun v hv=>(List.nodup_cons.mp nd).1 (List.of_mem_zip hv).1,if_pos hk]
    simp
  | p::P,w::vs,i+1,m,nd,h1,h2,hk=>by
    show bindL kindOf ((p,w)::P.zip vs) m x=_
    unfold bindL
    exact lA (i:=i) (List.nodup_cons.mp nd).2 (by simpa using h1) (by simpa using h2) hk
theorem ly{kindOf:Str→Option NameKind}{x:Str}{v:Value}:∀{P:List Str} {vs:List Value} {i:Nat} {m:Str→Option Value},P.Nodup→P[i]?=some x→vs[i]?=some v→kindOf x≠some .local→
    bindC kindOf (P.zip vs) m x=some v
  | [],_,_,_,_,h,_,_=>by simp at h
  | _::_,[],_,_,_,_,h,_=>by simp at h
  | p::P,w::vs,0,m,nd,h1,h2,hk=>by
    simp at h1 h2;subst h1;subst h2
    show bindC kindOf ((p,w)::P.zip vs) m p=_
    unfold bindC
    rw [lz fun v hv=>(List.nodup_cons.mp nd).1 (List.of_mem_zip hv).1,if_neg hk]
    simp
  | p::P,w::vs,i+1,m,nd,h1,h2,hk=>by
    show bindC kindOf ((p,w)::P.zip vs) m x=_
    unfold bindC
    exact ly (i:=i) (List.nodup_cons.mp nd).2 (by simpa using h1) (by simpa using h2) hk
def dB(N:List Str)(vs:List V):St:=vs.map some++List.replicate (N.length - vs.length) none
def o8(CX:qM)(P:Program)(w:World)(K:PySem.W.Frag)(mg:Str→Option Value)(base:Heap)(N:List Str)(qual:Str)(scope:Scope)(f:Addr)(cd:Value)(A:Around)(outer:List Env)(s:Shared)(H:Hp)(E:XK):Cx where
  prog:=P
  w:=w
  K:=K
  mg:=mg
  base:=base
  A:=A.deeper (envOfC qual scope s.heap.objs.size f cd)
  N:=N
  s₀:=s
  H₀:=H
  env:=envOfC qual scope s.heap.objs.size f cd
  outer:=outer
  stack:=envOfC qual scope s.heap.objs.size f cd::outer
  ex:=[]
  calm:=true
  fn:=fun _=>true
  pn:=[]
  xe:=fun e s'=>wpAny (model P w) (A.deeper (envOfC qual scope s.heap.objs.size f cd)) (leaving (envOfC qual scope s.heap.objs.size f cd) e) (fun _ s''=>CX outer H s E e s'') (fun e' s''=>CX outer H s E e' s'') s'
theorem nD{sc:Scope}{n:Nat}{x:Str}(h:sc.names.lookup x=some .cell):∃c,(cellsFrom n sc.names []).lookup x=some c:=by
  have q:=PySem.W.cellsFrom_some sc.names n [] (.inl h)
  exact Option.isSome_iff_exists.mp q
theorem rl{CX:qM}{P:Program}{w:World}{K:PySem.W.Frag}{mg:Str→Option Value}{base:Heap}{N ps:List Str}{qual:Str}{scope:Scope}{f:Addr}{cd:Value}{A:Around}{outer:List Env}{s s1:Shared}{H:Hp}{E:XK}{us:List Value}{vs:List V}
    (S:aJ N ps scope)(hd:A.handled=none)(e0:vE P w K mg base A outer s H)(hl:vs.length=ps.length)(r:aF vs us)
    (x:InCallC s s.heap.objs.size (bindL (envOfC qual scope s.heap.objs.size f cd).kindOf (ps.zip us) fun _=>none) (cellsFrom (s.heap.objs.size+1) scope.names []) (bindC (envOfC qual scope s.heap.objs.size f cd).kindOf (ps.zip us) fun _=>none) s1):
    ar (o8 CX P w K mg base N qual scope f cd A outer s H E) [] (dB N vs) H s1:=by
  have hpl:ps.length≤N.length:=by have:=congrArg List.length S.pre;rw [List.length_take] at this;lia
  obtain⟨h1,tk,rfl,hk⟩:=x.done
  have noA:∀b:Addr,b∉(o8 CX P w K mg base N qual scope f cd A outer s H E).ex:=fun b z=>absurd (show b∈([]:List Addr) from z) (by simp)
  refine⟨⟨e0.mod,S.kind,rfl,rfl,Nat.le_refl _,fun y z c h1 h2=>?_,fun y hy=>?_,fun y c _ h=>?_,fun _=>hd,Around.frames_deeper e0.frames,.inr ⟨rfl,rfl⟩,fun b z=>absurd z (noA b),e0.bs,e0.bsz,fun b _ _=>noA b,fun b z=>absurd z (noA b),e0.funs,e0.frf⟩,
    rfl,e0.bare,Un.kept hk,⟨_,x.toInCall.ns,fun i y v h1 h2 h3=>?_⟩,fun y c h=>⟨_,x.cell y c h⟩,e0.hok.fresh (Nat.le_refl _),fun y c h=>?_,fun p hp=>absurd (show p∈([]:List (Addr × Obj)) from hp) (by simp),e0.hok.kept hk,?_⟩
  · exact name_of_addr x.apart (PySem.mem_of_lookup h1) (PySem.mem_of_lookup h2)
  · have hy:scope.names.lookup y=some .cell∨scope.names.lookup y=some .free:=hy
    rcases hy with hy | hy
    · exact nD hy
    · exact absurd rfl (S.nofree _ (PySem.mem_of_lookup hy))
  · exact Nat.le_of_lt (x.above y c (PySem.mem_of_lookup h))
  · have hi:i < vs.length:=by
      unfold dB at h2
      by_cases hi:i < vs.length
      · exact hi
      · rw [List.getElem?_append_right (by simpa using hi)] at h2
        rw [List.getElem?_replicate] at h2
        split at h2<;>cases h2
    have ha:vs[i]?=some v:=by
      unfold dB at h2
      rw [List.getElem?_append_left (by simpa using hi),List.getElem?_map] at h2
      cases e:vs[i]? with
      | none=>rw [e] at h2;cases h2
      | some a=>rw [e] at h2;cases h2;rfl
    obtain⟨u,hu,rv⟩:=r.get ha
    have hp:ps[i]?=some y:=by
      rw [←S.pre,List.getElem?_take_of_lt (by lia)];exact h1
    have ndP:ps.Nodup:=by rw [←S.pre];exact S.nd.sublist (List.take_sublist _ _)
    refine⟨u,rv,?_⟩
    rcases S.par y (List.mem_of_getElem? hp) with k | k
    · exact .inl ⟨k,lA ndP hp hu k⟩
    · obtain⟨c,e⟩:=nD (n:=s.heap.objs.size+1) k
      refine .inr ⟨.inl k,c,e,?_⟩
      have q:=x.cell y c e
      rw [ly ndP hp hu (by show scope.names.lookup y≠_;rw [k];decide)] at q
      exact q
  · exact e0.hok.fresh (Nat.le_of_lt (x.above y c (PySem.mem_of_lookup h)))
  · unfold dB
    show _=N.length
    rw [List.length_append,List.length_map,List.length_replicate]
    lia
theorem Bd{CX:qM}{P:Program}{w:World}{K:PySem.W.Frag}{mg:Str→Option Value}{base:Heap}{k:Nat}{f:Addr}{name qual:Str}{params:Arguments}{body:List Stmt}{scope:Scope}{dV kV doc pm cdv ct oc:Value}{an od:Option Addr}
    {osl:Array (Option Value)}{N ps:List Str}{sp:Sp}(lk:K.lookup f=some ⟨oc,od,.func (PySem.W.fnOf name qual params body scope dV kV doc pm an cdv ct),osl⟩)(hcd:PySem.W.codeIn K cdv qual=true)(S:aJ N ps scope)
    (len:∀vs H Q E,sp vs H Q E→vs.length=ps.length)
    (hbody:∀(A:Around) (outer:List Env) (s:Shared) (H:Hp) (vs:List V) (Q:VK) (E:XK),cN k (A.deeper (envOfC qual scope s.heap.objs.size f cdv))→sp vs H Q E→
      ∃t,jB (o8 CX P w K mg base N qual scope f cdv A outer s H E) body t∧t {nx:=fun _ H'=>Q .non H',rt:=Q} (dB N vs) H):
    aP P w K mg base CX (k+1) f (PySem.W.fnOf name qual params body scope dV kV doc pm an cdv ct) ps sp:=by
  refine⟨len,fun A outer s H args us vs Q E hr e0 hb r hsp=>?_⟩
  have hl:=len _ _ _ _ hsp
  have KX:K.In s.heap:=e0.mod.kin.keeps fun b o e=>(e0.bs b o e).1
  have lim:s.heap.NoLimit:=e0.mod.nolimit.keeps fun b o e=>(e0.bs b o e).1
  have hkind:∀y∈ps.zip us,scope.names.lookup y.1=some .local∨(scope.names.lookup y.1=some .cell∧((cellsFrom (s.heap.objs.size+1) scope.names []).lookup y.1).isSome=true):=fun⟨n,v⟩ hy=>by
    rcases S.par n (List.of_mem_zip hy).1 with q | q
    · exact .inl q
    · exact .inr ⟨q,PySem.W.cellsFrom_some _ _ _ (.inl q)⟩
  refine codeAny_call_function hr.depth (KX _ _ lk) rfl S.co S.gen rfl (PySem.W.codeRec_of KX hcd) (hb _ _ _ _ ?_)
  refine wpAny_newFunctionEnv_cells S.kind hkind fun env he s1 x=>?_
  subst he
  refine⟨lim.keeps x.toInCall.keep,codeAny_func ?_⟩
  obtain⟨t,ht,hq⟩:=hbody A outer s H vs Q E (hr.deeper _) hsp
  have I:ar (o8 CX P w K mg base N qual scope f cdv A outer s H E) [] (dB N vs) H s1:=rl S hr.hd e0 hl r x
  refine wpAny_mono (ht [] s1 (dB N vs) H _ I hq) (fun fl s' hs=>?_) fun e s' hs=>hs
  have fin:∀{σ':St} {H':Hp} {v:V} {u:Value},ar (o8 CX P w K mg base N qual scope f cdv A outer s H E) [] σ' H' s'→bf v u→Q v H'→CE outer P w H s Q u s':=
    fun{σ' H' v u} J rv q=>⟨v,H',J.os,J.bare,J.base,J.hok,rv,q⟩
  cases fl with
  | ret u=>
    obtain⟨v,σ',H',J,rv,q⟩:=hs
    exact fin J rv q
  | next=>
    obtain⟨σ',H',J,q⟩:=hs
    exact fin (v:=V.non) (u:=Value.none) J rfl q
  | brk=>
    obtain⟨_,_,_,q⟩:=hs
    exact False.elim q
  | cont=>
    obtain⟨_,_,_,q⟩:=hs
    exact False.elim q
end L2
namespace L2
open PySem PySem.Spec PyProof.Rows
section
variable{X:Cx}{x:Str}{p pos:Pos}{e:Expr}{es:List Expr}{t:TA}{id T:String}{r:List V→Hp→VK→Prop}
def Dt(r:List V→Hp→VK→Prop)(t:TA):TE:=fun σ H Q=>t σ H fun vs H1=>r vs H1 Q
theorem iw(hc:bO X (.builtin id) r)(hg:Gl X x)(hm:X.mg x=none)(hv:bootBuiltins x=some (.builtin id))(ha:PA X (e::es) t)(hn:x≠"__name__":=by decide)(hdb:(x==("__debug__":Str))=false:=by decide)
    (he:starEach (e::es) X.env=(false,eval e X.env)::starEach es X.env:=by rfl)(hpl:(backTo pos (starEach es X.env)).any (·.1)=false:=by rfl):PE X (.Call (.Name x p) (e::es) [] pos) (Dt r t):=by
  intro pins s σ H Q I h
  refine wpAny_Call_Name_kw (iQ I hg hm hv ?_ hn hdb)
  exact PyProof.Rows.callWith_builtin1 (bw (ha pos pins s σ H _ I h) fun us s1 ⟨vs,H1,I1,r1,q1⟩=>hc pins s1 σ H1 vs us Q I1 r1 q1) he hpl
theorem iW(hc:bO X (.type T) r)(hg:Gl X x)(hm:X.mg x=none)(hv:bootBuiltins x=some (.type T))(ha:PA X (e::es) t)(hn:x≠"__name__":=by decide)(hdb:(x==("__debug__":Str))=false:=by decide)
    (he:starEach (e::es) X.env=(false,eval e X.env)::starEach es X.env:=by rfl)(hpl:(backTo pos (starEach es X.env)).any (·.1)=false:=by rfl):PE X (.Call (.Name x p) (e::es) [] pos) (Dt r t):=by
  intro pins s σ H Q I h
  refine wpAny_Call_Name_kw (iQ I hg hm hv ?_ hn hdb)
  exact PyProof.Rows.callWith_type1 (bw (ha pos pins s σ H _ I h) fun us s1 ⟨vs,H1,I1,r1,q1⟩=>hc pins s1 σ H1 vs us Q I1 r1 q1) he hpl
end
end L2
namespace HT
open PySem PyProof.Rows
section
open PySem.SeqAt
open PySem.AutoSeq1 (wpAny_loadPart')
open PySem.MeetsSeq PySem.MeetsSeq2 PySem.MeetsSeq3
end
section
variable{prog:Program}{w:World}{A:Around}{E:Value→Shared→Prop}{s:Shared}
theorem cat_tup{t b:Addr}{vs ws:List Value}{Q:Value→Shared→Prop}(ht:IsTup s.heap t vs.toArray)(hb:IsTup s.heap b ws.toArray)(hv:vs≠[])
    (h1:ws=[]→Q (.ref t) s)(h2:ws≠[]→Q (.ref s.heap.objs.size) {s with heap:=s.heap.push {cls:=.type "tuple",data:=.seq (vs++ws).toArray}})
    (hsz:vs.length+ws.length≤sizeLine):wpAny (model prog w) A (binaryOp .Add (.ref t) (.ref b)) Q E s:=by
  obtain⟨⟨cls,dd,data,sl⟩,ho,hc,n,hd⟩:=id ht
  obtain⟨⟨cls2,dd2,data2,sl2⟩,ho2,hc2,n2,hd2⟩:=id hb
  simp only at hc hd hc2 hd2
  subst hc hd hc2 hd2
  have e:vs.toArray++ws.toArray=(vs++ws).toArray:=by simp
  by_cases hw:ws=[]
  · exact concat_meets ⟨_,ho,rfl⟩ ⟨_,ho2,rfl⟩ noFill_tuple_add seq_tuple_add PySem.F.slot_tuple_add PySem.F.entry_tuple_add (PySem.F.args_tuple_add_2 _ _)
      (tuple_addW1 t b vs.toArray ws.toArray n n2 dd dd2 sl sl2 (by simpa using hv) (by simp [hw])) ⟨ho,ho2,h1 hw⟩
  · refine concat_meets ⟨_,ho,rfl⟩ ⟨_,ho2,rfl⟩ noFill_tuple_add seq_tuple_add PySem.F.slot_tuple_add PySem.F.entry_tuple_add (PySem.F.args_tuple_add_2 _ _)
      (tuple_addW2 t b vs.toArray ws.toArray n n2 dd dd2 sl sl2 (by simpa using hv) (by simpa using hw) (by rw [List.size_toArray,List.size_toArray];exact hsz)) ⟨ho,ho2,?_⟩
    rw [e]
    exact h2 hw
def sIx(n d:Nat):Option Int→Nat
  | none=>d
  | some v=>if v < 0 then(v+(n:Int)).toNat else min v.toNat n
theorem Af(n d:Nat)(hd:d≤n)(o:Option Int):sIx n d o≤n:=by
  cases o with
  | none=>exact hd
  | some v=>
    show(if v < 0 then(v+(n:Int)).toNat else min v.toNat n)≤n
    by_cases hv:v < 0
    · rw [if_pos hv];lia
    · rw [if_neg hv];exact Nat.min_le_right _ _
theorem p6(v:Int)(n d:Nat):(if v < 0 then max (v+(n:Int)) 0 else min v (n:Int))=((sIx n d (some v):Nat):Int):=by
  show(if v < 0 then max (v+(n:Int)) 0 else min v (n:Int))=(((if v < 0 then(v+(n:Int)).toNat else min v.toNat n):Nat):Int)
  by_cases hv:v < 0
  · simp only [if_pos hv];lia
  · simp only [if_neg hv];lia
theorem oV(lo hi:Option Int)(n:Nat):Builtin.Slice.sliceAdjust lo hi 1 (n:Int)=(((sIx n 0 lo:Nat):Int),((sIx n n hi:Nat):Int)):=by
  have h1:¬((1:Int) < 0):=by lia
  unfold Builtin.Slice.sliceAdjust
  simp only [h1,if_false]
  refine Prod.ext ?_ ?_
  · cases lo with
    | none=>rfl
    | some v=>exact p6 v n 0
  · cases hi with
    | none=>rfl
    | some v=>exact p6 v n n
theorem pz(i j:Nat):Builtin.Slice.slicePlaces (i:Int) (j:Int) 1=j - i:=by
  unfold Builtin.Slice.slicePlaces
  have h1:(1:Int) > 0:=by lia
  simp only [h1,if_true,Int.ediv_one]
  split<;>lia
theorem slicePart_{v:Value}{o:Option Int}{Q:Option Int→Shared→Prop}(p:IsPart v o)(h:Q o s):wpAny (model prog w) A (Builtin.Slice.slicePartIndex v) Q E s:=by
  cases p with
  | none=>exact slicePart_none h
  | int i t=>exact slicePart_int h
theorem eO{sl:Addr}{vl vu:Value}{lo hi:Option Int}{n:Nat}{Q:Int × Int × Nat→Shared→Prop}(hs:s.heap.IsSliceOf sl vl vu .none)(pl:IsPart vl lo)(pu:IsPart vu hi)
    (h:Q (((sIx n 0 lo:Nat):Int),1,sIx n n hi - sIx n 0 lo) s):wpAny (model prog w) A (Builtin.Slice.sliceApplied (.ref sl) (pure (n:Int))) Q E s:=by
  obtain⟨os,hos,hcs,hds⟩:=id hs
  unfold Builtin.Slice.sliceApplied Builtin.Slice.sliceFields
  refine wpAny_bind (wpAny_bind (wpAny_field hos hds (x:=vl) rfl (wpAny_bind (wpAny_field hos hds (x:=vu) rfl (wpAny_bind (wpAny_field hos hds (x:=.none) rfl (wpAny_pure ?_)))))))
  refine wpAny_bind (slicePart_none ?_)
  show wpAny _ _ (if ((1:Int)==0)=true then _ else _) _ _ s
  rw [if_neg (by decide)]
  refine wpAny_bind (slicePart_ pl (wpAny_bind (slicePart_ pu (wpAny_bind (wpAny_pure ?_)))))
  show wpAny _ _ (match Builtin.Slice.sliceAdjust lo hi 1 (n:Int) with | (lo,hi)=>pure (lo,(1:Int),Builtin.Slice.slicePlaces lo hi 1)) _ _ s
  rw [oV lo hi n]
  show wpAny _ _ (pure (((sIx n 0 lo:Nat):Int),(1:Int),Builtin.Slice.slicePlaces ((sIx n 0 lo:Nat):Int) ((sIx n n hi:Nat):Int) 1)) _ _ s
  rw [pz]
  exact wpAny_pure h
theorem uA(xs:Array Value)(i k:Nat):((List.range k).filterMap fun(m:Nat)=>xs[((i:Int)+(m:Int)*1).toNat]?).toArray=((xs.toList.drop i).take k).toArray:=by
  have e:(fun(m:Nat)=>xs[((i:Int)+(m:Int)*1).toNat]?)=fun m=>xs[i+m]?:=by
    funext m
    have:((i:Int)+(m:Int)*1).toNat=i+m:=by lia
    rw [this]
  rw [e]
  have:=pick_run xs i k
  rw [List.filterMap_map] at this
  have e2:((fun x=>xs[x]?) ∘ fun x=>i+x)=fun m=>xs[i+m]?:=rfl
  rw [e2] at this
  rw [this]
theorem getItem_tuple_cut{t sl:Addr}{items:Array Value}{vl vu:Value}{lo hi:Option Int}{Q:Value→Shared→Prop}(ht:IsTup s.heap t items)(hs:s.heap.IsSliceOf sl vl vu .none)(pl:IsPart vl lo)(pu:IsPart vu hi)
    (hw:¬(sIx items.size 0 lo=0∧sIx items.size items.size hi=items.size))
    (h:Q (.ref s.heap.objs.size) {s with heap:=s.heap.push {cls:=.type "tuple",data:=.seq ((items.toList.drop (sIx items.size 0 lo)).take (sIx items.size items.size hi - sIx items.size 0 lo)).toArray}})
    (hsz:items.size≤sizeLine):wpAny (model prog w) A (getItem (.ref t) (.ref sl)) Q E s:=by
  have htake:sizeOk (.seq ((items.toList.drop (sIx items.size 0 lo)).take (sIx items.size items.size hi - sIx items.size 0 lo)).toArray):=by
    show((items.toList.drop (sIx items.size 0 lo)).take (sIx items.size items.size hi - sIx items.size 0 lo)).toArray.size≤sizeLine
    rw [List.size_toArray,List.length_take,List.length_drop,Array.length_toList]
    lia
  have hj:sIx items.size items.size hi≤items.size:=Af _ _ (Nat.le_refl _) hi
  obtain⟨os,hos,hcs,hds⟩:=id hs
  have hTs:s.TypeIs (.ref sl) "slice":=⟨os,hos,hcs⟩
  unfold getItem
  try with_reducible refine wpAny_holding ?_
  first | refine wpAny_bind (wpAny_pure ?_) | skip
  refine wpAny_bind (wpAny_sequenceKey ht.typeIs (by decide) ?_)
  refine wpAny_bind (wpAny_callSpecial?_slot (name:=Str.ofString "__getitem__") ht.typeIs PyProof.Rows.slot_tuple_getitem
    (wpAny_call_entry PyProof.Rows.slot_tuple_getitem ht.typeIs entry_tuple_getitem ?_ (args_tuple_getitem _ _)))
  show wpAny _ _ (Builtin.Tuple.tupleItemsOf (.ref t) >>= _) _ _ s
  refine wpAny_bind (tupleItemsOf_ ht ?_)
  refine wpAny_bind (wpAny_typeOf hTs ?_)
  rw [if_pos (by decide)]
  refine wpAny_bind (eO hs pl pu ?_)
  have hno:¬((((sIx items.size 0 lo:Nat):Int)==0&&(1:Int)==1&&(sIx items.size items.size hi - sIx items.size 0 lo)==items.size)=true):=by
    intro q
    rw [Bool.and_eq_true,Bool.and_eq_true] at q
    have q1:((sIx items.size 0 lo:Nat):Int)=0:=eq_of_beq q.1.1
    have q2:sIx items.size items.size hi - sIx items.size 0 lo=items.size:=eq_of_beq q.2
    exact hw ⟨by lia,by lia⟩
  show wpAny _ _ (if (((sIx items.size 0 lo:Nat):Int)==0&&(1:Int)==1&&(sIx items.size items.size hi - sIx items.size 0 lo)==items.size)=true then _ else _) _ _ s
  rw [if_neg hno,uA]
  first
    | exact wpAny_bind (m:=Builtin.Tuple.tupleExact _) (wpAny_newObj_type (wpAny_pure ⟨_,rfl,wpAny_pure h⟩) htake)
    | exact wpAny_bind (m:=Builtin.Tuple.tupleExact _) (wpAny_newObj_type (wpAny_bind (wpAny_pure (wpAny_pure ⟨_,rfl,wpAny_pure h⟩))) htake)
    | exact wpAny_bind (wpAny_bind (m:=Builtin.Tuple.tupleExact _) (wpAny_newObj_type (wpAny_pure (wpAny_pure ⟨_,rfl,wpAny_pure h⟩)) htake))
    | exact wpAny_bind (wpAny_bind (m:=Builtin.Tuple.tupleExact _) (wpAny_newObj_type (wpAny_pure ⟨_,rfl,wpAny_pure h⟩) htake))
end
end HT
namespace L2
open PySem PySem.Spec PyProof.Rows
abbrev TO:=St→Hp→(Option Int→Hp→Prop)→Prop
def PO(X:Cx)(e:Option Expr)(t:TO):Prop:=
  ∀(pins:List (Addr × Obj)) (s:Shared) (σ:St) (H:Hp) (Q:Option Int→Hp→Prop),ar X pins σ H s→t σ H Q→
    wpAny (model X.prog X.w) X.A (evalPart e X.env) (fun u s'=>∃o H',ar X pins σ H' s'∧IsPart u o∧Q o H') X.xe s
def xI:TO:=fun _ H Q=>Q none H
def Cp(t:TE):TO:=fun σ H Q=>t σ H fun x H1=>∃i,x=.int i∧Q (some i) H1
theorem dY{ns:List Int}:∀{us:List Value},aF (ns.map V.int) us→IntsAre us ns:=by
  induction ns with
  | nil=>intro us r;rw [List.map_nil] at r;cases r;exact .nil
  | cons n ns ih=>
    intro us r
    rw [List.map_cons] at r
    cases r with
    | cons r1 r2=>
      obtain⟨t,e⟩:=r1
      subst e
      exact .cons n t (ih r2)
section
variable{X:Cx}{e:Expr}{te:TE}{lo hi:Option Expr}{tl th:TO}{pos p2:Pos}
theorem xb:PO X none xI:=by
  intro pins s σ H Q I h
  rw [evalPart_none]
  exact wpAny_pure ⟨none,H,I,.none,h⟩
theorem xc(h:PE X e te):PO X (some e) (Cp te):=by
  intro pins s σ H Q I hw
  rw [evalPart_some]
  refine bw (h pins s σ H _ I hw) fun u s1 ⟨x,H1,I1,r1,q1⟩=>?_
  obtain⟨i,rfl,q⟩:=q1
  obtain⟨t,rfl⟩:=r1
  exact⟨some i,H1,I1,.int i t,q⟩
def vH(X:Cx)(r:V→Option Int→Option Int→Hp→VK→Prop):Prop:=
  ∀(pins:List (Addr × Obj)) (s:Shared) (σ:St) (H:Hp) (x:V) (v vl vu:Value) (lo hi:Option Int) (sl:Addr) (Q:VK),ar X pins σ H s→bf x v→s.heap.IsSliceOf sl vl vu .none→IsPart vl lo→IsPart vu hi→r x lo hi H Q→
    ∃T id,typeLookup (.type T) "__getitem__"=pure (some (.builtin id))∧s.TypeIs v T∧wpAny (model X.prog X.w) X.A (getItem v (.ref sl)) (EP X pins σ Q) X.xe s
theorem vH.or{r r':V→Option Int→Option Int→Hp→VK→Prop}(h:vH X r)(h':vH X r'):vH X (fun x lo hi H Q=>r x lo hi H Q∨r' x lo hi H Q):=by
  intro pins s σ H x v vl vu lo hi sl Q I rx hs pl pu q
  rcases q with q | q
  · exact h pins s σ H x v vl vu lo hi sl Q I rx hs pl pu q
  · exact h' pins s σ H x v vl vu lo hi sl Q I rx hs pl pu q
def Eo(r:V→Option Int→Option Int→Hp→VK→Prop)(te:TE)(tl th:TO):TE:=fun σ H Q=>te σ H fun x H1=>tl σ H1 fun l H2=>th σ H2 fun u H3=>r x l u H3 Q
theorem uv{r:V→Option Int→Option Int→Hp→VK→Prop}(hr:vH X r)(he:PE X e te)(hl:PO X lo tl)(hu:PO X hi th):PE X (.Subscript e (.Slice lo hi none p2) pos) (Eo r te tl th):=by
  intro pins s σ H Q I h
  refine Subscript_ (bw (he pins s σ H _ I h) fun v s1 ⟨x,H1,I1,r1,q1⟩=>?_)
  refine wpAny_Slice (bw (hl pins s1 σ H1 _ I1 q1) fun vl s2 ⟨l,H2,I2,pl,q2⟩=>bw (hu pins s2 σ H2 _ I2 q2) fun vu s3 ⟨u,H3,I3,pu,q3⟩=>?_)
  rw [evalPart_none]
  refine wpAny_pure ?_
  have I4:ar X pins σ H3 {s3 with heap:=s3.heap.push {cls:=.type "slice",data:=.fields #[vl,vu,.none]}}:=I3.kept (t':=s3.toks) fun b ob q=>Heap.get?_push_of_some _ q
  obtain⟨T,id,hT,ht,hg⟩:=hr pins {s3 with heap:=s3.heap.push {cls:=.type "slice",data:=.fields #[vl,vu,.none]}} σ H3 x v vl vu l u s3.heap.objs.size Q I4 r1 (Heap.IsSliceOf.new ..) pl pu q3
  show wpAny (model X.prog X.w) X.A (subscriptTail e (.Slice lo hi none p2) v (.ref s3.heap.objs.size)) (EP X pins σ Q) X.xe {s3 with heap:=s3.heap.push {cls:=.type "slice",data:=.fields #[vl,vu,.none]}}
  exact tail_any (ops:=[.ref s3.heap.objs.size,v]) ht hT hg (by with_unfolding_all rfl)
def lg(xs:List V)(lo hi:Option Int):List V:=(xs.drop (HT.sIx xs.length 0 lo)).take (HT.sIx xs.length xs.length hi - HT.sIx xs.length 0 lo)
theorem jk(xs:List V)(lo hi:Option Int):(lg xs lo hi).length≤xs.length:=by
  unfold lg
  rw [List.length_take,List.length_drop]
  lia
def B5(K:PySem.W.Frag):V→Option Int→Option Int→Hp→VK→Prop:=fun x lo hi H Q=>∃a xs,x=.ref a∧cM K H a xs∧
  ¬(HT.sIx xs.length 0 lo=0∧HT.sIx xs.length xs.length hi=xs.length)∧∀p,H p=none→Q (.ref p) (a7 H p (.tup (lg xs lo hi)))
theorem Ah:vH X (B5 X.K):=by
  intro pins s σ H x v vl vu lo hi sl Q I rx hs pl pu h
  obtain⟨a,xs,rfl,hx,hw,q⟩:=h
  cases rx
  obtain⟨its,r,ht,hz⟩:=I.tuple hx
  have hlen:its.toArray.size=xs.length:=by rw [List.size_toArray];exact r.length.symm
  refine⟨"tuple",_,PyProof.Rows.slot_tuple_getitem.lookup,ht.typeIs,?_⟩
  refine HT.getItem_tuple_cut ht hs pl pu (by rw [hlen];exact hw) ?_ (by rw [hlen];exact hz)
  rw [hlen]
  refine⟨.ref s.heap.objs.size,_,I.laid (t':=s.toks) (o:=.tup (lg xs lo hi)) (fun b ob q=>Heap.get?_push_of_some _ q) (Nat.le_refl _) ?_,rfl,q _ (I.hok.fresh (Nat.le_refl _))⟩
  exact⟨Nat.le_trans (jk xs lo hi) hz,_,(r.drop (HT.sIx xs.length 0 lo)).take (HT.sIx xs.length xs.length hi - HT.sIx xs.length 0 lo),kY.new _ _⟩
def BW(K:PySem.W.Frag):R2:=fun x y H Q=>∃a b xs ys,x=.ref a∧y=.ref b∧cM K H a xs∧cM K H b ys∧xs≠[]∧xs.length+ys.length≤sizeLine∧
  (ys=[]→Q (.ref a) H)∧(ys≠[]→∀p,H p=none→Q (.ref p) (a7 H p (.tup (xs++ys))))
theorem aF.nil_iff{xs:List V}{us:List Value}(r:aF xs us):us=[]↔ xs=[]:=by
  cases r with
  | nil=>simp
  | cons _ _=>simp
theorem wJ:dy X (binaryOp .Add) (BW X.K):=by
  intro pins s σ H x y v u Q I rx ry h
  obtain⟨a,b,xs,ys,rfl,rfl,ha,hb,hx,hz,q1,q2⟩:=h
  cases rx
  cases ry
  obtain⟨its,r1,p1,_⟩:=I.tuple ha
  obtain⟨its2,r2,p2,_⟩:=I.tuple hb
  refine HT.cat_tup p1 p2 (fun z=>hx (r1.nil_iff.mp z)) (fun z=>⟨.ref a,H,I,rfl,q1 (r2.nil_iff.mp z)⟩) (fun z=>?_) (by rw [←r1.length,←r2.length];exact hz)
  refine⟨.ref s.heap.objs.size,_,I.laid (t':=s.toks) (o:=.tup (xs++ys)) (fun b ob q=>Heap.get?_push_of_some _ q) (Nat.le_refl _) ?_,rfl,q2 (fun w=>z (r2.nil_iff.mpr w)) _ (I.hok.fresh (Nat.le_refl _))⟩
  exact⟨by rw [List.length_append];exact hz,_,r1.append r2,kY.new _ _⟩
end
end L2
namespace L2
open PySem PySem.Spec PyProof.Rows
def Bp(n:Nat)(i:Int):Option Nat:=if 0≤i then(if i < n then some i.toNat else none) else if -(n:Int)≤i then some (i+n).toNat else none
def atI{α:Type}(xs:List α)(i:Int):Option α:=(Bp xs.length i).bind fun j=>xs[j]?
theorem wb{n:Nat}{i:Int}{j:Nat}(h:Bp n i=some j):seqIndex? i n=some j∧j < n∧ -(n:Int)≤i∧i < n:=by
  unfold Bp at h
  by_cases h0:0≤i
  · rw [if_pos h0] at h
    by_cases h1:i < n
    · rw [if_pos h1] at h
      have e:i.toNat=j:=Option.some.inj h
      exact⟨by rw [seqIndex_of h0 h1,e],by lia,by lia,h1⟩
    · rw [if_neg h1] at h;cases h
  · rw [if_neg h0] at h
    by_cases h1: -(n:Int)≤i
    · rw [if_pos h1] at h
      have e:(i+n).toNat=j:=Option.some.inj h
      exact⟨by rw [seqIndex_neg (by lia) h1,e],by lia,h1,by lia⟩
    · rw [if_neg h1] at h;cases h
theorem pV{α:Type}{xs:List α}{i:Int}{v:α}(h:atI xs i=some v):∃j,seqIndex? i xs.length=some j∧xs[j]?=some v∧j < xs.length∧ -(xs.length:Int)≤i∧i < xs.length:=by
  unfold atI at h
  cases e:Bp xs.length i with
  | none=>rw [e] at h;cases h
  | some j=>
    rw [e] at h
    obtain⟨h1,h2,h3,h4⟩:=wb e
    exact⟨j,h1,h,h2,h3,h4⟩
def mj(b:Expr):Prop:=∀o i,subscripted b false o i=operate [o,i] (getItem o i)
def vG(X:Cx)(r:R2):Prop:=
  ∀(value slice:Expr) (pins:List (Addr × Obj)) (s:Shared) (σ:St) (H:Hp) (x y:V) (v u:Value) (Q:VK),ar X pins σ H s→bf x v→bf y u→r x y H Q→
    subscripted slice false v u=operate [v,u] (getItem v u)→wpAny (model X.prog X.w) X.A (subscriptTail value slice v u) (EP X pins σ Q) X.xe s
def DG(X:Cx)(id:String)(r:V→List V→Hp→VK→Prop):Prop:=
  ∀(pins:List (Addr × Obj)) (s:Shared) (σ:St) (H:Hp) (x:V) (xs:List V) (v:Value) (us:List Value) (Q:VK),ar X pins σ H s→bf x v→aF xs us→r x xs H Q→
    wpAny (model X.prog X.w) X.A (call (.builtin id) (v::us)) (EP X pins σ Q) X.xe s
section
variable{X:Cx}{a b:Expr}{ta tb:TE}{pos:Pos}
theorem vG.or{r r':R2}(h:vG X r)(h':vG X r'):vG X (fun x y H Q=>r x y H Q∨r' x y H Q):=by
  intro value slice pins s σ H x y v u Q I rx ry q hs
  rcases q with q | q
  · exact h value slice pins s σ H x y v u Q I rx ry q hs
  · exact h' value slice pins s σ H x y v u Q I rx ry q hs
theorem BL{r:R2}(hr:vG X r)(ha:PE X a ta)(hb:PE X b tb)(hs:mj b):PE X (.Subscript a b pos) (Co r ta tb):=by
  intro pins s σ H Q I h
  exact Subscript_ (yI ha hb I h fun v u s2 x y H2 I2 rx ry q=>hr a b pins s2 σ H2 x y v u Q I2 rx ry q (hs _ _))
def B0(K:PySem.W.Frag):R2:=fun x y H Q=>∃p xs i v,x=.ref p∧y=.int i∧fy K H p xs∧atI xs i=some v∧Q v H
def B1(K:PySem.W.Frag):R2:=fun x y H Q=>∃p xs i v,x=.ref p∧y=.int i∧cM K H p xs∧atI xs i=some v∧Q v H
theorem wc:vG X (B0 X.K):=by
  intro value slice pins s σ H x y v u Q I rx ry h hs
  obtain⟨p,xs,i,z,rfl,rfl,hq,he,q⟩:=h
  cases rx
  obtain⟨t,rfl⟩:=ry
  obtain⟨its,r,pl,hz⟩:=I.list hq
  obtain⟨j,h1,h2,h3,h4,h5⟩:=pV he
  obtain⟨w,ew,rw'⟩:=r.get h2
  have hl:=r.length
  have hn:=pk
  have fin:EP X pins σ Q w s:=⟨z,H,I,rw',q⟩
  by_cases h0:0≤i
  · have hj:i.toNat=j:=by
      rw [seqIndex_of h0 h5] at h1
      exact Option.some.inj h1
    exact item_listR pl.isList h0 (by lia) (by rw [hj];simpa using ew) fin hs
  · have hj:(i+(its.toArray.size:Int)).toNat=j:=by
      rw [seqIndex_neg (by lia) h4] at h1
      rw [List.size_toArray,←hl]
      exact Option.some.inj h1
    exact subscriptTail_builtinR (x:=w) pl.isList.typeIs slot_list_getitem.lookup
      (wpAny_getItem_list_neg (Q:=fun r s'=>r=w∧EP X pins σ Q r s') pl.isList (by lia) (by rw [List.size_toArray]<;>lia) (by lia) (by rw [hj];simpa using ew) ⟨rfl,fin⟩) hs
theorem yY:vG X (B1 X.K):=by
  intro value slice pins s σ H x y v u Q I rx ry h hs
  obtain⟨p,xs,i,z,rfl,rfl,hq,he,q⟩:=h
  cases rx
  obtain⟨t,rfl⟩:=ry
  obtain⟨its,r,pl,hz⟩:=I.tuple hq
  obtain⟨j,h1,h2,h3,h4,h5⟩:=pV he
  obtain⟨w,ew,rw'⟩:=r.get h2
  have hl:=r.length
  have hn:=pk
  have fin:EP X pins σ Q w s:=⟨z,H,I,rw',q⟩
  exact subscriptTail_builtinR (x:=w) pl.typeIs slot_tuple_getitem.lookup
    (getItem_tuple (j:=j) (Q:=fun r s'=>r=w∧EP X pins σ Q r s') pl (by lia) (by lia) (by rw [List.size_toArray,←hl];exact h1) (by simpa using ew) ⟨rfl,fin⟩) hs
theorem m8(lo hi:Option Int)(n:Nat):(sliceBounds lo hi none n).1=((HT.sIx n 0 lo:Nat):Int)∧(sliceBounds lo hi none n).2.1=((HT.sIx n n hi:Nat):Int)∧(sliceBounds lo hi none n).2.2=1:=by
  refine⟨?_,?_,rfl⟩
  · cases lo with
    | none=>simp [sliceBounds,HT.sIx]
    | some i=>
      simp only [sliceBounds,HT.sIx,Option.getD_none,show(1:Int) > 0 by decide,if_true]
      by_cases h:i < 0
      · simp only [h,if_true]<;>lia
      · simp only [h,if_false]<;>lia
  · cases hi with
    | none=>simp [sliceBounds,HT.sIx]
    | some i=>
      simp only [sliceBounds,HT.sIx,Option.getD_none,show(1:Int) > 0 by decide,if_true]
      by_cases h:i < 0
      · simp only [h,if_true]<;>lia
      · simp only [h,if_false]<;>lia
theorem lu(its:List Value)(lo hi:Option Int):slicePick its.toArray lo hi none=((its.drop (HT.sIx its.length 0 lo)).take (HT.sIx its.length its.length hi - HT.sIx its.length 0 lo)).toArray:=by
  obtain⟨h1,h2,h3⟩:=m8 lo hi its.toArray.size
  unfold slicePick
  rw [h1,h2,h3]
  simp only [sliceRange_one,pick_run,List.size_toArray]<;>rfl
def B4(K:PySem.W.Frag):V→Option Int→Option Int→Hp→VK→Prop:=fun x lo hi H Q=>∃a xs,x=.ref a∧fy K H a xs∧∀p,H p=none→Q (.ref p) (a7 H p (.lst (lg xs lo hi)))
theorem xB:vH X (B4 X.K):=by
  intro pins s σ H x v vl vu lo hi sl Q I rx hs pl pu h
  obtain⟨a,xs,rfl,hx,q⟩:=h
  cases rx
  obtain⟨its,r,ht,hz⟩:=I.list hx
  have hlen:=r.length
  refine⟨"list",_,slot_list_getitem.lookup,ht.isList.typeIs,?_⟩
  refine wpAny_getItem_list_slice ht.isList hs pl pu .none (by simp) ?_ (by rw [List.size_toArray]<;>lia)
  rw [lu,←hlen]
  refine⟨.ref s.heap.objs.size,_,I.laid (t':=s.toks) (o:=.lst (lg xs lo hi)) (fun b ob q=>Heap.get?_push_of_some _ q) (Nat.le_refl _) ?_,rfl,q _ (I.hok.fresh (Nat.le_refl _))⟩
  exact⟨Nat.le_trans (jk xs lo hi) hz,_,0,(r.drop (HT.sIx xs.length 0 lo)).take (HT.sIx xs.length xs.length hi - HT.sIx xs.length 0 lo),Heap.get?_push_size _ rfl⟩
theorem mw:bO X (.builtin "len") (fun xs H Q=>∃p ys,xs=[.ref p]∧(fy X.K H p ys∨cM X.K H p ys)∧Q (.int ys.length) H):=by
  intro pins s σ H xs us Q I r h
  obtain⟨p,ys,rfl,hq,q⟩:=h
  obtain⟨u,rfl,rx⟩:=mi r
  cases rx
  have hn:=pk
  rcases hq with hq | hq
  · obtain⟨its,r',pl,hz⟩:=I.list hq
    have hlen:=r'.length
    exact Calls.call_len_list pl.isList (by simp only [List.size_toArray]<;>lia) ⟨.int ys.length,H,I.tok _,⟨s.toks+1,by rw [List.size_toArray,hlen]⟩,q⟩
  · obtain⟨its,r',pl,hz⟩:=I.tuple hq
    have hlen:=r'.length
    exact len_tuple pl (by simp only [List.size_toArray]<;>lia) ⟨.int ys.length,H,I.tok _,⟨s.toks+1,by rw [List.size_toArray,hlen]⟩,q⟩
theorem mx:bO X (.type "list") (fun xs H Q=>∃p ys,xs=[.ref p]∧(fy X.K H p ys∨cM X.K H p ys)∧∀l,H l=none→Q (.ref l) (a7 H l (.lst ys))):=by
  intro pins s σ H xs us Q I r h
  obtain⟨p,ys,rfl,hq,q⟩:=h
  obtain⟨u,rfl,rx⟩:=mi r
  cases rx
  have fin:∀(its:List Value),aF ys its→ys.length≤sizeLine→∀(h':Heap) (c':Nat),(∀b o',s.heap.get? b=some o'→h'.get? b=some o')→
      h'.get? s.heap.objs.size=some {cls:=.type "list",dict:=none,data:=.seq its.toArray c',slots:=#[]}→EP X pins σ Q (.ref s.heap.objs.size) {s with heap:=h'}:=fun its r' hz h' c' kp e=>
    ⟨.ref s.heap.objs.size,_,I.laid (t':=s.toks) kp (Nat.le_refl _) (show bY X.prog X.w _ h' _ (.lst ys) from⟨hz,its,c',r',e⟩),rfl,q _ (I.hok.fresh (Nat.le_refl _))⟩
  rcases hq with hq | hq
  · obtain⟨its,r',pl,hz⟩:=I.list hq
    have hlen:=r'.length
    obtain⟨o,ho,hc,n,hd⟩:=pl.isList
    exact call_list_seq p (.inl rfl) ho hc hd (fun h' c' kp e=>fin its r' hz h' c' kp e) (by simp only [List.size_toArray]<;>lia)
  · obtain⟨its,r',pl,hz⟩:=I.tuple hq
    have hlen:=r'.length
    obtain⟨o,ho,hc,n,hd⟩:=pl
    exact call_list_seq p (.inr rfl) ho hc hd (fun h' c' kp e=>fin its r' hz h' c' kp e) (by simp only [List.size_toArray]<;>lia)
theorem lc:bO X (.type "tuple") (fun xs H Q=>∃p ys,xs=[.ref p]∧((fy X.K H p ys∧∀l,H l=none→Q (.ref l) (a7 H l (.tup ys)))∨(cM X.K H p ys∧Q (.ref p) H))):=by
  intro pins s σ H xs us Q I r h
  obtain⟨p,ys,rfl,h⟩:=h
  obtain⟨u,rfl,rx⟩:=mi r
  cases rx
  rcases h with ⟨hq,q⟩ | ⟨hq,q⟩
  · obtain⟨its,r',pl,hz⟩:=I.list hq
    have hlen:=r'.length
    refine call_tuple_list pl.isList (fun h' kp=>?_) (by simp only [List.size_toArray]<;>lia)
    have I1:ar X pins σ H {s with heap:=h'}:=I.kept (t':=s.toks) kp
    have I2:ar X pins σ (a7 H h'.objs.size (.tup ys)) {s with heap:=h'.push {cls:=.type "tuple",data:=.seq its.toArray}}:=
      I1.laid (t':=s.toks) (fun b o e=>Heap.get?_push_of_some _ e) (Nat.le_refl _) (show bY X.prog X.w _ _ _ (.tup ys) from⟨hz,its,r',kY.new _ _⟩)
    exact⟨.ref h'.objs.size,_,I2,rfl,q _ (I1.hok.fresh (Nat.le_refl _))⟩
  · obtain⟨its,r',pl,hz⟩:=I.tuple hq
    exact call_tuple_same pl ⟨.ref p,H,I,rfl,q⟩
def DX(K:PySem.W.Frag)(T:String)(x:V)(H:Hp):Prop:=match x with
  | .str _=>T="str"
  | .int _=>T="int"
  | .ref p=>(T="list"∧∃xs,fy K H p xs)∨(T="tuple"∧∃o,K.lookup p=some o∧o.cls=.type "tuple"∧o.dict=none)∨
      (T="dict"∧((∃kvs,H p=some (.dK kvs))∨∃kvs,H p=some (.dT kvs)))∨(T="set"∧∃S n,H p=some (.set S n))
  | _=>False
theorem Aw{pins:List (Addr × Obj)}{σ:St}{H:Hp}{s:Shared}{T:String}{x:V}{v:Value}(I:ar X pins σ H s)(r:bf x v)(ty:DX X.K T x H):
    s.TypeIs v T∧∀a,v=.ref a→∃ob,s.heap.get? a=some ob∧ob.dict=none:=by
  cases x with
  | str z=>
    obtain⟨t,rfl⟩:=r
    cases (show T="str" from ty)
    exact⟨typeIs_str s z t,fun _ e=>nomatch e⟩
  | int i=>
    obtain⟨t,rfl⟩:=r
    cases (show T="int" from ty)
    exact⟨typeIs_int s i t,fun _ e=>nomatch e⟩
  | ref p=>
    cases r
    rcases ty with ⟨rfl,xs,hq⟩ | ⟨rfl,o,hk,hc,hd⟩ | ⟨rfl,hk⟩ | ⟨rfl,S,n,hk⟩
    · obtain⟨its,_,pl,_⟩:=I.list hq
      refine⟨pl.isList.typeIs,fun a e=>?_⟩
      cases e
      obtain⟨o,n,e,c,hd,_⟩:=pl
      exact⟨o,e,hd⟩
    · refine⟨⟨o,I.kIn p o hk,hc⟩,fun a e=>?_⟩
      cases e
      exact⟨o,I.kIn _ o hk,hd⟩
    · have z:∃o,s.heap.get? p=some o∧o.ExactDict:=by
        rcases hk with ⟨kvs,hk⟩ | ⟨kvs,hk⟩
        · obtain⟨_,_,_,_,o,_,_,e,ex,_⟩:=I.hok p _ hk
          exact⟨o,e,ex⟩
        · obtain⟨_,_,_,_,o,_,_,e,ex,_⟩:=I.hok p _ hk
          exact⟨o,e,ex⟩
      obtain⟨o,e,ex⟩:=z
      refine⟨⟨o,e,ex.1⟩,fun a e2=>?_⟩
      cases e2
      exact⟨o,e,ex.2.1⟩
    · obtain⟨o,_,_,_,e,ex,_⟩:=I.hok p _ hk
      refine⟨⟨o,e,ex.1⟩,fun a e2=>?_⟩
      cases e2
      exact⟨o,e,ex.2.1⟩
  | _=>exact False.elim ty
def DT(K:PySem.W.Frag)(T:String)(r:V→List V→Hp→VK→Prop)(to:TE)(t:TA):TE:=fun σ H Q=>to σ H fun x H1=>DX K T x H1∧t σ H1 fun xs H2=>r x xs H2 Q
variable{o e:Expr}{es:List Expr}{to:TE}{t:TA}{name:Str}{apos cpos:Pos}{T id:String}{r:V→List V→Hp→VK→Prop}
theorem BK(pa:PlainAttrs T)(slot:Slot T name id)(hty:typeOf (.builtin id)=pure (.type "method_descriptor"))(hm:DG X id r)(ho:PE X o to)(ha:PA X (e::es) t)
    (hbase:attributeBase o name X.env (eval o X.env)=eval o X.env:=by rfl)
    (hfew:((backTo cpos (starEach (e::es) X.env)).all (fun x=> !x.1)&&(backToKw cpos (keywordEach [] X.env)).all (fun x=>x.1.isSome)
      &&decide ((e::es).length+([]:List Keyword).length+(if ([]:List Keyword).isEmpty then 0 else 1) < 30))=true:=by rfl)
    (hline:(apos.endLine==cpos.line)=true:=by rfl)(hs:starEach (e::es) X.env=(false,eval e X.env)::starEach es X.env:=by rfl)(hplain:(backTo cpos (starEach es X.env)).any (·.1)=false:=by rfl):
    PE X (.Call (.Attribute o name apos) (e::es) [] cpos) (DT X.K T r to t):=by
  intro pins s σ H Q I h
  refine wpAny_Call_method_late hbase hfew hline rfl (bw (ho pins s σ H _ I h) fun v s1 ⟨x,H1,I1,r1,ty,q1⟩=>?_)
  obtain⟨h1,h2⟩:=Aw I1 r1 ty
  refine⟨T,id,pa,slot,hty,h1,h2,?_⟩
  have hA:=ha cpos pins s1 σ H1 _ I1 q1
  rw [hs] at hA ⊢
  refine Calls.callWith_builtin (by show(false || (backTo cpos (starEach es X.env)).any (·.1))=false;rw [hplain]<;>rfl) (Calls.evalArgs_plain ?_)
  exact bw hA fun us s2 ⟨vs,H2,I2,r2,q2⟩=>hm pins s2 σ H2 x vs v us Q I2 r1 r2 q2
end
end L2
namespace L2
open PySem PySem.Spec PyProof.Rows
def DF(X:Cx)(id:String)(r:V→List V→Hp→VK→Prop):Prop:=
  ∀(pins:List (Addr × Obj)) (s:Shared) (σ:St) (H:Hp) (x:V) (xs:List V) (v:Value) (us:List Value) (Q:VK),ar X pins σ H s→bf x v→aF xs us→r x xs H Q→
    wpAny (model X.prog X.w) X.A (call (.builtin id) (v::us)) (EP X pins σ Q) X.xe s
theorem aF.one:∀{x:V} {us:List Value},aF [x] us→∃u,us=[u]∧bf x u
  | _,_,.cons r .nil=>⟨_,rfl,r⟩
theorem aF.eraseIdx:∀{xs:List V} {us:List Value} (i:Nat),aF xs us→aF (xs.eraseIdx i) (us.eraseIdx i)
  | _,_,_,.nil=>.nil
  | _,_,0,.cons _ t=>t
  | _,_,i+1,.cons r t=>.cons r (aF.eraseIdx i t)
theorem aF.reverse{xs:List V}{us:List Value}(h:aF xs us):aF xs.reverse us.reverse:=by
  induction h with
  | nil=>exact .nil
  | cons r t ih=>rw [List.reverse_cons,List.reverse_cons];exact aF.append ih (.cons r .nil)
theorem aF.rep{xs:List V}{us:List Value}(h:aF xs us):∀k:Nat,aF (List.replicate k xs).flatten (List.replicate k us).flatten
  | 0=>.nil
  | k+1=>by
    rw [List.replicate_succ,List.replicate_succ,List.flatten_cons,List.flatten_cons]
    exact aF.append h (aF.rep h k)
theorem lQ{α:Type}:∀(l:List α) (i:Nat),(l.eraseIdx i).length≤l.length
  | [],_=>Nat.le_refl _
  | _::_,0=>Nat.le_succ _
  | _::r,i+1=>Nat.succ_le_succ (lQ r i)
theorem lL(its:List Value):∀(k:Nat) (acc:List Value),
    List.foldl (fun x1 x2=>x1++x2) acc.toArray (List.replicate k its.toArray)=(acc++(List.replicate k its).flatten).toArray
  | 0,acc=>by simp
  | k+1,acc=>by
    have e:acc.toArray++its.toArray=(acc++its).toArray:=by simp
    have e2:(acc++its)++(List.replicate k its).flatten=acc++(List.replicate (k+1) its).flatten:=by
      rw [List.replicate_succ,List.flatten_cons,List.append_assoc]
    rw [←e2,←lL its k (acc++its),←e,List.replicate_succ,List.foldl_cons]
section
variable{X:Cx}{pins:List (Addr × Obj)}{σ:St}{H:Hp}{s:Shared}{l b:Addr}{xs ys zs:List V}
theorem ar.lset{its its':List Value}{n:Nat}{f:Array Value→Array Value}{t':Nat}(I:ar X pins σ H s)(hH:H l=some (.lst xs))
    (e:s.heap.get? l=some {cls:=.type "list",data:=.seq its.toArray n})(hf:f its.toArray=its'.toArray)(hv:aF ys its')(hz:ys.length≤sizeLine):
    ar X pins σ (a7 H l (.lst ys)) {s with heap:=s.heap.update l (Obj.mapSeq f),toks:=t'}:=by
  have q:=PySem.IsL.update e f
  rw [hf] at q
  refine I.write (x:=l) (e:=l) (by rw [hH];exact trivial) (.inl rfl) (fun b' u hb hu=>(Heap.get?_update_other s.heap (Obj.mapSeq f) (Ne.symm hb)).trans hu) ⟨_,q⟩ ?_
  exact⟨hz,its',_,hv,q⟩
theorem ar.lnew{its:List Value}{t':Nat}(I:ar X pins σ H s)(hv:aF ys its)(hz:ys.length≤sizeLine):
    ar X pins σ (a7 H s.heap.objs.size (.lst ys)) {s with heap:=s.heap.push {cls:=.type "list",data:=.seq its.toArray},toks:=t'}:=
  I.laid (fun _ _ q=>Heap.get?_push_of_some _ q) (Nat.le_refl _) ⟨hz,its,0,hv,Heap.get?_push_size _ rfl⟩
theorem ar.fresh(I:ar X pins σ H s):H s.heap.objs.size=none:=I.hok.fresh (Nat.le_refl _)
theorem ar.lstM(I:ar X pins σ H s)(hH:H l=some (.lst xs)):xs.length≤sizeLine∧∃(its:List Value) (n:Nat),aF xs its∧xs.length=its.length∧s.heap.get? l=some {cls:=.type "list",data:=.seq its.toArray n}:=by
  obtain⟨z,its,n,r,e⟩:=I.hok l _ hH
  exact⟨z,its,n,r,r.length,e⟩
theorem uk{n:Nat}(h:n≤sizeLine):Builtin.List.listTooLong n=false:=by
  unfold Builtin.List.listTooLong
  exact decide_eq_false (by lia)
end
section
variable{X:Cx}
def qu:V→List V→Hp→VK→Prop:=fun x vs H Q=>∃l xs y,x=.ref l∧vs=[y]∧H l=some (.lst xs)∧xs.length < sizeLine∧Q .non (a7 H l (.lst (xs++[y])))
theorem iS:DF X "list.append" qu:=by
  intro pins s σ H x vs v us Q I rx rv h
  obtain⟨l,xs,y,rfl,rfl,hH,hz,q⟩:=h
  cases rx
  obtain⟨u,rfl,ru⟩:=rv.one
  obtain⟨z,its,n,r,hl,e⟩:=I.lstM hH
  refine call_meets F.slot_list_append ⟨_,e,rfl⟩ F.entry_list_append (F.args_list_append_2 _ _) (PySem.list_append l its.toArray n u (by rw [List.size_toArray];lia)) ⟨e,?_⟩
  refine⟨.non,_,I.lset (its':=its++[u]) hH e (by simp) (r.append (.cons ru .nil)) ?_,rfl,q⟩
  rw [List.length_append,List.length_singleton]
  lia
def uS:V→List V→Hp→VK→Prop:=fun x vs H Q=>∃l xs i k y,x=.ref l∧vs=[.int i]∧H l=some (.lst xs)∧ -(2 ^ 63)≤i∧i < 2 ^ 63∧seqIndex? i xs.length=some k∧xs[k]?=some y∧Q y (a7 H l (.lst (xs.eraseIdx k)))
theorem ue:DF X "list.pop" uS:=by
  intro pins s σ H x vs v us Q I rx rv h
  obtain⟨l,xs,i,k,y,rfl,rfl,hH,h1,h2,hk,hy,q⟩:=h
  cases rx
  obtain⟨u,rfl,ru⟩:=rv.one
  obtain⟨t,rfl⟩:=ru
  obtain⟨z,its,n,r,hl,e⟩:=I.lstM hH
  obtain⟨w,hw,rw'⟩:=r.get hy
  refine call_meets F.slot_list_pop ⟨_,e,rfl⟩ F.entry_list_pop (F.args_list_pop_2 _ _)
    (MeetsSeq.list_pop_at l its.toArray n i t k w (fitsIndex_both h1 h2) (by rw [List.size_toArray,←hl];exact hk) (by rw [←Array.getElem?_toList];exact hw) (by rw [List.size_toArray];lia)) ⟨e,?_⟩
  refine⟨y,_,I.lset (its':=its.eraseIdx k) hH e ?_ (r.eraseIdx k) ?_,rw',q⟩
  · show its.toArray.eraseIdxIfInBounds k=(its.eraseIdx k).toArray
    rw [List.eraseIdxIfInBounds_toArray]
  · have:=lQ xs k
    lia
def z5:R2:=fun x y H Q=>∃l b xs zs,x=.ref l∧y=.ref b∧H l=some (.lst xs)∧H b=some (.lst zs)∧xs.length+zs.length≤sizeLine∧∀p,H p=none→Q (.ref p) (a7 H p (.lst (xs++zs)))
theorem zt:dy X (binaryOp .Add) z5:=by
  intro pins s σ H x y v u Q I rx ry h
  obtain⟨l,b,xs,zs,rfl,rfl,hH,hB,hz,q⟩:=h
  cases rx
  cases ry
  obtain⟨z,its,n,r,hl,e⟩:=I.lstM hH
  obtain⟨z2,its2,n2,r2,hl2,e2⟩:=I.lstM hB
  refine PySem.P.add_list e e2 ?_ (by rw [List.size_toArray,List.size_toArray];lia)
  have ea:its.toArray++its2.toArray=(its++its2).toArray:=by simp
  rw [ea]
  exact⟨.ref _,_,I.lnew (t':=s.toks) (r.append r2) (by rw [List.length_append];lia),rfl,q _ I.fresh⟩
def z7:R2:=fun x y H Q=>∃l k xs,x=.ref l∧y=.int k∧H l=some (.lst xs)∧ -(2 ^ 63)≤k∧k < 2 ^ 63∧xs.length*k.toNat≤sizeLine∧
  ∀p,H p=none→Q (.ref p) (a7 H p (.lst (List.replicate k.toNat xs).flatten))
theorem wo{α:Type}(xs:List α)(k:Nat):(List.replicate k xs).flatten.length=k*xs.length:=by
  induction k with
  | zero=>simp
  | succ k ih=>rw [List.replicate_succ,List.flatten_cons,List.length_append,ih,Nat.succ_mul,Nat.add_comm]
theorem zB:dy X (binaryOp .Mult) z7:=by
  intro pins s σ H x y v u Q I rx ry h
  obtain⟨l,k,xs,rfl,rfl,hH,h1,h2,hz,q⟩:=h
  cases rx
  obtain⟨t,rfl⟩:=ry
  obtain⟨z,its,n,r,hl,e⟩:=I.lstM hH
  have hlen:its.toArray.size*k.toNat≤sizeLine:=by rw [List.size_toArray,←hl];exact hz
  have hcap:¬its.toArray.size*k.toNat > (2 ^ 63 - 1) / 8:=by
    have:(sizeLine:Nat)≤(2 ^ 63 - 1) / 8:=by decide
    lia
  have hfit:¬(!Builtin.List.listFitsIndex k)=true:=by
    rw [fitsIndex_both h1 h2]
    exact Bool.false_ne_true
  have hlong:¬Builtin.List.listTooLong (its.toArray.size*k.toNat)=true:=by
    rw [uk hlen]
    exact Bool.false_ne_true
  have hnew:List.foldl (fun x1 x2=>x1++x2) #[] (List.replicate (if its.toArray.isEmpty=true then 0 else k.toNat) its.toArray)=(List.replicate k.toNat its).flatten.toArray:=by
    have f0:∀m:Nat,List.foldl (fun x1 x2=>x1++x2) #[] (List.replicate m its.toArray)=(List.replicate m its).flatten.toArray:=fun m=>by
      have:=lL its m []
      rw [List.nil_append] at this
      exact this
    rw [f0]
    cases its with
    | nil=>simp
    | cons a r'=>rw [if_neg (by simp)]
  refine wpAny_binaryOp_repeat_ref (T:="list") (U:="int") (by decide) ⟨_,e,rfl⟩ (fun s'=>typeIs_int s' k t) noFill_list_mul F.fills_int_mul F.slot_int_rmul repeat_list F.slot_int_index.lookup
    (call_meets F.slot_int_rmul (typeIs_int s k t) F.entry_int_rmul (F.args_int_rmul_2 _ _) (int___rmul___int_list k t l its.toArray n)
      ⟨e,rfl,⟨_,e,rfl⟩,call_meets F.slot_list_mul ⟨_,e,rfl⟩ F.entry_list_mul (F.args_list_mul_2 _ _) (AutoListH.list___mul___list_int_3 l its.toArray n k t hfit hcap hlong) ⟨e,?_⟩⟩)
  rw [hnew]
  exact⟨.ref _,_,I.lnew (t':=s.toks) (r.rep k.toNat) (by rw [wo,Nat.mul_comm];exact hz),rfl,q _ I.fresh⟩
end
section
variable{prog:Program}{w:World}{A:Around}{E:Value→Shared→Prop}{s:Shared}
end
section
variable{X:Cx}
end
end L2
namespace Att
open PySem PySem.W PySem.Calls PyProof.Rows
theorem jD{P:Params}{h:Heap}:∀(ns:List Int) (vs:List Value),WellAll P h vs (ns.map WData.int)→IntsAre vs ns:=by
  intro ns
  induction ns with
  | nil=>
    intro vs w
    rw [List.map_nil] at w
    cases w
    exact .nil
  | cons n ns ih=>
    intro vs w
    rw [List.map_cons] at w
    cases w with
    | cons a b=>
      cases a
      exact .cons _ _ (ih _ b)
theorem rS{l:OpenLaw}{n:Nat}(hn:l.most=some n){P:Params}{h:Heap}{args:List WData}{vals:List Value}
    (hpre:l.row.toRowW.claim.pre args=true)(hwl:WellAll P h vals args):
    ∃a vs ns,vals=[Value.ref a]∧args=[WData.list (ns.map WData.int)]∧h.get? a=some {cls:=.type "list",data:=.seq vs.toArray}∧IntsAre vs ns∧ns.length≤n:=by
  have hsh:WShape.hasAll [] args [.list .int]=true:=(pre_splitW hpre).1
  have hc:l.pre.holds [] {args:=args}=true:=(pre_splitW hpre).2
  obtain⟨d,r,rfl,h1,h2⟩:=hasAllW_cons hsh
  obtain rfl:=hasAllW_nil h2
  obtain⟨xs,rfl,h3⟩:=hasW_list h1
  obtain⟨ns,rfl⟩:=items_int h3
  have hlen:ns.length≤n:=by
    unfold OpenLaw.pre at hc
    have h4:(WTm.not (.lt (.lit (.int (n:Int))) (.len (.arg 0)))).holds [] {args:=[.list (ns.map .int)]}=true:=by
      have h4:=(holds_andW hc).1
      rw [hn] at h4
      exact h4
    have h5:=condW_of h4 (w_not (w_lt w_lit (w_len_list (w_arg rfl))))
    rw [List.length_map] at h5
    refine Nat.le_of_not_lt fun q=>?_
    have q':(n:Int) < ((ns.length:Nat):Int):=by lia
    first
      | (rw [decide_eq_true q'] at h5;exact absurd h5 (by decide))
      | (simp at h5;lia)
  cases hwl with
  | cons w1 w2=>
    cases w2
    cases w1 with
    | list ho hall=>exact⟨_,_,ns,rfl,rfl,ho,jD ns _ hall,hlen⟩
theorem rP(l:OpenLaw)(args:List WData):l.row.toRowW.claim.post args (.bool true) args=true:=
  postW_of (r:=l.row.toRowW) (X:=(true==true))
    (show WShape.has [] (.bool true) .bool=true by first | rfl | decide | simp [WShape.has,WShape.arms,WShape.armsAll])
    (show(WTm.eq .res (.lit (.bool true))).value [] {args:=args,res:=some (.bool true),after:=args}=some (.bool (true==true)) from w_eq_bool (w_res rfl) w_lit) rfl
theorem attach_call{l:OpenLaw}{n:Nat}{q:Program}{loose:List Str}{XP:(Str→Option Value)→Heap→Prop}{YP:World→Heap→Prop}{d:DefRec}
    (hn:l.most=some n)(hdf:d.params.defaults=[])
    (call:∀(w:World) (s₀ s₁:Shared) (mg mb:Str→Option Value) (fa:Addr) (o:Obj) (pm cd doc:Value) (a:Addr) (vs:List Value) (ns:List Int),
      Ground q loose [] XP w s₀ mg mb s₁.heap→YP w s₁.heap→
      s₁.heap.get? fa=some o→o.data=.func (docDef d.name d.params d.body d.scope pm cd doc)→s₁.heap.CodeRec cd d.name→mg d.name=some (.ref fa)→
      s₁.heap.get? a=some {cls:=.type "list",data:=.seq vs.toArray}→IntsAre vs ns→ns.length≤n→s₁.gens=#[]→
      codeAny (model l.prog w) callerA (.call (.ref fa) ⟨[.ref a],[]⟩) (fun r s'=>r=.ok (.ret (.bool true))∧OldK s₁.heap s'.heap∧s'.os=s₁.os∧AllBare s'.gens) s₁):
    WalkO q loose XP YP l.row.toRowW d [] (fun f vs=>PySem.call f vs):=by
  intro w s₀ s₁ mg mb G Y fa o pm cd doc dV kV ho hd hcd hD hmg hg args vals as hpre hlay hrd hwl hlo
  obtain rfl:dV=.none:=Dflts.none hD hdf
  obtain rfl:kV=.none:=Dflts.noKw hD
  obtain⟨a,vs,ns,rfl,rfl,hobj,hints,hlen⟩:=rS hn hpre hwl
  refine enter_call (codeAny_mono (call w s₀ s₁ mg mb fa o pm cd doc a vs ns G Y ho (fd_plain hd) hcd hmg hobj hints hlen hg) fun r s' hq=>?_)
  obtain⟨rfl,h2,h3,h4⟩:=hq
  exact⟨.inl ⟨.bool true,.bool true,[],rfl,fun _=>rfl,.bool true,rP l _,fun _=>⟨List.Pairwise.nil,fun _ hm=>(nomatch hm)⟩⟩,h2,h3,h4⟩
section
variable{prog:Program}{w:World}{A:Around}{E:Value→Shared→Prop}{s:Shared}{K:Frag}
end
end Att
namespace L2
open PySem PySem.Spec PyProof.Rows
theorem eP:∀{vs:List Value} {ns:List Int},IntsAre vs ns→aF (ns.map V.int) vs
  | _,_,.nil=>.nil
  | _,_,.cons n t h=>.cons ⟨t,rfl⟩ (eP h)
def yF(H:Hp):Prop:=∀b,H b=none∨∃o xs,H b=some (.frz o (.lst xs))
theorem t9{P:Program}{w:World}{K:PySem.W.Frag}{mg mb:Str→Option Value}{CX:qM}{k:Nat}{fa a:Addr}{fd:FuncData}{x:Str}{sp:Sp}{s₁:Shared}{vs:List Value}{ns:List Int}
    (KX:K.In s₁.heap)(hns:s₁.heap.Ns mainGlobals mg)(hb:s₁.heap.Ns builtinsNs mb)(hbb:∀x:Str,x≠"__name__"→mb x=bootBuiltins x)(hlim:s₁.heap.NoLimit)(hg:s₁.gens=#[])
    (ha:s₁.heap.get? a=some {cls:=.type "list",data:=.seq vs.toArray})(hi:IntsAre vs ns)(hl:ns.length≤sizeLine)(hr:cN k callerA)
    (F:∀base:Heap,K.In base→base.Ns mainGlobals mg→aP P w K mg base CX k fa fd [x] sp)(hbind:∀(s:Shared) (u:Value),BindsTo s fd ⟨[u],[]⟩ [(x,u)])
    (hsp:∀H:Hp,yF H→fy K H a (ns.map V.int)→sp [.ref a] H (fun v _=>v=.bl true) fun _ _ _=>False)
    (hCX:∀H e s',CX [] H s₁ (fun _ _ _=>False) e s'→False):
    codeAny (model P w) callerA (.call (.ref fa) ⟨[.ref a],[]⟩) (fun r s'=>r=.ok (.ret (.bool true))∧OldK s₁.heap s'.heap∧s'.os=s₁.os∧AllBare s'.gens) s₁:=by
  have rv:=eP hi
  have lenV:=hi.length
  have core:∀H:Hp,yF H→fy K H a (ns.map V.int)→iJ P w H s₁.heap→(∀b,H b≠none→b=a)→(H a≠none→K.lookup a=none)→
      codeAny (model P w) callerA (.call (.ref fa) ⟨[.ref a],[]⟩) (fun r s'=>r=.ok (.ret (.bool true))∧OldK s₁.heap s'.heap∧s'.os=s₁.os∧AllBare s'.gens) s₁:=by
    intro H hO hS hok hA hK
    have base_of:∀{b:Addr} {o:Obj},s₁.heap.get? b=some o→H b=none→(mO s₁.heap H).get? b=some o:=fun e n=>tS e n
    have noA:∀{b:Addr} {o:Obj} {es:Array DictEntry} {ep:Nat},s₁.heap.get? b=some o→o.data=.dict es ep→H b=none:=fun{b o es ep} e d=>by
      cases q:H b with
      | none=>rfl
      | some u=>
        have e':b=a:=hA b (by rw [q];simp)
        subst e'
        rw [ha] at e;cases e
        have d':Data.seq vs.toArray _=Data.dict es ep:=d
        cases d'
    have nsK:∀{b:Addr} {m:Str→Option Value},s₁.heap.Ns b m→(mO s₁.heap H).Ns b m:=fun{b m} ⟨o,es,ep,e,d,r⟩=>⟨o,es,ep,base_of e (noA e d),d,r⟩
    have hKb:K.In (mO s₁.heap H):=fun b o e=>base_of (KX b o e) (by
      cases q:H b with
      | none=>rfl
      | some u=>
        have e':b=a:=hA b (by rw [q];simp)
        subst e'
        rw [hK (by rw [q];simp)] at e;cases e)
    have hM:Mod K mg (mO s₁.heap H):=⟨hKb,nsK hns,⟨mb,nsK hb,hbb⟩,let ⟨mc,h1,h2⟩:=hlim;⟨mc,nsK h1,h2⟩⟩
    have e0:vE P w K mg (mO s₁.heap H) callerA [] s₁ H:=⟨rfl,hM,fun b o e=>ww e,Nat.le_of_eq (ri _ _),trivial,fun b hb=>absurd (show b∈([]:List Addr) from hb) (by simp),hok,.of_eq hg⟩
    refine codeAny_mono ((F _ hKb (nsK hns)).run callerA [] s₁ H ⟨[.ref a],[]⟩ [.ref a] [.ref a] _ _ hr e0 (hbind s₁ (.ref a)) (.cons rfl .nil) (hsp H hO hS)) fun r s' h=>?_
    cases r with
    | error e=>exact(hCX H e s' h).elim
    | ok fl=>
      cases fl with
      | next=>exact False.elim h
      | brk=>exact False.elim h
      | cont=>exact False.elim h
      | ret u=>
        obtain⟨v,H',os,bare,un,hok',r',q⟩:=h
        have q':v=.bl true:=q
        subst q'
        obtain rfl:u=Value.bool true:=r'
        refine⟨rfl,OldK.of_keep fun b o e=>?_,os,bare⟩
        cases q:H b with
        | none=>exact un.keep b o e q (by intro z;exact absurd (show b∈([]:List Addr) from z) (by simp)) (by simp)
        | some u=>
          rcases hO b with z | ⟨ob,xs,z⟩
          · rw [q] at z;cases z
          · have z2:=un.frzs b ob _ z
            obtain⟨e1,_⟩:=hok b _ z
            obtain⟨e2,_⟩:=hok' b _ z2
            rw [e] at e1;cases e1
            exact e2
  cases hk:K.lookup a with
  | some o=>
    have e:=KX a o hk
    rw [ha] at e
    cases e
    refine core (fun _=>none) (fun _=>.inl rfl) (.inr ⟨_,vs.toArray,_,hk,rfl,rfl,rfl,by rw [List.size_toArray,lenV];exact hl,by simpa using rv⟩) (fun b u z=>by have z':(none:Option HO)=some u:=z;cases z') (fun b z=>absurd rfl z) fun z=>absurd rfl z
  | none=>
    refine core (fun b=>if b=a then some (.frz {cls:=.type "list",data:=.seq vs.toArray} (.lst (ns.map V.int))) else none) (fun b=>?_) (.inl (.inr ⟨{cls:=.type "list",data:=.seq vs.toArray},if_pos rfl⟩)) (fun b u z=>?_) (fun b z=>?_) fun _=>hk
    · by_cases hb:b=a
      · exact .inr ⟨_,_,if_pos hb⟩
      · exact .inl (if_neg hb)
    · by_cases hb:b=a
      · have z':=(if_pos hb).symm.trans z
        cases z'
        subst hb
        exact⟨ha,by rw [List.length_map];exact hl,vs,_,rv,ha⟩
      · have z':=(if_neg hb).symm.trans z
        cases z'
    · by_cases hb:b=a
      · exact hb
      · exact absurd (if_neg hb) z
end L2
namespace L2
open PySem PySem.Spec PyProof.Rows
theorem walk_of{l:PySem.W.OpenLaw}{n k:Nat}{q:Program}{loose:List Str}{XP:(Str→Option Value)→Heap→Prop}{YP:World→Heap→Prop}{d:DefRec}{K:Params→PySem.W.Frag}{CX:World→qM}{sp:World→Sp}{x:Str}
    (hn:l.most=some n)(hn2:n≤sizeLine)(hdf:d.params.defaults=[])(hr:cN k callerA)
    (hY:∀(w:World) (h:Heap),YP w h→(K w.params).In h)
    (F:∀(w:World) (mg:Str→Option Value) (fa:Addr) (h:Heap),(K w.params).In h→h.Ns mainGlobals mg→mg d.name=some (.ref fa)→
      ∃fd:FuncData,(∀(s:Shared) (u:Value),BindsTo s fd ⟨[u],[]⟩ [(x,u)])∧
        ∀base:Heap,(K w.params).In base→base.Ns mainGlobals mg→aP l.prog w (K w.params) mg base (CX w) k fa fd [x] (sp w))
    (hsp:∀(w:World) (H:Hp) (a:Addr) (ns:List Int),ns.length≤n→yF H→fy (K w.params) H a (ns.map V.int)→sp w [.ref a] H (fun v _=>v=.bl true) fun _ _ _=>False)
    (hCX:∀(w:World) (H:Hp) (s:Shared) (e:Value) (s':Shared),CX w [] H s (fun _ _ _=>False) e s'→False):
    PySem.W.WalkO q loose XP YP l.row.toRowW d [] (fun f vs=>PySem.call f vs):=by
  refine Att.attach_call hn hdf fun w s₀ s₁ mg mb fa o pm cd doc a vs ns G Y ho hd hcd hmg hobj hints hlen hg=>?_
  have KX:=hY w _ Y
  obtain⟨fd,hb,hF⟩:=F w mg fa _ KX G.T.g hmg
  exact t9 KX G.T.g G.T.b G.T.builtins G.T.nolimit hg hobj hints (Nat.le_trans hlen hn2) hr hF hb (fun H hO hS=>hsp w H a ns hlen hO hS) fun H e s'=>hCX w H s₁ e s'
end L2
namespace L2
open PySem PySem.Spec PyProof.Rows
def cz(s:Stmt):Arguments:=match s with
  | .FunctionDef _ a _ _ _ _ _ _ _ _=>a
  | _=>{posonlyargs:=[],args:=[],vararg:=none,kwonlyargs:=[],kw_defaults:=[],kwarg:=none,defaults:=[]}
def bS(s:Stmt):List Stmt:=match s with
  | .FunctionDef _ _ b _ _ _ _ _ _ _=>b
  | _=>[]
def aj(s:Stmt):Scope:=match s with
  | .FunctionDef _ _ _ _ _ _ sc _ _ _=>sc
  | _=>{kind:=.function,names:=[],isGenerator:=false,isCoroutine:=false}
abbrev cL:qM:=fun _ _ _ _ _ _=>False
abbrev E0:XK:=fun _ _ _=>False
theorem BI{X:Cx}:oU cL X E0:=fun _ _ _ _ _ _ _ h=>h.elim
structure AD (K:PySem.W.Frag) (x qual:Str) (st:Stmt) (f:Addr) (fd:FuncData):Prop where
  ex:∃(oc:Value) (od:Option Addr) (kV doc pm:Value) (an:Option Addr) (cdv ct:Value) (osl:Array (Option Value)),
    fd=PySem.W.fnOf x qual (cz st) (bS st) (aj st) .none kV doc pm an cdv ct∧K.lookup f=some ⟨oc,od,.func fd,osl⟩∧PySem.W.codeIn K cdv qual=true
  kp:PySem.W.keepIn K (.ref f)=true
section
variable{P:Program}{w:World}{K:PySem.W.Frag}{mg:Str→Option Value}{base:Heap}
theorem AD.ok{x qual:Str}{st:Stmt}{f:Addr}{fd:FuncData}{N ps:List Str}{k:Nat}{sp:Sp}(F:AD K x qual st f fd)(S:aJ N ps (aj st))(len:∀vs H Q E,sp vs H Q E→vs.length=ps.length)
    (hbody:∀(cdv:Value) (A:Around) (outer:List Env) (s:Shared) (H:Hp) (vs:List V) (Q:VK) (E:XK),cN k (A.deeper (envOfC qual (aj st) s.heap.objs.size f cdv))→sp vs H Q E→
      ∃t,jB (o8 cL P w K mg base N qual (aj st) f cdv A outer s H E).nox (bS st) t∧t {nx:=fun _ H'=>Q .non H',rt:=Q} (dB N vs) H):aP P w K mg base cL (k+1) f fd ps sp:=by
  obtain⟨oc,od,kV,doc,pm,an,cdv,ct,osl,rfl,lk,hcd⟩:=F.ex
  refine Bd lk hcd S len fun A outer s H vs Q E hr hsp=>?_
  obtain⟨t,h,q⟩:=hbody cdv A outer s H vs Q E hr hsp
  exact⟨t,h.nox,q⟩
theorem AD.binds{x qual:Str}{st:Stmt}{f:Addr}{fd:FuncData}{ps:List Str}(F:AD K x qual st f fd)
    (h:∀(kV doc pm:Value) (an:Option Addr) (cdv ct:Value) (us:List Value),us.length=ps.length→bindArgs (PySem.W.fnOf x qual (cz st) (bS st) (aj st) .none kV doc pm an cdv ct) ⟨us,[]⟩=pure (ps.zip us)):lw K fd ps []:=by
  obtain⟨oc,od,kV,doc,pm,an,cdv,ct,osl,rfl,lk,hcd⟩:=F.ex
  exact .all (h kV doc pm an cdv ct)
theorem sX{x qual:Str}{st:Stmt}{f:Addr}{oc:Value}{od an:Option Addr}{osl:Array (Option Value)}{kV doc pm cdv ct:Value}(l:K.lookup f=some ⟨oc,od,.func (PySem.W.fnOf x qual (cz st) (bS st) (aj st) .none kV doc pm an cdv ct),osl⟩)
    (c:PySem.W.codeIn K cdv qual=true)(k:PySem.W.keepIn K (.ref f)=true):AD K x qual st f (PySem.W.fnOf x qual (cz st) (bS st) (aj st) .none kV doc pm an cdv ct):=⟨⟨oc,od,kV,doc,pm,an,cdv,ct,osl,rfl,l,c⟩,k⟩
end
theorem l_{n:Nat}(h:n≤1000):n < sizeLine:=Nat.lt_of_le_of_lt h (by decide)
section
variable{X:Cx}
end
theorem v_{A B:Prop}(h:B):if false=true then A else B:=by
  rw [if_neg Bool.false_ne_true]
  exact h
theorem wa{A B:Prop}(h:A):if true=true then A else B:=by
  rw [if_pos rfl]
  exact h
def aq(H H':Hp):Prop:=∀b o,H b=some o→H' b=some o
theorem aq.refl(H:Hp):aq H H:=fun _ _ h=>h
theorem aq.trans{H H1 H2:Hp}(a:aq H H1)(b:aq H1 H2):aq H H2:=fun c o h=>b c o (a c o h)
theorem aq.free{H H':Hp}(e:aq H H'){l:Addr}(h:H' l=Option.none):H l=Option.none:=by
  cases q:H l with
  | none=>rfl
  | some o=>
    rw [e l o q] at h
    cases h
theorem aq.seq{K:PySem.W.Frag}{H H':Hp}{a:Addr}{xs:List V}(e:aq H H')(h:fy K H a xs):fy K H' a xs:=by
  rcases h with (h | ⟨o,h⟩) | h
  · exact .inl (.inl (e _ _ h))
  · exact .inl (.inr ⟨o,e _ _ h⟩)
  · exact .inr h
end L2
set_option maxHeartbeats 4000000
namespace L2
open PySem PySem.Spec PyProof.Rows
def Bt(n:Nat)(i:Int):Prop:=i.natAbs < 2 ^ n
theorem Bt.mono{m n:Nat}{i:Int}(h:Bt m i)(hm:m≤n):Bt n i:=Nat.lt_of_lt_of_le h (Nat.pow_le_pow_right (by decide) hm)
theorem Bt.log{m:Nat}{i:Int}(h:Bt m i)(hm:0 < m):i.natAbs.log2 < m:=by
  unfold Bt at h
  rcases Nat.eq_zero_or_pos i.natAbs with h0 | hp
  · rw [h0];exact hm
  · exact(Nat.log2_lt (by lia)).mpr h
theorem Bt.bits{m:Nat}{i:Int}(h:Bt m i)(hm:0 < m):Builtin.Int.intBits i≤m:=by
  unfold Builtin.Int.intBits
  split
  · exact Nat.zero_le _
  · exact h.log hm
theorem Bt.of_le{m:Nat}{i:Int}{j:Int}(h:Bt m j)(e:i.natAbs≤j.natAbs):Bt m i:=Nat.lt_of_le_of_lt e h
section
variable{X:Cx}
def xV(i j:Int):Prop:=Bt 4000 i∧Bt 4000 j
theorem wN:dy X (binaryOp .Mult) (rI xV fun i j=>.int (i*j)):=BC fun _ _ _ _ _ _ _ hc q=>
  mul_int q (.of_bits (Nat.le_trans (hc.1.bits (by decide)) (by decide)) (Nat.le_trans (hc.2.bits (by decide)) (by decide)))
def xU(i j:Int):Prop:=j≠0∧Bt 8000 j
theorem ur:dy X (binaryOp .FloorDiv) (rI xU fun i j=>.int (i.fdiv j)):=BC fun _ _ _ _ _ _ _ hc q=>
  floordiv_int hc.1 q (.inl (PyProof.noPylong_of_log2 (Nat.lt_trans (hc.2.log (by decide)) (by decide))))
theorem zw:dy X (compareOp .Is) (fun x y H Q=>∃b c,x=.bl b∧y=.bl c∧Q (.bl (b==c)) H):=by
  intro pins s σ H x y v u Q I rx ry h
  obtain⟨b,c,rfl,rfl,q⟩:=h
  cases rx;cases ry
  exact is_bool ⟨.bl _,H,I,rfl,q⟩
end
def jf(H H':Hp):Prop:=∀a o,H a=some o→(∀xs,o≠.lst xs)→(∀ob xs,o≠.frz ob (.lst xs))→H' a=some o
theorem jf.trans{H H1 H2:Hp}(a:jf H H1)(b:jf H1 H2):jf H H2:=fun c o h n m=>b c o (a c o h n m) n m
theorem aq.ts{H H':Hp}(h:aq H H'):jf H H':=fun a o e _ _=>h a o e
theorem jf.tup{K:PySem.W.Frag}{H H':Hp}(h:jf H H'){a:Addr}{xs:List V}(q:cM K H a xs):cM K H' a xs:=by
  rcases q with (q | ⟨o,q⟩) | q
  · exact .inl (.inl (h _ _ q (fun _ e=>nomatch e) (fun _ _ e=>nomatch e)))
  · exact .inl (.inr ⟨o,h _ _ q (fun _ e=>nomatch e) (fun _ _ e=>nomatch e)⟩)
  · exact .inr q
section
variable{X:Cx}
end
end L2
namespace L2
open PySem PySem.Spec PyProof.Rows
structure bI (K:PySem.W.Frag) (mg:Str→Option Value) (x:Str) (st:Stmt) (f:Addr) (fd:FuncData) (ps:List Str):Prop where
  F:AD K x x st f fd
  m:mg x=some (.ref f)
  b:lw K fd ps []
theorem yU{K:PySem.W.Frag}{mg:Str→Option Value}{h:Heap}{x:Str}{st:Stmt}{f:Addr}{ps:List Str}{oc:Value}{od an:Option Addr}{osl:Array (Option Value)}{kV doc pm cdv ct:Value}(X:K.In h)(G:h.Ns mainGlobals mg)(a:PySem.W.nsIn K mainGlobals x=some (some (.ref f)))
    (l:K.lookup f=some ⟨oc,od,.func (PySem.W.fnOf x x (cz st) (bS st) (aj st) .none kV doc pm an cdv ct),osl⟩)(c:PySem.W.codeIn K cdv x=true)(k:PySem.W.keepIn K (.ref f)=true)
    (hb:∀(kV doc pm:Value) (an:Option Addr) (cdv ct:Value) (us:List Value),us.length=ps.length→bindArgs (PySem.W.fnOf x x (cz st) (bS st) (aj st) .none kV doc pm an cdv ct) ⟨us,[]⟩=pure (ps.zip us)):
    bI K mg x st f (PySem.W.fnOf x x (cz st) (bS st) (aj st) .none kV doc pm an cdv ct) ps:=⟨sX l c k,PySem.W.mg_of X G a,(sX l c k).binds hb⟩
theorem Do{X:Cx}{x:Str}{st:Stmt}{f:Addr}{fd:FuncData}{ps:List Str}{k:Nat}{sp:Sp}{e:Expr}{es:List Expr}{t:TA}{p pos:Pos}(h:bI X.K X.mg x st f fd ps)(G:aP X.prog X.w X.K X.mg X.base cL k f fd ps sp)(hr:cN k X.A)(ha:PA X (e::es) t)
    (hg:Gl X x:=by rfl)(hdb:(x==("__debug__":Str))=false:=by decide)(he:starEach (e::es) X.env=(false,eval e X.env)::starEach es X.env:=by rfl)(hpl:(backTo pos (starEach es X.env)).any (·.1)=false:=by rfl):
    PE X (.Call (.Name x p) (e::es) [] pos) (vo sp [] E0 t):=wR G hr hg h.m h.F.kp h.b .nil BI ha hdb he hpl
theorem aq.new{H:Hp}{p:Addr}{o:HO}(h:H p=none):aq H (a7 H p o):=fun b u e=>by
  rw [aB (cS e h)];exact e
theorem aq.tup{K:PySem.W.Frag}{H H':Hp}{a:Addr}{xs:List V}(e:aq H H')(h:cM K H a xs):cM K H' a xs:=e.ts.tup h
end L2
namespace L2
open PySem PySem.Spec PyProof.Rows
def du(t b:Int):Int × Int:=if b < 0 then(t.fdiv (-(Int.gcd t b:Int)),b.fdiv (-(Int.gcd t b:Int))) else(t.fdiv (Int.gcd t b:Int),b.fdiv (Int.gcd t b:Int))
theorem tQ(x y:Int):Int.gcd y (x.fmod y)=Int.gcd x y:=by
  rw [Int.fmod_def,Int.gcd_sub_mul_left_right,Int.gcd_comm]
theorem jm(x:Int){y:Int}(h:y≠0):(x.fmod y).natAbs < y.natAbs:=by
  rcases Int.lt_or_gt_of_ne h with h | h
  · have h1:x.fmod y= -((-x).fmod (-y)):=by
      have:=Int.neg_fmod_neg x y
      lia
    have h2:=Int.fmod_nonneg_of_pos (-x) (b:= -y) (by lia)
    have h3:=Int.fmod_lt_of_pos (-x) (b:= -y) (by lia)
    lia
  · have h2:=Int.fmod_nonneg_of_pos x h
    have h3:=Int.fmod_lt_of_pos x h
    lia
theorem qg{t b:Int}(h:b≠0):(0:Int) < Int.gcd t b:=by
  have:=Int.gcd_pos_of_ne_zero_right t h
  lia
theorem lR{t b:Int}(h:b≠0):∃d:Int,d.natAbs=Int.gcd t b∧d≠0∧(du t b).1*d=t∧(du t b).2*d=b∧0 < (du t b).2:=by
  have hg:=qg (t:=t) h
  have d1:(Int.gcd t b:Int) ∣ t:=Int.gcd_dvd_left ..
  have d2:(Int.gcd t b:Int) ∣ b:=Int.gcd_dvd_right ..
  unfold du
  split
  · rename_i hb
    have e1:t.fdiv (-(Int.gcd t b:Int))*(-(Int.gcd t b:Int))=t:=Int.fdiv_mul_cancel (Int.neg_dvd.mpr d1)
    have e2:b.fdiv (-(Int.gcd t b:Int))*(-(Int.gcd t b:Int))=b:=Int.fdiv_mul_cancel (Int.neg_dvd.mpr d2)
    refine⟨-(Int.gcd t b:Int),by lia,by lia,e1,e2,?_⟩
    show 0 < b.fdiv (-(Int.gcd t b:Int))
    have h3:b.fdiv (-(Int.gcd t b:Int))*(Int.gcd t b:Int)= -b:=by rw [Int.mul_neg] at e2;lia
    exact Int.pos_of_mul_pos_left (by lia) (by lia) (b:=(Int.gcd t b:Int))
  · rename_i hb
    have e1:t.fdiv (Int.gcd t b:Int)*(Int.gcd t b:Int)=t:=Int.fdiv_mul_cancel d1
    have e2:b.fdiv (Int.gcd t b:Int)*(Int.gcd t b:Int)=b:=Int.fdiv_mul_cancel d2
    refine⟨(Int.gcd t b:Int),by lia,by lia,e1,e2,?_⟩
    show 0 < b.fdiv (Int.gcd t b:Int)
    exact Int.pos_of_mul_pos_left (by lia) (by lia) (b:=(Int.gcd t b:Int))
theorem ud{t b:Int}(h:b≠0):Int.gcd (du t b).1 (du t b).2=1:=by
  obtain⟨d,h1,h2,h3,h4,h5⟩:=lR (t:=t) h
  have e:Int.gcd ((du t b).1*d) ((du t b).2*d)=Int.gcd (du t b).1 (du t b).2*d.natAbs:=Int.gcd_mul_right ..
  rw [h3,h4,←h1] at e
  have hd:0 < d.natAbs:=by lia
  exact(Nat.eq_of_mul_eq_mul_right hd (by rw [Nat.one_mul];exact e)).symm
theorem yS{t b:Int}(h:b≠0){n:Nat}(hb:Bt n b):Bt n (Int.gcd t b:Int):=by
  refine hb.of_le ?_
  have h1:=Nat.le_of_dvd (show 0 < b.natAbs by lia) (Int.ofNat_dvd.mp (by rw [Int.dvd_natAbs];exact Int.gcd_dvd_right t b))
  lia
mutual
def cnt:PyData→Nat
  | .tuple ds=>1+gS ds
  | .str _=>0
  | _=>1
def gS:List PyData→Nat
  | []=>0
  | d::ds=>cnt d+gS ds
end
mutual
def kB:PyData→Bool
  | .tuple ds=>eH ds
  | .str _=>false
  | .list _=>false
  | .dict _=>false
  | _=>true
def eH:List PyData→Bool
  | []=>true
  | d::ds=>kB d&&eH ds
end
theorem li{a:Int}(h:a.natAbs.log2 < 1920):(Str.ofString (toString a)).length≤1921:=by
  have e:=int_text_length_le (k:=1920) (by decide) h
  rw [PySem.ofString_length];lia
theorem fm(x:Str)(r:List Str):piled (x::r)=x.length+2+piled r:=by
  simp [piled]
theorem jb(ts:List Str):(tupleText ts).length≤piled ts+3:=by
  unfold tupleText
  rw [strLen_append,strLen_append]
  have h1:(("(":Str)).length=1:=by decide
  have h2:(Str.ofString (if (ts.length==1)=true then ",)" else ")")).length≤2:=by split<;>decide
  have h3:(Str.join ", " ts).length≤piled ts:=by
    cases ts with
    | nil=>show(Str.join ", " []).length≤0;decide
    | cons x r=>have:=join_length_add (x::r) (by simp);lia
  lia
mutual
theorem l9:∀{d:PyData},kB d=true→d.showable=true→d.shown.length+2≤2000*cnt d
  | .none,_,_=>by show(Str.ofString "None").length+2≤2000*1;decide
  | .bool b,_,_=>by
    cases b
    · show(Str.ofString "False").length+2≤2000*1;decide
    · show(Str.ofString "True").length+2≤2000*1;decide
  | .int i,_,hs=>by
    simp only [PyData.showable,decide_eq_true_eq] at hs
    have:=li hs
    show(Str.ofString (toString i)).length+2≤2000*1
    lia
  | .tuple ds,hn,hs=>by
    simp only [PyData.showable] at hs
    simp only [kB] at hn
    have h1:=iE hn hs
    have h2:=jb (PyData.shownAll ds)
    simp only [PyData.shown,cnt]
    lia
  | .str _,hn,_=>by simp [kB] at hn
  | .list _,hn,_=>by simp [kB] at hn
  | .dict _,hn,_=>by simp [kB] at hn
theorem iE:∀{ds:List PyData},eH ds=true→PyData.showableAll ds=true→piled (PyData.shownAll ds)≤2000*gS ds
  | [],_,_=>by simp [PyData.shownAll,piled]
  | d::ds,hn,hs=>by
    simp only [eH,Bool.and_eq_true] at hn
    simp only [PyData.showableAll,Bool.and_eq_true] at hs
    have h1:=l9 hn.1 hs.1
    have h2:=iE hn.2 hs.2
    simp only [PyData.shownAll,gS,fm]
    lia
end
end L2
namespace L2
open PySem PySem.Spec PyProof.Rows
def fF(env:Env):List (Str × NameKind)→List (Str × Addr)→List (Str × Addr)
  | [],cs=>cs
  | (n,k)::r,cs=>fF env r (if k==.free then(n,(env.cells.lookup n).getD 0)::cs else cs)
theorem ic{env:Env}:∀(names:List (Str × NameKind)) (cs:List (Str × Addr)),(∀y∈names,y.2=.free→∃c,env.cells.lookup y.1=some c)→
    (forIn names cs (fun(x:Str × NameKind) (r:List (Str × Addr))=>(if (x.2==NameKind.free)=true then do let a ←cellOf env x.1;pure (ForInStep.yield ((x.1,a)::r)) else pure (ForInStep.yield r):Sem (ForInStep (List (Str × Addr))))):Sem (List (Str × Addr)))=pure (fF env names cs)
  | [],cs,_=>rfl
  | (n,k)::r,cs,h=>by
    rw [List.forIn_cons]
    have ih:=fun cs'=>ic (env:=env) r cs' (fun y hy=>h y (List.mem_cons_of_mem _ hy))
    by_cases hk:(k==NameKind.free)=true
    · have hk':k=.free:=by simpa using hk
      obtain⟨c,hc⟩:=h (n,k) List.mem_cons_self hk'
      have e:cellOf env n=pure c:=by unfold cellOf;rw [hc]
      simp only [hk,if_true,e,pure_bind,fF,hc,Option.getD_some]
      exact ih _
    · have hk':(k==NameKind.free)=false:=by simpa using hk
      simp only [hk',Bool.false_eq_true,if_false,pure_bind,fF]
      exact ih _
theorem j3{scope:Scope}{env:Env}(h:∀y∈scope.names,y.2=.free→∃c,env.cells.lookup y.1=some c):closureFor scope env=pure (fF env scope.names []):=by
  have e:=ic (env:=env) scope.names [] h
  unfold closureFor
  simp only [pure_bind,bind_pure] at e ⊢
  exact e
theorem gR{env:Env}:∀(names:List (Str × NameKind)) (cs:List (Str × Addr)) (x:Str) (c:Addr),(∀y∈names,y.2=.free→∃c,env.cells.lookup y.1=some c)→(∀x c,cs.lookup x=some c→env.cells.lookup x=some c)→(fF env names cs).lookup x=some c→env.cells.lookup x=some c
  | [],cs,x,c,_,hs,h=>hs x c h
  | (n,k)::r,cs,x,c,hn,hs,h=>by
    refine gR r _ x c (fun y hy=>hn y (List.mem_cons_of_mem _ hy)) (fun x' c' e=>?_) h
    by_cases hk:(k==NameKind.free)=true
    · rw [if_pos hk] at e
      obtain⟨c0,hc⟩:=hn (n,k) List.mem_cons_self (by simpa using hk)
      rw [List.lookup_cons] at e
      cases hx:x'==n with
      | true=>
        rw [hx] at e
        have e1:x'=n:=by simpa using hx
        subst e1
        simp only [hc,Option.getD_some,Option.some.injEq] at e
        rw [←e];exact hc
      | false=>rw [hx] at e;exact hs x' c' e
    · rw [if_neg hk] at e
      exact hs x' c' e
theorem j2{env:Env}:∀(names:List (Str × NameKind)) (cs:List (Str × Addr)) (x:Str),((∃y∈names,y.1=x∧y.2=.free)∨∃c,cs.lookup x=some c)→∃c,(fF env names cs).lookup x=some c
  | [],cs,x,h=>by
    rcases h with ⟨y,hy,_⟩ | h
    · cases hy
    · exact h
  | (n,k)::r,cs,x,h=>by
    refine j2 r _ x ?_
    by_cases hk:(k==NameKind.free)=true
    · rw [if_pos hk,List.lookup_cons]
      cases hx:x==n with
      | true=>exact .inr ⟨_,rfl⟩
      | false=>
        rcases h with ⟨y,hy,e1,e2⟩ | h
        · rcases List.mem_cons.mp hy with z | z
          · subst z;subst e1;simp at hx
          · exact .inl ⟨y,z,e1,e2⟩
        · exact .inr h
    · rw [if_neg hk]
      rcases h with ⟨y,hy,e1,e2⟩ | h
      · rcases List.mem_cons.mp hy with z | z
        · subst z;exact absurd (by simpa using e2) hk
        · exact .inl ⟨y,z,e1,e2⟩
      · exact .inr h
theorem cH{env:Env}:∀{names:List (Str × NameKind)} {x:Str},(∀y∈names,y.2≠.cell)→(names.map fun(n,k)=>if (k==NameKind.free&&env.scope.kind==.function&&env.kindOf n==some .cell) then(n,NameKind.cell) else(n,k)).lookup x=some .cell∨
    (names.map fun(n,k)=>if (k==NameKind.free&&env.scope.kind==.function&&env.kindOf n==some .cell) then(n,NameKind.cell) else(n,k)).lookup x=some .free→∃y∈names,y.1=x∧y.2=.free
  | [],x,_,h=>by simp at h
  | (n,k)::r,x,hc,h=>by
    have ih:=@cH env r x (fun y hy=>hc y (List.mem_cons_of_mem _ hy))
    have nc:k≠.cell:=hc (n,k) List.mem_cons_self
    rw [List.map_cons] at h
    cases hx:x==n with
    | true=>
      have e1:x=n:=by simpa using hx
      subst e1
      refine⟨(x,k),List.mem_cons_self,rfl,?_⟩
      by_cases q:(k==NameKind.free&&env.scope.kind==.function&&env.kindOf x==some .cell)=true
      · simp only [Bool.and_eq_true,beq_iff_eq] at q;exact q.1.1
      · simp only [q,Bool.false_eq_true,if_false,List.lookup_cons,beq_self_eq_true,Option.some.injEq] at h
        rcases h with h | h
        · exact absurd h nc
        · exact h
    | false=>
      have e2:∀(l:List (Str × NameKind)),((if (k==NameKind.free&&env.scope.kind==.function&&env.kindOf n==some .cell)=true then(n,NameKind.cell) else(n,k))::l).lookup x=l.lookup x:=fun l=>by
        split<;>simp [List.lookup_cons,hx]
      simp only [e2] at h
      obtain⟨y,hy,z⟩:=ih h
      exact⟨y,List.mem_cons_of_mem _ hy,z⟩
theorem dw{env:Env}:∀{names:List (Str × NameKind)} {x:Str},names.lookup x=some .free→
    (names.map fun(n,k)=>if (k==NameKind.free&&env.scope.kind==.function&&env.kindOf n==some .cell) then(n,NameKind.cell) else(n,k)).lookup x≠some .local
  | [],x,h=>by simp at h
  | (n,k)::r,x,h=>by
    rw [List.map_cons]
    cases hx:x==n with
    | true=>
      simp only [hx,List.lookup_cons] at h
      cases h
      show List.lookup x ((if (NameKind.free==NameKind.free&&env.scope.kind==.function&&env.kindOf n==some .cell)=true then(n,NameKind.cell) else(n,NameKind.free))::_)≠_
      split<;>simp [List.lookup_cons,hx]
    | false=>
      simp only [hx,List.lookup_cons] at h
      have ih:=@dw env r x h
      have e2:∀(l:List (Str × NameKind)),((if (k==NameKind.free&&env.scope.kind==.function&&env.kindOf n==some .cell)=true then(n,NameKind.cell) else(n,k))::l).lookup x=l.lookup x:=fun l=>by
        split<;>simp [List.lookup_cons,hx]
      simp only [e2]
      exact ih
def av(X:Cx)(scope:Scope)(cp:List (Nat × Str))(tgN:List Str)(C:Addr)(s0:Shared)(H0:Hp)(fp:List Addr):Cx where
  prog:=X.prog
  w:=X.w
  K:=X.K
  mg:=X.mg
  base:=X.base
  A:=X.A
  N:=cp.map (·.2)++tgN
  s₀:=s0
  H₀:=H0
  env:=compEnvC scope (fF X.env scope.names []) C X.env
  outer:=X.stack
  stack:=X.stack
  ex:=fp
  fn:=fun x=>scope.names.lookup x==some .local
  calm:=X.calm
  pn:=[]
  xe:=fun _ _=>False
def si(X:Cx)(ifs:List Expr)(t:TT):Prop:=
  ∀(pins:List (Addr × Obj)) (s:Shared) (σ:L2.St) (H:Hp) (Q:Bool→Hp→Prop),ar X pins σ H s→t σ H Q→
    wpAny (model X.prog X.w) X.A (forIn ifs true fun c r=>if r=true then do let ok ←isTrue c X.env (eval c X.env);pure (ForInStep.yield ok) else pure (ForInStep.yield r)) (TP X pins σ Q) X.xe s
theorem xm{X:Cx}:si X [] (fun _ H Q=>Q true H):=fun _ _ _ H _ I h=>wpAny_tests_nil ⟨H,I,h⟩
abbrev qm:Value→Shared→Prop:=fun _ _=>False
def sO(prog:Program)(w:World)(A:Around)(elt tg:Expr)(ifs:List Expr)(env:Env)(it acc:Value)(onward:Shared→Prop)(v:Value)(u:Shared):Prop:=
  wpAny (model prog w) A (letOwnedTupleGo tg it v) (fun _ u1=>wpAny (model prog w) A (assign tg env v) (fun _ u2=>wpAny (model prog w) A
    (forIn ifs true fun c r=>if r=true then do let ok ←isTrue c env (eval c env);pure (ForInStep.yield ok) else pure (ForInStep.yield r)) (fun ok u3=>if ok=true then wpAny (model prog w) A (eval elt env) (fun x u4=>wpAny (model prog w) A (call (.builtin "list.append") [acc,x]) (fun _ u5=>onward u5) qm u4) qm u3 else onward u3) qm u2) qm u1) qm u
theorem mB{prog:Program}{w:World}{A:Around}{R:Result→Shared→Prop}{elt tg iter:Expr}{ifs:List Expr}{scope:Scope}{pos:Pos}{it acc:Value}{env:Env}(J:Nat→Shared→Prop)
    (turn:∀n u,J n u→wpAny (model prog w) A (pyNext it) (fun r u1=>(r=none→R (.ok .next) u1)∧∀v,r=some v→sO prog w A elt tg ifs env it acc (fun u2=>∃m,m < n∧J m u2) v u1) qm u){n0:Nat}{u0:Shared}(dB:J n0 u0):
    codeAny (model prog w) A (.compLoop (.ListComp elt [⟨tg,iter,ifs,0⟩] scope pos) 0 it acc env) R u0:=by
  refine codeAny_loop rfl J (fun n u ju=>?_) n0 dB
  show wpAny _ A ((compTurn (.ListComp elt [⟨tg,iter,ifs,0⟩] scope pos) 0 it acc env).onRaise _) _ _ u;refine wpAny_noted ?_;rw [compTurn_list]
  refine wpAny_bind (wpAny_standAt (wpAny_bind (wpAny_mono (turn n u ju) (fun r u1 k1=>?_) fun _ _ z=>z.elim)))
  cases r with
  | none=>exact wpAny_pure (k1.1 rfl)
  | some v=>
    refine wpAny_bind (wpAny_mono (k1.2 v rfl) (fun _ u2 k2=>wpAny_bind (wpAny_mono k2 (fun _ u3 k3=>wpAny_bind (wpAny_mono k3 (fun ok u4 k4=>?_) fun _ _ z=>z.elim)) fun _ _ z=>z.elim)) fun _ _ z=>z.elim)
    cases ok with
    | false=>rw [if_neg Bool.false_ne_true] at k4;exact wpAny_pure ⟨rfl,k4⟩
    | true=>
      rw [if_pos rfl] at k4
      refine wpAny_bind (wpAny_bind (wpAny_mono k4 (fun x u5 k5=>wpAny_bind (wpAny_mono k5 (fun _ u6 k6=>?_) fun _ _ z=>z.elim)) fun _ _ z=>z.elim));exact wpAny_pure (wpAny_pure ⟨rfl,k6⟩)
def dn(cp:List (Nat × Str))(nT:Nat)(σ:L2.St):L2.St:=cp.map (fun p=>(σ[p.1]?).join)++List.replicate nT none
structure yz (cp:List (Nat × Str)) (nT:Nat) (wi:TI) (g:TG) (tc:TT) (te:TE) (σ:L2.St) (H:Hp) (Q:VK):Prop where
  go:wi σ H fun J H1=>∀l,H1 l=none→
  ∃W:Nat→Nat→L2.St→Hp→Prop,(∃m,W 0 m (dn cp nT σ) (a7 H1 l (.lst [])))∧∀i m σ' H',W i m σ' H'→
    (J.stop i H'∧Q (.ref l) H')∨(J.go i H'∧∃N:L2.St→Hp→Prop,(∀σ2 H2,N σ2 H2→∃m',m' < m∧W (i+1) m' σ2 H2)∧
      ∀x H2,J.yld i H' x H2→g x σ' H2 fun σ2 H3=>tc σ2 H3 fun b H4=>if b=true then te σ2 H4 fun v H5=>∃ys,H5 l=some (.lst ys)∧ys.length < sizeLine∧N σ2 (a7 H5 l (.lst (ys++[v]))) else N σ2 H4)
theorem wV{X:Cx}{elt iter tg:Expr}{ifs:List Expr}{scope:Scope}{pos:Pos}{wi:TI}{g:TG}{tc:TT}{te:TE}(sc0:Scope)(N0:List Str)(cp:List (Nat × Str))(tgN:List Str)
    (hc:X.calm=true)(hsc:X.env.scope=sc0)(hN0:X.N=N0)(hi:PI X tg iter wi)
    (hg:∀C s0 H0 fp,PG (av X scope cp tgN C s0 H0 fp) tg g)
    (ht:∀C s0 H0 fp,si (av X scope cp tgN C s0 H0 fp) ifs tc)
    (he:∀C s0 H0 fp,PE (av X scope cp tgN C s0 H0 fp) elt te)
    (hk:scope.kind=.function)(hcell:∀y∈scope.names,y.2≠.cell)(hnames:∀y∈scope.names,y.2=.local→scope.names.lookup y.1=some .local)
    (hfr:∀y∈scope.names,y.2=.free→scope.names.lookup y.1=some .free∧sc0.names.lookup y.1=some .cell)
    (hcp:∀p∈cp,N0[p.1]?=some p.2)(hcq:∀p∈cp,sc0.names.lookup p.2=some .cell∧scope.names.lookup p.2=some .free)
    (hs:∀x,foldedSetIterable iter X.env x=pure x:=by intro _;rfl):
    PE X (.ListComp elt [⟨tg,iter,ifs,0⟩] scope pos) (yz cp tgN.length wi g tc te):=by
  intro pins s σ H Q I h
  have hkind:∀x,X.env.kindOf x=sc0.names.lookup x:=fun x=>by unfold Env.kindOf;rw [hsc]
  have hfree:∀y∈scope.names,y.2=.free→∃c,X.env.cells.lookup y.1=some c:=fun y hy e=>I.ok.has y.1 (.inl (by rw [hkind];exact(hfr y hy e).2))
  rw [eval_ListComp]
  refine wpAny_comprehension_free (use:=none) rfl hs (j3 hfree) hk hnames (wpAny_mono (hi pins s σ H _ I h.go) (fun xv s₁ h₁=>wpAny_mono h₁ (fun itv s₂ h₂=>?_) fun _ _ e=>e) fun _ _ e=>e)
  obtain⟨it,fp,tn,J,H2,rfl,I2,T,st2,f2,hq⟩:=h₂
  refine wpAny_newObj_type ?_
  have hlF:H2 s₂.heap.objs.size=none:=I2.hok.fresh (Nat.le_refl _)
  have I3:ar X pins σ (a7 H2 s₂.heap.objs.size (.lst [])) {s₂ with heap:=s₂.heap.push {cls:=.type "list",data:=.seq ([]:List Value).toArray}}:=I2.lnew (t':=s₂.toks) .nil (Nat.zero_le _)
  obtain⟨W,⟨m0,w0⟩,turn⟩:=hq _ hlF
  have f3:∀b∈fp,iI X pins (a7 H2 s₂.heap.objs.size (.lst [])) b:=fun b hb=>by
    obtain⟨f0,fr⟩:=f2 b hb
    obtain⟨o,ho,_⟩:=T.obj _ _ st2 b hb
    exact⟨by rw [aB (Nat.ne_of_lt (Heap.lt_size ho))];exact f0,fr⟩
  have st3:tn 0 (s₂.heap.push {cls:=.type "list",data:=.seq ([]:List Value).toArray}):=T.keep _ _ _ st2 fun b _ o e=>Heap.get?_push_of_some _ e
  generalize hD:s₂.heap.objs.size=D at*
  generalize hs3:({s₂ with heap:=s₂.heap.push {cls:=.type "list",data:=.seq ([]:List Value).toArray}}:Shared)=s₃ at*
  have hst3:tn 0 s₃.heap:=by rw [←hs3];exact st3
  refine wpAny_newFunctionEnv hcell (by intro y hy;simp at hy) (fun h₁ hns₁ hsb₁=>?_) hk
  generalize hC:s₃.heap.objs.size=C at*
  have old:∀b o,s₃.heap.get? b=some o→h₁.get? b=some o:=fun b o e=>hsb₁.extBut b o (by rw [←hC];exact Nat.ne_of_lt (Heap.lt_size e)) (Heap.get?_push_of_some _ e)
  have nC:∀b o,s₃.heap.get? b=some o→b≠C:=fun b o e=>by rw [←hC];exact Nat.ne_of_lt (Heap.lt_size e)
  have hHC:(a7 H2 D (.lst [])) C=none:=I3.hok.fresh (by rw [hC];exact Nat.le_refl _)
  have clS:∀x c,(fF X.env scope.names []).lookup x=some c→X.env.cells.lookup x=some c:=fun x c e=>gR _ _ x c hfree (fun _ _ z=>by simp at z) e
  have clH:∀x,(∃y∈scope.names,y.1=x∧y.2=.free)→∃c,(fF X.env scope.names []).lookup x=some c:=fun x e=>j2 _ _ x (.inl e)
  have ok':(av X scope cp tgN C s₃ (a7 H2 D (.lst [])) fp).Ok:=by
    refine⟨I.ok.mod,hk,I.ok.glob,I.ok.blt,by rw [←hC];exact Nat.le_refl _,fun x y c e1 e2=>I.ok.inj x y c (clS _ _ e1) (clS _ _ e2),fun x e=>clH x (cH hcell e),fun x c e1 e2=>?_,I.ok.hd,I.ok.frames,.inl rfl,fun b hb=>?_,fun b o e=>I3.bs b o e,?_,fun b o e hb=>?_,fun b hb z=>?_,I3.stack,fun b hb=>I3.stkFree b hb⟩
    · exfalso
      have e1':scope.names.lookup x=some .local:=by simpa [av] using e1
      have e2':=clS x c e2
      obtain⟨c',hc'⟩:∃y∈scope.names,y.1=x∧y.2=.free:=by
        by_cases q:∃y∈scope.names,y.1=x∧y.2=.free
        · exact q
        · exfalso
          have:∀(names:List (Str × NameKind)) (cs:List (Str × Addr)),(¬∃y∈names,y.1=x∧y.2=.free)→cs.lookup x=none→(fF X.env names cs).lookup x=none:=by
            intro names
            induction names with
            | nil=>intro cs _ h;exact h
            | cons y r ih=>
              intro cs hn hcs
              obtain⟨n,k⟩:=y
              refine ih _ (fun⟨y,hy,z⟩=>hn ⟨y,List.mem_cons_of_mem _ hy,z⟩) ?_
              by_cases hk:(k==NameKind.free)=true
              · rw [if_pos hk,List.lookup_cons]
                cases hx:x==n with
                | true=>exact absurd ⟨(n,k),List.mem_cons_self,(by simpa using hx:x=n).symm,by simpa using hk⟩ hn
                | false=>exact hcs
              · rw [if_neg hk];exact hcs
          have z:=this scope.names [] q rfl
          have e2'':(fF X.env scope.names []).lookup x=some c:=e2
          rw [z] at e2'';cases e2''
      have z:=(hfr c' hc'.1 hc'.2.2).1
      rw [hc'.2.1,e1'] at z;cases z
    · obtain⟨f0,f1,f4,f5,f6,f7⟩:=f3 b hb
      obtain⟨o,ho,_⟩:=T.obj _ _ hst3 b hb
      exact⟨nC b o ho,fun x c e=>f6 x c (clS x c e)⟩
    · exact Nat.le_trans I.ok.bsz I3.sz
    · obtain⟨f0,f1,f4,f5,f6,f7⟩:=f3 b hb
      rcases f5 with z | z
      · exact I.ok.noex b o e z
      · have:=(I.ok.bs b o e).1
        exact absurd (Nat.lt_of_lt_of_le (Heap.lt_size this) z) (Nat.lt_irrefl _)
    · obtain⟨f0,f1,f4,f5,f6,f7⟩:=f3 b hb
      rcases List.mem_cons.mp (I3.stkSub b z) with z | z
      · exact f1 z
      · exact f4 z
  have I4:ar (av X scope cp tgN C s₃ (a7 H2 D (.lst [])) fp) [] (dn cp tgN.length σ) (a7 H2 D (.lst [])) {s₃ with heap:=h₁,toks:=s₃.toks+([]:List (Str × Value)).length}:=by
    refine⟨ok',rfl,I3.bare,Un.kept old,⟨_,hns₁,fun i x v e1 e2 e3=>?_⟩,fun x c e=>?_,hHC,fun x c e=>I3.freeC x c (clS x c e),fun p hp=>by simp [av] at hp,I3.hok.kept old,by simp [dn,av]⟩
    · have hlt:i < cp.length:=by
        by_cases q:i < cp.length
        · exact q
        · exfalso
          unfold dn at e2
          rw [List.getElem?_append_right (by simp;lia)] at e2
          rw [List.getElem?_replicate] at e2
          split at e2<;>cases e2
      have e1':(cp.map (·.2))[i]?=some x:=by
        have e1'':(cp.map (·.2)++tgN)[i]?=some x:=e1
        rwa [List.getElem?_append_left (by simp;exact hlt)] at e1''
      have e2':(cp.map (fun p=>(σ[p.1]?).join))[i]?=some (some v):=by
        unfold dn at e2
        rwa [List.getElem?_append_left (by simp;exact hlt)] at e2
      rw [List.getElem?_map,List.getElem?_eq_getElem hlt] at e1' e2'
      have ex:(cp[i]).2=x:=by simpa using e1'
      have ev:(σ[(cp[i]).1]?).join=some v:=by simpa using e2'
      have ev':σ[(cp[i]).1]?=some (some v):=by
        cases q:σ[(cp[i]).1]? with
        | none=>rw [q] at ev;cases ev
        | some z=>rw [q] at ev;simp only [Option.join_some] at ev;rw [ev]
      have hN:=hcp cp[i] (List.getElem_mem hlt)
      rw [←hN0] at hN
      obtain⟨hcl,hcf⟩:=hcq cp[i] (List.getElem_mem hlt)
      rw [ex] at hN hcl hcf
      obtain⟨m,hn,hl⟩:=I3.loc
      obtain⟨u,r,l⟩:=hl _ x v hN ev' (.inr (.inl (by rw [hsc];exact hcl)))
      refine⟨u,r,.inr ?_⟩
      rcases l with ⟨k1,_⟩ | ⟨k1,c,hcc,o,ho,hd⟩
      · rw [hkind,hcl] at k1;cases k1
      · have e3':(relabel scope X.env).names.lookup x=some .local∨(relabel scope X.env).names.lookup x=some .cell∨(relabel scope X.env).names.lookup x=some .free:=e3
        have nl:(relabel scope X.env).names.lookup x=some .cell∨(relabel scope X.env).names.lookup x=some .free:=by
          rcases e3' with z | z | z
          · exact absurd z (dw hcf)
          · exact .inl z
          · exact .inr z
        obtain⟨c',hc'⟩:=clH x (cH hcell nl)
        have:=clS x c' hc'
        rw [hcc] at this;cases this
        exact⟨nl,c,hc',o,old c o ho,hd⟩
    · obtain⟨v,o,ho,hd⟩:=I3.cell x c (clS x c e)
      exact⟨v,o,old c o ho,hd⟩
  have hst4:tn 0 h₁:=T.keep _ _ _ hst3 fun b _ o e=>old b o e
  have loop:codeAny (model X.prog X.w) X.A (.compLoop (.ListComp elt [⟨tg,iter,ifs,0⟩] scope pos) 0 (.ref it) (.ref D) (compEnvC scope (fF X.env scope.names []) C X.env))
      (compPost (model X.prog X.w) X.A X.xe none (EP X pins σ Q) (.ref D) C) {s₃ with heap:=h₁,toks:=s₃.toks+([]:List (Str × Value)).length}:=by
    refine mB (fun n s'=>∃i σ' H',ar (av X scope cp tgN C s₃ (a7 H2 D (.lst [])) fp) [] σ' H' s'∧tn i s'.heap∧(∀b∈fp,H' b=none)∧W i n σ' H') ?_ (n0:=m0) ⟨0,_,_,I4,hst4,fun b hb=>(f3 b hb).1,w0⟩
    rintro n s5 ⟨i,σ5,H5,I5,st5,fr5,w5⟩
    have stat:∀{H':Hp},(∀b∈fp,H' b=none)→∀b∈fp,iI (av X scope cp tgN C s₃ (a7 H2 D (.lst [])) fp) [] H' b:=fun hn b hb=>
      ⟨hn b hb,(ok'.exf b hb).1,ok'.exfs b hb,.inl hb,(ok'.exf b hb).2,fun p hp=>by simp [av] at hp⟩
    rcases turn i n σ5 H5 w5 with ⟨stop,qn⟩ | ⟨go,N,hN,step⟩
    · refine bw (T.done (av X scope cp tgN C s₃ (a7 H2 D (.lst [])) fp) rfl rfl rfl hc i [] s5 σ5 H5 (fun _ _=>False) I5 (stat fr5) st5 stop) fun r s6 ⟨hr,I6⟩=>?_
      subst hr
      refine⟨fun _=>?_,fun v z=>by cases z⟩
      obtain⟨m,hn,_⟩:=I6.loc
      refine⟨m,hn,fun h' sb=>⟨.ref D,H5,?_,rfl,qn⟩⟩
      have ub:=I6.base
      have kp:∀b u,b≠C→s6.heap.get? b=some u→h'.get? b=some u:=fun b u ne e=>sb.extBut b u ne e
      have nit:∀b u,H5 b=some u→b≠C:=fun b u e z=>by
        have:=I6.free
        rw [z] at e
        rw [show H5 C=none from this] at e;cases e
      refine I3.call' (s':={s6 with heap:=h'}) (ch:=fp) I6.os ⟨fun b o e n hb hx=>kp b o (nC b o e) (ub.keep b o e n hb hx),fun b o e n hb hx=>?_,ub.free,fun b o e hx=>?_,ub.tups,ub.frzs,ub.tbls⟩ (fun b u e=>?_) I6.bare (fun b hb=>?_)
      · obtain⟨sl,q⟩:=ub.slot b o e n hb hx
        exact⟨sl,kp b _ (nC b o e) q⟩
      · obtain⟨o',q⟩:=ub.there b o e hx
        exact⟨o',kp b _ (nC b o e) q⟩
      · refine(I6.hok b u e).stay (fun c v hc q=>kp c v ?_ q) (fun _ q=>q) fun _ _ q=>q
        rcases hc with z | z
        · rw [z];exact nit b u e
        · exact nit c _ z
      · obtain⟨f0,f1,f4,f5,f6,f7⟩:=f3 b hb
        exact⟨f5,f1,f6,f7⟩
    · refine bw (T.item (av X scope cp tgN C s₃ (a7 H2 D (.lst [])) fp) rfl rfl rfl hc i [] s5 σ5 H5 (fun _ _=>False) I5 (stat fr5) st5 go) fun r s6 ⟨u,hr,h6⟩=>?_
      subst hr
      refine⟨fun z=>(by cases z),fun v z=>?_⟩
      cases z
      refine bw h6 fun _ s7 ⟨x,H7,I7,r7,y7,st7,fr7⟩=>?_
      have I7':=I7.pinned (stat fr7) (T.obj _ _ st7)
      have again:∀{σ8:L2.St} {H8:Hp} {s8:Shared},ar (av X scope cp tgN C s₃ (a7 H2 D (.lst [])) fp) ([]++g9 fp s7.heap) σ8 H8 s8→N σ8 H8→∃m,m < n∧∃i σ' H',ar (av X scope cp tgN C s₃ (a7 H2 D (.lst [])) fp) [] σ' H' s8∧tn i s8.heap∧(∀b∈fp,H' b=none)∧W i m σ' H':=fun{σ8 H8 s8} I8 n8=>by
        obtain⟨m',hm,w8⟩:=hN σ8 H8 n8
        refine⟨m',hm,i+1,σ8,H8,I8.unpinned,T.keep _ _ _ st7 fun b hb o e=>(I8.pin (b,o) (List.mem_append_right _ (List.mem_append_right _ (bR hb e)))).1,fun b hb=>?_,w8⟩
        obtain⟨o,e,d⟩:=T.obj _ _ st7 b hb
        exact(I8.pin (b,o) (List.mem_append_right _ (List.mem_append_right _ (bR hb e)))).2.1
      refine bw (hg C s₃ (a7 H2 D (.lst [])) fp _ s7 σ5 H7 x u _ I7' r7 (step x H7 y7)) fun _ s8 ⟨σ8,H8,I8,q8⟩=>?_
      refine bw (ht C s₃ (a7 H2 D (.lst [])) fp _ s8 σ8 H8 _ I8 q8) fun ok s9 ⟨H9,I9,q9⟩=>?_
      cases ok with
      | false=>
        rw [if_neg Bool.false_ne_true] at q9 ⊢
        exact again I9 q9
      | true=>
        rw [if_pos rfl] at q9 ⊢
        refine bw (he C s₃ (a7 H2 D (.lst [])) fp _ s9 σ8 H9 _ I9 q9) fun v s10 ⟨xv,H10,I10,r10,ys,hl,hz,n10⟩=>?_
        refine bw (iS _ s10 σ8 H10 (.ref D) [xv] (.ref D) [v] (fun _ H=>N σ8 H) I10 rfl (.cons r10 .nil) ⟨D,ys,xv,rfl,rfl,hl,hz,n10⟩) fun _ s11 ⟨_,H11,I11,_,q11⟩=>?_
        exact again I11 q11
  exact codeAny_compStart_list loop (T.self X.A 0 _ _ _ hst4 loop)
end L2
namespace L2
open PySem PySem.Spec PyProof.Rows
section
variable{X:Cx}
def uR(K:PySem.W.Frag):R2:=fun x y H Q=>∃a b xs ys,x=.ref a∧y=.ref b∧cM K H a xs∧cM K H b ys∧xs.length+ys.length≤sizeLine∧∀p H',aq H H'→cM K H' p (xs++ys)→Q (.ref p) H'
theorem wH:dy X (binaryOp .Add) (uR X.K):=by
  intro pins s σ H x y v u Q I rx ry h
  obtain⟨a,b,xs,ys,rfl,rfl,ha,hb,hz,q⟩:=h
  cases rx;cases ry
  by_cases hx:xs=[]
  · obtain⟨i1,r1,p1,_⟩:=I.tuple ha
    obtain⟨i2,r2,p2,_⟩:=I.tuple hb
    obtain⟨m,F⟩:=I.fr
    have e1:i1=[]:=by subst hx;cases r1;rfl
    refine add_tuples F (ui (g:=X.base)) p1 p2 (fun _=>?_) (fun z1 _=>absurd e1 z1) (fun z1 _ _ _ _=>absurd e1 z1) (by rw [←r1.length,←r2.length];exact hz)
    exact⟨.ref b,H,I,rfl,q b H (aq.refl H) (by rw [hx];exact hb)⟩
  · exact wJ pins s σ H (.ref a) (.ref b) _ _ Q I rfl rfl ⟨a,b,xs,ys,rfl,rfl,ha,hb,hx,hz,fun z=>q a H (aq.refl H) (by rw [z,List.append_nil];exact ha),fun _ p hp=>q p _ (aq.new hp) (cM.of am)⟩
theorem gZ{x:V}{us:List Value}(r:aF [x] us):∃u,us=[u]∧bf x u:=by
  cases r with
  | cons p p'=>cases p';exact⟨_,rfl,p⟩
theorem nF{prog:Program}{w:World}{A:Around}{E:Value→Shared→Prop}{s:Shared}{t:Addr}{vs:List Value}{Q:List Value→Shared→Prop}(ht:IsTup s.heap t vs.toArray)
    (h:Q vs {s with heap:=(s.heap.push (seqObj "list" #[] 0)).update s.heap.objs.size (Obj.mapSeq (· ++vs.toArray))})(hsz:vs.length≤sizeLine):wpAny (model prog w) A (collect (.ref t)) Q E s:=by
  obtain⟨o,ho,hc,n,hd⟩:=id ht;unfold collect;refine wpAny_bind (wpAny_runValue (codeAny_builtin entry_proto_collect' ?_))
  show wpAny _ _ (do again (.builtin "list.__iadd__" ⟨[←newList [],.ref t],[]⟩)) _ _ s
  refine wpAny_bind (wpAny_newList (wpAny_pure ⟨Code.quiet_builtin _ (by decide+kernel),?_⟩));refine codeAny_builtin entry_list_iadd' ?_
  show wpAny _ _ (Builtin.List.listExtendWith (.ref s.heap.objs.size) (.ref t) (.ref s.heap.objs.size)) _ _ {s with heap:=s.heap.push (seqObj "list" #[] 0)}
  unfold Builtin.List.listExtendWith;have ho':(s.heap.push (seqObj "list" #[] 0)).get? t=some o:=Heap.get?_push_of_some _ ho
  refine wpAny_bind (wpAny_typeOf (T:="tuple") ⟨o,ho',hc⟩ ?_)
  rw [if_pos (by rw [show(Value.type "tuple"==Value.type "tuple")=true from rfl,Bool.or_true])]
  refine wpAny_bind (listItems_at ho' hd ?_);refine wpAny_bind (listItems_at (xs:=#[]) (n:=0) (Heap.get?_push_size _ rfl) rfl ?_)
  rw [if_neg (by simp)];refine wpAny_bind (listUpdate_at (xs:=#[]) (n:=0) (Heap.get?_push_size _ rfl) rfl ?_ (Nat.zero_le _) (by show(#[]++vs.toArray).size≤sizeLine+1;simp only [Array.size_append,List.size_toArray,List.length_nil];lia))
  refine wpAny_pure ?_
  show wpAny (model prog w) A (load s.heap.objs.size >>= fun o=>match o.data with | .seq xs _=>pure xs.toList | _=>unsupported "internal:collect") Q E {s with heap:=(s.heap.push (seqObj "list" #[] 0)).update s.heap.objs.size (Obj.mapSeq (· ++vs.toArray))}
  refine wpAny_bind (wpAny_load (get?_update_seq (Heap.get?_push_size _ rfl) _) ?_);show wpAny _ _ (pure ((#[]:Array Value)++vs.toArray).toList) Q E _;rw [show((#[]:Array Value)++vs.toArray).toList=vs by simp];exact wpAny_pure h
theorem pK{prog:Program}{w:World}{A:Around}{E:Value→Shared→Prop}{s:Shared}{t:Addr}{vs:List Value}{ns:List Int}{Q:Value→Shared→Prop}(ht:IsTup s.heap t vs.toArray)(hI:IntsAre vs ns)(h64:vs.length < 64)
    (h:∀(out:Array Value) (ns':List Int),IntsAre out.toList ns'→ns'.Perm ns→ns'.Pairwise (· ≤·)→Q (.ref (s.heap.objs.size+1)) {s with heap:=sortedAll s.heap vs out}):wpAny (model prog w) A (call (.builtin "sorted") [.ref t]) Q E s:=by
  refine Calls.call_function_entry kind_sorted plain_sorted entry_sorted (args_sorted1 _) ?_;unfold Builtin.«sorted»
  refine wpAny_bind (m:=checkCount "sorted" 1 1 _) (wpAny_pure ?_);refine wpAny_bind (nF ht ?_ (Nat.le_trans (Nat.le_of_lt h64) (by decide)))
  have z:((s.heap.push (seqObj "list" #[] 0)).update s.heap.objs.size (Obj.mapSeq (· ++vs.toArray))).objs.size=s.heap.objs.size+1:=by rw [Heap.size_update,size_push']
  have o:(((s.heap.push (seqObj "list" #[] 0)).update s.heap.objs.size (Obj.mapSeq (· ++vs.toArray))).push (seqObj "list" vs.toArray 0)).get? (s.heap.objs.size+1)=some (seqObj "list" vs.toArray 0):=by rw [←z];exact Heap.get?_push_size _ rfl
  refine wpAny_bind (wpAny_newList ?_);show wpAny _ _ _ _ _ {s with heap:=((s.heap.push (seqObj "list" #[] 0)).update s.heap.objs.size (Obj.mapSeq (· ++vs.toArray))).push (seqObj "list" vs.toArray 0)}
  rw [z];refine wpAny_bind (wpAny_holding (wpAny_call_entry slot_list_sort ⟨_,o,rfl⟩ entry_list_sort (list_sort_tree o hI h64 fun out ns' b1 b2 b3=>⟨_,rfl,?_⟩) (args_list_sort _)))
  exact wpAny_pure ⟨_,rfl,h out ns' b1 b2 b3⟩
theorem ji:bO X (.builtin "sorted") (fun xs H Q=>∃(a:Addr) (ns:List Int),xs=[.ref a]∧cM X.K H a (ns.map V.int)∧ns.length < 64∧∀(l:Addr) (ns':List Int) (H':Hp),aq H H'→H l=none→H' l=some (.lst (ns'.map V.int))→ns'.Perm ns→ns'.Pairwise (· ≤·)→Q (.ref l) H'):=by
  intro pins s σ H xs us Q I r h
  obtain⟨a,ns,rfl,hs,h64,q⟩:=h
  obtain⟨u,rfl,ru⟩:=gZ r
  cases ru
  obtain⟨its,rv,p,hz⟩:=I.tuple hs
  have hl:=rv.length
  rw [List.length_map] at hl
  refine pK p (dY rv) (by lia) fun out ns' a1 a2 a3=>?_
  obtain⟨e,he⟩:=sortedAll_at s.heap its out
  have hf:H (s.heap.objs.size+1)=none:=I.hok.fresh (Nat.le_succ _)
  refine⟨.ref (s.heap.objs.size+1),a7 H (s.heap.objs.size+1) (.lst (ns'.map V.int)),I.laid (t':=s.toks) (fun _ _=>sortedAll_old) (Nat.le_succ _) ⟨?_,out.toList,e,eP a1,?_⟩,rfl,q _ ns' _ (aq.new hf) hf am a2 a3⟩
  · rw [List.length_map,a2.length_eq]
    exact Nat.le_trans (Nat.le_of_lt h64) (by decide)
  · simpa [seqObj] using he
end
end L2
namespace L2
open PySem PySem.Spec PyProof.Rows
section
variable{X:Cx}
end
theorem rX{e:Expr}{es:List Expr}{env:Env}(h:PySem.W.isStarred e=false):starEach (e::es) env=(false,eval e env)::starEach es env:=by
  cases e<;>first | rfl | cases h
theorem Dn{X:Cx}{e:Expr}{es:List Expr}{te:TE}{t:TA}(ha:PE X e te)(hr:PA X es t)(h:PySem.W.isStarred e=false:=by rfl):PA X (e::es) (jx te t):=fj ha hr (rX h)
def qJ:List (Int × Int)→TA
  | []=>xH
  | p::r=>jx (Cq (jx (tC (.int p.1)) (jx (tC (.int p.2)) xH))) (qJ r)
@[irreducible] def Dx(ps:List (Int × Int)):TA:=qJ ps
structure jT where
  one:Int
  other:Int
  top:Int
  bot:Int
  worth:Int
structure bE where
  things:Int
  ties:List jT
  pat:List Int
  asks:Int
structure jT.Ok (n:Int) (t:jT):Prop where
  o0:0≤t.one
  o1:t.one < t.other
  o2:t.other < n
  c0:0≤t.top
  c1:t.top≤t.bot
  b0:1≤t.bot
  b1:t.bot≤100
  w0:0≤t.worth
  w1:t.worth≤1000
  cop:Int.gcd t.top t.bot=1
structure bE.Ok (w:bE):Prop where
  t0:0≤w.things
  t1:w.things≤12
  ties:∀t∈w.ties,t.Ok w.things
  len:w.ties.length≤16
  pl:(w.pat.length:Int)=w.things
  pat:∀p∈w.pat,0≤p∧p≤20
  a0:0≤w.asks
  a1:w.asks≤40
def AU(K:PySem.W.Frag)(H:Hp)(v:V)(t:jT):Prop:=∃p q,v=.ref p∧cM K H p [.int t.one,.int t.other,.ref q,.int t.worth]∧cM K H q [.int t.top,.int t.bot]
inductive ml (K:PySem.W.Frag) (H:Hp):List V→List jT→Prop
  | nil:ml K H [] []
  | cons {v vs t ts}:AU K H v t→ml K H vs ts→ml K H (v::vs) (t::ts)
structure DN (K:PySem.W.Frag) (H:Hp) (v:V) (w:bE):Prop where
  ex:∃a b c ts,v=.ref a∧cM K H a [.int w.things,.ref b,.ref c,.int w.asks]∧cM K H b ts∧ml K H ts w.ties∧cM K H c (w.pat.map V.int)
section
variable{K:PySem.W.Frag}{H H':Hp}
end
theorem pq{t b:Int}(hb:0 < b)(h0:0≤t)(h1:t≤b)(h2:b≤100):0≤(du t b).1∧(du t b).1≤(du t b).2∧1≤(du t b).2∧(du t b).2≤100:=by
  obtain⟨d,e1,e2,e3,e4,e5⟩:=lR (t:=t) (b:=b) (by lia)
  generalize (du t b).1=x at*
  generalize (du t b).2=y at*
  have dp:0 < d:=by
    rcases Int.lt_or_gt_of_ne e2 with z | z
    · exfalso
      have:y*d < 0:=Int.mul_neg_of_pos_of_neg e5 z
      lia
    · exact z
  have x0:0≤x:=by
    rcases Int.lt_or_le x 0 with z | z
    · have:x*d < 0:=Int.mul_neg_of_neg_of_pos z dp
      lia
    · exact z
  have xy:x≤y:=by
    rcases Int.lt_or_le y x with z | z
    · have:y*d < x*d:=Int.mul_lt_mul_of_pos_right z dp
      lia
    · exact z
  have yb:y≤y*d:=by
    have:=Int.mul_le_mul_of_nonneg_left (show(1:Int)≤d by lia) (show 0≤y by lia)
    lia
  exact⟨x0,xy,by lia,by lia⟩
end L2
namespace L2
open PySem PySem.Spec PyProof.Rows
inductive jA {α β:Type} (R:α→β→Prop):List α→List β→Prop
  | nil:jA R [] []
  | cons {a b as bs}:R a b→jA R as bs→jA R (a::as) (b::bs)
namespace jA
variable{α β:Type}{R S:α→β→Prop}
theorem mono(h:∀a b,R a b→S a b):∀{as:List α} {bs:List β},jA R as bs→jA S as bs
  | _,_,.nil=>.nil
  | _,_,.cons x r=>.cons (h _ _ x) (mono h r)
theorem len:∀{as:List α} {bs:List β},jA R as bs→as.length=bs.length
  | _,_,.nil=>rfl
  | _,_,.cons _ r=>by simp [len r]
theorem snoc{a:α}{b:β}(h:R a b):∀{as:List α} {bs:List β},jA R as bs→jA R (as++[a]) (bs++[b])
  | _,_,.nil=>.cons h .nil
  | _,_,.cons x r=>.cons x (snoc h r)
theorem get:∀{as:List α} {bs:List β} {i:Nat} {b:β},jA R as bs→bs[i]?=some b→∃a,as[i]?=some a∧R a b
  | _,_,_,_,.nil,e=>by simp at e
  | _,_,0,_,.cons x _,e=>by simp at e;subst e;exact⟨_,rfl,x⟩
  | _,_,i+1,b,.cons _ r,e=>by
    obtain⟨v,h1,h2⟩:=get (i:=i) (b:=b) r (by simpa using e)
    exact⟨v,by simpa using h1,h2⟩
end jA
section
variable{K:PySem.W.Frag}{a l:Addr}{xs:List V}{g:TG}{tc:TT}{te:TE}{Q:VK}{σ:L2.St}{H:Hp}{α β:Type}{us:List α}{cp:List (Nat × Str)}{nT:Nat}
def CF(aT:Hp→V→β→Prop)(SI:L2.St→Prop)(us:List α)(f:α→Option β)(H:Hp)(l:Addr)(i:Nat)(σ:L2.St)(H':Hp):Prop:=SI σ∧aq H H'∧∃vs,H' l=some (.lst vs)∧vs.length≤i∧jA (aT H') vs ((us.take i).filterMap f)
end
theorem jv:∀{a b:List Int},a.Perm b→a.Pairwise (· ≤·)→b.Pairwise (· ≤·)→a=b
  | [],b,p,_,_=>by
    have:=p.length_eq
    exact(List.length_eq_zero_iff.mp this.symm).symm
  | x::a,b,p,h1,h2=>by
    cases b with
    | nil=>have:=p.length_eq;simp at this
    | cons y b=>
      have h1':=List.pairwise_cons.mp h1
      have h2':=List.pairwise_cons.mp h2
      have e:x=y:=by
        have m1:y∈x::a:=p.mem_iff.mpr (by simp)
        have m2:x∈y::b:=p.mem_iff.mp (by simp)
        rcases List.mem_cons.mp m1 with z | z
        · exact z.symm
        · rcases List.mem_cons.mp m2 with z2 | z2
          · exact z2
          · have:=h1'.1 y z
            have:=h2'.1 x z2
            lia
      subst e
      rw [jv ((List.perm_cons x).mp p) h1'.2 h2'.2]
def a8(ns:List Int):List Int:=ns.mergeSort
theorem gj{ns ns':List Int}(p:ns'.Perm ns)(h:ns'.Pairwise (· ≤·)):ns'=a8 ns:=by
  refine jv (p.trans (List.mergeSort_perm ns _).symm) h ?_
  have:=List.pairwise_mergeSort (le:=fun a b:Int=>decide (a≤b)) (fun a b c h1 h2=>by simp at*;lia) (fun a b=>by simp;lia) ns
  exact this.imp fun h=>by simpa using h
theorem cV(ns:List Int):(a8 ns).Perm ns:=List.mergeSort_perm ns _
theorem AL{ns:List Int}{x:Int}:x∈a8 ns↔ x∈ns:=(cV ns).mem_iff
theorem AK(ns:List Int):(a8 ns).length=ns.length:=(cV ns).length_eq
section
variable{X:Cx}{K:PySem.W.Frag}{pos:Pos}
theorem wY{es:List Expr}{k:Nat}{t:vA}{n:Nat}(hK:X.K=K)(hc:X.calm=true)(h:se X es t)(hn:(assignEach es X.env).length=n:=by rfl)(hst:(assignEach es X.env).findIdx? (·.1)=none:=by rfl):PG X (.Tuple es k pos) (tP K n t):=hK ▸ zL hc h hn hst
theorem xa{tg l:Expr}{tl:TE}(h:X.K=K)(hl:PE X l tl):PI X tg l (Bj K tl):=h ▸ zM hl
theorem uy{tg l:Expr}{tl:TE}(h:X.K=K)(hl:PE X l tl):PI X tg l (yo K tl):=h ▸ w_ hl
end
instance:Inhabited jT:=⟨⟨0,1,1,1,0⟩⟩
def bE.tie(W:bE)(k:Int):jT:=W.ties.getD k.toNat default
def bE.has(W:bE)(k thing:Int):Bool:=(W.tie k).one==thing || (W.tie k).other==thing
def bE.many(W:bE)(asked:List Int)(thing:Int):Int:=((asked.filter fun k=>W.has k thing).length:Nat)
def bE.bears(W:bE)(asked taken:List Int)(thing:Int):Bool:= !taken.contains thing&&decide (W.many asked thing < W.pat.getD thing.toNat 0)
def bE.may(W:bE)(asked taken:List Int)(k:Int):Bool:= !(asked.contains k || decide (W.asks≤(asked.length:Int)))&&(W.bears asked taken (W.tie k).one&&W.bears asked taken (W.tie k).other)
def bE.askd(asked:List Int)(k:Int):List Int:=a8 (asked++[k])
def bE.took(W:bE)(taken:List Int)(k:Int)(truth:Bool):List Int:=if truth then a8 (taken++[(W.tie k).one,(W.tie k).other]) else taken
def bE.rng(W:bE):List Int:=(List.range W.ties.length).map Int.ofNat
def jR(W:bE)(k:Int):Prop:=0≤k∧k < (W.ties.length:Int)
theorem jR.get{W:bE}{k:Int}(h:jR W k):W.ties[k.toNat]?=some (W.tie k):=by
  have hk:k.toNat < W.ties.length:=by have:=h.1;have:=h.2;lia
  unfold bE.tie
  rw [List.getD_eq_getElem?_getD,List.getElem?_eq_getElem hk];rfl
theorem jR.ok{W:bE}{k:Int}(h:jR W k)(o:W.Ok):(W.tie k).Ok W.things:=o.ties _ (List.mem_of_getElem? h.get)
theorem CN{W:bE}{k:Int}:k∈W.rng↔ jR W k:=by
  unfold bE.rng jR
  rw [List.mem_map]
  constructor
  · rintro⟨n,hn,rfl⟩
    have:=List.mem_range.mp hn
    exact⟨Int.natCast_nonneg n,by simp;lia⟩
  · rintro⟨h0,h1⟩
    exact⟨k.toNat,List.mem_range.mpr (by lia),by simp;lia⟩
def yG(K:PySem.W.Frag)(H:Hp)(v:V)(asked taken:List Int):Prop:=∃a b c,v=.ref a∧cM K H a [.ref b,.ref c]∧cM K H b (asked.map V.int)∧cM K H c (taken.map V.int)
theorem yG.ts{K:PySem.W.Frag}{H H':Hp}(s:jf H H'){v:V}{asked taken:List Int}(h:yG K H v asked taken):yG K H' v asked taken:=by
  obtain⟨a,b,c,e,h1,h2,h3⟩:=h
  exact⟨a,b,c,e,s.tup h1,s.tup h2,s.tup h3⟩
section
variable{K:PySem.W.Frag}{σ:L2.St}{H:Hp}{Q:VK}{i j:Nat}{vW:V}{W:bE}{k:Int}
end
def small(k:Int):Prop:= -1000000≤k∧k≤1000000
def Dk(n dep:Nat)(d:PyData):Prop:=d.showable=true∧kB d=true∧L2.cnt d≤n∧d.depth≤dep
theorem Dk.mono{n m dep e:Nat}{d:PyData}(h:Dk n dep d)(h1:n≤m)(h2:dep≤e):Dk m e d:=⟨h.1,h.2.1,Nat.le_trans h.2.2.1 h1,Nat.le_trans h.2.2.2 h2⟩
theorem Dk.int{k:Int}(h:small k):Dk 1 2 (.int k):=by
  refine⟨?_,rfl,Nat.le_refl _,by simp [PyData.depth]⟩
  show decide (k.natAbs.log2 < 1920)=true
  rw [decide_eq_true_eq]
  exact Nat.lt_trans ((show Bt 64 k by have:=h.1;have:=h.2;unfold Bt;lia).log (by decide)) (by decide)
theorem Dk.bool(b:Bool):Dk 1 2 (.bool b):=⟨rfl,rfl,Nat.le_refl _,by simp [PyData.depth]⟩
theorem Dk.none:Dk 1 2 .none:=⟨rfl,rfl,Nat.le_refl _,by simp [PyData.depth]⟩
theorem Dk.all{n dep:Nat}:∀{ds:List PyData},(∀d∈ds,Dk n dep d)→PyData.showableAll ds=true∧eH ds=true∧gS ds≤ds.length*n∧PyData.depthAll ds≤dep
  | [],_=>⟨rfl,rfl,by simp [gS],by simp [PyData.depthAll]⟩
  | d::r,h=>by
    obtain⟨a1,a2,a3,a4⟩:=h d (by simp)
    obtain⟨b1,b2,b3,b4⟩:=Dk.all (ds:=r) fun x hx=>h x (by simp [hx])
    refine⟨?_,?_,?_,?_⟩
    · simp only [PyData.showableAll,a1,b1,Bool.and_self]
    · simp only [eH,a2,b2,Bool.and_self]
    · simp only [gS,List.length_cons,Nat.succ_mul]
      lia
    · simp only [PyData.depthAll];lia
theorem Dk.tup{n dep m:Nat}{ds:List PyData}(h:∀d∈ds,Dk n dep d)(hl:ds.length≤m):Dk (1+m*n) (dep+2) (.tuple ds):=by
  obtain⟨b1,b2,b3,b4⟩:=Dk.all h
  refine⟨b1,b2,?_,?_⟩
  · simp only [L2.cnt]
    have:=Nat.mul_le_mul_right n hl
    lia
  · simp only [PyData.depth];lia
theorem Dk.ok{n dep:Nat}{d:PyData}(h:Dk n dep d)(h1:n≤8000)(h2:dep≤60):d.showable=true∧d.depth≤60∧d.shown.length≤sizeLine:=by
  have:=l9 h.2.1 h.1
  have sl:sizeLine=16777216:=sizeLine_eq
  have:=h.2.2.1
  exact⟨h.1,Nat.le_trans h.2.2.2 h2,by lia⟩
theorem Dk.ints{ns:List Int}{m:Nat}(hl:ns.length≤m)(h:∀r∈ns,small r):Dk (1+m) 4 (.tuple (ns.map .int)):=by
  have:=Dk.tup (n:=1) (dep:=2) (m:=m) (ds:=ns.map PyData.int) (fun d hd=>by
    obtain⟨x,hx,rfl⟩:=List.mem_map.mp hd
    exact Dk.int (h x hx)) (by rw [List.length_map];exact hl)
  simpa using this
section
variable{K:PySem.W.Frag}{H:Hp}
def cx(t:jT):PyData:=.tuple [.int t.one,.int t.other,.tuple [.int t.top,.int t.bot],.int t.worth]
def ay(W:bE):PyData:=.tuple [.int W.things,.tuple (W.ties.map cx),.tuple (W.pat.map .int),.int W.asks]
def EA(asked taken:List Int):PyData:=.tuple [.tuple (asked.map .int),.tuple (taken.map .int)]
end
end L2
namespace L2
open PySem PySem.Spec PyProof.Rows
section
variable{X:Cx}
end
end L2
namespace L2
end L2
namespace L2
open PySem PySem.Spec PyProof.Rows
section
variable{prog:Program}{w:World}{A:Around}{E:Value→Shared→Prop}{s:Shared}
end
structure Sc (prog:Program) (w:World) (it l:Addr) (St:Nat→Heap→Prop) (Sq:Heap→Array Value→Prop):Prop where
  stay:∀{k h h'},St k h→(∀o,h.get? it=some o→h'.get? it=some o)→St k h'
  live:∀{k h},St k h→∃o,h.get? it=some o∧∀v,o.data≠.cell v
  row:∀{h h' xs},Sq h xs→(∀o,h.get? l=some o→h'.get? l=some o)→Sq h' xs
  next:∀{A:Around} {s:Shared} {E:Value→Shared→Prop} {Q:Value→Shared→Prop} {k:Nat} {xs:Array Value} {x:Value},St k s.heap→Sq s.heap xs→xs[k]?=some x→(∀g,St (k+1) g→Heap.SameBut it s.heap g→Q x {s with heap:=g})→wpAny (model prog w) A (Builtin.SmallTypes.nextOf (.ref it)) Q E s
  last:∀{A:Around} {s:Shared} {E:Value→Shared→Prop} {Q:Value→Shared→Prop} {k:Nat} {xs:Array Value},A.handled=none→St k s.heap→Sq s.heap xs→xs[k]?=none→(∀g e,Heap.ExtBut it s.heap g→(∃o,g.get? e=some o∧o.cls=.type "StopIteration")→E (.ref e) {s with heap:=g})→wpAny (model prog w) A (Builtin.SmallTypes.nextOf (.ref it)) Q E s
structure DE (z TI TO i1 i2 l1 l2:Addr):Prop where
  a1:TO≠z
  a2:i1≠z
  a3:i2≠z
  a4:TO≠i1
  a5:TO≠i2
  a6:i1≠i2
  b1:l1≠z
  b2:l1≠TO
  b3:l1≠i1
  b4:l1≠i2
  c1:l2≠z
  c2:l2≠TO
  c3:l2≠i1
  c4:l2≠i2
section
variable{prog:Program}{w:World}{A:Around}{E:Value→Shared→Prop}{s:Shared}{z TI TO i1 i2 l1 l2:Addr}{k:Nat}{xs ys:Array Value}{a b:Value}{S1 S2:Nat→Heap→Prop}{R1 R2:Heap→Array Value→Prop}
end
end L2
namespace L2
open PySem PySem.Spec PyProof.Rows
section
variable{X:Cx}{pins:List (Addr × Obj)}{σ:L2.St}{H:Hp}{s:Shared}{h':Heap}
theorem ar.turnedL{t':Nat}{fp:List Addr}(I:ar X pins σ H s)(hf:∀b∈fp,iI X pins H b)(k:∀b o,b∉fp→s.heap.get? b=some o→h'.get? b=some o):ar X pins σ H {s with heap:=h',toks:=t'}:=by
  have hL:X.env.locals∉fp:=fun z=>(hf _ z).2.1 rfl
  have nit:∀b u,H b=some u→b∉fp:=fun b u e z=>by have:=(hf b z).1;rw [this] at e;cases e
  refine I.step (g':=s.gens) (d':=s.drawn) (ch:=fp) (fun b hb=>?_) (fun b o _ _ hc e _=>k b o hc e) (fun b o _ _ hc e _=>⟨o.slots,k b o hc e⟩) (fun _ _ _ _ n=>n) (fun b o hc e=>⟨o,k b o hc e⟩) (fun _ _ e=>e) (fun _ _ _ e=>e) (fun b ps e=>⟨#[],by rw [e];simp⟩) (fun m hm=>?_) (fun b u e=>?_) I.bare
  · obtain⟨f0,f1,f2,f3,f4,f5⟩:=hf b hb
    exact⟨f3,f1,f4,f5⟩
  · obtain⟨o,es,ep,ho,r⟩:=hm
    exact⟨o,es,ep,k _ o hL ho,r⟩
  · refine(I.hok b u e).stay (fun c v hc q=>k c v ?_ q) (fun _ q=>q) fun _ _ q=>q
    rcases hc with z | z
    · rw [z];exact nit b u e
    · exact nit c _ z
end
section
variable{prog:Program}{w:World}{A:Around}{E:Value→Shared→Prop}{s:Shared}
end
end L2
namespace L2
open PySem PySem.Spec PyProof.Rows
def yE(h:Heap)(z TI TO:Addr)(a:Addr)(f:Bool):Prop:=h.get? z=some {cls:=.type "zip",data:=.fields #[rawInt a,.bool f,.bool false,.ref TI,.ref TO]}
section
variable{prog:Program}{w:World}{A:Around}{E:Value→Shared→Prop}{s:Shared}{z TI TO i1 i2 l1 l2:Addr}{k:Nat}{xs ys:Array Value}{a:Addr}{f:Bool}{S1 S2:Nat→Heap→Prop}{R1 R2:Heap→Array Value→Prop}
end
end L2
namespace L2
open PySem PySem.Spec PyProof.Rows
structure ZL (S z TI TO i1 i2 l1 l2:Addr) (xs ys:Array Value) (i:Nat) (h:Heap):Prop where
  pr:IsPair h TI (.ref i1) (.ref i2)
  t1:h.IsTupleIter i1 l1 i
  t2:h.IsTupleIter i2 l2 i
  s1:h.IsTuple l1 xs
  s2:h.IsTuple l2 ys
  ot:∃o,h.get? TO=some o
  zs:(IsZip h z TI TO .none∧∃a b,IsPair h TO a b)∨∃a f oa,yE h z TI TO a f∧h.get? a=some oa∧a≠S∧a≠z∧a≠i1∧a≠i2
structure DD (S z TO i1 i2:Addr) (xs ys:Array Value) (h:Heap) (acc:Array Value) (i:Nat):Prop where
  sz:acc.size=i
  at_:∀(j:Nat) (v:Value),acc[j]?=some v→∃(p:Addr) (x y:Value),v=.ref p∧xs[j]?=some x∧ys[j]?=some y∧IsPair h p x y∧p≠S∧p≠z∧p≠TO∧p≠i1∧p≠i2
  lo:∀(j:Nat) (p:Addr),acc[j]?=some (.ref p)→S < p
  Ee:∀(i j:Nat) (p q:Addr),i < j→acc[i]?=some (.ref p)→acc[j]?=some (.ref q)→p < q
section
variable{prog:Program}{w:World}{A:Around}{R:Result→Shared→Prop}{S z TI TO i1 i2 l1 l2:Addr}{xs ys:Array Value}{n:Nat}
end
end L2
namespace L2
open PySem PySem.Spec PyProof.Rows
section
variable{X:Cx}{pins:List (Addr × Obj)}{σ:L2.St}{H H':Hp}{s:Shared}{h':Heap}
end
end L2
namespace L2
open PySem PySem.Spec PyProof.Rows
section
variable{prog:Program}{w:World}{A:Around}{E:Value→Shared→Prop}{s:Shared}{e it l:Addr}{k:Nat}{xs:Array Value}{S:Nat→Heap→Prop}{R:Heap→Array Value→Prop}
end
section
variable{X:Cx}{pins:List (Addr × Obj)}{σ:L2.St}{H:Hp}{s:Shared}
end
end L2
namespace L2
open PySem PySem.Spec PyProof.Rows
theorem qL:∀(us:List Value) (f:Nat→Int),(∀(j:Nat) (v:Value),us[j]?=some v→∃t,v=Value.int (f j) t)→aF ((List.range us.length).map fun j=>V.int (f j)) us
  | [],_,_=>.nil
  | u::us,f,h=>by
    rw [List.length_cons,List.range_succ_eq_map,List.map_cons,List.map_map]
    refine .cons (h 0 u rfl) (qL us (fun j=>f (j+1)) fun j v e=>h (j+1) v (by simpa using e))
def iA(n:Nat):List Int:=(List.range n).map Int.ofNat
theorem oI(n:Nat):(iA n).length=n:=by simp [iA]
section
variable{X:Cx}{a:Expr}{ta:TA}{p p2 pos pos2:Pos}
theorem sU(hg:Gl X "range")(hm:X.mg "range"=none)(ha:PA X [a] ta)(hs:starEach [a] X.env=[(false,eval a X.env)]){pins:List (Addr × Obj)}{s:Shared}{σ:L2.St}{H:Hp}{R:Int→Hp→Prop}(I:ar X pins σ H s)(h:ta σ H fun vs H1=>∃j:Int,vs=[.int j]∧R j H1):
    wpAny (model X.prog X.w) X.A (eval (.Call (.Name "range" p) [a] [] pos) X.env) (fun v s1=>∃(r:Addr) (j:Int) (H1:Hp) (t u w:Tok),v=.ref r∧IsRange s1.heap r 0 j 1 t u w∧r < s1.heap.objs.size∧ar X pins σ H1 s1∧R j H1) X.xe s:=by
  refine Call_ (iQ I hg hm boot_range (PyProof.Rows.callWith_type1 (bw (ha pos pins s σ H _ I h) fun us s1 ⟨vs,H1,I1,r1,q1⟩=>?_) hs rfl))
  obtain⟨j,e,q⟩:=q1
  subst e
  cases r1 with
  | cons r rr=>
    cases rr
    obtain⟨t,rfl⟩:=r
    exact call_range_1 ⟨_,j,H1,_,_,_,rfl,IsRange.new ..,by simp [Heap.size_push],I1.kept fun b o e=>Heap.get?_push_of_some _ e,q⟩
def El(ta:TA):TE:=fun σ H Q=>ta σ H fun vs H1=>∃j:Int,vs=[.int j]∧(0≤j∧j≤100000∧∀l,H1 l=none→Q (.ref l) (a7 H1 l (.lst ((iA j.toNat).map V.int))))
theorem mY(hc:X.calm=true)(hgl:Gl X "list")(hml:X.mg "list"=none)(hg:Gl X "range")(hm:X.mg "range"=none)(ha:PA X [a] ta)(hs:starEach [a] X.env=[(false,eval a X.env)]:=by rfl)
    (he:starEach [.Call (.Name "range" p) [a] [] pos] X.env=(false,eval (.Call (.Name "range" p) [a] [] pos) X.env)::starEach [] X.env:=by rfl):PE X (.Call (.Name "list" p2) [.Call (.Name "range" p) [a] [] pos] [] pos2) (El ta):=by
  intro pins s σ H Q I h
  refine wpAny_Call_Name_kw (iQ I hgl hml PyProof.Rows.boot_list ?_ (by decide) (by decide))
  refine PyProof.Rows.callWith_type1 ?_ he rfl
  rw [he]
  refine Calls.spliced_cons (bw (sU hg hm ha hs I h) fun u s1 ⟨r,j,H1,t,u1,w,e,hr,lt,I1,j0,j1,q⟩=>?_)
  subst e
  refine wpAny_pure ?_
  have hsm:Builtin.Range.small 0 j 1=true:=small_one (by decide) (by decide) (by lia) (by lia)
  refine call_list_range (n:=j.toNat) (I1.ok.hd hc) hr hsm (by rw [rangeSize_one];split<;>lia) (Nat.le_trans (show j.toNat≤100000 by lia) (by decide)) fun h' tk acc c hk hD hI=>?_
  have hf:H1 s1.heap.objs.size=none:=I1.hok.fresh (Nat.le_refl _)
  have vv:aF ((iA j.toNat).map V.int) acc.toList:=by
    have z:=qL acc.toList (fun k=>(k:Int)) fun k v e=>by
      obtain⟨t,ht⟩:=hI.2 k v (by simpa using e)
      exact⟨t,by rw [ht];simp⟩
    rw [Array.length_toList,hI.1] at z
    rw [iA,List.map_map]
    exact z
  refine⟨.ref s1.heap.objs.size,_,I1.laid (o:=.lst ((iA j.toNat).map V.int)) hk (Nat.le_refl _) ⟨?_,acc.toList,c,vv,by simpa using hD⟩,rfl,q _ hf⟩
  rw [List.length_map,oI,sizeLine_eq];lia
end
end L2
namespace L2
open PySem PySem.Spec PyProof.Rows
theorem rF:fillsNumberSlot (.type "tuple") "mul"=pure false:=
  PySem.fillsNumberSlot_seq (id:="tuple.__mul__") (r:=some (.builtin "tuple.__rmul__")) F.slot_tuple_mul.lookup (by decide+kernel) F.slot_tuple_rmul.lookup (by decide+kernel)
theorem z_:seqRepeat? (.type "tuple")=pure (some (.builtin "tuple.__mul__")):=by
  unfold seqRepeat?;rw [PySem.seqSlot_of (T:="tuple") (name:="__mul__") (id:="tuple.__mul__") F.slot_tuple_mul.lookup (by decide+kernel),PySem.seqSlot_of (T:="tuple") (name:="__rmul__") (id:="tuple.__rmul__") F.slot_tuple_rmul.lookup (by decide+kernel)];rfl
theorem xt(a:Int)(t:Tok)(l:Addr)(items:Array Value)(n:Nat)(dd:Option Addr)(sl:Array (Option Value)):
    Meets (Builtin.«int.__rmul__» ⟨[.int a t,.ref l],[]⟩) (fun _ R s=>s.heap.get? l=some {cls:=.type "tuple",dict:=dd,data:=.seq items n,slots:=sl}∧R (.ok (.ret Value.notImplemented)) s):=
  .of_wp fun prog w A R s h=>by obtain⟨hp,g,d,tk,os⟩:=s;obtain⟨hl,h⟩:=h;wp_walk;exact⟨_,rfl,h⟩
theorem zg(l:Addr)(x:Value)(n:Nat)(k:Int)(u:Tok)(dd:Option Addr)(sl:Array (Option Value))(h0:2≤k)(h1:k≤100000):
    Meets (Builtin.«tuple.__mul__» ⟨[.ref l,.int k u],[]⟩) (fun _ R s=>s.heap.get? l=some {cls:=.type "tuple",dict:=dd,data:=.seq #[x] n,slots:=sl}∧
      R (.ok (.ret (.ref s.heap.objs.size))) {s with heap:=s.heap.push {cls:=.type "tuple",data:=.seq (List.replicate k.toNat x).toArray}}):=
  .of_wp fun prog w A R s h=>by
    obtain⟨hp,g,d,tk,os⟩:=s;obtain⟨hl,h⟩:=h
    have f1:=AutoSeq1.idx_int
    have c1:¬(decide (k < -(2 ^ 63)) || decide (k≥2 ^ 63))=true:=by simp;lia
    have c2:¬((#[x]:Array Value).isEmpty || k==1)=true:=by simp;lia
    have c3:¬(decide (k≤0) || (#[x]:Array Value).isEmpty)=true:=by simp;lia
    have c4:¬(((#[x]:Array Value).size:Int)*k > (2 ^ 63 - 1) / 8):=by simp;lia
    have c5:¬Builtin.Tuple.tupleTooMany (((#[x]:Array Value).size:Int)*k)=true:=by
      unfold Builtin.Tuple.tupleTooMany;rw [sizeLine_eq];simp;lia
    wp_walk using wpAny_loadPart' hl
    rw [if_neg c1]
    wp_walk using wpAny_loadPart' hl
    rw [if_neg c2]
    wp_walk using wpAny_loadPart' hl
    rw [if_neg c3]
    wp_walk using wpAny_loadPart' hl
    rw [if_neg c4]
    show wpAny _ _ (if Builtin.Tuple.tupleTooMany (((#[x]:Array Value).size:Int)*k)=true then _ else _) _ _ _
    rw [if_neg c5]
    have f0:∀(m:Nat) (acc:Array Value),List.foldl (fun x1 x2=>x1++x2) acc (List.replicate m #[x])=acc++(List.replicate m x).toArray:=by
      intro m
      induction m with
      | zero=>intro acc;simp
      | succ m ih=>intro acc;rw [List.replicate_succ,List.foldl_cons,ih,List.replicate_succ];apply Array.toList_inj.mp;simp
    have e:List.foldl (fun x1 x2=>x1++x2) #[] (List.replicate k.toNat #[x])=(List.replicate k.toNat x).toArray:=by rw [f0];simp
    show wpAny _ _ (Builtin.Tuple.tupleExact (List.foldl (fun x1 x2=>x1++x2) #[] (List.replicate k.toNat #[x])) >>= fun v=>ret v) _ _ _
    rw [e]
    unfold Builtin.Tuple.tupleExact
    refine wpAny_bind (wpAny_newObj_type ?_ (by show(List.replicate k.toNat x).toArray.size≤sizeLine;rw [List.size_toArray,List.length_replicate,sizeLine_eq];lia))
    exact wpAny_pure ⟨_,rfl,h⟩
theorem wq(l:Addr)(x:Value)(n:Nat)(u:Tok)(dd:Option Addr)(sl:Array (Option Value)):
    Meets (Builtin.«tuple.__mul__» ⟨[.ref l,.int 0 u],[]⟩) (fun _ R s=>s.heap.get? l=some {cls:=.type "tuple",dict:=dd,data:=.seq #[x] n,slots:=sl}∧R (.ok (.ret (.ref s.heap.objs.size))) {s with heap:=s.heap.push {cls:=.type "tuple",data:=.seq #[]}}):=
  .of_wp fun prog w A R s h=>by
    obtain⟨hp,g,d,tk,os⟩:=s;obtain⟨hl,h⟩:=h;have f1:=AutoSeq1.idx_int
    have c2:¬((#[x]:Array Value).isEmpty || (0:Int)==1)=true:=by simp
    wp_walk using wpAny_loadPart' hl
    first | rw [if_neg c2] | skip
    wp_walk using wpAny_loadPart' hl
    exact⟨_,rfl,h⟩
theorem wu(l:Addr)(x:Value)(n:Nat)(u:Tok)(dd:Option Addr)(sl:Array (Option Value)):
    Meets (Builtin.«tuple.__mul__» ⟨[.ref l,.int 1 u],[]⟩) (fun _ R s=>s.heap.get? l=some {cls:=.type "tuple",dict:=dd,data:=.seq #[x] n,slots:=sl}∧R (.ok (.ret (.ref l))) s):=
  .of_wp fun prog w A R s h=>by
    obtain⟨hp,g,d,tk,os⟩:=s;obtain⟨hl,h⟩:=h;have f1:=AutoSeq1.idx_int
    wp_walk using wpAny_loadPart' hl
    exact⟨_,rfl,h⟩
section
variable{X:Cx}
def uT(K:PySem.W.Frag):R2:=fun x y H Q=>∃a k v,x=.ref a∧y=.int k∧cM K H a [v]∧0≤k∧k≤100000∧∀p H',aq H H'→cM K H' p (List.replicate k.toNat v)→Q (.ref p) H'
theorem wQ:dy X (binaryOp .Mult) (uT X.K):=by
  intro pins s σ H x y v u Q I rx ry h
  obtain⟨a,k,z,rfl,rfl,ha,k0,k1,q⟩:=h
  cases rx
  obtain⟨t,rfl⟩:=ry
  obtain⟨its,r,p,hz⟩:=I.tuple ha
  obtain⟨uz,rfl,rz⟩:=gZ r
  obtain⟨⟨cls,dd,data,sl⟩,ho,hc,n,hd⟩:=id p
  simp only at hc hd
  subst hc hd
  refine wpAny_binaryOp_repeat_ref (T:="tuple") (U:="int") (by decide) ⟨_,ho,rfl⟩ (fun s'=>PySem.typeIs_int s' k t) rF F.fills_int_mul F.slot_int_rmul z_ F.slot_int_index.lookup (call_meets F.slot_int_rmul (PySem.typeIs_int s k t) F.entry_int_rmul (F.args_int_rmul_2 _ _) (xt k t a #[uz] n dd sl) ⟨ho,rfl,⟨_,ho,rfl⟩,?_⟩)
  have new:∀m:Nat,m=k.toNat→EP X pins σ Q (.ref s.heap.objs.size) {s with heap:=s.heap.push {cls:=.type "tuple",data:=.seq (List.replicate m uz).toArray},toks:=s.toks}:=fun m hm=>by
    have hf:H s.heap.objs.size=none:=I.hok.fresh (Nat.le_refl _)
    have vv:∀j:Nat,aF (List.replicate j z) (List.replicate j uz):=fun j=>by
      induction j with
      | zero=>exact .nil
      | succ j ih=>exact .cons rz ih
    refine⟨.ref s.heap.objs.size,_,I.laid (t':=s.toks) (o:=.tup (List.replicate m z)) (fun b ob q=>Heap.get?_push_of_some _ q) (Nat.le_refl _) ⟨by rw [List.length_replicate,sizeLine_eq];lia,_,vv m,kY.new _ _⟩,rfl,q _ _ (aq.new hf) (cM.of (by rw [am,hm]))⟩
  rcases(by lia:k=0∨k=1∨2≤k) with e | e | e
  · subst e
    exact call_meets F.slot_tuple_mul ⟨_,ho,rfl⟩ F.entry_tuple_mul (F.args_tuple_mul_2 _ _) (wq a uz n t dd sl) ⟨ho,new 0 rfl⟩
  · subst e
    exact call_meets F.slot_tuple_mul ⟨_,ho,rfl⟩ F.entry_tuple_mul (F.args_tuple_mul_2 _ _) (wu a uz n t dd sl) ⟨ho,⟨.ref a,H,I,rfl,q a H (aq.refl H) ha⟩⟩
  · exact call_meets F.slot_tuple_mul ⟨_,ho,rfl⟩ F.entry_tuple_mul (F.args_tuple_mul_2 _ _) (zg a uz n k t dd sl e k1) ⟨ho,new _ rfl⟩
end
end L2
namespace L2
open PySem PySem.Spec PyProof.Rows
section
variable{prog:Program}{w:World}{A:Around}{E:Value→Shared→Prop}{s:Shared}
end
section
variable{X:Cx}{a:Expr}{ta:TA}{p p2 p3 pos pos2 pos3:Pos}
end
end L2
namespace L2
open PySem PySem.Spec PyProof.Rows
section
variable{prog:Program}{w:World}{A:Around}{E:Value→Shared→Prop}{s:Shared}
end
section
variable{X:Cx}{K:PySem.W.Frag}{es:List Expr}{k0:Nat}{tp:Pos}{a:Expr}{ta:TA}{p pos:Pos}
end
end L2
namespace L2
open PySem PySem.Spec PyProof.Rows
theorem rK{X:Cx}:dy X (compareOp .IsNot) (fun x y H Q=>∃b c,x=.bl b∧y=.bl c∧Q (.bl (!(b==c))) H):=by
  intro pins s σ H x y v u Q I rx ry h
  obtain⟨b,c,rfl,rfl,q⟩:=h
  cases rx;cases ry
  refine wpAny_isNot_plain (by cases b<;>cases c<;>rfl) ⟨.bl (!(b==c)),H,I,?_,q⟩
  show Value.bool _=Value.bool _
  cases b<;>cases c<;>rfl
section
variable{prog:Program}{w:World}{A:Around}{E:Value→Shared→Prop}{s:Shared}
end
section
variable{prog:Program}{w:World}{A:Around}{E:Value→Shared→Prop}{s:Shared}
end
section
variable{prog:Program}{w:World}{A:Around}{E:Value→Shared→Prop}{s:Shared}
end
end L2
namespace L2
open PySem PySem.Spec PyProof.Rows
end L2
namespace L2
open PySem PySem.Spec PyProof.Rows
inductive sq where
  | vi (k:Int)
  | vb (x:Bool)
  | vn
def sq.toV:sq→V
  | .vi k=>.int k
  | .vb x=>.bl x
  | .vn=>.non
def sq.toD:sq→PyData
  | .vi k=>.int k
  | .vb x=>.bool x
  | .vn=>.none
mutual
def DA(K:PySem.W.Frag)(F:Hp):PyData→V→Prop
  | .none,v=>v=.non
  | .bool b,v=>v=.bl b
  | .int i,v=>v=.int i
  | .str x,v=>v=.str x
  | .tuple ds,v=>∃a xs,v=.ref a∧cM K F a xs∧aA K F ds xs
  | .list ds,v=>∃a xs,v=.ref a∧fy K F a xs∧aA K F ds xs
  | .dict kvs,v=>∃(a:Addr) (m:List (Int × sq)),v=.ref a∧F a=some (.dK (m.map fun p=>(Sum.inl p.1,p.2.toV)))∧kvs=m.map fun p=>(PyData.int p.1,p.2.toD)
def aA(K:PySem.W.Frag)(F:Hp):List PyData→List V→Prop
  | [],xs=>xs=[]
  | d::ds,xs=>∃x r,xs=x::r∧DA K F d x∧aA K F ds r
end
mutual
theorem DA.mono{K:PySem.W.Frag}{F F':Hp}(h:aq F F'):∀{d:PyData} {v:V},DA K F d v→DA K F' d v
  | .none,_,q=>by simp only [DA] at q ⊢;exact q
  | .bool b,_,q=>by simp only [DA] at q ⊢;exact q
  | .int i,_,q=>by simp only [DA] at q ⊢;exact q
  | .str x,_,q=>by simp only [DA] at q ⊢;exact q
  | .tuple ds,_,q=>by
    simp only [DA] at q ⊢
    obtain⟨a,xs,e,s,r⟩:=q
    exact⟨a,xs,e,h.tup s,aA.mono h r⟩
  | .list ds,_,q=>by
    simp only [DA] at q ⊢
    obtain⟨a,xs,e,s,r⟩:=q
    exact⟨a,xs,e,h.seq s,aA.mono h r⟩
  | .dict _,_,q=>by
    simp only [DA] at q ⊢
    obtain⟨a,m,e,s,k⟩:=q
    exact⟨a,m,e,h _ _ s,k⟩
theorem aA.mono{K:PySem.W.Frag}{F F':Hp}(h:aq F F'):∀{ds:List PyData} {xs:List V},aA K F ds xs→aA K F' ds xs
  | [],_,q=>by simp only [aA] at q ⊢;exact q
  | d::ds,_,q=>by
    simp only [aA] at q ⊢
    obtain⟨x,r,e,a,b⟩:=q
    exact⟨x,r,e,DA.mono h a,aA.mono h b⟩
end
section
variable{K:PySem.W.Frag}{F:Hp}
theorem aA.len:∀{ds:List PyData} {xs:List V},aA K F ds xs→ds.length=xs.length
  | [],_,q=>by simp only [aA] at q;subst q;rfl
  | d::ds,_,q=>by
    simp only [aA] at q
    obtain⟨x,r,e,a,b⟩:=q
    subst e
    simp [aA.len b]
theorem aA.get:∀{ds:List PyData} {xs:List V} {i:Nat} {d:PyData},aA K F ds xs→ds[i]?=some d→∃v,xs[i]?=some v∧DA K F d v
  | [],_,_,_,_,h=>by simp at h
  | d::ds,_,i,d',q,h=>by
    simp only [aA] at q
    obtain⟨x,r,e,a,b⟩:=q
    subst e
    cases i with
    | zero=>simp at h;subst h;exact⟨x,rfl,a⟩
    | succ i=>
      obtain⟨v,h1,h2⟩:=aA.get (i:=i) b (by simpa using h)
      exact⟨v,by simpa using h1,h2⟩
theorem aA.append:∀{ds es:List PyData} {xs ys:List V},aA K F ds xs→aA K F es ys→aA K F (ds++es) (xs++ys)
  | [],_,_,_,q,s=>by simp only [aA] at q;subst q;simpa using s
  | d::ds,es,_,ys,q,s=>by
    simp only [aA] at q
    obtain⟨x,r,e,a,b⟩:=q
    subst e
    simp only [List.cons_append,aA]
    exact⟨x,_,rfl,a,aA.append b s⟩
theorem aA.one{d:PyData}{v:V}(h:DA K F d v):aA K F [d] [v]:=by simp only [aA];exact⟨_,_,rfl,h,rfl⟩
theorem aA.nil:aA K F [] []:=by simp only [aA]
theorem aA.cons{d:PyData}{v:V}{ds:List PyData}{vs:List V}(h:DA K F d v)(r:aA K F ds vs):aA K F (d::ds) (v::vs):=by simp only [aA];exact⟨_,_,rfl,h,r⟩
theorem aA.drop:∀{ds:List PyData} {xs:List V} (n:Nat),aA K F ds xs→aA K F (ds.drop n) (xs.drop n)
  | _,_,0,q=>q
  | [],_,n+1,q=>by simp only [aA] at q;subst q;exact aA.nil
  | d::ds,_,n+1,q=>by
    simp only [aA] at q
    obtain⟨x,r,e,a,b⟩:=q
    subst e
    simpa using aA.drop n b
theorem aA.take:∀{ds:List PyData} {xs:List V} (n:Nat),aA K F ds xs→aA K F (ds.take n) (xs.take n)
  | _,_,0,q=>by simpa using aA.nil
  | [],_,n+1,q=>by simp only [aA] at q;subst q;exact aA.nil
  | d::ds,_,n+1,q=>by
    simp only [aA] at q
    obtain⟨x,r,e,a,b⟩:=q
    subst e
    simpa using aA.cons a (aA.take n b)
theorem aA.erase:∀{ds:List PyData} {xs:List V} (n:Nat),aA K F ds xs→aA K F (ds.eraseIdx n) (xs.eraseIdx n)
  | [],_,_,q=>by simp only [aA] at q;subst q;exact aA.nil
  | e::ds,_,n,q=>by
    simp only [aA] at q
    obtain⟨x,r,e,a,b⟩:=q
    subst e
    cases n with
    | zero=>exact b
    | succ n=>exact aA.cons a (aA.erase n b)
theorem aA.ints:∀{ns:List Int} {xs:List V},aA K F (ns.map .int) xs↔ xs=ns.map V.int
  | [],xs=>by simp [aA]
  | n::ns,xs=>by
    simp only [List.map_cons,aA,DA]
    constructor
    · rintro⟨x,r,e,rfl,q⟩;rw [e,aA.ints.mp q]
    · rintro rfl;exact⟨_,_,rfl,rfl,aA.ints.mpr rfl⟩
theorem cc{i:Int}{v:V}:DA K F (.int i) v↔ v=.int i:=by simp only [DA]
theorem cy{b:Bool}{v:V}:DA K F (.bool b) v↔ v=.bl b:=by simp only [DA]
theorem eU{v:V}:DA K F .none v↔ v=.non:=by simp only [DA]
theorem mH{x:Str}{v:V}:DA K F (.str x) v↔ v=.str x:=by simp only [DA]
theorem ce{ds:List PyData}{v:V}:DA K F (.tuple ds) v↔ ∃a xs,v=.ref a∧cM K F a xs∧aA K F ds xs:=by simp only [DA]
theorem cQ{ds:List PyData}{v:V}:DA K F (.list ds) v↔ ∃a xs,v=.ref a∧fy K F a xs∧aA K F ds xs:=by simp only [DA]
end
inductive Sv where
  | d (x:PyData)
  | l (xs:List PyData)
  /-- a list of lists that nobody else holds -/
  | n (xss:List (List PyData))
abbrev En:=List (Option Sv)
inductive Rv where
  | d (x:PyData)
  | l (xs:List PyData)
  | s (i:Nat)
def Fp(σ:L2.St)(e:En)(H:Hp)(i:Nat)(a:Addr):Prop:=(∃xs:List PyData,e[i]?=some (some (Sv.l xs))∧σ[i]?=some (some (.ref a)))∨
  ∃(xss:List (List PyData)) (l:Addr) (bs:List Addr),e[i]?=some (some (Sv.n xss))∧σ[i]?=some (some (.ref l))∧H l=some (.lst (bs.map V.ref))∧(a=l∨a∈bs)
def bN(σ:L2.St)(e:En)(H:Hp)(a:Addr):Prop:=∃i,Fp σ e H i a
structure aT (K:PySem.W.Frag) (F H:Hp) (σ:L2.St) (e:En):Prop where
  sm:aq F H
  len:σ.length=e.length
  dat:∀(i:Nat) (x:PyData),e[i]?=some (some (.d x))→∃v,σ[i]?=some (some v)∧DA K F x v
  own:∀(i:Nat) (xs:List PyData),e[i]?=some (some (.l xs))→∃l vs,σ[i]?=some (some (.ref l))∧F l=none∧H l=some (.lst vs)∧aA K F xs vs
  nst:∀(i:Nat) (xss:List (List PyData)),e[i]?=some (some (.n xss))→∃(l:Addr) (bs:List Addr),σ[i]?=some (some (.ref l))∧F l=none∧H l=some (.lst (bs.map V.ref))∧bs.length=xss.length∧bs.Nodup∧l∉bs∧
    ∀(k:Nat) (b:Addr) (ys:List PyData),bs[k]?=some b→xss[k]?=some ys→F b=none∧∃us,H b=some (.lst us)∧aA K F ys us
  fp:∀(i j:Nat) (a:Addr),Fp σ e H i a→Fp σ e H j a→i=j
theorem aT.inj{K:PySem.W.Frag}{F H:Hp}{σ:L2.St}{e:En}(R:aT K F H σ e)(i j:Nat)(xs ys:List PyData)(l:Addr)(h1:e[i]?=some (some (.l xs)))(h2:e[j]?=some (some (.l ys)))(h3:σ[i]?=some (some (.ref l)))(h4:σ[j]?=some (some (.ref l))):i=j:=R.fp i j l (.inl ⟨xs,h1,h3⟩) (.inl ⟨ys,h2,h4⟩)
theorem aT.fpAt{K:PySem.W.Frag}{F H:Hp}{σ:L2.St}{e:En}(R:aT K F H σ e){i:Nat}{a:Addr}(h:Fp σ e H i a):F a=none∧∃vs,H a=some (.lst vs):=by
  rcases h with ⟨xs,h1,h2⟩ | ⟨xss,l,bs,h1,h2,h3,h4⟩
  · obtain⟨l,vs,g1,g2,g3,_⟩:=R.own i xs h1
    rw [h2] at g1;cases g1
    exact⟨g2,vs,g3⟩
  · obtain⟨l',bs',g1,g2,g3,g4,g5,g6,g7⟩:=R.nst i xss h1
    rw [h2] at g1;cases g1
    rw [h3] at g3
    have e1:bs=bs':=by
      have:=HO.lst.inj (Option.some.inj g3)
      exact List.map_inj_right (fun _ _ z=>V.ref.inj z) |>.mp this
    subst e1
    rcases h4 with rfl | h4
    · exact⟨g2,_,h3⟩
    · obtain⟨k,hk⟩:=List.getElem?_of_mem h4
      have hk2:k < xss.length:=by rw [←g4];exact(List.getElem?_eq_some_iff.mp hk).1
      obtain⟨c1,us,c2,_⟩:=g7 k a xss[k] hk (List.getElem?_eq_getElem hk2)
      exact⟨c1,us,c2⟩
structure cP (σ:L2.St) (F H:Hp) (e:En) (F' H':Hp) (e':En):Prop where
  sf:aq F F'
  dom:∀a,H' a=none→H a=none
  fr:∀a vs,F a=none→H a=some (.lst vs)→¬bN σ e H a→F' a=none
  lst:∀a vs,H a=some (.lst vs)→∃vs',H' a=some (.lst vs')
  tmp:∀a o,H a=some o→¬bN σ e H a→H' a=some o
  shp:∀i:Nat,(∃xs,e'[i]?=some (some (.l xs)))↔ (∃xs,e[i]?=some (some (.l xs)))
  ow:∀a,bN σ e' H' a→bN σ e H a∨H a=none
  fd:∀a m,F a=none→H a=some (.dK m)→¬bN σ e H a→F' a=none
theorem cP.refl(σ:L2.St)(F H:Hp)(e:En):cP σ F H e F H e:=⟨aq.refl _,fun _ h=>h,fun _ _ h _ _=>h,fun _ vs h=>⟨vs,h⟩,fun _ _ h _=>h,fun _=>Iff.rfl,fun _ h=>.inl h,fun _ _ h _ _=>h⟩
theorem cP.trans{σ:L2.St}{F H F1 H1 F2 H2:Hp}{e e1 e2:En}(x:cP σ F H e F1 H1 e1)(y:cP σ F1 H1 e1 F2 H2 e2):cP σ F H e F2 H2 e2:=
  ⟨x.sf.trans y.sf,fun a h=>x.dom a (y.dom a h),fun a vs h n no=>let ⟨vs',q⟩:=x.lst a vs n;y.fr a vs' (x.fr a vs h n no) q (fun z=>(x.ow a z).elim no fun z=>by rw [n] at z;cases z),fun a vs h=>let ⟨vs',q⟩:=x.lst a vs h;y.lst a vs' q,
    fun a o h n=>y.tmp a o (x.tmp a o h n) (fun z=>(x.ow a z).elim n fun z=>by rw [h] at z;cases z),fun i=>(y.shp i).trans (x.shp i),fun a h=>(y.ow a h).elim (x.ow a) fun z=>.inr (x.dom a z),fun a m h n no=>y.fd a m (x.fd a m h n no) (x.tmp a _ n no) (fun z=>(x.ow a z).elim no fun z=>by rw [n] at z;cases z)⟩
def bK(K:PySem.W.Frag)(σ:L2.St)(H0 F H:Hp)(e:En):Rv→V→Prop
  | .d x,v=>DA K F x v
  | .l xs,v=>∃l vs,v=.ref l∧H0 l=none∧F l=none∧H l=some (.lst vs)∧aA K F xs vs∧¬bN σ e H l
  | .s i,v=>σ[i]?=some (some v)∧∃xs,e[i]?=some (some (.l xs))
section
variable{K:PySem.W.Frag}{σ:L2.St}{H0 F H F' H':Hp}{e e':En}{r:Rv}{v:V}
theorem bK.ext(h:bK K σ H0 F H e r v)(x:cP σ F H e F' H' e'):bK K σ H0 F' H' e' r v:=by
  cases r with
  | d y=>exact DA.mono x.sf h
  | l xs=>
    obtain⟨l,vs,e1,h1,h2,h3,h4,h5⟩:=h
    exact⟨l,vs,e1,h1,x.fr l _ h2 h3 h5,x.tmp l _ h3 h5,aA.mono x.sf h4,fun z=>(x.ow l z).elim h5 fun z=>by rw [h3] at z;cases z⟩
  | s i=>exact⟨h.1,(x.shp i).mpr h.2⟩
theorem bK.weak{H1:Hp}(h:bK K σ H1 F H e r v)(d:∀a,H1 a=none→H0 a=none):bK K σ H0 F H e r v:=by
  cases r with
  | d y=>exact h
  | l xs=>
    obtain⟨l,vs,e1,h1,r⟩:=h
    exact⟨l,vs,e1,d l h1,r⟩
  | s i=>exact h
theorem aT.ownH(R:aT K F H σ e)(a:Addr)(h:bN σ e H a):H a≠none:=by
  obtain⟨i,h⟩:=h
  obtain⟨_,vs,h2⟩:=R.fpAt h
  rw [h2];simp
theorem aT.freeF(R:aT K F H σ e){p:Addr}(hp:H p=none):F p=none:=R.sm.free hp
theorem vT(R:aT K F H σ e)(h:∀l bs,H l=some (.lst bs)→bN σ e H l→H' l=some (.lst bs)){i:Nat}{a:Addr}:Fp σ e H' i a↔ Fp σ e H i a:=by
  have key:∀xss l,e[i]?=some (some (.n xss))→σ[i]?=some (some (.ref l))→H' l=H l:=fun xss l h1 h2=>by
    obtain⟨l',bs,g1,g2,g3,_⟩:=R.nst i xss h1
    rw [h2] at g1;cases g1
    rw [g3]
    exact h l _ g3 ⟨i,.inr ⟨xss,l,bs,h1,h2,g3,.inl rfl⟩⟩
  constructor
  · rintro(h1 | ⟨xss,l,bs,h1,h2,h3,h4⟩)
    · exact .inl h1
    · exact .inr ⟨xss,l,bs,h1,h2,by rw [←key xss l h1 h2];exact h3,h4⟩
  · rintro(h1 | ⟨xss,l,bs,h1,h2,h3,h4⟩)
    · exact .inl h1
    · exact .inr ⟨xss,l,bs,h1,h2,by rw [key xss l h1 h2];exact h3,h4⟩
theorem aT.keep(R:aT K F H σ e)(sF:aq F F')(sm:aq F' H')(hf:∀a,bN σ e H a→F' a=none)(hh:∀a o,bN σ e H a→H a=some o→H' a=some o):aT K F' H' σ e∧∀a,bN σ e H' a↔ bN σ e H a:=by
  have fs:∀{i a},Fp σ e H' i a↔ Fp σ e H i a:=fun{i a}=>vT R fun l bs h1 h2=>hh l _ h2 h1
  refine⟨⟨sm,R.len,fun i x h=>let ⟨v,h1,h2⟩:=R.dat i x h;⟨v,h1,DA.mono sF h2⟩,fun i xs h=>?_,fun i xss h=>?_,fun i j a h1 h2=>R.fp i j a (fs.mp h1) (fs.mp h2)⟩,fun a=>⟨fun⟨i,h⟩=>⟨i,fs.mp h⟩,fun⟨i,h⟩=>⟨i,fs.mpr h⟩⟩⟩
  · obtain⟨l,vs,h1,h2,h3,h4⟩:=R.own i xs h
    have o:bN σ e H l:=⟨i,.inl ⟨xs,h,h1⟩⟩
    exact⟨l,vs,h1,hf l o,hh l _ o h3,h4.mono sF⟩
  · obtain⟨l,bs,h1,h2,h3,h4,h5,h6,h7⟩:=R.nst i xss h
    have o:bN σ e H l:=⟨i,.inr ⟨xss,l,bs,h,h1,h3,.inl rfl⟩⟩
    refine⟨l,bs,h1,hf l o,hh l _ o h3,h4,h5,h6,fun k b ys g1 g2=>?_⟩
    obtain⟨c1,us,c2,c3⟩:=h7 k b ys g1 g2
    have ob:bN σ e H b:=⟨i,.inr ⟨xss,l,bs,h,h1,h3,.inr (List.mem_of_getElem? g1)⟩⟩
    exact⟨hf b ob,us,hh b _ ob c2,c3.mono sF⟩
theorem aT.same(R:aT K F H σ e)(s:aq H H'):aT K F H' σ e∧cP σ F H e F H' e:=by
  obtain⟨R',o'⟩:=R.keep (aq.refl F) (R.sm.trans s) (fun a ⟨i,h⟩=>(R.fpAt h).1) fun a o _ h=>s a o h
  exact⟨R',⟨aq.refl _,fun a h=>s.free h,fun _ _ h _ _=>h,fun a vs h=>⟨vs,s _ _ h⟩,fun a o h _=>s a o h,fun _=>Iff.rfl,fun a h=>.inl ((o' a).mp h),fun _ _ h _ _=>h⟩⟩
theorem aT.freeze(R:aT K F H σ e){p:Addr}{o:HO}(hF:F p=none)(hp:H p=some o)(hn:¬bN σ e H p):aT K (a7 F p o) H σ e∧aq F (a7 F p o):=by
  have sF:aq F (a7 F p o):=aq.new hF
  refine⟨(R.keep sF (fun b u q=>?_) (fun a ha=>?_) fun _ _ _ h=>h).1,sF⟩
  · by_cases z:b=p
    · subst z;rw [am] at q;cases q;exact hp
    · rw [aB z] at q;exact R.sm _ _ q
  · obtain⟨i,hi⟩:=ha
    have z:a≠p:=fun z=>hn ⟨i,by rw [←z];exact hi⟩
    rw [aB z];exact(R.fpAt hi).1
theorem aT.notOwn(R:aT K F H σ e){p:Addr}{o:HO}(hp:H p=some o)(hl:∀vs,o≠.lst vs):¬bN σ e H p:=fun⟨i,h⟩=>by
  obtain⟨_,vs,g⟩:=R.fpAt h
  rw [hp] at g;cases g
  exact hl _ rfl
theorem aT.newT(R:aT K F H σ e){p:Addr}{vs:List V}(hp:H p=none):aT K (a7 F p (.tup vs)) (a7 H p (.tup vs)) σ e∧cP σ F H e (a7 F p (.tup vs)) (a7 H p (.tup vs)) e:=by
  have hF:=R.freeF hp
  obtain⟨R1,X1⟩:=R.same (aq.new hp (o:=.tup vs))
  obtain⟨R2,s2⟩:=R1.freeze (p:=p) hF am (R1.notOwn am (fun _ z=>nomatch z))
  refine⟨R2,⟨s2,X1.dom,fun a ws h n _=>?_,X1.lst,X1.tmp,X1.shp,X1.ow,fun a ws h n _=>?_⟩⟩
  all_goals
    have z:a≠p:=fun z=>by rw [z,hp] at n;cases n
    rw [aB z];exact h
theorem aT.sameOwn(R:aT K F H σ e)(s:aq H H')(a:Addr):bN σ e H' a↔ bN σ e H a:=(R.keep (aq.refl F) (R.sm.trans s) (fun a ⟨i,h⟩=>(R.fpAt h).1) fun a o _ h=>s a o h).2 a
theorem aT.newL(R:aT K F H σ e){p:Addr}{vs:List V}(hp:H p=none):aT K F (a7 H p (.lst vs)) σ e∧cP σ F H e F (a7 H p (.lst vs)) e∧F p=none∧¬bN σ e (a7 H p (.lst vs)) p:=
  ⟨(R.same (aq.new hp)).1,(R.same (aq.new hp)).2,R.freeF hp,fun z=>R.ownH p ((R.sameOwn (aq.new hp) p).mp z) hp⟩
theorem aT.growT(R:aT K F H σ e){p:Addr}{xs:List V}(s:aq H H')(hp:cM K H' p xs):∃F',aT K F' H' σ e∧cP σ F H e F' H' e∧cM K F' p xs:=by
  obtain⟨R1,X1⟩:=R.same s
  rcases hp with hp | hp
  · have key:∀o,H' p=some o→(∀vs,o≠.lst vs)→(∀m,o≠.dK m)→(∀G:Hp,G p=some o→Rd G p (.tup xs))→∃F',aT K F' H' σ e∧cP σ F H e F' H' e∧cM K F' p xs:=by
      intro o ho hl hm hr
      cases q:F p with
      | some u=>
        have:=R1.sm _ _ q
        rw [ho] at this;cases this
        exact⟨F,R1,X1,.inl (hr F q)⟩
      | none=>
        obtain⟨R2,s2⟩:=R1.freeze q ho (R1.notOwn ho hl)
        refine⟨_,R2,⟨s2,X1.dom,fun a ws h n _=>?_,X1.lst,X1.tmp,X1.shp,X1.ow,fun a ws h n _=>?_⟩,.inl (hr _ am)⟩
        · have z:a≠p:=fun z=>by rw [z] at n;rw [s _ _ n] at ho;cases ho;exact hl _ rfl
          rw [aB z];exact h
        · have z:a≠p:=fun z=>by rw [z] at n;rw [s _ _ n] at ho;cases ho;exact hm _ rfl
          rw [aB z];exact h
    rcases hp with hp | ⟨ob,hp⟩
    · exact key _ hp (fun _ z=>nomatch z) (fun _ z=>nomatch z) fun G g=>.inl g
    · exact key _ hp (fun _ z=>nomatch z) (fun _ z=>nomatch z) fun G g=>.inr ⟨ob,g⟩
  · exact⟨F,R1,X1,.inr hp⟩
theorem bK.frozen(R:aT K F H σ e){xs:List PyData}(h:bK K σ H0 F H e (.l xs) v):∃F',aT K F' H σ e∧aq F F'∧DA K F' (.list xs) v∧(∀a,F a=none→H0 a≠none→F' a=none):=by
  obtain⟨l,vs,rfl,h1,h2,h3,h4,h5⟩:=h
  obtain⟨R2,s2⟩:=R.freeze h2 h3 h5
  refine⟨_,R2,s2,?_,fun a ha hn=>?_⟩
  · rw [cQ]
    exact⟨l,vs,rfl,.inl (.inl am),aA.mono s2 h4⟩
  · have z:a≠l:=fun z=>hn (by rw [z];exact h1)
    rw [aB z];exact ha
def cJ(e:En):Rv→Option (Bool × List PyData)
  | .d (.tuple xs)=>some (false,xs)
  | .d (.list xs)=>some (true,xs)
  | .l xs=>some (true,xs)
  | .s i=>match e[i]? with
    | some (some (.l xs))=>some (true,xs)
    | _=>none
  | _=>none
theorem bD(R:aT K F H σ e)(h:bK K σ H0 F H e r v){b:Bool}{xs:List PyData}(q:cJ e r=some (b,xs)):
    ∃p vs,v=.ref p∧aA K F xs vs∧(if b=true then fy K H p vs else cM K H p vs):=by
  cases r with
  | d x=>
    cases x with
    | tuple ds=>
      cases q
      obtain⟨a,ys,e1,e2,e3⟩:=ce.mp h
      exact⟨a,ys,e1,e3,R.sm.tup e2⟩
    | list ds=>
      cases q
      obtain⟨a,ys,e1,e2,e3⟩:=cQ.mp h
      exact⟨a,ys,e1,e3,R.sm.seq e2⟩
    | _=>cases q
  | l ys=>
    cases q
    obtain⟨l,vs,e1,h1,h2,h3,h4,_⟩:=h
    exact⟨l,vs,e1,h4,.inl (.inl h3)⟩
  | s i=>
    obtain⟨h1,ys,h2⟩:=h
    simp only [cJ,h2] at q
    cases q
    obtain⟨l,vs,e1,e2,e3,e4⟩:=R.own i _ h2
    rw [h1] at e1;cases e1
    exact⟨l,vs,rfl,e4,.inl (.inl e3)⟩
end
end L2
namespace L2
open PySem PySem.Spec PyProof.Rows
abbrev FE:=En→Option (Rv × En)
abbrev FT:=En→Option (Bool × En)
abbrev FA:=En→Option (List Rv × En)
def cq(K:PySem.W.Frag)(σ:L2.St)(H0 F H:Hp)(e:En):List Rv→List V→Prop
  | [],vs=>vs=[]
  | r::rs,vs=>∃v ws,vs=v::ws∧bK K σ H0 F H e r v∧cq K σ H0 F H e rs ws
def fE(K:PySem.W.Frag)(f:FE):TE:=fun σ H Q=>∃F e r e',aT K F H σ e∧f e=some (r,e')∧∀F' H' v,cP σ F H e F' H' e'→aT K F' H' σ e'→bK K σ H F' H' e' r v→Q v H'
def fT(K:PySem.W.Frag)(f:FT):TT:=fun σ H Q=>∃F e b e',aT K F H σ e∧f e=some (b,e')∧∀F' H',cP σ F H e F' H' e'→aT K F' H' σ e'→Q b H'
def fA(K:PySem.W.Frag)(f:FA):TA:=fun σ H Q=>∃F e rs e',aT K F H σ e∧f e=some (rs,e')∧∀F' H' vs,cP σ F H e F' H' e'→aT K F' H' σ e'→cq K σ H F' H' e' rs vs→Q vs H'
theorem PE.mono{X:Cx}{e:Expr}{t t':TE}(h:PE X e t)(m:∀σ H Q,t' σ H Q→t σ H Q):PE X e t':=fun pins s σ H Q I q=>h pins s σ H Q I (m σ H Q q)
theorem PT.mono{X:Cx}{e:Expr}{t t':TT}(h:PT X e t)(m:∀σ H Q,t' σ H Q→t σ H Q):PT X e t':=fun pins s σ H Q I q=>h pins s σ H Q I (m σ H Q q)
theorem PW.mono{X:Cx}{e:Expr}{t t':TT}(h:PW X e t)(m:∀σ H Q,t' σ H Q→t σ H Q):PW X e t':=fun wh pins s σ H Q I q=>h wh pins s σ H Q I (m σ H Q q)
theorem PA.mono{X:Cx}{es:List Expr}{t t':TA}(h:PA X es t)(m:∀σ H Q,t' σ H Q→t σ H Q):PA X es t':=fun pos pins s σ H Q I q=>h pos pins s σ H Q I (m σ H Q q)
section
variable{K:PySem.W.Frag}{σ:L2.St}{H0 F H F' H':Hp}{e e':En}
theorem cq.weak{H1:Hp}(d:∀a,H1 a=none→H0 a=none):∀{rs:List Rv} {vs:List V},cq K σ H1 F H e rs vs→cq K σ H0 F H e rs vs
  | [],_,h=>h
  | r::rs,_,h=>by
    obtain⟨v,ws,rfl,h1,h2⟩:=h
    exact⟨v,ws,rfl,h1.weak d,cq.weak d h2⟩
theorem cP.frz{F'':Hp}(x:cP σ F H e F' H' e')(s:aq F' F'')(h:∀a,F' a=none→H a≠none→F'' a=none):cP σ F H e F'' H' e':=
  ⟨x.sf.trans s,x.dom,fun a vs h1 h2 h3=>h a (x.fr a vs h1 h2 h3) (by rw [h2];simp),x.lst,x.tmp,x.shp,x.ow,fun a m h1 h2 h3=>h a (x.fd a m h1 h2 h3) (by rw [h2];simp)⟩
def ie:List Rv→Option (List PyData)
  | []=>some []
  | .d x::rs=>(ie rs).map (x::·)
  | .l xs::rs=>(ie rs).map (.list xs::·)
  | .s _::_=>none
theorem cq.frozen:∀{rs:List Rv} {vs:List V} {ds:List PyData} {F:Hp},aT K F H σ e→cq K σ H0 F H e rs vs→ie rs=some ds→
    ∃F',aT K F' H σ e∧aq F F'∧aA K F' ds vs∧(∀a,F a=none→H0 a≠none→F' a=none)
  | [],_,_,F,R,h,q=>by
    cases q
    have h':_=[]:=h
    subst h'
    exact⟨F,R,aq.refl _,aA.nil,fun _ h _=>h⟩
  | .d x::rs,_,ds,F,R,h,q=>by
    obtain⟨v,ws,rfl,h1,h2⟩:=h
    obtain⟨ds',q1,rfl⟩:=Option.map_eq_some_iff.mp q
    obtain⟨F',R',s',d',f'⟩:=cq.frozen R h2 q1
    exact⟨F',R',s',.cons (DA.mono s' h1) d',f'⟩
  | .l xs::rs,_,ds,F,R,h,q=>by
    obtain⟨v,ws,rfl,h1,h2⟩:=h
    obtain⟨ds',q1,rfl⟩:=Option.map_eq_some_iff.mp q
    obtain⟨F',R',s',d',f'⟩:=cq.frozen R h2 q1
    obtain⟨l,us,rfl,g1,g2,g3,g4,g5⟩:=h1
    cases hl:F' l with
    | none=>
      have h1':bK K σ H0 F' H e (.l xs) (.ref l):=⟨l,us,rfl,g1,hl,g3,aA.mono s' g4,g5⟩
      obtain⟨F2,R2,s2,d2,f2⟩:=h1'.frozen R'
      exact⟨F2,R2,s'.trans s2,.cons d2 (aA.mono s2 d'),fun a ha hn=>f2 a (f' a ha hn) hn⟩
    | some o=>
      have:=R'.sm _ _ hl
      rw [g3] at this;cases this
      exact⟨F',R',s',.cons (cQ.mpr ⟨l,us,rfl,.inl (.inl hl),aA.mono s' g4⟩) d',f'⟩
end
section
variable{X:Cx}{K:PySem.W.Frag}{a b c:Expr}{fa fb:FE}{ft fu:FT}{pos:Pos}{es:List Expr}{fs:FA}
def ae(i:Nat):FE:=fun e=>match e[i]? with
  | some (some (.d x))=>some (.d x,e)
  | some (some (.l _))=>some (.s i,e)
  | _=>none
def vC(x:PyData):FE:=fun e=>some (.d x,e)
theorem xS{i:Nat}{σ:L2.St}{H:Hp}{Q:VK}(h:fE K (ae i) σ H Q):Cr i σ H Q:=by
  obtain⟨F,e,r,e',R,hf,q⟩:=h
  unfold ae at hf
  match h1:e[i]?,hf with
  | some (some (.d x)),hf=>
    cases hf
    obtain⟨v,h2,h3⟩:=R.dat i x h1
    exact⟨v,h2,q F H v (cP.refl _ _ _ _) R h3⟩
  | some (some (.n _)),hf=>cases hf
  | some (some (.l xs)),hf=>
    cases hf
    obtain⟨l,vs,h2,h3⟩:=R.own i xs h1
    exact⟨_,h2,q F H _ (cP.refl _ _ _ _) R ⟨h2,xs,h1⟩⟩
  | some none,hf=>cases hf
  | none,hf=>cases hf
theorem qv(i:Nat){x:Str}{pos:Pos}(hN:X.N[i]?=some x)(hv:AV X.env.scope x)(hd:(x==("__debug__":Str))=false)(hcd:(x==("__classdict__":Str))=false):PE X (.Name x pos) (fE K (ae i)):=(zK hN hv hd hcd).mono fun _ _ _ h=>xS h
theorem qK{x:PyData}{v:V}{σ:L2.St}{H:Hp}{Q:VK}(hx:∀F,DA K F x v)(h:fE K (vC x) σ H Q):tC v σ H Q:=by
  obtain⟨F,e,r,e',R,hf,q⟩:=h
  cases hf
  exact q F H v (cP.refl _ _ _ _) R (hx F)
theorem ac{i j pos}:PE X (.Constant (.int i) j pos) (fE K (vC (.int i))):=pw.mono fun _ _ _ h=>qK (fun _=>cc.mpr rfl) h
theorem cG{b j pos}:PE X (.Constant (.bool b) j pos) (fE K (vC (.bool b))):=BJ.mono fun _ _ _ h=>qK (fun _=>cy.mpr rfl) h
theorem uO{j pos}:PE X (.Constant .none j pos) (fE K (vC .none)):=zF.mono fun _ _ _ h=>qK (fun _=>eU.mpr rfl) h
theorem m4{x j pos}:PE X (.Constant (.str x) j pos) (fE K (vC (.str x))):=zI.mono fun _ _ _ h=>qK (fun _=>mH.mpr rfl) h
def dC(K:PySem.W.Frag)(r:R2)(g:En→Rv→Rv→Option Rv):Prop:=
  ∀(σ:L2.St) (H0 F H:Hp) (e:En) (x y z:Rv) (v u:V) (Q:VK),aT K F H σ e→bK K σ H0 F H e x v→bK K σ H0 F H e y u→g e x y=some z→
    (∀F' H' w,cP σ F H e F' H' e→aT K F' H' σ e→bK K σ H F' H' e z w→Q w H')→r v u H Q
def aw(g:En→Rv→Rv→Option Rv)(fa fb:FE):FE:=fun e=>(fa e).bind fun p=>(fb p.2).bind fun q=>(g q.2 p.1 q.1).map fun z=>(z,q.2)
theorem ni{r:R2}{g:En→Rv→Rv→Option Rv}(ho:dC K r g){σ:L2.St}{H:Hp}{Q:VK}(h:fE K (aw g fa fb) σ H Q):Co r (fE K fa) (fE K fb) σ H Q:=by
  obtain⟨F,e,z,e2,R,hf,q⟩:=h
  unfold aw at hf
  obtain⟨⟨x,e1⟩,h1,hf⟩:=Option.bind_eq_some_iff.mp hf
  obtain⟨⟨y,e2'⟩,h2,hf⟩:=Option.bind_eq_some_iff.mp hf
  obtain⟨z',h3,hf⟩:=Option.map_eq_some_iff.mp hf
  cases hf
  refine⟨F,e,x,e1,R,h1,fun F1 H1 v X1 R1 A1=>⟨F1,e1,y,_,R1,h2,fun F2 H2 u X2 R2 A2=>?_⟩⟩
  have X12:=X1.trans X2
  refine ho σ H F2 H2 _ x y _ v u Q R2 (A1.ext X2) (A2.weak X1.dom) h3 fun F3 H3 w X3 R3 A3=>?_
  exact q F3 H3 w (X12.trans X3) R3 (A3.weak X12.dom)
theorem lY{op:Operator}{r:R2}{g:En→Rv→Rv→Option Rv}(hr:dy X (binaryOp op) r)(ho:dC K r g)(ha:PE X a (fE K fa))(hb:PE X b (fE K fb)):PE X (.BinOp a op b pos) (fE K (aw g fa fb)):=(BM hr ha hb).mono fun _ _ _ h=>ni ho h
theorem zX{op:CmpOp}{r:R2}{g:En→Rv→Rv→Option Rv}(hr:dy X (compareOp op) r)(ho:dC K r g)(ha:PE X a (fE K fa))(hb:PE X b (fE K fb))(hm:behindInMarks op b=false):PE X (.Compare a [op] [b] pos) (fE K (aw g fa fb)):=(wU hr ha hb hm).mono fun _ _ _ h=>ni ho h
theorem BS{r:R2}{g:En→Rv→Rv→Option Rv}(hr:vG X r)(ho:dC K r g)(ha:PE X a (fE K fa))(hb:PE X b (fE K fb))(hs:mj b):PE X (.Subscript a b pos) (fE K (aw g fa fb)):=(BL hr ha hb hs).mono fun _ _ _ h=>ni ho h
def kU(g:En→Rv→Option Rv)(fa:FE):FE:=fun e=>(fa e).bind fun p=>(g p.2 p.1).map fun z=>(z,p.2)
def yH(K:PySem.W.Frag)(r:V→Hp→VK→Prop)(g:En→Rv→Option Rv):Prop:=
  ∀(σ:L2.St) (H0 F H:Hp) (e:En) (x z:Rv) (v:V) (Q:VK),aT K F H σ e→bK K σ H0 F H e x v→g e x=some z→
    (∀F' H' w,cP σ F H e F' H' e→aT K F' H' σ e→bK K σ H F' H' e z w→Q w H')→r v H Q
theorem nj{r:V→Hp→VK→Prop}{g:En→Rv→Option Rv}(ho:yH K r g){σ:L2.St}{H:Hp}{Q:VK}(h:fE K (kU g fa) σ H Q):DV r (fE K fa) σ H Q:=by
  obtain⟨F,e,z,e2,R,hf,q⟩:=h
  unfold kU at hf
  obtain⟨⟨x,e1⟩,h1,hf⟩:=Option.bind_eq_some_iff.mp hf
  obtain⟨z',h3,hf⟩:=Option.map_eq_some_iff.mp hf
  cases hf
  refine⟨F,e,x,_,R,h1,fun F1 H1 v X1 R1 A1=>?_⟩
  refine ho σ H F1 H1 _ x _ v Q R1 A1 h3 fun F3 H3 w X3 R3 A3=>?_
  exact q F3 H3 w (X1.trans X3) R3 (A3.weak X1.dom)
theorem BV{op:UnaryOp}{r:V→Hp→VK→Prop}{g:En→Rv→Option Rv}(hr:CH X (unaryOp op) r)(ho:yH K r g)(ha:PE X a (fE K fa)):PE X (.UnaryOp op a pos) (fE K (kU g fa)):=(BO hr ha).mono fun _ _ _ h=>nj ho h
def dr:Rv→Option Bool
  | .d (.bool b)=>some b
  | _=>none
theorem ci{σ:L2.St}{H0 F H:Hp}{e:En}{r:Rv}{v:V}{b:Bool}(h:bK K σ H0 F H e r v)(q:dr r=some b):v=.bl b:=by
  unfold dr at q
  split at q
  · cases q;exact cy.mp (show DA K F (.bool _) v from h)
  · cases q
theorem b_{σ:L2.St}{H0 F H:Hp}{e:En}{b:Bool}:bK K σ H0 F H e (.d (.bool b)) (.bl b):=(cy (K:=K) (F:=F)).mpr rfl
def aU(f:FE):FT:=fun e=>(f e).bind fun p=>(dr p.1).map fun b=>(b,p.2)
theorem kT{σ:L2.St}{H:Hp}{Q:Bool→Hp→Prop}(h:fT K (aU fa) σ H Q):fE K fa σ H fun x H'=>∃k,x=.bl k∧Q k H':=by
  obtain⟨F,e,b,e1,R,hf,q⟩:=h
  unfold aU at hf
  obtain⟨⟨x,e1'⟩,h1,hf⟩:=Option.bind_eq_some_iff.mp hf
  obtain⟨b',h3,hf⟩:=Option.map_eq_some_iff.mp hf
  cases hf
  exact⟨F,e,x,_,R,h1,fun F1 H1 v X1 R1 A1=>⟨_,ci A1 h3,q F1 H1 X1 R1⟩⟩
theorem z4{op:CmpOp}{r:R2}{g:En→Rv→Rv→Option Rv}(hr:dy X (compareOp op) r)(ho:dC K r g)(ha:PE X a (fE K fa))(hb:PE X b (fE K fb))(hm:behindInMarks op b=false):PT X (.Compare a [op] [b] pos) (fT K (aU (aw g fa fb))):=
  (xl hr ha hb hm).mono fun σ H Q h=>by
    obtain⟨F,e,z,e2,R,hf,q⟩:=kT h
    exact ni ho ⟨F,e,z,e2,R,hf,q⟩
theorem fq{e:Expr}(h:PE X e (fE K fa))(he:∀whole,isTrue e X.env whole=(do let v ←whole;standAt e.pos;holding [v] (truthy v))):PT X e (fT K (aU fa)):=(zT h he).mono fun _ _ _ h=>kT h
def nh(f g:FT):FT:=fun e=>(f e).bind fun p=>if p.1=true then g p.2 else some (false,p.2)
def xR(f g:FT):FT:=fun e=>(f e).bind fun p=>if p.1=true then some (true,p.2) else g p.2
def je(f:FT):FT:=fun e=>(f e).map fun p=>(!p.1,p.2)
theorem xP{σ:L2.St}{H:Hp}{Q:Bool→Hp→Prop}(h:fT K (nh ft fu) σ H Q):Ce (fT K ft) (fT K fu) σ H Q:=by
  obtain⟨F,e,b,e1,R,hf,q⟩:=h
  unfold nh at hf
  obtain⟨⟨x,e1'⟩,h1,hf⟩:=Option.bind_eq_some_iff.mp hf
  refine⟨F,e,x,e1',R,h1,fun F1 H1 X1 R1=>?_⟩
  cases x with
  | true=>exact⟨F1,e1',b,e1,R1,hf,fun F2 H2 X2 R2=>q F2 H2 (X1.trans X2) R2⟩
  | false=>cases hf;exact q F1 H1 X1 R1
theorem Az{σ:L2.St}{H:Hp}{Q:Bool→Hp→Prop}(h:fT K (xR ft fu) σ H Q):DU (fT K ft) (fT K fu) σ H Q:=by
  obtain⟨F,e,b,e1,R,hf,q⟩:=h
  unfold xR at hf
  obtain⟨⟨x,e1'⟩,h1,hf⟩:=Option.bind_eq_some_iff.mp hf
  refine⟨F,e,x,e1',R,h1,fun F1 H1 X1 R1=>?_⟩
  cases x with
  | false=>exact⟨F1,e1',b,e1,R1,hf,fun F2 H2 X2 R2=>q F2 H2 (X1.trans X2) R2⟩
  | true=>cases hf;exact q F1 H1 X1 R1
theorem xQ{σ:L2.St}{H:Hp}{Q:Bool→Hp→Prop}(h:fT K (je ft) σ H Q):Cm (fT K ft) σ H Q:=by
  obtain⟨F,e,b,e1,R,hf,q⟩:=h
  unfold je at hf
  obtain⟨⟨x,e1'⟩,h1,hf⟩:=Option.map_eq_some_iff.mp hf
  cases hf
  exact⟨F,e,x,_,R,h1,fun F1 H1 X1 R1=>q F1 H1 X1 R1⟩
variable{dI:List Expr}
theorem m7(ha:PT X a (fT K ft)):PW X (.BoolOp .And [a] pos) (fT K ft):=xo ha
theorem pE(ha:PT X a (fT K ft)):PW X (.BoolOp .Or [a] pos) (fT K ft):=zV ha
theorem m6(ha:PT X a (fT K ft))(hb:PW X (.BoolOp .And (b::dI) pos) (fT K fu)):PW X (.BoolOp .And (a::b::dI) pos) (fT K (nh ft fu)):=(zU ha hb).mono fun _ _ _ h=>xP h
theorem qt(ha:PT X a (fT K ft))(hb:PW X (.BoolOp .Or (b::dI) pos) (fT K fu)):PW X (.BoolOp .Or (a::b::dI) pos) (fT K (xR ft fu)):=(BR ha hb).mono fun _ _ _ h=>Az h
theorem gf(ha:PT X a (fT K ft)):PT X (.UnaryOp .Not a pos) (fT K (je ft)):=(zS ha).mono fun _ _ _ h=>xQ h
theorem rR{e:Expr}(h:PW X e (fT K ft)):PT X e (fT K ft):=h.pt
def jy(f g:FE):FE:=fun e=>(f e).bind fun p=>(dr p.1).bind fun b=>if b=true then g p.2 else some (.d (.bool false),p.2)
def Cz(f g:FE):FE:=fun e=>(f e).bind fun p=>(dr p.1).bind fun b=>if b=true then some (.d (.bool true),p.2) else g p.2
def oS(f:FE):FE:=fun e=>(f e).bind fun p=>(dr p.1).map fun b=>(.d (.bool (!b)),p.2)
theorem pC(ha:PE X a (fE K fa))(hb:PE X (.BoolOp .And (b::dI) pos) (fE K fb)):PE X (.BoolOp .And (a::b::dI) pos) (fE K (jy fa fb)):=(zD ha hb).mono fun σ H Q h=>by
  obtain⟨F,e,z,e2,R,hf,q⟩:=h
  unfold jy at hf
  obtain⟨⟨x,e1⟩,h1,hf⟩:=Option.bind_eq_some_iff.mp hf
  obtain⟨b,h2,hf⟩:=Option.bind_eq_some_iff.mp hf
  refine⟨F,e,x,e1,R,h1,fun F1 H1 v X1 R1 A1=>⟨b,ci A1 h2,?_⟩⟩
  cases b with
  | true=>exact⟨F1,e1,z,e2,R1,hf,fun F2 H2 w X2 R2 A2=>q F2 H2 w (X1.trans X2) R2 (A2.weak X1.dom)⟩
  | false=>cases hf;exact q F1 H1 _ X1 R1 b_
theorem pD{op}(h:PE X a (fE K fa)):PE X (.BoolOp op [a] pos) (fE K fa):=zH h
theorem zY(ha:PE X a (fE K fa)):PE X (.UnaryOp .Not a pos) (fE K (oS fa)):=(zG ha).mono fun σ H Q h=>by
  obtain⟨F,e,z,e2,R,hf,q⟩:=h
  unfold oS at hf
  obtain⟨⟨x,e1⟩,h1,hf⟩:=Option.bind_eq_some_iff.mp hf
  obtain⟨b,h2,hf⟩:=Option.map_eq_some_iff.mp hf
  cases hf
  exact⟨F,e,x,_,R,h1,fun F1 H1 v X1 R1 A1=>⟨b,ci A1 h2,q F1 H1 _ X1 R1 b_⟩⟩
def DY(t:FT)(f g:FE):FE:=fun e=>(t e).bind fun p=>if p.1=true then f p.2 else g p.2
def cK(g g':En→Rv→Rv→Option Rv)(fa fb fc:FE):FE:=fun e=>(fa e).bind fun p=>(fb p.2).bind fun q=>(g q.2 p.1 q.1).bind fun z=>(dr z).bind fun k=>if k=true then(fc q.2).bind fun w=>(g' w.2 q.1 w.1).map fun z'=>(z',w.2) else some (.d (.bool false),q.2)
theorem mh{r r':R2}{g g':En→Rv→Rv→Option Rv}{fc:FE}(ho:dC K r g)(ho':dC K r' g'){σ:L2.St}{H:Hp}{Q:VK}(h:fE K (cK g g' fa fb fc) σ H Q):pM r r' (fE K fa) (fE K fb) (fE K fc) σ H Q:=by
  obtain⟨F,e,z,e4,R,hf,q⟩:=h
  unfold cK at hf
  obtain⟨⟨x,e1⟩,h1,hf⟩:=Option.bind_eq_some_iff.mp hf
  obtain⟨⟨y,e2⟩,h2,hf⟩:=Option.bind_eq_some_iff.mp hf
  obtain⟨z',h3,hf⟩:=Option.bind_eq_some_iff.mp hf
  obtain⟨k,h4,hf⟩:=Option.bind_eq_some_iff.mp hf
  refine⟨F,e,x,e1,R,h1,fun F1 H1 v X1 R1 A1=>⟨F1,e1,y,e2,R1,h2,fun F2 H2 u X2 R2 A2=>?_⟩⟩
  have X12:=X1.trans X2
  refine ho σ H F2 H2 e2 x y z' v u _ R2 (A1.ext X2) (A2.weak X1.dom) h3 fun F3 H3 w X3 R3 A3=>⟨k,ci A3 h4,?_⟩
  have X13:=X12.trans X3
  cases k with
  | false=>
    cases hf
    exact q F3 H3 _ X13 R3 b_
  | true=>
    obtain⟨⟨w',e3⟩,h5,hf⟩:=Option.bind_eq_some_iff.mp hf
    obtain⟨z2,h6,hf⟩:=Option.map_eq_some_iff.mp hf
    cases hf
    refine⟨F3,_,w',_,R3,h5,fun F4 H4 u4 X4 R4 A4=>?_⟩
    have X14:=X13.trans X4
    refine ho' σ H F4 H4 _ y w' _ u u4 Q R4 (((A2.weak X1.dom).ext X3).ext X4) (A4.weak X13.dom) h6 fun F5 H5 w5 X5 R5 A5=>?_
    exact q F5 H5 w5 (X14.trans X5) R5 (A5.weak X14.dom)
theorem uM{op op':CmpOp}{r r':R2}{g g':En→Rv→Rv→Option Rv}{fc:FE}(hr:dy X (compareOp op) r)(ho:dC K r g)(hr':dy X (compareOp op') r')(ho':dC K r' g')(ha:PE X a (fE K fa))(hb:PE X b (fE K fb))(hc:PE X c (fE K fc))
    (hm:lastMarks [op,op'] [b,c]=false):PE X (.Compare a [op,op'] [b,c] pos) (fE K (cK g g' fa fb fc)):=(ut hr hr' ha hb hc hm).mono fun _ _ _ h=>mh ho ho' h
theorem uQ{op op':CmpOp}{r r':R2}{g g':En→Rv→Rv→Option Rv}{fc:FE}(hr:dy X (compareOp op) r)(ho:dC K r g)(hr':dy X (compareOp op') r')(ho':dC K r' g')(ha:PE X a (fE K fa))(hb:PE X b (fE K fb))(hc:PE X c (fE K fc))
    (hm:lastMarks [op,op'] [b,c]=false):PT X (.Compare a [op,op'] [b,c] pos) (fT K (aU (cK g g' fa fb fc))):=(uH hr hr' ha hb hc hm).mono fun σ H Q h=>by
  obtain⟨F,e,z,e2,R,hf,q⟩:=kT h
  exact mh ho ho' ⟨F,e,z,e2,R,hf,q⟩
def ag:FA:=fun e=>some ([],e)
def aa(fa:FE)(fs:FA):FA:=fun e=>(fa e).bind fun p=>(fs p.2).map fun q=>(p.1::q.1,q.2)
theorem ab:PA X [] (fA K ag):=iV.mono fun σ H Q h=>by
  obtain⟨F,e,r,e',R,hf,q⟩:=h
  cases hf
  exact q F H [] (cP.refl _ _ _ _) R rfl
theorem Dq(ha:PE X a (fE K fa))(hr:PA X es (fA K fs))(h:PySem.W.isStarred a=false):PA X (a::es) (fA K (aa fa fs)):=(Dn ha hr h).mono fun σ H Q h=>by
  obtain⟨F,e,z,e2,R,hf,q⟩:=h
  unfold aa at hf
  obtain⟨⟨x,e1⟩,h1,hf⟩:=Option.bind_eq_some_iff.mp hf
  obtain⟨⟨xs,e2'⟩,h2,hf⟩:=Option.map_eq_some_iff.mp hf
  cases hf
  refine⟨F,e,x,e1,R,h1,fun F1 H1 v X1 R1 A1=>⟨F1,e1,xs,_,R1,h2,fun F2 H2 vs X2 R2 A2=>?_⟩⟩
  exact q F2 H2 (v::vs) (X1.trans X2) R2 ⟨v,vs,rfl,A1.ext X2,A2.weak X1.dom⟩
def bh(fs:FA):FE:=fun e=>(fs e).bind fun p=>(ie p.1).bind fun ds=>if ds.length≤1000 then some (.d (.tuple ds),p.2) else none
def cg(fs:FA):FE:=fun e=>(fs e).bind fun p=>(ie p.1).bind fun ds=>if ds.length≤1000 then some (.l ds,p.2) else none
theorem ax{x1}(h:PA X es (fA K fs)):PE X (.Tuple es x1 pos) (fE K (bh fs)):=(zJ h).mono fun σ H Q h=>by
  obtain⟨F,e,z,e2,R,hf,q⟩:=h
  unfold bh at hf
  obtain⟨⟨rs,e1⟩,h1,hf⟩:=Option.bind_eq_some_iff.mp hf
  obtain⟨ds,h2,hf⟩:=Option.bind_eq_some_iff.mp hf
  split at hf
  case isFalse=>cases hf
  case isTrue hl=>
  cases hf
  refine⟨F,e,rs,_,R,h1,fun F1 H1 vs X1 R1 A1=>?_⟩
  obtain⟨F2,R2,s2,d2,f2⟩:=cq.frozen R1 A1 h2
  have hlen:=d2.len
  refine⟨Nat.le_of_lt (l_ (by lia)),fun p hp=>?_⟩
  obtain⟨R3,X3⟩:=R2.newT (vs:=vs) hp
  exact q _ _ _ ((X1.frz s2 f2).trans X3) R3 (ce.mpr ⟨p,vs,rfl,.inl (.inl am),aA.mono X3.sf d2⟩)
theorem aW(h:PA X es (fA K fs)):PE X (.List es pos) (fE K (cg fs)):=(zE h).mono fun σ H Q h=>by
  obtain⟨F,e,z,e2,R,hf,q⟩:=h
  unfold cg at hf
  obtain⟨⟨rs,e1⟩,h1,hf⟩:=Option.bind_eq_some_iff.mp hf
  obtain⟨ds,h2,hf⟩:=Option.bind_eq_some_iff.mp hf
  split at hf
  case isFalse=>cases hf
  case isTrue hl=>
  cases hf
  refine⟨F,e,rs,_,R,h1,fun F1 H1 vs X1 R1 A1=>?_⟩
  obtain⟨F2,R2,s2,d2,f2⟩:=cq.frozen R1 A1 h2
  have hlen:=d2.len
  refine⟨Nat.le_of_lt (l_ (by lia)),fun p hp=>?_⟩
  obtain⟨R3,X3,hF,no⟩:=R2.newL (vs:=vs) hp
  exact q _ _ _ ((X1.frz s2 f2).trans X3) R3 ⟨p,vs,rfl,X1.dom p hp,hF,am,d2,no⟩
def c9(K:PySem.W.Frag)(r:List V→Hp→VK→Prop)(g:En→List Rv→Option Rv):Prop:=
  ∀(σ:L2.St) (H0 F H:Hp) (e:En) (xs:List Rv) (z:Rv) (vs:List V) (Q:VK),aT K F H σ e→cq K σ H0 F H e xs vs→g e xs=some z→
    (∀F' H' w,cP σ F H e F' H' e→aT K F' H' σ e→bK K σ H F' H' e z w→Q w H')→r vs H Q
def aH(g:En→List Rv→Option Rv)(fs:FA):FE:=fun e=>(fs e).bind fun p=>(g p.2 p.1).map fun z=>(z,p.2)
theorem oQ{r:List V→Hp→VK→Prop}{g:En→List Rv→Option Rv}(ho:c9 K r g){σ:L2.St}{H:Hp}{Q:VK}(h:fE K (aH g fs) σ H Q):Dt r (fA K fs) σ H Q:=by
  obtain⟨F,e,z,e2,R,hf,q⟩:=h
  unfold aH at hf
  obtain⟨⟨x,e1⟩,h1,hf⟩:=Option.bind_eq_some_iff.mp hf
  obtain⟨z',h3,hf⟩:=Option.map_eq_some_iff.mp hf
  cases hf
  refine⟨F,e,x,_,R,h1,fun F1 H1 vs X1 R1 A1=>?_⟩
  refine ho σ H F1 H1 _ x _ vs Q R1 A1 h3 fun F3 H3 w X3 R3 A3=>?_
  exact q F3 H3 w (X1.trans X3) R3 (A3.weak X1.dom)
theorem uL{x:Str}{p pos:Pos}{id:String}{r:List V→Hp→VK→Prop}{g:En→List Rv→Option Rv}(hc:bO X (.builtin id) r)(ho:c9 K r g)(hg:Gl X x)(hm:X.mg x=none)(hv:bootBuiltins x=some (.builtin id))(ha:PA X (a::es) (fA K fs))(hn:x≠"__name__")(hdb:(x==("__debug__":Str))=false)
    (he:starEach (a::es) X.env=(false,eval a X.env)::starEach es X.env)(hpl:(backTo pos (starEach es X.env)).any (·.1)=false):PE X (.Call (.Name x p) (a::es) [] pos) (fE K (aH g fs)):=(iw hc hg hm hv ha hn hdb he hpl).mono fun _ _ _ h=>oQ ho h
theorem rQ{x:Str}{p pos:Pos}{T:String}{r:List V→Hp→VK→Prop}{g:En→List Rv→Option Rv}(hc:bO X (.type T) r)(ho:c9 K r g)(hg:Gl X x)(hm:X.mg x=none)(hv:bootBuiltins x=some (.type T))(ha:PA X (a::es) (fA K fs))(hn:x≠"__name__")(hdb:(x==("__debug__":Str))=false)
    (he:starEach (a::es) X.env=(false,eval a X.env)::starEach es X.env)(hpl:(backTo pos (starEach es X.env)).any (·.1)=false):PE X (.Call (.Name x p) (a::es) [] pos) (fE K (aH g fs)):=(iW hc hg hm hv ha hn hdb he hpl).mono fun _ _ _ h=>oQ ho h
end
end L2
namespace L2
open PySem PySem.Spec PyProof.Rows
mutual
theorem DA.reads{X:Cx}{pins:List (Addr × Obj)}{σ:L2.St}{H:Hp}{s:Shared}(I:ar X pins σ H s):∀{d:PyData} {v:V} {u:Value},d.canLay0=true→DA X.K H d v→bf v u→∃as,Reads s.heap u d as
  | .none,_,_,_,q,r=>by
    simp only [DA] at q;subst q;cases r;exact⟨_,.none⟩
  | .bool b,_,_,_,q,r=>by
    simp only [DA] at q;subst q;cases r;exact⟨_,.bool b⟩
  | .int i,_,_,_,q,r=>by
    simp only [DA] at q;subst q;obtain⟨t,rfl⟩:=r;exact⟨_,.int i t⟩
  | .str x,_,_,_,q,r=>by
    simp only [DA] at q;subst q;obtain⟨t,rfl⟩:=r;exact⟨_,.str x t⟩
  | .tuple ds,_,_,c,q,r=>by
    simp only [DA] at q
    obtain⟨a,xs,e,hs,rr⟩:=q
    subst e;cases r
    obtain⟨its,rv,⟨o,ho,hc,n,hd⟩,hz⟩:=I.tuple hs
    obtain⟨as,q⟩:=aA.reads I (by simpa [PyData.canLay0] using c) rr rv
    exact⟨_,.tuple ho hc hd q⟩
  | .list ds,_,_,c,q,r=>by
    simp only [DA] at q
    obtain⟨a,xs,e,hs,rr⟩:=q
    subst e;cases r
    obtain⟨its,rv,ht,hz⟩:=I.list hs
    obtain⟨o,ho,hc,n,hd⟩:=ht.isList
    obtain⟨as,q⟩:=aA.reads I (by simpa [PyData.canLay0] using c) rr rv
    exact⟨_,.list ho hc hd q⟩
  | .dict _,_,_,c,_,_=>by simp [PyData.canLay0] at c
theorem aA.reads{X:Cx}{pins:List (Addr × Obj)}{σ:L2.St}{H:Hp}{s:Shared}(I:ar X pins σ H s):∀{ds:List PyData} {xs:List V} {us:List Value},PyData.canLayAll0 ds=true→aA X.K H ds xs→aF xs us→∃as,ReadsAll s.heap us ds as
  | [],_,_,_,q,r=>by
    simp only [aA] at q;subst q;cases r;exact⟨_,.nil⟩
  | d::ds,_,_,c,q,r=>by
    simp only [aA] at q
    simp only [PyData.canLayAll0,Bool.and_eq_true] at c
    obtain⟨x,rr,e,a,b⟩:=q
    subst e
    cases r with
    | cons p p'=>
      obtain⟨as,q1⟩:=DA.reads I c.1 a p
      obtain⟨bs,q2⟩:=aA.reads I c.2 b p'
      exact⟨_,.cons q1 q2⟩
end
def fB(e:En):Rv→Option PyData
  | .d x=>some x
  | .l xs=>some (.list xs)
  | .s i=>match e[i]? with
    | some (some (.l xs))=>some (.list xs)
    | _=>none
theorem fP{K:PySem.W.Frag}{σ:L2.St}{H0 F H:Hp}{e:En}{r:Rv}{v:V}{d:PyData}(R:aT K F H σ e)(h:bK K σ H0 F H e r v)(q:fB e r=some d):DA K H d v:=by
  cases r with
  | d x=>cases q;exact DA.mono R.sm h
  | l xs=>
    cases q
    obtain⟨l,vs,rfl,h1,h2,h3,h4,_⟩:=h
    exact cQ.mpr ⟨l,vs,rfl,.inl (.inl h3),aA.mono R.sm h4⟩
  | s i=>
    obtain⟨h1,ys,h2⟩:=h
    simp only [fB,h2] at q
    cases q
    obtain⟨l,vs,e1,e2,e3,e4⟩:=R.own i _ h2
    rw [h1] at e1;cases e1
    exact cQ.mpr ⟨l,vs,rfl,.inl (.inl e3),aA.mono R.sm e4⟩
section
variable{X:Cx}{K:PySem.W.Frag}
def ck:Rv→Option Int
  | .d (.int i)=>some i
  | _=>none
theorem bQ{σ:L2.St}{H0 F H:Hp}{e:En}{r:Rv}{v:V}{i:Int}(h:bK K σ H0 F H e r v)(q:ck r=some i):v=.int i:=by
  unfold ck at q
  split at q
  · cases q;exact cc.mp (show DA K F (.int _) v from h)
  · cases q
theorem i3{σ:L2.St}{H0 F H:Hp}{e:En}{i:Int}:bK K σ H0 F H e (.d (.int i)) (.int i):=(cc (K:=K) (F:=F)).mpr rfl
def gI(C:Int→Int→Bool)(f:Int→Int→PyData):En→Rv→Rv→Option Rv:=fun _ x y=>(ck x).bind fun i=>(ck y).bind fun j=>if C i j=true then some (.d (f i j)) else none
theorem oz{C:Int→Int→Prop}{c:Int→Int→Bool}{g:Int→Int→V}{f:Int→Int→PyData}(hc:∀i j,c i j=true→C i j)(hf:∀F i j,DA K F (f i j) (g i j)):dC K (rI C g) (gI c f):=by
  intro σ H0 F H e x y z v u Q R A B hg q
  unfold gI at hg
  obtain⟨i,h1,hg⟩:=Option.bind_eq_some_iff.mp hg
  obtain⟨j,h2,hg⟩:=Option.bind_eq_some_iff.mp hg
  split at hg
  case isFalse=>cases hg
  case isTrue hh=>
  cases hg
  exact⟨i,j,bQ A h1,bQ B h2,hc i j hh,q F H _ (cP.refl _ _ _ _) R (hf F i j)⟩
theorem f_{g:Int→Int→V}{f:Int→Int→PyData}(hf:∀F i j,DA K F (f i j) (g i j)):dC K (pF g) (gI (fun _ _=>true) f):=by
  intro σ H0 F H e x y z v u Q R A B hg q
  obtain⟨i,j,h1,h2,h3,h4⟩:=oz (K:=K) (C:=fun _ _=>True) (c:=fun _ _=>true) (g:=g) (f:=f) (fun _ _ _=>trivial) hf σ H0 F H e x y z v u Q R A B hg q
  exact⟨i,j,h1,h2,h4⟩
def tK(g g':En→Rv→Rv→Option Rv):En→Rv→Rv→Option Rv:=fun e x y=>(g e x y).or (g' e x y)
theorem dC.or{r r':R2}{g g':En→Rv→Rv→Option Rv}(h:dC K r g)(h':dC K r' g'):dC K (fun x y H Q=>r x y H Q∨r' x y H Q) (tK g g'):=by
  intro σ H0 F H e x y z v u Q R A B hg q
  unfold tK at hg
  cases e1:g e x y with
  | some w=>
    rw [e1] at hg
    cases hg
    exact .inl (h σ H0 F H e x y _ v u Q R A B e1 q)
  | none=>
    rw [e1] at hg
    exact .inr (h' σ H0 F H e x y _ v u Q R A B hg q)
def sY:=gI (fun _ _=>true) fun i j=>.int (i+j)
def gX:=gI (fun _ _=>true) fun i j=>.int (i - j)
def fw(i:Int):Bool:=decide (-(2 ^ 64) < i)&&decide (i < 2 ^ 64)
def A7(n:Nat)(i:Int):Bool:=decide (i.natAbs < 2 ^ n)
theorem h_{n:Nat}{i:Int}:A7 n i=true↔ Bt n i:=by unfold A7 Bt;exact decide_eq_true_iff
def iT(i j:Int):Bool:=fw i || fw j || (A7 4000 i&&A7 4000 j)
def tI:=gI iT fun i j=>.int (i*j)
def cC:=gI (fun _ j=>j != 0&&A7 8000 j) fun i j=>.int (i.fdiv j)
def aN:=gI (fun _ j=>j != 0) fun i j=>.int (i.fmod j)
def uD(i j:Int):Bool:=decide (0≤j)&&decide (j≤1000000)&&fw i
def mM:=gI uD fun i j=>.int (i ^ j.toNat)
theorem hU{i:Int}(h:fw i=true): -(2 ^ 64) < i∧i < 2 ^ 64:=by
  unfold fw at h
  rw [Bool.and_eq_true,decide_eq_true_iff,decide_eq_true_iff] at h
  exact h
theorem xg{i j:Int}(h:uD i j=true):yD i j:=by
  unfold uD at h
  rw [Bool.and_eq_true,Bool.and_eq_true,decide_eq_true_iff,decide_eq_true_iff] at h
  have:=hU h.2
  exact⟨h.1.1,h.1.2,by lia⟩
def pS(i j:Int):Prop:=vD i j∨xV i j
theorem wM:dy X (binaryOp .Mult) (rI pS fun i j=>.int (i*j)):=by
  intro pins s σ H x y v u Q I rx ry h
  obtain⟨i,j,e1,e2,h1,q⟩:=h
  rcases h1 with h1 | h1
  · exact zy pins s σ H x y v u Q I rx ry ⟨i,j,e1,e2,h1,q⟩
  · exact wN pins s σ H x y v u Q I rx ry ⟨i,j,e1,e2,h1,q⟩
theorem wx{i j:Int}(h:iT i j=true):pS i j:=by
  unfold iT at h
  rw [Bool.or_eq_true,Bool.or_eq_true,Bool.and_eq_true] at h
  rcases h with (h | h) | h
  · exact .inl (.inl (hU h))
  · exact .inl (.inr (hU h))
  · exact .inr ⟨h_.mp h.1,h_.mp h.2⟩
theorem ze:dC K (rI pS fun i j=>.int (i*j)) tI:=oz (fun _ _ h=>wx h) fun _ _ _=>cc.mpr rfl
theorem Cd:dC K (pF fun i j=>.int (i - j)) gX:=f_ fun _ _ _=>cc.mpr rfl
theorem yO:dC K (rI xU fun i j=>.int (i.fdiv j)) cC:=oz (fun i j h=>by
  rw [Bool.and_eq_true] at h
  exact⟨by simpa using h.1,h_.mp h.2⟩) fun _ _ _=>cc.mpr rfl
theorem By:dC K (rI (fun _ j=>j≠0) fun i j=>.int (i.fmod j)) aN:=oz (fun i j h=>by simpa using h) fun _ _ _=>cc.mpr rfl
theorem BP:dC K (rI yD fun i j=>.int (i ^ j.toNat)) mM:=oz (fun _ _ h=>xg h) fun _ _ _=>cc.mpr rfl
def nR:En→Rv→Rv→Option Rv:=fun e x y=>match cJ e x,cJ e y with
  | some (false,xs),some (false,ys)=>if xs.length+ys.length≤1000000 then some (.d (.tuple (xs++ys))) else none
  | _,_=>none
theorem yM:dC K (uR K) nR:=by
  intro σ H0 F H e x y z v u Q R A B hg q
  unfold nR at hg
  match h1:cJ e x,h2:cJ e y,hg with
  | some (false,xs),some (false,ys),hg=>
    obtain⟨p,vs,rfl,d1,s1⟩:=bD R A h1
    obtain⟨p',us,rfl,d2,s2⟩:=bD R B h2
    dsimp only at hg
    split at hg
    case isFalse=>cases hg
    case isTrue hl=>
    cases hg
    have l1:=d1.len
    have l2:=d2.len
    have sl:sizeLine=16777216:=sizeLine_eq
    refine⟨p,p',vs,us,rfl,rfl,s1,s2,by lia,fun t H' sm hT=>?_⟩
    obtain⟨F',R',X',hF⟩:=R.growT sm hT
    exact q F' H' _ X' R' (ce.mpr ⟨t,_,rfl,hF,(d1.append d2).mono X'.sf⟩)
def rE(e:En):Rv→Option (List PyData)
  | .l xs=>some xs
  | .s i=>match e[i]? with
    | some (some (.l xs))=>some xs
    | _=>none
  | _=>none
theorem mU{σ:L2.St}{H0 F H:Hp}{e:En}{r:Rv}{v:V}(R:aT K F H σ e)(h:bK K σ H0 F H e r v){xs:List PyData}(q:rE e r=some xs):∃p vs,v=.ref p∧F p=none∧H p=some (.lst vs)∧aA K F xs vs:=by
  cases r with
  | d x=>cases q
  | l ys=>
    cases q
    obtain⟨l,vs,e1,h1,h2,h3,h4,_⟩:=h
    exact⟨l,vs,e1,h2,h3,h4⟩
  | s i=>
    obtain⟨h1,ys,h2⟩:=h
    simp only [rE,h2] at q
    cases q
    obtain⟨l,vs,e1,e2,e3,e4⟩:=R.own i _ h2
    rw [h1] at e1;cases e1
    exact⟨l,vs,rfl,e2,e3,e4⟩
def p8:En→Rv→Rv→Option Rv:=fun e x y=>(rE e x).bind fun xs=>(rE e y).bind fun ys=>if xs.length+ys.length≤1000000 then some (.l (xs++ys)) else none
theorem yL:dC K z5 p8:=by
  intro σ H0 F H e x y z v u Q R A B hg q
  unfold p8 at hg
  obtain⟨xs,h1,hg⟩:=Option.bind_eq_some_iff.mp hg
  obtain⟨ys,h2,hg⟩:=Option.bind_eq_some_iff.mp hg
  split at hg
  case isFalse=>cases hg
  case isTrue hl=>
  cases hg
  obtain⟨p,vs,rfl,f1,s1,d1⟩:=mU R A h1
  obtain⟨p',us,rfl,f2,s2,d2⟩:=mU R B h2
  have l1:=d1.len
  have l2:=d2.len
  have sl:sizeLine=16777216:=sizeLine_eq
  refine⟨p,p',vs,us,rfl,rfl,s1,s2,by lia,fun t ht=>?_⟩
  obtain⟨R3,X3,hF,no⟩:=R.newL (vs:=vs++us) ht
  exact q _ _ _ X3 R3 ⟨t,_,rfl,ht,hF,am,d1.append d2,no⟩
def aY:En→Rv→Rv→Option Rv:=tK sY (tK nR p8)
def yx(K:PySem.W.Frag):R2:=fun x y H Q=>pF (fun i j=>.int (i+j)) x y H Q∨(uR K x y H Q∨z5 x y H Q)
theorem wG:dy X (binaryOp .Add) (yx X.K):=zr.or (wH.or zt)
theorem AX:dC K (yx K) aY:=dC.or (f_ fun _ _ _=>cc.mpr rfl) (dC.or yM yL)
def tM:En→Rv→Rv→Option Rv:=fun e x y=>match cJ e x,ck y with
  | some (false,[d]),some k=>if 0≤k∧k≤100000 then some (.d (.tuple (List.replicate k.toNat d))) else none
  | _,_=>none
theorem aA.rep{F:Hp}{d:PyData}{v:V}(h:DA K F d v):∀n,aA K F (List.replicate n d) (List.replicate n v)
  | 0=>aA.nil
  | n+1=>aA.cons h (aA.rep h n)
theorem z9:dC K (uT K) tM:=by
  intro σ H0 F H e x y z v u Q R A B hg q
  unfold tM at hg
  match h1:cJ e x,h2:ck y,hg with
  | some (false,[d]),some k,hg=>
    obtain⟨p,vs,rfl,d1,s1⟩:=bD R A h1
    dsimp only at hg
    split at hg
    case isFalse=>cases hg
    case isTrue hl=>
    cases hg
    have hd:=d1
    simp only [aA] at hd
    obtain⟨w,r,e1,hw,e2⟩:=hd
    subst e2 e1
    refine⟨p,k,w,rfl,bQ B h2,s1,hl.1,hl.2,fun t H' sm hT=>?_⟩
    obtain⟨F',R',X',hF⟩:=R.growT sm hT
    exact q F' H' _ X' R' (ce.mpr ⟨t,_,rfl,hF,(aA.rep hw _).mono X'.sf⟩)
def tL:En→Rv→Rv→Option Rv:=fun e x y=>(rE e x).bind fun xs=>(ck y).bind fun k=>if -100000≤k∧k≤100000∧xs.length*k.toNat≤1000000 then some (.l (List.replicate k.toNat xs).flatten) else none
theorem aA.reps{F:Hp}{ds:List PyData}{vs:List V}(h:aA K F ds vs):∀n,aA K F (List.replicate n ds).flatten (List.replicate n vs).flatten
  | 0=>aA.nil
  | n+1=>by simpa [List.replicate_succ] using aA.append h (aA.reps h n)
theorem z8:dC K z7 tL:=by
  intro σ H0 F H e x y z v u Q R A B hg q
  unfold tL at hg
  obtain⟨xs,h1,hg⟩:=Option.bind_eq_some_iff.mp hg
  obtain⟨k,h2,hg⟩:=Option.bind_eq_some_iff.mp hg
  split at hg
  case isFalse=>cases hg
  case isTrue hl=>
  cases hg
  obtain⟨p,vs,rfl,f1,s1,d1⟩:=mU R A h1
  have l1:=d1.len
  have sl:sizeLine=16777216:=sizeLine_eq
  refine⟨p,k,vs,rfl,bQ B h2,s1,by lia,by lia,by rw [←l1];lia,fun t ht=>?_⟩
  obtain⟨R3,X3,hF,no⟩:=R.newL (vs:=(List.replicate k.toNat vs).flatten) ht
  exact q _ _ _ X3 R3 ⟨t,_,rfl,ht,hF,am,aA.reps d1 _,no⟩
def ke:En→Rv→Rv→Option Rv:=tK tI (tK tM tL)
def yy(K:PySem.W.Frag):R2:=fun x y H Q=>rI pS (fun i j=>.int (i*j)) x y H Q∨(uT K x y H Q∨z7 x y H Q)
theorem wL:dy X (binaryOp .Mult) (yy X.K):=wM.or (wQ.or zB)
theorem Bz:dC K (yy K) ke:=dC.or ze (dC.or z9 z8)
def tG:=gI (fun _ _=>true) fun i j=>.bool (decide (i < j))
def AF:=gI (fun _ _=>true) fun i j=>.bool (decide (i≤j))
def yP:=gI (fun _ _=>true) fun i j=>.bool (decide (j < i))
def Bg:=gI (fun _ _=>true) fun i j=>.bool (decide (j≤i))
theorem Dl:dC K (pF fun i j=>.bl (decide (i < j))) tG:=f_ fun _ _ _=>cy.mpr rfl
theorem Dj:dC K (pF fun i j=>.bl (decide (i≤j))) AF:=f_ fun _ _ _=>cy.mpr rfl
theorem Da:dC K (pF fun i j=>.bl (decide (j < i))) yP:=f_ fun _ _ _=>cy.mpr rfl
theorem C':dC K (pF fun i j=>.bl (decide (j≤i))) Bg:=f_ fun _ _ _=>cy.mpr rfl
def z6(K:PySem.W.Frag)(neg:Bool):R2:=fun x y H Q=>∃a b,DA K H a x∧DA K H b y∧SeqAt.shaped a=true∧SeqAt.shaped b=true∧Q (.bl (if neg then !PyData.eqv a b else PyData.eqv a b)) H
theorem zu{k:Nat}(hr:cN k X.A):dy X (compareOp .Eq) (z6 X.K false):=by
  intro pins s σ H x y v u Q I rx ry h
  obtain⟨a,b,ha,hb,s1,s2,q⟩:=h
  obtain⟨as,ra⟩:=DA.reads I (SeqAt.canLay_of_shaped s1) ha rx
  obtain⟨bs,rb⟩:=DA.reads I (SeqAt.canLay_of_shaped s2) hb ry
  exact SeqAt.compareEq_shaped ra rb s1 s2 hr.units ⟨.bl _,H,I,rfl,q⟩
theorem zz{k:Nat}(hr:cN k X.A):dy X (compareOp .NotEq) (z6 X.K true):=by
  intro pins s σ H x y v u Q I rx ry h
  obtain⟨a,b,ha,hb,s1,s2,q⟩:=h
  obtain⟨as,ra⟩:=DA.reads I (SeqAt.canLay_of_shaped s1) ha rx
  obtain⟨bs,rb⟩:=DA.reads I (SeqAt.canLay_of_shaped s2) hb ry
  exact SeqAt.compareNe_shaped ra rb s1 s2 hr.units ⟨.bl _,H,I,rfl,q⟩
def cB(neg:Bool):En→Rv→Rv→Option Rv:=fun e x y=>(fB e x).bind fun a=>(fB e y).bind fun b=>if (SeqAt.shaped a&&SeqAt.shaped b)=true then some (.d (.bool (if neg then !PyData.eqv a b else PyData.eqv a b))) else none
theorem ya{neg:Bool}:dC K (z6 K neg) (cB neg):=by
  intro σ H0 F H e x y z v u Q R A B hg q
  unfold cB at hg
  obtain⟨a,h1,hg⟩:=Option.bind_eq_some_iff.mp hg
  obtain⟨b,h2,hg⟩:=Option.bind_eq_some_iff.mp hg
  split at hg
  case isFalse=>cases hg
  case isTrue hl=>
  cases hg
  rw [Bool.and_eq_true] at hl
  exact⟨a,b,fP R A h1,fP R B h2,hl.1,hl.2,q F H _ (cP.refl _ _ _ _) R b_⟩
def BX(K:PySem.W.Frag)(neg:Bool):R2:=fun x y H Q=>∃a xs,DA K H a x∧(DA K H (.list xs) y∨DA K H (.tuple xs) y)∧a.canLay0=true∧a.depth≤60∧PyData.canLayAll0 xs=true∧Q (.bl (if neg then !(xs.any fun y=>PyData.eqv y a) else xs.any fun y=>PyData.eqv y a)) H
theorem rL{k:Nat}(hr:cN k X.A):dy X (compareOp .NotIn) (BX X.K true):=by
  intro pins s σ H x y v u Q I rx ry h
  obtain⟨a,xs,ha,hb,s1,s2,s3,q⟩:=h
  obtain⟨as,ra⟩:=DA.reads I s1 ha rx
  have hu:=hr.units
  rcases hb with hb | hb
  · obtain⟨bs,rb⟩:=DA.reads I (by simpa [PyData.canLay0] using s3) hb ry
    exact PySem.SeqAt.notIn_list_reads rb ra s3 s1 (by lia) ⟨.bl _,H,I,rfl,q⟩
  · obtain⟨bs,rb⟩:=DA.reads I (by simpa [PyData.canLay0] using s3) hb ry
    exact PySem.SeqAt.notIn_tuple_reads rb ra s3 s1 (by lia) ⟨.bl _,H,I,rfl,q⟩
def s_(neg:Bool):En→Rv→Rv→Option Rv:=fun e x y=>(fB e x).bind fun a=>(cJ e y).bind fun p=>if (a.canLay0&&decide (a.depth≤60)&&PyData.canLayAll0 p.2)=true then some (.d (.bool (if neg then !(p.2.any fun y=>PyData.eqv y a) else p.2.any fun y=>PyData.eqv y a))) else none
theorem Dd{neg:Bool}:dC K (BX K neg) (s_ neg):=by
  intro σ H0 F H e x y z v u Q R A B hg q
  unfold s_ at hg
  obtain⟨a,h1,hg⟩:=Option.bind_eq_some_iff.mp hg
  obtain⟨⟨b,xs⟩,h2,hg⟩:=Option.bind_eq_some_iff.mp hg
  split at hg
  case isFalse=>cases hg
  case isTrue hl=>
  cases hg
  rw [Bool.and_eq_true,Bool.and_eq_true,decide_eq_true_iff] at hl
  obtain⟨p,vs,rfl,d1,s1⟩:=bD R B h2
  refine⟨a,xs,fP R A h1,?_,hl.1.1,hl.1.2,hl.2,q F H _ (cP.refl _ _ _ _) R b_⟩
  cases b with
  | true=>exact .inl (cQ.mpr ⟨p,vs,rfl,s1,d1.mono R.sm⟩)
  | false=>exact .inr (ce.mpr ⟨p,vs,rfl,s1,d1.mono R.sm⟩)
def mR:PyData→Bool
  | .none=>true
  | _=>false
theorem lG{F:Hp}{d:PyData}{v:V}(h:DA K F d v):decide (v=.non)=mR d:=by
  cases d with
  | none=>rw [eU.mp h];rfl
  | bool b=>rw [cy.mp h];rfl
  | int b=>rw [cc.mp h];rfl
  | str b=>rw [mH.mp h];rfl
  | tuple b=>obtain⟨a,_,e,_⟩:=ce.mp h;rw [e];rfl
  | list b=>obtain⟨a,_,e,_⟩:=cQ.mp h;rw [e];rfl
  | dict b=>simp only [DA] at h;obtain⟨a,m,rfl,_⟩:=h;rfl
def rh(neg:Bool):En→Rv→Rv→Option Rv:=fun e x y=>(fB e x).bind fun a=>match y with
  | .d .none=>some (.d (.bool (if neg then !mR a else mR a)))
  | _=>none
def rg(neg:Bool):En→Rv→Rv→Option Rv:=fun e x y=>(dr x).bind fun a=>(dr y).bind fun b=>some (.d (.bool (if neg then !(a==b) else a==b)))
theorem Bm:dC K (fun x y H Q=>y=.non∧Q (.bl (decide (x=.non))) H) (rh false):=by
  intro σ H0 F H e x y z v u Q R A B hg q
  unfold rh at hg
  obtain⟨a,h1,hg⟩:=Option.bind_eq_some_iff.mp hg
  split at hg
  · cases hg
    refine⟨eU.mp (show DA K F .none u from B),?_⟩
    rw [lG (fP R A h1)]
    exact q F H _ (cP.refl _ _ _ _) R b_
  · cases hg
theorem zi:dC K (fun x y H Q=>y=.non∧Q (.bl (!decide (x=.non))) H) (rh true):=by
  intro σ H0 F H e x y z v u Q R A B hg q
  unfold rh at hg
  obtain⟨a,h1,hg⟩:=Option.bind_eq_some_iff.mp hg
  split at hg
  · cases hg
    refine⟨eU.mp (show DA K F .none u from B),?_⟩
    rw [lG (fP R A h1)]
    exact q F H _ (cP.refl _ _ _ _) R b_
  · cases hg
theorem Bl:dC K (fun x y H Q=>∃b c,x=.bl b∧y=.bl c∧Q (.bl (b==c)) H) (rg false):=by
  intro σ H0 F H e x y z v u Q R A B hg q
  unfold rg at hg
  obtain⟨a,h1,hg⟩:=Option.bind_eq_some_iff.mp hg
  obtain⟨b,h2,hg⟩:=Option.bind_eq_some_iff.mp hg
  cases hg
  exact⟨a,b,ci A h1,ci B h2,q F H _ (cP.refl _ _ _ _) R b_⟩
theorem tW:dC K (fun x y H Q=>∃b c,x=.bl b∧y=.bl c∧Q (.bl (!(b==c))) H) (rg true):=by
  intro σ H0 F H e x y z v u Q R A B hg q
  unfold rg at hg
  obtain⟨a,h1,hg⟩:=Option.bind_eq_some_iff.mp hg
  obtain⟨b,h2,hg⟩:=Option.bind_eq_some_iff.mp hg
  cases hg
  exact⟨a,b,ci A h1,ci B h2,q F H _ (cP.refl _ _ _ _) R b_⟩
def Bh:En→Rv→Rv→Option Rv:=tK (rh false) (rg false)
def j_:En→Rv→Rv→Option Rv:=tK (rh true) (rg true)
def BY:R2:=fun x y H Q=>(y=.non∧Q (.bl (decide (x=.non))) H)∨∃b c,x=.bl b∧y=.bl c∧Q (.bl (b==c)) H
def qx:R2:=fun x y H Q=>(y=.non∧Q (.bl (!decide (x=.non))) H)∨∃b c,x=.bl b∧y=.bl c∧Q (.bl (!(b==c))) H
theorem zv:dy X (compareOp .Is) BY:=zx.or zw
theorem rJ:dy X (compareOp .IsNot) qx:=wO.or rK
theorem Df:dC K BY Bh:=dC.or Bm Bl
theorem vZ:dC K qx j_:=dC.or zi tW
def fJ:En→Rv→Rv→Option Rv:=fun e x y=>(cJ e x).bind fun p=>(ck y).bind fun i=>(atI p.2 i).map .d
def BZ(K:PySem.W.Frag):R2:=fun x y H Q=>B0 K x y H Q∨B1 K x y H Q
theorem Dg:vG X (BZ X.K):=wc.or yY
theorem aA.atI{F:Hp}{ds:List PyData}{vs:List V}(h:aA K F ds vs){i:Int}{d:PyData}(q:atI ds i=some d):∃v,L2.atI vs i=some v∧DA K F d v:=by
  unfold L2.atI at q ⊢
  obtain⟨j,h1,h2⟩:=Option.bind_eq_some_iff.mp q
  obtain⟨v,h3,h4⟩:=h.get h2
  exact⟨v,by rw [←h.len,h1];exact h3,h4⟩
theorem Dh:dC K (BZ K) fJ:=by
  intro σ H0 F H e x y z v u Q R A B hg q
  unfold fJ at hg
  obtain⟨⟨b,xs⟩,h1,hg⟩:=Option.bind_eq_some_iff.mp hg
  obtain⟨i,h2,hg⟩:=Option.bind_eq_some_iff.mp hg
  obtain⟨d,h3,hg⟩:=Option.map_eq_some_iff.mp hg
  cases hg
  obtain⟨p,vs,rfl,d1,s1⟩:=bD R A h1
  obtain⟨w,h4,h5⟩:=d1.atI h3
  have fin:=q F H w (cP.refl _ _ _ _) R h5
  cases b with
  | true=>exact .inl ⟨p,vs,i,w,rfl,bQ B h2,s1,h4,fin⟩
  | false=>exact .inr ⟨p,vs,i,w,rfl,bQ B h2,s1,h4,fin⟩
end
end L2
namespace HT
open PySem PySem.Spec PyProof.Rows
section
variable{prog:Program}{w:World}{A:Around}{E:Value→Shared→Prop}{s:Shared}
theorem getItem_tuple_all{t sl:Addr}{items:Array Value}{vl vu:Value}{lo hi:Option Int}{Q:Value→Shared→Prop}(ht:IsTup s.heap t items)(hs:s.heap.IsSliceOf sl vl vu .none)(pl:IsPart vl lo)(pu:IsPart vu hi)
    (hw:sIx items.size 0 lo=0∧sIx items.size items.size hi=items.size)
    (h:Q (.ref t) s):wpAny (model prog w) A (getItem (.ref t) (.ref sl)) Q E s:=by
  obtain⟨os,hos,hcs,hds⟩:=id hs
  have hTs:s.TypeIs (.ref sl) "slice":=⟨os,hos,hcs⟩
  unfold getItem
  try with_reducible refine wpAny_holding ?_
  first | refine wpAny_bind (wpAny_pure ?_) | skip
  refine wpAny_bind (wpAny_sequenceKey ht.typeIs (by decide) ?_)
  refine wpAny_bind (wpAny_callSpecial?_slot (name:=Str.ofString "__getitem__") ht.typeIs PyProof.Rows.slot_tuple_getitem
    (wpAny_call_entry PyProof.Rows.slot_tuple_getitem ht.typeIs entry_tuple_getitem ?_ (args_tuple_getitem _ _)))
  show wpAny _ _ (Builtin.Tuple.tupleItemsOf (.ref t) >>= _) _ _ s
  refine wpAny_bind (tupleItemsOf_ ht ?_)
  refine wpAny_bind (wpAny_typeOf hTs ?_)
  rw [if_pos (by decide)]
  refine wpAny_bind (eO hs pl pu ?_)
  have hno:(((sIx items.size 0 lo:Nat):Int)==0&&(1:Int)==1&&(sIx items.size items.size hi - sIx items.size 0 lo)==items.size)=true:=by
    rw [hw.1,hw.2];simp
  show wpAny _ _ (if (((sIx items.size 0 lo:Nat):Int)==0&&(1:Int)==1&&(sIx items.size items.size hi - sIx items.size 0 lo)==items.size)=true then _ else _) _ _ s
  rw [if_pos hno]
  unfold Builtin.Tuple.tupleIsExact
  refine wpAny_bind (wpAny_bind (wpAny_typeOf ht.typeIs (wpAny_pure ?_)))
  rw [if_pos (by decide)]
  exact wpAny_bind (wpAny_rule (wpAny_pure ⟨_,rfl,wpAny_pure h⟩))
end
end HT
namespace L2
open PySem PySem.Spec PyProof.Rows
section
variable{X:Cx}{K:PySem.W.Frag}{a:Expr}{fa:FE}{lo hi:Option Expr}{pos p2:Pos}
def cutD(xs:List PyData)(lo hi:Option Int):List PyData:=(xs.drop (HT.sIx xs.length 0 lo)).take (HT.sIx xs.length xs.length hi - HT.sIx xs.length 0 lo)
def B6(K:PySem.W.Frag):V→Option Int→Option Int→Hp→VK→Prop:=fun x lo hi H Q=>∃a xs,x=.ref a∧cM K H a xs∧
  (HT.sIx xs.length 0 lo=0∧HT.sIx xs.length xs.length hi=xs.length)∧Q (.ref a) H
theorem xC:vH X (B6 X.K):=by
  intro pins s σ H x v vl vu lo hi sl Q I rx hs pl pu h
  obtain⟨a,xs,rfl,hx,hw,q⟩:=h
  cases rx
  obtain⟨its,r,ht,hz⟩:=I.tuple hx
  have hlen:its.toArray.size=xs.length:=by rw [List.size_toArray];exact r.length.symm
  refine⟨"tuple",_,PyProof.Rows.slot_tuple_getitem.lookup,ht.typeIs,?_⟩
  exact HT.getItem_tuple_all ht hs pl pu (by rw [hlen];exact hw) ⟨.ref a,H,I,rfl,q⟩
def Dr(K:PySem.W.Frag):V→Option Int→Option Int→Hp→VK→Prop:=fun x lo hi H Q=>B5 K x lo hi H Q∨(B6 K x lo hi H Q∨B4 K x lo hi H Q)
theorem Ds:vH X (Dr X.K):=Ah.or (xC.or xB)
abbrev FO:=En→Option (Option Int × En)
def fO(K:PySem.W.Frag)(f:FO):TO:=fun σ H Q=>∃F e o e',aT K F H σ e∧f e=some (o,e')∧∀F' H',cP σ F H e F' H' e'→aT K F' H' σ e'→Q o H'
theorem PO.mono{e:Option Expr}{t t':TO}(h:PO X e t)(m:∀σ H Q,t' σ H Q→t σ H Q):PO X e t':=fun pins s σ H Q I q=>h pins s σ H Q I (m σ H Q q)
def dz:FO:=fun e=>some (none,e)
def dh(f:FE):FO:=fun e=>(f e).bind fun p=>(ck p.1).map fun i=>(some i,p.2)
theorem bV:PO X none (fO K dz):=xb.mono fun σ H Q h=>by
  obtain⟨F,e,o,e',R,hf,q⟩:=h
  cases hf
  exact q F H (cP.refl _ _ _ _) R
theorem bW(h:PE X a (fE K fa)):PO X (some a) (fO K (dh fa)):=(xc h).mono fun σ H Q h=>by
  obtain⟨F,e,o,e',R,hf,q⟩:=h
  unfold dh at hf
  obtain⟨⟨x,e1⟩,h1,hf⟩:=Option.bind_eq_some_iff.mp hf
  obtain⟨i,h2,hf⟩:=Option.map_eq_some_iff.mp hf
  cases hf
  exact⟨F,e,x,_,R,h1,fun F1 H1 v X1 R1 A1=>⟨i,bQ A1 h2,q F1 H1 X1 R1⟩⟩
def C_(e:En)(x:Rv)(lo hi:Option Int):Option Rv:=(cJ e x).map fun p=>if p.1=true then .l (cutD p.2 lo hi) else .d (.tuple (cutD p.2 lo hi))
def nq(fa:FE)(fl fh:FO):FE:=fun e=>(fa e).bind fun p=>(fl p.2).bind fun l=>(fh l.2).bind fun h=>(C_ h.2 p.1 l.1 h.1).map fun z=>(z,h.2)
theorem sP{F:Hp}{ds:List PyData}{vs:List V}(h:aA K F ds vs)(lo hi:Option Int):aA K F (cutD ds lo hi) (lg vs lo hi):=by
  unfold cutD lg
  rw [h.len]
  exact(h.drop _).take _
theorem vN{α:Type}{xs:List α}{lo hi:Option Int}(h:HT.sIx xs.length 0 lo=0∧HT.sIx xs.length xs.length hi=xs.length):(xs.drop (HT.sIx xs.length 0 lo)).take (HT.sIx xs.length xs.length hi - HT.sIx xs.length 0 lo)=xs:=by
  rw [h.1,h.2];simp
theorem uP{fl fh:FO}(he:PE X a (fE X.K fa))(hl:PO X lo (fO X.K fl))(hh:PO X hi (fO X.K fh)):PE X (.Subscript a (.Slice lo hi none p2) pos) (fE X.K (nq fa fl fh)):=(uv Ds he hl hh).mono fun σ H Q h=>by
  obtain⟨F,e,z,e',R,hf,q⟩:=h
  unfold nq at hf
  obtain⟨⟨x,e1⟩,h1,hf⟩:=Option.bind_eq_some_iff.mp hf
  obtain⟨⟨l,e2⟩,h2,hf⟩:=Option.bind_eq_some_iff.mp hf
  obtain⟨⟨u,e3⟩,h3,hf⟩:=Option.bind_eq_some_iff.mp hf
  obtain⟨z',h4,hf⟩:=Option.map_eq_some_iff.mp hf
  cases hf
  refine⟨F,e,x,e1,R,h1,fun F1 H1 v X1 R1 A1=>⟨F1,e1,l,e2,R1,h2,fun F2 H2 X2 R2=>⟨F2,e2,u,_,R2,h3,fun F3 H3 X3 R3=>?_⟩⟩⟩
  have X12:=X1.trans X2
  have X13:=X12.trans X3
  have A3:=(A1.ext X2).ext X3
  unfold C_ at h4
  obtain⟨⟨b,xs⟩,h5,h4⟩:=Option.map_eq_some_iff.mp h4
  obtain⟨p,vs,rfl,d1,s1⟩:=bD R3 A3 h5
  cases b with
  | true=>
    rw [if_pos rfl] at h4;cases h4
    refine .inr (.inr ⟨p,vs,rfl,s1,fun t ht=>?_⟩)
    obtain⟨R4,X4,hF,no⟩:=R3.newL (vs:=lg vs l u) ht
    exact q _ _ _ (X13.trans X4) R4 ⟨t,_,rfl,X13.dom _ ht,hF,am,sP d1 l u,no⟩
  | false=>
    rw [if_neg (by simp)] at h4;cases h4
    by_cases hw:HT.sIx vs.length 0 l=0∧HT.sIx vs.length vs.length u=vs.length
    · refine .inr (.inl ⟨p,vs,rfl,s1,hw,?_⟩)
      have e5:cutD xs l u=xs:=by unfold cutD;exact vN (by rw [d1.len];exact hw)
      rw [e5] at q
      obtain⟨F4,R4,X4,hF⟩:=R3.growT (aq.refl _) s1
      exact q _ _ _ (X13.trans X4) R4 (ce.mpr ⟨p,vs,rfl,hF,d1.mono X4.sf⟩)
    · refine .inl ⟨p,vs,rfl,s1,hw,fun t ht=>?_⟩
      obtain⟨R4,X4⟩:=R3.newT (vs:=lg vs l u) ht
      exact q _ _ _ (X13.trans X4) R4 (ce.mpr ⟨t,_,rfl,.inl (.inl am),(sP d1 l u).mono X4.sf⟩)
end
section
variable{X:Cx}{K:PySem.W.Frag}
theorem jM{σ:L2.St}{H0 F H:Hp}{e:En}{x:Rv}{vs:List V}(h:cq K σ H0 F H e [x] vs):∃v,vs=[v]∧bK K σ H0 F H e x v:=by
  obtain⟨v,ws,rfl,h1,h2⟩:=h
  have h2':ws=[]:=h2
  subst h2'
  exact⟨v,rfl,h1⟩
theorem qA{σ:L2.St}{H0 F H:Hp}{e:En}{x y:Rv}{vs:List V}(h:cq K σ H0 F H e [x,y] vs):∃v u,vs=[v,u]∧bK K σ H0 F H e x v∧bK K σ H0 F H e y u:=by
  obtain⟨v,ws,rfl,h1,h2⟩:=h
  obtain⟨u,rfl,h3⟩:=jM h2
  exact⟨v,u,rfl,h1,h3⟩
def g1(g:En→Rv→Option Rv):En→List Rv→Option Rv:=fun e xs=>match xs with
  | [x]=>g e x
  | _=>none
def g2(g:En→Rv→Rv→Option Rv):En→List Rv→Option Rv:=fun e xs=>match xs with
  | [x,y]=>g e x y
  | _=>none
theorem eh{r:List V→Hp→VK→Prop}{g:En→Rv→Option Rv}(h:yH K (fun v H Q=>r [v] H Q) g):c9 K r (g1 g):=by
  intro σ H0 F H e xs z vs Q R A hg q
  unfold g1 at hg
  match xs,hg with
  | [x],hg=>
    obtain⟨v,rfl,h1⟩:=jM A
    exact h σ H0 F H e x z v Q R h1 hg q
theorem p5{r:List V→Hp→VK→Prop}{g:En→Rv→Rv→Option Rv}(h:dC K (fun v u H Q=>r [v,u] H Q) g):c9 K r (g2 g):=by
  intro σ H0 F H e xs z vs Q R A hg q
  unfold g2 at hg
  match xs,hg with
  | [x,y],hg=>
    obtain⟨v,u,rfl,h1,h2⟩:=qA A
    exact h σ H0 F H e x y z v u Q R h1 h2 hg q
def en:En→Rv→Option Rv:=fun e x=>(cJ e x).map fun p=>.d (.int p.2.length)
theorem Br:c9 K (fun xs H Q=>∃p ys,xs=[.ref p]∧(fy K H p ys∨cM K H p ys)∧Q (.int ys.length) H) (g1 en):=eh fun σ H0 F H e x z v Q R A hg q=>by
  obtain⟨⟨b,xs⟩,h5,h4⟩:=Option.map_eq_some_iff.mp hg
  obtain⟨p,vs,rfl,d1,s1⟩:=bD R A h5
  cases h4
  refine⟨p,vs,rfl,?_,?_⟩
  · cases b with
    | true=>exact .inl s1
    | false=>exact .inr s1
  · rw [←d1.len]
    exact q F H _ (cP.refl _ _ _ _) R i3
def rc:En→Rv→Option Rv:=fun _ x=>(ck x).map fun i=>.d (.int (if i < 0 then -i else i))
theorem AW:c9 K (fun xs H Q=>∃i,xs=[.int i]∧Q (.int (if i < 0 then -i else i)) H) (g1 rc):=eh fun σ H0 F H e x z v Q R A hg q=>by
  obtain⟨i,h5,h4⟩:=Option.map_eq_some_iff.mp hg
  cases h4
  exact⟨i,by rw [bQ A h5],q F H _ (cP.refl _ _ _ _) R i3⟩
def nU:En→Rv→Option Rv:=fun _ x=>match x with
  | .d (.int i)=>some (.d (.int i))
  | .d (.bool k)=>some (.d (.int (if k then 1 else 0)))
  | _=>none
theorem Bk:c9 K (fun xs H Q=>(∃i,xs=[.int i]∧Q (.int i) H)∨∃k,xs=[.bl k]∧Q (.int (if k then 1 else 0)) H) (g1 nU):=eh fun σ H0 F H e x z v Q R A hg q=>by
  unfold nU at hg
  split at hg
  · cases hg
    exact .inl ⟨_,by rw [cc.mp (show DA K F (.int _) v from A)],q F H _ (cP.refl _ _ _ _) R i3⟩
  · cases hg
    exact .inr ⟨_,by rw [cy.mp (show DA K F (.bool _) v from A)],q F H _ (cP.refl _ _ _ _) R i3⟩
  · cases hg
def tH:=gI (fun _ _=>true) fun i j=>.int (if j < i then j else i)
def o_:=gI (fun _ _=>true) fun i j=>.int (if j > i then j else i)
theorem Bx:c9 K (fun xs H Q=>∃i j,xs=[.int i,.int j]∧Q (.int (if j < i then j else i)) H) (g2 tH):=p5 fun σ H0 F H e x y z v u Q R A B hg q=>by
  obtain⟨i,j,h1,h2,h3⟩:=f_ (K:=K) (g:=fun i j=>.int (if j < i then j else i)) (fun _ _ _=>cc.mpr rfl) σ H0 F H e x y z v u Q R A B hg q
  exact⟨i,j,by rw [h1,h2],h3⟩
theorem Bw:c9 K (fun xs H Q=>∃i j,xs=[.int i,.int j]∧Q (.int (if j > i then j else i)) H) (g2 o_):=p5 fun σ H0 F H e x y z v u Q R A B hg q=>by
  obtain⟨i,j,h1,h2,h3⟩:=f_ (K:=K) (g:=fun i j=>.int (if j > i then j else i)) (fun _ _ _=>cc.mpr rfl) σ H0 F H e x y z v u Q R A B hg q
  exact⟨i,j,by rw [h1,h2],h3⟩
def cf:En→Rv→Option Rv:=fun e x=>(cJ e x).map fun p=>.d (.tuple p.2)
theorem xM:c9 K (fun xs H Q=>∃p ys,xs=[.ref p]∧((fy K H p ys∧∀l,H l=none→Q (.ref l) (a7 H l (.tup ys)))∨(cM K H p ys∧Q (.ref p) H))) (g1 cf):=eh fun σ H0 F H e x z v Q R A hg q=>by
  obtain⟨⟨b,xs⟩,h5,h4⟩:=Option.map_eq_some_iff.mp hg
  obtain⟨p,vs,rfl,d1,s1⟩:=bD R A h5
  cases h4
  refine⟨p,vs,rfl,?_⟩
  cases b with
  | true=>
    refine .inl ⟨s1,fun t ht=>?_⟩
    obtain⟨R4,X4⟩:=R.newT (vs:=vs) ht
    exact q _ _ _ X4 R4 (ce.mpr ⟨t,_,rfl,.inl (.inl am),d1.mono X4.sf⟩)
  | false=>
    obtain⟨F4,R4,X4,hF⟩:=R.growT (aq.refl _) s1
    exact .inr ⟨s1,q _ _ _ X4 R4 (ce.mpr ⟨p,vs,rfl,hF,d1.mono X4.sf⟩)⟩
def gH:En→Rv→Option Rv:=fun e x=>(cJ e x).map fun p=>.l p.2
theorem zc:c9 K (fun xs H Q=>∃p ys,xs=[.ref p]∧(fy K H p ys∨cM K H p ys)∧∀l,H l=none→Q (.ref l) (a7 H l (.lst ys))) (g1 gH):=eh fun σ H0 F H e x z v Q R A hg q=>by
  obtain⟨⟨b,xs⟩,h5,h4⟩:=Option.map_eq_some_iff.mp hg
  obtain⟨p,vs,rfl,d1,s1⟩:=bD R A h5
  cases h4
  refine⟨p,vs,rfl,?_,fun t ht=>?_⟩
  · cases b with
    | true=>exact .inl s1
    | false=>exact .inr s1
  · obtain⟨R4,X4,hF,no⟩:=R.newL (vs:=vs) ht
    exact q _ _ _ X4 R4 ⟨t,_,rfl,ht,hF,am,d1,no⟩
def jo:List PyData→Option (List Int)
  | []=>some []
  | .int i::r=>(jo r).map (i::·)
  | _=>none
theorem fY:∀{ds:List PyData} {ns:List Int},jo ds=some ns→ds=ns.map .int
  | [],_,h=>by cases h;rfl
  | .int i::r,_,h=>by
    obtain⟨ns,h1,rfl⟩:=Option.map_eq_some_iff.mp h
    rw [fY h1];rfl
theorem eF:∀(ns:List Int),jo (ns.map .int)=some ns
  | []=>rfl
  | i::r=>by simp [jo,eF r]
def pd:En→Rv→Option Rv:=fun e x=>match cJ e x with
  | some (false,xs)=>(jo xs).bind fun ns=>if ns.length < 64 then some (.l ((a8 ns).map .int)) else none
  | _=>none
def uV(K:PySem.W.Frag):List V→Hp→VK→Prop:=fun xs H Q=>∃(a:Addr) (ns:List Int),xs=[.ref a]∧cM K H a (ns.map V.int)∧ns.length < 64∧∀(l:Addr) (H':Hp),aq H H'→H l=none→H' l=some (.lst ((a8 ns).map V.int))→Q (.ref l) H'
theorem o5:bO X (.builtin "sorted") (uV X.K):=by
  intro pins s σ H xs us Q I rv h
  obtain⟨a,ns,e1,e2,e3,q⟩:=h
  exact ji pins s σ H xs us Q I rv ⟨a,ns,e1,e2,e3,fun l ns' H' sm hn hl hp hs=>q l H' sm hn (by rw [←gj hp hs];exact hl)⟩
theorem xD:c9 K (uV K) (g1 pd):=eh fun σ H0 F H e x z v Q R A hg q=>by
  unfold pd at hg
  split at hg
  case h_2=>cases hg
  case h_1 xs h5=>
  obtain⟨p,vs,rfl,d1,s1⟩:=bD R A h5
  obtain⟨ns,h6,hg⟩:=Option.bind_eq_some_iff.mp hg
  split at hg
  case isFalse=>cases hg
  case isTrue hl=>
  cases hg
  rw [fY h6] at d1
  have s1':cM K H p vs:=s1
  rw [aA.ints.mp d1] at s1'
  refine⟨p,ns,rfl,s1',hl,fun l H' sm hn hl'=>?_⟩
  obtain⟨R4,X4⟩:=R.same sm
  exact q F H' _ X4 R4 ⟨l,_,rfl,hn,R.freeF hn,hl',aA.ints.mpr rfl,fun z=>R.ownH l ((R.sameOwn sm l).mp z) hn⟩
mutual
def eE:PyData→Bool
  | .tuple ds=>gz ds
  | .list _=>false
  | .dict _=>false
  | _=>true
def gz:List PyData→Bool
  | []=>true
  | d::r=>eE d&&gz r
end
mutual
def dZ:PyData→Bool
  | .list _=>false
  | .tuple ds=>dg ds
  | _=>true
def dg:List PyData→Bool
  | []=>true
  | d::r=>dZ d&&dg r
end
theorem kN{h:Heap}:∀{m:List (Int × sq)} {es:List DictEntry} {vs:List (ec × Value)} {P:Program} {w:World},KV (m.map fun p=>((Sum.inl p.1:ec),p.2.toV)) vs→Pairs (cF P w) es vs→
    ReadsAll h (es.map (·.key)) (m.map fun p=>PyData.int p.1) []∧ReadsAll h (es.map (·.val)) (m.map fun p=>p.2.toD) []
  | [],es,vs,P,w,r,q=>by
    cases r
    cases q
    exact⟨.nil,.nil⟩
  | p::m,es,vs,P,w,r,q=>by
    rw [List.map_cons] at r
    cases r with
    | @cons a b as bs h1 t=>
      cases q with
      | @cons e kv es' kvs' h2 h3 h4=>
        obtain⟨z1,z2⟩:=h1
        obtain⟨c1,c2⟩:=kN t h4
        have k1:km (Sum.inl p.1) e.key=true:=by
          have:b.1=Sum.inl p.1:=z1.symm
          rw [←this];exact h2
        rcases be k1 with ⟨i,t',e1,e2⟩ | ⟨x,t',e1,e2⟩
        · cases e1
          refine⟨?_,?_⟩
          · simp only [List.map_cons,e2]
            exact ReadsAll.cons (as:=[]) (bs:=[]) (.int p.1 t') c1
          · simp only [List.map_cons,h3]
            refine ReadsAll.cons (as:=[]) (bs:=[]) ?_ c2
            obtain⟨k,at_⟩:=p
            cases at_ with
            | vi n=>obtain⟨tk,z2⟩:=z2;rw [z2];exact .int n tk
            | vb x=>rw [show b.2=Value.bool x from z2];exact .bool x
            | vn=>rw [show b.2=Value.none from z2];exact .none
        · cases e1
mutual
theorem DA.readsR{X:Cx}{pins:List (Addr × Obj)}{σ:L2.St}{H:Hp}{s:Shared}(I:ar X pins σ H s):∀{d:PyData} {v:V} {u:Value},DA X.K H d v→bf v u→∃as,Reads s.heap u d as∧(dZ d=true→sysModules∉as)
  | .none,_,_,q,r=>by
    simp only [DA] at q;subst q;cases r;exact⟨_,.none,fun _=>by simp⟩
  | .bool b,_,_,q,r=>by
    simp only [DA] at q;subst q;cases r;exact⟨_,.bool b,fun _=>by simp⟩
  | .int i,_,_,q,r=>by
    simp only [DA] at q;subst q;obtain⟨t,rfl⟩:=r;exact⟨_,.int i t,fun _=>by simp⟩
  | .str x,_,_,q,r=>by
    simp only [DA] at q;subst q;obtain⟨t,rfl⟩:=r;exact⟨_,.str x t,fun _=>by simp⟩
  | .tuple ds,_,_,q,r=>by
    simp only [DA] at q
    obtain⟨a,xs,e,hs,rr⟩:=q
    subst e;cases r
    obtain⟨its,rv,⟨o,ho,hc,n,hd⟩,hz⟩:=I.tuple hs
    obtain⟨as,q,z⟩:=aA.readsR I rr rv
    exact⟨_,.tuple ho hc hd q,fun c=>z (by simpa [dZ] using c)⟩
  | .list ds,_,_,q,r=>by
    simp only [DA] at q
    obtain⟨a,xs,e,hs,rr⟩:=q
    subst e;cases r
    obtain⟨its,rv,ht,hz⟩:=I.list hs
    obtain⟨o,ho,hc,n,hd⟩:=ht.isList
    obtain⟨as,q,z⟩:=aA.readsR I rr rv
    exact⟨_,.list ho hc hd q,fun c=>by simp [dZ] at c⟩
  | .dict kvs,_,_,q,r=>by
    simp only [DA] at q
    obtain⟨a,m,e,hs,rfl⟩:=q
    subst e;cases r
    obtain⟨_,hS,vs,kv,o,es,ep,ho,hx,hd,_,hp,_⟩:=(show bY X.prog X.w H s.heap a (.dK (m.map fun p=>(Sum.inl p.1,p.2.toV))) from I.hok a _ hs)
    obtain⟨c1,c2⟩:=kN (h:=s.heap) kv hp
    refine⟨_,Reads.dict (as:=[]) (bs:=[]) ho hx.1 hd ?_ ?_,fun _=>?_⟩
    · rw [List.map_map];exact c1
    · rw [List.map_map];exact c2
    · have:a≠sysModules:=by simpa using hS
      simpa using this.symm
theorem aA.readsR{X:Cx}{pins:List (Addr × Obj)}{σ:L2.St}{H:Hp}{s:Shared}(I:ar X pins σ H s):∀{ds:List PyData} {xs:List V} {us:List Value},aA X.K H ds xs→aF xs us→∃as,ReadsAll s.heap us ds as∧(dg ds=true→sysModules∉as)
  | [],_,_,q,r=>by
    simp only [aA] at q;subst q;cases r;exact⟨_,.nil,fun _=>by simp⟩
  | d::ds,_,_,q,r=>by
    simp only [aA] at q
    obtain⟨x,rr,e,a,b⟩:=q
    subst e
    cases r with
    | cons p p'=>
      obtain⟨as,q1,z1⟩:=DA.readsR I a p
      obtain⟨bs,q2,z2⟩:=aA.readsR I b p'
      refine⟨_,.cons q1 q2,fun c=>?_⟩
      simp only [dg,Bool.and_eq_true] at c
      intro z
      rcases List.mem_append.mp z with z | z
      · exact z1 c.1 z
      · exact z2 c.2 z
end
def iD(d:PyData):Bool:=(eE d || (!d.hasDict || dZ d))&&d.showable&&decide (d.depth≤60)&&decide (d.shown.length≤sizeLine)
def jn:En→Rv→Option Rv:=fun _ x=>match x with
  | .d d=>if iD d=true then some (.d (.str d.shown)) else none
  | _=>none
def uU(K:PySem.W.Frag):List V→Hp→VK→Prop:=fun xs H Q=>∃x d,xs=[x]∧DA K H d x∧(d.hasDict=true→dZ d=true)∧d.showable=true∧d.depth≤60∧d.shown.length≤sizeLine∧Q (.str d.shown) H
mutual
theorem fR:∀(d:PyData),eE d=true→d.hasDict=false
  | .none,_=>rfl
  | .bool _,_=>rfl
  | .int _,_=>rfl
  | .str _,_=>rfl
  | .tuple ds,h=>by simp only [PyData.hasDict];exact ig ds (by simpa [eE] using h)
  | .list ds,h=>by simp [eE] at h
  | .dict _,h=>by simp [eE] at h
theorem ig:∀(ds:List PyData),gz ds=true→PyData.hasDictAll ds=false
  | [],_=>rfl
  | d::r,h=>by
    simp only [gz,Bool.and_eq_true] at h
    simp only [PyData.hasDictAll,fR d h.1,ig r h.2,Bool.or_self]
end
theorem oZ{X:Cx}{k:Nat}(hr:cN k X.A):bO X (.builtin "repr") (uU X.K):=by
  intro pins s σ H xs us Q I r h
  obtain⟨x,d,rfl,ha,hdl,hsh,hdp,hsz,q⟩:=h
  obtain⟨u,rfl,ru⟩:∃u,us=[u]∧bf x u:=by
    cases r with
    | cons p p'=>cases p';exact⟨_,rfl,p⟩
  have hun:=hr.un
  obtain⟨as,rd,hm⟩:=DA.readsR I ha ru
  have fin:∀a,u=.ref a→wpAny (model X.prog X.w) X.A (call (.builtin "repr") [u]) (EP X pins σ Q) X.xe s:=fun a e=>by
    subst e
    exact repr_of_reads' rd hsh (fun z=>hm (hdl z)) hr.gd (by lia) (fun _ _ e=>e) (fun h' u tk hk=>⟨.str _,H,I.kept hk,⟨_,rfl⟩,q⟩) hsz
  cases d with
  | none=>simp only [DA] at ha;subst ha;cases ru;exact P.repr_of_none ⟨.str _,H,I.tok _,⟨_,rfl⟩,q⟩
  | bool b=>simp only [DA] at ha;subst ha;cases ru;exact P.repr_of_bool ⟨.str _,H,I.tok _,⟨_,rfl⟩,q⟩
  | int i=>
    simp only [DA] at ha;subst ha;obtain⟨t,rfl⟩:=ru
    simp only [PyData.showable,decide_eq_true_eq] at hsh
    exact P.repr_of_int hsh ⟨.str _,H,I.tok _,⟨_,rfl⟩,q⟩
  | str y=>simp only [DA] at ha;subst ha;obtain⟨t,rfl⟩:=ru;exact P.repr_of_str ⟨.str _,H,I.tok _,⟨_,rfl⟩,q⟩ hsz
  | list ds=>obtain⟨a,_,e,_⟩:=cQ.mp ha;subst e;exact fin a ru
  | dict ds=>simp only [DA] at ha;obtain⟨a,_,e,_⟩:=ha;subst e;exact fin a ru
  | tuple ds=>obtain⟨a,_,e,_⟩:=ce.mp ha;subst e;exact fin a ru
theorem Ab:c9 K (uU K) (g1 jn):=eh fun σ H0 F H e x z v Q R A hg q=>by
  unfold jn at hg
  split at hg
  case h_2=>cases hg
  case h_1 d=>
  split at hg
  case isFalse=>cases hg
  case isTrue hl=>
  cases hg
  unfold iD at hl
  rw [Bool.and_eq_true,Bool.and_eq_true,Bool.and_eq_true,decide_eq_true_iff,decide_eq_true_iff] at hl
  refine⟨v,d,rfl,DA.mono R.sm A,fun z=>?_,hl.1.1.2,hl.1.2,hl.2,q F H _ (cP.refl _ _ _ _) R ((mH (K:=K) (F:=F)).mpr rfl)⟩
  have c:=hl.1.1.1
  cases hf:eE d with
  | true=>rw [fR d hf] at z;cases z
  | false=>rw [hf,z] at c;simpa using c
end
end L2
namespace L2
open PySem PySem.Spec PyProof.Rows
section
variable{K:PySem.W.Frag}{σ:L2.St}{H0 F H F' H':Hp}{e e':En}
theorem aT.upd1(R:aT K F H σ e){σ':L2.St}(i:Nat)(hl:σ'.length=e'.length)(hσ:∀j,j≠i→σ'[j]?=σ[j]?)(he:∀j,j≠i→e'[j]?=e[j]?)(sF:aq F F')(sm:aq F' H')(hf:∀j a,j≠i→Fp σ e H j a→F' a=none)
    (hh:∀j a o,j≠i→Fp σ e H j a→H a=some o→H' a=some o)(hd:∀x,e'[i]?=some (some (.d x))→∃v,σ'[i]?=some (some v)∧DA K F' x v)
    (ho:∀xs,e'[i]?=some (some (.l xs))→∃l vs,σ'[i]?=some (some (.ref l))∧F' l=none∧H' l=some (.lst vs)∧aA K F' xs vs)
    (hn:∀xss,e'[i]?=some (some (.n xss))→∃(l:Addr) (bs:List Addr),σ'[i]?=some (some (.ref l))∧F' l=none∧H' l=some (.lst (bs.map V.ref))∧bs.length=xss.length∧bs.Nodup∧l∉bs∧
      ∀(k:Nat) (b:Addr) (ys:List PyData),bs[k]?=some b→xss[k]?=some ys→F' b=none∧∃us,H' b=some (.lst us)∧aA K F' ys us)
    (hi:∀a j,j≠i→Fp σ' e' H' i a→¬Fp σ e H j a):aT K F' H' σ' e'∧∀j a,j≠i→(Fp σ' e' H' j a↔ Fp σ e H j a):=by
  have fs:∀j a,j≠i→(Fp σ' e' H' j a↔ Fp σ e H j a):=by
    intro j a hj
    have key:∀xss l,e[j]?=some (some (.n xss))→σ[j]?=some (some (.ref l))→H' l=H l:=fun xss l h1 h2=>by
      obtain⟨l',bs,g1,g2,g3,_⟩:=R.nst j xss h1
      rw [h2] at g1;cases g1
      rw [g3]
      exact hh j l _ hj (.inr ⟨xss,l,bs,h1,h2,g3,.inl rfl⟩) g3
    unfold Fp
    rw [he j hj,hσ j hj]
    constructor
    · rintro(h1 | ⟨xss,l,bs,h1,h2,h3,h4⟩)
      · exact .inl h1
      · exact .inr ⟨xss,l,bs,h1,h2,by rw [←key xss l h1 h2];exact h3,h4⟩
    · rintro(h1 | ⟨xss,l,bs,h1,h2,h3,h4⟩)
      · exact .inl h1
      · exact .inr ⟨xss,l,bs,h1,h2,by rw [key xss l h1 h2];exact h3,h4⟩
  refine⟨⟨sm,hl,fun j x q=>?_,fun j xs q=>?_,fun j xss q=>?_,fun j k a q1 q2=>?_⟩,fs⟩
  · by_cases z:j=i
    · subst z;exact hd x q
    · rw [he j z] at q
      obtain⟨v,h1,h2⟩:=R.dat j x q
      exact⟨v,by rw [hσ j z];exact h1,DA.mono sF h2⟩
  · by_cases z:j=i
    · subst z;exact ho xs q
    · rw [he j z] at q
      obtain⟨l,vs,h1,h2,h3,h4⟩:=R.own j xs q
      have o:Fp σ e H j l:=.inl ⟨xs,q,h1⟩
      exact⟨l,vs,by rw [hσ j z];exact h1,hf j l z o,hh j l _ z o h3,h4.mono sF⟩
  · by_cases z:j=i
    · subst z;exact hn xss q
    · rw [he j z] at q
      obtain⟨l,bs,h1,h2,h3,h4,h5,h6,h7⟩:=R.nst j xss q
      have o:Fp σ e H j l:=.inr ⟨xss,l,bs,q,h1,h3,.inl rfl⟩
      refine⟨l,bs,by rw [hσ j z];exact h1,hf j l z o,hh j l _ z o h3,h4,h5,h6,fun k b ys g1 g2=>?_⟩
      obtain⟨c1,us,c2,c3⟩:=h7 k b ys g1 g2
      have ob:Fp σ e H j b:=.inr ⟨xss,l,bs,q,h1,h3,.inr (List.mem_of_getElem? g1)⟩
      exact⟨hf j b z ob,us,hh j b _ z ob c2,c3.mono sF⟩
  · by_cases zj:j=i
    · subst zj
      by_cases zk:k=j
      · exact zk.symm
      · exact absurd ((fs k a zk).mp q2) (hi a k zk q1)
    · by_cases zk:k=i
      · subst zk
        exact absurd ((fs j a zj).mp q1) (hi a j zj q2)
      · exact R.fp j k a ((fs j a zj).mp q1) ((fs k a zk).mp q2)
theorem aT.putL(R:aT K F H σ e){i:Nat}{xs ys:List PyData}{l:Addr}{vs:List V}(hi:e[i]?=some (some (.l xs)))(hl:σ[i]?=some (some (.ref l)))(hd:aA K F ys vs):
    aT K F (a7 H l (.lst vs)) σ (e.set i (some (.l ys)))∧cP σ F H e F (a7 H l (.lst vs)) (e.set i (some (.l ys))):=by
  obtain⟨l',vs',h1,h2,h3,h4⟩:=R.own i xs hi
  rw [hl] at h1;cases h1
  have hlt:i < e.length:=(List.getElem?_eq_some_iff.mp hi).1
  have fi:Fp σ e H i l:=.inl ⟨xs,hi,hl⟩
  have gi:(e.set i (some (Sv.l ys)))[i]?=some (some (.l ys)):=List.getElem?_set_self hlt
  obtain⟨R',fs⟩:=R.upd1 (F':=F) (H':=a7 H l (.lst vs)) (e':=e.set i (some (.l ys))) i (by rw [List.length_set];exact R.len) (fun _ _=>rfl) (fun j hj=>List.getElem?_set_ne (Ne.symm hj)) (aq.refl F)
    (fun b o q=>by
      have z:b≠l:=fun z=>by rw [z,h2] at q;cases q
      rw [aB z];exact R.sm b o q)
    (fun j a _ q=>(R.fpAt q).1)
    (fun j a o hj q ha=>by
      have z:a≠l:=fun z=>hj (R.fp j i a q (by rw [z];exact fi))
      rw [aB z];exact ha)
    (fun x q=>by rw [gi] at q;cases q) (fun zs q=>by rw [gi] at q;cases q;exact⟨l,vs,hl,h2,am,hd⟩) (fun xss q=>by rw [gi] at q;cases q)
    (fun a j hj q q2=>by
      rcases q with ⟨zs,_,q⟩ | ⟨xss,_,_,q,_⟩
      · rw [hl] at q;cases q
        exact hj (R.fp j i _ q2 fi)
      · rw [gi] at q;cases q)
  refine⟨R',⟨aq.refl _,fun a q=>?_,fun _ _ q _ _=>q,fun a ws q=>?_,fun a o q n=>?_,fun j=>?_,fun a ⟨j,q⟩=>?_,fun _ _ q _ _=>q⟩⟩
  · by_cases z:a=l
    · rw [z,am] at q;cases q
    · rw [aB z] at q;exact q
  · by_cases z:a=l
    · rw [z];exact⟨vs,am⟩
    · rw [aB z];exact⟨ws,q⟩
  · have z:a≠l:=fun z=>n ⟨i,by rw [z];exact fi⟩
    rw [aB z];exact q
  · by_cases z:j=i
    · subst z;rw [gi];exact⟨fun _=>⟨xs,hi⟩,fun _=>⟨ys,rfl⟩⟩
    · rw [List.getElem?_set_ne (Ne.symm z)]
  · by_cases z:j=i
    · subst z
      rcases q with ⟨zs,_,q⟩ | ⟨xss,_,_,q,_⟩
      · rw [hl] at q;cases q;exact .inl ⟨j,fi⟩
      · rw [gi] at q;cases q
    · exact .inl ⟨j,(fs j a z).mp q⟩
theorem aT.setD(R:aT K F H σ e)(i:Nat){x:PyData}{v:V}(h:DA K F x v):aT K F H (σ.set i (some v)) (e.set i (some (.d x)))∧∀a,bN (σ.set i (some v)) (e.set i (some (.d x))) H a→bN σ e H a:=by
  have gi:∀s,(e.set i (some (Sv.d x)))[i]?=some (some s)→s=.d x∧i < e.length:=fun s q=>by
    have hlt:i < e.length:=by have:=(List.getElem?_eq_some_iff.mp q).1;simpa using this
    rw [List.getElem?_set_self hlt] at q
    exact⟨(Option.some.inj (Option.some.inj q)).symm,hlt⟩
  have nofp:∀a,¬Fp (σ.set i (some v)) (e.set i (some (.d x))) H i a:=fun a q=>by
    rcases q with ⟨zs,q,_⟩ | ⟨xss,_,_,q,_⟩
    · cases (gi _ q).1
    · cases (gi _ q).1
  obtain⟨R',fs⟩:=R.upd1 (F':=F) (H':=H) (σ':=σ.set i (some v)) (e':=e.set i (some (.d x))) i (by rw [List.length_set,List.length_set];exact R.len) (fun j hj=>List.getElem?_set_ne (Ne.symm hj)) (fun j hj=>List.getElem?_set_ne (Ne.symm hj)) (aq.refl F) R.sm
    (fun j a _ q=>(R.fpAt q).1) (fun j a o _ _ ha=>ha)
    (fun y q=>by
      obtain⟨z,hlt⟩:=gi _ q
      cases z
      exact⟨v,List.getElem?_set_self (by rw [R.len];exact hlt),h⟩)
    (fun zs q=>by cases (gi _ q).1) (fun xss q=>by cases (gi _ q).1) (fun a j hj q=>absurd q (nofp a))
  refine⟨R',fun a ⟨j,q⟩=>?_⟩
  by_cases z:j=i
  · subst z;exact absurd q (nofp a)
  · exact⟨j,(fs j a z).mp q⟩
theorem aT.setL(R:aT K F H σ e)(i:Nat){xs:List PyData}{l:Addr}{vs:List V}(h1:F l=none)(h2:H l=some (.lst vs))(h3:aA K F xs vs)(h4:¬bN σ e H l):aT K F H (σ.set i (some (.ref l))) (e.set i (some (.l xs)))∧∀a,bN (σ.set i (some (.ref l))) (e.set i (some (.l xs))) H a→bN σ e H a∨a=l:=by
  have gi:∀s,(e.set i (some (Sv.l xs)))[i]?=some (some s)→s=.l xs∧i < e.length:=fun s q=>by
    have hlt:i < e.length:=by have:=(List.getElem?_eq_some_iff.mp q).1;simpa using this
    rw [List.getElem?_set_self hlt] at q
    exact⟨(Option.some.inj (Option.some.inj q)).symm,hlt⟩
  have onefp:∀a,Fp (σ.set i (some (.ref l))) (e.set i (some (.l xs))) H i a→a=l:=fun a q=>by
    rcases q with ⟨zs,q,q2⟩ | ⟨xss,_,_,q,_⟩
    · obtain⟨_,hlt⟩:=gi _ q
      rw [List.getElem?_set_self (by rw [R.len];exact hlt)] at q2
      cases q2;rfl
    · cases (gi _ q).1
  obtain⟨R',fs⟩:=R.upd1 (F':=F) (H':=H) (σ':=σ.set i (some (.ref l))) (e':=e.set i (some (.l xs))) i (by rw [List.length_set,List.length_set];exact R.len) (fun j hj=>List.getElem?_set_ne (Ne.symm hj)) (fun j hj=>List.getElem?_set_ne (Ne.symm hj)) (aq.refl F) R.sm
    (fun j a _ q=>(R.fpAt q).1) (fun j a o _ _ ha=>ha) (fun y q=>by cases (gi _ q).1)
    (fun zs q=>by
      obtain⟨z,hlt⟩:=gi _ q
      cases z
      exact⟨l,vs,List.getElem?_set_self (by rw [R.len];exact hlt),h1,h2,h3⟩)
    (fun xss q=>by cases (gi _ q).1) (fun a j hj q q2=>h4 ⟨j,by rw [onefp a q] at q2;exact q2⟩)
  refine⟨R',fun a ⟨j,q⟩=>?_⟩
  by_cases z:j=i
  · subst z;exact .inr (onefp a q)
  · exact .inl ⟨j,(fs j a z).mp q⟩
end
section
variable{X:Cx}{K:PySem.W.Frag}{o a:Expr}{es:List Expr}{fo:FE}{fs:FA}{name:Str}{apos cpos:Pos}{id:String}
def pT(K:PySem.W.Frag)(r:V→List V→Hp→VK→Prop)(g:List PyData→List PyData→Option (PyData × List PyData)):Prop:=
  ∀(F H:Hp) (l:Addr) (xs ys ds:List PyData) (z:PyData) (vs us:List V) (Q:VK),F l=none→aq F H→H l=some (.lst vs)→aA K F xs vs→aA K F ds us→g xs ds=some (z,ys)→
    (∀w ws,DA K F z w→aA K F ys ws→Q w (a7 H l (.lst ws)))→r (.ref l) us H Q
def dq(g:List PyData→List PyData→Option (PyData × List PyData))(fo:FE)(fs:FA):FE:=fun e=>(fo e).bind fun p=>match p.1 with
  | .s i=>(fs p.2).bind fun q=>(ie q.1).bind fun ds=>match q.2[i]? with
    | some (some (.l xs))=>(g xs ds).map fun z=>(.d z.1,q.2.set i (some (.l z.2)))
    | _=>none
  | _=>none
theorem vz{r:V→List V→Hp→VK→Prop}{g:List PyData→List PyData→Option (PyData × List PyData)}(hm:pT K r g){σ:L2.St}{H:Hp}{Q:VK}(h:fE K (dq g fo fs) σ H Q):DT K "list" r (fE K fo) (fA K fs) σ H Q:=by
  obtain⟨F,e,z,e',R,hf,q⟩:=h
  unfold dq at hf
  obtain⟨⟨x,e1⟩,h1,hf⟩:=Option.bind_eq_some_iff.mp hf
  match x,h1,hf with
  | .s i,h1,hf=>
  dsimp only at hf
  obtain⟨⟨rs,e2⟩,h2,hf⟩:=Option.bind_eq_some_iff.mp hf
  obtain⟨ds,h3,hf⟩:=Option.bind_eq_some_iff.mp hf
  refine⟨F,e,_,e1,R,h1,fun F1 H1 v X1 R1 A1=>?_⟩
  obtain⟨g1,zs,g2⟩:=A1
  obtain⟨l,vs,c1,c2,c3,c4⟩:=R1.own i zs g2
  rw [g1] at c1;cases c1
  refine⟨.inl ⟨rfl,vs,.inl (.inl c3)⟩,F1,e1,rs,e2,R1,h2,fun F2 H2 us X2 R2 A2=>?_⟩
  match h4:e2[i]?,hf with
  | some (some (.l xs)),hf=>
  dsimp only at hf
  obtain⟨⟨zd,ys⟩,h5,hf⟩:=Option.map_eq_some_iff.mp hf
  cases hf
  obtain⟨F3,R3,s3,d3,f3⟩:=cq.frozen R2 A2 h3
  obtain⟨l',vs',k1,k2,k3,k4⟩:=R3.own i xs h4
  rw [g1] at k1;cases k1
  refine hm F3 H2 l xs ys ds zd vs' us Q k2 R3.sm k3 k4 d3 h5 fun w ws hw hws=>?_
  obtain⟨R4,X4⟩:=R3.putL h4 g1 hws
  exact q _ _ _ ((X1.trans (X2.frz s3 f3)).trans X4) R4 hw
theorem yw{r:V→List V→Hp→VK→Prop}{g:List PyData→List PyData→Option (PyData × List PyData)}(slot:Slot "list" name id)(hty:typeOf (.builtin id)=pure (.type "method_descriptor"))(hm:DG X id r)(hf:pT X.K r g)(ho:PE X o (fE X.K fo))(ha:PA X (a::es) (fA X.K fs))
    (hbase:attributeBase o name X.env (eval o X.env)=eval o X.env)
    (hfew:((backTo cpos (starEach (a::es) X.env)).all (fun x=> !x.1)&&(backToKw cpos (keywordEach [] X.env)).all (fun x=>x.1.isSome)
      &&decide ((a::es).length+([]:List Keyword).length+(if ([]:List Keyword).isEmpty then 0 else 1) < 30))=true)
    (hline:(apos.endLine==cpos.line)=true)(hs:starEach (a::es) X.env=(false,eval a X.env)::starEach es X.env)(hplain:(backTo cpos (starEach es X.env)).any (·.1)=false):
    PE X (.Call (.Attribute o name apos) (a::es) [] cpos) (fE X.K (dq g fo fs)):=(BK PySem.F.plainAttrs_list slot hty hm ho ha hbase hfew hline hs hplain).mono fun _ _ _ h=>vz hf h
def bT:List PyData→List PyData→Option (PyData × List PyData):=fun xs ds=>match ds with
  | [d]=>if xs.length < 1000000 then some (.none,xs++[d]) else none
  | _=>none
theorem sr:pT K qu bT:=by
  intro F H l xs ys ds z vs us Q hF sm hl d1 d2 hg q
  unfold bT at hg
  match ds,hg,d2 with
  | [d],hg,d2=>
    simp only [aA] at d2
    obtain⟨w,r,rfl,hw,rfl⟩:=d2
    dsimp only at hg
    split at hg
    case isFalse=>cases hg
    case isTrue hlt=>
    cases hg
    have:=d1.len
    have sl:sizeLine=16777216:=sizeLine_eq
    exact⟨l,vs,w,rfl,rfl,hl,by lia,q _ _ (eU.mpr rfl) (d1.append (aA.one hw))⟩
def Bv:List PyData→List PyData→Option (PyData × List PyData):=fun xs ds=>match ds with
  | []=>(xs[xs.length - 1]?).map fun d=>(d,xs.dropLast)
  | _=>none
def gY:List PyData→List PyData→Option (PyData × List PyData):=fun xs ds=>match ds with
  | [.int i]=>if 0≤i∧i < 1000000000 then(xs[i.toNat]?).map fun d=>(d,xs.eraseIdx i.toNat) else none
  | _=>none
theorem xf:pT K uS gY:=by
  intro F H l xs ys ds z vs us Q hF sm hl d1 d2 hg q
  unfold gY at hg
  match ds,hg,d2 with
  | [.int i],hg,d2=>
    simp only [aA,DA] at d2
    obtain⟨w,r,rfl,rfl,rfl⟩:=d2
    dsimp only at hg
    split at hg
    case isFalse=>cases hg
    case isTrue hlt=>
    obtain⟨d,h1,h2⟩:=Option.map_eq_some_iff.mp hg
    cases h2
    obtain⟨v,g1,g2⟩:=d1.get h1
    have hlt2:i.toNat < vs.length:=(List.getElem?_eq_some_iff.mp g1).1
    exact⟨l,vs,i,i.toNat,v,rfl,rfl,hl,by lia,by lia,seqIndex_of hlt.1 (by lia),g1,q _ _ g2 (d1.erase _)⟩
end
end L2
namespace L2
open PySem PySem.Spec PyProof.Rows
inductive Fl where
  | nx (e:En)
  | bk (e:En)
  | ct (e:En)
  | rt (r:Rv) (e:En)
abbrev FS:=En→Option Fl
structure bZ (W:List Nat) (σ:L2.St) (F H:Hp) (e:En) (σ':L2.St) (F' H':Hp) (e':En):Prop where
  sf:aq F F'
  dom:∀a,H' a=none→H a=none
  fr:∀a vs,F a=none→H a=some (.lst vs)→¬bN σ e H a→F' a=none
  lst:∀a vs,H a=some (.lst vs)→∃vs',H' a=some (.lst vs')
  tmp:∀a o,H a=some o→¬bN σ e H a→H' a=some o
  own:∀a,bN σ' e' H' a→bN σ e H a∨H a=none
  wr:∀j,j∉W→σ'[j]?=σ[j]?
  fd:∀a m,F a=none→H a=some (.dK m)→¬bN σ e H a→F' a=none
section
variable{K:PySem.W.Frag}{W W1 W2:List Nat}{σ σ1 σ2 σ':L2.St}{H0 F H F1 H1 F2 H2 F' H':Hp}{e e1 e2 e':En}
theorem bZ.refl:bZ W σ F H e σ F H e:=⟨aq.refl _,fun _ h=>h,fun _ _ h _ _=>h,fun _ vs h=>⟨vs,h⟩,fun _ _ h _=>h,fun _ h=>.inl h,fun _ _=>rfl,fun _ _ h _ _=>h⟩
theorem cP.s(x:cP σ F H e F' H' e'):bZ W σ F H e σ F' H' e':=⟨x.sf,x.dom,x.fr,x.lst,x.tmp,x.ow,fun _ _=>rfl,x.fd⟩
theorem bZ.trans(x:bZ W σ F H e σ1 F1 H1 e1)(y:bZ W σ1 F1 H1 e1 σ2 F2 H2 e2):bZ W σ F H e σ2 F2 H2 e2:=
  ⟨x.sf.trans y.sf,fun a h=>x.dom a (y.dom a h),fun a vs h n no=>let ⟨vs',q⟩:=x.lst a vs n;y.fr a vs' (x.fr a vs h n no) q (fun z=>(x.own a z).elim no fun z=>by rw [n] at z;cases z),fun a vs h=>let ⟨vs',q⟩:=x.lst a vs h;y.lst a vs' q,
    fun a o h n=>y.tmp a o (x.tmp a o h n) (fun z=>(x.own a z).elim n fun z=>by rw [h] at z;cases z),
    fun a h=>(y.own a h).elim (x.own a) (fun z=>.inr (x.dom a z)),
    fun j h=>(y.wr j h).trans (x.wr j h),
    fun a m h n no=>y.fd a m (x.fd a m h n no) (x.tmp a _ n no) (fun z=>(x.own a z).elim no fun z=>by rw [n] at z;cases z)⟩
theorem bZ.mono(x:bZ W1 σ F H e σ' F' H' e')(h:∀j,j∈W1→j∈W):bZ W σ F H e σ' F' H' e':=⟨x.sf,x.dom,x.fr,x.lst,x.tmp,x.own,fun j n=>x.wr j fun z=>n (h j z),x.fd⟩
end
def j7(K:PySem.W.Frag)(W:List Nat)(σ:L2.St)(F H:Hp)(e:En)(D:oT):Fl→Prop
  | .nx e'=>∀F' H' σ',bZ W σ F H e σ' F' H' e'→aT K F' H' σ' e'→D.nx σ' H'
  | .bk e'=>∀F' H' σ',bZ W σ F H e σ' F' H' e'→aT K F' H' σ' e'→D.bk σ' H'
  | .ct e'=>∀F' H' σ',bZ W σ F H e σ' F' H' e'→aT K F' H' σ' e'→D.ct σ' H'
  | .rt r e'=>∀F' H' σ' v,bZ W σ F H e σ' F' H' e'→aT K F' H' σ' e'→bK K σ' H F' H' e' r v→D.rt v H'
def fS(K:PySem.W.Frag)(f:FS)(W:List Nat):TS:=fun D σ H=>∃F e fl,aT K F H σ e∧f e=some fl∧j7 K W σ F H e D fl
theorem PS.mono{X:Cx}{st:Stmt}{t t':TS}(h:PS X st t)(m:∀D σ H,t' D σ H→t D σ H):PS X st t':=fun pins s σ H D I q=>h pins s σ H D I (m D σ H q)
theorem jB.mono{X:Cx}{st:List Stmt}{t t':TS}(h:jB X st t)(m:∀D σ H,t' D σ H→t D σ H):jB X st t':=fun pins s σ H D I q=>h pins s σ H D I (m D σ H q)
theorem j7.later{K:PySem.W.Frag}{W W1 W2:List Nat}{σ σ1:L2.St}{F H F1 H1:Hp}{e e1:En}{D:oT}{fl:Fl}(h:j7 K W σ F H e D fl)(x:bZ W1 σ F H e σ1 F1 H1 e1)(h1:∀j,j∈W1→j∈W)(h2:∀j,j∈W2→j∈W):j7 K W2 σ1 F1 H1 e1 D fl:=by
  cases fl with
  | nx e'=>exact fun F' H' σ' y R=>h F' H' σ' ((x.mono h1).trans (y.mono h2)) R
  | bk e'=>exact fun F' H' σ' y R=>h F' H' σ' ((x.mono h1).trans (y.mono h2)) R
  | ct e'=>exact fun F' H' σ' y R=>h F' H' σ' ((x.mono h1).trans (y.mono h2)) R
  | rt r e'=>exact fun F' H' σ' v y R A=>h F' H' σ' v ((x.mono h1).trans (y.mono h2)) R (A.weak x.dom)
section
variable{X:Cx}{K:PySem.W.Frag}{W W1 W2:List Nat}{st:Stmt}{dI:List Stmt}{f g:FS}{a b:Expr}{fa:FE}{ft:FT}{pos:Pos}
def ez:FS:=fun e=>some (.nx e)
def aE(f g:FS):FS:=fun e=>(f e).bind fun fl=>match fl with
  | .nx e1=>g e1
  | fl=>some fl
theorem br:jB X [] (fS K ez []):=xj.mono fun D σ H h=>by
  obtain⟨F,e,fl,R,hf,q⟩:=h
  cases hf
  exact q F H σ bZ.refl R
theorem af(h1:PS X st (fS K f W1))(h2:jB X dI (fS K g W2)):jB X (st::dI) (fS K (aE f g) (W1++W2)):=(uG h1 h2).mono fun D σ H h=>by
  obtain⟨F,e,fl,R,hf,q⟩:=h
  unfold aE at hf
  obtain⟨fl1,h1,hf⟩:=Option.bind_eq_some_iff.mp hf
  have s1:∀j,j∈W1→j∈W1++W2:=fun j h=>List.mem_append.mpr (.inl h)
  have s2:∀j,j∈W2→j∈W1++W2:=fun j h=>List.mem_append.mpr (.inr h)
  refine⟨F,e,fl1,R,h1,?_⟩
  cases fl1 with
  | nx e1=>exact fun F' H' σ' x R'=>⟨F',e1,fl,R',hf,q.later x s1 s2⟩
  | bk e1=>cases hf;exact fun F' H' σ' x R'=>q F' H' σ' (x.mono s1) R'
  | ct e1=>cases hf;exact fun F' H' σ' x R'=>q F' H' σ' (x.mono s1) R'
  | rt r e1=>cases hf;exact fun F' H' σ' v x R' A=>q F' H' σ' v (x.mono s1) R' A
theorem ah(h1:PS X st (fS K f W)):jB X [st] (fS K f W):=xk h1
def gh(fa:FE):FS:=fun e=>(fa e).map fun p=>.nx p.2
theorem el(he:PE X a (fE K fa))(hs:swapsWith a none pos.line X.env=pure false):PS X (.Expr a pos) (fS K (gh fa) []):=(xi he hs).mono fun D σ H h=>by
  obtain⟨F,e,fl,R,hf,q⟩:=h
  obtain⟨⟨x,e1⟩,h1,hf⟩:=Option.map_eq_some_iff.mp hf
  cases hf
  exact⟨F,e,x,e1,R,h1,fun F1 H1 v X1 R1 A1=>q F1 H1 σ X1.s R1⟩
def bG(fa:FE):FS:=fun e=>(fa e).map fun p=>.rt p.1 p.2
theorem aG(he:PE X a (fE K fa)):PS X (.Return (some a) pos) (fS K (bG fa) []):=(zQ he).mono fun D σ H h=>by
  obtain⟨F,e,fl,R,hf,q⟩:=h
  obtain⟨⟨x,e1⟩,h1,hf⟩:=Option.map_eq_some_iff.mp hf
  cases hf
  exact⟨F,e,x,e1,R,h1,fun F1 H1 v X1 R1 A1=>q F1 H1 σ v X1.s R1 A1⟩
def jr(ft:FT)(f g:FS):FS:=fun e=>(ft e).bind fun p=>if p.1=true then f p.2 else g p.2
theorem dk{c:Expr}{bs cs:List Stmt}(hc:PT X c (fT K ft))(ha:jB X bs (fS K f W1))(hb:jB X cs (fS K g W2)):PS X (.If c bs cs pos) (fS K (jr ft f g) (W1++W2)):=(BQ hc ha hb).mono fun D σ H h=>by
  obtain⟨F,e,fl,R,hf,q⟩:=h
  unfold jr at hf
  obtain⟨⟨x,e1⟩,h1,hf⟩:=Option.bind_eq_some_iff.mp hf
  refine⟨F,e,x,e1,R,h1,fun F1 H1 X1 R1=>?_⟩
  cases x with
  | true=>exact⟨F1,e1,fl,R1,hf,q.later (W1:=[]) X1.s (fun j h=>by cases h) fun j h=>List.mem_append.mpr (.inl h)⟩
  | false=>exact⟨F1,e1,fl,R1,hf,q.later (W1:=[]) X1.s (fun j h=>by cases h) fun j h=>List.mem_append.mpr (.inr h)⟩
def xn(i:Nat)(r:Rv)(e:En):Option En:=match r with
  | .d x=>some (e.set i (some (.d x)))
  | .l xs=>some (e.set i (some (.l xs)))
  | .s _=>none
theorem uI{σ:L2.St}{H F H1 F1:Hp}{e e1 e2:En}{i:Nat}{r:Rv}{v:V}(R:aT K F H σ e)(X1:cP σ F H e F1 H1 e1)(R1:aT K F1 H1 σ e1)(A1:bK K σ H F1 H1 e1 r v)(h:xn i r e1=some e2):
    bZ [i] σ F H e (σ.set i (some v)) F1 H1 e2∧aT K F1 H1 (σ.set i (some v)) e2:=by
  have wr:∀j,j∉[i]→(σ.set i (some v))[j]?=σ[j]?:=fun j n=>List.getElem?_set_ne (fun z=>n (by simp [z]))
  cases r with
  | d x=>
    cases h
    obtain⟨R2,o2⟩:=R1.setD i A1
    exact⟨⟨X1.sf,X1.dom,X1.fr,X1.lst,X1.tmp,fun a h=>X1.ow a (o2 a h),wr,X1.fd⟩,R2⟩
  | l xs=>
    cases h
    obtain⟨l,vs,rfl,h1,h2,h3,h4,h5⟩:=A1
    obtain⟨R2,o2⟩:=R1.setL i h2 h3 h4 h5
    refine⟨⟨X1.sf,X1.dom,X1.fr,X1.lst,X1.tmp,fun a h=>?_,wr,X1.fd⟩,R2⟩
    rcases o2 a h with z | z
    · exact X1.ow a z
    · exact .inr (by rw [z];exact h1)
  | s j=>cases h
def aZ(i:Nat)(fa:FE):FS:=fun e=>(fa e).bind fun p=>(xn i p.1 p.2).map .nx
theorem au{i:Nat}{x:Str}{pos':Pos}(hN:X.N.Nodup)(hi:X.N[i]?=some x)(hx:AE X.env.scope x)(he:PE X a (fE K fa))(hs:swapsWith a (some (.Name x pos')) pos.line X.env=pure false)(hf:X.fn x=true∨X.env.scope.names.lookup x=some .local):
    PS X (.Assign [.Name x pos'] a pos) (fS K (aZ i fa) [i]):=(zR hN hi hx he hs hf).mono fun D σ H h=>by
  obtain⟨F,e,fl,R,hf,q⟩:=h
  unfold aZ at hf
  obtain⟨⟨r,e1⟩,h1,hf⟩:=Option.bind_eq_some_iff.mp hf
  obtain⟨e2,h2,hf⟩:=Option.map_eq_some_iff.mp hf
  cases hf
  refine⟨F,e,r,e1,R,h1,fun F1 H1 v X1 R1 A1=>?_⟩
  obtain⟨x,R2⟩:=uI R X1 R1 A1 h2
  exact q F1 H1 _ x R2
abbrev FG:=PyData→En→Option En
def fG(K:PySem.W.Frag)(g:FG)(W:List Nat):TG:=fun v σ H Q=>∃F e x e',aT K F H σ e∧DA K F x v∧g x e=some e'∧∀σ',bZ W σ F H e σ' F H e'→aT K F H σ' e'→Q σ' H
abbrev xW:=List PyData→En→Option En
def CL(K:PySem.W.Frag)(g:xW)(W:List Nat):vA:=fun vs σ H Q=>∃F e xs e',aT K F H σ e∧aA K F xs vs∧g xs e=some e'∧∀σ',bZ W σ F H e σ' F H e'→aT K F H σ' e'→Q σ' H
theorem PG.mono{tg:Expr}{t t':TG}(h:PG X tg t)(m:∀v σ H Q,t' v σ H Q→t v σ H Q):PG X tg t':=fun pins s σ H v u Q I r q=>h pins s σ H v u Q I r (m v σ H Q q)
theorem se.mono{tg:List Expr}{t t':vA}(h:se X tg t)(m:∀v σ H Q,t' v σ H Q→t v σ H Q):se X tg t':=fun pins s σ H v u Q I r q=>h pins s σ H v u Q I r (m v σ H Q q)
def ao(i:Nat):FG:=fun x e=>some (e.set i (some (.d x)))
def kh:xW:=fun xs e=>match xs with
  | []=>some e
  | _=>none
def fV(g:FG)(gs:xW):xW:=fun xs e=>match xs with
  | x::r=>(g x e).bind fun e1=>gs r e1
  | _=>none
def n6(gs:xW):FG:=fun x e=>match x with
  | .tuple xs=>gs xs e
  | _=>none
theorem bv{i:Nat}{x:Str}(hN:X.N.Nodup)(hi:X.N[i]?=some x)(hx:AE X.env.scope x)(hf:X.fn x=true∨X.env.scope.names.lookup x=some .local):PG X (.Name x pos) (fG K (ao i) [i]):=(wX hN hi hx hf).mono fun v σ H Q h=>by
  obtain⟨F,e,x,e',R,hx,hg,q⟩:=h
  cases hg
  obtain⟨R2,o2⟩:=R.setD i hx
  exact q _ ⟨aq.refl _,fun _ h=>h,fun _ _ h _ _=>h,fun _ vs h=>⟨vs,h⟩,fun _ _ h _=>h,fun a h=>.inl (o2 a h),fun j n=>List.getElem?_set_ne (fun z=>n (by simp [z])),fun _ _ h _ _=>h⟩ R2
theorem xr:se X [] (CL K kh []):=wZ.mono fun v σ H Q h=>by
  obtain⟨F,e,x,e',R,hx,hg,q⟩:=h
  unfold kh at hg
  split at hg
  · cases hg
    simp only [aA] at hx
    exact⟨hx,q σ bZ.refl R⟩
  · cases hg
theorem oF{es:List Expr}{g1:FG}{gs:xW}(h1:PG X a (fG K g1 W1))(h2:se X es (CL K gs W2))
    (hs:(assignEach (a::es) X.env).map (·.2)=assign a X.env::(assignEach es X.env).map (·.2)):se X (a::es) (CL K (fV g1 gs) (W1++W2)):=(ux h1 h2 hs).mono fun v σ H Q h=>by
  obtain⟨F,e,xs,e',R,hx,hg,q⟩:=h
  unfold fV at hg
  match xs,hg,hx with
  | x::r,hg,hx=>
    simp only [aA] at hx
    obtain⟨w,ws,e1,hw,hr⟩:=hx
    dsimp only at hg
    obtain⟨e1',h3,h4⟩:=Option.bind_eq_some_iff.mp hg
    refine⟨w,ws,e1,F,e,x,e1',R,hw,h3,fun σ1 x1 R1=>⟨F,e1',r,e',R1,hr,h4,fun σ2 x2 R2=>?_⟩⟩
    exact q σ2 ((x1.mono fun j h=>List.mem_append.mpr (.inl h)).trans (x2.mono fun j h=>List.mem_append.mpr (.inr h))) R2
theorem zZ{es:List Expr}{k n:Nat}{gs:xW}(hK:X.K=K)(hc:X.calm=true)(h:se X es (CL K gs W))(hl:∀xs e e',gs xs e=some e'→xs.length=n)(hn:(assignEach es X.env).length=n)(hst:(assignEach es X.env).findIdx? (·.1)=none):PG X (.Tuple es k pos) (fG K (n6 gs) W):=(wY hK hc h hn hst).mono fun v σ H Q h=>by
  obtain⟨F,e,x,e',R,hx,hg,q⟩:=h
  unfold n6 at hg
  match x,hg,hx with
  | .tuple xs,hg,hx=>
    obtain⟨p,vs,e1,e2,e3⟩:=ce.mp hx
    exact⟨p,vs,e1,R.sm.tup e2,by rw [←e3.len];exact hl xs e e' hg,F,e,xs,e',R,e3,hg,q⟩
theorem yT(xs:List PyData)(e e':En)(h:kh xs e=some e'):xs.length=0:=by
  unfold kh at h
  split at h
  · rfl
  · cases h
theorem qh{g:FG}{gs:xW}{n:Nat}(hl:∀xs e e',gs xs e=some e'→xs.length=n)(xs:List PyData)(e e':En)(h:fV g gs xs e=some e'):xs.length=n+1:=by
  unfold fV at h
  match xs,h with
  | x::r,h=>
    obtain⟨e1,h3,h4⟩:=Option.bind_eq_some_iff.mp h
    simp [hl r e1 e' h4]
def u9(fa:FE)(g:FG):FS:=fun e=>(fa e).bind fun p=>match p.1 with
  | .d x=>(g x p.2).map .nx
  | _=>none
theorem z0{tg:Expr}{g:FG}(he:PE X a (fE K fa))(hg:PG X tg (fG K g W))(hs:swapsWithSole [tg] a pos.line X.env=pure false)(hw:swappedStores [tg] a X.env=pure none)
    (h1:(assignEach [tg] X.env).map (·.2)=[assign tg X.env]):PS X (.Assign [tg] a pos) (fS K (u9 fa g) W):=(zN he hg hs hw h1).mono fun D σ H h=>by
  obtain⟨F,e,fl,R,hf,q⟩:=h
  unfold u9 at hf
  obtain⟨⟨r,e1⟩,h1,hf⟩:=Option.bind_eq_some_iff.mp hf
  match r,h1,hf with
  | .d x,h1,hf=>
    obtain⟨e2,h2,hf⟩:=Option.map_eq_some_iff.mp hf
    cases hf
    exact⟨F,e,_,e1,R,h1,fun F1 H1 v X1 R1 A1=>⟨F1,e1,x,e2,R1,A1,h2,fun σ' x2 R2=>q F1 H1 σ' (X1.s.trans x2) R2⟩⟩
def u_(i j:Nat)(fs:FA):FS:=fun e=>(fs e).bind fun p=>match p.1 with
  | [.d x,.d y]=>some (.nx ((p.2.set i (some (.d x))).set j (some (.d y))))
  | _=>none
theorem z3{i j:Nat}{x y:Str}{fs:FA}{px py pt:Pos}{kt k2 pt2}(hc:X.calm=true)(hN:X.N.Nodup)(hi:X.N[i]?=some x)(hj:X.N[j]?=some y)(hij:i≠j)
    (hx:X.env.scope.names.lookup x=some .local)(hy:X.env.scope.names.lookup y=some .local)(ha:PA X [a,b] (fA K fs))
    (hw:swappedStores [.Tuple [.Name x px,.Name y py] kt pt] (.Tuple [a,b] k2 pt2) X.env=pure (some [x,y]))
    (hs:swapsWithSole [.Tuple [.Name x px,.Name y py] kt pt] (.Tuple [a,b] k2 pt2) pos.line X.env=pure false):
    PS X (.Assign [.Tuple [.Name x px,.Name y py] kt pt] (.Tuple [a,b] k2 pt2) pos) (fS K (u_ i j fs) [i,j]):=(zP hc hN hi hj hij hx hy ha hw hs).mono fun D σ H h=>by
  obtain⟨F,e,fl,R,hf,q⟩:=h
  unfold u_ at hf
  obtain⟨⟨rs,e1⟩,h1,hf⟩:=Option.bind_eq_some_iff.mp hf
  refine⟨F,e,rs,e1,R,h1,fun F1 H1 vs X1 R1 A1=>?_⟩
  match rs,hf,A1 with
  | [.d x,.d y],hf,A1=>
    cases hf
    obtain⟨v,u,rfl,a1,a2⟩:=qA A1
    obtain⟨R2,o2⟩:=R1.setD i a1
    obtain⟨R3,o3⟩:=R2.setD j a2
    refine⟨v,u,rfl,q F1 H1 _ ⟨X1.sf,X1.dom,X1.fr,X1.lst,X1.tmp,fun a h=>X1.ow a (o2 a (o3 a h)),fun m n=>?_,X1.fd⟩ R3⟩
    rw [List.getElem?_set_ne (fun z=>n (by simp [z])),List.getElem?_set_ne (fun z=>n (by simp [z]))]
def qW:Rv→Option PyData
  | .d x=>some x
  | .l xs=>some (.list xs)
  | .s _=>none
theorem lH{r:Rv}{d:PyData}(h:qW r=some d):ie [r]=some [d]:=by
  cases r with
  | d x=>cases h;rfl
  | l xs=>cases h;rfl
  | s i=>cases h
def fx(ft:FT)(f:FS):Nat→FS
  | 0,_=>none
  | n+1,e=>(ft e).bind fun p=>if p.1=true then(f p.2).bind fun fl=>match fl with
      | .nx e1=>fx ft f n e1
      | .ct e1=>fx ft f n e1
      | .bk e1=>some (.nx e1)
      | .rt r e1=>some (.rt r e1)
    else some (.nx p.2)
def hJ(n:Nat)(ft:FT)(f:FS):FS:=fx ft f n
theorem kM{n:Nat}{c:Expr}{body:List Stmt}(hp:PassesOwn (model X.prog X.w) X.A X.env X.xe)(hc:PT X c (fT K ft))(hb:jB X body (fS K f W)):PS X (.While c body [] pos) (fS K (hJ n ft f) W):=(uF hp hc hb).mono fun D σ H h=>by
  refine⟨fun m σ H=>∃F e fl,aT K F H σ e∧fx ft f m e=some fl∧j7 K W σ F H e D fl,⟨n,h⟩,?_⟩
  rintro m σ H ⟨F,e,fl,R,hf,q⟩
  cases m with
  | zero=>cases hf
  | succ m=>
    unfold fx at hf
    obtain⟨⟨x,e1⟩,h1,hf⟩:=Option.bind_eq_some_iff.mp hf
    refine⟨F,e,x,e1,R,h1,fun F1 H1 X1 R1=>?_⟩
    have sub:∀j,j∈([]:List Nat)→j∈W:=fun j h=>by cases h
    cases x with
    | false=>
      rw [if_neg (by simp)] at hf
      cases hf
      exact v_ (q F1 H1 σ X1.s R1)
    | true=>
      rw [if_pos rfl] at hf
      refine wa ?_
      obtain⟨fl1,h2,hf⟩:=Option.bind_eq_some_iff.mp hf
      have q1:j7 K W σ F1 H1 e1 D fl:=q.later (W1:=[]) X1.s sub fun j h=>h
      refine⟨fun σ' H'=>∃F' e',aT K F' H' σ' e'∧fx ft f m e'=some fl∧j7 K W σ' F' H' e' D fl,fun σ' H' ⟨F',e',r1,r2,r3⟩=>⟨m,Nat.lt_succ_self m,F',e',fl,r1,r2,r3⟩,F1,e1,fl1,R1,h2,?_⟩
      cases fl1 with
      | nx e2=>exact fun F2 H2 σ2 x R2=>⟨F2,e2,R2,hf,q1.later x (fun j h=>h) fun j h=>h⟩
      | ct e2=>exact fun F2 H2 σ2 x R2=>⟨F2,e2,R2,hf,q1.later x (fun j h=>h) fun j h=>h⟩
      | bk e2=>cases hf;exact fun F2 H2 σ2 x R2=>q1 F2 H2 σ2 x R2
      | rt r e2=>cases hf;exact fun F2 H2 σ2 v x R2 A=>q1 F2 H2 σ2 v x R2 A
end
end L2
namespace L2
open PySem PySem.Spec PyProof.Rows
theorem PI.mono{X:Cx}{tg iter:Expr}{t t':TI}(h:PI X tg iter t)(m:∀σ H R,t' σ H R→t σ H R):PI X tg iter t':=fun pins s σ H R I q=>h pins s σ H R I (m σ H R q)
theorem PI.or{X:Cx}{tg iter:Expr}{t t':TI}(h:PI X tg iter t)(h':PI X tg iter t'):PI X tg iter (fun σ H R=>t σ H R∨t' σ H R):=fun pins s σ H R I q=>by
  rcases q with q | q
  · exact h pins s σ H R I q
  · exact h' pins s σ H R I q
abbrev gO:=List (Nat × List PyData)
def qN(K:PySem.W.Frag)(σ:L2.St)(F H:Hp)(own:gO):Prop:=∀p∈own,∃l vs,σ[p.1]?=some (some (.ref l))∧H l=some (.lst vs)∧aA K F p.2 vs
def vF(K:PySem.W.Frag)(σ:L2.St)(J:It)(items:List PyData)(own:gO)(F0:Hp):Prop:=∀F H,aq F0 F→aq F H→qN K σ F H own→
  (∀i,i < items.length→J.go i H)∧(∀i,items.length≤i→J.stop i H)∧∀i d x H',items[i]?=some d→J.yld i H x H'→∃F',aq H H'∧aq F F'∧aq F' H'∧(∀a,F a=none→H a≠none→F' a=none)∧DA K F' d x
abbrev FI:=En→Option (List PyData × gO × En)
def keeps(own:gO)(e:En):Prop:=∀p∈own,e[p.1]?=some (some (.l p.2))
def fI(K:PySem.W.Frag)(f:FI):TI:=fun σ H R=>∃F e items own e',aT K F H σ e∧f e=some (items,own,e')∧∀J F' H',cP σ F H e F' H' e'→aT K F' H' σ e'→keeps own e'→vF K σ J items own F'→R J H'
section
variable{K:PySem.W.Frag}{σ:L2.St}{H0 F H F' H':Hp}{e e':En}
theorem aT.held(R:aT K F H σ e){own:gO}(h:keeps own e):qN K σ F H own:=fun p hp=>by
  obtain⟨l,vs,h1,h2,h3,h4⟩:=R.own p.1 p.2 (h p hp)
  exact⟨l,vs,h1,h3,h4⟩
theorem aT.step(R:aT K F H σ e)(s:aq H H')(sF:aq F F')(sm:aq F' H')(fz:∀a,F a=none→H a≠none→F' a=none):aT K F' H' σ e∧cP σ F H e F' H' e:=by
  obtain⟨R',o'⟩:=R.keep sF sm (fun a ⟨i,h⟩=>by
    obtain⟨h1,vs,h2⟩:=R.fpAt h
    exact fz a h1 (by rw [h2];simp)) fun a o _ h=>s a o h
  exact⟨R',⟨sF,fun a h=>s.free h,fun a vs h1 h2 _=>fz a h1 (by rw [h2];simp),fun a vs h=>⟨vs,s _ _ h⟩,fun a o h _=>s a o h,fun _=>Iff.rfl,fun a h=>.inl ((o' a).mp h),fun a m h1 h2 _=>fz a h1 (by rw [h2];simp)⟩⟩
inductive xX (K:PySem.W.Frag) (σ:L2.St) (F:Hp) (p:Addr):Bool→List PyData→gO→Prop
  | tup {xs vs}:cM K F p vs→aA K F xs vs→xX K σ F p false xs []
  | lst {xs vs}:fy K F p vs→aA K F xs vs→xX K σ F p true xs []
  | own {i xs}:σ[i]?=some (some (.ref p))→xX K σ F p true xs [(i,xs)]
theorem xX.at{p:Addr}{b:Bool}{xs:List PyData}{own:gO}{F0:Hp}(h:xX K σ F0 p b xs own)(s0:aq F0 F)(s1:aq F H){own':gO}(hh:qN K σ F H own')(hs:∀q∈own,q∈own'):∃vs,aA K F xs vs∧(if b=true then fy K H p vs else cM K H p vs):=by
  cases h with
  | tup h1 h2=>exact⟨_,h2.mono s0,(s0.trans s1).tup h1⟩
  | lst h1 h2=>exact⟨_,h2.mono s0,(s0.trans s1).seq h1⟩
  | @own i xs h1=>
    obtain⟨l,vs,g1,g2,g3⟩:=hh (i,xs) (hs (i,xs) (by simp))
    dsimp only at g1 g3
    rw [h1] at g1;cases g1
    exact⟨vs,g3,.inl (.inl g2)⟩
def Ai(e:En):Rv→Option (Bool × List PyData × gO)
  | .d (.tuple xs)=>some (false,xs,[])
  | .d (.list xs)=>some (true,xs,[])
  | .l xs=>some (true,xs,[])
  | .s i=>match e[i]? with
    | some (some (.l xs))=>some (true,xs,[(i,xs)])
    | _=>none
  | _=>none
theorem qI{r:Rv}{v:V}{b:Bool}{xs:List PyData}{own:gO}(R:aT K F H σ e)(A:bK K σ H0 F H e r v)(h:Ai e r=some (b,xs,own)):
    ∃F' p,aT K F' H σ e∧aq F F'∧(∀a,F a=none→H0 a≠none→F' a=none)∧v=.ref p∧xX K σ F' p b xs own∧keeps own e:=by
  cases r with
  | d x=>
    cases x with
    | tuple ds=>
      cases h
      obtain⟨a,ys,e1,e2,e3⟩:=ce.mp A
      exact⟨F,a,R,aq.refl _,fun _ h _=>h,e1,.tup e2 e3,fun p hp=>by cases hp⟩
    | list ds=>
      cases h
      obtain⟨a,ys,e1,e2,e3⟩:=cQ.mp A
      exact⟨F,a,R,aq.refl _,fun _ h _=>h,e1,.lst e2 e3,fun p hp=>by cases hp⟩
    | _=>cases h
  | l ys=>
    cases h
    obtain⟨F',R',s',d',f'⟩:=A.frozen R
    obtain⟨a,ys,e1,e2,e3⟩:=cQ.mp d'
    exact⟨F',a,R',s',f',e1,.lst e2 e3,fun p hp=>by cases hp⟩
  | s i=>
    obtain⟨h1,ys,h2⟩:=A
    simp only [Ai,h2] at h
    cases h
    obtain⟨l,vs,e1,e2,e3,e4⟩:=R.own i _ h2
    rw [h1] at e1;cases e1
    exact⟨F,l,R,aq.refl _,fun _ h _=>h,rfl,.own h1,fun p hp=>by simp only [List.mem_singleton] at hp;subst hp;exact h2⟩
theorem rq{p:Addr}{xs:List PyData}{own:gO}{F0:Hp}(h:xX K σ F0 p true xs own):vF K σ (CU K p) xs own F0:=by
  intro F H s0 s1 hh
  obtain⟨vs,d,q⟩:=h.at s0 s1 hh fun _ h=>h
  have q:fy K H p vs:=q
  refine⟨fun i hi=>⟨vs,vs[i]'(by rw [←d.len];exact hi),q,List.getElem?_eq_getElem _⟩,fun i hi=>⟨vs,q,by rw [←d.len];exact hi⟩,fun i x v H' hx hy=>?_⟩
  obtain⟨rfl,hy⟩:=hy
  obtain⟨w,g1,g2⟩:=d.get hx
  have e:=hy vs q
  rw [g1] at e;cases e
  exact⟨F,aq.refl _,aq.refl _,s1,fun _ h _=>h,g2⟩
theorem tX{p:Addr}{xs:List PyData}{own:gO}{F0:Hp}(h:xX K σ F0 p false xs own):vF K σ (CV K p) xs own F0:=by
  intro F H s0 s1 hh
  obtain⟨vs,d,q⟩:=h.at s0 s1 hh fun _ h=>h
  have q:cM K H p vs:=q
  refine⟨fun i hi=>⟨vs,vs[i]'(by rw [←d.len];exact hi),q,List.getElem?_eq_getElem _⟩,fun i hi=>⟨vs,q,by rw [←d.len];exact hi⟩,fun i x v H' hx hy=>?_⟩
  obtain⟨rfl,hy⟩:=hy
  obtain⟨w,g1,g2⟩:=d.get hx
  have e:=hy vs q
  rw [g1] at e;cases e
  exact⟨F,aq.refl _,aq.refl _,s1,fun _ h _=>h,g2⟩
def bx(lo:Int)(n:Nat):List PyData:=(List.range n).map fun(i:Nat)=>.int (lo+(i:Int))
theorem pe{lo:Int}{n:Nat}{F0:Hp}:vF K σ (CB lo n) (bx lo n) [] F0:=by
  intro F H s0 s1 hh
  unfold bx
  rw [List.length_map,List.length_range]
  refine⟨fun i hi=>hi,fun i hi=>hi,fun i x v H' hx hy=>?_⟩
  obtain⟨rfl,rfl⟩:=hy
  rw [List.getElem?_map] at hx
  obtain⟨k,h1,rfl⟩:=Option.map_eq_some_iff.mp hx
  have h2:=(List.getElem?_eq_some_iff.mp h1).2
  simp at h2
  subst h2
  exact⟨F,aq.refl _,aq.refl _,s1,fun _ h _=>h,cc.mpr rfl⟩
end
inductive CS (K:PySem.W.Frag) (own:gO) (σ0:L2.St) (F1:Hp) (P:En→Prop) (G:L2.St→Hp→Hp→En→Prop) (σ:L2.St) (H:Hp):Prop
  | mk {F:Hp} {e:En} (R:aT K F H σ e) (kp:keeps own e) (hσ:∀p∈own,σ[p.1]?=σ0[p.1]?) (sF:aq F1 F) (hf:P e) (q:G σ F H e):CS K own σ0 F1 P G σ H
section
variable{X:Cx}{K:PySem.W.Frag}{tg a b:Expr}{es:List Expr}{fa:FE}{fs:FA}{pos p tp:Pos}{k0:Nat}
def io(fa:FE):FI:=fun e=>(fa e).bind fun p=>(Ai p.2 p.1).map fun s=>(s.2.1,s.2.2,p.2)
theorem gb(hK:X.K=K)(h:PE X a (fE K fa)):PI X tg a (fI K (io fa)):=((uy (tg:=tg) hK h).or (xa (tg:=tg) hK h)).mono fun σ H R hh=>by
  obtain⟨F,e,items,own,e',R0,hf,q⟩:=hh
  unfold io at hf
  obtain⟨⟨r,e1⟩,h1,hf⟩:=Option.bind_eq_some_iff.mp hf
  obtain⟨⟨b,xs,ow⟩,h2,hf⟩:=Option.map_eq_some_iff.mp hf
  cases hf
  cases b with
  | true=>
    refine .inl ⟨F,e,r,e1,R0,h1,fun F1 H1 v X1 R1 A1=>?_⟩
    obtain⟨F2,p,R2,s2,f2,rfl,sc,kp⟩:=qI R1 A1 h2
    obtain⟨vs,_,c⟩:=sc.at (aq.refl _) R2.sm (R2.held kp) fun _ h=>h
    exact⟨p,rfl,⟨vs,c⟩,q _ F2 H1 (X1.frz s2 f2) R2 kp (rq sc)⟩
  | false=>
    refine .inr ⟨F,e,r,e1,R0,h1,fun F1 H1 v X1 R1 A1=>?_⟩
    obtain⟨F2,p,R2,s2,f2,rfl,sc,kp⟩:=qI R1 A1 h2
    obtain⟨vs,_,c⟩:=sc.at (aq.refl _) R2.sm (R2.held kp) fun _ h=>h
    exact⟨p,rfl,⟨vs,c⟩,q _ F2 H1 (X1.frz s2 f2) R2 kp (tX sc)⟩
def uY(j:Int):Bool:=decide (-1000000≤j)&&decide (j≤1000000)
theorem uZ{j:Int}(h:uY j=true): -1000000≤j∧j≤1000000:=by
  unfold uY at h
  rw [Bool.and_eq_true,decide_eq_true_iff,decide_eq_true_iff] at h
  exact h
def cY(fs:FA):FI:=fun e=>(fs e).bind fun p=>match p.1 with
  | [r]=>(ck r).bind fun j=>if uY j=true then some (bx 0 j.toNat,[],p.2) else none
  | _=>none
theorem dR(hg:Gl X "range")(hm:X.mg "range"=none)(ha:PA X [a] (fA K fs))(hs:starEach [a] X.env=[(false,eval a X.env)]):PI X tg (.Call (.Name "range" p) [a] [] pos) (fI K (cY fs)):=(rM hg hm ha hs).mono fun σ H R hh=>by
  obtain⟨F,e,items,own,e',R0,hf,q⟩:=hh
  unfold cY at hf
  obtain⟨⟨rs,e1⟩,h1,hf⟩:=Option.bind_eq_some_iff.mp hf
  match rs,h1,hf with
  | [r],h1,hf=>
  obtain⟨j,h2,hf⟩:=Option.bind_eq_some_iff.mp hf
  split at hf
  case isFalse=>cases hf
  case isTrue hj=>
  cases hf
  refine⟨F,e,_,e1,R0,h1,fun F1 H1 vs X1 R1 A1=>?_⟩
  obtain⟨v,rfl,A2⟩:=jM A1
  have:=uZ hj
  exact⟨j,by rw [bQ A2 h2],by lia,by lia,q _ F1 H1 X1 R1 (fun _ h=>by cases h) pe⟩
open Classical in
noncomputable def gW(own:gO)(g:FG)(f:FS):List PyData→FS
  | [],e=>some (.nx e)
  | x::r,e=>(g x e).bind fun e1=>(f e1).bind fun fl=>match fl with
    | .nx e2=>if keeps own e2 then gW own g f r e2 else none
    | .ct e2=>if keeps own e2 then gW own g f r e2 else none
    | .bk e2=>some (.nx e2)
    | .rt v e2=>some (.rt v e2)
noncomputable def cI(W:List Nat)(fi:FI)(g:FG)(f:FS):FS:=fun e=>(fi e).bind fun p=>if (p.2.1.all fun q=> !W.contains q.1)=true then gW p.2.1 g f p.1 p.2.2 else none
theorem d9{W1 W2:List Nat}{iter:Expr}{body:List Stmt}{fi:FI}{g:FG}{f:FS}(hp:PassesOwn (model X.prog X.w) X.A X.env X.xe)(hc:X.calm=true)(hi:PI X tg iter (fI K fi))(hg:PG X tg (fG K g W1))(hb:jB X body (fS K f W2))(hs:∀x,foldedSetIterable iter X.env x=pure x):
    PS X (.For tg iter body [] pos) (fS K (cI (W1++W2) fi g f) (W1++W2)):=(zO hp hc hi hg hb hs).mono fun D σ0 H0 hh=>by
  obtain⟨F0,e0,fl,R0,hf,q0⟩:=hh
  unfold cI at hf
  obtain⟨⟨items,own,e1⟩,h1,hf⟩:=Option.bind_eq_some_iff.mp hf
  dsimp only at hf
  split at hf
  case isFalse=>cases hf
  case isTrue hW=>
  have hW':∀p∈own,p.1∉W1++W2:=fun p hp=>by
    have:=List.all_eq_true.mp hW p hp
    simpa using this
  refine⟨F0,e0,items,own,e1,R0,h1,fun J F1 H1 X1 R1 kp ok=>?_⟩
  have s1:∀j,j∈W1→j∈W1++W2:=fun j h=>List.mem_append.mpr (.inl h)
  have s2:∀j,j∈W2→j∈W1++W2:=fun j h=>List.mem_append.mpr (.inr h)
  have q1:j7 K (W1++W2) σ0 F1 H1 e1 D fl:=q0.later (W1:=[]) X1.s (fun j h=>by cases h) fun j h=>h
  refine⟨fun i m σ H=>m=items.length - i∧i≤items.length∧CS K own σ0 F1 (fun e=>gW own g f (items.drop i) e=some fl) (fun σ F H e=>j7 K (W1++W2) σ F H e D fl) σ H,
    ⟨items.length,by simp,Nat.zero_le _,.mk R1 kp (fun _ _=>rfl) (aq.refl _) hf q1⟩,?_⟩
  rintro i m σ H ⟨rfl,hi,⟨R,kp,hσ,sF,hf,q⟩⟩
  rename_i F e
  have held:qN K σ0 F H own:=fun p hp=>by
    obtain⟨l,vs,g1,g2⟩:=R.held kp p hp
    exact⟨l,vs,by rw [←hσ p hp];exact g1,g2⟩
  obtain⟨go,stop,yld⟩:=ok F H sF R.sm held
  by_cases hlt:i < items.length
  · have hd:items.drop i=items[i]::items.drop (i+1):=List.drop_eq_getElem_cons hlt
    rw [hd] at hf
    unfold gW at hf
    obtain⟨e2,h2,hf⟩:=Option.bind_eq_some_iff.mp hf
    obtain⟨fl2,h3,hf⟩:=Option.bind_eq_some_iff.mp hf
    refine .inr ⟨go i hlt,CS K own σ0 F1 (fun e=>gW own g f (items.drop (i+1)) e=some fl) (fun σ F H e=>j7 K (W1++W2) σ F H e D fl),
      fun σ' H' r=>⟨items.length - (i+1),by lia,rfl,hlt,r⟩,fun x H' hy=>?_⟩
    obtain⟨F',sH,sF',sm',fz,hx⟩:=yld i items[i] x H' (List.getElem?_eq_getElem hlt) hy
    obtain⟨R',X'⟩:=R.step sH sF' sm' fz
    refine⟨F',e,items[i],e2,R',hx,h2,fun σ2 x2 R2=>⟨F',e2,fl2,R2,h3,?_⟩⟩
    have q2:j7 K (W1++W2) σ2 F' H' e2 D fl:=(q.later (W1:=[]) (W2:=W1++W2) X'.s (fun j h=>by cases h) fun j h=>h).later x2 s1 fun j h=>h
    have w2:∀p∈own,σ2[p.1]?=σ0[p.1]?:=fun p hp=>(x2.wr p.1 fun z=>hW' p hp (s1 _ z)).trans (hσ p hp)
    cases fl2 with
    | nx e3=>
      intro F3 H3 σ3 x3 R3
      dsimp only at hf
      split at hf
      case isFalse=>cases hf
      case isTrue kp3=>
      exact .mk R3 kp3 (fun p hp=>(x3.wr p.1 fun z=>hW' p hp (s2 _ z)).trans (w2 p hp)) (sF.trans (sF'.trans x3.sf)) hf (q2.later x3 s2 fun j h=>h)
    | ct e3=>
      intro F3 H3 σ3 x3 R3
      dsimp only at hf
      split at hf
      case isFalse=>cases hf
      case isTrue kp3=>
      exact .mk R3 kp3 (fun p hp=>(x3.wr p.1 fun z=>hW' p hp (s2 _ z)).trans (w2 p hp)) (sF.trans (sF'.trans x3.sf)) hf (q2.later x3 s2 fun j h=>h)
    | bk e3=>
      cases hf
      exact fun F3 H3 σ3 x3 R3=>q2 F3 H3 σ3 (x3.mono s2) R3
    | rt r e3=>
      cases hf
      exact fun F3 H3 σ3 v x3 R3 A3=>q2 F3 H3 σ3 v (x3.mono s2) R3 A3
  · have hd:items.drop i=[]:=List.drop_eq_nil_of_le (by lia)
    rw [hd] at hf
    cases hf
    exact .inl ⟨stop i (by lia),q F H σ bZ.refl R⟩
end
end L2
namespace L2
open PySem PySem.Spec PyProof.Rows
def tU:Option (Option Sv)→Bool
  | some (some (.l _))=>true
  | _=>false
theorem qi{s:Option (Option Sv)}:tU s=true↔ ∃xs,s=some (some (.l xs)):=by
  unfold tU
  split
  · simp
  · rename_i h
    constructor
    · intro z;cases z
    · rintro⟨xs,rfl⟩;exact absurd rfl (h xs)
def jc(pos:Nat→Option Nat)(ei e:En):En:=e.mapIdx fun i s=>match s with
  | some (.l xs)=>match pos i with
    | some k=>(ei[k]?).join
    | none=>some (.l xs)
  | s=>s
theorem bH{pos:Nat→Option Nat}{ei e:En}{i:Nat}:(jc pos ei e)[i]?=(e[i]?).map fun s=>match s with
  | some (.l xs)=>match pos i with
    | some k=>(ei[k]?).join
    | none=>some (.l xs)
  | s=>s:=by unfold jc;rw [List.getElem?_mapIdx]
structure nv (σ:L2.St) (e:En) (σi:L2.St) (ei:En) (pos:Nat→Option Nat):Prop where
  a:∀(i k:Nat) (xs:List PyData),e[i]?=some (some (.l xs))→pos i=some k→σi[k]?=σ[i]?
  b:∀(k:Nat) (ys:List PyData),ei[k]?=some (some (.l ys))→∃(i:Nat) (xs:List PyData),e[i]?=some (some (.l xs))∧pos i=some k∧σi[k]?=σ[i]?
section
variable{K:PySem.W.Frag}{σ σi σi':L2.St}{F H F' H':Hp}{e ei ei':En}{pos:Nat→Option Nat}
def AJ(e:En):Prop:=∀(i:Nat) (xss:List (List PyData)),e[i]?≠some (some (.n xss))
theorem nv.own(s:nv σ e σi ei pos)(hn:AJ ei){a:Addr}{H H':Hp}(h:bN σi ei H a):∃(i k:Nat) (xs:List PyData),e[i]?=some (some (.l xs))∧pos i=some k∧σ[i]?=some (some (.ref a)):=by
  obtain⟨k,⟨ys,h1,h2⟩ | ⟨xss,_,_,h1,_⟩⟩:=h
  · obtain⟨i,xs,g1,g2,g3⟩:=s.b k ys h1
    exact⟨i,k,xs,g1,g2,by rw [←g3];exact h2⟩
  · exact absurd h1 (hn k xss)
theorem kR(R:aT K F H σ e)(s:nv σ e σi ei pos)(hnn:AJ ei)(sf:aq F F')(dom:∀a,H' a=none→H a=none)(fr:∀a vs,F a=none→H a=some (.lst vs)→¬bN σi ei H a→F' a=none)(lst:∀a vs,H a=some (.lst vs)→∃vs',H' a=some (.lst vs'))
    (tmp:∀a o,H a=some o→¬bN σi ei H a→H' a=some o)(fd:∀a m,F a=none→H a=some (.dK m)→¬bN σi ei H a→F' a=none)(R':aT K F' H' σi' ei')(hσ:∀(i k:Nat) (xs:List PyData),e[i]?=some (some (.l xs))→pos i=some k→σi'[k]?=σi[k]?)(hsh:∀(i k:Nat) (xs:List PyData),e[i]?=some (some (.l xs))→pos i=some k→∃ys,ei'[k]?=some (some (.l ys))):
    aT K F' H' σ (jc pos ei' e)∧cP σ F H e F' H' (jc pos ei' e)∧∀a,bN σ (jc pos ei' e) H' a→bN σ e H a:=by
  have shp:∀i:Nat,(∃xs,(jc pos ei' e)[i]?=some (some (.l xs)))↔ (∃xs,e[i]?=some (some (.l xs))):=by
    intro i
    rw [bH]
    match h:e[i]? with
    | none=>simp
    | some none=>simp
    | some (some (.d x))=>simp
    | some (some (.n x))=>simp
    | some (some (.l xs))=>
      simp only [Option.map_some]
      constructor
      · intro _;exact⟨xs,rfl⟩
      · intro _
        match hp:pos i with
        | none=>exact⟨xs,rfl⟩
        | some k=>
          obtain⟨ys,g⟩:=hsh i k xs h hp
          exact⟨ys,by show some ((ei'[k]?).join)=_;rw [g];rfl⟩
  have oth:∀(i:Nat) (s:Sv),(∀xs,s≠.l xs)→((jc pos ei' e)[i]?=some (some s)↔ e[i]?=some (some s)):=by
    intro i s hs
    constructor
    · intro h
      rw [bH] at h
      match h1:e[i]?,h with
      | some (some (.d y)),h=>exact h
      | some (some (.n y)),h=>exact h
      | some (some (.l ys)),h=>
        simp only [Option.map_some,Option.some.injEq] at h
        match hp:pos i,h with
        | none,h=>cases h;exact absurd rfl (hs _)
        | some k,h=>
          obtain⟨zs,g⟩:=hsh i k ys h1 hp
          change (ei'[k]?).join=_ at h
          rw [g] at h;cases h;exact absurd rfl (hs _)
      | some none,h=>simp at h
      | none,h=>simp at h
    · intro h
      rw [bH,h]
      cases s with
      | d y=>rfl
      | n y=>rfl
      | l y=>exact absurd rfl (hs y)
  have out:∀i a,Fp σ e H i a→(∀k xs,e[i]?=some (some (.l xs))→pos i≠some k)→¬bN σi ei H a:=by
    intro i a hi hp z
    obtain⟨j,k,ws,d1,d2,d3⟩:=s.own hnn (H':=H') z
    have:i=j:=R.fp i j a hi (.inl ⟨ws,d1,d3⟩)
    subst this
    exact hp k ws d1 d2
  have keep:∀i a o,Fp σ e H i a→(∀k xs,e[i]?=some (some (.l xs))→pos i≠some k)→H a=some o→H' a=some o:=fun i a o hi hp ha=>tmp a o ha (out i a hi hp)
  have sown:∀a,bN σi ei H a→bN σ e H a:=fun a z=>by
    obtain⟨j,k,ws,d1,d2,d3⟩:=s.own hnn (H':=H') z
    exact⟨j,.inl ⟨ws,d1,d3⟩⟩
  have fs:∀i a,Fp σ (jc pos ei' e) H' i a↔ Fp σ e H i a:=by
    intro i a
    have key:∀xss l,e[i]?=some (some (.n xss))→σ[i]?=some (some (.ref l))→H' l=H l:=fun xss l h1 h2=>by
      obtain⟨l',bs,g1,g2,g3,_⟩:=R.nst i xss h1
      rw [h2] at g1;cases g1
      rw [g3]
      exact keep i l _ (.inr ⟨xss,l,bs,h1,h2,g3,.inl rfl⟩) (fun k xs z=>by rw [h1] at z;cases z) g3
    constructor
    · rintro(⟨xs,h1,h2⟩ | ⟨xss,l,bs,h1,h2,h3,h4⟩)
      · obtain⟨ys,h⟩:=(shp i).mp ⟨xs,h1⟩
        exact .inl ⟨ys,h,h2⟩
      · have h1':=(oth i (.n xss) (fun _ z=>nomatch z)).mp h1
        exact .inr ⟨xss,l,bs,h1',h2,by rw [←key xss l h1' h2];exact h3,h4⟩
    · rintro(⟨xs,h1,h2⟩ | ⟨xss,l,bs,h1,h2,h3,h4⟩)
      · obtain⟨ys,h⟩:=(shp i).mpr ⟨xs,h1⟩
        exact .inl ⟨ys,h,h2⟩
      · exact .inr ⟨xss,l,bs,(oth i (.n xss) (fun _ z=>nomatch z)).mpr h1,h2,by rw [key xss l h1 h2];exact h3,h4⟩
  refine⟨⟨R'.sm,?_,fun i x h=>?_,fun i xs h=>?_,fun i xss h=>?_,fun i j a h1 h2=>R.fp i j a ((fs i a).mp h1) ((fs j a).mp h2)⟩,⟨sf,dom,fun a vs h1 h2 n=>fr a vs h1 h2 fun z=>n (sown a z),lst,fun a o h n=>tmp a o h fun z=>n (sown a z),shp,fun a ⟨i,h⟩=>.inl ⟨i,(fs i a).mp h⟩,fun a m h1 h2 n=>fd a m h1 h2 fun z=>n (sown a z)⟩,fun a ⟨i,h⟩=>⟨i,(fs i a).mp h⟩⟩
  · unfold jc;rw [List.length_mapIdx];exact R.len
  · obtain⟨v,g1,g2⟩:=R.dat i x ((oth i (.d x) (fun _ z=>nomatch z)).mp h)
    exact⟨v,g1,DA.mono sf g2⟩
  · obtain⟨ys,h1⟩:=(shp i).mp ⟨xs,h⟩
    obtain⟨l,vs,g1,g2,g3,g4⟩:=R.own i ys h1
    rw [bH,h1] at h
    simp only [Option.map_some,Option.some.injEq] at h
    match hp:pos i,h with
    | none,h=>
      cases h
      have np:∀k xs,e[i]?=some (some (Sv.l xs))→pos i≠some k:=fun k xs _ z=>by rw [hp] at z;cases z
      have fi:Fp σ e H i l:=.inl ⟨_,h1,g1⟩
      exact⟨l,vs,g1,fr l vs g2 g3 (out i l fi np),keep i l _ fi np g3,g4.mono sf⟩
    | some k,h=>
      obtain⟨zs,c1⟩:=hsh i k ys h1 hp
      change (ei'[k]?).join=_ at h
      rw [c1] at h;cases h
      obtain⟨l',vs',d1,d2,d3,d4⟩:=R'.own k _ c1
      rw [hσ i k ys h1 hp,s.a i k ys h1 hp] at d1
      exact⟨l',vs',d1,d2,d3,d4⟩
  · have h1:=(oth i (.n xss) (fun _ z=>nomatch z)).mp h
    obtain⟨l,bs,g1,g2,g3,g4,g5,g6,g7⟩:=R.nst i xss h1
    have np:∀k xs,e[i]?=some (some (Sv.l xs))→pos i≠some k:=fun k xs z=>by rw [h1] at z;cases z
    have fi:Fp σ e H i l:=.inr ⟨xss,l,bs,h1,g1,g3,.inl rfl⟩
    refine⟨l,bs,g1,fr l _ g2 g3 (out i l fi np),keep i l _ fi np g3,g4,g5,g6,fun k b ys q1 q2=>?_⟩
    obtain⟨c1,us,c2,c3⟩:=g7 k b ys q1 q2
    have fb:Fp σ e H i b:=.inr ⟨xss,l,bs,h1,g1,g3,.inr (List.mem_of_getElem? q1)⟩
    exact⟨fr b _ c1 c2 (out i b fb np),us,keep i b _ fb np c2,c3.mono sf⟩
end
def cv(e:En):List Rv→Option (List Sv)
  | []=>some []
  | .d x::r=>(cv e r).map (.d x::·)
  | .l xs::r=>(cv e r).map (.d (.list xs)::·)
  | .s i::r=>match e[i]? with
    | some (some (.l xs))=>(cv e r).map (.l xs::·)
    | _=>none
def aC:List Rv→List Nat
  | []=>[]
  | .s i::r=>i::aC r
  | .d _::r=>aC r
  | .l _::r=>aC r
def g_(rs:List Rv)(i:Nat):Option Nat:=rs.findIdx? fun r=>match r with
  | .s j=>j==i
  | _=>false
def noS:Rv→Prop
  | .s _=>False
  | _=>True
abbrev FM:=List Sv→Option (Rv × List Sv)
def cO(K:PySem.W.Frag)(n:Nat)(m:FM):Sp:=fun vs H Q _=>vs.length=n∧∃F as r as',aT K F H (vs.map some) (as.map some)∧AJ (as.map some)∧m as=some (r,as')∧noS r∧
  ∀F' H' v,cP (vs.map some) F H (as.map some) F' H' (as'.map some)→aT K F' H' (vs.map some) (as'.map some)→bK K (vs.map some) H F' H' (as'.map some) r v→Q v H'
def a_:List Rv→List Sv→Bool
  | [],[]=>true
  | .s _::r,.l _::s=>a_ r s
  | .d _::r,_::s=>a_ r s
  | .l _::r,_::s=>a_ r s
  | _,_=>false
def zh:Rv→Bool
  | .s _=>false
  | _=>true
def ee:List Rv→List Sv→En→En
  | .s i::r,.l ys::s,e=>ee r s (e.set i (some (.l ys)))
  | .d _::r,_::s,e=>ee r s e
  | .l _::r,_::s,e=>ee r s e
  | _,_,e=>e
def dM(n:Nat)(m:FM)(fs:FA):FE:=fun e=>(fs e).bind fun p=>(cv p.2 p.1).bind fun as=>(m as).bind fun z=>if p.1.length=n∧(aC p.1).Nodup∧a_ p.1 z.2=true∧zh z.1=true then some (z.1,ee p.1 z.2 p.2) else none
theorem e_:∀{rs:List Rv} {as:List Sv},a_ rs as=true→∀(k i:Nat),rs[k]?=some (.s i)→∃ys,as[k]?=some (.l ys)
  | [],[],_,k,i,h=>by simp at h
  | .s j::r,.l ys::s,h,k,i,hk=>by
    cases k with
    | zero=>exact⟨ys,rfl⟩
    | succ k=>simpa using e_ (rs:=r) (as:=s) (by simpa [a_] using h) k i (by simpa using hk)
  | .d x::r,y::s,h,k,i,hk=>by
    cases k with
    | zero=>simp at hk
    | succ k=>simpa using e_ (rs:=r) (as:=s) (by simpa [a_] using h) k i (by simpa using hk)
  | .l x::r,y::s,h,k,i,hk=>by
    cases k with
    | zero=>simp at hk
    | succ k=>simpa using e_ (rs:=r) (as:=s) (by simpa [a_] using h) k i (by simpa using hk)
  | .s _::_,.d _::_,h,_,_,_=>by simp [a_] at h
  | .s _::_,[],h,_,_,_=>by simp [a_] at h
  | .d _::_,[],h,_,_,_=>by simp [a_] at h
  | .l _::_,[],h,_,_,_=>by simp [a_] at h
theorem iY{r0:Rv}{rs:List Rv}{i:Nat}:g_ (r0::rs) i=if (match r0 with | .s j=>j==i | _=>false)=true then some 0 else(g_ rs i).map (· +1):=by
  unfold g_;rw [List.findIdx?_cons]
theorem iZ{rs:List Rv}{i k:Nat}(h:g_ rs i=some k):rs[k]?=some (.s i):=by
  unfold g_ at h
  rw [List.findIdx?_eq_some_iff_getElem] at h
  obtain⟨hk,h1,_⟩:=h
  rw [List.getElem?_eq_getElem hk]
  split at h1
  · rename_i heq
    rw [heq]
    have:=eq_of_beq h1
    rw [this]
  · cases h1
theorem dQ:∀{rs:List Rv} {i:Nat},i∈aC rs↔ Rv.s i∈rs
  | [],i=>by simp [aC]
  | .s j::r,i=>by simp [aC,dQ (rs:=r)]
  | .d x::r,i=>by simp [aC,dQ (rs:=r)]
  | .l x::r,i=>by simp [aC,dQ (rs:=r)]
theorem d_:∀{rs:List Rv} {i k j:Nat},(aC rs).Nodup→rs[k]?=some (.s i)→rs[j]?=some (.s i)→k=j
  | [],i,k,j,_,h,_=>by simp at h
  | .s m::r,i,k,j,hn,h1,h2=>by
    simp only [aC,List.nodup_cons] at hn
    cases k with
    | zero=>
      simp at h1;subst h1
      cases j with
      | zero=>rfl
      | succ j=>exact absurd (dQ.mpr (List.mem_of_getElem? (by simpa using h2))) hn.1
    | succ k=>
      cases j with
      | zero=>
        simp at h2;subst h2
        exact absurd (dQ.mpr (List.mem_of_getElem? (by simpa using h1))) hn.1
      | succ j=>
        have:=d_ (rs:=r) (i:=i) (k:=k) (j:=j) hn.2 (by simpa using h1) (by simpa using h2)
        lia
  | .d x::r,i,k,j,hn,h1,h2=>by
    cases k with
    | zero=>simp at h1
    | succ k=>
      cases j with
      | zero=>simp at h2
      | succ j=>
        have:=d_ (rs:=r) (i:=i) (k:=k) (j:=j) (by simpa [aC] using hn) (by simpa using h1) (by simpa using h2)
        lia
  | .l x::r,i,k,j,hn,h1,h2=>by
    cases k with
    | zero=>simp at h1
    | succ k=>
      cases j with
      | zero=>simp at h2
      | succ j=>
        have:=d_ (rs:=r) (i:=i) (k:=k) (j:=j) (by simpa [aC] using hn) (by simpa using h1) (by simpa using h2)
        lia
theorem uC{rs:List Rv}{i:Nat}(h:i∉aC rs):g_ rs i=none:=by
  unfold g_
  rw [List.findIdx?_eq_none_iff]
  intro r hr
  cases r with
  | d x=>rfl
  | l x=>rfl
  | s j=>
    have:j≠i:=fun z=>h (by rw [←z];exact dQ.mpr hr)
    simpa using this
theorem jI:∀{rs:List Rv} {as:List Sv} {e:En},(aC rs).Nodup→a_ rs as=true→(∀j∈aC rs,∃xs,e[j]?=some (some (.l xs)))→ee rs as e=jc (g_ rs) (as.map some) e
  | [],[],e,_,_,_=>by
    refine List.ext_getElem? fun i=>?_
    rw [bH]
    have:g_ [] i=none:=rfl
    rw [this]
    simp only [ee]
    match e[i]? with
    | none=>rfl
    | some none=>rfl
    | some (some (.d x))=>rfl
    | some (some (.l x))=>rfl
    | some (some (.n x))=>rfl
  | .d x::r,y::s,e,hn,hl,hs=>by
    rw [show ee (.d x::r) (y::s) e=ee r s e from rfl,jI (by simpa [aC] using hn) (by simpa [a_] using hl) (fun j hj=>hs j (by simpa [aC] using hj))]
    refine List.ext_getElem? fun i=>?_
    rw [bH,bH,iY]
    cases g_ r i<;>simp
  | .l x::r,y::s,e,hn,hl,hs=>by
    rw [show ee (.l x::r) (y::s) e=ee r s e from rfl,jI (by simpa [aC] using hn) (by simpa [a_] using hl) (fun j hj=>hs j (by simpa [aC] using hj))]
    refine List.ext_getElem? fun i=>?_
    rw [bH,bH,iY]
    cases g_ r i<;>simp
  | .s k::r,.l ys::s,e,hn,hl,hs=>by
    simp only [aC,List.nodup_cons] at hn
    obtain⟨xs,hk⟩:=hs k (by simp [aC])
    have hlt:k < e.length:=(List.getElem?_eq_some_iff.mp hk).1
    rw [show ee (.s k::r) (.l ys::s) e=ee r s (e.set k (some (.l ys))) from rfl,jI hn.2 (by simpa [a_] using hl) (fun j hj=>by
      have z:k≠j:=fun z=>hn.1 (by rw [z];exact hj)
      rw [List.getElem?_set_ne z]
      exact hs j (by simp [aC,hj]))]
    refine List.ext_getElem? fun i=>?_
    rw [bH,bH,iY]
    by_cases z:k=i
    · subst z
      rw [List.getElem?_set_self hlt,hk,uC hn.1]
      simp
    · rw [List.getElem?_set_ne z]
      have:((match (Rv.s k) with | .s j=>j==i | _=>false)=true)=False:=by simp [z]
      simp only [this,if_false]
      cases g_ r i<;>simp
  | .s _::_,.d _::_,_,_,h,_=>by simp [a_] at h
  | .s _::_,.n _::_,_,_,h,_=>by simp [a_] at h
  | .s _::_,[],_,_,h,_=>by simp [a_] at h
  | .d _::_,[],_,_,h,_=>by simp [a_] at h
  | .l _::_,[],_,_,h,_=>by simp [a_] at h
  | [],_::_,_,_,h,_=>by simp [a_] at h
theorem dD{e:En}:∀{rs:List Rv} {as:List Sv},cv e rs=some as→∀j∈aC rs,∃xs,e[j]?=some (some (.l xs))
  | [],_,_,j,h=>by simp [aC] at h
  | .d x::rs,as,q,j,h=>by
    obtain⟨as',q1,rfl⟩:=Option.map_eq_some_iff.mp q
    exact dD q1 j (by simpa [aC] using h)
  | .l x::rs,as,q,j,h=>by
    obtain⟨as',q1,rfl⟩:=Option.map_eq_some_iff.mp q
    exact dD q1 j (by simpa [aC] using h)
  | .s k::rs,as,q,j,h=>by
    unfold cv at q
    match he:e[k]?,q with
    | some (some (.l xs)),q=>
      obtain⟨as',q1,rfl⟩:=Option.map_eq_some_iff.mp q
      simp only [aC,List.mem_cons] at h
      rcases h with rfl | h
      · exact⟨xs,he⟩
      · exact dD q1 j h
theorem hX{e:En}:∀{rs:List Rv} {as:List Sv} {k i:Nat},cv e rs=some as→rs[k]?=some (.s i)→∃xs,as[k]?=some (.l xs)
  | [],_,k,i,_,h=>by simp at h
  | .d x::rs,as,k,i,q,h=>by
    obtain⟨as',q1,rfl⟩:=Option.map_eq_some_iff.mp q
    cases k with
    | zero=>simp at h
    | succ k=>simpa using hX (k:=k) (i:=i) q1 (by simpa using h)
  | .l x::rs,as,k,i,q,h=>by
    obtain⟨as',q1,rfl⟩:=Option.map_eq_some_iff.mp q
    cases k with
    | zero=>simp at h
    | succ k=>simpa using hX (k:=k) (i:=i) q1 (by simpa using h)
  | .s j::rs,as,k,i,q,h=>by
    unfold cv at q
    match he:e[j]?,q with
    | some (some (.l xs)),q=>
      obtain⟨as',q1,rfl⟩:=Option.map_eq_some_iff.mp q
      cases k with
      | zero=>exact⟨xs,rfl⟩
      | succ k=>simpa using hX (k:=k) (i:=i) q1 (by simpa using h)
section
variable{X:Cx}{K:PySem.W.Frag}{σ:L2.St}{H0 H:Hp}{e:En}
theorem jF:∀{rs:List Rv} {vs:List V} {as:List Sv} {F:Hp},aT K F H σ e→cq K σ H0 F H e rs vs→cv e rs=some as→
    ∃F',aT K F' H σ e∧aq F F'∧(∀a,F a=none→H0 a≠none→F' a=none)∧vs.length=as.length∧rs.length=as.length∧
      (∀(k:Nat) (x:PyData),as[k]?=some (.d x)→∃v,vs[k]?=some v∧DA K F' x v)∧∀(k:Nat) (xs:List PyData),as[k]?=some (.l xs)→∃i,rs[k]?=some (.s i)∧e[i]?=some (some (.l xs))∧∃v,vs[k]?=some v∧σ[i]?=some (some v)
  | [],vs,as,F,R,h,q=>by
    cases q
    have h':vs=[]:=h
    subst h'
    exact⟨F,R,aq.refl _,fun _ h _=>h,rfl,rfl,fun k x h=>by simp at h,fun k x h=>by simp at h⟩
  | .d x::rs,_,as,F,R,h,q=>by
    obtain⟨v,ws,rfl,h1,h2⟩:=h
    obtain⟨as',q1,rfl⟩:=Option.map_eq_some_iff.mp q
    obtain⟨F',R',s',f',l1,l2,d',o'⟩:=jF R h2 q1
    refine⟨F',R',s',f',by simp [l1],by simp [l2],fun k y hk=>?_,fun k ys hk=>?_⟩
    · cases k with
      | zero=>simp at hk;subst hk;exact⟨v,rfl,DA.mono s' h1⟩
      | succ k=>simpa using d' k y (by simpa using hk)
    · cases k with
      | zero=>simp at hk
      | succ k=>simpa using o' k ys (by simpa using hk)
  | .l xs::rs,_,as,F,R,h,q=>by
    obtain⟨v,ws,rfl,h1,h2⟩:=h
    obtain⟨as',q1,rfl⟩:=Option.map_eq_some_iff.mp q
    obtain⟨F',R',s',f',l1,l2,d',o'⟩:=jF R h2 q1
    have key:∃F2,aT K F2 H σ e∧aq F' F2∧(∀a,F' a=none→H0 a≠none→F2 a=none)∧DA K F2 (.list xs) v:=by
      obtain⟨l,us,rfl,g1,g2,g3,g4,g5⟩:=h1
      cases hl:F' l with
      | none=>
        have h1':bK K σ H0 F' H e (.l xs) (.ref l):=⟨l,us,rfl,g1,hl,g3,aA.mono s' g4,g5⟩
        obtain⟨F2,R2,s2,d2,f2⟩:=h1'.frozen R'
        exact⟨F2,R2,s2,f2,d2⟩
      | some o=>
        have:=R'.sm _ _ hl
        rw [g3] at this;cases this
        exact⟨F',R',aq.refl _,fun _ h _=>h,cQ.mpr ⟨l,us,rfl,.inl (.inl hl),aA.mono s' g4⟩⟩
    obtain⟨F2,R2,s2,f2,d2⟩:=key
    refine⟨F2,R2,s'.trans s2,fun a ha hn=>f2 a (f' a ha hn) hn,by simp [l1],by simp [l2],fun k y hk=>?_,fun k ys hk=>?_⟩
    · cases k with
      | zero=>simp at hk;subst hk;exact⟨v,rfl,d2⟩
      | succ k=>
        obtain⟨u,c1,c2⟩:=d' k y (by simpa using hk)
        exact⟨u,by simpa using c1,DA.mono s2 c2⟩
    · cases k with
      | zero=>simp at hk
      | succ k=>simpa using o' k ys (by simpa using hk)
  | .s i::rs,_,as,F,R,h,q=>by
    obtain⟨v,ws,rfl,h1,h2⟩:=h
    unfold cv at q
    match he:e[i]?,q with
    | some (some (.l xs)),q=>
      obtain⟨as',q1,rfl⟩:=Option.map_eq_some_iff.mp q
      obtain⟨F',R',s',f',l1,l2,d',o'⟩:=jF R h2 q1
      refine⟨F',R',s',f',by simp [l1],by simp [l2],fun k y hk=>?_,fun k ys hk=>?_⟩
      · cases k with
        | zero=>simp at hk
        | succ k=>simpa using d' k y (by simpa using hk)
      · cases k with
        | zero=>simp at hk;subst hk;exact⟨i,rfl,he,v,rfl,h1.1⟩
        | succ k=>simpa using o' k ys (by simpa using hk)
theorem dH{α:Type}{l:List α}{k:Nat}{x:α}:(l.map some)[k]?=some (some x)↔ l[k]?=some x:=by
  rw [List.getElem?_map]
  cases l[k]?<;>simp
theorem bK.noS{σ':L2.St}{e':En}{F H:Hp}{r:Rv}{v:V}(h:bK K σ' H0 F H e' r v)(n:L2.noS r)(ho:∀a,bN σ e H a→H0 a≠none):bK K σ H0 F H e r v:=by
  cases r with
  | d x=>exact h
  | l xs=>
    obtain⟨l,vs,e1,h1,h2,h3,h4,_⟩:=h
    exact⟨l,vs,e1,h1,h2,h3,h4,fun z=>ho l z h1⟩
  | s i=>exact absurd n (by simp [L2.noS])
theorem eQ:∀{rs:List Rv} {as:List Sv},cv e rs=some as→AJ (as.map some)
  | [],_,q=>by cases q;intro i xss h;simp at h
  | .d x::rs,as,q=>by
    obtain⟨as',q1,rfl⟩:=Option.map_eq_some_iff.mp q
    have ih:=eQ q1
    intro i xss h
    cases i with
    | zero=>simp at h
    | succ i=>exact ih i xss (by simpa using h)
  | .l x::rs,as,q=>by
    obtain⟨as',q1,rfl⟩:=Option.map_eq_some_iff.mp q
    have ih:=eQ q1
    intro i xss h
    cases i with
    | zero=>simp at h
    | succ i=>exact ih i xss (by simpa using h)
  | .s j::rs,as,q=>by
    unfold cv at q
    match he:e[j]?,q with
    | some (some (.l xs)),q=>
      obtain⟨as',q1,rfl⟩:=Option.map_eq_some_iff.mp q
      have ih:=eQ q1
      intro i xss h
      cases i with
      | zero=>simp at h
      | succ i=>exact ih i xss (by simpa using h)
theorem Ay{n:Nat}{m:FM}{fs:FA}{Q:VK}{E:XK}(h:fE K (dM n m fs) σ H Q):vo (cO K n m) [] E (fA K fs) σ H Q:=by
  obtain⟨F,e,z,e',R,hf,q⟩:=h
  unfold dM at hf
  obtain⟨⟨rs,e1⟩,h1,hf⟩:=Option.bind_eq_some_iff.mp hf
  obtain⟨as,h2,hf⟩:=Option.bind_eq_some_iff.mp hf
  obtain⟨⟨r,as'⟩,h3,hf⟩:=Option.bind_eq_some_iff.mp hf
  split at hf
  case isFalse=>cases hf
  case isTrue hc=>
  obtain⟨c1,c2,c3,c4⟩:=hc
  cases hf
  refine⟨F,e,rs,e1,R,h1,fun F1 H1 vs X1 R1 A1=>?_⟩
  obtain⟨F2,R2,s2,f2,l1,l2,d2,o2⟩:=jF R1 A1 h2
  have X2:=X1.frz s2 f2
  rw [List.append_nil]
  have hn:L2.noS r:=by
    cases r with
    | d x=>trivial
    | l x=>trivial
    | s i=>cases c4
  have nN:=eQ h2
  have RA:aT K F2 H1 (vs.map some) (as.map some):=by
    refine⟨R2.sm,by simp [l1],fun k x hk=>?_,fun k xs hk=>?_,fun k xss hk=>absurd hk (nN k xss),fun k j l f1 f2=>?_⟩
    · obtain⟨v,g1,g2⟩:=d2 k x (dH.mp hk)
      exact⟨v,dH.mpr g1,g2⟩
    · obtain⟨i,g1,g2,v,g3,g4⟩:=o2 k xs (dH.mp hk)
      obtain⟨l,us,k1,k2,k3,k4⟩:=R2.own i xs g2
      rw [g4] at k1;cases k1
      exact⟨l,us,dH.mpr g3,k2,k3,k4⟩
    · obtain⟨xs,g1,g3⟩:=f1.resolve_right fun⟨xss,_,_,z,_⟩=>nN k xss z
      obtain⟨ys,g2,g4⟩:=f2.resolve_right fun⟨xss,_,_,z,_⟩=>nN j xss z
      obtain⟨i1,a1,a2,v1,a3,a4⟩:=o2 k xs (dH.mp g1)
      obtain⟨i2,b1,b2,v2,b3,b4⟩:=o2 j ys (dH.mp g2)
      have e1:=dH.mp g3
      have e2:=dH.mp g4
      rw [a3] at e1;cases e1
      rw [b3] at e2;cases e2
      have:i1=i2:=R2.inj i1 i2 xs ys l a2 b2 a4 b4
      subst this
      exact d_ c2 a1 b1
  have sub:nv σ e1 (vs.map some) (as.map some) (g_ rs):=by
    refine⟨fun i k xs g1 g2=>?_,fun k ys g1=>?_⟩
    · have g3:=iZ g2
      obtain⟨zs,hs⟩:=hX h2 g3
      obtain⟨i',a1,a2,v,a3,a4⟩:=o2 k zs hs
      rw [g3] at a1;cases a1
      rw [dH.mpr a3,a4]
    · obtain⟨i,a1,a2,v,a3,a4⟩:=o2 k ys (dH.mp g1)
      refine⟨i,ys,a2,?_,by rw [dH.mpr a3,a4]⟩
      cases hp:g_ rs i with
      | none=>
        unfold g_ at hp
        rw [List.findIdx?_eq_none_iff] at hp
        have:=hp _ (List.mem_of_getElem? a1)
        simp at this
      | some j=>rw [d_ c2 (iZ hp) a1]
  refine⟨by rw [l1,←l2];exact c1,F2,as,r,as',RA,nN,h3,hn,fun F' H' v X3 R3 A3=>?_⟩
  obtain⟨R4,X4,o4⟩:=kR R2 sub nN X3.sf X3.dom X3.fr X3.lst X3.tmp X3.fd R3 (fun _ _ _ _ _=>rfl) fun i k xs g1 g2=>by
    obtain⟨ys,g3⟩:=e_ c3 k i (iZ g2)
    exact⟨ys,dH.mpr g3⟩
  have hb:=jI (e:=e1) c2 c3 (dD h2)
  rw [←hb] at R4 X4 o4
  exact q F' H' v (X2.trans X4) R4 ((A3.noS hn fun a z=>R2.ownH a (o4 a z)).weak X2.dom)
theorem bj{x:Str}{st:Stmt}{f:Addr}{fd:FuncData}{ps:List Str}{k n:Nat}{m:FM}{a:Expr}{es:List Expr}{fs:FA}{p pos:Pos}(h:bI X.K X.mg x st f fd ps)(G:aP X.prog X.w X.K X.mg X.base cL k f fd ps (cO K n m))(hr:cN k X.A)(ha:PA X (a::es) (fA K fs))
    (hg:Gl X x)(hdb:(x==("__debug__":Str))=false)(he:starEach (a::es) X.env=(false,eval a X.env)::starEach es X.env)(hpl:(backTo pos (starEach es X.env)).any (·.1)=false):
    PE X (.Call (.Name x p) (a::es) [] pos) (fE K (dM n m fs)):=(Do h G hr ha hg hdb he hpl).mono fun _ _ _ h=>Ay h
def r8:List Sv→En→Option (List Sv)
  | [],_=>some []
  | .d x::r,e=>(r8 r e.tail).map (.d x::·)
  | .l _::r,e=>match e.head? with
    | some (some (.l ys))=>(r8 r e.tail).map (.l ys::·)
    | _=>none
  | .n _::_,_=>none
def vS(n:Nat)(e:En):Rv→Option Rv
  | .s i=>if n≤i then match e[i]? with
      | some (some (.l xs))=>some (.l xs)
      | _=>none
    else none
  | r=>some r
def ov(W:List Nat)(as:List Sv):Bool:=W.all fun j=>match as[j]? with
  | some (.l _)=>false
  | _=>true
def jp(n k:Nat)(W:List Nat)(f:FS):FM:=fun as=>if as.length=n∧ov W as=true then(f (as.map some++List.replicate k none)).bind fun fl=>match fl with
    | .rt r e=>(vS n e r).bind fun r'=>(r8 as e).map fun as'=>(r',as')
    | .nx e=>(r8 as e).map fun as'=>(.d .none,as')
    | _=>none
  else none
theorem jO:∀{as as':List Sv} {e:En},r8 as e=some as'→as'.length=as.length∧(∀(j:Nat) (x:PyData),as'[j]?=some (.d x)↔ as[j]?=some (.d x))∧(∀(j:Nat) (ys:List PyData),as'[j]?=some (.l ys)→(∃xs,as[j]?=some (.l xs))∧e[j]?=some (some (.l ys)))∧∀(j:Nat) (xs:List PyData),as[j]?=some (.l xs)→∃ys,as'[j]?=some (.l ys)
  | [],_,e,h=>by cases h;simp
  | .d x::r,_,e,h=>by
    obtain⟨s,h1,rfl⟩:=Option.map_eq_some_iff.mp h
    obtain⟨g1,g2,g3,g4⟩:=jO h1
    refine⟨by simp [g1],fun j y=>?_,fun j ys hj=>?_,fun j xs hj=>?_⟩
    · cases j with
      | zero=>simp
      | succ j=>simpa using g2 j y
    · cases j with
      | zero=>simp at hj
      | succ j=>
        obtain⟨c1,c2⟩:=g3 j ys (by simpa using hj)
        refine⟨by simpa using c1,?_⟩
        rw [List.getElem?_tail] at c2
        exact c2
    · cases j with
      | zero=>simp at hj
      | succ j=>simpa using g4 j xs (by simpa using hj)
  | .l xs::r,_,e,h=>by
    unfold r8 at h
    match he:e.head?,h with
    | some (some (.l ys)),h=>
      obtain⟨s,h1,rfl⟩:=Option.map_eq_some_iff.mp h
      obtain⟨g1,g2,g3,g4⟩:=jO h1
      refine⟨by simp [g1],fun j y=>?_,fun j zs hj=>?_,fun j zs hj=>?_⟩
      · cases j with
        | zero=>simp
        | succ j=>simpa using g2 j y
      · cases j with
        | zero=>
          simp at hj;subst hj
          exact⟨⟨xs,rfl⟩,by rw [List.head?_eq_getElem?] at he;exact he⟩
        | succ j=>
          obtain⟨c1,c2⟩:=g3 j zs (by simpa using hj)
          refine⟨by simpa using c1,?_⟩
          rw [List.getElem?_tail] at c2
          exact c2
      · cases j with
        | zero=>exact⟨ys,rfl⟩
        | succ j=>simpa using g4 j zs (by simpa using hj)
  | .n x::r,_,e,h=>by simp [r8] at h
end
end L2
namespace L2
open PySem PySem.Spec PyProof.Rows
theorem cX{α:Type}{l:List (Option α)}{k i:Nat}{x:α}(h:(l++List.replicate k none)[i]?=some (some x)):l[i]?=some (some x):=by
  rw [List.getElem?_append] at h
  split at h
  · exact h
  · rw [List.getElem?_replicate] at h
    split at h<;>simp at h
theorem c_{α:Type}{l:List (Option α)}{k i:Nat}{x:α}(h:l[i]?=some (some x)):(l++List.replicate k none)[i]?=some (some x):=by
  have hi:i < l.length:=(List.getElem?_eq_some_iff.mp h).1
  rw [List.getElem?_append_left hi];exact h
section
variable{K:PySem.W.Frag}{F H:Hp}{σ:L2.St}{e:En}{k:Nat}
theorem mL{i:Nat}{a:Addr}:Fp (σ++List.replicate k none) (e++List.replicate k none) H i a↔ Fp σ e H i a:=by
  constructor
  · rintro(⟨xs,h1,h2⟩ | ⟨xss,l,bs,h1,h2,h3⟩)
    · exact .inl ⟨xs,cX h1,cX h2⟩
    · exact .inr ⟨xss,l,bs,cX h1,cX h2,h3⟩
  · rintro(⟨xs,h1,h2⟩ | ⟨xss,l,bs,h1,h2,h3⟩)
    · exact .inl ⟨xs,c_ h1,c_ h2⟩
    · exact .inr ⟨xss,l,bs,c_ h1,c_ h2,h3⟩
theorem jL{a:Addr}:bN (σ++List.replicate k none) (e++List.replicate k none) H a↔ bN σ e H a:=⟨fun⟨i,h⟩=>⟨i,mL.mp h⟩,fun⟨i,h⟩=>⟨i,mL.mpr h⟩⟩
theorem aT.pad(R:aT K F H σ e):aT K F H (σ++List.replicate k none) (e++List.replicate k none):=by
  refine⟨R.sm,by simp [R.len],fun i x h=>?_,fun i xs h=>?_,fun i xss h=>?_,fun i j a h1 h2=>R.fp i j a (mL.mp h1) (mL.mp h2)⟩
  · obtain⟨v,g1,g2⟩:=R.dat i x (cX h)
    exact⟨v,c_ g1,g2⟩
  · obtain⟨l,vs,g1,g2⟩:=R.own i xs (cX h)
    exact⟨l,vs,c_ g1,g2⟩
  · obtain⟨l,bs,g1,g2⟩:=R.nst i xss (cX h)
    exact⟨l,bs,c_ g1,g2⟩
end
theorem ng:∀{as as':List Sv} {e:En},r8 as e=some as'→AJ (as'.map some)
  | [],_,e,h=>by cases h;intro i xss z;simp at z
  | .d x::r,_,e,h=>by
    obtain⟨s,h1,rfl⟩:=Option.map_eq_some_iff.mp h
    have ih:=ng h1
    intro i xss z
    cases i with
    | zero=>simp at z
    | succ i=>exact ih i xss (by simpa using z)
  | .l xs::r,_,e,h=>by
    unfold r8 at h
    match he:e.head?,h with
    | some (some (.l ys)),h=>
      obtain⟨s,h1,rfl⟩:=Option.map_eq_some_iff.mp h
      have ih:=ng h1
      intro i xss z
      cases i with
      | zero=>simp at z
      | succ i=>exact ih i xss (by simpa using z)
  | .n x::r,_,e,h=>by simp [r8] at h
theorem ox{W:List Nat}{as:List Sv}(h:ov W as=true){j:Nat}{xs:List PyData}(hj:as[j]?=some (.l xs)):j∉W:=fun z=>by
  unfold ov at h
  have:=List.all_eq_true.mp h j z
  rw [hj] at this
  cases this
section
variable{P:Program}{w:World}{K:PySem.W.Frag}{mg:Str→Option Value}{base:Heap}
theorem bI.fn{x:Str}{st:Stmt}{f:Addr}{fd:FuncData}{N ps:List Str}{k n k0:Nat}{W:List Nat}{fb:FS}(h:bI K mg x st f fd ps)(S:aJ N ps (aj st))(hn:ps.length=n)(hN:N.length=n+k0)
    (hb:∀(cdv:Value) (A:Around) (outer:List Env) (s:Shared) (H:Hp) (E:XK),cN k (A.deeper (envOfC x (aj st) s.heap.objs.size f cdv))→jB (o8 cL P w K mg base N x (aj st) f cdv A outer s H E).nox (bS st) (fS K fb W)):
    aP P w K mg base cL (k+1) f fd ps (cO K n (jp n k0 W fb)):=by
  refine h.F.ok S (fun vs H Q E q=>?_) fun cdv A outer s H vs Q E hr hsp=>⟨_,hb cdv A outer s H E hr,?_⟩
  · rw [hn];exact q.1
  · obtain⟨hl,F,as,r,as',R,nN,hm,nr,q⟩:=hsp
    unfold jp at hm
    split at hm
    case isFalse=>cases hm
    case isTrue hc=>
    obtain⟨la,nl⟩:=hc
    obtain⟨fl,h1,hm⟩:=Option.bind_eq_some_iff.mp hm
    have hst:dB N vs=vs.map some++List.replicate k0 none:=by unfold dB;rw [hN,hl];congr 2;lia
    rw [hst]
    have key:∀{as':List Sv} {e':En},r8 as e'=some as'→∀F' H' σ',bZ W (vs.map some++List.replicate k0 none) F H (as.map some++List.replicate k0 none) σ' F' H' e'→aT K F' H' σ' e'→
        cP (vs.map some) F H (as.map some) F' H' (as'.map some)∧aT K F' H' (vs.map some) (as'.map some)∧∀a,bN (vs.map some) (as'.map some) H' a→bN (vs.map some) (as.map some) H a:=by
      intro as' e' hu F' H' σ' X' R'
      obtain⟨u1,u2,u3,u4⟩:=jO hu
      have uN:=ng hu
      have ow:∀a,bN (vs.map some) (as'.map some) H' a→bN (vs.map some) (as.map some) H a:=by
        rintro a ⟨j,⟨ys,c1,c2⟩ | ⟨xss,_,_,z,_⟩⟩
        · obtain⟨⟨xs,c3⟩,_⟩:=u3 j ys (dH.mp c1)
          exact⟨j,.inl ⟨xs,dH.mpr c3,c2⟩⟩
        · exact absurd z (uN j xss)
      have sg:∀(j:Nat) (xs:List PyData),as[j]?=some (.l xs)→σ'[j]?=(vs.map some)[j]?:=fun j xs hj=>by
        rw [X'.wr j (ox nl hj)]
        have hj2:j < (vs.map some).length:=by rw [List.length_map,hl,←la];exact(List.getElem?_eq_some_iff.mp hj).1
        rw [List.getElem?_append_left hj2]
      refine⟨⟨X'.sf,X'.dom,fun a vs h1 h2 hn=>X'.fr a vs h1 h2 fun z=>hn (jL.mp z),X'.lst,fun a o ha hn=>X'.tmp a o ha fun z=>hn (jL.mp z),fun j=>?_,fun a z=>.inl (ow a z),fun a m h1 h2 hn=>X'.fd a m h1 h2 fun z=>hn (jL.mp z)⟩,⟨R'.sm,?_,fun j y hj=>?_,fun j ys hj=>?_,fun j xss hj=>absurd hj (uN j xss),fun j i l f1 f2=>?_⟩,ow⟩
      · constructor
        · rintro⟨ys,hj⟩
          obtain⟨⟨xs,c⟩,_⟩:=u3 j ys (dH.mp hj)
          exact⟨xs,dH.mpr c⟩
        · rintro⟨xs,hj⟩
          obtain⟨ys,c⟩:=u4 j xs (dH.mp hj)
          exact⟨ys,dH.mpr c⟩
      · simp [u1,hl,la]
      · obtain⟨v,c1,c2⟩:=R.dat j y (dH.mpr ((u2 j y).mp (dH.mp hj)))
        exact⟨v,c1,DA.mono X'.sf c2⟩
      · obtain⟨⟨xs,c1⟩,c2⟩:=u3 j ys (dH.mp hj)
        obtain⟨l,us,d1,d2⟩:=R'.own j ys c2
        exact⟨l,us,by rw [←sg j xs c1];exact d1,d2⟩
      · obtain⟨xs,g1,g3⟩:=f1.resolve_right fun⟨xss,_,_,z,_⟩=>uN j xss z
        obtain⟨ys,g2,g4⟩:=f2.resolve_right fun⟨xss,_,_,z,_⟩=>uN i xss z
        obtain⟨⟨zs,c1⟩,c2⟩:=u3 j xs (dH.mp g1)
        obtain⟨⟨ws,c3⟩,c4⟩:=u3 i ys (dH.mp g2)
        exact R'.inj j i xs ys l c2 c4 (by rw [sg j zs c1];exact g3) (by rw [sg i ws c3];exact g4)
    refine⟨F,as.map some++List.replicate k0 none,fl,R.pad,h1,?_⟩
    cases fl with
    | bk e'=>cases hm
    | ct e'=>cases hm
    | nx e'=>
      obtain⟨as2,h2,hm⟩:=Option.map_eq_some_iff.mp hm
      cases hm
      intro F' H' σ' X' R'
      obtain⟨X2,R2,_⟩:=key h2 F' H' σ' X' R'
      exact q F' H' .non X2 R2 ((eU (K:=K) (F:=F')).mpr rfl)
    | rt r0 e'=>
      obtain⟨r1,h2,hm⟩:=Option.bind_eq_some_iff.mp hm
      obtain⟨as2,h3,hm⟩:=Option.map_eq_some_iff.mp hm
      cases hm
      intro F' H' σ' v X' R' A'
      obtain⟨X2,R2,ow2⟩:=key h3 F' H' σ' X' R'
      have noo:∀l,H l=none→¬bN (vs.map some) (as'.map some) H' l:=fun l hl z=>R.ownH l (ow2 l z) hl
      refine q F' H' v X2 R2 ?_
      cases r0 with
      | d y=>cases h2;exact A'
      | l ys=>
        cases h2
        obtain⟨l,us,d0,d1,d2,d3,d4,_⟩:=A'
        exact⟨l,us,d0,d1,d2,d3,d4,noo l d1⟩
      | s i=>
        simp only [vS] at h2
        split at h2
        case isFalse=>cases h2
        case isTrue hi=>
        obtain⟨a1,xs,a2⟩:=A'
        rw [a2] at h2
        cases h2
        obtain⟨l,us,d1,d2,d3,d4⟩:=R'.own i _ a2
        rw [a1] at d1;cases d1
        suffices hl0:H l=none from⟨l,us,rfl,hl0,d2,d3,d4,noo l hl0⟩
        rcases X'.own l ⟨i,.inl ⟨_,a2,a1⟩⟩ with z | z
        · obtain⟨j,zf⟩:=jL.mp z
          obtain⟨ys,z1,z2⟩:=zf.resolve_right fun⟨xss,_,_,z,_⟩=>nN j xss z
          have z1':=dH.mp z1
          obtain⟨u1,u2,u3,u4⟩:=jO h3
          obtain⟨ws,w1⟩:=u4 j ys z1'
          obtain⟨_,w2⟩:=u3 j ws w1
          have hj2:j < vs.length:=by rw [hl,←la];exact(List.getElem?_eq_some_iff.mp z1').1
          have e3:σ'[j]?=some (some (.ref l)):=by
            rw [X'.wr j (ox nl z1'),List.getElem?_append_left (by simpa using hj2)]
            exact z2
          have:=R'.inj i j _ ws l a2 w2 a1 e3
          lia
        · exact z
end
def Bs:Option Sv→Option Sv
  | some (.n _)=>none
  | s=>s
def jK(cp:List (Nat × Str))(nT:Nat)(e:En):En:=cp.map (fun p=>Bs (e[p.1]?).join)++List.replicate nT none
def iX(cp:List (Nat × Str))(i:Nat):Option Nat:=cp.findIdx? fun p=>p.1==i
def dU(g:FG)(ft:FT)(fe:FE):List PyData→En→List PyData→Option (List PyData × En)
  | [],e,acc=>some (acc,e)
  | x::r,e,acc=>(g x e).bind fun e1=>(ft e1).bind fun b=>if b.1=true then(fe b.2).bind fun v=>(qW v.1).bind fun d=>if acc.length < 1000000 then dU g ft fe r v.2 (acc++[d]) else none else dU g ft fe r b.2 acc
def iK(cp:List (Nat × Str))(ei e:En):Bool:=cp.all fun p=> !tU e[p.1]? || tU ei[(iX cp p.1).getD 0]?
def kS(cp:List (Nat × Str))(nT:Nat)(fi:FI)(g:FG)(ft:FT)(fe:FE):FE:=fun e=>(fi e).bind fun p=>if (p.2.1.all fun q=> !(cp.any fun c=>c.1==q.1))=true then(dU g ft fe p.1 (jK cp nT p.2.2) []).bind fun z=>if iK cp z.2 p.2.2=true then some (.l z.1,jc (iX cp) z.2 p.2.2) else none else none
section
variable{K:PySem.W.Frag}{F H:Hp}{σ:L2.St}{e:En}{cp:List (Nat × Str)}{nT:Nat}
theorem cT{i k:Nat}(h:iX cp i=some k):∃s,cp[k]?=some (i,s):=by
  unfold iX at h
  rw [List.findIdx?_eq_some_iff_getElem] at h
  obtain⟨hk,h1,_⟩:=h
  refine⟨cp[k].2,?_⟩
  rw [List.getElem?_eq_getElem hk]
  have:=eq_of_beq h1
  rw [←this]
theorem eX{k:Nat}{x:Sv}(h:(jK cp nT e)[k]?=some (some x)):∃i s,cp[k]?=some (i,s)∧e[i]?=some (some x):=by
  unfold jK at h
  have h:=cX h
  rw [List.getElem?_map] at h
  obtain⟨p,h1,h2⟩:=Option.map_eq_some_iff.mp h
  refine⟨p.1,p.2,h1,?_⟩
  cases q:e[p.1]? with
  | none=>rw [q] at h2;cases h2
  | some y=>
    rw [q] at h2
    match y,h2 with
    | some (.d z),h2=>exact congrArg some h2
    | some (.l z),h2=>exact congrArg some h2
    | some (.n z),h2=>cases h2
    | none,h2=>cases h2
theorem eY:AJ (jK cp nT e):=by
  intro k xss h
  unfold jK at h
  have h:=cX h
  rw [List.getElem?_map] at h
  obtain⟨p,h1,h2⟩:=Option.map_eq_some_iff.mp h
  match (e[p.1]?).join,h2 with
  | some (.d z),h2=>cases h2
  | some (.l z),h2=>cases h2
  | some (.n z),h2=>cases h2
  | none,h2=>cases h2
theorem jN{k i:Nat}{s:Str}{v:V}(h:cp[k]?=some (i,s))(hv:σ[i]?=some (some v)):(dn cp nT σ)[k]?=some (some v):=by
  unfold dn
  refine c_ ?_
  rw [List.getElem?_map,h]
  simp [hv]
theorem iF{k i:Nat}{s:Str}{v:V}(h:cp[k]?=some (i,s))(hv:(dn cp nT σ)[k]?=some (some v)):σ[i]?=some (some v):=by
  unfold dn at hv
  have hv:=cX hv
  rw [List.getElem?_map,h] at hv
  simp only [Option.map_some,Option.some.injEq] at hv
  cases q:σ[i]? with
  | none=>rw [q] at hv;cases hv
  | some y=>rw [q] at hv;exact congrArg some hv
theorem mF:∀{cp:List (Nat × Str)} {k j i:Nat} {s t:Str},(cp.map (·.1)).Nodup→cp[k]?=some (i,s)→cp[j]?=some (i,t)→k=j
  | [],k,j,i,s,t,_,h,_=>by simp at h
  | p::r,k,j,i,s,t,hn,h1,h2=>by
    simp only [List.map_cons,List.nodup_cons] at hn
    cases k with
    | zero=>
      simp at h1;subst h1
      cases j with
      | zero=>rfl
      | succ j=>
        have hm:(i,t)∈r:=List.mem_of_getElem? (i:=j) (by simpa using h2)
        exact absurd (List.mem_map.mpr ⟨(i,t),hm,rfl⟩) hn.1
    | succ k=>
      cases j with
      | zero=>
        simp at h2;subst h2
        have hm:(i,s)∈r:=List.mem_of_getElem? (i:=k) (by simpa using h1)
        exact absurd (List.mem_map.mpr ⟨(i,s),hm,rfl⟩) hn.1
      | succ j=>
        have:=mF (cp:=r) (k:=k) (j:=j) hn.2 (by simpa using h1) (by simpa using h2)
        lia
theorem aT.inn(R:aT K F H σ e)(hn:(cp.map (·.1)).Nodup):aT K F H (dn cp nT σ) (jK cp nT e)∧nv σ e (dn cp nT σ) (jK cp nT e) (iX cp):=by
  refine⟨⟨R.sm,by simp [dn,jK],fun k x h=>?_,fun k xs h=>?_,fun k xss h=>absurd h (eY k xss),fun k j l f1 f2=>?_⟩,⟨fun i k xs h1 h2=>?_,fun k ys h=>?_⟩⟩
  · obtain⟨i,s,h1,h2⟩:=eX h
    obtain⟨v,g1,g2⟩:=R.dat i x h2
    exact⟨v,jN h1 g1,g2⟩
  · obtain⟨i,s,h1,h2⟩:=eX h
    obtain⟨l,vs,g1,g2⟩:=R.own i xs h2
    exact⟨l,vs,jN h1 g1,g2⟩
  · obtain⟨xs,h1,h3⟩:=f1.resolve_right fun⟨xss,_,_,z,_⟩=>eY k xss z
    obtain⟨ys,h2,h4⟩:=f2.resolve_right fun⟨xss,_,_,z,_⟩=>eY j xss z
    obtain⟨i,s,a1,a2⟩:=eX h1
    obtain⟨i',s',b1,b2⟩:=eX h2
    have:i=i':=R.inj i i' xs ys l a2 b2 (iF a1 h3) (iF b1 h4)
    subst this
    exact mF hn a1 b1
  · obtain⟨s,g⟩:=cT h2
    obtain⟨l,vs,g1,_⟩:=R.own i xs h1
    rw [g1];exact jN g g1
  · obtain⟨i,s,h1,h2⟩:=eX h
    obtain⟨l,vs,g1,_⟩:=R.own i ys h2
    refine⟨i,ys,h2,?_,by rw [g1];exact jN h1 g1⟩
    cases hp:iX cp i with
    | none=>
      unfold iX at hp
      rw [List.findIdx?_eq_none_iff] at hp
      have:=hp _ (List.mem_of_getElem? h1)
      simp at this
    | some j=>
      obtain⟨t,g⟩:=cT hp
      rw [mF hn g h1]
theorem aT.putT(R:aT K F H σ e){l:Addr}{ws:List V}(h1:F l=none)(h2:¬bN σ e H l):aT K F (a7 H l (.lst ws)) σ e∧∀a,bN σ e (a7 H l (.lst ws)) a↔ bN σ e H a:=
  R.keep (aq.refl F) (fun b o q=>by
    have z:b≠l:=fun z=>by rw [z,h1] at q;cases q
    rw [aB z];exact R.sm b o q) (fun a ⟨i,h⟩=>(R.fpAt h).1) fun a o ha q=>by
      have z:a≠l:=fun z=>h2 (by rw [←z];exact ha)
      rw [aB z];exact q
theorem bZ.putT{W:List Nat}{σ':L2.St}{F' H':Hp}{e':En}(x:bZ W σ F H e σ' F' H' e'){l:Addr}{o:HO}(h:H l=none)(ho:∀a,bN σ' e' (a7 H' l o) a↔ bN σ' e' H' a):bZ W σ F H e σ' F' (a7 H' l o) e':=by
  refine⟨x.sf,fun a q=>?_,x.fr,fun a vs q=>?_,fun a u q n=>?_,fun a q=>x.own a ((ho a).mp q),x.wr,x.fd⟩
  · by_cases z:a=l
    · rw [z];exact h
    · rw [aB z] at q;exact x.dom a q
  · have z:a≠l:=fun z=>by rw [z,h] at q;cases q
    rw [aB z];exact x.lst a vs q
  · have z:a≠l:=fun z=>by rw [z,h] at q;cases q
    rw [aB z];exact x.tmp a u q n
inductive CI (K:PySem.W.Frag) (W:List Nat) (σ0:L2.St) (F1 H1:Hp) (e0:En) (l:Addr) (P:Hp→En→List PyData→Prop) (σ':L2.St) (H':Hp):Prop
  | mk {F':Hp} {ei:En} {acc:List PyData} {vs:List V} (R:aT K F' H' σ' ei) (X:bZ W σ0 F1 H1 e0 σ' F' H' ei) (fl:F' l=none) (no:¬bN σ' ei H' l) (hl:H' l=some (.lst vs)) (da:aA K F' acc vs) (hc:P F' ei acc):CI K W σ0 F1 H1 e0 l P σ' H'
theorem vy{Q:VK}{fi:FI}{g:FG}{W:List Nat}{ft:FT}{fe:FE}(hn:(cp.map (·.1)).Nodup)(hW:∀j∈W,cp.length≤j)(h:fE K (kS cp nT fi g ft fe) σ H Q):yz cp nT (fI K fi) (fG K g W) (fT K ft) (fE K fe) σ H Q:=by
  obtain⟨F0,e0,z,e',R0,hf,q⟩:=h
  unfold kS at hf
  obtain⟨⟨items,own,e1⟩,h1,hf⟩:=Option.bind_eq_some_iff.mp hf
  dsimp only at hf
  split at hf
  case isFalse=>cases hf
  case isTrue hO=>
  obtain⟨⟨out,eo⟩,h2,hf⟩:=Option.bind_eq_some_iff.mp hf
  dsimp only at hf
  split at hf
  case isFalse=>cases hf
  case isTrue hB=>
  cases hf
  refine⟨⟨F0,e0,items,own,e1,R0,h1,fun J F1 H1 X1 R1 kp ok=>?_⟩⟩
  intro l hl
  obtain⟨Ri,sub⟩:=R1.inn (nT:=nT) hn
  have hFl:F1 l=none:=R1.freeF hl
  let Iv:Nat→L2.St→Hp→Prop:=fun i=>CI K W (dn cp nT σ) F1 H1 (jK cp nT e1) l fun _ ei acc=>dU g ft fe (items.drop i) ei acc=some (out,eo)
  have notown:∀p∈own,∀a,σ[p.1]?=some (some (.ref a))→¬bN (dn cp nT σ) (jK cp nT e1) H1 a:=by
    rintro p hp a ha ⟨k,zf⟩
    obtain⟨xs,c1,c2⟩:=zf.resolve_right fun⟨xss,_,_,z,_⟩=>eY k xss z
    obtain⟨i,s,d1,d2⟩:=eX c1
    have e2:=iF d1 c2
    have:p.1=i:=R1.inj p.1 i p.2 xs a (kp p hp) d2 ha e2
    have hh:=List.all_eq_true.mp hO p hp
    simp only [Bool.not_eq_true',List.any_eq_false,beq_iff_eq] at hh
    exact hh (i,s) (List.mem_of_getElem? d1) this.symm
  refine⟨fun i m σ' H'=>m=items.length - i∧i≤items.length∧Iv i σ' H',⟨items.length,by simp,Nat.zero_le _,.mk (Ri.putT hFl (fun z=>(Ri.ownH l z) hl)).1 (bZ.refl.putT hl (Ri.putT hFl (fun z=>(Ri.ownH l z) hl)).2) hFl (fun z=>(Ri.ownH l (((Ri.putT hFl (fun z=>(Ri.ownH l z) hl)).2 l).mp z)) hl) am aA.nil h2⟩,?_⟩
  rintro i m σ' H' ⟨rfl,hi,⟨R',X',fl,no,hl',da,hc⟩⟩
  rename_i F' ei acc vs
  have held:qN K σ F' H' own:=fun p hp=>by
    obtain⟨a,us,c1,c2,c3,c4⟩:=R1.own p.1 p.2 (kp p hp)
    exact⟨a,us,c1,X'.tmp a _ c3 (notown p hp a c1),c4.mono X'.sf⟩
  obtain⟨go,stop,yld⟩:=ok F' H' X'.sf R'.sm held
  by_cases hlt:i < items.length
  · have hd:items.drop i=items[i]::items.drop (i+1):=List.drop_eq_getElem_cons hlt
    rw [hd] at hc
    unfold dU at hc
    obtain⟨e2,c2,hc⟩:=Option.bind_eq_some_iff.mp hc
    obtain⟨⟨b,e3⟩,c3,hc⟩:=Option.bind_eq_some_iff.mp hc
    refine .inr ⟨go i hlt,Iv (i+1),fun σ2 H2 r=>⟨items.length - (i+1),by lia,rfl,hlt,r⟩,fun x H2 hy=>?_⟩
    obtain⟨F2,sH,sF2,sm2,fz,hx⟩:=yld i items[i] x H2 (List.getElem?_eq_getElem hlt) hy
    obtain⟨R2,X2⟩:=R'.step sH sF2 sm2 fz
    refine⟨F2,ei,items[i],e2,R2,hx,c2,fun σ3 X3 R3=>⟨F2,e2,b,e3,R3,c3,fun F4 H4 X4 R4=>?_⟩⟩
    have hlH2:H2 l=some (.lst vs):=sH _ _ hl'
    have no2:¬bN σ' ei H2 l:=fun z=>by
      rcases X2.ow l z with z | z
      · exact no z
      · rw [hl'] at z;cases z
    have no3:¬bN σ3 e2 H2 l:=fun z=>by
      rcases X3.own l z with z | z
      · exact no2 z
      · rw [hlH2] at z;cases z
    have fl2:F2 l=none:=fz l fl (by rw [hl'];simp)
    have hlH4:H4 l=some (.lst vs):=X4.tmp l _ hlH2 no3
    have fl4:F4 l=none:=X4.fr l vs fl2 hlH2 no3
    have no4:¬bN σ3 e3 H4 l:=fun z=>by
      rcases X4.ow l z with z | z
      · exact no3 z
      · rw [hlH2] at z;cases z
    have E4:bZ W (dn cp nT σ) F1 H1 (jK cp nT e1) σ3 F4 H4 e3:=((X'.trans X2.s).trans X3).trans X4.s
    cases b with
    | false=>
      rw [if_neg (by simp)] at hc
      exact v_ (.mk R4 E4 fl4 no4 hlH4 (da.mono (sF2.trans X4.sf)) hc)
    | true=>
      rw [if_pos rfl] at hc
      obtain⟨⟨r,e5⟩,c5,hc⟩:=Option.bind_eq_some_iff.mp hc
      obtain⟨d,c6,hc⟩:=Option.bind_eq_some_iff.mp hc
      split at hc
      case isFalse=>cases hc
      case isTrue hlen=>
      refine wa ⟨F4,e3,r,e5,R4,c5,fun F5 H5 v X5 R5 A5=>?_⟩
      have hlH5:H5 l=some (.lst vs):=X5.tmp l _ hlH4 no4
      have fl5:F5 l=none:=X5.fr l vs fl4 hlH4 no4
      have no5:¬bN σ3 e5 H5 l:=fun z=>by
        rcases X5.ow l z with z | z
        · exact no4 z
        · rw [hlH4] at z;cases z
      obtain⟨F6,R6,s6,d6,f6⟩:=cq.frozen R5 (rs:=[r]) (vs:=[v]) ⟨v,[],rfl,A5,rfl⟩ (lH c6)
      have fl6:F6 l=none:=f6 l fl5 (by rw [hlH4];simp)
      have X6:=X5.frz s6 f6
      have ll:=da.len
      have sl:sizeLine=16777216:=sizeLine_eq
      have dv:DA K F6 d v:=by
        simp only [aA] at d6
        obtain⟨v',r',e',hv,_⟩:=d6
        cases e';exact hv
      obtain⟨R7,o7⟩:=R6.putT (ws:=vs++[v]) fl6 no5
      exact⟨vs,hlH5,by lia,.mk R7 ((E4.trans X6.s).putT hl o7) fl6 (fun z=>no5 ((o7 l).mp z)) am ((da.mono (sF2.trans (X4.sf.trans (X5.sf.trans s6)))).append (aA.one dv)) hc⟩
  · have hd:items.drop i=[]:=List.drop_eq_nil_of_le (by lia)
    rw [hd] at hc
    cases hc
    refine .inl ⟨stop i (by lia),?_⟩
    obtain⟨R9,X9,o9⟩:=kR R1 sub eY X'.sf X'.dom X'.fr X'.lst X'.tmp X'.fd R' (fun i k xs g1 g2=>X'.wr k fun z=>by
      obtain⟨s,g⟩:=cT g2
      have:=(List.getElem?_eq_some_iff.mp g).1
      have:=hW k z
      lia) fun i k xs g1 g2=>by
        obtain⟨s,g⟩:=cT g2
        unfold iK at hB
        have hb:=List.all_eq_true.mp hB _ (List.mem_of_getElem? g)
        simp only [g1,g2,Option.getD_some,tU,Bool.not_true,Bool.false_or] at hb
        exact qi.mp hb
    exact q F' H' (.ref l) (X1.trans X9) R9 ⟨l,vs,rfl,X1.dom l hl,fl,hl',da,fun z=>R1.ownH l (o9 l z) hl⟩
end
end L2
namespace L2
open PySem PySem.Spec PyProof.Rows
section
variable{X:Cx}{K:PySem.W.Frag}{a b:Expr}{es:List Expr}{fa fb:FE}{fs:FA}{pos p p2 p3:Pos}{lo hi:Option Expr}
def pb:En→Rv→Option Rv:=fun _ x=>(ck x).map fun i=>.d (.int (-i))
theorem BA:yH K (rU fun i=>.int (-i)) pb:=by
  intro σ H0 F H e x z v Q R A hg q
  obtain⟨i,h5,h4⟩:=Option.map_eq_some_iff.mp hg
  cases h4
  exact⟨i,bQ A h5,q F H _ (cP.refl _ _ _ _) R i3⟩
theorem qp(ha:PE X a (fE K fa)):PE X (.UnaryOp .USub a pos) (fE K (kU pb fa)):=BV Ax BA ha
theorem aO(hK:X.K=K)(ha:PE X a (fE K fa))(hb:PE X b (fE K fb)):PE X (.BinOp a .Add b pos) (fE K (aw aY fa fb)):=lY (hK ▸ wG) AX ha hb
theorem qr(ha:PE X a (fE K fa))(hb:PE X b (fE K fb)):PE X (.BinOp a .Sub b pos) (fE K (aw gX fa fb)):=lY zC Cd ha hb
theorem lW(hK:X.K=K)(ha:PE X a (fE K fa))(hb:PE X b (fE K fb)):PE X (.BinOp a .Mult b pos) (fE K (aw ke fa fb)):=lY (hK ▸ wL) Bz ha hb
theorem et(ha:PE X a (fE K fa))(hb:PE X b (fE K fb)):PE X (.BinOp a .FloorDiv b pos) (fE K (aw cC fa fb)):=lY ur yO ha hb
theorem aM(ha:PE X a (fE K fa))(hb:PE X b (fE K fb)):PE X (.BinOp a .Mod b pos) (fE K (aw aN fa fb)):=lY wK By ha hb
theorem uJ(ha:PE X a (fE K fa))(hb:PE X b (fE K fb)):PE X (.BinOp a .Pow b pos) (fE K (aw mM fa fb)):=lY zA BP ha hb
theorem dj(hK:X.K=K)(ha:PE X a (fE K fa))(hb:PE X b (fE K fb))(hs:mj b):PE X (.Subscript a b pos) (fE K (aw fJ fa fb)):=BS (hK ▸ Dg) Dh ha hb hs
theorem bU{fl fh:FO}(hK:X.K=K)(he:PE X a (fE K fa))(hl:PO X lo (fO K fl))(hh:PO X hi (fO K fh)):PE X (.Subscript a (.Slice lo hi none p2) pos) (fE K (nq fa fl fh)):=by subst hK;exact uP he hl hh
structure gN (X:Cx) (K:PySem.W.Frag) (op:CmpOp) (g:En→Rv→Rv→Option Rv):Prop where
  ex:∃r,dy X (compareOp op) r∧dC K r g
theorem sI:gN X K .Lt tG:=⟨_,BH,Dl⟩
theorem yJ:gN X K .LtE AF:=⟨_,BG,Dj⟩
theorem A9:gN X K .Gt yP:=⟨_,BF,Da⟩
theorem A8:gN X K .GtE Bg:=⟨_,BE,C'⟩
theorem mr{k:Nat}(hK:X.K=K)(hr:cN k X.A):gN X K .Eq (cB false):=⟨_,hK ▸ zu hr,ya⟩
theorem yK{k:Nat}(hK:X.K=K)(hr:cN k X.A):gN X K .NotEq (cB true):=⟨_,hK ▸ zz hr,ya⟩
theorem p4{k:Nat}(hK:X.K=K)(hr:cN k X.A):gN X K .NotIn (s_ true):=⟨_,hK ▸ rL hr,Dd⟩
theorem A_:gN X K .Is Bh:=⟨_,zv,Df⟩
theorem p0:gN X K .IsNot j_:=⟨_,rJ,vZ⟩
theorem jq{op:CmpOp}{g:En→Rv→Rv→Option Rv}(h:gN X K op g)(ha:PE X a (fE K fa))(hb:PE X b (fE K fb))(hm:behindInMarks op b=false):PE X (.Compare a [op] [b] pos) (fE K (aw g fa fb)):=by
  obtain⟨r,h1,h2⟩:=h.ex;exact zX h1 h2 ha hb hm
theorem bL{op:CmpOp}{g:En→Rv→Rv→Option Rv}(h:gN X K op g)(ha:PE X a (fE K fa))(hb:PE X b (fE K fb))(hm:behindInMarks op b=false):PT X (.Compare a [op] [b] pos) (fT K (aU (aw g fa fb))):=by
  obtain⟨r,h1,h2⟩:=h.ex;exact z4 h1 h2 ha hb hm
theorem xq{op op':CmpOp}{g g':En→Rv→Rv→Option Rv}{c:Expr}{fc:FE}(h:gN X K op g)(h':gN X K op' g')(ha:PE X a (fE K fa))(hb:PE X b (fE K fb))(hc:PE X c (fE K fc))(hm:lastMarks [op,op'] [b,c]=false):PE X (.Compare a [op,op'] [b,c] pos) (fE K (cK g g' fa fb fc)):=by
  obtain⟨r,h1,h2⟩:=h.ex;obtain⟨r',h3,h4⟩:=h'.ex;exact uM h1 h2 h3 h4 ha hb hc hm
theorem uK{op op':CmpOp}{g g':En→Rv→Rv→Option Rv}{c:Expr}{fc:FE}(h:gN X K op g)(h':gN X K op' g')(ha:PE X a (fE K fa))(hb:PE X b (fE K fb))(hc:PE X c (fE K fc))(hm:lastMarks [op,op'] [b,c]=false):PT X (.Compare a [op,op'] [b,c] pos) (fT K (aU (cK g g' fa fb fc))):=by
  obtain⟨r,h1,h2⟩:=h.ex;obtain⟨r',h3,h4⟩:=h'.ex;exact uQ h1 h2 h3 h4 ha hb hc hm
structure jQ (X:Cx) (K:PySem.W.Frag) (x:Str) (g:En→List Rv→Option Rv):Prop where
  ex:(∃id r,bO X (.builtin id) r∧c9 K r g∧bootBuiltins x=some (.builtin id))∨∃T r,bO X (.type T) r∧c9 K r g∧bootBuiltins x=some (.type T)
theorem aS{x:Str}{g:En→List Rv→Option Rv}(h:jQ X K x g)(hg:Gl X x)(hm:X.mg x=none)(ha:PA X (a::es) (fA K fs))(hn:x≠"__name__")(hdb:(x==("__debug__":Str))=false)
    (he:starEach (a::es) X.env=(false,eval a X.env)::starEach es X.env)(hpl:(backTo pos (starEach es X.env)).any (·.1)=false):PE X (.Call (.Name x p) (a::es) [] pos) (fE K (aH g fs)):=by
  rcases h.ex with ⟨id,r,h1,h2,h3⟩ | ⟨T,r,h1,h2,h3⟩
  · exact uL h1 h2 hg hm h3 ha hn hdb he hpl
  · exact rQ h1 h2 hg hm h3 ha hn hdb he hpl
theorem b_len(hK:X.K=K):jQ X K "len" (g1 en):=⟨.inl ⟨_,_,hK ▸ mw,Br,PySem.boot_len⟩⟩
theorem b_abs:jQ X K "abs" (g1 rc):=⟨.inl ⟨_,_,sJ,AW,PyProof.Rows.boot_abs⟩⟩
theorem b_min(hc:X.calm=true):jQ X K "min" (g2 tH):=⟨.inl ⟨_,_,qR hc,Bx,PyProof.Rows.boot_min⟩⟩
theorem b_max(hc:X.calm=true):jQ X K "max" (g2 o_):=⟨.inl ⟨_,_,qQ hc,Bw,PyProof.Rows.boot_max⟩⟩
theorem b_int:jQ X K "int" (g1 nU):=⟨.inr ⟨_,_,qO,Bk,PyProof.Rows.boot_int⟩⟩
theorem b_tuple(hK:X.K=K):jQ X K "tuple" (g1 cf):=⟨.inr ⟨_,_,hK ▸ lc,xM,PyProof.Rows.boot_tuple⟩⟩
theorem b_list(hK:X.K=K):jQ X K "list" (g1 gH):=⟨.inr ⟨_,_,hK ▸ mx,zc,PyProof.Rows.boot_list⟩⟩
theorem b_sorted(hK:X.K=K):jQ X K "sorted" (g1 pd):=⟨.inl ⟨_,_,hK ▸ o5,xD,PyProof.Rows.boot_sorted⟩⟩
theorem b_repr{k:Nat}(hK:X.K=K)(hr:cN k X.A):jQ X K "repr" (g1 jn):=⟨.inl ⟨_,_,hK ▸ oZ hr,Ab,PyProof.Rows.boot_repr⟩⟩
def jP(fs:FA):FE:=fun e=>(fs e).bind fun p=>match p.1 with
  | [r]=>(ck r).bind fun j=>if 0≤j∧j≤100000 then some (.l ((iA j.toNat).map .int),p.2) else none
  | _=>none
theorem oC(hc:X.calm=true)(hgl:Gl X "list")(hml:X.mg "list"=none)(hg:Gl X "range")(hm:X.mg "range"=none)(ha:PA X [a] (fA K fs))(hs:starEach [a] X.env=[(false,eval a X.env)])
    (he:starEach [.Call (.Name "range" p2) [a] [] p3] X.env=[(false,eval (.Call (.Name "range" p2) [a] [] p3) X.env)]):PE X (.Call (.Name "list" p) [.Call (.Name "range" p2) [a] [] p3] [] pos) (fE K (jP fs)):=(mY hc hgl hml hg hm ha hs he).mono fun σ H Q h=>by
  obtain⟨F,e,z,e',R,hf,q⟩:=h
  unfold jP at hf
  obtain⟨⟨rs,e1⟩,h1,hf⟩:=Option.bind_eq_some_iff.mp hf
  match rs,h1,hf with
  | [r],h1,hf=>
  obtain⟨j,h2,hf⟩:=Option.bind_eq_some_iff.mp hf
  split at hf
  case isFalse=>cases hf
  case isTrue hj=>
  cases hf
  refine⟨F,e,_,e1,R,h1,fun F1 H1 vs X1 R1 A1=>?_⟩
  obtain⟨v,rfl,A2⟩:=jM A1
  refine⟨j,by rw [bQ A2 h2],hj.1,hj.2,fun t ht=>?_⟩
  obtain⟨R3,X3,hF,no⟩:=R1.newL (vs:=(iA j.toNat).map V.int) ht
  exact q _ _ _ (X1.trans X3) R3 ⟨t,_,rfl,X1.dom _ ht,hF,am,aA.ints.mpr rfl,no⟩
abbrev gu:FT:=fun e=>some (true,e)
theorem si.mono{ifs:List Expr}{t t':TT}(h:si X ifs t)(m:∀σ H Q,t' σ H Q→t σ H Q):si X ifs t':=fun pins s σ H Q I q=>h pins s σ H Q I (m σ H Q q)
theorem m5:si X [] (fT K gu):=xm.mono fun σ H Q h=>by
  obtain⟨F,e,b,e',R,hf,q⟩:=h
  cases hf
  exact q F H (cP.refl _ _ _ _) R
theorem zW{elt iter tg:Expr}{ifs:List Expr}{scope:Scope}{fi:FI}{g:FG}{ft:FT}{fe:FE}{W:List Nat}(sc0:Scope)(N0:List Str)(cp:List (Nat × Str))(tgN:List Str)
    (hc:X.calm=true)(hsc:X.env.scope=sc0)(hN0:X.N=N0)(hi:PI X tg iter (fI K fi))
    (hg:∀C s0 H0 fp,PG (av X scope cp tgN C s0 H0 fp) tg (fG K g W))
    (ht:∀C s0 H0 fp,si (av X scope cp tgN C s0 H0 fp) ifs (fT K ft))
    (he:∀C s0 H0 fp,PE (av X scope cp tgN C s0 H0 fp) elt (fE K fe))
    (hk:scope.kind=.function)(hcell:∀y∈scope.names,y.2≠.cell)(hnames:∀y∈scope.names,y.2=.local→scope.names.lookup y.1=some .local)
    (hfr:∀y∈scope.names,y.2=.free→scope.names.lookup y.1=some .free∧sc0.names.lookup y.1=some .cell)
    (hcp:∀p∈cp,N0[p.1]?=some p.2)(hcq:∀p∈cp,sc0.names.lookup p.2=some .cell∧scope.names.lookup p.2=some .free)(hnd:(cp.map (·.1)).Nodup)(hW:∀j∈W,cp.length≤j)
    (hs:∀x,foldedSetIterable iter X.env x=pure x):
    PE X (.ListComp elt [⟨tg,iter,ifs,0⟩] scope pos) (fE K (kS cp tgN.length fi g ft fe)):=(wV sc0 N0 cp tgN hc hsc hN0 hi hg ht he hk hcell hnames hfr hcp hcq hs).mono fun _ _ _ h=>vy hnd hW h
variable{o:Expr}{fo:FE}{apos cpos:Pos}
theorem di(hK:X.K=K)(ho:PE X o (fE K fo))(ha:PA X (a::es) (fA K fs))(hbase:attributeBase o "append" X.env (eval o X.env)=eval o X.env)
    (hfew:((backTo cpos (starEach (a::es) X.env)).all (fun x=> !x.1)&&(backToKw cpos (keywordEach [] X.env)).all (fun x=>x.1.isSome)
      &&decide ((a::es).length+([]:List Keyword).length+(if ([]:List Keyword).isEmpty then 0 else 1) < 30))=true)
    (hline:(apos.endLine==cpos.line)=true)(hs:starEach (a::es) X.env=(false,eval a X.env)::starEach es X.env)(hplain:(backTo cpos (starEach es X.env)).any (·.1)=false):
    PE X (.Call (.Attribute o "append" apos) (a::es) [] cpos) (fE K (dq bT fo fs)):=by
  subst hK;exact yw PySem.F.slot_list_append PySem.F.type_list_append iS sr ho ha hbase hfew hline hs hplain
theorem qq(hK:X.K=K)(ho:PE X o (fE K fo))(ha:PA X (a::es) (fA K fs))(hbase:attributeBase o "pop" X.env (eval o X.env)=eval o X.env)
    (hfew:((backTo cpos (starEach (a::es) X.env)).all (fun x=> !x.1)&&(backToKw cpos (keywordEach [] X.env)).all (fun x=>x.1.isSome)
      &&decide ((a::es).length+([]:List Keyword).length+(if ([]:List Keyword).isEmpty then 0 else 1) < 30))=true)
    (hline:(apos.endLine==cpos.line)=true)(hs:starEach (a::es) X.env=(false,eval a X.env)::starEach es X.env)(hplain:(backTo cpos (starEach es X.env)).any (·.1)=false):
    PE X (.Call (.Attribute o "pop" apos) (a::es) [] cpos) (fE K (dq gY fo fs)):=by
  subst hK;exact yw PySem.F.slot_list_pop PySem.F.type_list_pop ue xf ho ha hbase hfew hline hs hplain
end
end L2
namespace L2
open PySem PySem.Spec PyProof.Rows
theorem pL{K:PySem.W.Frag}{H:Hp}{a:Addr}{ns:List Int}{m:FM}{as':List Sv}{Q:VK}{E:XK}(hS:fy K H a (ns.map V.int))(hm:m [.d (.list (ns.map .int))]=some (.d (.bool true),as'))(q:∀H',Q (.bl true) H'):cO K 1 m [.ref a] H Q E:=by
  refine⟨rfl,H,[.d (.list (ns.map .int))],_,as',?_,?_,hm,trivial,fun F' H' v X' R' A'=>?_⟩
  · refine⟨aq.refl _,rfl,fun i x h=>?_,fun i xs h=>?_,fun i xss h=>?_,fun i j l f1 _=>?_⟩
    · match i,h with
      | 0,h=>
        simp at h;subst h
        exact⟨.ref a,rfl,cQ.mpr ⟨a,_,rfl,hS,aA.ints.mpr rfl⟩⟩
      | i+1,h=>simp at h
    · match i,h with
      | 0,h=>simp at h
      | i+1,h=>simp at h
    · match i,h with
      | 0,h=>simp at h
      | i+1,h=>simp at h
    · rcases f1 with ⟨_,h,_⟩ | ⟨_,_,_,h,_⟩
      · match i,h with
        | 0,h=>simp at h
        | i+1,h=>simp at h
      · match i,h with
        | 0,h=>simp at h
        | i+1,h=>simp at h
  · intro i xss h
    match i,h with
    | 0,h=>simp at h
    | i+1,h=>simp at h
  · rw [cy.mp (show DA K F' (.bool true) v from A')];exact q H'
end L2
namespace L2
open PySem PySem.Spec PyProof.Rows
section
variable{K:PySem.W.Frag}{σ:L2.St}{H0 F H F' H':Hp}{e e':En}
end
section
variable{X:Cx}{K:PySem.W.Frag}{a b:Expr}{es:List Expr}{fa fb:FE}{fs:FA}{pos p p2 p3 pos':Pos}{x:Str}{i:Nat}
def nC(k:Int):En→Option Int:=fun _=>some k
end
end L2
namespace L2
open PySem PySem.Spec PyProof.Rows
theorem iN{C:Int→Int→Bool}{f:Int→Int→PyData}{e:En}{i j:Int}(h:C i j=true):gI C f e (.d (.int i)) (.d (.int j))=some (.d (f i j)):=by simp [gI,ck,h]
theorem bF{e:En}{i j:Int}:aY e (.d (.int i)) (.d (.int j))=some (.d (.int (i+j))):=rfl
theorem kc{e:En}{i j:Int}:gX e (.d (.int i)) (.d (.int j))=some (.d (.int (i - j))):=rfl
theorem kf{e:En}{i j:Int}(h:iT i j=true):ke e (.d (.int i)) (.d (.int j))=some (.d (.int (i*j))):=by
  unfold ke tK tI;rw [iN h];rfl
theorem uf{i j:Int}(h1: -(2 ^ 64) < i)(h2:i < 2 ^ 64):iT i j=true:=by
  have:fw i=true:=by unfold fw;rw [decide_eq_true h1,decide_eq_true h2];rfl
  unfold iT;rw [this];simp
theorem mV{i j:Int}(h1: -(2 ^ 64) < j)(h2:j < 2 ^ 64):iT i j=true:=by
  have:fw j=true:=by unfold fw;rw [decide_eq_true h1,decide_eq_true h2];rfl
  unfold iT;rw [this];simp
theorem az{e:En}{i j:Int}(h:0 < j):aN e (.d (.int i)) (.d (.int j))=some (.d (.int (i % j))):=by
  unfold aN;rw [iN (by simp;lia)]
  rw [Int.fmod_eq_emod_of_nonneg i (by lia)]
theorem cj{e:En}{i j:Int}(h:0 < j)(h2:Bt 8000 j):cC e (.d (.int i)) (.d (.int j))=some (.d (.int (i / j))):=by
  unfold cC;rw [iN (by simp [h_.mpr h2];lia)]
  rw [Int.fdiv_eq_ediv_of_nonneg i (by lia)]
theorem ii{e:En}{i j:Int}{neg:Bool}:cB neg e (.d (.int i)) (.d (.int j))=some (.d (.bool (if neg then !(i==j) else i==j))):=by
  unfold cB;simp [fB,SeqAt.shaped,PyData.canLay0,PyData.depth,PyData.eqv]
theorem qd{e:En}{i j:Int}:tG e (.d (.int i)) (.d (.int j))=some (.d (.bool (decide (i < j)))):=rfl
theorem qb{e:En}{i j:Int}:AF e (.d (.int i)) (.d (.int j))=some (.d (.bool (decide (i≤j)))):=rfl
theorem p_{e:En}{i j:Int}:yP e (.d (.int i)) (.d (.int j))=some (.d (.bool (decide (j < i)))):=rfl
theorem p9{e:En}{i j:Int}:Bg e (.d (.int i)) (.d (.int j))=some (.d (.bool (decide (j≤i)))):=rfl
theorem nW{e:En}{i j:Int}:g2 tH e [.d (.int i),.d (.int j)]=some (.d (.int (min i j))):=by
  show some (Rv.d (.int (if j < i then j else i)))=_
  congr 3
  split<;>lia
theorem nV{e:En}{i j:Int}:g2 o_ e [.d (.int i),.d (.int j)]=some (.d (.int (max i j))):=by
  show some (Rv.d (.int (if j > i then j else i)))=_
  congr 3
  split<;>lia
theorem nX{e:En}{i:Int}:pb e (.d (.int i))=some (.d (.int (-i))):=rfl
theorem lM{e:En}{b:Bool}:g1 nU e [.d (.bool b)]=some (.d (.int (if b then 1 else 0))):=rfl
theorem nQ{e:En}{i:Int}:g1 rc e [.d (.int i)]=some (.d (.int i.natAbs)):=by
  show some (Rv.d (.int (if i < 0 then -i else i)))=_
  congr 3
  split<;>lia
theorem fN{j:Int}(h1:0 < j)(h2:j < 2 ^ 64):Bt 8000 j:=Bt.mono (m:=64) (by unfold Bt;lia) (by decide)
theorem gQ{α:Type}{xs:List α}{i:Int}(h0:0≤i)(h:i < xs.length):atI xs i=xs[i.toNat]?:=by
  unfold atI Bp
  rw [if_pos h0,if_pos h];rfl
theorem nS{e:En}{i:Nat}{xs:List PyData}{neg:Bool}(h:e[i]?=some (some (.l xs)))(hs:SeqAt.shaped (.list xs)=true):cB neg e (.s i) (.l [])=some (.d (.bool (if neg then !xs.isEmpty else xs.isEmpty))):=by
  unfold cB
  simp only [fB,h,Option.bind_some,hs]
  have h0:SeqAt.shaped (.list [])=true:=by simp [SeqAt.shaped,PyData.canLay0,PyData.canLayAll0,PyData.depth,PyData.depthAll]
  rw [h0]
  cases xs<;>simp [PyData.eqv,PyData.eqvAll]
theorem jt(ns:List Int):SeqAt.shaped (.list (ns.map .int))=true∧SeqAt.shaped (.tuple (ns.map .int))=true:=by
  have h1:PyData.canLayAll0 (ns.map PyData.int)=true:=by
    induction ns with
    | nil=>rfl
    | cons n r ih=>simp [PyData.canLayAll0,PyData.canLay0,ih]
  have h2:PyData.depthAll (ns.map PyData.int)=0:=by
    clear h1
    induction ns with
    | nil=>rfl
    | cons n r ih=>simp [PyData.depthAll,PyData.depth,ih]
  constructor<;>simp [SeqAt.shaped,PyData.canLay0,PyData.depth,h1,h2]
theorem b6{own:gO}{g:FG}{f:FS}(P:Nat→En→Prop):∀(items:List PyData) (k:Nat) (e:En),(∀i x e,items[i]?=some x→P (k+i) e→∃e1 e2,g x e=some e1∧f e1=some (.nx e2)∧keeps own e2∧P (k+i+1) e2)→P k e→∃e',gW own g f items e=some (.nx e')∧P (k+items.length) e'
  | [],k,e,_,h=>⟨e,rfl,h⟩
  | x::r,k,e,hs,h=>by
    obtain⟨e1,e2,h1,h2,h3,h4⟩:=hs 0 x e rfl h
    obtain⟨e',h5,h6⟩:=b6 P r (k+1) e2 (fun i y e hy hp=>by
      have:=hs (i+1) y e (by simpa using hy) (by rw [show k+(i+1)=k+1+i by lia];exact hp)
      rw [show k+(i+1)+1=k+1+i+1 by lia] at this
      exact this) h4
    refine⟨e',?_,by rw [List.length_cons,show k+(r.length+1)=k+1+r.length by lia];exact h6⟩
    unfold gW
    simp only [h1,h2,Option.bind_some,if_pos h3]
    exact h5
theorem bg{e:En}:keeps [] e:=fun _ h=>by cases h
theorem cZ{W:List Nat}{fi:FI}{g:FG}{f:FS}{e e1:En}{items:List PyData}(h:fi e=some (items,[],e1)):cI W fi g f e=gW [] g f items e1:=by
  unfold cI;rw [h];rfl
theorem cU{lo:Int}{n i:Nat}{x:PyData}(h:(bx lo n)[i]?=some x):x=.int (lo+i)∧i < n:=by
  unfold bx at h
  rw [List.getElem?_map] at h
  obtain⟨k,h1,rfl⟩:=Option.map_eq_some_iff.mp h
  obtain⟨h2,h3⟩:=List.getElem?_eq_some_iff.mp h1
  simp at h2 h3
  subst h3
  exact⟨rfl,h2⟩
theorem hE{lo:Int}{n:Nat}:(bx lo n).length=n:=by simp [bx]
theorem eW{fs:FA}{e e1:En}{n:Int}(h:fs e=some ([.d (.int n)],e1))(h1: -1000000≤n)(h2:n≤1000000):cY fs e=some (bx 0 n.toNat,[],e1):=by
  unfold cY;rw [h]
  have:uY n=true:=by unfold uY;rw [decide_eq_true h1,decide_eq_true h2];rfl
  simp [ck,this]
theorem hV{ft:FT}{f:FS}(P:En→Prop)(μ:En→Nat)(hs:∀e,P e→(∃e1,ft e=some (false,e1)∧True)∨∃e1 e2,ft e=some (true,e1)∧f e1=some (.nx e2)∧P e2∧μ e2 < μ e):
    ∀(n:Nat) (e:En),P e→μ e < n→∃e0 e',fx ft f n e=some (.nx e')∧P e0∧ft e0=some (false,e'):=by
  intro n
  induction n with
  | zero=>intro e _ h;lia
  | succ n ih=>
    intro e hp hm
    rcases hs e hp with ⟨e1,h1,_⟩ | ⟨e1,e2,h1,h2,h3,h4⟩
    · exact⟨e,e1,by unfold fx;rw [h1];rfl,hp,h1⟩
    · obtain⟨e0,e',g1,g2⟩:=ih e2 h3 (by lia)
      exact⟨e0,e',by unfold fx;rw [h1];simp only [Option.bind_some,if_true,h2];exact g1,g2⟩
theorem iL{cs:En}{ft:FT}{fe:FE}{b:PyData→Bool}{y:PyData→PyData}:∀(items:List PyData) (t:Option Sv) (acc:List PyData),(∀x∈items,ft (cs++[some (.d x)])=some (b x,cs++[some (.d x)]))→(∀x∈items,b x=true→fe (cs++[some (.d x)])=some (.d (y x),cs++[some (.d x)]))→
    acc.length+items.length≤1000000→∃t',dU (ao cs.length) ft fe items (cs++[t]) acc=some (acc++(items.filter b).map y,cs++[t'])
  | [],t,acc,_,_,_=>⟨t,by simp [dU]⟩
  | x::r,t,acc,h1,h2,hl=>by
    have hg:ao cs.length x (cs++[t])=some (cs++[some (.d x)]):=by simp [ao]
    have h1x:=h1 x (by simp)
    unfold dU
    rw [hg]
    simp only [Option.bind_some,h1x]
    cases hb:b x with
    | true=>
      simp only [if_true,h2 x (by simp) hb,Option.bind_some,qW]
      rw [if_pos (by simp at hl;lia)]
      obtain⟨t',ih⟩:=iL (b:=b) (y:=y) r (some (.d x)) (acc++[y x]) (fun z hz=>h1 z (by simp [hz])) (fun z hz=>h2 z (by simp [hz])) (by simp at hl ⊢;lia)
      exact⟨t',by rw [ih];simp [hb]⟩
    | false=>
      simp only [Bool.false_eq_true,if_false]
      obtain⟨t',ih⟩:=iL (b:=b) (y:=y) r (some (.d x)) acc (fun z hz=>h1 z (by simp [hz])) (fun z hz=>h2 z (by simp [hz])) (by simp at hl;lia)
      exact⟨t',by rw [ih];simp [hb]⟩
theorem mQ{fa:FE}{e e1:En}{xs:List PyData}(h:fa e=some (.d (.tuple xs),e1)):io fa e=some (xs,[],e1):=by
  unfold io;rw [h];rfl
theorem yW{fa:FE}{e e1:En}{xs:List PyData}(h:fa e=some (.l xs,e1)):io fa e=some (xs,[],e1):=by
  unfold io;rw [h];rfl
theorem oR{cp:List (Nat × Str)}{nT:Nat}{fi:FI}{g:FG}{ft:FT}{fe:FE}{e e1 cs:En}{t t':En}{items out:List PyData}(h1:fi e=some (items,[],e1))(hc:jK cp nT e1=cs++t)(hl:cs.length=cp.length)(h3:dU g ft fe items (jK cp nT e1) []=some (out,cs++t')):kS cp nT fi g ft fe e=some (.l out,e1):=by
  have key:∀i x,e1[i]?=some (some (.l x))→∀k,iX cp i=some k→(cs++t')[k]?=some (some (.l x)):=by
    intro i x hi k hk
    obtain⟨s,hs⟩:=cT hk
    have hk2:k < cp.length:=(List.getElem?_eq_some_iff.mp hs).1
    have:(jK cp nT e1)[k]?=some (some (.l x)):=by
      unfold jK
      rw [List.getElem?_append_left (by simpa using hk2),List.getElem?_map,hs]
      simp [hi,Bs]
    rw [hc,List.getElem?_append_left (by lia)] at this
    rw [List.getElem?_append_left (by lia)]
    exact this
  unfold kS
  rw [h1]
  simp only [Option.bind_some,List.all_nil,if_true,h3]
  have hb:iK cp (cs++t') e1=true:=by
    unfold iK
    rw [List.all_eq_true]
    intro p hp
    match hi:e1[p.1]? with
    | none=>simp [tU]
    | some none=>simp [tU]
    | some (some (.d x))=>simp [tU]
    | some (some (.n x))=>simp [tU]
    | some (some (.l x))=>
      cases hq:iX cp p.1 with
      | none=>
        unfold iX at hq
        rw [List.findIdx?_eq_none_iff] at hq
        have:=hq p hp
        simp at this
      | some k=>simp [key p.1 x hi k hq,tU]
  rw [if_pos hb]
  congr 2
  refine List.ext_getElem? fun i=>?_
  rw [bH]
  match hi:e1[i]? with
  | none=>rfl
  | some none=>rfl
  | some (some (.d x))=>rfl
  | some (some (.n x))=>rfl
  | some (some (.l x))=>
    cases hp:iX cp i with
    | none=>simp [hp]
    | some k=>simp [hp,key i x hi k hp]
theorem gP{α:Type}{xs:List α}{i:Int}(h0:0≤i)(h1:i < xs.length):∃x∈xs,atI xs i=some x:=by
  rw [gQ h0 h1]
  exact⟨xs[i.toNat]'(by lia),List.getElem_mem _,List.getElem?_eq_getElem _⟩
theorem yl{e:En}{xs:List PyData}{i:Int}:fJ e (.l xs) (.d (.int i))=(atI xs i).map .d:=rfl
theorem tj{e:En}{xs:List PyData}{i:Int}:fJ e (.d (.tuple xs)) (.d (.int i))=(atI xs i).map .d:=rfl
theorem ti{e:En}{xs:List PyData}{i:Int}:fJ e (.d (.list xs)) (.d (.int i))=(atI xs i).map .d:=rfl
theorem ym{e:En}{j:Nat}{xs:List PyData}{i:Int}(h:e[j]?=some (some (.l xs))):fJ e (.s j) (.d (.int i))=(atI xs i).map .d:=by
  simp [fJ,cJ,h,ck]
theorem tF{e:En}{xs:List PyData}:g1 en e [.d (.tuple xs)]=some (.d (.int xs.length)):=rfl
theorem qc{e:En}{xs:List PyData}:g1 en e [.d (.list xs)]=some (.d (.int xs.length)):=rfl
theorem tu{e:En}{xs:List PyData}:g1 en e [.l xs]=some (.d (.int xs.length)):=rfl
theorem tD{e:En}{j:Nat}{xs:List PyData}(h:e[j]?=some (some (.l xs))):g1 en e [.s j]=some (.d (.int xs.length)):=by
  simp [g1,en,cJ,h]
theorem nZ{e:En}{j:Nat}{xs:List PyData}(h:e[j]?=some (some (.l xs))):g1 cf e [.s j]=some (.d (.tuple xs)):=by
  simp [g1,cf,cJ,h]
theorem nY{e:En}{xs:List PyData}:g1 cf e [.l xs]=some (.d (.tuple xs)):=rfl
theorem lO{e:En}{xs:List PyData}:g1 cf e [.d (.list xs)]=some (.d (.tuple xs)):=rfl
theorem n5{e:En}{xs:List PyData}:g1 cf e [.d (.tuple xs)]=some (.d (.tuple xs)):=rfl
theorem yn{e:En}{xs:List PyData}{lo hi:Option Int}:C_ e (.d (.tuple xs)) lo hi=some (.d (.tuple (cutD xs lo hi))):=rfl
theorem j9{e:En}{xs ys:List PyData}(h:xs.length+ys.length≤1000000):aY e (.d (.tuple xs)) (.d (.tuple ys))=some (.d (.tuple (xs++ys))):=by
  simp [aY,tK,sY,gI,ck,nR,cJ,h]
theorem yR{e:En}{i j:Int}(h:j≠0):aN e (.d (.int i)) (.d (.int j))=some (.d (.int (i.fmod j))):=by
  unfold aN;rw [iN (by simpa using h)]
theorem vX{e:En}{i j:Int}(h:j≠0)(h2:Bt 8000 j):cC e (.d (.int i)) (.d (.int j))=some (.d (.int (i.fdiv j))):=by
  unfold cC;rw [iN (by simp [h_.mpr h2,h])]
theorem fU{e:En}{i j:Int}(h:uD i j=true):mM e (.d (.int i)) (.d (.int j))=some (.d (.int (i ^ j.toNat))):=by
  unfold mM;rw [iN h]
theorem iy:uD 10 18=true:=by decide
theorem bu{f g:FS}{e e1:En}(h:f e=some (.nx e1)):aE f g e=g e1:=by unfold aE;rw [h];rfl
theorem B'{ft:FT}{f g:FS}{e e1:En}(h:ft e=some (true,e1)):jr ft f g e=f e1:=by unfold jr;rw [h];rfl
theorem B_{ft:FT}{f g:FS}{e e1:En}(h:ft e=some (false,e1)):jr ft f g e=g e1:=by unfold jr;rw [h];rfl
def yp(i:Nat)(e:En):Nat:=match e[i]? with
  | some (some (.l xs))=>xs.length
  | _=>0
def ug(i:Nat)(e:En):Nat:=match e[i]? with
  | some (some (.d (.int k)))=>k.natAbs
  | _=>0
theorem qk{n m:Nat}(h:n < 2 ^ m)(hm:m≤4200):n < 2 ^ 4200:=Nat.lt_of_lt_of_le h (Nat.pow_le_pow_right (by decide) hm)
theorem su{α:Type}{a:α}{r:List α}:atI (a::r) 0=some a:=by
  rw [gQ (by decide) (by simp)];rfl
theorem oW{α:Type}{a b:α}{r:List α}:atI (a::b::r) 1=some b:=by
  rw [gQ (by decide) (by simp;lia)];rfl
theorem sv{α:Type}{a b c:α}{r:List α}:atI (a::b::c::r) 2=some c:=by
  rw [gQ (by decide) (by simp;lia)];rfl
theorem sx{α:Type}{a b c d:α}{r:List α}:atI (a::b::c::d::r) 3=some d:=by
  rw [gQ (by decide) (by simp;lia)];rfl
theorem hZ{W:bE}{k:Int}(h:jR W k):atI (W.ties.map cx) k=some (cx (W.tie k)):=by
  rw [gQ h.1 (by rw [List.length_map];exact h.2),List.getElem?_map,h.get];rfl
theorem x9{a b c d:PyData}:cutD [a,b,c,d] none (some 2)=[a,b]:=rfl
theorem lF{a b c d:PyData}:cutD [a,b,c,d] (some 2) none=[c,d]:=rfl
theorem lE{a b c:PyData}:cutD [a,b,c] (some 1) none=[b,c]:=rfl
theorem nB(ns:List Int):PyData.canLayAll0 (ns.map PyData.int)=true:=by
  induction ns with
  | nil=>rfl
  | cons n r ih=>simp [PyData.canLayAll0,PyData.canLay0,ih]
theorem nz{x:Int}:∀(ns:List Int),((ns.map PyData.int).any fun y=>PyData.eqv y (.int x))=ns.contains x
  | []=>rfl
  | n::r=>by
    rw [List.map_cons,List.any_cons,nz r,List.contains_cons]
    show(n==x || _)=_
    rw [show(n==x)=(x==n) by rw [Bool.eq_iff_iff];simp;exact eq_comm]
theorem ij{e:En}{x:Int}{ns:List Int}{neg:Bool}:s_ neg e (.d (.int x)) (.d (.tuple (ns.map .int)))=some (.d (.bool (if neg then !ns.contains x else ns.contains x))):=by
  unfold s_
  simp only [fB,cJ,Option.bind_some,nB,nz]
  simp [PyData.canLay0,PyData.depth]
theorem qa{e:En}{x a b:Int}{neg:Bool}:s_ neg e (.d (.int x)) (.d (.tuple [.int a,.int b]))=some (.d (.bool (if neg then !(a==x || b==x) else(a==x || b==x)))):=by
  have h:=ij (e:=e) (x:=x) (ns:=[a,b]) (neg:=neg)
  simp only [List.map_cons,List.map_nil] at h
  rw [h]
  have:[a,b].contains x=(a==x || b==x):=by
    simp only [List.contains_cons,List.contains_nil,Bool.or_false]
    rw [show(x==a)=(a==x) by rw [Bool.eq_iff_iff];simp;exact eq_comm,show(x==b)=(b==x) by rw [Bool.eq_iff_iff];simp;exact eq_comm]
  rw [this]
theorem nI(W:bE):ay W=.tuple [.int W.things,.tuple (W.ties.map cx),.tuple (W.pat.map .int),.int W.asks]:=rfl
end L2
namespace L2
open PySem PySem.Spec PyProof.Rows
def Sh(n:Nat)(d:PyData):Prop:=d.canLay0=true∧d.depth≤n
theorem Sh.ok{n:Nat}{d:PyData}(h:Sh n d)(l:n≤64):SeqAt.shaped d=true:=by
  unfold SeqAt.shaped;rw [h.1,decide_eq_true (Nat.le_trans h.2 l)];rfl
theorem Sh.int{k:Int}:Sh 2 (.int k):=⟨by simp [PyData.canLay0],by simp [PyData.depth]⟩
theorem Sh.all{n:Nat}:∀{ds:List PyData},(∀d∈ds,Sh n d)→PyData.canLayAll0 ds=true∧PyData.depthAll ds≤n
  | [],_=>⟨rfl,by simp [PyData.depthAll]⟩
  | d::r,h=>by
    obtain⟨a1,a2⟩:=h d (by simp)
    obtain⟨b1,b2⟩:=Sh.all (ds:=r) fun x hx=>h x (by simp [hx])
    exact⟨by simp [PyData.canLayAll0,a1,b1],by simp only [PyData.depthAll];lia⟩
theorem Sh.list{n:Nat}{ds:List PyData}(h:∀d∈ds,Sh n d):Sh (n+2) (.list ds):=by
  obtain⟨b1,b2⟩:=Sh.all h
  exact⟨by simp [PyData.canLay0,b1],by simp only [PyData.depth];lia⟩
theorem kD:∀(n:Nat) (l:List Int),l.Nodup→(∀k∈l,0≤k∧k < (n:Int))→l.length≤n
  | 0,l,_,h=>by
    cases l with
    | nil=>simp
    | cons a r=>have:=h a (by simp);lia
  | n+1,l,hd,h=>by
    have ih:=kD n (l.erase (n:Int)) (hd.erase _) fun k hk=>by
      obtain⟨h1,h2⟩:=hd.mem_erase_iff.mp hk
      have:=h k h2
      lia
    by_cases c:(n:Int)∈l
    · rw [List.length_erase_of_mem c] at ih;lia
    · rw [List.erase_of_not_mem c] at ih;lia
abbrev Std:=List Int × List Int
structure AS (W:bE) (s:Std):Prop where
  inw:∀k∈s.1,jR W k
  nd:s.1.Nodup
  tk:s.2.length≤2*s.1.length
  th:∀t∈s.2,0≤t∧t < W.things
def nxt(W:bE)(s:Std)(k:Int)(b:Bool):Std:=(bE.askd s.1 k,W.took s.2 k b)
structure Nd where
  tie:Int
  yes:Int
  no:Int
def AN(W:bE)(n:Nat)(S:Nat→Std)(i:Nat)(k:Int)(b:Bool)(l:Int):Prop:=l= -1∨(0≤l∧l < (n:Int)∧S l.toNat=nxt W (S i) k b)
structure CZ (W:bE) (n:Nat) (S:Nat→Std) (i:Nat) (x:Nd):Prop where
  tie:jR W x.tie
  st:AS W (S i)
  may:W.may (S i).1 (S i).2 x.tie=true
  yes:AN W n S i x.tie true x.yes
  no:AN W n S i x.tie false x.no
def C2(W:bE)(T:List Nd)(S:Nat→Std):Prop:=∀(i:Nat) (x:Nd),T[i]?=some x→CZ W T.length S i x
structure Wt where
  st:Std
  par:Int
  side:Int
structure D4 (W:bE) (T:List Nd) (S:Nat→Std) (ws:List Wt):Prop where
  tr:C2 W T S
  wt:∀w∈ws,AS W w.st∧(w.par= -1∨∃(p:Nat) (x:Nd),w.par=(p:Int)∧T[p]?=some x∧((w.side=0∧w.st=L2.nxt W (S p) x.tie true)∨(w.side=1∧w.st=L2.nxt W (S p) x.tie false)))
  side:∀w∈ws,w.side=0∨w.side=1
end L2
namespace L2
open PySem PySem.Spec PyProof.Rows
def nm(nums:List Int)(l:Int):Int:=(atI nums l).getD (-1)
structure DH (order:List Int) (n:Nat) (nums:List Int):Prop where
  len:nums.length=n+1
  top:nums[n]?=some (-1)
  at':∀(j:Nat) (v:Int),j < n→nums[j]?=some v→v= -1∨∃p:Nat,v=(p:Int)∧order[p]?=some (j:Int)
def uh(T:List Nd)(w:Int):Nd:=T.getD w.toNat ⟨0,0,0⟩
theorem lK{α β:Type}{f:α→β}:∀{xs:List α} {i:Nat},(xs.map f).eraseIdx i=(xs.eraseIdx i).map f
  | [],_=>by simp
  | x::r,0=>by simp
  | x::r,i+1=>by simp [lK (xs:=r) (i:=i)]
end L2
namespace L2
open PySem PySem.Spec PyProof.Rows
structure Ea (S:Nat→Std) (n:Nat) (ss:List Std):Prop where
  len:ss.length=n
  at':∀(j:Nat) (s:Std),ss[j]?=some s→s.1.length≤(S j).1.length∧s.2.length≤2*s.1.length∧(∀k∈s.1,0≤k∧k < 16)∧∀t∈s.2,0≤t∧t < 12
end L2
namespace L2
open PySem PySem.Spec PyProof.Rows
theorem bz(s:String):PyData.strOk (Str.ofString s)=true:=by
  rw [Str.ofString_eq_toList]
  unfold PyData.strOk
  simp only [List.size_toArray,List.length_map]
  rw [show(List.map Char.toNat s.toList).toArray.all (fun a=>decide (a < 1114112)) 0 s.toList.length=(List.map Char.toNat s.toList).all (fun a=>decide (a < 1114112)) by simp]
  rw [List.all_map,List.all_eq_true]
  intro c _
  show decide (c.toNat < 1114112)=true
  rw [decide_eq_true_eq]
  have:=c.valid
  unfold UInt32.isValidChar Nat.isValidChar at this
  show c.val.toNat < _
  lia
theorem cW{a b:Str}(h1:PyData.strOk a=true)(h2:PyData.strOk b=true):PyData.strOk (a++b)=true:=by
  unfold PyData.strOk at*
  rw [show(a++b).cps=a.cps++b.cps from rfl]
  simp only [Array.all_append,h1,h2,Bool.and_self]
theorem kP{sep:Str}(h:PyData.strOk sep=true):∀(ts:List Str),(∀t∈ts,PyData.strOk t=true)→PyData.strOk (Str.join sep ts)=true
  | [],_=>by show PyData.strOk Str.empty=true;simp [PyData.strOk,Str.empty]
  | [x],hx=>hx x (by simp)
  | x::y::r,hx=>cW (cW (hx x (by simp)) h) (kP h (y::r) fun t ht=>hx t (by simp at ht ⊢;exact .inr ht))
theorem mf{ts:List Str}(h:∀t∈ts,PyData.strOk t=true):PyData.strOk (tupleText ts)=true:=by
  unfold tupleText
  exact cW (cW (bz _) (kP (bz _) ts h)) (bz _)
structure Sz (n dep:Nat) (d:PyData):Prop where
  fl:eE d=true
  sh:d.showable=true
  dp:d.depth≤dep
  ln:d.shown.length≤n
  so:PyData.strOk d.shown=true
theorem vY{e:En}{d:PyData}(h:iD d=true):g1 jn e [.d d]=some (.d (.str d.shown)):=by
  simp [g1,jn,h]
end L2
namespace L2
open PySem PySem.Spec PyProof.Rows
theorem jJ{e:En}{i:Nat}{xs ys:List PyData}(h:e[i]?=some (some (.l xs)))(hl:xs.length+ys.length≤1000000):aY e (.s i) (.l ys)=some (.l (xs++ys)):=by
  simp [aY,tK,sY,gI,ck,nR,cJ,p8,rE,h,hl]
def rn(T:List Nd)(ans:List Bool):Nat→Int→List (Int × Bool)
  | 0,_=>[]
  | f+1,at'=>if at' < 0 then [] else((uh T at').tie,ans.getD (uh T at').tie.toNat false)::rn T ans f (if ans.getD (uh T at').tie.toNat false=true then(uh T at').yes else(uh T at').no)
def rt(T:List Nd):Int:=if T.length=0 then -1 else 0
structure DM (W:bE) (T:List Nd) (S:Nat→Std) (ans:List Bool) (r:List (Int × Bool)) (a:Int):Prop where
  at':a= -1∨(0≤a∧a < (T.length:Int)∧r.length≤(S a.toNat).1.length)
  eq:r++rn T ans (17 - r.length) a=rn T ans 17 (rt T)
  len:r.length≤16
  inw:∀p∈r,jR W p.1
theorem Sz.bool{b:Bool}:Sz 5 2 (.bool b):=by
  cases b
  · exact⟨rfl,rfl,by simp [PyData.depth],by show(Str.ofString "False").length≤5;decide,bz _⟩
  · exact⟨rfl,rfl,by simp [PyData.depth],by show(Str.ofString "True").length≤5;decide,bz _⟩
end L2
namespace L2
open PySem PySem.Spec PyProof.Rows
abbrev Fr:=Int × Int
def tm(a b:Fr):Fr:=du (a.1*b.1) (a.2*b.2)
def pl(a b:Fr):Fr:=du (a.1*b.2+b.1*a.2) (a.2*b.2)
structure D9 (M:Int) (f:Fr):Prop where
  pos:0 < f.2
  lo:0≤f.1
  hi:f.1≤f.2
  dv:f.2 ∣ M
structure CG (M i:Int) (f:Fr):Prop where
  pos:0 < f.2
  lo:0≤f.1
  hi:f.1≤i*f.2
  dv:f.2 ∣ M
def bp(W:bE):List Int→Int
  | []=>1
  | k::r=>(W.tie k).bot*bp W r
def A6(W:bE):Int:=bp W W.rng
def ch(W:bE)(k:Int)(b:Bool):Fr:=if b then((W.tie k).top,(W.tie k).bot) else((W.tie k).bot - (W.tie k).top,(W.tie k).bot)
structure D' (W:bE) (S:Nat→Std) (n:Nat) (rs:List Fr):Prop where
  len:rs.length=n
  at':∀(j:Nat) (f:Fr),rs[j]?=some f→D9 (bp W (S j).1) f
structure D5 (W:bE) (i:Nat) (ss:List Fr):Prop where
  len:ss.length=W.ties.length
  at':∀(j:Nat) (f:Fr),ss[j]?=some f→CG (A6 W) (i:Int) f
end L2
namespace L2
open PySem PySem.Spec PyProof.Rows
def AA(sc:Scope)(x:Str):Bool:=match sc.names.lookup x with
  | some .local=>true
  | some .cell=>true
  | some .free=>true
  | _=>false
theorem xT{sc:Scope}{x:Str}(h:AA sc x=true):AV sc x:=by
  unfold AA at h
  unfold AV
  split at h
  · rename_i e;exact .inl e
  · rename_i e;exact .inr (.inl e)
  · rename_i e;exact .inr (.inr e)
  · cases h
section
variable{X:Cx}{K:PySem.W.Frag}
theorem qw(i:Nat){x:Str}{pos:Pos}(hN:X.N[i]?=some x)(hv:AA X.env.scope x=true)(hd:((x==("__debug__":Str)) || (x==("__classdict__":Str)))=false):PE X (.Name x pos) (fE K (ae i)):=qv i hN (xT hv) (Bool.or_eq_false_iff.mp hd).1 (Bool.or_eq_false_iff.mp hd).2
end
end L2
namespace L2
open PySem PySem.Spec PyProof.Rows
section
variable{X:Cx}{tg a b c:Expr}{ta:TA}{p pos p2 pos2:Pos}
end
section
variable{K:PySem.W.Frag}{σ:L2.St}
end
section
variable{X:Cx}{K:PySem.W.Frag}{tg a b c:Expr}{fs:FA}{pos p p2 pos2:Pos}
end
end L2
namespace L2
open PySem PySem.Spec PyProof.Rows
end L2
namespace L2
open PySem PySem.Spec PyProof.Rows
section
variable(P:Program)(w:World)
end
section
variable{P:Program}{w:World}{H H':Hp}{h h':Heap}{a:Addr}{o:HO}
end
section
variable{P:Program}{w:World}{H:Hp}{h h':Heap}{x e:Addr}{o':HO}
end
section
variable{fs fs' ex ex':List Addr}{H H1 H2:Hp}{h h1 h2 h':Heap}{a x e:Addr}{o:HO}
end
end L2
namespace L2
open PySem PySem.Spec PyProof.Rows
section
variable{X:Cx}{pins:List (Addr × Obj)}{σ:List (Option V)}{H H':Hp}{s:Shared}{h':Heap}
end
end L2
namespace L2
open PySem PySem.Spec PyProof.Rows
section
variable{X:Cx}
variable{a b:Expr}{ta tb:TE}{pos:Pos}
variable{tA tB':TT}{dI:List Expr}
end
end L2
namespace L2
open PySem PySem.Spec PyProof.Rows
section
variable{X:Cx}{pins:List (Addr × Obj)}{σ:St}{H:Hp}{s:Shared}{a:Addr}{xs ys:List V}
end
section
variable{X:Cx}{pins:List (Addr × Obj)}{σ:St}{H:Hp}{s:Shared}{E:Value→Shared→Prop}
end
section
variable{X:Cx}{st:Stmt}{dI:List Stmt}{t u:TS}{e:Expr}{te:TE}{pos:Pos}
end
section
variable{X:Cx}{pos:Pos}
end
section
variable{X:Cx}{pos:Pos}
end
end L2
namespace L2
open PySem PySem.Spec PyProof.Rows
section
variable{X:Cx}{tg:Expr}
end
end L2
namespace L2
open PySem PySem.Spec PyProof.Rows
section
variable{X:Cx}{a b c:Expr}{ta tb tc:TE}{pos:Pos}
end
section
variable{X:Cx}{a b c:Expr}{ta tb tc:TE}{pos:Pos}
end
end L2
namespace L2
open PySem PySem.Spec PyProof.Rows
section
variable{prog:Program}{w:World}{A:Around}{E:Value→Shared→Prop}{s:Shared}{K:PySem.W.Frag}{x dx C f:Addr}{mA:Str→Option Value}{name:Str}{v:Value}
end
section
variable{P:Program}{w:World}{H H':Hp}{h h':Heap}{a C dx:Addr}{fs fs':List (Str × V)}
end
section
variable{X:Cx}{pins:List (Addr × Obj)}{σ:St}{H:Hp}{s:Shared}{a C dx:Addr}{fs:List (Str × V)}{f:Str}{v:V}{A:Around}{E:Value→Shared→Prop}
end
section
variable{X:Cx}{o e value:Expr}{f:Str}{pos pos' tpos:Pos}{ta tv:TE}
end
section
variable{X:Cx}{pins:List (Addr × Obj)}{σ:St}{H:Hp}{s:Shared}{A:Around}{E:Value→Shared→Prop}{Q:Value→Shared→Prop}{c:Value}{b:Bool}
end
end L2
namespace L2
open PySem PySem.Spec PyProof.Rows
section
variable{X:Cx}{e:Expr}{es:List Expr}{te:TE}{t:TA}{pos:Pos}
end
section
variable{X:Cx}{pins:List (Addr × Obj)}{σ:St}{H:Hp}{s s':Shared}
end
section
variable{X:Cx}{CX:qM}{k:Nat}{f C:Addr}{fd:FuncData}{ps:List Str}{sp:Sp}{dvs:List V}{ds:List Value}{E:XK}{x m:Str}{p pos apos:Pos}{e o:Expr}{es:List Expr}{ta:TE}{t:TA}
end
section
variable{X:Cx}{CX:qM}{k:Nat}{f C:Addr}{fd:FuncData}{ps ks:List Str}{sp:Sp}{E:XK}{x m:Str}{p pos apos kpos:Pos}{e o:Expr}{es:List Expr}{kws:List Keyword}{te ta:TE}{t tk:TA}{nm:Option Str}
variable{g:List Value→List Value→List Value}{gV:List V→List V→List V}
end
end L2
namespace L2
open PySem PySem.Spec PyProof.Rows
section
variable{X:Cx}{x:Str}{p pos:Pos}{e:Expr}{es:List Expr}{t:TA}{id T:String}{r:List V→Hp→VK→Prop}
end
end L2
namespace L2
open PySem PySem.Spec PyProof.Rows
section
variable{κ:Type}[DecidableEq κ]
def mZ(kvs:List (κ × V))(k:κ)(v:V):List (κ × V):=
  if (kvs.any fun kv=>decide (kv.1=k))=true then kvs.map (fun kv=>if kv.1=k then(kv.1,v) else kv) else kvs++[(k,v)]
theorem oh(kvs:List (κ × V))(k:κ)(v:V):(mZ kvs k v).length≤kvs.length+1:=by
  unfold mZ
  split
  · rw [List.length_map];lia
  · rw [List.length_append,List.length_cons,List.length_nil];lia
theorem KV.any{kvs:List (κ × V)}{vs:List (κ × Value)}(r:KV kvs vs)(k:κ):(kvs.any fun kv=>decide (kv.1=k))=vs.any fun kv=>decide (kv.1=k):=by
  unfold KV at r
  induction r with
  | nil=>rfl
  | cons h t ih=>rw [List.any_cons,List.any_cons,ih,h.1]
theorem KV.repl{kvs:List (κ × V)}{vs:List (κ × Value)}(r:KV kvs vs)(k:κ){y:V}{u:Value}(ry:bf y u):
    KV (kvs.map fun kv=>if kv.1=k then(kv.1,y) else kv) (vs.map fun kv=>if kv.1=k then(kv.1,u) else kv):=by
  unfold KV at r ⊢
  induction r with
  | nil=>exact .nil
  | @cons p q ps qs h t ih=>
    rw [List.map_cons,List.map_cons]
    refine .cons ?_ ih
    obtain⟨h1,h2⟩:=h
    by_cases e:p.1=k
    · rw [if_pos e,if_pos (h1.symm.trans e)];exact⟨h1,ry⟩
    · rw [if_neg e,if_neg (fun z=>e (h1.trans z))];exact⟨h1,h2⟩
theorem KV.put{kvs:List (κ × V)}{vs:List (κ × Value)}(r:KV kvs vs)(k:κ){y:V}{u:Value}(ry:bf y u):KV (mZ kvs k y) (stored vs k u):=by
  unfold mZ stored
  rw [r.any k]
  by_cases e:(vs.any fun kv=>decide (kv.1=k))=true
  · rw [if_pos e,if_pos e];exact r.repl k ry
  · rw [if_neg e,if_neg e];exact Paired.snoc r ⟨rfl,ry⟩
end
theorem Bq{P:Program}{w:World}{k:ec}{u:Value}(r:bf (kV k) u):(cF P w).is k u=true:=by
  cases k with
  | inl i=>obtain⟨t,e⟩:=(show ∃t,u=Value.int i t from r);subst e;exact oq P w i t
  | inr x=>obtain⟨t,e⟩:=(show ∃t,u=Value.str x t from r);subst e;exact ou P w x t
section
variable{P:Program}{w:World}{H:Hp}{h:Heap}{a:Addr}
theorem B8{u:HO}(ok:iJ P w H h)(e:Rd H a u):bY P w H h a u:=e.ok ok
theorem Bb{kvs:List (ec × V)}(ok:iJ P w H h)(e:Rd H a (.dK kvs)):kvs.length≤sizeLine∧(a==sysModules)=false∧∃vs,KV kvs vs∧h.DictOf (cF P w) a vs:=
  show bY P w H h a (.dK kvs) from B8 ok e
theorem Ba{kvs:List (ec × V)}(ok:iJ P w H h)(e:H a=some (.dK kvs)):kvs.length≤sizeLine∧(a==sysModules)=false∧∃vs,KV kvs vs∧h.DictOf (cF P w) a vs:=Bb ok (.inl e)
end
section
variable{X:Cx}{pins:List (Addr × Obj)}{σ:St}{H:Hp}{s:Shared}{a:Addr}{y v:V}{u r:Value}{o:Option V}{A:Around}{E:Value→Shared→Prop}
theorem ar.big(I:ar X pins σ H s):sysModules < s.heap.objs.size:=by
  have h:mainGlobals < s.heap.objs.size:=(I.mod.glob.keeps I.bk).lt
  exact Nat.lt_trans (by decide) h
theorem vO{h':Heap}{t':Nat}{ob:HO}(I:ar X pins σ H s)(mu:AO (H a))(hs:Heap.SameBut a s.heap h')(he:∃q,h'.get? a=some q)(new:bY X.prog X.w (a7 H a ob) h' a ob):
    ar X pins σ (a7 H a ob) {s with heap:=h',toks:=t'}:=
  I.write (x:=a) (e:=a) mu (.inl rfl) (fun b q hb z=>(hs.2 b hb).trans z) he new
theorem yN{P:Program}{w:World}{H':Hp}{h':Heap}{kvs:List (ec × V)}{vs:List (ec × Value)}(z:kvs.length≤sizeLine)(hd:(a==sysModules)=false)(rel:KV kvs vs)(dd:h'.DictOf (cF P w) a vs):
    bY P w H' h' a (.dK kvs):=⟨z,hd,vs,rel,dd⟩
end
section
variable{X:Cx}{pins:List (Addr × Obj)}{σ:St}{H:Hp}{s:Shared}{a:Addr}{kvs:List (ec × V)}{k:ec}{u:Value}{A:Around}{E:Value→Shared→Prop}
end
section
variable{X:Cx}{o i e value:Expr}{pos pos' tpos:Pos}{td ty tv:TE}
end
theorem nK{P:Program}{w:World}{H:Hp}(h:Heap)(hb:sysModules < h.objs.size):bY P w H (h.push {cls:=.type "dict",data:=.dict #[]}) h.objs.size (.dK []):=
  ⟨Nat.zero_le _,beq_eq_false_iff_ne.mpr (Ne.symm (Nat.ne_of_lt hb)),[],.nil,Heap.DictOf.new h⟩
def Am:TE:=fun _ H Q=>∀p,H p=none→Q (.ref p) (a7 H p (.dK []))
section
variable{X:Cx}{pos:Pos}
theorem uu:PE X (.Dict [] [] pos) Am:=fun pins s σ H Q I h=>
  wpAny_Dict_empty ⟨.ref s.heap.objs.size,_,I.laid (a:=s.heap.objs.size) (o:=.dK []) (t':=s.toks) (fun _ _ q=>Heap.get?_push_of_some _ q) (Nat.le_refl _) (nK s.heap I.big),rfl,h _ (I.hok.fresh (Nat.le_refl _))⟩
end
def m9:List (TE × TE)→St→Hp→(List (V × V)→Hp→Prop)→Prop
  | [],_,H,Q=>Q [] H
  | (tk,tv)::r,σ,H,Q=>tk σ H fun x H1=>tv σ H1 fun y H2=>m9 r σ H2 fun ps H3=>Q ((x,y)::ps) H3
abbrev VV:List (V × V)→List (Value × Value)→Prop:=Paired fun p q=>bf p.1 q.1∧bf p.2 q.2
def CC(X:Cx)(pos:Pos)(keys:List (Option Expr))(values:List Expr)(trs:List (TE × TE)):Prop:=
  ∀(pins:List (Addr × Obj)) (s:Shared) (σ:St) (H:Hp) (Q:List (V × V)→Hp→Prop),ar X pins σ H s→m9 trs σ H Q→
    wpAny (model X.prog X.w) X.A (evalPairs (pairTrees keys values X.env pos)) (fun vs s'=>∃ps H',ar X pins σ H' s'∧VV ps vs∧Q ps H') X.xe s
theorem xh{X:Cx}{pos:Pos}:CC X pos [] [] []:=fun pins s σ H Q I h=>pairTrees_nil_walk ⟨[],H,I,.nil,h⟩
theorem uE{X:Cx}{pos:Pos}{k v:Expr}{ks:List (Option Expr)}{vs:List Expr}{tk tv:TE}{trs:List (TE × TE)}(hk:PE X k tk)(hv:PE X v tv)(hr:CC X pos ks vs trs):
    CC X pos (some k::ks) (v::vs) ((tk,tv)::trs):=fun pins s σ H Q I h=>
  pairTrees_cons_walk (bw (hk pins s σ H _ I h) fun u s1 ⟨x,H1,I1,rx,q1⟩=>bw (hv pins s1 σ H1 _ I1 q1) fun w2 s2 ⟨y,H2,I2,ry,q2⟩=>
    bw (hr pins s2 σ H2 _ I2 q2) fun ws s3 ⟨ps,H3,I3,rel,q3⟩=>⟨(x,y)::ps,H3,I3,.cons ⟨rx,ry⟩ rel,q3⟩)
def f9(kvs more:List (ec × V)):List (ec × V):=more.foldl (fun acc kv=>mZ acc kv.1 kv.2) kvs
theorem KV.merge:∀{more:List (ec × V)} {rs:List (ec × Value)} {kvs:List (ec × V)} {vs:List (ec × Value)},KV more rs→KV kvs vs→KV (f9 kvs more) (merged vs rs):=by
  intro more rs kvs vs r
  unfold KV at r
  induction r generalizing kvs vs with
  | nil=>intro q;exact q
  | @cons p q ps qs h t ih=>
    intro r0
    have e:KV (mZ kvs p.1 p.2) (stored vs q.1 q.2):=by
      have:=r0.put p.1 h.2
      rw [←h.1];exact this
    exact ih e
theorem gJ:∀(more kvs:List (ec × V)),(f9 kvs more).length≤kvs.length+more.length
  | [],kvs=>by show kvs.length≤kvs.length+0;lia
  | p::r,kvs=>by
    have h1:=gJ r (mZ kvs p.1 p.2)
    have h2:=oh kvs p.1 p.2
    show(f9 (mZ kvs p.1 p.2) r).length≤_
    rw [List.length_cons];lia
theorem jZ{P:Program}{w:World}:∀{kvs:List (ec × V)} {ws:List (Value × Value)},VV (kvs.map fun kv=>(kV kv.1,kv.2)) ws→∃rs,Carries (cF P w) ws rs∧KV kvs rs
  | [],_,r=>by rw [List.map_nil] at r;cases r;exact⟨[],True.intro,.nil⟩
  | p::kvs,_,r=>by
    rw [List.map_cons] at r
    cases r with
    | @cons a b as bs h t=>
      obtain⟨rs,c,q⟩:=jZ (P:=P) (w:=w) t
      obtain⟨b1,b2⟩:=b
      exact⟨(p.1,b2)::rs,⟨Bq h.1,rfl,c⟩,.cons ⟨rfl,h.2⟩ q⟩
def Cg(trs:List (TE × TE)):TE:=fun σ H Q=>∀p,H p=none→m9 trs σ (a7 H p (.dK [])) fun ps H2=>H2 p=some (.dK [])∧∃kvs:List (ec × V),ps=kvs.map (fun kv=>(kV kv.1,kv.2))∧kvs.length≤15∧Q (.ref p) (a7 H2 p (.dK (f9 [] kvs)))
theorem wW{X:Cx}{pos:Pos}{keys:List (Option Expr)}{values:List Expr}{trs:List (TE × TE)}(h:CC X pos keys values trs)(hall:keys.all (·.isSome)=true)(hl:keys.length=values.length)(h0:keys≠[])
    (h15:keys.length≤15):PE X (.Dict keys values pos) (Cg trs):=by
  intro pins s σ H Q I q
  have hn:=I.hok.fresh (Nat.le_refl s.heap.objs.size)
  have I1:=I.laid (a:=s.heap.objs.size) (o:=.dK []) (h':=s.heap.push {cls:=.type "dict",data:=.dict #[]}) (t':=s.toks) (fun _ _ q=>Heap.get?_push_of_some _ q) (Nat.le_refl _) (nK s.heap I.big)
  refine wpAny_Dict_walk (knd:=cF X.prog X.w) hall hl h0 h15 (bw (h pins _ σ _ _ I1 (q _ hn)) fun ws s2 ⟨ps,H2,I2,rel,e,kvs,ep,lk,q2⟩=>?_)
  subst ep
  obtain⟨rs,c,rk⟩:=jZ (P:=X.prog) (w:=X.w) rel
  obtain⟨z,hd,vs0,r0,dd⟩:=Ba I2.hok e
  cases r0
  refine⟨rs,c,dd,fun h' dd' hs=>⟨.ref s.heap.objs.size,_,?_,rfl,q2⟩⟩
  have hz:(f9 [] kvs).length≤sizeLine:=by
    have h1:=gJ kvs []
    rw [List.length_nil] at h1
    rw [sizeLine_eq];lia
  have he:∃q,h'.get? s.heap.objs.size=some q:=let ⟨q,_,_,hq,_⟩:=dd';⟨q,hq⟩
  exact vO I2 (by rw [e];exact True.intro) hs he (yN hz hd (rk.merge .nil) dd')
section
variable{X:Cx}{pins:List (Addr × Obj)}{σ:St}{H:Hp}{s:Shared}{a:Addr}{y d:V}{u r:Value}{o:Option V}{A:Around}{E:Value→Shared→Prop}
end
section
variable{X:Cx}{o e f:Expr}{apos cpos:Pos}{td ty tx:TE}
end
section
variable{X:Cx}{pins:List (Addr × Obj)}{σ:St}{H:Hp}{s:Shared}{a:Addr}{kvs:List (ec × V)}{A:Around}{E:Value→Shared→Prop}
end
section
variable{X:Cx}{pins:List (Addr × Obj)}{σ:St}{H:Hp}{s:Shared}{a:Addr}{y:V}{u:Value}{A:Around}{E:Value→Shared→Prop}
end
end L2
namespace Att
open PySem PySem.W PySem.Calls PyProof.Rows
section
variable{prog:Program}{w:World}{A:Around}{E:Value→Shared→Prop}{s:Shared}{K:Frag}
end
end Att
namespace L2
open PySem PySem.Spec PyProof.Rows
end L2
namespace L2
open PySem PySem.Spec PyProof.Rows
end L2
namespace L2
open PySem PySem.Spec PyProof.Rows
section
variable{P:Program}{w:World}{K:PySem.W.Frag}{mg:Str→Option Value}{base:Heap}
end
section
variable{X:Cx}
end
section
variable{κ:Type}[DecidableEq κ]
end
end L2
namespace L2
open PySem PySem.Spec PyProof.Rows
def Cy:PyData→String
  | .none=>"NoneType"
  | .bool _=>"bool"
  | .int _=>"int"
  | .str _=>"str"
  | .tuple _=>"tuple"
  | .list _=>"list"
  | .dict _=>"dict"
def Aj(t T:String):Bool:=t==T || (t=="bool"&&T=="int")
def Bn(T:String)(d:PyData):Bool:=Aj (Cy d) T
def jC(T:String):En→Rv→Option Rv:=fun _ r=>match r with
  | .d x=>some (.d (.bool (Bn T x)))
  | _=>some (.d (.bool (Bn T (.list []))))
section
variable{X:Cx}{K:PySem.W.Frag}{a:Expr}{fa:FE}{pos p p2:Pos}
def C3(K:PySem.W.Frag)(H:Hp):V→String→Prop
  | .non,t=>t="NoneType"
  | .bl _,t=>t="bool"
  | .int _,t=>t="int"
  | .str _,t=>t="str"
  | .ref a,t=>(t="tuple"∧∃xs,cM K H a xs)∨(t="list"∧∃xs,fy K H a xs)∨(t="dict"∧∃m,H a=some (.dK m))
  | _,_=>False
theorem sL{T:String}:bO X (.builtin "isinstance") (fun xs H Q=>∃x t b,xs=[x,.ty T]∧C3 X.K H x t∧PySem.W.kitOne X.K (.type t) (.type T)=some b∧Q (.bl b) H):=by
  intro pins s σ H xs us Q I r h
  obtain⟨x,t,b,rfl,ht,hk,q⟩:=h
  obtain⟨u1,u2,rfl,r1,r2⟩:∃u1 u2,us=[u1,u2]∧bf x u1∧bf (.ty T) u2:=by
    cases r with
    | cons p q=>cases q with
      | cons p' q'=>cases q';exact⟨_,_,rfl,p,p'⟩
  cases r2
  have q':∀tk,EP X pins σ Q (.bool b) {s with toks:=tk}:=fun tk=>⟨.bl b,H,I.tok _,rfl,q⟩
  cases x with
  | non=>cases (show u1=Value.none from r1);cases (show t=_ from ht);exact PySem.W.kia_one PySem.W.kitx_none I.kIn True.intro hk (fun z=>nomatch z) q'
  | bl y=>cases (show u1=Value.bool y from r1);cases (show t=_ from ht);exact PySem.W.kia_one PySem.W.kitx_bool I.kIn True.intro hk (fun z=>nomatch z) q'
  | int i=>obtain⟨tt,rfl⟩:=r1;cases (show t=_ from ht);exact PySem.W.kia_one PySem.W.kitx_int I.kIn True.intro hk (fun z=>nomatch z) q'
  | str y=>obtain⟨tt,rfl⟩:=r1;cases (show t=_ from ht);exact PySem.W.kia_one PySem.W.kitx_str I.kIn True.intro hk (fun z=>nomatch z) q'
  | ref a=>
    cases (show u1=Value.ref a from r1)
    rcases ht with ⟨rfl,xs,hs⟩ | ⟨rfl,xs,hs⟩ | ⟨rfl,m,hs⟩
    · obtain⟨its,rv,pl,hz⟩:=I.tuple hs
      obtain⟨o,h1,h2⟩:=pl.typeIs
      exact PySem.W.kia_one PySem.W.kitx_tuple I.kIn ⟨o,h1,h2⟩ hk (fun z=>nomatch z) q'
    · obtain⟨its,rv,pl,hz⟩:=I.list hs
      obtain⟨o,h1,h2⟩:=pl.isList.typeIs
      exact PySem.W.kia_one PySem.W.kitx_list I.kIn ⟨o,h1,h2⟩ hk (fun z=>nomatch z) q'
    · obtain⟨_,_,vs,_,pp⟩:=(show bY X.prog X.w H s.heap a (.dK m) from I.hok a _ hs)
      obtain⟨o,es,ep,h1,h2,_⟩:=pp
      exact PySem.W.kia_one PySem.W.kitx_dict I.kIn ⟨o,h1,h2.1⟩ hk (fun z=>nomatch z) q'
  | _=>exact False.elim ht
theorem uw{x:Str}{T:String}(hg:Gl X x)(hm:X.mg x=none)(hv:bootBuiltins x=some (.type T))(hn:x≠"__name__")(hd:(x==("__debug__":Str))=false):PE X (.Name x pos) (tC (.ty T)):=fun pins s σ H Q I h=>
  iQ I hg hm hv ⟨.ty T,H,I,rfl,h⟩ hn hd
theorem za{t T:String}(ht:t∈["NoneType","bool","int","str","tuple","list","dict"])(hT:T∈["int","bool","tuple","str"]):PySem.W.kitOne K (.type t) (.type T)=some (Aj t T):=by
  simp only [List.mem_cons,List.not_mem_nil,or_false] at ht hT
  rcases ht with rfl | rfl | rfl | rfl | rfl | rfl | rfl<;>rcases hT with rfl | rfl | rfl | rfl<;>rfl
theorem xO(d:PyData):Cy d∈["NoneType","bool","int","str","tuple","list","dict"]:=by cases d<;>simp [Cy]
theorem Av{F H:Hp}{d:PyData}{v:V}(h:DA K F d v)(s:aq F H):C3 K H v (Cy d):=by
  have h:=DA.mono s h
  cases d with
  | none=>rw [eU.mp h];rfl
  | bool b=>rw [cy.mp h];rfl
  | int b=>rw [cc.mp h];rfl
  | str b=>rw [mH.mp h];rfl
  | tuple ds=>obtain⟨a,xs,rfl,h1,_⟩:=ce.mp h;exact .inl ⟨rfl,xs,h1⟩
  | list ds=>obtain⟨a,xs,rfl,h1,_⟩:=cQ.mp h;exact .inr (.inl ⟨rfl,xs,h1⟩)
  | dict m=>simp only [DA] at h;obtain⟨a,m,rfl,h1,_⟩:=h;exact .inr (.inr ⟨rfl,_,h1⟩)
theorem mJ{f:FE}{σ:L2.St}{H:Hp}{Q Q':VK}(h:fE K f σ H Q)(m:∀v H1,Q v H1→Q' v H1):fE K f σ H Q':=by
  obtain⟨F,e,r,e',R,hf,q⟩:=h
  exact⟨F,e,r,e',R,hf,fun F' H' v x R' A=>m _ _ (q F' H' v x R' A)⟩
theorem Bo{T:String}:yH K (fun v H Q=>∃t,t∈["NoneType","bool","int","str","tuple","list","dict"]∧C3 K H v t∧Q (.bl (Aj t T)) H) (jC T):=by
  intro σ H0 F H e x z v Q R A hg q
  unfold jC at hg
  cases x with
  | d d=>
    cases hg
    exact⟨Cy d,xO d,Av A R.sm,q F H _ (cP.refl _ _ _ _) R b_⟩
  | l xs=>
    cases hg
    obtain⟨l,vs,rfl,h1,h2,h3,h4⟩:=A
    exact⟨"list",by simp,.inr (.inl ⟨rfl,vs,fy.of h3⟩),q F H _ (cP.refl _ _ _ _) R b_⟩
  | s i=>
    cases hg
    obtain⟨h1,xs,h2⟩:=A
    obtain⟨l,vs,h3,h4,h5,h6⟩:=R.own i xs h2
    rw [h1] at h3;cases h3
    exact⟨"list",by simp,.inr (.inl ⟨rfl,vs,fy.of h5⟩),q F H _ (cP.refl _ _ _ _) R b_⟩
theorem lV{x:Str}{T:String}(hK:X.K=K)(hT:T∈["int","bool","tuple","str"])(hg:Gl X "isinstance")(hm:X.mg "isinstance"=none)(hgT:Gl X x)(hmT:X.mg x=none)(DO:bootBuiltins x=some (.type T))(hn:x≠"__name__")(hd:(x==("__debug__":Str))=false)
    (ha:PE X a (fE K fa))(he:starEach [a,.Name x p2] X.env=(false,eval a X.env)::starEach [.Name x p2] X.env)(hpl:(backTo pos (starEach [.Name x p2] X.env)).any (·.1)=false):
    PE X (.Call (.Name "isinstance" p) [a,.Name x p2] [] pos) (fE K (kU (jC T) fa)):=
  (iw (sL (T:=T)) hg hm boot_isinstance (fj ha (fj (uw hgT hmT DO hn hd) iV) he) (by decide) (by decide) he hpl).mono fun σ H Q h=>by
    subst hK
    have h1:=nj (Bo (T:=T)) h
    refine mJ h1 fun v H1 ⟨t,ht,k,q⟩=>?_
    exact⟨v,t,_,rfl,k,za ht hT,q⟩
end
end L2
namespace L2
open PySem PySem.Spec PyProof.Rows
section
variable{X:Cx}{K:PySem.W.Frag}
end
end L2
namespace L2
open PySem PySem.Spec PyProof.Rows
section
variable{X:Cx}{K:PySem.W.Frag}{σ:L2.St}{F H:Hp}{e:En}{pos p1 p2:Pos}
theorem aT.newD(R:aT K F H σ e){p:Addr}{m:List (ec × V)}(hp:H p=none):aT K (a7 F p (.dK m)) (a7 H p (.dK m)) σ e∧cP σ F H e (a7 F p (.dK m)) (a7 H p (.dK m)) e:=by
  have hF:=R.freeF hp
  obtain⟨R1,X1⟩:=R.same (aq.new hp (o:=.dK m))
  obtain⟨R2,s2⟩:=R1.freeze (p:=p) hF am (R1.notOwn am (fun _ z=>nomatch z))
  refine⟨R2,⟨s2,X1.dom,fun a ws h n _=>?_,X1.lst,X1.tmp,X1.shp,X1.ow,fun a ws h n _=>?_⟩⟩
  all_goals
    have z:a≠p:=fun z=>by rw [z,hp] at n;cases n
    rw [aB z];exact h
def jz(m:List (Int × Int)):FE:=fun e=>some (.d (.dict (m.map fun p=>(PyData.int p.1,PyData.int p.2))),e)
theorem oD:PE X (.Dict [] [] pos) (fE K (jz [])):=uu.mono fun σ H Q h=>by
  obtain⟨F,e,z,e2,R,hf,q⟩:=h
  cases hf
  intro p hp
  obtain⟨R3,X3⟩:=R.newD (m:=[]) hp
  exact q _ _ _ X3 R3 (by simp only [bK,DA];exact⟨p,[],rfl,am,rfl⟩)
theorem oE{i j:Int}{k1 k2}:PE X (.Dict [some (.Constant (.int i) k1 p1)] [.Constant (.int j) k2 p2] pos) (fE K (jz [(i,j)])):=
  (wW (uE (@pw X i k1 p1) (@pw X j k2 p2) xh) rfl rfl (by simp) (by simp)).mono fun σ H Q h=>by
  obtain⟨F,e,z,e2,R,hf,q⟩:=h
  cases hf
  intro p hp
  refine⟨am,[(Sum.inl i,.int j)],rfl,by simp,?_⟩
  have e1:a7 (a7 H p (.dK [])) p (.dK (f9 [] [((Sum.inl i:ec),V.int j)]))=a7 H p (.dK (f9 [] [((Sum.inl i:ec),V.int j)])):=by
    funext a;by_cases h:a=p
    · subst h;rw [am,am]
    · rw [aB h,aB h,aB h]
  rw [e1]
  obtain⟨R3,X3⟩:=R.newD (m:=f9 [] [((Sum.inl i:ec),V.int j)]) hp
  exact q _ _ _ X3 R3 (by simp only [bK,DA];exact⟨p,[(i,.vi j)],rfl,am,rfl⟩)
end
end L2
namespace L2
open PySem PySem.Spec PyProof.Rows
section
variable{X:Cx}{K:PySem.W.Frag}{a b c d:Expr}{ta tb tc td:TE}{fa fb fc fd:FE}{pos:Pos}
end
end L2
namespace L2
open PySem PySem.Spec PyProof.Rows
section
variable{X:Cx}{K:PySem.W.Frag}{a b:Expr}{es:List Expr}{fa fb:FE}{fs:FA}{pos p apos:Pos}
end
end L2
namespace L2
open PySem PySem.Spec PyProof.Rows
section
variable{X:Cx}{K:PySem.W.Frag}{a b:Expr}{fa fb:FE}{fs:FA}{pos p p2 p3:Pos}
end
end L2
namespace L2
open PySem PySem.Spec PyProof.Rows
def bq(W:bE)(as:List Int):Int:=bp W (W.rng.filter fun k=> !as.contains k)
def wI(l:Nat):Int:=1000*(2 ^ (16 - l) - 1)
structure DZ (W:bE) (k:Int) (as:List Int) (y n:Fr):Prop where
  y:CG (bq W (bE.askd as k)) (wI (as.length+1)) y
  n:CG (bq W (bE.askd as k)) (wI (as.length+1)) n
  len:as.length≤15
  inw:jR W k
  new:k∉as
def lk(ws:List Fr)(l:Int):Fr:=if l= -1 then(0,1) else ws.getD l.toNat (0,1)
structure Eb (W:bE) (S:Nat→Std) (n:Nat) (ws:List Fr):Prop where
  len:ws.length=n
  at':∀(j:Nat) (f:Fr),ws[j]?=some f→CG (bq W (S j).1) (wI (S j).1.length) f
theorem Sz.int10{n m:Nat}{k:Int}(hb:Bt m k)(m0:0 < m)(m1:m≤1900)(h:k.natAbs < 10 ^ n)(h0:0 < n):Sz (n+1) 2 (.int k):=by
  refine⟨rfl,?_,by simp [PyData.depth],?_,bz _⟩
  · show decide (k.natAbs.log2 < 1920)=true
    rw [decide_eq_true_eq]
    have:=hb.log m0
    lia
  · have:=int_text_length_le10 h0 h
    show(Str.ofString (toString k)).length≤n+1
    rw [PySem.ofString_length];exact this
end L2
namespace L2
open PySem PySem.Spec PyProof.Rows
theorem me{x:Str}(h:PyData.strOk x=true):∀c∈x.cps.toList,c < 1114112:=by
  intro c hc
  unfold PyData.strOk at h
  rw [Array.all_eq_true'] at h
  have:=h c (by simpa using hc)
  simpa using this
theorem vm{l:Array Nat}(h:∀c∈l.toList,c < 1114112):PyData.strOk ⟨l⟩=true:=by
  unfold PyData.strOk
  rw [Array.all_eq_true']
  intro c hc
  simpa using h c (by simpa using hc)
theorem vL(c:Char):c.toNat < 1114112:=by
  have:=c.valid
  unfold UInt32.isValidChar Nat.isValidChar at this
  show c.val.toNat < _
  lia
open PySem.Builtin.Str in
theorem oG{q c:Nat}(hc:c < 1114112):∀d∈reprChar q c,d < 1114112:=by
  intro d hd
  unfold reprChar at hd
  have hx:∀w:Nat,∀d∈(List.replicate (w - ((Nat.toDigits 16 c).map Char.toNat).length) 48++(Nat.toDigits 16 c).map Char.toNat),d < 1114112:=by
    intro w d hd
    rcases List.mem_append.mp hd with h | h
    · have:=List.eq_of_mem_replicate h;lia
    · obtain⟨ch,_,rfl⟩:=List.mem_map.mp h;exact vL ch
  dsimp only at hd
  split at hd
  · simp only [List.mem_cons,List.not_mem_nil,or_false] at hd;lia
  split at hd
  · simp only [List.mem_cons,List.not_mem_nil,or_false] at hd;lia
  split at hd
  · simp only [List.mem_cons,List.not_mem_nil,or_false] at hd;lia
  split at hd
  · simp only [List.mem_cons,List.not_mem_nil,or_false] at hd;lia
  split at hd
  · simp only [List.mem_cons,List.not_mem_nil,or_false] at hd;lia
  split at hd
  · rcases List.mem_append.mp hd with h | h
    · simp only [List.mem_cons,List.not_mem_nil,or_false] at h;lia
    · exact hx 2 d h
  split at hd
  · rcases List.mem_append.mp hd with h | h
    · simp only [List.mem_cons,List.not_mem_nil,or_false] at h;lia
    · exact hx 4 d h
  · rcases List.mem_append.mp hd with h | h
    · simp only [List.mem_cons,List.not_mem_nil,or_false] at h;lia
    · exact hx 8 d h
open PySem.Builtin.Str in
theorem lZ{q:Nat}:∀(l:List Nat) (acc:Array Nat),(∀c∈l,c < 1114112)→(∀c∈acc.toList,c < 1114112)→∀c∈(l.foldl (fun out c=>out++(reprChar q c).toArray) acc).toList,c < 1114112
  | [],acc,_,h=>h
  | x::r,acc,h1,h2=>lZ r _ (fun c hc=>h1 c (by simp [hc])) fun c hc=>by
    simp only [Array.toList_append,List.mem_append] at hc
    rcases hc with hc | hc
    · exact h2 c hc
    · exact oG (h1 x (by simp)) c hc
theorem oH{x:Str}(h:PyData.strOk x=true):PyData.strOk (reprText x)=true:=by
  unfold reprText
  refine vm fun c hc=>?_
  have hq:reprQuote x < 1114112:=by unfold reprQuote;split<;>lia
  rw [Array.toList_push] at hc
  rcases List.mem_append.mp hc with hc | hc
  · rw [←Array.foldl_toList] at hc
    exact lZ _ _ (me h) (fun c hc=>by simp at hc;lia) c hc
  · simp at hc;lia
theorem Sz.str{x:Str}{n:Nat}(h:PyData.strOk x=true)(hl:x.length≤n):Sz (10*n+2) 2 (.str x):=by
  refine⟨rfl,rfl,by simp [PyData.depth],?_,oH h⟩
  have:=PySem.StrLaws.reprText_len x fun c hc=>Nat.lt_of_lt_of_le (me h c hc) (by decide)
  show(reprText x).length≤_
  lia
end L2
namespace L2
open PySem PySem.Spec PyProof.Rows
section
variable{X:Cx}{K:PySem.W.Frag}{a:Expr}{fa:FE}{pos p pos2 p2:Pos}
def fD(ns:List Int):List Int:=ns.foldl step_dedup []
theorem ej(ns:List Int):firstMet (fun i=>ns.getD i 0) ns.length=fD ns:=by
  unfold firstMet fD
  congr 1
  refine List.ext_getElem (by simp) fun i h1 h2=>?_
  simp at h1
  simp [h1]
theorem jw:isSubtype (.type "tuple") (.type "set")=pure false:=by rw [isSubtype_type];kernel_rfl
theorem gk:isSubtype (.type "tuple") (.type "frozenset")=pure false:=by rw [isSubtype_type];kernel_rfl
theorem my{prog:Program}{w:World}{A:Around}{E:Value→Shared→Prop}{s:Shared}{l:Addr}{items:Array Value}{ns:List Int}{Q:Value→Shared→Prop}(hh:A.handled=none)(hl:s.heap.IsTuple l items)(hi:IntsAre items.toList ns)(hb:items.size+1 < scanBound)
    (h:∀(h':Heap) (tk:Nat),h'.SetOf (intKind prog w) s.heap.objs.size (fun k'=>(firstMet (fun i=>ns.getD i 0) items.size).any (· ==k')) (firstMet (fun i=>ns.getD i 0) items.size).length→(∀b o,b < s.heap.objs.size→s.heap.get? b=some o→h'.get? b=some o)→Q (.ref s.heap.objs.size) {s with heap:=h',toks:=tk}):
    wpAny (model prog w) A (call (.type "set") [.ref l]) Q E s:=by
  obtain⟨c,tl,hmro⟩:=F.called_set.mro;have hmade:=F.called_set.made;have hsub:=F.called_set.sub
  refine wpAny_call (codeAny_of_tree ?_);show wpAny _ _ (callAny (.type "set") _) _ _ _
  refine wpAny_pure ⟨Code.quiet_builtin _ (by decide+kernel),codeAny_builtin F.entry_type_call ?_⟩;rw [Around.under_plain (weight_type_call_type "set" [.ref l] []) rfl]
  have h1:=F.called_set.notType;have h2:=F.called_set.canCreate;have hct:=F.typeCall_set_1 (.ref l);repeat (any_goals (first | assumption | wp_step))
  let nw:Bool→Obj:=fun led=>{cls:=.type "set",dict:=none,data:=.set #[] 0 (.fresh 0 0 led)}
  refine codeAny_mono (code_set_new_1 (.ref l) (E:=E) (Q₁:=fun obj s₁=>∃led:Bool,obj=.ref s.heap.objs.size∧s₁={s with heap:=s.heap.push (nw led)}) fun led=>⟨led,rfl,rfl⟩) fun r s₁ hr=>?_
  cases r with
  | error e=>exact hr
  | ok fl=>
    cases fl with
    | ret obj=>
      obtain⟨led,rfl,rfl⟩:=hr;have hS:(s.heap.push (nw led)).get? s.heap.objs.size=some (nw led):=Heap.get?_push_size _ rfl
      have hT:Shared.TypeIs {s with heap:=s.heap.push (nw led)} (.ref s.heap.objs.size) "set":=⟨_,hS,rfl⟩
      have hli:=F.called_set.init.lookup;have hbi:=F.called_set.init.bind (.ref s.heap.objs.size);repeat (any_goals (first | assumption | wp_step))
      refine codeAny_mono (codeAny_call_builtin (R:=wants (fun r s₂=>r=.none∧∃h' tk,s₂={s with heap:=h',toks:=tk}∧h'.SetOf (intKind prog w) s.heap.objs.size (fun k'=>(firstMet (fun i=>ns.getD i 0) items.size).any (· ==k')) (firstMet (fun i=>ns.getD i 0) items.size).length∧(∀b o,b < s.heap.objs.size→s.heap.get? b=some o→h'.get? b=some o)) E) F.called_set.init.plain F.entry_set_init (check_set_init_1 hT ?_)) fun r₂ s₂ hr₂=>?_
      · obtain⟨ol,hol,hcl,nl,hdl⟩:=hl;obtain⟨ocls,odict,odata,oslots⟩:=ol;simp only at hcl hdl;subst hcl;subst hdl
        have hol':(s.heap.push (nw led)).get? l=some {cls:=.type "tuple",dict:=odict,data:=.seq items nl,slots:=oslots}:=Heap.get?_push_of_some _ hol
        have hsls:=jw;have hslf:=gk;have hne:(Value.type "tuple"==Value.type "dict")=false:=by decide
        have hl1:(s.heap.push (nw led)).IsTuple l items:=⟨_,hol',rfl,nl,rfl⟩
        unfold Builtin.«set.__init__» noKeywords Builtin.Frozenset.updateFrom;generalize hPI:pyIter=PI
        wp_walk
        subst hPI
        refine wpAny_pyIter_tuple hl1 ?_;refine wpAny_bind (wpAny_runValue ?_);have hlS:l < s.heap.objs.size:=Heap.lt_size hol
        have hh3:A.in1.in1.in1.handled=none:=by simp [hh]
        have hneI:l≠(s.heap.push (nw led)).objs.size:=by rw [Heap.size_push];exact Nat.ne_of_lt (Nat.lt_succ_of_lt hlS)
        have hSf:s.heap.objs.size∉[(s.heap.push (nw led)).objs.size,l]:=by
          rw [Heap.size_push];simp only [List.mem_cons,List.mem_singleton,List.not_mem_nil,or_false,not_or];exact⟨Nat.ne_of_lt (Nat.lt_succ_self _),Nat.ne_of_gt hlS⟩
        have hval:∀(i:Nat) (v:Value),items[i]?=some v→∃t,v=.int ((fun i=>ns.getD i 0) i) t:=fun i v hv=>IntsAre.int_at hi i v (by rw [Array.getElem?_toList];exact hv)
        refine codeAny_set_update_loopS ((Walks.tuple hh3 _ l hneI items).toS) s.heap.objs.size hSf (fun i=>ns.getD i 0) hval hb (items.size - 0) 0 _ (by lia) (Nat.zero_le _) ⟨⟨_,Heap.get?_push_size _ rfl,rfl,rfl⟩,(hl1.at fun o e=>Heap.get?_push_of_some _ e)⟩ ?hS0 ?hR
        case hS0=>exact SetOf_congr ((setObjOf_fresh (knd:=intKind prog w) led).setOf (Heap.get?_push_of_some _ hS) (by unfold scanBound;lia)) (fun _=>rfl) rfl
        case hR=>
          intro s' hm hS';obtain⟨h',g',d',tk',os'⟩:=s';have eg:g'=s.gens:=hm.gens;have ed:d'=s.drawn:=hm.drawn;have eo:os'=s.os:=hm.os
          subst eg;subst ed;subst eo;show wpAny _ _ _ _ _ _
          refine wpAny_pure ?_;show wpAny _ _ (ret Value.none) _ _ _;refine wpAny_pure ⟨rfl,h',tk',rfl,hS',fun b o hb e=>?_⟩
          have hb1:b≠s.heap.objs.size:=Nat.ne_of_lt hb;have hb2:b≠(s.heap.push (nw led)).objs.size:=by rw [Heap.size_push];exact Nat.ne_of_lt (Nat.lt_succ_of_lt hb)
          exact hm.heap b o (by simp only [List.mem_cons,List.mem_singleton,List.not_mem_nil,or_false,not_or];exact⟨hb1,hb2⟩) (Heap.get?_push_of_some _ (Heap.get?_push_of_some _ e))
      · cases r₂ with
        | error e=>exact hr₂
        | ok fl₂=>
          cases fl₂ with
          | ret r=>obtain⟨rfl,h',tk,rfl,hS',hk'⟩:=hr₂;(repeat (any_goals (first | assumption | wp_step)));exact h _ _ hS' hk'
          | next=>exact hr₂.elim
          | brk=>exact hr₂.elim
          | cont=>exact hr₂.elim
    | next=>exact hr.elim
    | brk=>exact hr.elim
    | cont=>exact hr.elim
def B2(K:PySem.W.Frag):List V→Hp→VK→Prop:=fun xs H Q=>∃(l:Addr) (ns:List Int),xs=[.ref l]∧(fy K H l (ns.map V.int)∨cM K H l (ns.map V.int))∧ns.length≤1000∧∀q S,H q=none→Q (.ref q) (a7 H q (.set S (fD ns).length))
theorem qS(hc:X.calm=true):bO X (.type "set") (B2 X.K):=by
  intro pins s σ H xs us Q I r h
  obtain⟨l,ns,rfl,hs,hn,q⟩:=h
  obtain⟨u,rfl,ru⟩:=gZ r
  cases ru
  have hf:H s.heap.objs.size=none:=I.hok.fresh (Nat.le_refl _)
  rcases hs with hs | hs
  · obtain⟨its,rv,pl,hz⟩:=I.list hs
    have hl:=rv.length
    rw [List.length_map] at hl
    have e1:its.toArray.size=ns.length:=by simp [hl]
    refine call_set_list (ns:=ns) (I.ok.hd hc) pl.isList (dY rv) (by rw [e1];unfold scanBound;lia) fun h' tk hS hk=>?_
    rw [e1,ej] at hS
    exact⟨.ref s.heap.objs.size,_,I.laid (o:=.set _ _) (fun b o e=>hk b o (Heap.lt_size e) e) (Nat.le_refl _) hS,rfl,q _ _ hf⟩
  · obtain⟨its,rv,pl,hz⟩:=I.tuple hs
    have hl:=rv.length
    rw [List.length_map] at hl
    have e1:its.toArray.size=ns.length:=by simp [hl]
    refine my (ns:=ns) (I.ok.hd hc) pl (dY rv) (by rw [e1];unfold scanBound;lia) fun h' tk hS hk=>?_
    rw [e1,ej] at hS
    exact⟨.ref s.heap.objs.size,_,I.laid (o:=.set _ _) (fun b o e=>hk b o (Heap.lt_size e) e) (Nat.le_refl _) hS,rfl,q _ _ hf⟩
theorem qP:bO X (.builtin "len") (fun xs H Q=>∃q S n,xs=[.ref q]∧H q=some (.set S n)∧n≤1000∧Q (.int n) H):=by
  intro pins s σ H xs us Q I r h
  obtain⟨p,S,n,rfl,hs,hn,q⟩:=h
  obtain⟨u,rfl,ru⟩:=gZ r
  cases ru
  obtain⟨o,es,ep,t,ho,hex,hd,_,_,_,hfit,rfl⟩:=(show bY X.prog X.w H s.heap p (.set S n) from I.hok p _ hs)
  exact call_len_set ho hex hd hfit (by lia) ⟨.int es.size,H,I.tok _,⟨_,rfl⟩,q⟩
def dG:En→Rv→Option Rv:=fun e x=>(cJ e x).bind fun z=>(jo z.2).bind fun ns=>if ns.length≤1000 then some (.d (.int (fD ns).length)) else none
theorem gT(ns:List Int):(fD ns).length≤ns.length:=by
  have:=firstMet_length_le (fun i=>ns.getD i 0) ns.length
  rw [ej] at this
  exact this
theorem uc:yH K (fun v H Q=>B2 K [v] H fun w H1=>∃q S n,w=.ref q∧H1 q=some (.set S n)∧n≤1000∧Q (.int n) H1) dG:=by
  intro σ H0 F H e x z v Q R A hg q
  unfold dG at hg
  obtain⟨⟨b,ds⟩,h1,hg⟩:=Option.bind_eq_some_iff.mp hg
  obtain⟨ns,h2,hg⟩:=Option.bind_eq_some_iff.mp hg
  split at hg
  case isFalse=>cases hg
  case isTrue hl=>
  cases hg
  obtain⟨l,ws,rfl,d1,s1⟩:=bD R A h1
  have e1:ds=ns.map .int:=fY h2
  subst e1
  have e2:=aA.ints.mp d1
  subst e2
  refine⟨l,ns,rfl,?_,hl,fun p S hp=>?_⟩
  · cases b with
    | true=>exact .inl s1
    | false=>exact .inr s1
  · obtain⟨R1,X1⟩:=R.same (aq.new hp (o:=.set S (fD ns).length))
    exact⟨p,S,_,rfl,am,Nat.le_trans (gT ns) hl,q F _ _ X1 R1 i3⟩
theorem oB(hc:X.calm=true)(hK:X.K=K)(hg:Gl X "len")(hm:X.mg "len"=none)(hgs:Gl X "set")(hms:X.mg "set"=none)(ha:PE X a (fE K fa))(hs:starEach [a] X.env=(false,eval a X.env)::starEach [] X.env)(hpl:(backTo pos2 (starEach [] X.env)).any (·.1)=false)
    (hs2:starEach [.Call (.Name "set" p2) [a] [] pos2] X.env=(false,eval (.Call (.Name "set" p2) [a] [] pos2) X.env)::starEach [] X.env)(hpl2:(backTo pos (starEach [] X.env)).any (·.1)=false):
    PE X (.Call (.Name "len" p) [.Call (.Name "set" p2) [a] [] pos2] [] pos) (fE K (kU dG fa)):=
  (iw qP hg hm PySem.boot_len (fj (iW (qS hc) hgs hms PyProof.Rows.boot_set (fj ha iV hs) (by decide) (by decide) hs hpl) iV hs2) (by decide) (by decide) hs2 hpl2).mono fun σ H Q h=>by
    subst hK
    refine mJ (nj uc h) fun v H1 ⟨l,ns,e,h1,h2,h3⟩=>?_
    refine⟨l,ns,e,h1,h2,fun q S hq=>?_⟩
    obtain⟨q',S',n,e1,e2,e3,e4⟩:=h3 q S hq
    exact⟨q',S',n,by rw [e1],e2,e3,e4⟩
end
end L2
namespace L2
open PySem PySem.Spec PyProof.Rows
section
variable{X:Cx}{K:PySem.W.Frag}{a:Expr}{fa:FE}
end
end L2
namespace L2
open PySem PySem.Spec PyProof.Rows
abbrev Rn:=List (Int × Bool)
def vU(R:Rn):List Int:=R.map (·.1)
def x_(W:bE)(R:Rn):List Int:=(R.filter (·.2)).flatMap fun r=>[(W.tie r.1).one,(W.tie r.1).other]
theorem iG(ns:List Int):(a8 ns).Pairwise (· ≤·):=by
  have:=List.pairwise_mergeSort (le:=fun a b:Int=>decide (a≤b)) (fun a b c h1 h2=>by simp at*;lia) (fun a b=>by simp;lia) ns
  exact this.imp (by simp)
structure D_ (W:bE) (R:Rn) (asked taken:List Int):Prop where
  pa:asked.Perm (vU R)
  pt:taken.Perm (x_ W R)
  inw:∀k∈vU R,jR W k
  nd:(vU R).Nodup
  nk:(x_ W R).Nodup
  bd:∀t:Int,0≤t→t < W.things→W.many (vU R) t≤W.pat.getD t.toNat 0
  ak:(R.length:Int)≤W.asks
  sa:asked.Pairwise (· ≤·)
  st:taken.Pairwise (· ≤·)
theorem lI:∀(ns acc:List Int),ns.Nodup→(∀x∈ns,x∉acc)→(ns.foldl step_dedup acc).length=acc.length+ns.length
  | [],acc,_,_=>by simp
  | x::r,acc,h1,h2=>by
    have c:acc.any (· ==x)=false:=by
      rw [List.any_eq_false]
      intro y hy z
      have:y=x:=by simpa using z
      exact h2 x (by simp) (this ▸ hy)
    simp only [List.foldl_cons]
    rw [show step_dedup acc x=acc++[x] by unfold step_dedup;rw [c];rfl,lI r (acc++[x]) (List.nodup_cons.mp h1).2 fun y hy z=>?_]
    · simp;lia
    · rcases List.mem_append.mp z with z | z
      · exact h2 y (by simp [hy]) z
      · simp at z;exact(List.nodup_cons.mp h1).1 (z ▸ hy)
theorem vP{ns:List Int}(h:ns.Nodup):(fD ns).length=ns.length:=by
  have:=lI ns [] h (fun x _ z=>by cases z)
  simpa [fD] using this
theorem yQ{e:En}{i:Nat}{x:Int}{ns:List Int}{neg:Bool}(h:e[i]?=some (some (.l (ns.map .int)))):s_ neg e (.d (.int x)) (.s i)=some (.d (.bool (if neg then !ns.contains x else ns.contains x))):=by
  have:=ij (e:=e) (x:=x) (ns:=ns) (neg:=neg)
  unfold s_ at this ⊢
  simp only [fB,cJ,h,Option.bind_some] at this ⊢
  exact this
end L2
namespace L2
open PySem PySem.Spec PyProof.Rows
section
variable{prog:Program}{w:World}{A:Around}{R:Result→Shared→Prop}
def ip(elt tg iter tg2 iter2:Expr)(ifs ifs2:List Expr)(scope:Scope)(pos:Pos)(acc:Value)(env:Env)(k:Sem PySem.Fin):Sem PySem.Fin:=do
  let x ←eval iter2 env
  standAt iter2.pos
  let x ←foldedSetIterable iter2 env x
  let _ ←runOwn (.compStart (.ListComp elt [⟨tg,iter,ifs,0⟩,⟨tg2,iter2,ifs2,0⟩] scope pos) 1 (←holding [x] (pyIter x)) acc env) env
  k
theorem mE(elt tg iter tg2 iter2:Expr)(ifs ifs2:List Expr)(scope:Scope)(pos:Pos)(it acc:Value)(env:Env):
    compTurn (.ListComp elt [⟨tg,iter,ifs,0⟩,⟨tg2,iter2,ifs2,0⟩] scope pos) 0 it acc env=(do
      standAt iter.pos
      match ←pyNext it with
      | none=>pure (.done .next)
      | some v=>
        letOwnedTupleGo tg it v
        assign tg env v
        let mut ok:=true
        for c in ifs do
          if ok then ok ←isTrue c env (eval c env)
        if ok then ip elt tg iter tg2 iter2 ifs ifs2 scope pos acc env (again (.compLoop (.ListComp elt [⟨tg,iter,ifs,0⟩,⟨tg2,iter2,ifs2,0⟩] scope pos) 0 it acc env))
        else again (.compLoop (.ListComp elt [⟨tg,iter,ifs,0⟩,⟨tg2,iter2,ifs2,0⟩] scope pos) 0 it acc env)):=by rfl
theorem nH(elt tg iter tg2 iter2:Expr)(ifs ifs2:List Expr)(scope:Scope)(pos:Pos)(it acc:Value)(env:Env):
    compTurn (.ListComp elt [⟨tg,iter,ifs,0⟩,⟨tg2,iter2,ifs2,0⟩] scope pos) 1 it acc env=(do
      standAt iter2.pos
      match ←pyNext it with
      | none=>pure (.done .next)
      | some v=>
        letOwnedTupleGo tg2 it v
        assign tg2 env v
        let mut ok:=true
        for c in ifs2 do
          if ok then ok ←isTrue c env (eval c env)
        if ok then
          (do let _ ←call (.builtin "list.append") [acc,←eval elt env])
        again (.compLoop (.ListComp elt [⟨tg,iter,ifs,0⟩,⟨tg2,iter2,ifs2,0⟩] scope pos) 1 it acc env)):=by rfl
def vM(prog:Program)(w:World)(A:Around)(B:Sem PySem.Fin→Sem PySem.Fin)(tg:Expr)(ifs:List Expr)(env:Env)(it:Value)(onward:Shared→Prop)(v:Value)(u:Shared):Prop:=
  wpAny (model prog w) A (letOwnedTupleGo tg it v) (fun _ u1=>wpAny (model prog w) A (assign tg env v) (fun _ u2=>wpAny (model prog w) A
    (forIn ifs true fun c r=>if r=true then do let ok ←isTrue c env (eval c env);pure (ForInStep.yield ok) else pure (ForInStep.yield r)) (fun ok u3=>if ok=true then(∀(k:Sem PySem.Fin) (Q:PySem.Fin→Shared→Prop) (E:Value→Shared→Prop),(∀u5,onward u5→wpAny (model prog w) A k Q E u5)→wpAny (model prog w) A (B k) Q E u3) else onward u3) qm u2) qm u1) qm u
theorem mC{elt tg iter tg2 iter2:Expr}{ifs ifs2:List Expr}{scope:Scope}{pos:Pos}{it acc:Value}{env:Env}(J:Nat→Shared→Prop)
    (turn:∀n u,J n u→wpAny (model prog w) A (pyNext it) (fun r u1=>(r=none→R (.ok .next) u1)∧∀v,r=some v→vM prog w A (ip elt tg iter tg2 iter2 ifs ifs2 scope pos acc env) tg ifs env it (fun u2=>∃m,m < n∧J m u2) v u1) qm u){n0:Nat}{u0:Shared}(dB:J n0 u0):
    codeAny (model prog w) A (.compLoop (.ListComp elt [⟨tg,iter,ifs,0⟩,⟨tg2,iter2,ifs2,0⟩] scope pos) 0 it acc env) R u0:=by
  refine codeAny_loop rfl J (fun n u ju=>?_) n0 dB
  show wpAny _ A ((compTurn (.ListComp elt [⟨tg,iter,ifs,0⟩,⟨tg2,iter2,ifs2,0⟩] scope pos) 0 it acc env).onRaise _) _ _ u;refine wpAny_noted ?_;rw [mE]
  refine wpAny_bind (wpAny_standAt (wpAny_bind (wpAny_mono (turn n u ju) (fun r u1 k1=>?_) fun _ _ z=>z.elim)))
  cases r with
  | none=>exact wpAny_pure (k1.1 rfl)
  | some v=>
    refine wpAny_bind (wpAny_mono (k1.2 v rfl) (fun _ u2 k2=>wpAny_bind (wpAny_mono k2 (fun _ u3 k3=>wpAny_bind (wpAny_mono k3 (fun ok u4 k4=>?_) fun _ _ z=>z.elim)) fun _ _ z=>z.elim)) fun _ _ z=>z.elim)
    cases ok with
    | false=>rw [if_neg Bool.false_ne_true] at k4;exact wpAny_pure ⟨rfl,k4⟩
    | true=>
      rw [if_pos rfl] at k4
      exact k4 _ _ _ fun u6 k6=>wpAny_pure ⟨rfl,k6⟩
theorem nG{elt tg iter tg2 iter2:Expr}{ifs ifs2:List Expr}{scope:Scope}{pos:Pos}{it acc:Value}{env:Env}(J:Nat→Shared→Prop)
    (turn:∀n u,J n u→wpAny (model prog w) A (pyNext it) (fun r u1=>(r=none→R (.ok .next) u1)∧∀v,r=some v→sO prog w A elt tg2 ifs2 env it acc (fun u2=>∃m,m < n∧J m u2) v u1) qm u){n0:Nat}{u0:Shared}(dB:J n0 u0):
    codeAny (model prog w) A (.compLoop (.ListComp elt [⟨tg,iter,ifs,0⟩,⟨tg2,iter2,ifs2,0⟩] scope pos) 1 it acc env) R u0:=by
  refine codeAny_loop rfl J (fun n u ju=>?_) n0 dB
  show wpAny _ A ((compTurn (.ListComp elt [⟨tg,iter,ifs,0⟩,⟨tg2,iter2,ifs2,0⟩] scope pos) 1 it acc env).onRaise _) _ _ u;refine wpAny_noted ?_;rw [nH]
  refine wpAny_bind (wpAny_standAt (wpAny_bind (wpAny_mono (turn n u ju) (fun r u1 k1=>?_) fun _ _ z=>z.elim)))
  cases r with
  | none=>exact wpAny_pure (k1.1 rfl)
  | some v=>
    refine wpAny_bind (wpAny_mono (k1.2 v rfl) (fun _ u2 k2=>wpAny_bind (wpAny_mono k2 (fun _ u3 k3=>wpAny_bind (wpAny_mono k3 (fun ok u4 k4=>?_) fun _ _ z=>z.elim)) fun _ _ z=>z.elim)) fun _ _ z=>z.elim)
    cases ok with
    | false=>rw [if_neg Bool.false_ne_true] at k4;exact wpAny_pure ⟨rfl,k4⟩
    | true=>
      rw [if_pos rfl] at k4
      refine wpAny_bind (wpAny_bind (wpAny_mono k4 (fun x u5 k5=>wpAny_bind (wpAny_mono k5 (fun _ u6 k6=>?_) fun _ _ z=>z.elim)) fun _ _ z=>z.elim));exact wpAny_pure (wpAny_pure ⟨rfl,k6⟩)
theorem mD{elt tg iter tg2 iter2:Expr}{ifs ifs2:List Expr}{scope:Scope}{pos:Pos}{it acc:Value}{env:Env}{s:Shared}
    (h0:codeAny (model prog w) A (.compLoop (.ListComp elt [⟨tg,iter,ifs,0⟩,⟨tg2,iter2,ifs2,0⟩] scope pos) 1 it acc env) R s)
    (h:wpAny (model prog w) A (pyIter it) (fun it' s'=>codeAny (model prog w) A (.compLoop (.ListComp elt [⟨tg,iter,ifs,0⟩,⟨tg2,iter2,ifs2,0⟩] scope pos) 1 it' acc env) R s') (notedBy (model prog w) A env fun x s'=>R (.error x) s') s):
    codeAny (model prog w) A (.compStart (.ListComp elt [⟨tg,iter,ifs,0⟩,⟨tg2,iter2,ifs2,0⟩] scope pos) 1 it acc env) R s:=by
  refine codeAny_of_tree ?_;show wpAny _ _ ((compStart (.ListComp elt [⟨tg,iter,ifs,0⟩,⟨tg2,iter2,ifs2,0⟩] scope pos) 1 it acc env).onRaise (fun x=>do noteFrame x env;standAt theWindowsPlace)) _ _ s
  refine wpAny_notedAt ?_;unfold compStart
  show wpAny _ _ (ask >>= _) _ _ s
  refine wpAny_bind (wpAny_askSetting (wpAny_ite ?_));split
  · first | exact wpAny_bind (wpAny_pure (wpAny_pure (And.intro rfl h0))) | exact wpAny_pure (And.intro rfl h0)
  · first | exact wpAny_bind (wpAny_rule (wpAny_bind (wpAny_standAt (wpAny_bind (wpAny_mono h (fun it' s' h'=>wpAny_pure (And.intro rfl h')) fun _ _ x=>x))))) | (refine wpAny_bind (wpAny_rule ?_);show wpAny _ _ (standAt iter2.pos >>= _) _ _ s;exact wpAny_bind (wpAny_standAt (wpAny_bind (wpAny_mono h (fun it' s' h'=>wpAny_pure (And.intro rfl h')) fun _ _ x=>x))))
end
def vp(l:Addr)(wi:TI)(g:TG)(tc:TT)(te:TE)(σ:L2.St)(H:Hp)(N:L2.St→Hp→Prop):Prop:=
  wi σ H fun J H1=>∃W:Nat→Nat→L2.St→Hp→Prop,(∃m,W 0 m σ H1)∧∀i m σ' H',W i m σ' H'→
    (J.stop i H'∧N σ' H')∨(J.go i H'∧∃N2:L2.St→Hp→Prop,(∀σ2 H2,N2 σ2 H2→∃m',m' < m∧W (i+1) m' σ2 H2)∧
      ∀x H2,J.yld i H' x H2→g x σ' H2 fun σ2 H3=>tc σ2 H3 fun b H4=>if b=true then te σ2 H4 fun v H5=>∃ys,H5 l=some (.lst ys)∧ys.length < sizeLine∧N2 σ2 (a7 H5 l (.lst (ys++[v]))) else N2 σ2 H4)
theorem tT{Y:Cx}{elt tg iter tg2 iter2:Expr}{ifs ifs2:List Expr}{scope:Scope}{pos:Pos}{wi:TI}{g:TG}{tc:TT}{te:TE}(hc:Y.calm=true)(hxe:Y.xe=qm)(hi:PI Y tg2 iter2 wi)(hg:PG Y tg2 g)(ht:si Y ifs2 tc)(he:PE Y elt te)
    (hs:∀x,foldedSetIterable iter2 Y.env x=pure x){pins:List (Addr × Obj)}{s:Shared}{σ:L2.St}{H:Hp}{D:Addr}{N:L2.St→Hp→Prop}(I:ar Y pins σ H s)(h:vp D wi g tc te σ H N)(k:Sem PySem.Fin)(Q:PySem.Fin→Shared→Prop)(E:Value→Shared→Prop)(hk:∀s',(∃σ' H',ar Y pins σ' H' s'∧N σ' H')→wpAny (model Y.prog Y.w) Y.A k Q E s'):
    wpAny (model Y.prog Y.w) Y.A (ip elt tg iter tg2 iter2 ifs ifs2 scope pos (.ref D) Y.env k) Q E s:=by
  unfold ip
  have hi':=hi pins s σ H _ I h
  rw [hxe] at hi'
  refine wpAny_bind (wpAny_mono hi' (fun v s1 h1=>wpAny_bind (wpAny_standAt (wpAny_bind (wpAny_of_eq (hs v) (wpAny_bind (wpAny_holding (wpAny_mono h1 (fun itv s2 h2=>?_) fun _ _ z=>z.elim))))))) fun _ _ z=>z.elim)
  obtain⟨it,fp,tn,J,H2,rfl,I2,T,st2,f2,W,⟨m0,w0⟩,turn⟩:=h2
  have stat:∀{H':Hp},(∀b∈fp,H' b=none)→∀b∈fp,iI Y pins H' b:=fun hn b hb=>⟨hn b hb,(f2 b hb).2⟩
  have loop:codeAny (model Y.prog Y.w) Y.A (.compLoop (.ListComp elt [⟨tg,iter,ifs,0⟩,⟨tg2,iter2,ifs2,0⟩] scope pos) 1 (.ref it) (.ref D) Y.env) (fun r s'=>match r with | .ok f=>wpAny (model Y.prog Y.w) Y.A k Q E s' | .error e=>cameBackBy (model Y.prog Y.w) Y.A Y.env E e s') s2:=by
    refine nG (fun n s'=>∃i σ' H',ar Y pins σ' H' s'∧tn i s'.heap∧(∀b∈fp,H' b=none)∧W i n σ' H') ?_ (n0:=m0) ⟨0,σ,H2,I2,st2,fun b hb=>(f2 b hb).1,w0⟩
    rintro n s3 ⟨i,σ3,H3,I3,st3,fr3,w3⟩
    rcases turn i n σ3 H3 w3 with ⟨stop,qn⟩ | ⟨go,N2,hN,step⟩
    · refine bw (T.done Y rfl rfl rfl hc i pins s3 σ3 H3 qm I3 (stat fr3) st3 stop) fun r s4 ⟨hr,I4⟩=>?_
      subst hr
      exact⟨fun _=>hk _ ⟨σ3,H3,I4,qn⟩,fun v z=>by cases z⟩
    · refine bw (T.item Y rfl rfl rfl hc i pins s3 σ3 H3 qm I3 (stat fr3) st3 go) fun r s4 ⟨u,hr,h4⟩=>?_
      subst hr
      refine⟨fun z=>(by cases z),fun v z=>?_⟩
      cases z
      refine bw h4 fun _ s5 ⟨x,H5,I5,r5,y5,st5,fr5⟩=>?_
      have I5':=I5.pinned (stat fr5) (T.obj _ _ st5)
      have again:∀{σ8:L2.St} {H8:Hp} {s8:Shared},ar Y (pins++g9 fp s5.heap) σ8 H8 s8→N2 σ8 H8→∃m,m < n∧∃i σ' H',ar Y pins σ' H' s8∧tn i s8.heap∧(∀b∈fp,H' b=none)∧W i m σ' H':=fun{σ8 H8 s8} I8 n8=>by
        obtain⟨m',hm,w8⟩:=hN σ8 H8 n8
        refine⟨m',hm,i+1,σ8,H8,I8.unpinned,T.keep _ _ _ st5 fun b hb o e=>(I8.pin (b,o) (List.mem_append_right _ (List.mem_append_right _ (bR hb e)))).1,fun b hb=>?_,w8⟩
        obtain⟨o,e,d⟩:=T.obj _ _ st5 b hb
        exact(I8.pin (b,o) (List.mem_append_right _ (List.mem_append_right _ (bR hb e)))).2.1
      have hg':=hg _ s5 σ3 H5 x u _ I5' r5 (step x H5 y5)
      rw [hxe] at hg'
      refine bw hg' fun _ s8 ⟨σ8,H8,I8,q8⟩=>?_
      have ht':=ht _ s8 σ8 H8 _ I8 q8
      rw [hxe] at ht'
      refine bw ht' fun ok s9 ⟨H9,I9,q9⟩=>?_
      cases ok with
      | false=>
        rw [if_neg Bool.false_ne_true] at q9 ⊢
        exact again I9 q9
      | true=>
        rw [if_pos rfl] at q9 ⊢
        have he':=he _ s9 σ8 H9 _ I9 q9
        rw [hxe] at he'
        refine bw he' fun v s10 ⟨xv,H10,I10,r10,ys,hl,hz,n10⟩=>?_
        have ha:=iS _ s10 σ8 H10 (.ref D) [xv] (.ref D) [v] (fun _ H=>N2 σ8 H) I10 rfl (.cons r10 .nil) ⟨D,ys,xv,rfl,rfl,hl,hz,n10⟩
        rw [hxe] at ha
        refine bw ha fun _ s11 ⟨_,H11,I11,_,q11⟩=>?_
        exact again I11 q11
  exact wpAny_bind (wpAny_runOwn (mD loop (T.self Y.A 0 _ _ _ st2 loop)))
structure pN (cp:List (Nat × Str)) (nT:Nat) (wi:TI) (g:TG) (tc:TT) (wi2:TI) (g2:TG) (tc2:TT) (te:TE) (σ:L2.St) (H:Hp) (Q:VK):Prop where
  go:wi σ H fun J H1=>∀l,H1 l=none→
  ∃W:Nat→Nat→L2.St→Hp→Prop,(∃m,W 0 m (dn cp nT σ) (a7 H1 l (.lst [])))∧∀i m σ' H',W i m σ' H'→
    (J.stop i H'∧Q (.ref l) H')∨(J.go i H'∧∃N:L2.St→Hp→Prop,(∀σ2 H2,N σ2 H2→∃m',m' < m∧W (i+1) m' σ2 H2)∧
      ∀x H2,J.yld i H' x H2→g x σ' H2 fun σ2 H3=>tc σ2 H3 fun b H4=>if b=true then vp l wi2 g2 tc2 te σ2 H4 N else N σ2 H4)
def eS(g:FG)(ft:FT)(fi2:FI)(g2:FG)(ft2:FT)(fe:FE):List PyData→En→List PyData→Option (List PyData × En)
  | [],e,acc=>some (acc,e)
  | x::r,e,acc=>(g x e).bind fun e1=>(ft e1).bind fun b=>if b.1=true then(fi2 b.2).bind fun p=>if p.2.1=[] then(dU g2 ft2 fe p.1 p.2.2 acc).bind fun z=>eS g ft fi2 g2 ft2 fe r z.2 z.1 else none else eS g ft fi2 g2 ft2 fe r b.2 acc
def jd(cp:List (Nat × Str))(nT:Nat)(fi:FI)(g:FG)(ft:FT)(fi2:FI)(g2:FG)(ft2:FT)(fe:FE):FE:=fun e=>(fi e).bind fun p=>if (p.2.1.all fun q=> !(cp.any fun c=>c.1==q.1))=true then(eS g ft fi2 g2 ft2 fe p.1 (jK cp nT p.2.2) []).bind fun z=>if iK cp z.2 p.2.2=true then some (.l z.1,jc (iX cp) z.2 p.2.2) else none else none
section
variable{K:PySem.W.Frag}{F H:Hp}{σ:L2.St}{e:En}{cp:List (Nat × Str)}{nT:Nat}
theorem r_{Q:VK}{fi fi2:FI}{g g2:FG}{W:List Nat}{ft ft2:FT}{fe:FE}(hn:(cp.map (·.1)).Nodup)(hW:∀j∈W,cp.length≤j)(h:fE K (jd cp nT fi g ft fi2 g2 ft2 fe) σ H Q):pN cp nT (fI K fi) (fG K g W) (fT K ft) (fI K fi2) (fG K g2 W) (fT K ft2) (fE K fe) σ H Q:=by
  obtain⟨F0,e0,z,e',R0,hf,q⟩:=h
  unfold jd at hf
  obtain⟨⟨items,own,e1⟩,h1,hf⟩:=Option.bind_eq_some_iff.mp hf
  dsimp only at hf
  split at hf
  case isFalse=>cases hf
  case isTrue hO=>
  obtain⟨⟨out,eo⟩,h2,hf⟩:=Option.bind_eq_some_iff.mp hf
  dsimp only at hf
  split at hf
  case isFalse=>cases hf
  case isTrue hB=>
  cases hf
  refine⟨⟨F0,e0,items,own,e1,R0,h1,fun J F1 H1 X1 R1 kp ok=>?_⟩⟩
  intro l hl
  obtain⟨Ri,sub⟩:=R1.inn (nT:=nT) hn
  have hFl:F1 l=none:=R1.freeF hl
  let Iv:Nat→L2.St→Hp→Prop:=fun i=>CI K W (dn cp nT σ) F1 H1 (jK cp nT e1) l fun _ ei acc=>eS g ft fi2 g2 ft2 fe (items.drop i) ei acc=some (out,eo)
  have notown:∀p∈own,∀a,σ[p.1]?=some (some (.ref a))→¬bN (dn cp nT σ) (jK cp nT e1) H1 a:=by
    rintro p hp a ha ⟨k,zf⟩
    obtain⟨xs,c1,c2⟩:=zf.resolve_right fun⟨xss,_,_,z,_⟩=>eY k xss z
    obtain⟨i,s,d1,d2⟩:=eX c1
    have e2:=iF d1 c2
    have:p.1=i:=R1.inj p.1 i p.2 xs a (kp p hp) d2 ha e2
    have hh:=List.all_eq_true.mp hO p hp
    simp only [Bool.not_eq_true',List.any_eq_false,beq_iff_eq] at hh
    exact hh (i,s) (List.mem_of_getElem? d1) this.symm
  refine⟨fun i m σ' H'=>m=items.length - i∧i≤items.length∧Iv i σ' H',⟨items.length,by simp,Nat.zero_le _,.mk (Ri.putT hFl (fun z=>(Ri.ownH l z) hl)).1 (bZ.refl.putT hl (Ri.putT hFl (fun z=>(Ri.ownH l z) hl)).2) hFl (fun z=>(Ri.ownH l (((Ri.putT hFl (fun z=>(Ri.ownH l z) hl)).2 l).mp z)) hl) am aA.nil h2⟩,?_⟩
  rintro i m σ' H' ⟨rfl,hi,⟨R',X',fl,no,hl',da,hc⟩⟩
  rename_i F' ei acc vs
  have held:qN K σ F' H' own:=fun p hp=>by
    obtain⟨a,us,c1,c2,c3,c4⟩:=R1.own p.1 p.2 (kp p hp)
    exact⟨a,us,c1,X'.tmp a _ c3 (notown p hp a c1),c4.mono X'.sf⟩
  obtain⟨go,stop,yld⟩:=ok F' H' X'.sf R'.sm held
  by_cases hlt:i < items.length
  · have hd:items.drop i=items[i]::items.drop (i+1):=List.drop_eq_getElem_cons hlt
    rw [hd] at hc
    unfold eS at hc
    obtain⟨e2,c2,hc⟩:=Option.bind_eq_some_iff.mp hc
    obtain⟨⟨b,e3⟩,c3,hc⟩:=Option.bind_eq_some_iff.mp hc
    refine .inr ⟨go i hlt,Iv (i+1),fun σ2 H2 r=>⟨items.length - (i+1),by lia,rfl,hlt,r⟩,fun x H2 hy=>?_⟩
    obtain⟨F2,sH,sF2,sm2,fz,hx⟩:=yld i items[i] x H2 (List.getElem?_eq_getElem hlt) hy
    obtain⟨R2,X2⟩:=R'.step sH sF2 sm2 fz
    refine⟨F2,ei,items[i],e2,R2,hx,c2,fun σ3 X3 R3=>⟨F2,e2,b,e3,R3,c3,fun F4 H4 X4 R4=>?_⟩⟩
    have hlH2:H2 l=some (.lst vs):=sH _ _ hl'
    have no2:¬bN σ' ei H2 l:=fun z=>by
      rcases X2.ow l z with z | z
      · exact no z
      · rw [hl'] at z;cases z
    have no3:¬bN σ3 e2 H2 l:=fun z=>by
      rcases X3.own l z with z | z
      · exact no2 z
      · rw [hlH2] at z;cases z
    have fl2:F2 l=none:=fz l fl (by rw [hl'];simp)
    have hlH4:H4 l=some (.lst vs):=X4.tmp l _ hlH2 no3
    have fl4:F4 l=none:=X4.fr l vs fl2 hlH2 no3
    have no4:¬bN σ3 e3 H4 l:=fun z=>by
      rcases X4.ow l z with z | z
      · exact no3 z
      · rw [hlH2] at z;cases z
    have E4:bZ W (dn cp nT σ) F1 H1 (jK cp nT e1) σ3 F4 H4 e3:=((X'.trans X2.s).trans X3).trans X4.s
    have da4:=da.mono (sF2.trans X4.sf)
    cases b with
    | false=>
      rw [if_neg (by simp)] at hc
      exact v_ (.mk R4 E4 fl4 no4 hlH4 da4 hc)
    | true=>
      rw [if_pos rfl] at hc
      obtain⟨⟨its2,own2,e5⟩,c5,hc⟩:=Option.bind_eq_some_iff.mp hc
      dsimp only at hc
      split at hc
      case isFalse=>cases hc
      case isTrue ho2=>
      subst ho2
      obtain⟨⟨acc2,e6⟩,c6,hc⟩:=Option.bind_eq_some_iff.mp hc
      refine wa ⟨F4,e3,its2,[],e5,R4,c5,fun J2 F5 H5 X5 R5 _ ok2=>?_⟩
      have hlH5:H5 l=some (.lst vs):=X5.tmp l _ hlH4 no4
      have fl5:F5 l=none:=X5.fr l vs fl4 hlH4 no4
      have no5:¬bN σ3 e5 H5 l:=fun z=>by
        rcases X5.ow l z with z | z
        · exact no4 z
        · rw [hlH4] at z;cases z
      let Iv2:Nat→L2.St→Hp→Prop:=fun j=>CI K W (dn cp nT σ) F1 H1 (jK cp nT e1) l fun F' ei acc=>aq F5 F'∧dU g2 ft2 fe (its2.drop j) ei acc=some (acc2,e6)
      refine⟨fun j m σ' H'=>m=its2.length - j∧j≤its2.length∧Iv2 j σ' H',⟨its2.length,by simp,Nat.zero_le _,.mk R5 (E4.trans X5.s) fl5 no5 hlH5 (da4.mono X5.sf) ⟨aq.refl _,c6⟩⟩,?_⟩
      rintro j m σ6 H6 ⟨rfl,hj,⟨R6,X6,fl6,no6,hl6,da6,s6,hc6⟩⟩
      rename_i F6 ei6 acc6 vs6
      obtain⟨go2,stop2,yld2⟩:=ok2 F6 H6 s6 R6.sm (fun p hp=>by cases hp)
      by_cases hjt:j < its2.length
      · have hd2:its2.drop j=its2[j]::its2.drop (j+1):=List.drop_eq_getElem_cons hjt
        rw [hd2] at hc6
        unfold dU at hc6
        obtain⟨e7,c7,hc6⟩:=Option.bind_eq_some_iff.mp hc6
        obtain⟨⟨b8,e8⟩,c8,hc6⟩:=Option.bind_eq_some_iff.mp hc6
        refine .inr ⟨go2 j hjt,Iv2 (j+1),fun σ2 H2 r=>⟨its2.length - (j+1),by lia,rfl,hjt,r⟩,fun x7 H7 hy7=>?_⟩
        obtain⟨F7,sH7,sF7,sm7,fz7,hx7⟩:=yld2 j its2[j] x7 H7 (List.getElem?_eq_getElem hjt) hy7
        obtain⟨R7,X7⟩:=R6.step sH7 sF7 sm7 fz7
        refine⟨F7,ei6,its2[j],e7,R7,hx7,c7,fun σ8 X8 R8=>⟨F7,e7,b8,e8,R8,c8,fun F9 H9 X9 R9=>?_⟩⟩
        have hlH7:H7 l=some (.lst vs6):=sH7 _ _ hl6
        have no7:¬bN σ6 ei6 H7 l:=fun z=>by
          rcases X7.ow l z with z | z
          · exact no6 z
          · rw [hl6] at z;cases z
        have no8:¬bN σ8 e7 H7 l:=fun z=>by
          rcases X8.own l z with z | z
          · exact no7 z
          · rw [hlH7] at z;cases z
        have fl7:F7 l=none:=fz7 l fl6 (by rw [hl6];simp)
        have hlH9:H9 l=some (.lst vs6):=X9.tmp l _ hlH7 no8
        have fl9:F9 l=none:=X9.fr l vs6 fl7 hlH7 no8
        have no9:¬bN σ8 e8 H9 l:=fun z=>by
          rcases X9.ow l z with z | z
          · exact no8 z
          · rw [hlH7] at z;cases z
        have E9:bZ W (dn cp nT σ) F1 H1 (jK cp nT e1) σ8 F9 H9 e8:=((X6.trans X7.s).trans X8).trans X9.s
        have s9:aq F5 F9:=(s6.trans sF7).trans X9.sf
        cases b8 with
        | false=>
          rw [if_neg (by simp)] at hc6
          exact v_ (.mk R9 E9 fl9 no9 hlH9 (da6.mono (sF7.trans X9.sf)) ⟨s9,hc6⟩)
        | true=>
          rw [if_pos rfl] at hc6
          obtain⟨⟨r,e10⟩,c10,hc6⟩:=Option.bind_eq_some_iff.mp hc6
          obtain⟨d,c11,hc6⟩:=Option.bind_eq_some_iff.mp hc6
          split at hc6
          case isFalse=>cases hc6
          case isTrue hlen=>
          refine wa ⟨F9,e8,r,e10,R9,c10,fun Fa Ha v Xa Ra Aa=>?_⟩
          have hlHa:Ha l=some (.lst vs6):=Xa.tmp l _ hlH9 no9
          have fla:Fa l=none:=Xa.fr l vs6 fl9 hlH9 no9
          have noa:¬bN σ8 e10 Ha l:=fun z=>by
            rcases Xa.ow l z with z | z
            · exact no9 z
            · rw [hlH9] at z;cases z
          obtain⟨Fb,Rb,sb,db,fb⟩:=cq.frozen Ra (rs:=[r]) (vs:=[v]) ⟨v,[],rfl,Aa,rfl⟩ (lH c11)
          have flb:Fb l=none:=fb l fla (by rw [hlH9];simp)
          have Xb:=Xa.frz sb fb
          have ll:=da6.len
          have sl:sizeLine=16777216:=sizeLine_eq
          have dv:DA K Fb d v:=by
            simp only [aA] at db
            obtain⟨v',r',e',hv,_⟩:=db
            cases e';exact hv
          obtain⟨Rc,oc⟩:=Rb.putT (ws:=vs6++[v]) flb noa
          exact⟨vs6,hlHa,by lia,.mk Rc ((E9.trans Xb.s).putT hl oc) flb (fun z=>noa ((oc l).mp z)) am ((da6.mono (sF7.trans (X9.sf.trans (Xa.sf.trans sb)))).append (aA.one dv)) ⟨s9.trans (Xa.sf.trans sb),hc6⟩⟩
      · have hd2:its2.drop j=[]:=List.drop_eq_nil_of_le (by lia)
        rw [hd2] at hc6
        cases hc6
        exact .inl ⟨stop2 j (by lia),.mk R6 X6 fl6 no6 hl6 da6 hc⟩
  · have hd:items.drop i=[]:=List.drop_eq_nil_of_le (by lia)
    rw [hd] at hc
    cases hc
    refine .inl ⟨stop i (by lia),?_⟩
    obtain⟨R9,X9,o9⟩:=kR R1 sub eY X'.sf X'.dom X'.fr X'.lst X'.tmp X'.fd R' (fun i k xs g1 g2=>X'.wr k fun z=>by
      obtain⟨s,g⟩:=cT g2
      have:=(List.getElem?_eq_some_iff.mp g).1
      have:=hW k z
      lia) fun i k xs g1 g2=>by
        obtain⟨s,g⟩:=cT g2
        unfold iK at hB
        have hb:=List.all_eq_true.mp hB _ (List.mem_of_getElem? g)
        simp only [g1,g2,Option.getD_some,tU,Bool.not_true,Bool.false_or] at hb
        exact qi.mp hb
    exact q F' H' (.ref l) (X1.trans X9) R9 ⟨l,vs,rfl,X1.dom l hl,fl,hl',da,fun z=>R1.ownH l (o9 l z) hl⟩
end
theorem PG.wide{X:Cx}{K:PySem.W.Frag}{tg:Expr}{g:FG}{W W':List Nat}(h:PG X tg (fG K g W))(hw:∀j,j∈W→j∈W'):PG X tg (fG K g W'):=h.mono fun v σ H Q ⟨F,e,x,e',R,d,hg,q⟩=>⟨F,e,x,e',R,d,hg,fun σ' x=>q σ' (x.mono hw)⟩
section
variable{X:Cx}{K:PySem.W.Frag}{pos:Pos}
end
theorem oA{X:Cx}{ix:Nat}{nm:Str}{posn poss:Pos}{elt iter tg iter2 tg2:Expr}{ifs ifs2:List Expr}{scope:Scope}{pos:Pos}{wi wi2:TI}{g g2:TG}{tc tc2:TT}{te:TE}(sc0:Scope)(N0:List Str)(cp:List (Nat × Str))(tgN:List Str)
    (hc:X.calm=true)(hsc:X.env.scope=sc0)(hN0:X.N=N0)(hi:PI X tg iter wi)
    (hg:∀C s0 H0 fp,PG (av X scope cp tgN C s0 H0 fp) tg g)
    (ht:∀C s0 H0 fp,si (av X scope cp tgN C s0 H0 fp) ifs tc)
    (hi2:∀C s0 H0 fp,PI (av X scope cp tgN C s0 H0 fp) tg2 iter2 wi2)
    (hg2:∀C s0 H0 fp,PG (av X scope cp tgN C s0 H0 fp) tg2 g2)
    (ht2:∀C s0 H0 fp,si (av X scope cp tgN C s0 H0 fp) ifs2 tc2)
    (he:∀C s0 H0 fp,PE (av X scope cp tgN C s0 H0 fp) elt te)
    (hk:scope.kind=.function)(hcell:∀y∈scope.names,y.2≠.cell)(hnames:∀y∈scope.names,y.2=.local→scope.names.lookup y.1=some .local)
    (hfr:∀y∈scope.names,y.2=.free→scope.names.lookup y.1=some .free∧sc0.names.lookup y.1=some .cell)
    (hcp:∀p∈cp,N0[p.1]?=some p.2)(hcq:∀p∈cp,sc0.names.lookup p.2=some .cell∧scope.names.lookup p.2=some .free)
    (hNd:X.N.Nodup)(hix:X.N[ix]?=some nm)(hlc:X.env.scope.names.lookup nm=some .local)(hsw:swapsWith (.ListComp elt [⟨tg,iter,ifs,0⟩,⟨tg2,iter2,ifs2,0⟩] scope pos) (some (.Name nm posn)) poss.line X.env=pure true)
    (hs2:∀C s0 H0 fp x,foldedSetIterable iter2 (av X scope cp tgN C s0 H0 fp).env x=pure x)(hs:∀x,foldedSetIterable iter X.env x=pure x:=by intro _;rfl):
    PS X (.Assign [.Name nm posn] (.ListComp elt [⟨tg,iter,ifs,0⟩,⟨tg2,iter2,ifs2,0⟩] scope pos) poss) (Al (pN cp tgN.length wi g tc wi2 g2 tc2 te) (tJ ix)):=by
  intro pins s σ H D0 I h
  let Q:VK:=fun x H1=>D0.nx (σ.set ix (some x)) H1
  have h:pN cp tgN.length wi g tc wi2 g2 tc2 te σ H Q:=h
  have hkind:∀x,X.env.kindOf x=sc0.names.lookup x:=fun x=>by unfold Env.kindOf;rw [hsc]
  have hfree:∀y∈scope.names,y.2=.free→∃c,X.env.cells.lookup y.1=some c:=fun y hy e=>I.ok.has y.1 (.inl (by rw [hkind];exact(hfr y hy e).2))
  rw [exec_Assign_Name_used _ _ _ _ hsw]
  refine wpAny_bind (wpAny_standAt (wpAny_bind ?_))
  unfold evalThenUse
  refine wpAny_bind ?_
  refine wpAny_comprehension_free (use:=some (assign (.Name nm posn) X.env)) rfl hs (j3 hfree) hk hnames (wpAny_mono (hi pins s σ H _ I h.go) (fun xv s₁ h₁=>wpAny_mono h₁ (fun itv s₂ h₂=>?_) fun _ _ e=>e) fun _ _ e=>e)
  obtain⟨it,fp,tn,J,H2,rfl,I2,T,st2,f2,hq⟩:=h₂
  refine wpAny_newObj_type ?_
  have hlF:H2 s₂.heap.objs.size=none:=I2.hok.fresh (Nat.le_refl _)
  have I3:ar X pins σ (a7 H2 s₂.heap.objs.size (.lst [])) {s₂ with heap:=s₂.heap.push {cls:=.type "list",data:=.seq ([]:List Value).toArray}}:=I2.lnew (t':=s₂.toks) .nil (Nat.zero_le _)
  obtain⟨W,⟨m0,w0⟩,turn⟩:=hq _ hlF
  have f3:∀b∈fp,iI X pins (a7 H2 s₂.heap.objs.size (.lst [])) b:=fun b hb=>by
    obtain⟨f0,fr⟩:=f2 b hb
    obtain⟨o,ho,_⟩:=T.obj _ _ st2 b hb
    exact⟨by rw [aB (Nat.ne_of_lt (Heap.lt_size ho))];exact f0,fr⟩
  have st3:tn 0 (s₂.heap.push {cls:=.type "list",data:=.seq ([]:List Value).toArray}):=T.keep _ _ _ st2 fun b _ o e=>Heap.get?_push_of_some _ e
  generalize hD:s₂.heap.objs.size=D at*
  generalize hs3:({s₂ with heap:=s₂.heap.push {cls:=.type "list",data:=.seq ([]:List Value).toArray}}:Shared)=s₃ at*
  have hst3:tn 0 s₃.heap:=by rw [←hs3];exact st3
  refine wpAny_newFunctionEnv hcell (by intro y hy;simp at hy) (fun h₁ hns₁ hsb₁=>?_) hk
  generalize hC:s₃.heap.objs.size=C at*
  have old:∀b o,s₃.heap.get? b=some o→h₁.get? b=some o:=fun b o e=>hsb₁.extBut b o (by rw [←hC];exact Nat.ne_of_lt (Heap.lt_size e)) (Heap.get?_push_of_some _ e)
  have nC:∀b o,s₃.heap.get? b=some o→b≠C:=fun b o e=>by rw [←hC];exact Nat.ne_of_lt (Heap.lt_size e)
  have hHC:(a7 H2 D (.lst [])) C=none:=I3.hok.fresh (by rw [hC];exact Nat.le_refl _)
  have clS:∀x c,(fF X.env scope.names []).lookup x=some c→X.env.cells.lookup x=some c:=fun x c e=>gR _ _ x c hfree (fun _ _ z=>by simp at z) e
  have clH:∀x,(∃y∈scope.names,y.1=x∧y.2=.free)→∃c,(fF X.env scope.names []).lookup x=some c:=fun x e=>j2 _ _ x (.inl e)
  have ok':(av X scope cp tgN C s₃ (a7 H2 D (.lst [])) fp).Ok:=by
    refine⟨I.ok.mod,hk,I.ok.glob,I.ok.blt,by rw [←hC];exact Nat.le_refl _,fun x y c e1 e2=>I.ok.inj x y c (clS _ _ e1) (clS _ _ e2),fun x e=>clH x (cH hcell e),fun x c e1 e2=>?_,I.ok.hd,I.ok.frames,.inl rfl,fun b hb=>?_,fun b o e=>I3.bs b o e,?_,fun b o e hb=>?_,fun b hb z=>?_,I3.stack,fun b hb=>I3.stkFree b hb⟩
    · exfalso
      have e1':scope.names.lookup x=some .local:=by simpa [av] using e1
      have e2':=clS x c e2
      obtain⟨c',hc'⟩:∃y∈scope.names,y.1=x∧y.2=.free:=by
        by_cases q:∃y∈scope.names,y.1=x∧y.2=.free
        · exact q
        · exfalso
          have:∀(names:List (Str × NameKind)) (cs:List (Str × Addr)),(¬∃y∈names,y.1=x∧y.2=.free)→cs.lookup x=none→(fF X.env names cs).lookup x=none:=by
            intro names
            induction names with
            | nil=>intro cs _ h;exact h
            | cons y r ih=>
              intro cs hn hcs
              obtain⟨n,k⟩:=y
              refine ih _ (fun⟨y,hy,z⟩=>hn ⟨y,List.mem_cons_of_mem _ hy,z⟩) ?_
              by_cases hk:(k==NameKind.free)=true
              · rw [if_pos hk,List.lookup_cons]
                cases hx:x==n with
                | true=>exact absurd ⟨(n,k),List.mem_cons_self,(by simpa using hx:x=n).symm,by simpa using hk⟩ hn
                | false=>exact hcs
              · rw [if_neg hk];exact hcs
          have z:=this scope.names [] q rfl
          have e2'':(fF X.env scope.names []).lookup x=some c:=e2
          rw [z] at e2'';cases e2''
      have z:=(hfr c' hc'.1 hc'.2.2).1
      rw [hc'.2.1,e1'] at z;cases z
    · obtain⟨f0,f1,f4,f5,f6,f7⟩:=f3 b hb
      obtain⟨o,ho,_⟩:=T.obj _ _ hst3 b hb
      exact⟨nC b o ho,fun x c e=>f6 x c (clS x c e)⟩
    · exact Nat.le_trans I.ok.bsz I3.sz
    · obtain⟨f0,f1,f4,f5,f6,f7⟩:=f3 b hb
      rcases f5 with z | z
      · exact I.ok.noex b o e z
      · have:=(I.ok.bs b o e).1
        exact absurd (Nat.lt_of_lt_of_le (Heap.lt_size this) z) (Nat.lt_irrefl _)
    · obtain⟨f0,f1,f4,f5,f6,f7⟩:=f3 b hb
      rcases List.mem_cons.mp (I3.stkSub b z) with z | z
      · exact f1 z
      · exact f4 z
  have I4:ar (av X scope cp tgN C s₃ (a7 H2 D (.lst [])) fp) [] (dn cp tgN.length σ) (a7 H2 D (.lst [])) {s₃ with heap:=h₁,toks:=s₃.toks+([]:List (Str × Value)).length}:=by
    refine⟨ok',rfl,I3.bare,Un.kept old,⟨_,hns₁,fun i x v e1 e2 e3=>?_⟩,fun x c e=>?_,hHC,fun x c e=>I3.freeC x c (clS x c e),fun p hp=>by simp [av] at hp,I3.hok.kept old,by simp [dn,av]⟩
    · have hlt:i < cp.length:=by
        by_cases q:i < cp.length
        · exact q
        · exfalso
          unfold dn at e2
          rw [List.getElem?_append_right (by simp;lia)] at e2
          rw [List.getElem?_replicate] at e2
          split at e2<;>cases e2
      have e1':(cp.map (·.2))[i]?=some x:=by
        have e1'':(cp.map (·.2)++tgN)[i]?=some x:=e1
        rwa [List.getElem?_append_left (by simp;exact hlt)] at e1''
      have e2':(cp.map (fun p=>(σ[p.1]?).join))[i]?=some (some v):=by
        unfold dn at e2
        rwa [List.getElem?_append_left (by simp;exact hlt)] at e2
      rw [List.getElem?_map,List.getElem?_eq_getElem hlt] at e1' e2'
      have ex:(cp[i]).2=x:=by simpa using e1'
      have ev:(σ[(cp[i]).1]?).join=some v:=by simpa using e2'
      have ev':σ[(cp[i]).1]?=some (some v):=by
        cases q:σ[(cp[i]).1]? with
        | none=>rw [q] at ev;cases ev
        | some z=>rw [q] at ev;simp only [Option.join_some] at ev;rw [ev]
      have hN:=hcp cp[i] (List.getElem_mem hlt)
      rw [←hN0] at hN
      obtain⟨hcl,hcf⟩:=hcq cp[i] (List.getElem_mem hlt)
      rw [ex] at hN hcl hcf
      obtain⟨m,hn,hl⟩:=I3.loc
      obtain⟨u,r,l⟩:=hl _ x v hN ev' (.inr (.inl (by rw [hsc];exact hcl)))
      refine⟨u,r,.inr ?_⟩
      rcases l with ⟨k1,_⟩ | ⟨k1,c,hcc,o,ho,hd⟩
      · rw [hkind,hcl] at k1;cases k1
      · have e3':(relabel scope X.env).names.lookup x=some .local∨(relabel scope X.env).names.lookup x=some .cell∨(relabel scope X.env).names.lookup x=some .free:=e3
        have nl:(relabel scope X.env).names.lookup x=some .cell∨(relabel scope X.env).names.lookup x=some .free:=by
          rcases e3' with z | z | z
          · exact absurd z (dw hcf)
          · exact .inl z
          · exact .inr z
        obtain⟨c',hc'⟩:=clH x (cH hcell nl)
        have:=clS x c' hc'
        rw [hcc] at this;cases this
        exact⟨nl,c,hc',o,old c o ho,hd⟩
    · obtain⟨v,o,ho,hd⟩:=I3.cell x c (clS x c e)
      exact⟨v,o,old c o ho,hd⟩
  have hst4:tn 0 h₁:=T.keep _ _ _ hst3 fun b _ o e=>old b o e
  have loop:codeAny (model X.prog X.w) X.A (.compLoop (.ListComp elt [⟨tg,iter,ifs,0⟩,⟨tg2,iter2,ifs2,0⟩] scope pos) 0 (.ref it) (.ref D) (compEnvC scope (fF X.env scope.names []) C X.env))
      (compPost (model X.prog X.w) X.A X.xe (some (assign (.Name nm posn) X.env)) (fun _ s'=>wpAny (model X.prog X.w) X.A (pure ()) (fun _ s''=>wpAny (model X.prog X.w) X.A (pure Flow.next) (SP X pins D0) X.xe s'') X.xe s') (.ref D) C) {s₃ with heap:=h₁,toks:=s₃.toks+([]:List (Str × Value)).length}:=by
    refine mC (fun n s'=>∃i σ' H',ar (av X scope cp tgN C s₃ (a7 H2 D (.lst [])) fp) [] σ' H' s'∧tn i s'.heap∧(∀b∈fp,H' b=none)∧W i n σ' H') ?_ (n0:=m0) ⟨0,_,_,I4,hst4,fun b hb=>(f3 b hb).1,w0⟩
    rintro n s5 ⟨i,σ5,H5,I5,st5,fr5,w5⟩
    have stat:∀{H':Hp},(∀b∈fp,H' b=none)→∀b∈fp,iI (av X scope cp tgN C s₃ (a7 H2 D (.lst [])) fp) [] H' b:=fun hn b hb=>
      ⟨hn b hb,(ok'.exf b hb).1,ok'.exfs b hb,.inl hb,(ok'.exf b hb).2,fun p hp=>by simp [av] at hp⟩
    rcases turn i n σ5 H5 w5 with ⟨stop,qn⟩ | ⟨go,N,hN,step⟩
    · refine bw (T.done (av X scope cp tgN C s₃ (a7 H2 D (.lst [])) fp) rfl rfl rfl hc i [] s5 σ5 H5 (fun _ _=>False) I5 (stat fr5) st5 stop) fun r s6 ⟨hr,I6⟩=>?_
      subst hr
      refine⟨fun _=>?_,fun v z=>by cases z⟩
      obtain⟨m,hn,_⟩:=I6.loc
      have I7:ar X pins σ H5 s6:=by
        have key:∀h':Heap,Heap.SameBut C s6.heap h'→ar X pins σ H5 {s6 with heap:=h'}:=fun h' sb=>by
          have ub:=I6.base
          have kp:∀b u,b≠C→s6.heap.get? b=some u→h'.get? b=some u:=fun b u ne e=>sb.extBut b u ne e
          have nit:∀b u,H5 b=some u→b≠C:=fun b u e z=>by
            have:=I6.free
            rw [z] at e
            rw [show H5 C=none from this] at e;cases e
          refine I3.call' (s':={s6 with heap:=h'}) (ch:=fp) I6.os ⟨fun b o e n hb hx=>kp b o (nC b o e) (ub.keep b o e n hb hx),fun b o e n hb hx=>?_,ub.free,fun b o e hx=>?_,ub.tups,ub.frzs,ub.tbls⟩ (fun b u e=>?_) I6.bare (fun b hb=>?_)
          · obtain⟨sl,q⟩:=ub.slot b o e n hb hx
            exact⟨sl,kp b _ (nC b o e) q⟩
          · obtain⟨o',q⟩:=ub.there b o e hx
            exact⟨o',kp b _ (nC b o e) q⟩
          · refine(I6.hok b u e).stay (fun c v hc q=>kp c v ?_ q) (fun _ q=>q) fun _ _ q=>q
            rcases hc with z | z
            · rw [z];exact nit b u e
            · exact nit c _ z
          · obtain⟨f0,f1,f4,f5,f6,f7⟩:=f3 b hb
            exact⟨f5,f1,f6,f7⟩
        exact key s6.heap ⟨rfl,fun _ _=>rfl⟩
      have fC:iI X pins H5 C:=I3.fpOk (by rw [hC];exact Nat.le_refl _) I6.free
      show wpAny (model X.prog X.w) X.A (assign (.Name nm posn) X.env (.ref D)) _ X.xe s6
      refine wpAny_assign_Name (ma (v:=.ref D) I7 hNd hix (Or.inl hlc) rfl (fun s' I' hsb=>?_) (Or.inr hlc))
      obtain⟨a,sb,ha⟩:=hsb
      have nCa:C≠a:=by
        rcases ha with z | z
        · rw [z];exact fC.2.1
        · exact fun e=>fC.2.2.2.2.1 _ _ z e.symm
      obtain⟨oN,esN,epN,hoN,rN⟩:=hn
      refine⟨m,⟨oN,esN,epN,(sb.2 C nCa).trans hoN,rN⟩,fun h' sb'=>wpAny_pure (wpAny_pure ?_)⟩
      have I8:ar X pins (σ.set ix (some (.ref D))) H5 {s' with heap:=h',toks:=s'.toks}:=I'.turnedL (t':=s'.toks) (fp:=[C]) (fun b hb=>by rw [List.mem_singleton.mp hb];exact fC) fun b o nb e=>sb'.extBut b o (by simpa using nb) e
      exact⟨_,H5,I8,qn⟩
    · refine bw (T.item (av X scope cp tgN C s₃ (a7 H2 D (.lst [])) fp) rfl rfl rfl hc i [] s5 σ5 H5 (fun _ _=>False) I5 (stat fr5) st5 go) fun r s6 ⟨u,hr,h6⟩=>?_
      subst hr
      refine⟨fun z=>(by cases z),fun v z=>?_⟩
      cases z
      refine bw h6 fun _ s7 ⟨x,H7,I7,r7,y7,st7,fr7⟩=>?_
      have I7':=I7.pinned (stat fr7) (T.obj _ _ st7)
      have again:∀{σ8:L2.St} {H8:Hp} {s8:Shared},ar (av X scope cp tgN C s₃ (a7 H2 D (.lst [])) fp) ([]++g9 fp s7.heap) σ8 H8 s8→N σ8 H8→∃m,m < n∧∃i σ' H',ar (av X scope cp tgN C s₃ (a7 H2 D (.lst [])) fp) [] σ' H' s8∧tn i s8.heap∧(∀b∈fp,H' b=none)∧W i m σ' H':=fun{σ8 H8 s8} I8 n8=>by
        obtain⟨m',hm,w8⟩:=hN σ8 H8 n8
        refine⟨m',hm,i+1,σ8,H8,I8.unpinned,T.keep _ _ _ st7 fun b hb o e=>(I8.pin (b,o) (List.mem_append_right _ (List.mem_append_right _ (bR hb e)))).1,fun b hb=>?_,w8⟩
        obtain⟨o,e,d⟩:=T.obj _ _ st7 b hb
        exact(I8.pin (b,o) (List.mem_append_right _ (List.mem_append_right _ (bR hb e)))).2.1
      refine bw (hg C s₃ (a7 H2 D (.lst [])) fp _ s7 σ5 H7 x u _ I7' r7 (step x H7 y7)) fun _ s8 ⟨σ8,H8,I8,q8⟩=>?_
      refine bw (ht C s₃ (a7 H2 D (.lst [])) fp _ s8 σ8 H8 _ I8 q8) fun ok s9 ⟨H9,I9,q9⟩=>?_
      cases ok with
      | false=>
        rw [if_neg Bool.false_ne_true] at q9 ⊢
        exact again I9 q9
      | true=>
        rw [if_pos rfl] at q9 ⊢
        exact fun k Q' E' hk=>tT (Y:=av X scope cp tgN C s₃ (a7 H2 D (.lst [])) fp) hc rfl (hi2 C s₃ _ fp) (hg2 C s₃ _ fp) (ht2 C s₃ _ fp) (he C s₃ _ fp) (hs2 C s₃ _ fp) I9 q9 k Q' E' fun s' ⟨σ11,H11,I11,q11⟩=>hk s' (again I11 q11)
  exact codeAny_compStart_list loop (T.self X.A 0 _ _ _ hst4 loop)
section
variable{X:Cx}{K:PySem.W.Frag}{pos:Pos}
theorem pB{ix:Nat}{nm:Str}{posn poss:Pos}{elt iter tg iter2 tg2:Expr}{ifs ifs2:List Expr}{scope:Scope}{fi fi2:FI}{g g2:FG}{ft ft2:FT}{fe:FE}{W W2:List Nat}(sc0:Scope)(N0:List Str)(cp:List (Nat × Str))(tgN:List Str)
    (hc:X.calm=true)(hsc:X.env.scope=sc0)(hN0:X.N=N0)(hi:PI X tg iter (fI K fi))
    (hg:∀C s0 H0 fp,PG (av X scope cp tgN C s0 H0 fp) tg (fG K g W))
    (ht:∀C s0 H0 fp,si (av X scope cp tgN C s0 H0 fp) ifs (fT K ft))
    (hi2:∀C s0 H0 fp,PI (av X scope cp tgN C s0 H0 fp) tg2 iter2 (fI K fi2))
    (hg2:∀C s0 H0 fp,PG (av X scope cp tgN C s0 H0 fp) tg2 (fG K g2 W2))
    (ht2:∀C s0 H0 fp,si (av X scope cp tgN C s0 H0 fp) ifs2 (fT K ft2))
    (he:∀C s0 H0 fp,PE (av X scope cp tgN C s0 H0 fp) elt (fE K fe))
    (hk:scope.kind=.function)(hcell:∀y∈scope.names,y.2≠.cell)(hnames:∀y∈scope.names,y.2=.local→scope.names.lookup y.1=some .local)
    (hfr:∀y∈scope.names,y.2=.free→scope.names.lookup y.1=some .free∧sc0.names.lookup y.1=some .cell)
    (hcp:∀p∈cp,N0[p.1]?=some p.2)(hcq:∀p∈cp,sc0.names.lookup p.2=some .cell∧scope.names.lookup p.2=some .free)(hnd:(cp.map (·.1)).Nodup)(hW:∀j∈W++W2,cp.length≤j)
    (hNd:X.N.Nodup)(hix:X.N[ix]?=some nm)(hlc:X.env.scope.names.lookup nm=some .local)(hsw:swapsWith (.ListComp elt [⟨tg,iter,ifs,0⟩,⟨tg2,iter2,ifs2,0⟩] scope pos) (some (.Name nm posn)) poss.line X.env=pure true)
    (hs2:∀C s0 H0 fp x,foldedSetIterable iter2 (av X scope cp tgN C s0 H0 fp).env x=pure x)(hs:∀x,foldedSetIterable iter X.env x=pure x):
    PS X (.Assign [.Name nm posn] (.ListComp elt [⟨tg,iter,ifs,0⟩,⟨tg2,iter2,ifs2,0⟩] scope pos) poss) (fS K (aZ ix (jd cp tgN.length fi g ft fi2 g2 ft2 fe)) [ix]):=(oA sc0 N0 cp tgN hc hsc hN0 hi (fun C s0 H0 fp=>(hg C s0 H0 fp).wide fun j hj=>List.mem_append_left W2 hj) ht hi2 (fun C s0 H0 fp=>(hg2 C s0 H0 fp).wide fun j hj=>List.mem_append_right W hj) ht2 he hk hcell hnames hfr hcp hcq hNd hix hlc hsw hs2 hs).mono fun D σ H h=>by
  obtain⟨F,e,fl,R,hf,q⟩:=h
  unfold aZ at hf
  obtain⟨⟨r,e1⟩,h1,hf⟩:=Option.bind_eq_some_iff.mp hf
  obtain⟨e2,h2,hf⟩:=Option.map_eq_some_iff.mp hf
  cases hf
  refine r_ hnd hW ⟨F,e,r,e1,R,h1,fun F1 H1 v X1 R1 A1=>?_⟩
  obtain⟨x,R2⟩:=uI R X1 R1 A1 h2
  exact q F1 H1 _ x R2
variable{o:Expr}{fo:FE}{apos cpos:Pos}
end
end L2
namespace L2
open PySem PySem.Spec PyProof.Rows
section
variable{X:Cx}{K:PySem.W.Frag}
def Eh:List Int→Int
  | []=>0
  | x::r=>r.foldl max x
end
end L2
namespace L2
open PySem PySem.Spec PyProof.Rows
structure D6 (f:Fr):Prop where
  pos:0 < f.2
  cop:Int.gcd f.1 f.2=1
def Ec(t:jT)(b:Bool):Fr:=if b then(t.top,t.bot) else(t.bot - t.top,t.bot)
abbrev Pg:=List Int × Int
def Ei(t:jT)(p:Pg):Bool:= !p.1.contains t.one&& !p.1.contains t.other
def C6(t:jT)(p:Pg):Pg:=(p.1++[t.one,t.other],p.2+t.worth)
def Ek(ps:List Pg)(t:jT):List Pg:=ps++(ps.filter (Ei t)).map (C6 t)
def Ej(ts:List jT):List Pg:=ts.foldl Ek [([],0)]
structure DL (k:Nat) (ps:List Pg):Prop where
  ne:ps≠[]
  len:ps.length≤2 ^ k
  pt:∀p∈ps,p.1.length≤2*k∧0≤p.2∧p.2≤1000*(k:Int)
def DO(ts:List jT):Int:=Eh ((Ej ts).map (·.2))
end L2
namespace L2
open PySem PySem.Spec PyProof.Rows
end L2
namespace L2
open PySem PySem.Spec PyProof.Rows
section
variable{prog:Program}{w:World}{A:Around}{E:Value→Shared→Prop}{s:Shared}
end
section
variable{X:Cx}{a:Expr}{ta:TA}{p p2 pos pos2:Pos}
variable{K:PySem.W.Frag}{fs:FA}{p3:Pos}
end
end L2
namespace L2
open PySem PySem.Spec PyProof.Rows
def AH:PyData→Bool
  | .int _=>true
  | _=>false
def bM(lo hi:Int):PyData→Bool
  | .int i=>decide (lo≤i)&&decide (i≤hi)
  | _=>false
theorem sR:∀(ns acc:List Int),(ns.foldl step_dedup acc).length≤acc.length+ns.length
  | [],acc=>by simp
  | x::r,acc=>by
    have:=sR r (step_dedup acc x)
    have h2:(step_dedup acc x).length≤acc.length+1:=by unfold step_dedup;split<;>simp
    simp only [List.foldl_cons,List.length_cons]
    lia
theorem nJ:∀(ns acc:List Int),(ns.foldl step_dedup acc).length=acc.length+ns.length→ns.Nodup∧∀x∈ns,x∉acc
  | [],acc,_=>⟨List.nodup_nil,fun x h=>by cases h⟩
  | x::r,acc,h=>by
    simp only [List.foldl_cons,List.length_cons] at h
    have hl:=sR r (step_dedup acc x)
    by_cases c:(acc.any fun y=>y==x)=true
    · have:step_dedup acc x=acc:=by unfold step_dedup;rw [if_pos c]
      rw [this] at h hl
      lia
    · have e:step_dedup acc x=acc++[x]:=by unfold step_dedup;rw [if_neg c]
      rw [e] at h
      obtain⟨h1,h2⟩:=nJ r (acc++[x]) (by rw [h];simp;lia)
      have hx:x∉r:=fun z=>h2 x z (by simp)
      refine⟨List.nodup_cons.mpr ⟨hx,h1⟩,fun y hy=>?_⟩
      rcases List.mem_cons.mp hy with rfl | hy
      · simpa using c
      · exact fun z=>h2 y hy (by simp [z])
theorem p7{ns:List Int}:(fD ns).length=ns.length↔ ns.Nodup:=⟨fun h=>(nJ ns [] (by simpa [fD] using h)).1,vP⟩
theorem j4{α:Type}:∀(l:List α) (i:Nat) (h:i < l.length),(l[i]::l.eraseIdx i).Perm l
  | x::r,0,_=>.refl _
  | x::r,i+1,h=>(List.Perm.swap x _ _).trans ((j4 r i (by simpa using h)).cons x)
  | [],_,h=>by simp at h
theorem cut_len{xs:List PyData}{lo hi:Option Int}:(cutD xs lo hi).length≤xs.length:=by
  unfold cutD
  rw [List.length_take,List.length_drop]
  lia
end L2
namespace L2
open PySem PySem.Spec PyProof.Rows
mutual
def sk:Nat→PyData→Bool
  | _,.none=>true
  | _,.bool _=>true
  | _,.int i=>decide (i.natAbs < 2 ^ 128)
  | _,.str x=>PyData.strOk x&&decide (x.length≤10)
  | k,.list xs=>decide (0 < k)&&kJ (k - 1) xs
  | k,.tuple xs=>decide (0 < k)&&kJ (k - 1) xs
  | _,.dict _=>false
def kJ:Nat→List PyData→Bool
  | _,[]=>true
  | k,x::r=>sk k x&&kJ k r
end
mutual
def wt:PyData→Nat
  | .list xs=>kW xs+1
  | .tuple xs=>kW xs+1
  | .dict _=>1
  | .none=>1
  | .bool _=>1
  | .int _=>1
  | .str _=>1
def kW:List PyData→Nat
  | []=>0
  | x::r=>wt x+kW r
end
theorem oP:∀(ts:List Str) (k:Nat) (acc:Str),(textFrom k acc ts).length≤acc.length+piled ts
  | [],_,acc=>by show acc.length≤acc.length+0;lia
  | t::r,k,acc=>by
    have ih:=oP r (k+1) (acc++(if k > 0 then ", " else "":String)++t)
    have e:(acc++(if k > 0 then ", " else "":String)++t).length≤acc.length+2+t.length:=by
      rw [strLen_append,strLen_append]
      have:(Str.ofString (if k > 0 then ", " else "")).length≤2:=by split<;>decide
      lia
    show(textFrom (k+1) _ r).length≤_
    rw [fm];lia
theorem oi(ts:List Str):(listText ts).length≤piled ts+2:=by
  unfold listText
  rw [strLen_append]
  have h:=oP ts 0 "["
  have h1:(("[":Str)).length=1:=by decide
  have h2:(("]":Str)).length=1:=by decide
  lia
theorem kQ:∀(ts:List Str) (k:Nat) (acc:Str),PyData.strOk acc=true→(∀t∈ts,PyData.strOk t=true)→PyData.strOk (textFrom k acc ts)=true
  | [],_,acc,h,_=>h
  | t::r,k,acc,h,hs=>kQ r (k+1) _ (cW (cW h (bz _)) (hs t (by simp))) fun u hu=>hs u (by simp [hu])
theorem md{ts:List Str}(h:∀t∈ts,PyData.strOk t=true):PyData.strOk (listText ts)=true:=cW (kQ ts 0 _ (bz _) h) (bz _)
structure AC (d:PyData) (k:Nat):Prop where
  lay:d.canLay0=true
  sh:d.showable=true
  dp:d.depth≤k
  ln:d.shown.length+2≤104*wt d
  so:PyData.strOk d.shown=true
theorem jW{d:PyData}{n:Nat}{k:Nat}(h:Sz n 0 d∨Sz n 2 d)(hn:n≤102)(hw:wt d=1)(hl:d.canLay0=true)(hd:d.depth=0):AC d k:=by
  rcases h with h | h<;>exact⟨hl,h.sh,by lia,by have:=h.ln;lia,h.so⟩
mutual
theorem jX{k:Nat}:∀{d:PyData},sk k d=true→AC d k
  | .none,_=>⟨rfl,rfl,by simp [PyData.depth],by show(Str.ofString "None").length+2≤104*1;decide,bz _⟩
  | .bool b,_=>jW (.inr Sz.bool) (by decide) rfl rfl (by simp [PyData.depth])
  | .int i,h=>by
    simp only [sk,decide_eq_true_eq] at h
    exact jW (.inr (Sz.int10 (n:=39) (m:=128) (show Bt 128 i from h) (by decide) (by decide) (Nat.lt_of_lt_of_le h (by decide)) (by decide))) (by decide) rfl rfl (by simp [PyData.depth])
  | .str x,h=>by
    simp only [sk,Bool.and_eq_true,decide_eq_true_eq] at h
    exact jW (.inr (Sz.str (n:=10) h.1 h.2)) (by decide) rfl (by simpa [PyData.canLay0] using h.1) (by simp [PyData.depth])
  | .dict _,h=>by simp [sk] at h
  | .list xs,h=>by
    simp only [sk,Bool.and_eq_true,decide_eq_true_eq] at h
    obtain⟨a1,a2,a3,a4,a5⟩:=mq h.2
    have:=oi (PyData.shownAll xs)
    refine⟨by simpa [PyData.canLay0] using a1,a2,by simp only [PyData.depth];lia,by simp only [PyData.shown,wt];lia,by simp only [PyData.shown];exact md a5⟩
  | .tuple xs,h=>by
    simp only [sk,Bool.and_eq_true,decide_eq_true_eq] at h
    obtain⟨a1,a2,a3,a4,a5⟩:=mq h.2
    have:=jb (PyData.shownAll xs)
    refine⟨by simpa [PyData.canLay0] using a1,a2,by simp only [PyData.depth];lia,by simp only [PyData.shown,wt];lia,by simp only [PyData.shown];exact mf a5⟩
theorem mq{k:Nat}:∀{ds:List PyData},kJ k ds=true→PyData.canLayAll0 ds=true∧PyData.showableAll ds=true∧PyData.depthAll ds≤k∧piled (PyData.shownAll ds)≤104*kW ds∧∀t∈PyData.shownAll ds,PyData.strOk t=true
  | [],_=>⟨rfl,rfl,by simp [PyData.depthAll],by simp [PyData.shownAll,piled],by simp [PyData.shownAll]⟩
  | d::r,h=>by
    simp only [kJ,Bool.and_eq_true] at h
    obtain⟨a1,a2,a3,a4,a5⟩:=jX h.1
    obtain⟨b1,b2,b3,b4,b5⟩:=mq h.2
    refine⟨by simp only [PyData.canLayAll0,a1,b1,Bool.and_self],by simp only [PyData.showableAll,a2,b2,Bool.and_self],by simp only [PyData.depthAll];lia,by simp only [PyData.shownAll,fm,kW];lia,fun t ht=>?_⟩
    simp only [PyData.shownAll,List.mem_cons] at ht
    rcases ht with rfl | ht
    · exact a5
    · exact b5 t ht
end
theorem sZ{e:En}{s:Str}(h:PyData.strOk s=true):cB true e (.d (.str s)) (.d (.str s))=some (.d (.bool false)):=by
  unfold cB
  simp only [fB,Option.bind_some]
  have h0:SeqAt.shaped (.str s)=true:=by simp [SeqAt.shaped,PyData.canLay0,PyData.depth,h]
  rw [h0]
  simp [PyData.eqv]
theorem dP{lo hi:Int}{d:PyData}(h:bM lo hi d=true):∃i,d=.int i∧lo≤i∧i≤hi:=by
  cases d with
  | int i=>exact⟨i,rfl,by simpa [bM] using h⟩
  | _=>simp [bM] at h
end L2
namespace L2
open PySem PySem.Spec PyProof.Rows
section
variable{X:Cx}{K:PySem.W.Frag}
variable{a b:Expr}{fa fb:FE}{pos:Pos}
end
end L2
namespace L2
open PySem PySem.Spec PyProof.Rows
def tx(s:Str):List Nat:=s.cps.toList
end L2
namespace L2
open PySem PySem.Spec PyProof.Rows
end L2
namespace L2
open PySem PySem.Spec PyProof.Rows
end L2
namespace L2
open PySem PySem.Spec PyProof.Rows
section
variable{X:Cx}{K:PySem.W.Frag}{es:List Expr}{k0:Nat}{tp:Pos}{a b:Expr}{fs:FA}{p pos:Pos}
end
end L2
namespace L2
open PySem PySem.Spec PyProof.Rows
def Ef(x:Nd)(b:Bool):Int:=if b=true then x.yes else x.no
def yq(T:List Nd)(i:Nat)(b:Bool):Int:=match T[i]? with
  | some x=>Ef x b
  | none=> -1
def C4(T:List Nd):Prop:=∀(i j:Nat) (a b:Bool),yq T i a=yq T j b→yq T i a≠ -1→i=j∧a=b
def DC(w:Wt):Int × Int:=(w.par,w.side)
structure Eu (T:List Nd) (ws:List Wt):Prop where
  unq:C4 T
  rng:∀i a,yq T i a= -1∨(0 < yq T i a∧yq T i a < (T.length:Int))
  free:∀w∈ws,w.par= -1∨(0≤w.par∧w.par < (T.length:Int)∧yq T w.par.toNat (w.side==0)= -1)
  dst:(ws.map DC).Nodup
  side:∀w∈ws,w.side=0∨w.side=1
structure Ey (T:List Nd) (w0 ws order:List Int):Prop where
  nd:(order++ws).Nodup
  par:∀v∈order++ws,v=0∨∃u∈order,∃b,yq T u.toNat b=v∧v≠ -1
  fst:(order=[]∧ws=w0)∨order[0]?=some 0
theorem jj{cs:En}{g g2:FG}{ft ft2:FT}{fi2:FI}{fe:FE}{f:PyData→List PyData}(n:Nat):∀(items:List PyData) (t:En) (acc:List PyData),t.length=n→(∀x∈items,(f x).length≤2)→(∀x∈items,∀(t:En) (acc:List PyData),t.length=n→acc.length+2≤1000000→∃e1 e2 its e3 t',g x (cs++t)=some e1∧ft e1=some (true,e2)∧fi2 e2=some (its,[],e3)∧dU g2 ft2 fe its e3 acc=some (acc++f x,cs++t')∧t'.length=n)→acc.length+2*items.length≤1000000→
    ∃t',t'.length=n∧eS g ft fi2 g2 ft2 fe items (cs++t) acc=some (acc++items.flatMap f,cs++t')
  | [],t,acc,h,_,_,_=>⟨t,h,by simp [eS]⟩
  | x::r,t,acc,h,hf,hs,hl=>by
    simp only [List.length_cons] at hl
    obtain⟨e1,e2,its,e3,t1,a1,a2,a3,a4,a5⟩:=hs x (by simp) t acc h (by lia)
    have:=hf x (by simp)
    obtain⟨t',b1,b2⟩:=jj n r t1 (acc++f x) a5 (fun y hy=>hf y (by simp [hy])) (fun y hy=>hs y (by simp [hy])) (by rw [List.length_append];lia)
    refine⟨t',b1,?_⟩
    unfold eS
    simp only [a1,a2,a3,a4,b2,Option.bind_some,if_true,List.flatMap_cons,List.append_assoc]
theorem r9{cp:List (Nat × Str)}{nT:Nat}{fi fi2:FI}{g g2:FG}{ft ft2:FT}{fe:FE}{e e1 cs:En}{t t':En}{items out:List PyData}(h1:fi e=some (items,[],e1))(hc:jK cp nT e1=cs++t)(hl:cs.length=cp.length)(h3:eS g ft fi2 g2 ft2 fe items (jK cp nT e1) []=some (out,cs++t')):jd cp nT fi g ft fi2 g2 ft2 fe e=some (.l out,e1):=by
  have key:=oR (cp:=cp) (nT:=nT) (fi:=fun _=>some ([.none],[],e1)) (g:=fun _ _=>some (cs++t')) (ft:=fun e=>some (false,e)) (fe:=fe) (e:=e) (cs:=cs) (t:=t) (t':=t') (out:=[]) rfl hc hl rfl
  have c0:dU (fun _ _=>some (cs++t')) (fun e=>some (false,e)) fe [.none] (jK cp nT e1) []=some ([],cs++t'):=rfl
  unfold kS at key
  unfold jd
  rw [h1]
  simp only [Option.bind_some,List.all_nil,if_true,h3,c0] at key ⊢
  split at key
  · rename_i q
    rw [if_pos q]
    have:=Option.some.inj key
    have e2:jc (iX cp) (cs++t') e1=e1:=(Prod.ext_iff.mp this).2
    rw [e2]
  · cases key
end L2
namespace L2
open PySem PySem.Spec PyProof.Rows
section
variable{prog:Program}{w:World}{A:Around}{E:Value→Shared→Prop}{s:Shared}
end
section
variable{X:Cx}{tg a:Expr}{ta:TA}{p pos:Pos}
end
section
variable{X:Cx}{K:PySem.W.Frag}{σ:L2.St}{tg a:Expr}{fs:FA}{p pos:Pos}
end
end L2
namespace L2
open PySem PySem.Spec PyProof.Rows
section
variable{X:Cx}{a k:Expr}{p2 pos:Pos}{fa fk:FE}{K:PySem.W.Frag}
theorem pA(n:Nat):Builtin.Slice.slicePlaces ((n:Int) - 1) (-1) (-1)=n:=by
  unfold Builtin.Slice.slicePlaces
  rw [if_neg (by decide),show(- -1:Int)=1 from rfl]
  split<;>lia
theorem nO{α β:Type}{f g:α→Option β}:∀{l:List α},(∀x∈l,f x=g x)→l.filterMap f=l.filterMap g
  | [],_=>rfl
  | x::r,h=>by rw [List.filterMap_cons,List.filterMap_cons,h x (by simp),nO fun y hy=>h y (by simp [hy])]
theorem uB(xs:Array Value):((List.range xs.size).filterMap fun(m:Nat)=>xs[((xs.size:Int) - 1+(m:Int)*(-1)).toNat]?).toArray=xs.toList.reverse.toArray:=by
  have e:(List.range xs.size).filterMap (fun(m:Nat)=>xs[((xs.size:Int) - 1+(m:Int)*(-1)).toNat]?)=((List.range xs.size).map fun k=>xs.size - 1 - k).filterMap (xs[·]?):=by
    rw [List.filterMap_map]
    refine nO fun m hm=>?_
    have:=List.mem_range.mp hm
    show xs[_]?=xs[xs.size - 1 - m]?
    congr 1
    lia
  rw [e,PySem.W.krv_range,List.filterMap_reverse,PySem.W.krv_all]
section
variable{prog:Program}{w:World}{A:Around}{E:Value→Shared→Prop}{s:Shared}
theorem ja{sl:Addr}{t:Tok}{n:Nat}{Q:Int × Int × Nat→Shared→Prop}(hs:s.heap.IsSliceOf sl .none .none (.int (-1) t))(h:Q ((n:Int) - 1, -1,n) s):wpAny (model prog w) A (Builtin.Slice.sliceApplied (.ref sl) (pure (n:Int))) Q E s:=by
  obtain⟨os,hos,hcs,hds⟩:=id hs
  unfold Builtin.Slice.sliceApplied Builtin.Slice.sliceFields
  refine wpAny_bind (wpAny_bind (wpAny_field hos hds (x:=.none) rfl (wpAny_bind (wpAny_field hos hds (x:=.none) rfl (wpAny_bind (wpAny_field hos hds (x:=.int (-1) t) rfl (wpAny_pure ?_)))))))
  refine wpAny_bind (HT.slicePart_ (.int (-1) t) ?_)
  show wpAny _ _ (if ((-1:Int)==0)=true then _ else _) _ _ s
  rw [if_neg (by decide)]
  refine wpAny_bind (HT.slicePart_ .none (wpAny_bind (HT.slicePart_ .none (wpAny_bind (wpAny_pure ?_)))))
  show wpAny _ _ (pure ((n:Int) - 1,(-1:Int),Builtin.Slice.slicePlaces ((n:Int) - 1) (-1) (-1))) _ _ s
  rw [pA]
  exact wpAny_pure h
theorem ik{t sl:Addr}{items:Array Value}{tk:Tok}{Q:Value→Shared→Prop}(ht:IsTup s.heap t items)(hs:s.heap.IsSliceOf sl .none .none (.int (-1) tk))
    (h:Q (.ref s.heap.objs.size) {s with heap:=s.heap.push {cls:=.type "tuple",data:=.seq items.toList.reverse.toArray}})(hsz:items.size≤sizeLine):wpAny (model prog w) A (getItem (.ref t) (.ref sl)) Q E s:=by
  have htake:sizeOk (.seq items.toList.reverse.toArray):=by
    show items.toList.reverse.toArray.size≤sizeLine
    rw [List.size_toArray,List.length_reverse,Array.length_toList]
    exact hsz
  obtain⟨os,hos,hcs,hds⟩:=id hs
  have hTs:s.TypeIs (.ref sl) "slice":=⟨os,hos,hcs⟩
  unfold getItem
  try with_reducible refine wpAny_holding ?_
  first | refine wpAny_bind (wpAny_pure ?_) | skip
  refine wpAny_bind (wpAny_sequenceKey ht.typeIs (by decide) ?_)
  refine wpAny_bind (wpAny_callSpecial?_slot (name:=Str.ofString "__getitem__") ht.typeIs PyProof.Rows.slot_tuple_getitem
    (wpAny_call_entry PyProof.Rows.slot_tuple_getitem ht.typeIs entry_tuple_getitem ?_ (args_tuple_getitem _ _)))
  show wpAny _ _ (Builtin.Tuple.tupleItemsOf (.ref t) >>= _) _ _ s
  refine wpAny_bind (tupleItemsOf_ ht ?_)
  refine wpAny_bind (wpAny_typeOf hTs ?_)
  rw [if_pos (by decide)]
  refine wpAny_bind (ja hs ?_)
  have hno:¬((((items.size:Int) - 1)==0&&(-1:Int)==1&&items.size==items.size)=true):=by
    intro q
    rw [Bool.and_eq_true,Bool.and_eq_true] at q
    have q1:((-1:Int)==1)=true:=q.1.2
    exact absurd q1 (by decide)
  show wpAny _ _ (if (((items.size:Int) - 1)==0&&(-1:Int)==1&&items.size==items.size)=true then _ else _) _ _ s
  rw [if_neg hno,uB]
  first
    | exact wpAny_bind (m:=Builtin.Tuple.tupleExact _) (wpAny_newObj_type (wpAny_pure ⟨_,rfl,wpAny_pure h⟩) htake)
    | exact wpAny_bind (m:=Builtin.Tuple.tupleExact _) (wpAny_newObj_type (wpAny_bind (wpAny_pure (wpAny_pure ⟨_,rfl,wpAny_pure h⟩))) htake)
    | exact wpAny_bind (wpAny_bind (m:=Builtin.Tuple.tupleExact _) (wpAny_newObj_type (wpAny_pure (wpAny_pure ⟨_,rfl,wpAny_pure h⟩)) htake))
    | exact wpAny_bind (wpAny_bind (m:=Builtin.Tuple.tupleExact _) (wpAny_newObj_type (wpAny_pure ⟨_,rfl,wpAny_pure h⟩) htake))
end
def Em(K:PySem.W.Frag)(te tk:TE):TE:=fun σ H Q=>te σ H fun x H1=>tk σ H1 fun y H2=>y=.int (-1)∧((∃a xs,x=.ref a∧fy K H2 a xs∧∀p,H2 p=none→Q (.ref p) (a7 H2 p (.lst xs.reverse)))∨∃a xs,x=.ref a∧cM K H2 a xs∧∀p,H2 p=none→Q (.ref p) (a7 H2 p (.tup xs.reverse)))
theorem BN{te tk:TE}(he:PE X a te)(hk:PE X k tk):PE X (.Subscript a (.Slice none none (some k) p2) pos) (Em X.K te tk):=by
  intro pins s σ H Q I h
  refine Subscript_ (bw (he pins s σ H _ I h) fun v s1 ⟨x,H1,I1,r1,q1⟩=>?_)
  refine wpAny_Slice ?_
  rw [evalPart_none]
  refine wpAny_pure (wpAny_pure ?_)
  refine bw (hk pins s1 σ H1 _ I1 q1) fun vk s3 ⟨y,H3,I3,rk,e,q⟩=>?_
  subst e
  obtain⟨t,rfl⟩:∃t,vk=.int (-1) t:=rk
  have I4:ar X pins σ H3 {s3 with heap:=s3.heap.push {cls:=.type "slice",data:=.fields #[.none,.none,.int (-1) t]}}:=I3.kept (t':=s3.toks) fun b ob q=>Heap.get?_push_of_some _ q
  rcases q with ⟨b,xs,ex,hx,q⟩ | ⟨b,xs,ex,hx,q⟩
  · subst ex
    cases r1
    obtain⟨its,r,ht,hz⟩:=I4.list hx
    have hlen:=r.length
    show wpAny (model X.prog X.w) X.A (subscriptTail a (.Slice none none (some k) p2) (.ref b) (.ref s3.heap.objs.size)) (EP X pins σ Q) X.xe {s3 with heap:=s3.heap.push {cls:=.type "slice",data:=.fields #[.none,.none,.int (-1) t]}}
    refine tail_any (T:="list") ht.isList.typeIs slot_list_getitem.lookup ?_ (by with_unfolding_all rfl)
    refine wpAny_getItem_list_slice ht.isList (Heap.IsSliceOf.new ..) .none .none (.int (-1) t) (by decide) ?_ (by rw [List.size_toArray]<;>lia)
    rw [PySem.W.krv_pick]
    refine⟨.ref _,_,I4.laid (t':=s3.toks) (o:=.lst xs.reverse) (fun b ob q=>Heap.get?_push_of_some _ q) (Nat.le_refl _) ?_,rfl,q _ (I4.hok.fresh (Nat.le_refl _))⟩
    exact⟨by rw [List.length_reverse];exact hz,_,0,r.reverse,Heap.get?_push_size _ rfl⟩
  · subst ex
    cases r1
    obtain⟨its,r,ht,hz⟩:=I4.tuple hx
    have hlen:=r.length
    show wpAny (model X.prog X.w) X.A (subscriptTail a (.Slice none none (some k) p2) (.ref b) (.ref s3.heap.objs.size)) (EP X pins σ Q) X.xe {s3 with heap:=s3.heap.push {cls:=.type "slice",data:=.fields #[.none,.none,.int (-1) t]}}
    refine tail_any (T:="tuple") ht.typeIs slot_tuple_getitem.lookup ?_ (by with_unfolding_all rfl)
    refine ik ht (Heap.IsSliceOf.new ..) ?_ (by rw [List.size_toArray]<;>lia)
    refine⟨.ref _,_,I4.laid (t':=s3.toks) (o:=.tup xs.reverse) (fun b ob q=>Heap.get?_push_of_some _ q) (Nat.le_refl _) ?_,rfl,q _ (I4.hok.fresh (Nat.le_refl _))⟩
    exact⟨by rw [List.length_reverse];exact hz,_,r.reverse,kY.new _ _⟩
def C9(e:En)(x y:Rv):Option Rv:=match y with
  | .d (.int i)=>if i= -1 then(cJ e x).bind fun p=>some (if p.1=true then .l p.2.reverse else .d (.tuple p.2.reverse)) else none
  | _=>none
def CA(fa fk:FE):FE:=fun e=>(fa e).bind fun p=>(fk p.2).bind fun k=>(C9 k.2 p.1 k.1).map fun z=>(z,k.2)
theorem mI:∀{F:Hp} {ds:List PyData} {vs:List V},aA K F ds vs→aA K F ds.reverse vs.reverse
  | F,[],vs,h=>by simp only [aA] at h;subst h;exact aA.nil
  | F,d::ds,vs,h=>by
    simp only [aA] at h
    obtain⟨v,ws,rfl,h1,h2⟩:=h
    rw [List.reverse_cons,List.reverse_cons]
    exact(mI h2).append (aA.one h1)
theorem BU(he:PE X a (fE X.K fa))(hk:PE X k (fE X.K fk)):PE X (.Subscript a (.Slice none none (some k) p2) pos) (fE X.K (CA fa fk)):=(BN he hk).mono fun σ H Q h=>by
  obtain⟨F,e,z,e',R,hf,q⟩:=h
  unfold CA at hf
  obtain⟨⟨x,e1⟩,h1,hf⟩:=Option.bind_eq_some_iff.mp hf
  obtain⟨⟨y,e2⟩,h2,hf⟩:=Option.bind_eq_some_iff.mp hf
  obtain⟨z',h4,hf⟩:=Option.map_eq_some_iff.mp hf
  cases hf
  refine⟨F,e,x,e1,R,h1,fun F1 H1 v X1 R1 A1=>⟨F1,e1,y,_,R1,h2,fun F2 H2 u X2 R2 A2=>?_⟩⟩
  unfold C9 at h4
  split at h4
  · rename_i i hy
    have hy:y=.d (.int i):=hy
    subst hy
    by_cases hi:i= -1
    case neg=>rw [if_neg hi] at h4;cases h4
    rw [if_pos hi] at h4
    subst hi
    obtain⟨⟨b,xs⟩,h5,h4⟩:=Option.bind_eq_some_iff.mp h4
    cases b with
    | false=>
      cases h4
      obtain⟨p,vs,rfl,d1,s1⟩:=bD R2 (A1.ext X2) h5
      refine⟨by first | exact A2 | cases A2;rfl,.inr ⟨p,vs,rfl,s1,fun t ht=>?_⟩⟩
      obtain⟨R4,X4⟩:=R2.newT (vs:=vs.reverse) ht
      exact q _ _ _ ((X1.trans X2).trans X4) R4 (ce.mpr ⟨t,_,rfl,.inl (.inl am),(mI d1).mono X4.sf⟩)
    | true=>
      cases h4
      obtain⟨p,vs,rfl,d1,s1⟩:=bD R2 (A1.ext X2) h5
      refine⟨by first | exact A2 | cases A2;rfl,.inl ⟨p,vs,rfl,s1,fun t ht=>?_⟩⟩
      obtain⟨R4,X4,hF,no⟩:=R2.newL (vs:=vs.reverse) ht
      exact q _ _ _ ((X1.trans X2).trans X4) R4 ⟨t,_,rfl,(X1.trans X2).dom _ ht,hF,am,mI d1,no⟩
  · cases h4
theorem Dp(hK:X.K=K)(he:PE X a (fE K fa))(hk:PE X k (fE K fk)):PE X (.Subscript a (.Slice none none (some k) p2) pos) (fE K (CA fa fk)):=by subst hK;exact BU he hk
end
end L2
namespace L2
open PySem PySem.Spec PyProof.Rows
section
variable{X:Cx}{a b:Expr}{ta:TA}{p p2 pos pos2:Pos}{K:PySem.W.Frag}{fs:FA}
end
section
variable{X:Cx}{o i e:Expr}{fo fi:FE}{tpos pos:Pos}{K:PySem.W.Frag}
end
end L2
namespace L2
open PySem PySem.Spec PyProof.Rows
section
variable{X:Cx}{K:PySem.W.Frag}
end
end L2
namespace L2
open PySem PySem.Spec PyProof.Rows
section
open PySem.MeetsSeq2 PySem.AutoSeq1 PySem.SeqAt
end
section
variable{X:Cx}{K:PySem.W.Frag}{o a:Expr}{to te:TE}{name:Str}{apos cpos:Pos}{T id:String}{r:V→List V→Hp→VK→Prop}{fo fa:FE}
end
end L2
namespace L2
open PySem PySem.Spec PyProof.Rows
section
variable{X:Cx}{K:PySem.W.Frag}{o a:Expr}{apos cpos:Pos}{fo fa:FE}
end
end L2
namespace L2
open PySem PySem.Spec PyProof.Rows
section
variable{K:PySem.W.Frag}{F H:Hp}{σ:L2.St}{e:En}{cp:List (Nat × Str)}{nT:Nat}
end
section
variable{X:Cx}{K:PySem.W.Frag}{a b:Expr}{es:List Expr}{fa fb:FE}{fs:FA}{pos p p2 p3:Pos}{lo hi:Option Expr}
end
end L2
namespace L2
open PySem PySem.Spec PyProof.Rows
section
variable{X:Cx}{K:PySem.W.Frag}
end
end L2
namespace L2
open PySem PySem.Spec PyProof.Rows
section
variable{X:Cx}{K:PySem.W.Frag}{a b:Expr}{fa fb:FE}{pos:Pos}
end
end L2
namespace L2
open PySem PySem.Spec PyProof.Rows
section
variable{X:Cx}{K:PySem.W.Frag}
theorem nE{prog:Program}{w:World}{A:Around}{E:Value→Shared→Prop}{s:Shared}{t:Addr}{vs:List Value}{Q:List Value→Shared→Prop}(ht:s.heap.IsList t vs.toArray)
    (h:Q vs {s with heap:=(s.heap.push (seqObj "list" #[] 0)).update s.heap.objs.size (Obj.mapSeq (· ++vs.toArray))})(hsz:vs.length≤sizeLine):wpAny (model prog w) A (collect (.ref t)) Q E s:=by
  obtain⟨o,ho,hc,n,hd⟩:=id ht;unfold collect;refine wpAny_bind (wpAny_runValue (codeAny_builtin entry_proto_collect' ?_))
  show wpAny _ _ (do again (.builtin "list.__iadd__" ⟨[←newList [],.ref t],[]⟩)) _ _ s
  refine wpAny_bind (wpAny_newList (wpAny_pure ⟨Code.quiet_builtin _ (by decide+kernel),?_⟩));refine codeAny_builtin entry_list_iadd' ?_
  show wpAny _ _ (Builtin.List.listExtendWith (.ref s.heap.objs.size) (.ref t) (.ref s.heap.objs.size)) _ _ {s with heap:=s.heap.push (seqObj "list" #[] 0)}
  unfold Builtin.List.listExtendWith;have ho':(s.heap.push (seqObj "list" #[] 0)).get? t=some o:=Heap.get?_push_of_some _ ho
  refine wpAny_bind (wpAny_typeOf (T:="list") ⟨o,ho',hc⟩ ?_)
  rw [if_pos (by rw [show(Value.type "list"==Value.type "list")=true from rfl,Bool.or_true,Bool.true_or])]
  refine wpAny_bind (listItems_at ho' hd ?_);refine wpAny_bind (listItems_at (xs:=#[]) (n:=0) (Heap.get?_push_size _ rfl) rfl ?_)
  rw [if_neg (by simp)];refine wpAny_bind (listUpdate_at (xs:=#[]) (n:=0) (Heap.get?_push_size _ rfl) rfl ?_ (Nat.zero_le _) (by show(#[]++vs.toArray).size≤sizeLine+1;simp only [Array.size_append,List.size_toArray,List.length_nil];lia))
  refine wpAny_pure ?_
  show wpAny (model prog w) A (load s.heap.objs.size >>= fun o=>match o.data with | .seq xs _=>pure xs.toList | _=>unsupported "internal:collect") Q E {s with heap:=(s.heap.push (seqObj "list" #[] 0)).update s.heap.objs.size (Obj.mapSeq (· ++vs.toArray))}
  refine wpAny_bind (wpAny_load (get?_update_seq (Heap.get?_push_size _ rfl) _) ?_);show wpAny _ _ (pure ((#[]:Array Value)++vs.toArray).toList) Q E _;rw [show((#[]:Array Value)++vs.toArray).toList=vs by simp];exact wpAny_pure h
theorem pJ{prog:Program}{w:World}{A:Around}{E:Value→Shared→Prop}{s:Shared}{t:Addr}{vs:List Value}{ns:List Int}{Q:Value→Shared→Prop}(ht:s.heap.IsList t vs.toArray)(hI:IntsAre vs ns)(h64:vs.length < 64)
    (h:∀(out:Array Value) (ns':List Int),IntsAre out.toList ns'→ns'.Perm ns→ns'.Pairwise (· ≤·)→Q (.ref (s.heap.objs.size+1)) {s with heap:=sortedAll s.heap vs out}):wpAny (model prog w) A (call (.builtin "sorted") [.ref t]) Q E s:=by
  refine Calls.call_function_entry kind_sorted plain_sorted entry_sorted (args_sorted1 _) ?_;unfold Builtin.«sorted»
  refine wpAny_bind (m:=checkCount "sorted" 1 1 _) (wpAny_pure ?_);refine wpAny_bind (nE ht ?_ (Nat.le_trans (Nat.le_of_lt h64) (by decide)))
  have z:((s.heap.push (seqObj "list" #[] 0)).update s.heap.objs.size (Obj.mapSeq (· ++vs.toArray))).objs.size=s.heap.objs.size+1:=by rw [Heap.size_update,size_push']
  have o:(((s.heap.push (seqObj "list" #[] 0)).update s.heap.objs.size (Obj.mapSeq (· ++vs.toArray))).push (seqObj "list" vs.toArray 0)).get? (s.heap.objs.size+1)=some (seqObj "list" vs.toArray 0):=by rw [←z];exact Heap.get?_push_size _ rfl
  refine wpAny_bind (wpAny_newList ?_);show wpAny _ _ _ _ _ {s with heap:=((s.heap.push (seqObj "list" #[] 0)).update s.heap.objs.size (Obj.mapSeq (· ++vs.toArray))).push (seqObj "list" vs.toArray 0)}
  rw [z];refine wpAny_bind (wpAny_holding (wpAny_call_entry slot_list_sort ⟨_,o,rfl⟩ entry_list_sort (list_sort_tree o hI h64 fun out ns' b1 b2 b3=>⟨_,rfl,?_⟩) (args_list_sort _)))
  exact wpAny_pure ⟨_,rfl,h out ns' b1 b2 b3⟩
theorem mz:bO X (.builtin "sorted") (fun xs H Q=>∃(a:Addr) (ns:List Int),xs=[.ref a]∧fy X.K H a (ns.map V.int)∧ns.length < 64∧∀(l:Addr) (ns':List Int) (H':Hp),aq H H'→H l=none→H' l=some (.lst (ns'.map V.int))→ns'.Perm ns→ns'.Pairwise (· ≤·)→Q (.ref l) H'):=by
  intro pins s σ H xs us Q I r h
  obtain⟨a,ns,rfl,hs,h64,q⟩:=h
  obtain⟨u,rfl,ru⟩:=gZ r
  cases ru
  obtain⟨its,rv,p,hz⟩:=I.list hs
  have hl:=rv.length
  rw [List.length_map] at hl
  refine pJ p.isList (dY rv) (by lia) fun out ns' a1 a2 a3=>?_
  obtain⟨e,he⟩:=sortedAll_at s.heap its out
  have hf:H (s.heap.objs.size+1)=none:=I.hok.fresh (Nat.le_succ _)
  refine⟨.ref (s.heap.objs.size+1),a7 H (s.heap.objs.size+1) (.lst (ns'.map V.int)),I.laid (t':=s.toks) (fun _ _=>sortedAll_old) (Nat.le_succ _) ⟨?_,out.toList,e,eP a1,?_⟩,rfl,q _ ns' _ (aq.new hf) hf am a2 a3⟩
  · rw [List.length_map,a2.length_eq]
    exact Nat.le_trans (Nat.le_of_lt h64) (by decide)
  · simpa [seqObj] using he
def er:En→Rv→Option Rv:=fun e x=>(cJ e x).bind fun z=>(jo z.2).bind fun ns=>if ns.length < 64 then some (.l ((a8 ns).map .int)) else none
def uW(K:PySem.W.Frag):List V→Hp→VK→Prop:=fun xs H Q=>∃(a:Addr) (ns:List Int),xs=[.ref a]∧(fy K H a (ns.map V.int)∨cM K H a (ns.map V.int))∧ns.length < 64∧∀(l:Addr) (H':Hp),aq H H'→H l=none→H' l=some (.lst ((a8 ns).map V.int))→Q (.ref l) H'
theorem o6:bO X (.builtin "sorted") (uW X.K):=by
  intro pins s σ H xs us Q I rv h
  obtain⟨a,ns,e1,e2,e3,q⟩:=h
  rcases e2 with e2 | e2
  · exact mz pins s σ H xs us Q I rv ⟨a,ns,e1,e2,e3,fun l ns' H' sm hn hl hp hs=>q l H' sm hn (by rw [←gj hp hs];exact hl)⟩
  · exact ji pins s σ H xs us Q I rv ⟨a,ns,e1,e2,e3,fun l ns' H' sm hn hl hp hs=>q l H' sm hn (by rw [←gj hp hs];exact hl)⟩
theorem xE:c9 K (uW K) (g1 er):=eh fun σ H0 F H e x z v Q R A hg q=>by
  unfold er at hg
  obtain⟨⟨b,ds⟩,h1,hg⟩:=Option.bind_eq_some_iff.mp hg
  obtain⟨ns,h6,hg⟩:=Option.bind_eq_some_iff.mp hg
  split at hg
  case isFalse=>cases hg
  case isTrue hl=>
  cases hg
  obtain⟨p,vs,rfl,d1,s1⟩:=bD R A h1
  have e1:ds=ns.map .int:=fY h6
  subst e1
  have e2:=aA.ints.mp d1
  subst e2
  refine⟨p,ns,rfl,?_,hl,fun l H' sm hn hl'=>?_⟩
  · cases b with
    | true=>exact .inl s1
    | false=>exact .inr s1
  obtain⟨R4,X4⟩:=R.same sm
  exact q F H' _ X4 R4 ⟨l,_,rfl,hn,R.freeF hn,hl',aA.ints.mpr rfl,fun z=>R.ownH l ((R.sameOwn sm l).mp z) hn⟩
theorem pZ(hK:X.K=K):jQ X K "sorted" (g1 er):=⟨.inl ⟨_,_,hK ▸ o6,xE,PyProof.Rows.boot_sorted⟩⟩
theorem tN{e:En}{i:Nat}{ns:List Int}(hi:e[i]?=some (some (.l (ns.map .int))))(h:ns.length < 64):g1 er e [.s i]=some (.l ((a8 ns).map .int)):=by
  simp [g1,er,cJ,hi,eF,h]
theorem tO{e:En}{ns:List Int}(h:ns.length < 64):g1 er e [.d (.tuple (ns.map .int))]=some (.l ((a8 ns).map .int)):=by
  simp [g1,er,cJ,eF,h]
end
end L2
namespace L2
open PySem PySem.Spec PyProof.Rows
mutual
theorem j8:∀(d:PyData),eE d=true→dZ d=true
  | .none,_=>rfl
  | .bool _,_=>rfl
  | .int _,_=>rfl
  | .str _,_=>rfl
  | .tuple ds,h=>by simp only [dZ];exact jl ds (by simpa [eE] using h)
  | .list ds,h=>by simp [eE] at h
  | .dict _,h=>by simp [eE] at h
theorem jl:∀(ds:List PyData),gz ds=true→dg ds=true
  | [],_=>rfl
  | d::r,h=>by
    simp only [gz,Bool.and_eq_true] at h
    simp only [dg,j8 d h.1,jl r h.2,Bool.and_self]
end
structure Sw (b:Bool) (n dep:Nat) (d:PyData):Prop where
  dl:bif b then dZ d=true else d.hasDict=false
  sh:d.showable=true
  dp:d.depth≤dep
  ln:d.shown.length+2≤n
  so:PyData.strOk d.shown=true
theorem Sw.mono{b:Bool}{n m dep e:Nat}{d:PyData}(h:Sw b n dep d)(h1:n≤m)(h2:dep≤e):Sw b m e d:=⟨h.dl,h.sh,Nat.le_trans h.dp h2,Nat.le_trans h.ln h1,h.so⟩
theorem AC.sw{k:Nat}{d:PyData}(h:AC d k):Sw false (104*wt d) k d:=⟨PyData.hasDict_of_canLay d h.lay,h.sh,h.dp,h.ln,h.so⟩
theorem AC.swF{k:Nat}{d:PyData}(h:AC d k)(f:eE d=true)(b:Bool):Sw b (104*wt d) k d:=⟨by cases b;exact fR d f;exact j8 d f,h.sh,h.dp,h.ln,h.so⟩
theorem Sw.all{b:Bool}{n dep:Nat}:∀{ds:List PyData},(∀d∈ds,Sw b n dep d)→(bif b then dg ds=true else PyData.hasDictAll ds=false)∧PyData.showableAll ds=true∧PyData.depthAll ds≤dep∧piled (PyData.shownAll ds)≤ds.length*n∧∀t∈PyData.shownAll ds,PyData.strOk t=true
  | [],_=>⟨by cases b<;>rfl,rfl,by simp [PyData.depthAll],by simp [PyData.shownAll,piled],by simp [PyData.shownAll]⟩
  | d::r,h=>by
    obtain⟨a1,a2,a3,a4,a5⟩:=h d (by simp)
    obtain⟨b1,b2,b3,b4,b5⟩:=Sw.all (ds:=r) fun x hx=>h x (by simp [hx])
    refine⟨?_,?_,?_,?_,?_⟩
    · cases b
      · simp only [cond_false] at a1 b1 ⊢;simp only [PyData.hasDictAll,a1,b1,Bool.or_self]
      · simp only [cond_true] at a1 b1 ⊢;simp only [dg,a1,b1,Bool.and_self]
    · simp only [PyData.showableAll,a2,b2,Bool.and_self]
    · simp only [PyData.depthAll];lia
    · simp only [PyData.shownAll,fm,List.length_cons,Nat.succ_mul];lia
    · intro t ht
      simp only [PyData.shownAll,List.mem_cons] at ht
      rcases ht with rfl | ht
      · exact a5
      · exact b5 t ht
theorem Sw.tup{b:Bool}{n dep m:Nat}{ds:List PyData}(h:∀d∈ds,Sw b n dep d)(hl:ds.length≤m):Sw b (m*n+5) (dep+1) (.tuple ds):=by
  obtain⟨b1,b2,b3,b4,b5⟩:=Sw.all h
  refine⟨by cases b<;>simpa [dZ,PyData.hasDict] using b1,b2,by simp only [PyData.depth];lia,?_,by simp only [PyData.shown];exact mf b5⟩
  have h2:=jb (PyData.shownAll ds)
  have:=Nat.mul_le_mul_right n hl
  simp only [PyData.shown]
  lia
theorem Sw.lst{n dep m:Nat}{ds:List PyData}(h:∀d∈ds,Sw false n dep d)(hl:ds.length≤m):Sw false (m*n+5) (dep+1) (.list ds):=by
  obtain⟨b1,b2,b3,b4,b5⟩:=Sw.all h
  refine⟨by simpa [PyData.hasDict] using b1,b2,by simp only [PyData.depth];lia,?_,by simp only [PyData.shown];exact md b5⟩
  have h2:=oi (PyData.shownAll ds)
  have:=Nat.mul_le_mul_right n hl
  simp only [PyData.shown]
  lia
theorem Sw.ok{b:Bool}{n dep:Nat}{d:PyData}(h:Sw b n dep d)(h1:n≤16777216)(h2:dep≤60):iD d=true:=by
  have sl:sizeLine=16777216:=sizeLine_eq
  have hd:(!d.hasDict || dZ d)=true:=by
    have:=h.dl
    cases b
    · simp only [cond_false] at this;simp [this]
    · simp only [cond_true] at this;simp [this]
  have:=h.ln
  unfold iD
  rw [hd,h.sh,decide_eq_true (Nat.le_trans h.dp h2),decide_eq_true (show d.shown.length≤sizeLine by rw [sl];lia)]
  simp
theorem Sw.repr{b:Bool}{n dep:Nat}{d:PyData}(h:Sw b n dep d)(h1:n≤16777216)(h2:dep≤60)(e:En):g1 jn e [.d d]=some (.d (.str d.shown)):=vY (h.ok h1 h2)
theorem Sw.int{b:Bool}{i:Int}(h:i.natAbs < 2 ^ 128):Sw b 200 0 (.int i):=((jX (k:=0) (d:=.int i) (by simp only [sk,decide_eq_true_eq];exact h)).swF rfl b).mono (by simp [wt]) (by decide)
theorem Sw.ints{b:Bool}{ns:List Int}{m:Nat}(h:∀r∈ns,r.natAbs < 2 ^ 128)(hl:ns.length≤m):Sw b (m*200+5) 1 (.tuple (ns.map .int)):=Sw.tup (n:=200) (dep:=0) (fun d hd=>by
  obtain⟨x,hx,rfl⟩:=List.mem_map.mp hd
  exact Sw.int (h x hx)) (by rw [List.length_map];exact hl)
theorem Sw.bool{b c:Bool}:Sw b 200 0 (.bool c):=((jX (k:=0) (d:=.bool c) rfl).swF rfl b).mono (by simp [wt]) (by decide)
end L2
namespace L2
open PySem PySem.Spec PyProof.Rows
def kX:List Fr→Int
  | []=>1
  | f::r=>f.2*kX r
structure S1 (n:Nat) (f:Fr):Prop where
  low:D6 f
  lo:0≤f.1
  hi:f.1≤f.2
  bt:Bt n f.2
def Ee(e:Int)(t:jT):Bool:=t.one==e || t.other==e
structure Ez (b f g:Fr):Prop where
  pf:0 < f.2
  pg:0 < g.2
  eq:g.1*(f.2*b.1)=g.2*(f.1*b.2)
end L2
namespace L2
open PySem PySem.Spec PyProof.Rows
def vR(f:Fr):Rat:=(f.1:Rat) / (f.2:Rat)
def cR(t:jT)(b:Bool):Rat:=vR (Ec t b)
end L2
namespace L2
open PySem PySem.Spec PyProof.Rows
def hR(t:jT):Rat:=cR t true*(t.worth:Rat)
end L2
namespace L2
open PySem PySem.Spec PyProof.Rows
structure Ex (O:bE) (ss ws:List Std):Prop where
  len:ss.length=ws.length
  at':∀j,(ss.getD j ([],[])).1=(ws.getD j ([],[])).1∧(ss.getD j ([],[])).2.length≤2*(ss.getD j ([],[])).1.length∧∀k∈(ss.getD j ([],[])).1,jR O k
structure Et (O:bE) (T:List Nd):Prop where
  tie:∀(i:Nat) (x:Nd),T[i]?=some x→jR O x.tie
  lk:∀(i:Nat) (x:Nd),T[i]?=some x→(-1≤x.yes∧x.yes < (T.length:Int))∧(-1≤x.no∧x.no < (T.length:Int))
end L2
namespace L2
open PySem PySem.Spec PyProof.Rows
section
variable{K:PySem.W.Frag}
variable{X:Cx}{σ:L2.St}{H0 H:Hp}{e:En}
end
end L2
namespace L2
open PySem PySem.Spec PyProof.Rows
section
variable{X:Cx}{a b:Expr}{ta:TA}{p p2 pos pos2:Pos}
end
end L2
namespace L2
open PySem PySem.Spec PyProof.Rows
section
variable{X:Cx}{K:PySem.W.Frag}{fs:FA}{a b:Expr}{p p2 pos pos2:Pos}
end
end L2
namespace L2
open PySem PySem.Spec PyProof.Rows
end L2
namespace L2
open PySem PySem.Spec PyProof.Rows PySem.W
structure C0 (lt:Nat→Nat→Bool):Prop where
  irr:∀i,lt i i=false
  tr:∀{i j k},lt i j=false→lt j k=false→lt i k=false
  asy:∀{i j},lt i j=true→lt j i=false
structure Ew (n:Nat) (p:Array Nat):Prop where
  sz:p.size=n
  pm:p.Perm (List.toArray (List.range n))
section
variable{lt:Nat→Nat→Bool}{n:Nat}(O:C0 lt)
include O
end
end L2
namespace L2
open PySem PySem.Spec PyProof.Rows PySem.W
section
variable{prog:Program}{w:World}{A:Around}{E:Value→Shared→Prop}{s:Shared}
end
end L2
namespace L2
open PySem PySem.Spec PyProof.Rows PySem.W
section
variable{X:Cx}{K:PySem.W.Frag}
end
end L2
namespace L2
open PySem PySem.Spec PyProof.Rows
section
variable{X:Cx}{K:PySem.W.Frag}
variable{o a:Expr}{es:List Expr}{fo:FE}{fs:FA}{apos cpos:Pos}
end
end L2
namespace L2
open PySem PySem.Spec PyProof.Rows
end L2
namespace L2
open PySem PySem.Spec PyProof.Rows
section
variable{X:Cx}{K:PySem.W.Frag}{σ σ2:L2.St}{H0 F H F2 H2 F3:Hp}{e e2:En}
end
end L2
namespace L2
open PySem PySem.Spec PyProof.Rows
section
variable{X:Cx}{K:PySem.W.Frag}{a b:Expr}{fa fb:FE}{pos p p1 p2 p3 pos':Pos}{x:Str}{i:Nat}
end
section
variable{X:Cx}{K:PySem.W.Frag}
end
end L2
namespace L2
open PySem PySem.Spec PyProof.Rows
section
variable{prog:Program}{w:World}{A:Around}{R:Result→Shared→Prop}
end
def xG(l:Addr)(wi:TI)(g:TG)(tc:TT)(tk tv:TE)(σ:L2.St)(H:Hp)(N:L2.St→Hp→Prop):Prop:=
  wi σ H fun J H1=>∃W:Nat→Nat→L2.St→Hp→Prop,(∃m,W 0 m σ H1)∧∀i m σ' H',W i m σ' H'→
    (J.stop i H'∧N σ' H')∨(J.go i H'∧∃N2:L2.St→Hp→Prop,(∀σ2 H2,N2 σ2 H2→∃m',m' < m∧W (i+1) m' σ2 H2)∧
      ∀x H2,J.yld i H' x H2→g x σ' H2 fun σ2 H3=>tc σ2 H3 fun b H4=>if b=true then tk σ2 H4 fun y H5=>tv σ2 H5 fun v H6=>∃(kk:ec) (kvs:List (ec × V)),y=kV kk∧H6 l=some (.dK kvs)∧kvs.length < sizeLine∧N2 σ2 (a7 H6 l (.dK (mZ kvs kk v))) else N2 σ2 H4)
structure CP (cp:List (Nat × Str)) (nT:Nat) (wi:TI) (g:TG) (tc:TT) (wi2:TI) (g2:TG) (tc2:TT) (tk tv:TE) (σ:L2.St) (H:Hp) (Q:VK):Prop where
  go:wi σ H fun J H1=>∀l,H1 l=none→
  ∃W:Nat→Nat→L2.St→Hp→Prop,(∃m,W 0 m (dn cp nT σ) (a7 H1 l (.dK [])))∧∀i m σ' H',W i m σ' H'→
    (J.stop i H'∧Q (.ref l) H')∨(J.go i H'∧∃N:L2.St→Hp→Prop,(∀σ2 H2,N σ2 H2→∃m',m' < m∧W (i+1) m' σ2 H2)∧
      ∀x H2,J.yld i H' x H2→g x σ' H2 fun σ2 H3=>tc σ2 H3 fun b H4=>if b=true then xG l wi2 g2 tc2 tk tv σ2 H4 N else N σ2 H4)
end L2
namespace L2
open PySem PySem.Spec PyProof.Rows
def aK(p:Int × sq):ec × V:=(Sum.inl p.1,p.2.toV)
def aD(p:Int × sq):PyData × PyData:=(.int p.1,p.2.toD)
section
variable{K:PySem.W.Frag}{F H F' H':Hp}{σ σ':L2.St}{e e':En}{nT:Nat}
inductive CD (K:PySem.W.Frag) (W:List Nat) (σ0:L2.St) (F1 H1:Hp) (e0:En) (l:Addr) (P:Hp→En→List (Int × sq)→Prop) (σ':L2.St) (H':Hp):Prop
  | mk {F':Hp} {ei:En} {acc:List (Int × sq)} (R:aT K F' H' σ' ei) (X:bZ W σ0 F1 H1 e0 σ' F' H' ei) (fl:F' l=none) (hl:H' l=some (.dK (acc.map aK))) (hc:P F' ei acc):CD K W σ0 F1 H1 e0 l P σ' H'
end
section
variable{X:Cx}{K:PySem.W.Frag}{pos:Pos}
end
end L2
namespace L2
open PySem PySem.Spec PyProof.Rows
section
variable{K:PySem.W.Frag}{F H F' H' F1 H1 F2 H2:Hp}{σ σ' σ1 σ2:L2.St}{e e' e1 e2:En}{i:Nat}{W W1 W2:List Nat}
structure C1 (K:PySem.W.Frag) (i:Nat) (F H:Hp) (σ:L2.St) (e:En):Prop where
  rel:aT K F H σ (e.set i none)
  dct:∃(l:Addr) (m:List (Int × sq)),e[i]?=some (some (.d (.dict (m.map aD))))∧σ[i]?=some (some (.ref l))∧F l=none∧H l=some (.dK (m.map aK))
structure D3 (i:Nat) (W:List Nat) (σ:L2.St) (F H:Hp) (e:En) (σ':L2.St) (F' H':Hp) (e':En):Prop where
  sf:aq F F'
  dom:∀a,H' a=none→H a=none
  fr:∀a vs,F a=none→H a=some (.lst vs)→¬bN σ (e.set i none) H a→F' a=none
  lst:∀a vs,H a=some (.lst vs)→∃vs',H' a=some (.lst vs')
  tmp:∀a o,H a=some o→¬bN σ (e.set i none) H a→σ[i]?≠some (some (.ref a))→H' a=some o
  own:∀a,bN σ' (e'.set i none) H' a→bN σ (e.set i none) H a∨H a=none
  wr:∀j,j∉W→σ'[j]?=σ[j]?
  dd:σ'[i]?=σ[i]?
  fd:∀a m,F a=none→H a=some (.dK m)→¬bN σ (e.set i none) H a→σ[i]?≠some (some (.ref a))→F' a=none
end
section
variable{X:Cx}{K:PySem.W.Frag}{i:Nat}{W W1 W2:List Nat}{st:Stmt}{dI:List Stmt}{f g:FS}{ft:FT}{pos:Pos}
inductive CT (K:PySem.W.Frag) (i:Nat) (F1:Hp) (P:En→Prop) (G:L2.St→Hp→Hp→En→Prop) (σ:L2.St) (H:Hp):Prop
  | mk {F:Hp} {e:En} (R:C1 K i F H σ e) (sF:aq F1 F) (hf:P e) (q:G σ F H e):CT K i F1 P G σ H
end
end L2
namespace L2
open PySem PySem.Spec PyProof.Rows
section
variable{X:Cx}{C:Addr}{x:Str}{p pos rp:Pos}{e:Expr}{t:TA}
end
end L2
namespace L2
open PySem PySem.Spec PyProof.Rows
structure Es (P:Program) (w:World) (fs:List Addr) (H H':Hp) (h b0:Heap):Prop where
  keep:∀b o,h.get? b=some o→H b=none→b∉fs→b0.get? b=some o
  there:∀b o,h.get? b=some o→b∉fs→∃o',b0.get? b=some o'
  free:∀b o,h.get? b=some o→H b=none→H' b=none
  tups:∀b xs,H b=some (.tup xs)→H' b=some (.tup xs)
  frzs:∀b o u,H b=some (.frz o u)→H' b=some (.frz o u)
  tbls:∀b ps,H b=some (.tbl ps)→∃more,H' b=some (.tbl (ps++more))
  hok:iJ P w H' b0
section
variable{P:Program}{w:World}{K:PySem.W.Frag}{mg:Str→Option Value}{base:Heap}{N:List Str}{qual:Str}{scope:Scope}{f:Addr}{cd:Value}{A:Around}{outer:List Env}{s:Shared}{H:Hp}{E:XK}{C:Addr}{pins:List (Addr × Obj)}{σ:L2.St}{H1:Hp}{s1:Shared}
end
section
variable{X:Cx}{K:PySem.W.Frag}{st r:Stmt}{dI:List Stmt}{c:Expr}{pos:Pos}{f1:FS}{ft:FT}{W1:List Nat}{g:En→Prop}
end
end L2
namespace L2
open PySem PySem.Spec PyProof.Rows PySem.W
section
variable{prog:Program}{w:World}{A:Around}{E:Value→Shared→Prop}{h:Heap}{g:Array GenState}{d:Drawn}{t:Nat}{os:OsState}{a D:Addr}{o:Obj}{K:Frag}
structure D2 (K:Frag) (D:Addr):Prop where
  ga:findIn K (.ref D) "__getattribute__"=some (some (.builtin "BaseException.__getattribute__"))
  gt:findIn K (.ref D) "__getattr__"=some none
  cl:findIn K (.ref D) "__class__"=some (some (.builtin "object.__class__"))
  mo:mroIn K D (.type "object")=some true
  mb:mroIn K D (.type "BaseException")=some true
  cs:(clsIn K D).isSome=true
end
end L2
namespace L2
open PySem PySem.Spec PyProof.Rows
def De(C a:Addr)(h:Heap):Prop:=∃o,h.get? a=some o∧o.cls=.ref C
def Ed(C a:Addr):HO:=.ext (De C a)
section
variable{X:Cx}{pins:List (Addr × Obj)}{σ:L2.St}{H H':Hp}{s:Shared}{n:Str}{j:Nat}
end
section
variable{X:Cx}{C Cb f:Addr}{fd:FuncData}{ps:List Str}{k n k0 i j:Nat}{g:En→Prop}{fn B kx nx:Str}{p pos ep bp kp np ap hp tp:Pos}{e:Expr}{es:List Expr}{t:TA}
end
end L2
namespace L2
open PySem PySem.Spec PyProof.Rows
section
variable{X:Cx}{C:Addr}{i:Nat}{x c:Str}{p p1 p2 pos:Pos}{v:V}{u:Value}{b:Bool}
def Dw(i:Nat)(C:Addr)(b:Bool):TE:=fun σ H Q=>∃a,σ[i]?=some (some (.ref a))∧H a=some (Ed C a)∧Q (.bl b) H
end
end L2
namespace L2
open PySem PySem.Spec PyProof.Rows
abbrev t3(C:Addr)(b1 b2 b3:Bool):TE:=Cj (jx (Dw 0 C b1) (jx (Dw 0 C b2) (jx (Dw 0 C b3) xH)))
section
variable{K:PySem.W.Frag}
end
end L2
namespace L2
open PySem PySem.Spec PyProof.Rows
section
variable{X:Cx}{K:PySem.W.Frag}{C:Addr}{x:Str}{p pos rp:Pos}{e:Expr}{fs:FA}
end
section
variable{P:Program}{w:World}{K:PySem.W.Frag}{mg:Str→Option Value}{base:Heap}{N ps:List Str}{qual fn:Str}{scope:Scope}{fa f:Addr}{cd:Value}{A:Around}{outer:List Env}{s:Shared}{H:Hp}{E:XK}{C:Addr}{st:Stmt}{fd:FuncData}{k n k0:Nat}{g:En→Prop}{p pos ep:Pos}{e:Expr}{es:List Expr}{fs:FA}
end
end L2
namespace L2
open PySem PySem.Spec PyProof.Rows
section
variable{X:Cx}{C:Addr}{i:Nat}{x:Str}{p p1 p2 pos:Pos}{vs:List V}{us:List Value}{b:Bool}{cs:List Expr}{ctx:Nat}
end
end L2
namespace L2
open PySem PySem.Spec PyProof.Rows
end L2
namespace L2
open PySem PySem.Spec PyProof.Rows
end L2
namespace L2
open PySem PySem.Spec PyProof.Rows
abbrev em(l:List Nat):Prop:=l.Pairwise (· < ·)
theorem iz{xs:Array Nat}(hr:em xs.toList){i k d:Nat}(h:i < k)(hk:k < xs.size):xs.getD i d < xs.getD k d:=by
  have:=List.pairwise_iff_getElem.mp hr i k (by simpa using Nat.lt_trans h hk) (by simpa using hk) h
  simpa [Array.getD,hk,Nat.lt_trans h hk] using this
theorem jY{xs:Array Nat}{j:Nat}(hr:em xs.toList):∀f lo hi:Nat,lo≤hi→hi≤xs.size→hi - lo≤f→(∀i,i < lo→xs.getD i j < j)→(∀i,hi≤i→i < xs.size→j≤xs.getD i j)→
    SetTable.below.go xs j f lo hi≤xs.size∧(∀i,i < SetTable.below.go xs j f lo hi→xs.getD i j < j)∧∀i,SetTable.below.go xs j f lo hi≤i→i < xs.size→j≤xs.getD i j
  | 0,lo,hi,a,b,c,d,e=>by
    have:lo=hi:=by lia
    subst this
    unfold SetTable.below.go
    exact⟨b,d,e⟩
  | f+1,lo,hi,a,b,c,d,e=>by
    unfold SetTable.below.go
    by_cases h:lo < hi
    · rw [if_pos h]
      dsimp only
      by_cases g:xs.getD ((lo+hi) / 2) j < j
      · rw [if_pos g]
        refine jY hr f _ hi (by lia) b (by lia) (fun i hi'=>?_) e
        by_cases q:i=(lo+hi) / 2
        · rw [q];exact g
        · exact Nat.lt_trans (iz hr (by lia:i < (lo+hi) / 2) (by lia)) g
      · rw [if_neg g]
        refine jY hr f lo _ (by lia) (by lia) (by lia) d fun i hi' hs=>?_
        by_cases q:i=(lo+hi) / 2
        · rw [q];exact Nat.le_of_not_lt g
        · exact Nat.le_of_lt (Nat.lt_of_le_of_lt (Nat.le_of_not_lt g) (iz hr (by lia:(lo+hi) / 2 < i) hs))
    · rw [if_neg h]
      have:lo=hi:=by lia
      subst this
      exact⟨b,d,e⟩
theorem nA{xs:Array Nat}{j:Nat}(hr:em xs.toList):SetTable.below xs j≤xs.size∧(∀i,i < SetTable.below xs j→xs.getD i j < j)∧∀i,SetTable.below xs j≤i→i < xs.size→j≤xs.getD i j:=
  jY hr _ _ _ (Nat.zero_le _) (Nat.le_refl _) (by lia) (fun i h=>by lia) fun i h g=>by lia
theorem sG{xs:Array Nat}{j i:Nat}(hr:em xs.toList)(hi:i≤xs.size)(a:∀k,k < i→xs.getD k j < j)(b:i < xs.size→j≤xs.getD i j):SetTable.below xs j=i:=by
  obtain⟨c,d,e⟩:=nA (j:=j) hr
  rcases Nat.lt_trichotomy (SetTable.below xs j) i with h | h | h
  · have:=e _ (Nat.le_refl _) (by lia);have:=a _ h;lia
  · exact h
  · have:=d i h;have:=b (by lia);lia
def jS(t:SetTable)(j:Nat):Prop:=t.place[SetTable.below t.place j]?≠some j
theorem lT{t:SetTable}{j:Nat}(h:t.slot j=.empty∨t.slot j=.dummy):jS t j:=by
  intro e
  unfold SetTable.slot at h
  simp [e] at h
theorem n_{xs:Array Nat}{j:Nat}(hr:em xs.toList)(hn:xs[SetTable.below xs j]?≠some j):em (SetTable.insertAt xs (SetTable.below xs j) j).toList:=by
  obtain⟨c,d,e⟩:=nA (j:=j) hr
  rw [SetTable.toList_insertAt]
  have hd:∀y∈xs.toList.drop (SetTable.below xs j),j < y:=fun y hy=>by
    obtain⟨i,hi⟩:=List.getElem?_of_mem hy
    rw [List.getElem?_drop,Array.getElem?_toList] at hi
    obtain⟨hs,rfl⟩:=Array.getElem?_eq_some_iff.mp hi
    have q:=e _ (Nat.le_add_right _ i) hs
    have e1:xs.getD (SetTable.below xs j+i) j=xs[SetTable.below xs j+i]:=by simp [Array.getD,hs]
    rw [e1] at q
    rcases Nat.lt_or_eq_of_le q with q | q
    · exact q
    · exfalso
      cases i with
      | zero=>exact hn (by rw [Array.getElem?_eq_some_iff];exact⟨hs,q.symm⟩)
      | succ i=>
        have hs':SetTable.below xs j < xs.size:=by lia
        have r:=iz hr (d:=j) (show SetTable.below xs j < SetTable.below xs j+(i+1) by lia) hs
        rw [e1,←q] at r
        have:=e _ (Nat.le_refl _) hs'
        lia
  have ht:∀y∈xs.toList.take (SetTable.below xs j),y < j:=fun y hy=>by
    obtain⟨i,hi⟩:=List.getElem?_of_mem hy
    rw [List.getElem?_take] at hi
    split at hi
    · rename_i g
      rw [Array.getElem?_toList] at hi
      obtain⟨hs,rfl⟩:=Array.getElem?_eq_some_iff.mp hi
      have q:=d i g
      simpa [Array.getD,hs] using q
    · cases hi
  refine List.pairwise_append.mpr ⟨hr.take,List.pairwise_cons.mpr ⟨hd,hr.drop⟩,fun y hy z hz=>?_⟩
  rcases List.mem_cons.mp hz with rfl | hz
  · exact ht y hy
  · exact Nat.lt_trans (ht y hy) (hd z hz)
theorem mN{t:SetTable}{q:Nat→Int}{h:Int}{j:Nat}{dm:Option Nat}:∀(f:Nat) (p:SetTable.Probe),(∀d,p.dummy=some d→jS t d)→SetTable.probe.go t q h f p=some (.empty j dm)→jS t j∧∀d,dm=some d→jS t d
  | 0,p,a,e=>by unfold SetTable.probe.go at e;cases e
  | f+1,p,a,e=>by
    unfold SetTable.probe.go at e
    split at e
    · rename_i c
      cases e
      exact⟨lT (.inl c),a⟩
    · rename_i c
      refine mN f _ (fun d hd=>?_) e
      have:some p.j=some d:=by
        unfold SetTable.advance at hd
        split at hd
        · exact hd
        · exact hd
      cases this
      exact lT (.inr c)
    · split at e
      · cases e
      · refine mN f _ (fun d hd=>a d ?_) e
        unfold SetTable.advance at hd
        split at hd
        · exact hd
        · exact hd
theorem nP{t:SetTable}{h:Int}{j:Nat}{b:Bool}(e:t.freeSlot h=some (j,b)):jS t j:=by
  unfold SetTable.freeSlot at e
  split at e
  · rename_i j' dm c
    obtain⟨x,y⟩:=mN _ _ (fun d hd=>by unfold SetTable.probeStart at hd;cases hd) c
    cases dm with
    | none=>cases e;exact x
    | some d=>cases e;exact y d rfl
  · cases e
theorem dJ(t:SetTable)(n:Nat):em (t.standIn n).place.toList∧(t.standIn n).led=t.led:=by
  refine⟨?_,rfl⟩
  show em (Array.range n).toList
  simpa using List.pairwise_lt_range
theorem kL{t:SetTable}(hr:em t.place.toList)(n:Nat):em (t.orStandIn n).place.toList∧(t.orStandIn n).led=t.led:=by
  unfold SetTable.orStandIn
  split
  · exact⟨hr,rfl⟩
  · exact dJ _ _
theorem og{t:SetTable}(hr:em t.place.toList)(es:Array (Int × Value))(h:Int)(x:Value):em (layNew t es h x).2.1.place.toList∧(layNew t es h x).2.1.led=t.led:=by
  unfold layNew
  split
  · rename_i j b e
    exact kL (t:=(t.put j).1) (n_ hr (nP e)) _
  · exact dJ _ _
theorem kn(f:Nat→Option (Nat × Nat))(hf:∀j p,f j=some p→p.1=j):∀l:List Nat,((l.filterMap f).map (·.1)).Sublist l
  | []=>.slnil
  | j::l=>by
    cases e:f j with
    | none=>rw [List.filterMap_cons_none e];exact(kn f hf l).cons j
    | some p=>
      rw [List.filterMap_cons_some e,List.map_cons,hf j p e]
      exact(kn f hf l).cons_cons j
theorem rD{m fg mv:Nat}{led pl:Bool}{hs:Array Int}{t:SetTable}{od:Array Nat}(e:SetTable.laid m fg mv led pl hs=some (t,od)):em t.place.toList∧t.led=led:=by
  unfold SetTable.laid at e
  obtain⟨ow,_,e⟩:=Option.bind_eq_some_iff.mp e
  cases e
  refine⟨?_,rfl⟩
  show em (((List.range (m+1)).filterMap fun j=>(ow.getD j none).map (j,·)).map (·.1)).toArray.toList
  rw [List.toList_toArray]
  refine List.Pairwise.sublist (kn _ (fun j p h=>?_) _) List.pairwise_lt_range
  obtain⟨k,_,rfl⟩:=Option.map_eq_some_iff.mp h
  rfl
theorem ls{t:SetTable}(hr:em t.place.toList)(es:Array (Int × Value))(n:Nat):em (relayAll t es n).2.1.place.toList∧(relayAll t es n).2.1.led=t.led:=by
  unfold relayAll
  split
  · rename_i t' od e
    dsimp only
    split
    · exact rD e
    · exact dJ _ _
  · exact dJ _ _
end L2
namespace L2
open PySem PySem.Spec PyProof.Rows
def fK(prog:Program)(w:World)(a:Addr)(ms:List Int)(h:Heap):Prop:=∃(es:Array (Int × Value)) (ms':List Int) (o:Obj) (ep:Nat) (t:SetTable),
  h.get? a=some o∧o.ExactSet∧o.data=.set es ep t∧t.fits es.size=true∧em t.place.toList∧t.led= !(w.params.followText "set-order")∧ElemsOf (intKind prog w) es.toList∧IntsAre (es.toList.map (·.2)) ms'∧ms'.Perm ms
theorem fK.at{prog:Program}{w:World}{a:Addr}{ms:List Int}{h h':Heap}(x:fK prog w a ms h)(k:∀o,h.get? a=some o→h'.get? a=some o):fK prog w a ms h':=
  let ⟨es,ms',o,ep,t,e,c⟩:=x;⟨es,ms',o,ep,t,k o e,c⟩
section
variable{prog:Program}{w:World}{A:Around}{E:Value→Shared→Prop}{s:Shared}
theorem yu{h:Heap}{a:Addr}{o:Obj}{es es':Array (Int × Value)}{ep:Nat}{t t':SetTable}(ho:h.get? a=some o)(hd:o.data=.set es ep t):(h.update a (Obj.putSet es' t')).get? a=some {o with data:=.set es' (ep+1) t'}:=by
  rw [←putSet_of es' t' hd]
  exact Heap.get?_update_self _ ho (by rw [putSet_of es' t' hd];rfl)
theorem kj{us vs:List Value}{ms:List Int}(p:us.Perm vs)(hi:IntsAre vs ms):∃ms',IntsAre us ms'∧ms'.Perm ms:=by
  induction p generalizing ms with
  | nil=>exact⟨ms,hi,.rfl⟩
  | cons x _ ih=>
    cases hi with
    | cons _ _ b=>
    obtain⟨m,q,r⟩:=ih b
    exact⟨_,.cons _ _ q,r.cons _⟩
  | swap x y l=>
    cases hi with
    | cons _ _ b=>
    cases b with
    | cons _ _ d=>exact⟨_,.cons _ _ (.cons _ _ d),.swap _ _ _⟩
  | trans _ _ ih1 ih2=>
    obtain⟨m,q,r⟩:=ih2 hi
    obtain⟨m2,q2,r2⟩:=ih1 q
    exact⟨m2,q2,r2.trans r⟩
theorem lP{es es':List (Int × Value)}{ms:List Int}(p:es'.Perm es)(hi:IntsAre (es.map (·.2)) ms):∃ms',IntsAre (es'.map (·.2)) ms'∧ms'.Perm ms:=kj (p.map _) hi
theorem oe{vs:List Value}{ms:List Int}(hi:IntsAre vs ms)(k:Int):k∈ms↔ ∃u,Value.int k u∈vs:=by
  induction hi with
  | nil=>simp
  | cons n t _ ih=>
    simp only [List.mem_cons,ih]
    constructor
    · rintro(rfl | ⟨u,h⟩)
      · exact⟨_,.inl rfl⟩
      · exact⟨u,.inr h⟩
    · rintro⟨u,h | h⟩
      · cases h;exact .inl rfl
      · exact .inr ⟨u,h⟩
theorem rj{vs:List Value}{ms:List Int}(hi:IntsAre vs ms)(k:Int)(u:Nat):IntsAre (vs++[.int k u]) (ms++[k]):=by
  induction hi with
  | nil=>exact .cons _ _ .nil
  | cons n t _ ih=>exact .cons _ _ ih
theorem vx{g:Bool→Sem Unit}(hg:∀(b:Bool) (s₁:Shared) (Q':Unit→Shared→Prop),Q' () s₁→wpAny (model prog w) A (g b) Q' E s₁){a:Addr}{o:Obj}{es es1:Array (Int × Value)}{ep:Nat}{t t2:SetTable}{ms:List Int}{wd:Bool}{R:Option Bool→Shared→Prop}
    (ho:s.heap.get? a=some o)(hex:o.ExactSet)(hd:o.data=.set es ep t)(hel:ElemsOf (intKind prog w) es1.toList)(hi:∃ms',IntsAre (es1.toList.map (·.2)) ms'∧ms'.Perm ms)(hb:es1.size < scanBound)(hf:t2.fits es1.size=true)(hr:em t2.place.toList)(hl:t2.led= !(w.params.followText "set-order"))
    (h:∀h',Heap.SameBut a s.heap h'→fK prog w a ms h'→R (some true) {s with heap:=h'}):
    wpAny (model prog w) A (do storeSet a es1 t2;if (!wd&&t2.tooFull)=true then do g (relayAll t2 es1 (SetTable.grown es1.size)).2.2;storeSet a (relayAll t2 es1 (SetTable.grown es1.size)).1 (relayAll t2 es1 (SetTable.grown es1.size)).2.1;pure (some true) else pure (some true)) R E s:=by
  obtain⟨ms',hi,hp⟩:=hi
  refine wpAny_bind (wpAny_storeSet_of ho hd ?_ (fits_of_scanBound hb))
  have o1:=yu (es':=es1) (t':=t2) ho hd
  have sb:=Heap.SameBut.update s.heap a (Obj.putSet es1 t2)
  by_cases c:(!wd&&t2.tooFull)=true
  · rw [if_pos c]
    have p2:=relayAll_perm t2 es1 (SetTable.grown es1.size)
    have f2:=relayAll_fits t2 es1 (SetTable.grown es1.size)
    obtain⟨r2,l2⟩:=ls hr es1 (SetTable.grown es1.size)
    generalize relayAll t2 es1 (SetTable.grown es1.size)=Rl at p2 f2 r2 l2 ⊢
    obtain⟨es2,t3,gave⟩:=Rl
    dsimp only at p2 f2 r2 l2 ⊢
    have z:es2.size=es1.size:=by rw [←Array.length_toList,p2.length_eq,Array.length_toList]
    refine wpAny_bind (hg _ _ _ ?_)
    refine wpAny_bind (wpAny_storeSet_of o1 rfl ?_ (fits_of_scanBound (by rw [z];exact hb)))
    obtain⟨m2,i2,q2⟩:=lP p2 hi
    exact wpAny_pure (h _ (sb.trans (Heap.SameBut.update _ a _)) ⟨es2,m2,_,_,t3,yu o1 rfl,hex,rfl,f2,r2,l2.trans hl,hel.perm p2,i2,q2.trans hp⟩)
  · rw [if_neg c]
    exact wpAny_pure (h _ sb ⟨es1,ms',_,_,t2,o1,hex,rfl,hf,hr,hl,hel,hi,hp⟩)
theorem AY{a:Addr}{ms:List Int}{k:Int}{tk:Nat}{Q:Bool→Shared→Prop}(hS:fK prog w a ms s.heap)(hroom:ms.length+1 < scanBound)
    (h:∀b h',Heap.SameBut a s.heap h'→fK prog w a (step_dedup ms k) h'→Q b {s with heap:=h'}):wpAny (model prog w) A (setAddHashed a (.int k tk) ((intKind prog w).hash k)) Q E s:=by
  obtain⟨es,ms',o,ep,t,ho,hex,hd,hf,hrs,hl,hel,hi,hp⟩:=id hS
  have z:es.size=ms.length:=by rw [←Array.length_toList,←hp.length_eq,←hi.length,List.length_map]
  have hb:es.size < scanBound:=by lia
  have hkey:(intKind prog w).is k (.int k tk)=true:=intKind_is _ _ _ _
  unfold setAddHashed setAddHashedIn
  refine wpAny_holding (wpAny_bind (wpAny_setState_of ho hd hf ?_))
  dsimp only
  rw [byScan_of (x:=.int k tk) rfl hb hel,if_pos rfl]
  unfold setAddByScan
  refine wpAny_bind (wpAny_bind (wpAny_rule (wpAny_bind (wpAny_setScan_of hkey ho hd hf hel ?_))))
  cases hr:List.findIdx? (fun e=>(intKind prog w).is k e.2) es.toList with
  | some j=>
    dsimp only
    refine wpAny_pure (wpAny_pure ?_)
    have e:s={s with heap:=s.heap}:=by cases s;rfl
    rw [e]
    refine h _ _ (Heap.SameBut.refl a s.heap) ?_
    obtain⟨hj,hpj,_⟩:=List.findIdx?_eq_some_iff_getElem.mp hr
    obtain⟨u,hu⟩:=Value.isInt_shape hpj
    have hm:k∈ms:=hp.mem_iff.mp ((oe hi k).mpr ⟨u,List.mem_map.mpr ⟨es.toList[j],List.getElem_mem hj,hu⟩⟩)
    have:step_dedup ms k=ms:=if_pos (List.any_eq_true.mpr ⟨k,hm,by simp⟩)
    rw [this]
    exact hS
  | none=>
    dsimp only
    have es':step_dedup ms k=ms++[k]:=if_neg fun c=>by
      obtain⟨k',hk,e⟩:=List.any_eq_true.mp c
      obtain rfl:k'=k:=by simpa using e
      obtain⟨u,hu⟩:=(oe hi k').mp (hp.mem_iff.mpr hk)
      obtain⟨y,hy,ey⟩:=List.mem_map.mp hu
      have:=List.findIdx?_eq_none_iff.mp hr y hy
      rw [ey,intKind_is] at this
      cases this
    rw [es'] at h
    have p1:=layNew_perm t es ((intKind prog w).hash k) (.int k tk)
    have f1:=layNew_fits t es ((intKind prog w).hash k) (.int k tk)
    obtain⟨r1,l1⟩:=og hrs es ((intKind prog w).hash k) (.int k tk)
    generalize layNew t es ((intKind prog w).hash k) (.int k tk)=L at p1 f1 r1 l1 ⊢
    obtain⟨es1,t1,wd,gave⟩:=L
    dsimp only at p1 f1 r1 l1 ⊢
    rw [Array.toList_push] at p1
    have z1:es1.size=es.size+1:=by rw [←Array.length_toList,p1.length_eq,List.length_append,Array.length_toList];rfl
    have i1:IntsAre ((es.toList++[((intKind prog w).hash k,Value.int k tk)]).map (·.2)) (ms'++[k]):=by
      rw [List.map_append]
      exact rj hi k tk
    obtain⟨m1,j1,q1⟩:=lP p1 i1
    have gw:∀(b:Bool) (s₁:Shared) (Q':Unit→Shared→Prop),Q' () s₁→wpAny (model prog w) A (match b with | true=>rule "set.scan.the-table-gave-way" | false=>pure ()) Q' E s₁:=fun b s₁ Q' q=>by
      cases b
      · exact wpAny_pure q
      · exact wpAny_rule q
    refine wpAny_bind (gw _ _ _ ?_)
    have q2:m1.Perm (ms++[k]):=q1.trans (hp.append_right _)
    split
    · refine wpAny_bind ?_
      rw [hashByValue_scannable 8 (x:=.int k tk) rfl]
      refine wpAny_pure ?_
      refine vx gw ho hex hd ((hel.push hkey rfl).perm p1) ⟨m1,j1,q2⟩ (by lia) f1 r1 (l1.trans hl) fun h' sb hS'=>?_
      dsimp only
      exact wpAny_pure (h _ h' sb hS')
    · refine wpAny_bind (wpAny_pure ?_)
      rw [if_pos rfl]
      refine vx gw ho hex hd ((hel.push hkey rfl).perm p1) ⟨m1,j1,q2⟩ (by lia) f1 r1 (l1.trans hl) fun h' sb hS'=>?_
      dsimp only
      exact wpAny_pure (h _ h' sb hS')
end
end L2
namespace L2
open PySem PySem.Spec PyProof.Rows
theorem gU{α:Type}:∀(l:List α) (i:Nat) (h:i < l.length),(l[i]::l.eraseIdx i).Perm l
  | x::l,0,h=>.rfl
  | x::l,i+1,h=>(List.Perm.swap _ _ _).trans ((gU l i (by simpa using h)).cons x)
theorem qo{α:Type}(next:Nat→Nat):∀(f k:Nat) (left:List α) (out:Array α),f=left.length→(pickOrder.go next f k left out).toList.Perm (out.toList++left)
  | 0,k,left,out,e=>by
    have:left=[]:=List.length_eq_zero_iff.mp e.symm
    subst this
    unfold pickOrder.go
    rw [List.append_nil]
  | f+1,k,left,out,e=>by
    unfold pickOrder.go
    have hl:next k % left.length < left.length:=Nat.mod_lt _ (by lia)
    rw [List.getElem?_eq_getElem hl]
    dsimp only
    refine(qo next f (k+1) _ _ (by rw [List.length_eraseIdx_of_lt hl];lia)).trans ?_
    rw [Array.toList_push,List.append_assoc]
    exact(gU _ _ hl).append_left _
theorem rO{α:Type}(next:Nat→Nat)(xs:Array α):(pickOrder next xs).toList.Perm xs.toList:=by
  have:=qo next xs.size 0 xs.toList #[] (by simp)
  rw [show(#[]:Array α).toList++xs.toList=xs.toList from rfl] at this
  exact this
section
variable{prog:Program}{w:World}{A:Around}{E:Value→Shared→Prop}{s:Shared}
theorem sN{src:Source}{n:Nat}{Q:Nat→Shared→Prop}(hn:n≠0)(h:∀i d,i < n→Q i {s with drawn:=d}):wpAny (model prog w) A (choose src n) Q E s:=fun Γ p hΓ=>by
  unfold choose
  rw [Sem.wp_choose]
  exact⟨hn,h _ _ (Nat.mod_lt _ (Nat.pos_of_ne_zero hn))⟩
theorem sT{α:Type}:∀(n:Nat) (xs:List α) (s:Shared) (Q:List α→Shared→Prop),n=xs.length→(∀ys d,ys.Perm xs→Q ys {s with drawn:=d})→wpAny (model prog w) A (drawOrder n xs) Q E s
  | 0,xs,s,Q,e,h=>by
    have:xs=[]:=List.length_eq_zero_iff.mp e.symm
    subst this
    unfold drawOrder
    have:=h [] s.drawn .nil
    exact wpAny_pure this
  | n+1,[],s,Q,e,h=>by cases e
  | n+1,x::xs,s,Q,e,h=>by
    unfold drawOrder
    refine wpAny_bind (sN (by simp) fun i d hi=>?_)
    rw [List.getElem?_eq_getElem hi]
    dsimp only
    refine wpAny_bind (sT n _ _ _ (by rw [List.length_eraseIdx_of_lt hi];simp at e ⊢;lia) fun ys d' hp=>wpAny_pure (h _ d' ?_))
    exact(hp.cons _).trans (gU _ _ hi)
end
theorem lU:Manifest.owners.lookup (String.ofList ['r', 'o', 't', 'a', 'r', 'e', 't', 'i', '_', 't', 'e', 's'].reverse)=some Manifest.sig_set_iterator:=by kernel_rfl
theorem bJ:Slot "set_iterator" "__next__" "set_iterator.__next__":=
  .of (owner:="set_iterator") (n:="__next__") (by rw [typeLookup_type,builtinLookup_eq_fast];kernel_rfl) (by decide+kernel) (by decide+kernel) (by decide+kernel)
    (by first | exact .inl (by decide+kernel) | exact .inr (by decide+kernel)) (by rw [isSubtype_type];kernel_rfl)
theorem fQ:entryFor table "set_iterator.__next__"=some Builtin.«set_iterator.__next__»:=entryFor_of_tree (by kernel_rfl)
theorem gG(a:Value):argsOk "set_iterator.__next__" ⟨[a],[]⟩:=by
  unfold argsOk;rw [signature?_of (id:="set_iterator.__next__") (n:=['_', '_', 't', 'x', 'e', 'n', '_', '_']) (o:=['r', 'o', 't', 'a', 'r', 'e', 't', 'i', '_', 't', 'e', 's']) (by kernel_rfl) lU];kernel_rfl
theorem gM:Slot "set_iterator" "__iter__" "set_iterator.__iter__":=
  .of (owner:="set_iterator") (n:="__iter__") (by rw [typeLookup_type,builtinLookup_eq_fast];kernel_rfl) (by decide+kernel) (by decide+kernel) (by decide+kernel)
    (by first | exact .inl (by decide+kernel) | exact .inr (by decide+kernel)) (by rw [isSubtype_type];kernel_rfl)
theorem k_(a:Value):argsOk "set_iterator.__iter__" ⟨[a],[]⟩:=by
  unfold argsOk;rw [signature?_of (id:="set_iterator.__iter__") (n:=['_', '_', 'r', 'e', 't', 'i', '_', '_']) (o:=['r', 'o', 't', 'a', 'r', 'e', 't', 'i', '_', 't', 'e', 's']) (by kernel_rfl) lU];kernel_rfl
theorem j6:entryFor table "set_iterator.__iter__"=some Builtin.«dict_keyiterator.__iter__»:=
  entryFor_alias (id':="dict_keyiterator.__iter__") (by kernel_rfl) (by first | rfl | decide+kernel | (unfold String.splitOn;simp+decide [String.splitOnAux])) (by decide+kernel) (by kernel_rfl)
theorem lh:entryFor table "set.__iter__"=some Builtin.«frozenset.__iter__»:=
  entryFor_alias (id':="frozenset.__iter__") (by kernel_rfl) (by first | rfl | decide+kernel | (unfold String.splitOn;simp+decide [String.splitOnAux])) (by decide+kernel) (by kernel_rfl)
def AM(h:Heap)(I:Addr)(first:Value)(i:Nat)(a:Addr)(n ep:Nat):Prop:=∃o,h.get? I=some o∧o.cls=.type "set_iterator"∧o.data=.fields #[first,rawInt i,.ref a,rawInt n,rawInt ep]
def Ca(t:SetTable):Nat→Nat
  | 0=>0
  | i+1=>t.place.getD i 0+1
inductive pU (w:World) (a:Addr) (es:Array (Int × Value)) (ep:Nat) (t:SetTable) (h:Heap):List Value→Addr→Nat→Value→Prop where
  | text (hb:w.params.followText "set-order"=true) (p:Addr) (i:Nat) (hp:p=a):pU w a es ep t h ((pickOrder (w.params.setOrder a ep) es).toList.map (·.2)) p i (rawInt 0)
  | led (hb:w.params.followText "set-order"=false) (hd:(!t.plain&&es.size > 1)=false) (hl:t.led=true) (hr:em t.place.toList) (p:Addr) (i:Nat) (hp:p=a):pU w a es ep t h (es.toList.map (·.2)) p i (rawInt (Ca t i))
  | drawn (hb:w.params.followText "set-order"=false) (p:Addr) (i:Nat) (ys:List Nat) (hy:ys.Perm (List.range es.size)) (hp:IsTup h p (ys.map fun(i:Nat)=>rawInt i).toArray):pU w a es ep t h (ys.filterMap fun i=>es[i]?.map (·.2)) p i (.ref p)
theorem pU.len{w:World}{a:Addr}{es:Array (Int × Value)}{ep:Nat}{t:SetTable}{h:Heap}{L:List Value}{p:Addr}{i:Nat}{f:Value}(x:pU w a es ep t h L p i f):L.Perm (es.toList.map (·.2)):=by
  cases x with
  | text=>exact(rO _ es).map _
  | led=>exact .rfl
  | drawn hb p i ys hy hp=>
    refine(hy.filterMap _).trans ?_
    rw [←List.map_filterMap,filterMap_getElem?_range]
end L2
namespace L2
open PySem PySem.Spec PyProof.Rows
section
variable{prog:Program}{w:World}{A:Around}{E:Value→Shared→Prop}{s:Shared}
def nu(w:World)(h:Heap)(a:Addr)(es:Array (Int × Value))(ep:Nat)(t:SetTable):Prop:=∃o,h.get? a=some o∧o.ExactSet∧o.data=.set es ep t∧t.fits es.size=true
def kZ(w:World)(I a p:Addr)(es:Array (Int × Value))(ep:Nat)(t:SetTable)(L:List Value)(i:Nat)(h:Heap):Prop:=∃f,AM h I f i a es.size ep∧nu w h a es ep t∧pU w a es ep t h L p i f
theorem xA{I a p:Addr}{es:Array (Int × Value)}{ep:Nat}{t:SetTable}{L:List Value}{i:Nat}{Q:Value→Shared→Prop}(x:kZ w I a p es ep t L i s.heap)(h:Q (.ref I) s):wpAny (model prog w) A (pyIter (.ref I)) Q E s:=by
  obtain⟨f,⟨o,ho,hc,hd⟩,_⟩:=x
  have hT:s.TypeIs (.ref I) "set_iterator":=⟨o,ho,hc⟩
  refine wpAny_pyIter_slot hT gM (wpAny_call_entry gM hT j6 ?_ (k_ _))
  show wpAny _ _ (ret (.ref I)) _ _ s
  exact wpAny_pure ⟨_,rfl,"set_iterator",_,hT,bJ.lookup,h⟩
theorem ia{Q:Bool→Shared→Prop}(h:Q (w.params.followText "set-order") s):wpAny (model prog w) A setsByText Q E s:=wpAny_bind (wpAny_askSetting (wpAny_pure h))
theorem rV{t:SetTable}(hr:em t.place.toList){i:Nat}(hi:i≤t.place.size):SetTable.below t.place (Ca t i)=i:=by
  refine sG hr hi (fun k hk=>?_) fun h=>?_
  · cases i with
    | zero=>lia
    | succ i=>
      show _ < t.place.getD i 0+1
      have e:∀d,t.place.getD k d=t.place.getD k 0:=fun d=>by simp [Array.getD,show k < t.place.size by lia]
      rw [e]
      rcases Nat.lt_or_eq_of_le (Nat.le_of_lt_succ hk) with g | rfl
      · exact Nat.lt_succ_of_lt (iz hr g (by lia))
      · exact Nat.lt_succ_self _
  · cases i with
    | zero=>exact Nat.zero_le _
    | succ i=>
      show t.place.getD i 0+1≤_
      have e:∀d,t.place.getD (i+1) d=t.place.getD (i+1) 0:=fun d=>by simp [Array.getD,h]
      rw [e]
      exact iz hr (Nat.lt_succ_self i) h
theorem uj{a:Addr}{es:Array (Int × Value)}{ep:Nat}{t:SetTable}{L:List Value}{p:Addr}{i k:Nat}{Q:Option (Value × Nat)→Shared→Prop}(x:pU w a es ep t s.heap L p i (rawInt k))(o:nu w s.heap a es ep t)(hi:i≤es.size)
    (h:∀k':Nat,pU w a es ep t s.heap L p (i+1) (rawInt k')→Q (L[i]?.map fun v=>(v,k')) s):wpAny (model prog w) A (setNext a k i ep) Q E s:=by
  obtain⟨ob,ho,hex,hd,hf⟩:=o
  unfold setNext
  refine wpAny_bind (wpAny_setState_of ho hd hf ?_)
  dsimp only
  generalize ef:rawInt k=f at x
  cases x with
  | text hb p i hp=>
    have e0:k=0:=by simp [rawInt] at ef;lia
    subst e0
    refine wpAny_bind (ia ?_)
    rw [hb,if_pos rfl,if_neg (by simp)]
    refine wpAny_bind ?_
    unfold setWalk
    refine wpAny_bind (wpAny_setState_of ho hd hf ?_)
    dsimp only
    refine wpAny_bind (ia ?_)
    rw [hb,if_pos rfl]
    refine wpAny_bind (wpAny_askSetting (wpAny_pure (wpAny_pure ?_)))
    have:=h 0 (.text hb _ _ hp)
    rw [List.getElem?_map,Array.getElem?_toList] at this
    rw [Option.map_map] at this
    exact this
  | led hb hdr hl hr p i hp=>
    have e0:k=Ca t i:=by simp [rawInt] at ef;lia
    subst e0
    refine wpAny_bind (ia ?_)
    rw [hb,if_neg (by simp)]
    refine(show wpAny _ _ (if (!t.plain&&decide (es.size > 1))=true then _ else _) _ _ _ from ?_)
    rw [hdr,if_neg Bool.false_ne_true]
    refine wpAny_bind (show wpAny _ _ (if (!t.led&& !es.isEmpty)=true then unsupported "set:maker-not-led" else pure ()) _ _ _ from ?_)
    rw [hl,if_neg (by simp)]
    refine wpAny_pure (wpAny_pure ?_)
    have hz:t.place.size=es.size:=by
      simp only [SetTable.fits,Bool.and_eq_true,beq_iff_eq] at hf
      exact hf.1
    rw [rV hr (by lia)]
    have:=h (t.place.getD i 0+1) (.led hb hdr hl hr _ _ hp)
    rw [List.getElem?_map,Array.getElem?_toList] at this
    rcases Nat.lt_or_eq_of_le hi with g | g
    · have g':i < t.place.size:=by lia
      rw [Array.getElem?_eq_getElem g,Array.getElem?_eq_getElem g']
      rw [Array.getElem?_eq_getElem g] at this
      simpa [Array.getD,g'] using this
    · rw [Array.getElem?_eq_none (by lia)]
      rw [Array.getElem?_eq_none (by lia)] at this
      exact this
  | drawn=>cases ef
end
end L2
namespace L2
open PySem PySem.Spec PyProof.Rows
theorem pU.at{w:World}{a:Addr}{es:Array (Int × Value)}{ep:Nat}{t:SetTable}{h h':Heap}{L:List Value}{p:Addr}{i:Nat}{f:Value}(x:pU w a es ep t h L p i f)(k:∀o,h.get? p=some o→h'.get? p=some o):pU w a es ep t h' L p i f:=by
  cases x with
  | text hb p i hp=>exact .text hb _ _ hp
  | led hb hd hl hr p i hp=>exact .led hb hd hl hr _ _ hp
  | drawn hb p i ys hy hp=>exact .drawn hb _ _ ys hy (let ⟨o,e,c⟩:=hp;⟨o,k o e,c⟩)
theorem nu.at{w:World}{a:Addr}{es:Array (Int × Value)}{ep:Nat}{t:SetTable}{h h':Heap}(x:nu w h a es ep t)(k:∀o,h.get? a=some o→h'.get? a=some o):nu w h' a es ep t:=let ⟨o,e,c⟩:=x;⟨o,k o e,c⟩
theorem kZ.at{w:World}{I a p:Addr}{es:Array (Int × Value)}{ep:Nat}{t:SetTable}{L:List Value}{i:Nat}{h h':Heap}(x:kZ w I a p es ep t L i h)(k:∀b∈[I,a,p],∀o,h.get? b=some o→h'.get? b=some o):kZ w I a p es ep t L i h':=
  let ⟨f,⟨o,ho,c⟩,y,z⟩:=x;⟨f,⟨o,k I (by simp) o ho,c⟩,y.at (k a (by simp)),z.at (k p (by simp))⟩
section
variable{prog:Program}{w:World}{A:Around}{E:Value→Shared→Prop}{s:Shared}{I a p:Addr}{es:Array (Int × Value)}{ep:Nat}{t:SetTable}{L:List Value}{i:Nat}
theorem iM{Q:Array (Int × Value)→Shared→Prop}(o:nu w s.heap a es ep t)(h:Q es s):wpAny (model prog w) A (setEntries a) Q E s:=let ⟨_,ho,_,hd,hf⟩:=o;wpAny_bind (wpAny_setState_of ho hd hf (wpAny_pure h))
theorem pI(x:kZ w I a p es ep t L i s.heap):L.length=es.size:=by
  obtain⟨f,_,_,y⟩:=x
  rw [y.len.length_eq,List.length_map,Array.length_toList]
theorem nL{ys:List Nat}(hy:ys.Perm (List.range es.size)):(ys.filterMap fun i=>es[i]?.map (·.2))=ys.map fun i=>(es.getD i (0,.none)).2:=by
  have hlt:∀i∈ys,i < es.size:=fun i hi=>List.mem_range.mp (hy.mem_iff.mp hi)
  clear hy
  induction ys with
  | nil=>rfl
  | cons y ys ih=>
    have g:=hlt y (.head _)
    rw [List.filterMap_cons_some (b:=es[y].2) (by rw [Array.getElem?_eq_getElem g];rfl),ih fun i hi=>hlt i (.tail _ hi),List.map_cons]
    simp [Array.getD,g]
theorem xN{f v:Value}{o:Obj}{n:Nat}(ho:s.heap.get? I=some o)(hc:o.cls=.type "set_iterator")(hd:o.data=.fields #[f,rawInt i,.ref a,rawInt n,rawInt ep]){k:Nat}{Q:PySem.Fin→Shared→Prop}
    (h:∀h',AM h' I (rawInt k) (i+1) a n ep→Heap.SameBut I s.heap h'→Q (.done (.ret v)) {s with heap:=h'}):wpAny (model prog w) A (setField (.ref I) 0 (rawInt k) >>= fun _=>setField (.ref I) 1 (rawInt ((i:Int)+1)) >>= fun _=>ret v) Q E s:=by
  refine wpAny_bind (wpAny_setField ho hd (by simp) ?_)
  have ho1:=Heap.get?_update_self (Obj.mapFields fun x=>x.setIfInBounds 0 (rawInt (k:Int))) ho (Obj.isFreed_of_fields (Obj.data_mapFields hd _))
  have hd1:=Obj.data_mapFields hd fun x=>x.setIfInBounds 0 (rawInt (k:Int))
  have hc1:(Obj.mapFields (fun x=>x.setIfInBounds 0 (rawInt (k:Int))) o).cls=.type "set_iterator":=(Obj.cls_mapFields ..).trans hc
  have k1:Heap.SameBut I s.heap (s.heap.update I (Obj.mapFields fun x=>x.setIfInBounds 0 (rawInt (k:Int)))):=Heap.SameBut.update ..
  generalize s.heap.update I (Obj.mapFields fun x=>x.setIfInBounds 0 (rawInt (k:Int)))=g1 at*
  refine wpAny_bind (wpAny_setField (s:={s with heap:=g1}) ho1 hd1 (by simp) ?_)
  refine wpAny_pure (h _ ?_ (k1.trans (Heap.SameBut.update ..)))
  exact⟨_,Heap.get?_update_self _ ho1 (Obj.isFreed_of_fields (Obj.data_mapFields hd1 _)),(Obj.cls_mapFields ..).trans hc1,by rw [Obj.data_mapFields hd1];simp⟩
theorem xx{Q:Option Value→Shared→Prop}(hne:a≠I)(hnp:p≠I)(x:kZ w I a p es ep t L i s.heap)(hi:i < es.size)
    (hQ:∀v h',L[i]?=some v→kZ w I a p es ep t L (i+1) h'→Heap.SameBut I s.heap h'→Q (some v) {s with heap:=h'}):wpAny (model prog w) A (pyNext (.ref I)) Q E s:=by
  have hL:=pI x
  obtain⟨f,⟨o,ho,hc,hd⟩,y,z⟩:=x
  have hT:s.TypeIs (.ref I) "set_iterator":=⟨o,ho,hc⟩
  obtain⟨v,hv⟩:∃v,L[i]?=some v:=⟨_,List.getElem?_eq_getElem (by lia)⟩
  unfold pyNext
  refine wpAny_bind (wpAny_attempt (wpAny_callSpecial?_slot (name:=Str.ofString "__next__") hT bJ (wpAny_call_entry bJ hT fQ ?_ (gG _))))
  unfold Builtin.«set_iterator.__next__»
  refine wpAny_bind (wpAny_of_eq (a:=(Value.ref I,[])) rfl ?_)
  dsimp only
  refine wpAny_bind (wpAny_fieldsOf ho hd ?_)
  refine(show wpAny _ _ (setEntries a >>= _) _ _ _ from ?_)
  refine wpAny_bind (iM y ?_)
  rw [if_neg (by simp)]
  have one:∀k:Nat,pU w a es ep t s.heap L p i (rawInt k)→wpAny (model prog w) A.in1 (setNext a k i ep >>= fun r=>match r with
      | some (x,next)=>setField (.ref I) 0 (rawInt next) >>= fun _=>setField (.ref I) 1 (rawInt ((i:Int)+1)) >>= fun _=>ret x
      | none=>setField (.ref I) 2 .none >>= fun _=>newExc (.type "StopIteration") [] >>= fun e=>raiseNew e) (fun fin s'=>∃r,fin=.done (.ret r)∧wpAny (model prog w) A (pure (some r)) Q E s') (fun _ _=>False) s:=fun k z=>by
    refine wpAny_bind (uj z y (by lia) fun k' y'=>?_)
    rw [hv]
    refine xN ho hc hd fun h' u sb=>⟨v,rfl,wpAny_pure (hQ v h' hv ⟨_,u,y.at fun o e=>sb.extBut a o hne e,y'.at fun o e=>sb.extBut p o hnp e⟩ sb)⟩
  cases z with
  | text hb p i hp=>exact wpAny_mono (one 0 (.text hb p i hp)) (fun _ _ h=>h) fun _ _ h=>h.elim
  | led hb hdr hl hr p i hp=>exact wpAny_mono (one (Ca t i) (.led hb hdr hl hr p i hp)) (fun _ _ h=>h) fun _ _ h=>h.elim
  | drawn hb p i ys hy hp=>
    obtain⟨op,hop,hcp,np,hdp⟩:=id hp
    rw [nL hy] at hv
    obtain⟨j,hj,rfl⟩:=Option.map_eq_some_iff.mp ((List.getElem?_map ..).symm.trans hv)
    have hlt:j < es.size:=List.mem_range.mp (hy.mem_iff.mp (List.mem_of_getElem? hj))
    refine(show wpAny _ _ (seqItems? (.ref p) >>= _) _ _ _ from wpAny_bind (wpAny_seqItems hop hdp ?_))
    dsimp only
    rw [Int.toNat_natCast,show(ys.map fun(i:Nat)=>rawInt i).toArray[i]?=some (rawInt j) by simp [hj]]
    refine(show wpAny _ _ (setNextDrawn a (Int.toNat j) (Int.toNat ep) >>= _) _ _ _ from ?_)
    rw [Int.toNat_natCast,Int.toNat_natCast]
    obtain⟨ob,hob,hex,hdb,hf⟩:=id y
    refine wpAny_bind ?_
    unfold setNextDrawn
    refine wpAny_bind (wpAny_setState_of hob hdb hf ?_)
    dsimp only
    rw [if_neg (by simp),Array.getElem?_eq_getElem hlt]
    dsimp only
    refine wpAny_pure ?_
    refine wpAny_bind (wpAny_setField ho hd (by simp) ?_)
    have sb:Heap.SameBut I s.heap (s.heap.update I (Obj.mapFields fun x=>x.setIfInBounds 1 (rawInt ((i:Int)+1)))):=Heap.SameBut.update ..
    refine wpAny_pure ⟨_,rfl,wpAny_pure (hQ _ _ ?_ ⟨.ref p,⟨_,Heap.get?_update_self _ ho (Obj.isFreed_of_fields (Obj.data_mapFields hd _)),(Obj.cls_mapFields ..).trans hc,by rw [Obj.data_mapFields hd];simp⟩,y.at fun o e=>sb.extBut a o hne e,.drawn hb _ _ ys hy (let ⟨o,e,c⟩:=hp;⟨o,sb.extBut p o hnp e,c⟩)⟩ sb)⟩
    rw [nL hy,hv]
    simp [Array.getD,hlt]
theorem qH{Q:Option Value→Shared→Prop}{g:Heap}(hh:A.handled=none)(hQ:∀h',(∀b o,g.get? b=some o→h'.get? b=some o)→Q none {s with heap:=h'}):
    wpAny (model prog w) A.in1 (newExc (.type "StopIteration") [] >>= fun e=>raiseNew e) (fun fin s'=>∃r,fin=PySem.Fin.done (.ret r)∧wpAny (model prog w) A (pure (some r)) Q E s') (fun e s'=>wpAny (model prog w) A (isInstance e (.type "StopIteration") >>= fun b=>if b=true then pure none else throw e) Q E s') {s with heap:=g}:=by
  refine wpAny_bind ?_
  simp only [newExc,newTuple]
  refine wpAny_bind (wpAny_newObj_type ?_ (by size_fits))
  refine wpAny_bind (m:=firstArgMember _ _) (wpAny_of_eq (a:=Value.none) (by first | rfl | (simp only [firstArgMember];rfl)) ?_)
  refine wpAny_newObj_type ?_ (by size_fits)
  simp only [raiseNew]
  refine wpAny_bind (wpAny_handled ?_)
  first | rw [show A.in1.handled=none from hh] | rw [hh]
  refine wpAny_bind (wpAny_pure (wpAny_throw ?_))
  refine wpAny_bind (wpAny_isInstance (T:="StopIteration") (b:=true) ⟨_,Heap.get?_push_size _ rfl,rfl⟩ isSubtype_stop ?_)
  exact wpAny_pure (hQ _ fun b o e=>Heap.get?_push_of_some _ (Heap.get?_push_of_some _ e))
theorem Ag{Q:Option Value→Shared→Prop}(hh:A.handled=none)(x:kZ w I a p es ep t L es.size s.heap)
    (hQ:∀h',Heap.ExtBut I s.heap h'→Q none {s with heap:=h'}):wpAny (model prog w) A (pyNext (.ref I)) Q E s:=by
  have hL:=pI x
  obtain⟨f,⟨o,ho,hc,hd⟩,y,z⟩:=x
  have hT:s.TypeIs (.ref I) "set_iterator":=⟨o,ho,hc⟩
  have hv:L[es.size]?=none:=List.getElem?_eq_none (by lia)
  unfold pyNext
  refine wpAny_bind (wpAny_attempt (wpAny_callSpecial?_slot (name:=Str.ofString "__next__") hT bJ (wpAny_call_entry bJ hT fQ ?_ (gG _))))
  unfold Builtin.«set_iterator.__next__»
  refine wpAny_bind (wpAny_of_eq (a:=(Value.ref I,[])) rfl ?_)
  dsimp only
  refine wpAny_bind (wpAny_fieldsOf ho hd ?_)
  refine(show wpAny _ _ (setEntries a >>= _) _ _ _ from ?_)
  refine wpAny_bind (iM y ?_)
  rw [if_neg (by simp)]
  have one:∀k:Nat,pU w a es ep t s.heap L p es.size (rawInt k)→wpAny (model prog w) A.in1 (setNext a k es.size ep >>= fun r=>match r with
      | some (x,next)=>setField (.ref I) 0 (rawInt next) >>= fun _=>setField (.ref I) 1 (rawInt ((es.size:Int)+1)) >>= fun _=>ret x
      | none=>setField (.ref I) 2 .none >>= fun _=>newExc (.type "StopIteration") [] >>= fun e=>raiseNew e) (fun fin s'=>∃r,fin=PySem.Fin.done (.ret r)∧wpAny (model prog w) A (pure (some r)) Q E s') (fun e s'=>wpAny (model prog w) A (isInstance e (.type "StopIteration") >>= fun b=>if b=true then pure none else throw e) Q E s') s:=fun k z=>by
    refine wpAny_bind (uj z y (Nat.le_refl _) fun k' y'=>?_)
    rw [hv]
    dsimp only [Option.map_none]
    refine wpAny_bind (wpAny_setField ho hd (by simp) ?_)
    exact qH hh fun h' k=>hQ h' fun b o hb e=>k b o ((Heap.SameBut.update s.heap I _).extBut b o hb e)
  cases z with
  | text hb p i hp=>exact one 0 (.text hb p _ hp)
  | led hb hdr hl hr p i hp=>exact one (Ca t es.size) (.led hb hdr hl hr p _ hp)
  | drawn hb p i ys hy hp=>
    obtain⟨op,hop,hcp,np,hdp⟩:=id hp
    refine(show wpAny _ _ (seqItems? (.ref p) >>= _) _ _ _ from wpAny_bind (wpAny_seqItems hop hdp ?_))
    dsimp only
    have hz:ys.length=es.size:=by rw [hy.length_eq,List.length_range]
    rw [Int.toNat_natCast,show(ys.map fun(i:Nat)=>rawInt i).toArray[es.size]?=none by simp [hz]]
    dsimp only
    refine wpAny_bind (wpAny_setField ho hd (by simp) ?_)
    have ho1:=Heap.get?_update_self (Obj.mapFields fun x=>x.setIfInBounds 0 (rawInt 0)) ho (Obj.isFreed_of_fields (Obj.data_mapFields hd _))
    have hd1:=Obj.data_mapFields hd fun x=>x.setIfInBounds 0 (rawInt 0)
    have k1:Heap.SameBut I s.heap (s.heap.update I (Obj.mapFields fun x=>x.setIfInBounds 0 (rawInt 0))):=Heap.SameBut.update ..
    generalize s.heap.update I (Obj.mapFields fun x=>x.setIfInBounds 0 (rawInt 0))=g1 at*
    refine wpAny_bind (wpAny_setField (s:={s with heap:=g1}) ho1 hd1 (by simp) ?_)
    exact qH hh fun h' k=>hQ h' fun b o hb e=>k b o ((Heap.SameBut.update g1 I _).extBut b o hb (k1.extBut b o hb e))
theorem vh(hh:A.handled=none)(hne:a≠I)(hnp:p≠I):Walks prog w A I [I,a,p] [I] es.size (fun i v=>L[i]?=some v) (fun i h=>kZ w I a p es ep t L i h) where
  sub:=fun b hb=>by simp at hb;simp [hb]
  frame:=fun _ _ _ st hk=>st.at hk
  item:=fun i s Q E hi st hQ=>xx hne hnp st hi fun v h' e st' sb=>hQ v h' s.toks e st' fun b o hb q=>sb.extBut b o (fun z=>hb (by simp [z])) q
  done:=fun s Q E st hQ=>Ag hh st fun h' k=>hQ h' s.toks fun b o hb q=>k b o (fun z=>hb (by simp [z])) q
  self:=fun _ _ _ _ st hQ=>xA st hQ
end
end L2
namespace L2
open PySem PySem.Spec PyProof.Rows
section
variable{prog:Program}{w:World}{A:Around}{E:Value→Shared→Prop}{s:Shared}{a:Addr}{es:Array (Int × Value)}{ep:Nat}{t:SetTable}
theorem yX{Q:Value→Shared→Prop}(y:nu w s.heap a es ep t)(hr:em t.place.toList)(hl:t.led= !(w.params.followText "set-order"))(hz:es.size < scanBound)
    (hQ:∀I p L h' d,kZ w I a p es ep t L 0 h'→s.heap.objs.size≤I→a≠I→p≠I→I < h'.objs.size→p < h'.objs.size→(∀b o,s.heap.get? b=some o→h'.get? b=some o)→Q (.ref I) {s with heap:=h',drawn:=d}):wpAny (model prog w) A (pyIter (.ref a)) Q E s:=by
  obtain⟨ob,ho,hex,hd,hf⟩:=id y
  have hT:s.TypeIs (.ref a) "set":=⟨ob,ho,hex.1⟩
  have hlt:=Heap.lt_size ho
  refine wpAny_pyIter_slot hT F.slot_set_iter (wpAny_call_entry F.slot_set_iter hT lh ?_ (F.args_set_iter_1 _))
  unfold Builtin.«frozenset.__iter__»
  refine wpAny_bind (wpAny_of_eq (a:=a) rfl ?_)
  refine wpAny_bind (show wpAny _ _ (setEntries a >>= fun e=>pure e.size) _ _ _ from wpAny_bind (iM y (wpAny_pure ?_)))
  unfold setDrawn
  refine wpAny_bind (wpAny_bind (wpAny_setState_of ho hd hf ?_))
  dsimp only
  refine wpAny_bind (ia ?_)
  refine(show wpAny _ _ (pure (!(w.params.followText "set-order")&&(!t.plain&&decide (es.size > 1)))) _ _ _ from wpAny_pure ?_)
  have fin:∀(f:Value) (p:Addr) (L:List Value) (s1:Shared),(∀b o,s.heap.get? b=some o→s1.heap.get? b=some o)→s.heap.objs.size≤s1.heap.objs.size→(∃d,s1={s with heap:=s1.heap,drawn:=d})→p < s1.heap.objs.size→pU w a es ep t s1.heap L p 0 f→
      wpAny (model prog w) A.in1 (setEpoch a >>= fun e=>newFields "set_iterator" [f,rawInt 0,.ref a,rawInt es.size,rawInt e] >>= fun r=>ret r) (fun fin s'=>∃v,fin=PySem.Fin.done (.ret v)∧∃T id,Shared.TypeIs s' v T∧typeLookup (.type T) "__next__"=pure (some id)∧Q v s') E s1:=fun f p L s1 k z ⟨d,e⟩ hp W=>by
    have hk:s1.heap.get? a=some ob:=k a _ ho
    refine wpAny_bind (wpAny_setEpoch_of hk hd hf ?_)
    refine wpAny_bind (wpAny_newObj_type (wpAny_pure ⟨_,rfl,"set_iterator",_,⟨_,Heap.get?_push_size _ rfl,rfl⟩,bJ.lookup,?_⟩))
    rw [e]
    have hka:=Heap.lt_size hk
    refine hQ s1.heap.objs.size p L _ d ⟨f,⟨_,Heap.get?_push_size _ rfl,rfl,rfl⟩,⟨ob,Heap.get?_push_of_some _ hk,hex,hd,hf⟩,W.at fun o e=>Heap.get?_push_of_some _ e⟩ z (Nat.ne_of_lt hka) (Nat.ne_of_lt hp) (by rw [Heap.size_push];exact Nat.lt_succ_self _) (by rw [Heap.size_push];exact Nat.lt_succ_of_lt hp) fun b o e=>Heap.get?_push_of_some _ (k b o e)
  cases hb:w.params.followText "set-order" with
  | true=>
    rw [hb] at hl
    rw [if_neg (by simp)]
    refine wpAny_bind (wpAny_pure ?_)
    exact fin _ a _ s (fun b o e=>e) (Nat.le_refl _) ⟨s.drawn,rfl⟩ hlt (.text hb a 0 rfl)
  | false=>
    rw [hb] at hl
    by_cases hdr:(!t.plain&&decide (es.size > 1))=true
    · rw [hdr,if_pos (by rfl)]
      refine wpAny_bind (sT _ _ _ _ (by simp) fun ys d hy=>?_)
      have hyl:ys.length=es.size:=by rw [hy.length_eq,List.length_range]
      refine wpAny_bind (wpAny_newTuple ?_ (by rw [List.length_map,hyl];exact fits_of_scanBound hz))
      refine fin _ s.heap.objs.size _ _ (fun b o e=>Heap.get?_push_of_some _ e) (by show _≤(Heap.push _ _).objs.size;rw [Heap.size_push];exact Nat.le_succ _) ⟨d,rfl⟩ (by show _ < (Heap.push _ _).objs.size;rw [Heap.size_push];exact Nat.lt_succ_self _) (.drawn hb _ 0 ys hy ⟨_,Heap.get?_push_size _ rfl,rfl,_,rfl⟩)
    · have hdr':(!t.plain&&decide (es.size > 1))=false:=by simpa using hdr
      rw [hdr',if_neg (by simp)]
      refine wpAny_bind (wpAny_pure ?_)
      exact fin _ a _ s (fun b o e=>e) (Nat.le_refl _) ⟨s.drawn,rfl⟩ hlt (.led hb hdr' hl hr a 0 rfl)
end
end L2
namespace L2
open PySem PySem.Spec PyProof.Rows
section
variable{prog:Program}{w:World}{A:Around}{E:Value→Shared→Prop}{s:Shared}
theorem yV{r:Addr}{Q:Bool→Shared→Prop}(hT:s.TypeIs (.ref r) "set")(h:Q false s):wpAny (model prog w) A (Builtin.List.listLengthHint (.ref r)) Q E s:=by
  unfold Builtin.List.listLengthHint
  refine wpAny_bind (wpAny_specialOf hT F.slot_set_len.lookup ?_)
  generalize e:("set.__len__":String)=i0
  wp_delta
  rw [show splitId i0=some ("set","__len__") by subst e;decide+kernel]
  subst e
  refine wpAny_bind (wpAny_isInstance (T:="set") (b:=true) hT (by rw [isSubtype_type];kernel_rfl) ?_)
  refine wpAny_ite_split (fun z=>absurd z (by decide)) (fun _=>?_)
  refine wpAny_ite_split (fun _=>?_) (fun z=>absurd (by decide+kernel) z)
  exact wpAny_bind (wpAny_typeOf hT (wpAny_pure h))
theorem ph{L:List Value}{acc:Array Value}(h:ItemsOf (fun i v=>L[i]?=some v) acc L.length):acc.toList=L:=by
  refine List.ext_getElem? fun i=>?_
  rw [Array.getElem?_toList]
  rcases Nat.lt_or_ge i acc.size with g | g
  · rw [Array.getElem?_eq_getElem g]
    exact(h.2 i acc[i] (Array.getElem?_eq_getElem g)).symm
  · rw [Array.getElem?_eq_none g,List.getElem?_eq_none (by rw [←h.1];exact g)]
theorem qV{a:Addr}{ms:List Int}{Q:List Value→Shared→Prop}(hh:A.handled=none)(hS:fK prog w a ms s.heap)(hz:ms.length < scanBound)
    (hQ:∀L ms' h' tk d,IntsAre L ms'→ms'.Perm ms→s.heap.objs.size≤h'.objs.size→(∀b o,s.heap.get? b=some o→h'.get? b=some o)→Q L {s with heap:=h',toks:=tk,drawn:=d}):wpAny (model prog w) A (collect (.ref a)) Q E s:=by
  obtain⟨es,ms',o,ep,t,ho,hex,hd,hf,hrs,hl,hel,hi,hp⟩:=hS
  have z:es.size=ms.length:=by rw [←Array.length_toList,←hp.length_eq,←hi.length,List.length_map]
  have hlt:=Heap.lt_size ho
  unfold collect
  refine wpAny_bind (wpAny_runValue (codeAny_builtin F.entry_proto_collect ?_))
  rw [Around.under_plainId F.plain_proto_collect _]
  show wpAny _ A.in1 (newList [] >>= fun l=>again (.builtin "list.__iadd__" ⟨[l,.ref a],[]⟩)) _ _ s
  refine wpAny_bind (wpAny_newObj_type ?_)
  refine wpAny_pure ⟨plainId_quiet F.plain_list_iadd _,codeAny_builtin F.entry_list_iadd ?_⟩
  rw [Around.under_plainId F.plain_list_iadd _]
  let o0:Obj:={cls:=.type "list",data:=.seq ([]:List Value).toArray}
  have y1:nu w (s.heap.push o0) a es ep t:=⟨o,Heap.get?_push_of_some _ ho,hex,hd,hf⟩
  have hT1:Shared.TypeIs {s with heap:=s.heap.push o0} (.ref a) "set":=⟨o,Heap.get?_push_of_some _ ho,hex.1⟩
  show wpAny _ A.in1 (Builtin.List.listExtendWith (.ref s.heap.objs.size) (.ref a) (.ref s.heap.objs.size)) _ _ {s with heap:=s.heap.push o0}
  unfold Builtin.List.listExtendWith
  refine wpAny_bind (wpAny_typeOf hT1 ?_)
  rw [if_neg (by
    have:Builtin.List.listSameRef (.ref s.heap.objs.size) (.ref a)=false:=by simp [Builtin.List.listSameRef,(Nat.ne_of_lt hlt).symm]
    rw [this];decide)]
  refine wpAny_bind (yX (s:={s with heap:=s.heap.push o0}) y1 hrs hl (by lia) fun I p L h1 d x hI hne hnp hIl hpl k1=>?_)
  have hS1:(s.heap.push o0).get? s.heap.objs.size=some o0:=Heap.get?_push_size _ rfl
  have hS2:h1.get? s.heap.objs.size=some o0:=k1 _ _ hS1
  have hT2:Shared.TypeIs ({s with heap:=h1,drawn:=d}:Shared) (.ref a) "set":=⟨o,k1 _ _ (Heap.get?_push_of_some _ ho),hex.1⟩
  have hIz:(s.heap.push o0).objs.size≤I:=hI
  rw [Heap.size_push] at hIz
  refine wpAny_bind (wpAny_holding (yV hT2 ?_))
  rw [if_pos (by decide+kernel)]
  refine wpAny_bind (wpAny_rule ?_)
  refine wpAny_bind ?_
  show wpAny _ A.in1 (updateSeq s.heap.objs.size (·.push .none) >>= fun _=>updateSeq s.heap.objs.size (·.pop)) _ _ {s with heap:=h1,drawn:=d}
  refine wpAny_bind (wpAny_updateSeq hS2 rfl ?_)
  have hS3:=Heap.get?_update_self (Obj.mapSeq (·.push Value.none)) hS2 rfl
  refine wpAny_updateSeq hS3 rfl ?_
  have hS4:=Heap.get?_update_self (Obj.mapSeq (·.pop)) hS3 rfl
  have oth:∀b o,b≠s.heap.objs.size→h1.get? b=some o→((h1.update s.heap.objs.size (Obj.mapSeq (·.push Value.none))).update s.heap.objs.size (Obj.mapSeq (·.pop))).get? b=some o:=
    fun b o hb e=>(Heap.get?_update_other _ _ (Ne.symm hb)).trans ((Heap.get?_update_other _ _ (Ne.symm hb)).trans e)
  have hpS:p≠s.heap.objs.size:=by
    obtain⟨f,_,_,W⟩:=x
    cases W with
    | text hb p i hp=>rw [hp];exact Nat.ne_of_lt hlt
    | led hb hdr hl hr p i hp=>rw [hp];exact Nat.ne_of_lt hlt
    | drawn hb p i ys hy hp=>
      obtain⟨op,e1,e2,_⟩:=hp
      intro q
      rw [q,hS2] at e1
      cases e1
      exact absurd e2 (by decide)
  have hSf:s.heap.objs.size∉[I,a,p]:=by
    simp only [List.mem_cons,List.not_mem_nil,or_false,not_or]
    exact⟨Nat.ne_of_lt (by lia),(Nat.ne_of_lt hlt).symm,hpS.symm⟩
  have hh2:A.in1.in1.handled=none:=hh
  have hL:=pI (s:={s with heap:=h1,drawn:=d}) x
  have W:=(vh (prog:=prog) (w:=w) (A:=A.in1) (es:=es) (ep:=ep) (t:=t) (L:=L) hh hne hnp).toS
  refine wpAny_pure ⟨plainId_quiet F.plain_extend_loop _,codeAny_extend_loopS W (fits_of_scanBound (by lia)) _ hSf _ es.size 0 _ _ _ rfl (Nat.zero_le _) (x.at fun b hb o e=>oth b o (fun q=>hSf (by rw [←q];exact hb)) e) hS4 (ItemsOf.nil _) fun s' acc' c' hm hS' hacc=>?_⟩
  show wpAny _ A (load s.heap.objs.size >>= _) _ _ s'
  refine wpAny_bind (wpAny_load hS' (wpAny_pure ?_))
  obtain⟨h',g',d',tk',os'⟩:=s'
  have eg:g'=s.gens:=hm.gens
  have ed:d'=d:=hm.drawn
  have eo:os'=s.os:=hm.os
  subst eg;subst ed;subst eo
  rw [←hL] at hacc
  rw [ph hacc]
  obtain⟨f,_,_,W⟩:=x
  obtain⟨m2,i2,q2⟩:=kj W.len hi
  refine hQ L m2 h' tk' _ i2 (q2.trans hp) (Nat.le_of_lt (Heap.lt_size hS')) fun b o e=>?_
  have hb:=Heap.lt_size e
  refine hm.heap b o ?_ (oth b o (Nat.ne_of_lt hb) (k1 b o (Heap.get?_push_of_some _ e)))
  simp only [List.mem_cons,List.not_mem_nil,or_false,not_or]
  exact⟨Nat.ne_of_lt hb,Nat.ne_of_lt (Nat.lt_trans hb (by lia))⟩
theorem vj{a:Addr}{ms:List Int}{Q:Value→Shared→Prop}(hh:A.handled=none)(hS:fK prog w a ms s.heap)(hz:ms.length < 64)
    (hQ:∀(q:Addr) (out:Array Value) (ns:List Int) (h':Heap) (tk:Nat) (d:Drawn) (e:Nat),IntsAre out.toList ns→ns.Perm ms→ns.Pairwise (· ≤·)→s.heap.objs.size≤q→(∀b o,s.heap.get? b=some o→h'.get? b=some o)→h'.get? q=some (seqObj "list" out e)→Q (.ref q) {s with heap:=h',toks:=tk,drawn:=d}):wpAny (model prog w) A (call (.builtin "sorted") [.ref a]) Q E s:=by
  refine Calls.call_function_entry kind_sorted plain_sorted entry_sorted (args_sorted1 _) ?_
  unfold Builtin.«sorted»
  refine wpAny_bind (m:=checkCount "sorted" 1 1 _) (wpAny_pure ?_)
  refine wpAny_bind (qV hh hS (Nat.lt_of_lt_of_le hz (by decide)) fun L ms' h1 tk d hI hp hsz k1=>?_)
  have hl:L.length < 64:=by rw [hI.length,hp.length_eq];exact hz
  have o:(h1.push (seqObj "list" L.toArray 0)).get? h1.objs.size=some (seqObj "list" L.toArray 0):=Heap.get?_push_size _ rfl
  refine wpAny_bind (wpAny_newList ?_)
  show wpAny _ _ _ _ _ ({s with heap:=h1.push (seqObj "list" L.toArray 0),toks:=tk,drawn:=d}:Shared)
  refine wpAny_bind (wpAny_holding (wpAny_call_entry slot_list_sort ⟨_,o,rfl⟩ entry_list_sort (list_sort_tree o hI hl fun out ns' b1 b2 b3=>⟨_,rfl,?_⟩) (args_list_sort _)))
  have u1:=Heap.get?_push_of_some (seqObj "list" #[] 0) (Heap.get?_push_of_some (seqObj "tuple" L.toArray 0) (Heap.get?_update_self (Obj.mapSeq fun _=>(#[]:Array Value)) o rfl))
  have u2:=Heap.get?_update_self (Obj.mapSeq fun _=>out) u1 rfl
  refine wpAny_pure ⟨_,rfl,hQ h1.objs.size out ns' _ tk d _ b1 (b2.trans hp) b3 hsz (fun b ob e=>?_) u2⟩
  have hb:h1.objs.size≠b:=(Nat.ne_of_lt (Nat.lt_of_lt_of_le (Heap.lt_size e) hsz)).symm
  exact(Heap.get?_update_other _ _ hb).trans (Heap.get?_push_of_some _ (Heap.get?_push_of_some _ ((Heap.get?_update_other _ _ hb).trans (Heap.get?_push_of_some _ (k1 b ob e)))))
end
end L2
namespace L2
open PySem PySem.Spec PyProof.Rows
section
variable{prog:Program}{w:World}{A:Around}{E:Value→Shared→Prop}{s:Shared}
theorem vg(a:Value){Q₁:Value→Shared→Prop}(h:Q₁ (.ref s.heap.objs.size) {s with heap:=s.heap.push {cls:=.type "set",dict:=none,data:=.set #[] 0 (.fresh 0 0 (!(w.params.followText "set-order")))}}):
    codeAny (model prog w) A (.call (.builtin "set.__new__") ⟨[.type "set",a],[]⟩) (wants Q₁ E) s:=by
  refine codeAny_of_tree (show wpAny _ A.in1 (checkBuiltinCall "set.__new__" ⟨[.type "set",a],[]⟩ >>= fun _=>again (.builtin "set.__new__" ⟨[.type "set",a],[]⟩)) _ _ s from ?_)
  refine wpAny_bind (wpAny_of_eq (F.newCall_set_1 a) (wpAny_pure ⟨plainId_quiet F.plain_set_new _,codeAny_builtin F.entry_set_new ?_⟩));rw [Around.under_plainId F.plain_set_new _]
  unfold Builtin.«set.__new__» Builtin.Frozenset.newClass;have hsub:=sub_set_self
  obtain⟨hp,g,d,tk,os⟩:=s
  wp_walk
  refine wpAny_askSetting (wpAny_pure ?_)
  dsimp only
  unfold newObj;refine wpAny_bind (wpAny_alloc (wpAny_pure (wpAny_pure h)))
theorem rT{R:Result→Shared→Prop}{I:Addr}{fp wr:List Addr}{G:Array GenState→Array GenState→Prop}{n:Nat}{P:Nat→Value→Prop}{St:Nat→Shared→Prop}(W:WalksS prog w A.in1 I fp wr G n P St)(S:Addr)(hSf:S∉fp)(val:Nat→Int)(hval:∀i v,P i v→∃t,v=.int (val i) t)(hb:n+1 < scanBound):
    ∀(k i:Nat) (s:Shared),n - i=k→i≤n→St i s→fK prog w S (firstMet val i) s.heap→(∀s',Moved (S::wr) G s s'→fK prog w S (firstMet val n) s'.heap→R (.ok (.ret .none)) s')→codeAny (model prog w) A (.builtin "set.update.loop" ⟨[.ref S,.ref I],[]⟩) R s:=by
  have hSw:S∉wr:=fun h=>hSf (W.sub _ h)
  have hsub:∀b∈wr,b∈S::wr:=fun b hb=>List.mem_cons_of_mem _ hb
  intro k
  induction k with
  | zero=>
    intro i s hk hi hst hS hR
    obtain rfl:i=n:=by lia
    refine codeAny_builtin F.entry_set_update_loop ?_;rw [Around.under_plainId F.plain_set_update_loop _]
    refine(show wpAny _ A.in1 (pyNext (.ref I) >>= _) _ _ s from wpAny_bind (W.done s _ _ hst fun s' hm=>?_))
    exact(show wpAny _ A.in1 (ret Value.none) _ _ s' from wpAny_pure (hR s' (hm.mono hsub) (hS.at fun o e=>hm.heap S _ hSw e)))
  | succ k ih=>
    intro i s hk hi hst hS hR
    have hlt:i < n:=by lia
    refine codeAny_builtin F.entry_set_update_loop ?_;rw [Around.under_plainId F.plain_set_update_loop _]
    refine(show wpAny _ A.in1 (pyNext (.ref I) >>= _) _ _ s from wpAny_bind (W.item i s _ _ hlt hst fun v s' hP hst' hm=>?_))
    obtain⟨t,rfl⟩:=hval i v hP
    have hS':fK prog w S (firstMet val i) s'.heap:=hS.at fun o e=>hm.heap S _ hSw e
    refine(show wpAny _ A.in1 (holding [Value.int (val i) t] (setAdd S (.int (val i) t)) >>= _) _ _ s' from wpAny_bind (wpAny_holding ?_))
    unfold setAdd
    refine wpAny_holding (wpAny_bind ((intKind prog w).pyHash (k:=val i) (intKind_is _ _ _ _) ?_))
    refine AY (s:={s' with toks:=s'.toks+1}) hS' (by have:=firstMet_length_le val i;lia) fun b h' sb hS2=>?_
    rw [←firstMet_succ] at hS2
    refine wpAny_pure ⟨plainId_quiet F.plain_set_update_loop _,ih (i+1) _ (by lia) hlt (W.frame _ s' _ _ hst' (Nat.le_succ _) fun b hb o e=>(sb.2 b fun h:b=S=>hSf (by rw [←h];exact hb)) ▸ e) hS2 fun s'' hm'' hS''=>hR s'' (Moved.trans W.gtrans ((hm.mono hsub).then_heap (Nat.le_succ _) fun b o hb e=>(sb.2 b fun h:b=S=>hb (by rw [h];exact List.mem_cons_self)) ▸ e) hm'') hS''⟩
theorem lb{prog:Program}{w:World}{A:Around}{E:Value→Shared→Prop}{s:Shared}{l:Addr}{items:Array Value}{ns:List Int}{Q:Value→Shared→Prop}(hh:A.handled=none)(hl:s.heap.IsTuple l items)(hi:IntsAre items.toList ns)(hb:items.size+1 < scanBound)
    (h:∀(h':Heap) (tk:Nat),fK prog w s.heap.objs.size (firstMet (fun i=>ns.getD i 0) items.size) h'→(∀b o,b < s.heap.objs.size→s.heap.get? b=some o→h'.get? b=some o)→Q (.ref s.heap.objs.size) {s with heap:=h',toks:=tk}):
    wpAny (model prog w) A (call (.type "set") [.ref l]) Q E s:=by
  obtain⟨c,tl,hmro⟩:=F.called_set.mro;have hmade:=F.called_set.made;have hsub:=F.called_set.sub
  refine wpAny_call (codeAny_of_tree ?_);show wpAny _ _ (callAny (.type "set") _) _ _ _
  refine wpAny_pure ⟨Code.quiet_builtin _ (by decide+kernel),codeAny_builtin F.entry_type_call ?_⟩;rw [Around.under_plain (weight_type_call_type "set" [.ref l] []) rfl]
  have h1:=F.called_set.notType;have h2:=F.called_set.canCreate;have hct:=F.typeCall_set_1 (.ref l);repeat (any_goals (first | assumption | wp_step))
  let nw:Bool→Obj:=fun led=>{cls:=.type "set",dict:=none,data:=.set #[] 0 (.fresh 0 0 led)}
  refine codeAny_mono (vg (.ref l) (E:=E) (Q₁:=fun obj s₁=>∃led:Bool,obj=.ref s.heap.objs.size∧s₁={s with heap:=s.heap.push (nw led)}∧led= !(w.params.followText "set-order")) ⟨_,rfl,rfl,rfl⟩) fun r s₁ hr=>?_
  cases r with
  | error e=>exact hr
  | ok fl=>
    cases fl with
    | ret obj=>
      obtain⟨led,rfl,rfl,hld⟩:=hr;have hS:(s.heap.push (nw led)).get? s.heap.objs.size=some (nw led):=Heap.get?_push_size _ rfl
      have hT:Shared.TypeIs {s with heap:=s.heap.push (nw led)} (.ref s.heap.objs.size) "set":=⟨_,hS,rfl⟩
      have hli:=F.called_set.init.lookup;have hbi:=F.called_set.init.bind (.ref s.heap.objs.size);repeat (any_goals (first | assumption | wp_step))
      refine codeAny_mono (codeAny_call_builtin (R:=wants (fun r s₂=>r=.none∧∃h' tk,s₂={s with heap:=h',toks:=tk}∧fK prog w s.heap.objs.size (firstMet (fun i=>ns.getD i 0) items.size) h'∧(∀b o,b < s.heap.objs.size→s.heap.get? b=some o→h'.get? b=some o)) E) F.called_set.init.plain F.entry_set_init (check_set_init_1 hT ?_)) fun r₂ s₂ hr₂=>?_
      · obtain⟨ol,hol,hcl,nl,hdl⟩:=hl;obtain⟨ocls,odict,odata,oslots⟩:=ol;simp only at hcl hdl;subst hcl;subst hdl
        have hol':(s.heap.push (nw led)).get? l=some {cls:=.type "tuple",dict:=odict,data:=.seq items nl,slots:=oslots}:=Heap.get?_push_of_some _ hol
        have hsls:=jw;have hslf:=gk;have hne:(Value.type "tuple"==Value.type "dict")=false:=by decide
        have hl1:(s.heap.push (nw led)).IsTuple l items:=⟨_,hol',rfl,nl,rfl⟩
        unfold Builtin.«set.__init__» noKeywords Builtin.Frozenset.updateFrom;generalize hPI:pyIter=PI
        wp_walk
        subst hPI
        refine wpAny_pyIter_tuple hl1 ?_;refine wpAny_bind (wpAny_runValue ?_);have hlS:l < s.heap.objs.size:=Heap.lt_size hol
        have hh3:A.in1.in1.in1.handled=none:=by simp [hh]
        have hneI:l≠(s.heap.push (nw led)).objs.size:=by rw [Heap.size_push];exact Nat.ne_of_lt (Nat.lt_succ_of_lt hlS)
        have hSf:s.heap.objs.size∉[(s.heap.push (nw led)).objs.size,l]:=by
          rw [Heap.size_push];simp only [List.mem_cons,List.mem_singleton,List.not_mem_nil,or_false,not_or];exact⟨Nat.ne_of_lt (Nat.lt_succ_self _),Nat.ne_of_gt hlS⟩
        have hval:∀(i:Nat) (v:Value),items[i]?=some v→∃t,v=.int ((fun i=>ns.getD i 0) i) t:=fun i v hv=>IntsAre.int_at hi i v (by rw [Array.getElem?_toList];exact hv)
        refine rT ((Walks.tuple hh3 _ l hneI items).toS) s.heap.objs.size hSf (fun i=>ns.getD i 0) hval hb (items.size - 0) 0 _ (by lia) (Nat.zero_le _) ⟨⟨_,Heap.get?_push_size _ rfl,rfl,rfl⟩,(hl1.at fun o e=>Heap.get?_push_of_some _ e)⟩ ?hS0 ?hR
        case hS0=>exact⟨#[],[],_,0,_,Heap.get?_push_of_some _ hS,⟨rfl,rfl,rfl⟩,rfl,rfl,.nil,hld,(fun e he=>by cases he),.nil,.nil⟩
        case hR=>
          intro s' hm hS';obtain⟨h',g',d',tk',os'⟩:=s';have eg:g'=s.gens:=hm.gens;have ed:d'=s.drawn:=hm.drawn;have eo:os'=s.os:=hm.os
          subst eg;subst ed;subst eo;show wpAny _ _ _ _ _ _
          refine wpAny_pure ?_;show wpAny _ _ (ret Value.none) _ _ _;refine wpAny_pure ⟨rfl,h',tk',rfl,hS',fun b o hb e=>?_⟩
          have hb1:b≠s.heap.objs.size:=Nat.ne_of_lt hb;have hb2:b≠(s.heap.push (nw led)).objs.size:=by rw [Heap.size_push];exact Nat.ne_of_lt (Nat.lt_succ_of_lt hb)
          exact hm.heap b o (by simp only [List.mem_cons,List.mem_singleton,List.not_mem_nil,or_false,not_or];exact⟨hb1,hb2⟩) (Heap.get?_push_of_some _ (Heap.get?_push_of_some _ e))
      · cases r₂ with
        | error e=>exact hr₂
        | ok fl₂=>
          cases fl₂ with
          | ret r=>obtain⟨rfl,h',tk,rfl,hS',hk'⟩:=hr₂;(repeat (any_goals (first | assumption | wp_step)));exact h _ _ hS' hk'
          | next=>exact hr₂.elim
          | brk=>exact hr₂.elim
          | cont=>exact hr₂.elim
    | next=>exact hr.elim
    | brk=>exact hr.elim
    | cont=>exact hr.elim
end
end L2
namespace L2
open PySem PySem.Spec PyProof.Rows
section
variable{X:Cx}{K:PySem.W.Frag}{a:Expr}{fa:FE}{pos p pos2 p2:Pos}
def B3(X:Cx):List V→Hp→VK→Prop:=fun xs H Q=>∃(l:Addr) (ns:List Int),xs=[.ref l]∧cM X.K H l (ns.map V.int)∧ns.length≤1000∧∀q,H q=none→Q (.ref q) (a7 H q (.ext (fK X.prog X.w q (fD ns))))
theorem qT(hc:X.calm=true):bO X (.type "set") (B3 X):=by
  intro pins s σ H xs us Q I r h
  obtain⟨l,ns,rfl,hs,hn,q⟩:=h
  obtain⟨u,rfl,ru⟩:=gZ r
  cases ru
  have hf:H s.heap.objs.size=none:=I.hok.fresh (Nat.le_refl _)
  obtain⟨its,rv,pl,hz⟩:=I.tuple hs
  have hl:=rv.length
  rw [List.length_map] at hl
  have e1:its.toArray.size=ns.length:=by simp [hl]
  refine lb (ns:=ns) (I.ok.hd hc) pl (dY rv) (by rw [e1];unfold scanBound;lia) fun h' tk hS hk=>?_
  rw [e1,ej] at hS
  refine⟨.ref s.heap.objs.size,_,I.laid (o:=.ext (fK X.prog X.w s.heap.objs.size (fD ns))) (fun b o e=>hk b o (Heap.lt_size e) e) (Nat.le_refl _) ⟨hS,?_,fun h1 h2 x k=>x.at k⟩,rfl,q _ hf⟩
  obtain⟨_,_,o,_,_,ho,_⟩:=hS
  exact⟨o,ho⟩
theorem ar.drw{pins:List (Addr × Obj)}{σ:List (Option V)}{H:Hp}{s:Shared}(I:ar X pins σ H s)(d:Drawn):ar X pins σ H {s with drawn:=d}:=⟨I.ok,I.os,I.bare,I.base,I.loc,I.cell,I.free,I.freeC,I.pin,I.hok,I.len⟩
def B7(X:Cx):List V→Hp→VK→Prop:=fun xs H Q=>∃(q:Addr) (ms:List Int),xs=[.ref q]∧H q=some (.ext (fK X.prog X.w q ms))∧ms.length < 64∧∀(l:Addr) (H':Hp),aq H H'→H l=none→H' l=some (.lst ((a8 ms).map V.int))→Q (.ref l) H'
theorem qU(hc:X.calm=true):bO X (.builtin "sorted") (B7 X):=by
  intro pins s σ H xs us Q I r h
  obtain⟨p,ms,rfl,hs,hn,q⟩:=h
  obtain⟨u,rfl,ru⟩:=gZ r
  cases ru
  have hS:fK X.prog X.w p ms s.heap:=(I.hok p _ hs).1
  refine vj (I.ok.hd hc) hS hn fun l out ns h' tk d e a1 a2 a3 hl k he=>?_
  have hf:H l=none:=I.hok.fresh hl
  have es:=gj a2 a3
  subst es
  refine⟨.ref l,a7 H l (.lst ((a8 ms).map V.int)),((I.drw d).laid (t':=tk) (fun b o e=>k b o e) hl ⟨?_,out.toList,e,eP a1,?_⟩),rfl,q _ _ (aq.new hf) hf am⟩
  · rw [List.length_map,a2.length_eq]
    exact Nat.le_trans (Nat.le_of_lt hn) (by decide)
  · simpa [seqObj] using he
def dW:En→Rv→Option Rv:=fun e x=>match x with
  | .d (.tuple ds)=>(jo ds).bind fun ns=>if ns.length < 64 then some (.l ((a8 (fD ns)).map .int)) else none
  | _=>none
theorem rW:yH K (fun v H Q=>∃(l:Addr) (ns:List Int),v=.ref l∧cM K H l (ns.map V.int)∧ns.length < 64∧∀(l:Addr) (H':Hp),aq H H'→H l=none→H' l=some (.lst ((a8 (fD ns)).map V.int))→Q (.ref l) H') dW:=by
  intro σ H0 F H e x z v Q R A hg q
  unfold dW at hg
  split at hg
  case h_2=>cases hg
  case h_1 ds=>
  obtain⟨ns,h6,hg⟩:=Option.bind_eq_some_iff.mp hg
  split at hg
  case isFalse=>cases hg
  case isTrue hl=>
  cases hg
  obtain⟨p,vs,rfl,d1,s1⟩:=bD R A (show cJ e (.d (.tuple ds))=some (false,ds) from rfl)
  have e1:ds=ns.map .int:=fY h6
  subst e1
  have e2:=aA.ints.mp d1
  subst e2
  refine⟨p,ns,rfl,s1,hl,fun l H' sm hn hl'=>?_⟩
  obtain⟨R4,X4⟩:=R.same sm
  exact q F H' _ X4 R4 ⟨l,_,rfl,hn,R.freeF hn,hl',aA.ints.mpr rfl,fun z=>R.ownH l ((R.sameOwn sm l).mp z) hn⟩
theorem lX(hc:X.calm=true)(hK:X.K=K)(hg:Gl X "sorted")(hm:X.mg "sorted"=none)(hgs:Gl X "set")(hms:X.mg "set"=none)(ha:PE X a (fE K fa))(hs:starEach [a] X.env=(false,eval a X.env)::starEach [] X.env)(hpl:(backTo pos2 (starEach [] X.env)).any (·.1)=false)
    (hs2:starEach [.Call (.Name "set" p2) [a] [] pos2] X.env=(false,eval (.Call (.Name "set" p2) [a] [] pos2) X.env)::starEach [] X.env)(hpl2:(backTo pos (starEach [] X.env)).any (·.1)=false):
    PE X (.Call (.Name "sorted" p) [.Call (.Name "set" p2) [a] [] pos2] [] pos) (fE K (kU dW fa)):=
  (iw (qU hc) hg hm PyProof.Rows.boot_sorted (fj (iW (qT hc) hgs hms PyProof.Rows.boot_set (fj ha iV hs) (by decide) (by decide) hs hpl) iV hs2) (by decide) (by decide) hs2 hpl2).mono fun σ H Q h=>by
    subst hK
    refine mJ (nj rW h) fun v H1 ⟨l,ns,e,h1,h2,h3⟩=>?_
    refine⟨l,ns,by rw [e],h1,by lia,fun q hq=>⟨q,fD ns,rfl,am,Nat.lt_of_le_of_lt (gT ns) h2,fun l2 H2 sm hn hl=>h3 l2 H2 ((aq.new hq).trans sm) ?_ hl⟩⟩
    by_cases c:l2=q
    · rw [c];exact hq
    · rw [aB c] at hn;exact hn
theorem kg{e:En}{ns:List Int}(h:ns.length < 64):dW e (.d (.tuple (ns.map .int)))=some (.l ((a8 (fD ns)).map .int)):=by
  simp [dW,eF,h]
end
end L2
namespace L2
open PySem PySem.Spec PyProof.Rows
section
variable{X:Cx}{K:PySem.W.Frag}{a b1 b2 b3:Expr}{fa:FE}{fs:FA}{pos p pos2 p2:Pos}
end
end L2
namespace V57
open PySem PySem.Spec PyProof.Rows L2
variable{P:Program}{w:World}{K:W.Frag}{mg:Str→Option Value}{base:Heap}{f:Addr}{fd:FuncData}
local macro_rules|`(tactic|trivial)=>`(tactic|first|exact .inl rfl|exact .inr rfl|assumption)
local macro_rules|`(¬$n:num)=>`(@qw _ _ $n _ _ (by rfl) (by rfl) (by decide))
local macro_rules|`($a∘$b)=>`(@Dq _ _ _ _ _ _ $a $b (by rfl))
def top(i:Nat):Stmt:=PySem.Challenge.pw_askedpairs_k57_pairings_of_anything.main.body.getD i (.Pass ⟨0,0,0,0⟩)
theorem yi{α:Type u}{β:Type v}{f:α→β}:List.map f []=[]:=rfl
theorem yh{α:Type u}{β:Type v}{f:α→β}{a:α}{l:List α}:List.map f (a::l)=f a::List.map f l:=rfl
theorem yd{α:Type u}{l:List α}:[]++l=l:=rfl
theorem yc{α:Type u}{a:α}{l m:List α}:(a::l)++m=a::(l++m):=rfl
theorem yf{α:Type u}{a:α}{l:List α}:(a::l)[0]?=some a:=rfl
theorem yg{α:Type u}{a:α}{l:List α}{i:Nat}:(a::l)[i+1]?=l[i]?:=rfl
theorem ye{α:Type u}{β:Type v}{a:α}{f:α→Option β}:Option.bind (some a) f=f a:=rfl
theorem yj{α:Type u}{β:Type v}{a:α}{f:α→β}:Option.map f (some a)=some (f a):=rfl
abbrev cm:Stmt:=top 1
abbrev aX:Stmt:=top 2
abbrev bi:Stmt:=top 3
abbrev cn:Stmt:=top 5
abbrev bC:Stmt:=top 7
abbrev fv:Stmt:=top 9
abbrev gB:Stmt:=top 10
abbrev eu:Stmt:=top 11
abbrev l0:Stmt:=top 12
abbrev l5:Stmt:=top 13
abbrev i9:Stmt:=top 14
abbrev eJ:Stmt:=top 15
abbrev gC:Stmt:=top 16
abbrev i_:Stmt:=top 17
abbrev l7:Stmt:=top 18
abbrev l6:Stmt:=top 19
abbrev i8:Stmt:=top 20
abbrev bX:Stmt:=top 21
abbrev dS:Stmt:=top 22
abbrev i7:Stmt:=top 23
abbrev hG:Stmt:=top 24
abbrev js:Stmt:=top 25
structure jU (mg:Str→Option Value):Prop where
  b_abs:mg "abs"=none
  b_len:mg "len"=none
  b_min:mg "min"=none
  b_max:mg "max"=none
  b_range:mg "range"=none
  b_repr:mg "repr"=none
  b_tuple:mg "tuple"=none
  b_int:mg "int"=none
  b_sorted:mg "sorted"=none
  b_isinstance:mg "isinstance"=none
  b_bool:mg "bool"=none
  b_set:mg "set"=none
  b_list:mg "list"=none
noncomputable def jg:FS:=(bG (jy (kU (jC "int") (ae 0)) (oS (kU (jC "bool") (ae 0)))))
noncomputable def de:FM:=jp 1 0 [] jg
theorem iB:aJ ["thing"] ["thing"] (aj cm):=⟨rfl,rfl,rfl,by decide+kernel,rfl,by decide+kernel,by decide+kernel⟩
theorem mW(h:bI K mg "is_number" cm f fd ["thing"])(T:jU mg):aP P w K mg base cL 1 f fd ["thing"] (cO K 1 de):=by
  have nd:=iB.nd
  exact h.fn iB rfl rfl (fun cdv A outer s H E hr=>(@ah _ _ _ _ _ (@aG _ _ _ _ _ (@pC _ _ _ _ _ _ _ _ (@lV _ _ _ _ _ _ _ _ "int" rfl (by decide) rfl T.b_isinstance rfl T.b_int PyProof.Rows.boot_int (by decide) (by decide) (¬0) (by rfl) (by rfl)) (@pD _ _ _ _ _ _ (@zY _ _ _ _ _ (@lV _ _ _ _ _ _ _ _ "bool" rfl (by decide) rfl T.b_isinstance rfl T.b_bool PyProof.Rows.boot_bool (by decide) (by decide) (¬0) (by rfl) (by rfl))))))))
noncomputable def bA:FS:=(bG (jy (dM 1 de (aa (ae 0) ag)) (cK AF AF (ae 1) (ae 0) (ae 2))))
noncomputable def aL:FM:=jp 3 0 [] bA
theorem dA:aJ ["thing","low","high"] ["thing","low","high"] (aj aX):=⟨rfl,rfl,rfl,by decide+kernel,rfl,by decide+kernel,by decide+kernel⟩
theorem gF(h:bI K mg "is_number_within" aX f fd ["thing","low","high"])(T:jU mg){f_is_number:Addr}{e_is_number:FuncData}(h_is_number:bI K mg "is_number" cm f_is_number e_is_number ["thing"])(G_is_number:aP P w K mg base cL 1 f_is_number e_is_number ["thing"] (cO K 1 de)):aP P w K mg base cL 2 f fd ["thing","low","high"] (cO K 3 aL):=by
  have nd:=dA.nd
  exact h.fn dA rfl rfl (fun cdv A outer s H E hr=>(@ah _ _ _ _ _ (@aG _ _ _ _ _ (@pC _ _ _ _ _ _ _ _ (@bj _ _ _ _ _ _ _ _ _ _ _ _ _ _ _ h_is_number G_is_number (hr.mono (by decide)) ((¬0)∘ab) (by rfl) (by decide) (by rfl) (by rfl)) (@pD _ _ _ _ _ _ (@xq _ _ _ _ _ _ _ _ _ _ _ _ _ (@yJ _ _) (@yJ _ _) (¬1) (¬0) (¬2) (by with_unfolding_all rfl)))))))
noncomputable def cE:FI:=(io (ae 0))
noncomputable def aR:FS:=(aE (jr (je (aU (dM 3 aL (aa (ae 3) (aa (ae 2) (aa (aw gX (ae 1) (vC (.int 1))) ag))))))
    (bG (vC (.bool false)))
    ez)
    (aZ 2 (aw aY (ae 3) (vC (.int 1)))))
noncomputable def b7:FS:=(aE (jr (je (aU (kU (jC "tuple") (ae 0))))
    (bG (vC (.bool false)))
    ez)
    (aE (aZ 2 (vC (.int 0)))
    (aE (cI ([3]++(([]++[])++[2])) cE (ao 3) aR)
    (bG (vC (.bool true))))))
noncomputable def a9:FM:=jp 2 2 (([]++[])++([2]++(([3]++(([]++[])++[2]))++[]))) b7
theorem eK:aJ ["thing","many","least","part"] ["thing","many"] (aj bi):=⟨rfl,rfl,rfl,by decide+kernel,rfl,by decide+kernel,by decide+kernel⟩
theorem iU(h:bI K mg "is_rising_row" bi f fd ["thing","many"])(T:jU mg){f_is_number_within:Addr}{e_is_number_within:FuncData}(h_is_number_within:bI K mg "is_number_within" aX f_is_number_within e_is_number_within ["thing","low","high"])(G_is_number_within:aP P w K mg base cL 2 f_is_number_within e_is_number_within ["thing","low","high"] (cO K 3 aL)):aP P w K mg base cL 3 f fd ["thing","many"] (cO K 2 a9):=by
  have nd:=eK.nd
  exact h.fn eK rfl rfl (fun cdv A outer s H E hr=>(@af _ _ _ _ _ _ _ _ (@dk _ _ _ _ _ _ _ _ _ _ _ (@gf _ _ _ _ _ (@fq _ _ _ _ (@lV _ _ _ _ _ _ _ _ "tuple" rfl (by decide) rfl T.b_isinstance rfl T.b_tuple PyProof.Rows.boot_tuple (by decide) (by decide) (¬0) (by rfl) (by rfl)) (by intro _;rfl)))
      (@ah _ _ _ _ _ (@aG _ _ _ _ _ (@cG _ _ _ _ _)))
      (@br _ _))
      (@af _ _ _ _ _ _ _ _ (@au _ _ _ _ _ 2 _ _ nd rfl (Or.inl rfl) ac (by rfl) (by trivial))
      (@af _ _ _ _ _ _ _ _ (@d9 _ _ _ _ _ _ _ _ _ _ _ PassesOwn.never rfl (@gb _ _ _ _ _ rfl (¬0)) (@bv _ _ _ 3 _ nd rfl (Or.inl rfl) (by trivial))
      (@af _ _ _ _ _ _ _ _ (@dk _ _ _ _ _ _ _ _ _ _ _ (@gf _ _ _ _ _ (@fq _ _ _ _ (@bj _ _ _ _ _ _ _ _ _ _ _ _ _ _ _ h_is_number_within G_is_number_within (hr.mono (by decide)) ((¬3)∘((¬2)∘((@qr _ _ _ _ _ _ _ (¬1) ac)∘ab))) (by rfl) (by decide) (by rfl) (by rfl)) (by intro _;rfl)))
      (@ah _ _ _ _ _ (@aG _ _ _ _ _ (@cG _ _ _ _ _)))
      (@br _ _))
      (@ah _ _ _ _ _ (@au _ _ _ _ _ 2 _ _ nd rfl (Or.inl rfl) (@aO _ _ _ _ _ _ _ rfl (¬3) ac) (by rfl) (by trivial)))) (by intro _;rfl))
      (@ah _ _ _ _ _ (@aG _ _ _ _ _ (@cG _ _ _ _ _)))))))
noncomputable def jh:FS:=(bG (nq (aw fJ (aw fJ (ae 0) (vC (.int 1))) (ae 1)) dz (dh (vC (.int 2)))))
noncomputable def df:FM:=jp 2 0 [] jh
theorem iC:aJ ["web","tie"] ["web","tie"] (aj cn):=⟨rfl,rfl,rfl,by decide+kernel,rfl,by decide+kernel,by decide+kernel⟩
theorem mX(h:bI K mg "things_of" cn f fd ["web","tie"])(T:jU mg):aP P w K mg base cL 1 f fd ["web","tie"] (cO K 2 df):=by
  have nd:=iC.nd
  exact h.fn iC rfl rfl (fun cdv A outer s H E hr=>(@ah _ _ _ _ _ (@aG _ _ _ _ _ (@bU _ _ _ _ _ _ _ _ _ _ rfl (@dj _ _ _ _ _ _ _ rfl (@dj _ _ _ _ _ _ _ rfl (¬0) ac (fun _ _=>rfl)) (¬1) (fun _ _=>rfl)) (@bV _ _) (@bW _ _ _ _ ac)))))
noncomputable def fX:FI:=(io (ae 1))
noncomputable def cD:FI:=(io (dM 2 df (aa (ae 0) (aa (ae 1) ag))))
noncomputable def cA:FE:=(ae 2)
noncomputable def eR:FS:=(aE (jr (je (aU (dM 2 a9 (aa (ae 1) (aa (aH (g1 en) (aa (aw fJ (ae 0) (vC (.int 1))) ag)) ag)))))
    (bG (vC (.bool false)))
    ez)
    (aE (aZ 2 (jd [(0,"web")] 2 fX (ao 1) gu cD (ao 2) gu cA))
    (bG (aw (cB false) (kU dG (ae 2)) (aH (g1 en) (aa (ae 2) ag))))))
noncomputable def ba:FM:=jp 2 1 (([]++[])++([2]++[])) eR
theorem gL:aJ ["web","thing","things"] ["web","thing"] (aj bC):=⟨rfl,rfl,rfl,by decide+kernel,rfl,by decide+kernel,by decide+kernel⟩
theorem lr(h:bI K mg "is_pairing" bC f fd ["web","thing"])(T:jU mg){f_is_rising_row:Addr}{e_is_rising_row:FuncData}(h_is_rising_row:bI K mg "is_rising_row" bi f_is_rising_row e_is_rising_row ["thing","many"])(G_is_rising_row:aP P w K mg base cL 3 f_is_rising_row e_is_rising_row ["thing","many"] (cO K 2 a9)){f_things_of:Addr}{e_things_of:FuncData}(h_things_of:bI K mg "things_of" cn f_things_of e_things_of ["web","tie"])(G_things_of:aP P w K mg base cL 1 f_things_of e_things_of ["web","tie"] (cO K 2 df)):aP P w K mg base cL 4 f fd ["web","thing"] (cO K 2 ba):=by
  have nd:=gL.nd
  exact h.fn gL rfl rfl (fun cdv A outer s H E hr=>(@af _ _ _ _ _ _ _ _ (@dk _ _ _ _ _ _ _ _ _ _ _ (@gf _ _ _ _ _ (@fq _ _ _ _ (@bj _ _ _ _ _ _ _ _ _ _ _ _ _ _ _ h_is_rising_row G_is_rising_row (hr.mono (by decide)) ((¬1)∘((@aS _ _ _ _ _ _ _ _ _ (@b_len _ _ rfl) (by rfl) T.b_len ((@dj _ _ _ _ _ _ _ rfl (¬0) ac (fun _ _=>rfl))∘ab) (by decide) (by decide) (by rfl) (by rfl))∘ab)) (by rfl) (by decide) (by rfl) (by rfl)) (by intro _;rfl)))
      (@ah _ _ _ _ _ (@aG _ _ _ _ _ (@cG _ _ _ _ _)))
      (@br _ _))
      (@af _ _ _ _ _ _ _ _ (@pB _ _ _ (2) _ _ _ _ _ _ _ _ _ _ _ _ _ _ _ _ _ _ _ _ (aj bC) ["web","thing","things"] [(0,"web")] ["tie","part"] rfl rfl rfl (@gb _ _ _ _ _ rfl (¬1))
        (fun C s0 H0 fp=>(@bv _ _ _ 1 _ (show List.Nodup (["web","tie","part"]:List Str) by decide+kernel) rfl (Or.inl rfl) (by trivial))) (fun C s0 H0 fp=>(@m5 _ _)) (fun C s0 H0 fp=>(@gb _ _ _ _ _ rfl (@bj _ _ _ _ _ _ _ _ _ _ _ _ _ _ _ h_things_of G_things_of (hr.mono (by decide)) ((¬0)∘((¬1)∘ab)) (by rfl) (by decide) (by rfl) (by rfl)))) (fun C s0 H0 fp=>(@bv _ _ _ 2 _ (show List.Nodup (["web","tie","part"]:List Str) by decide+kernel) rfl (Or.inl rfl) (by trivial))) (fun C s0 H0 fp=>(@m5 _ _))
        (fun C s0 H0 fp=>(¬2)) rfl (by decide+kernel) (by decide+kernel) (by decide+kernel) (by decide+kernel) (by decide+kernel) (by decide+kernel) (by decide+kernel) nd rfl rfl (by rfl) (by intro _ _ _ _ _;rfl) (by intro _;rfl))
      (@ah _ _ _ _ _ (@aG _ _ _ _ _ (@jq _ _ _ _ _ _ _ _ _ (@mr _ _ _ rfl hr) (@oB _ _ _ _ _ _ _ _ rfl rfl rfl T.b_len rfl T.b_set (¬2) (by rfl) (by rfl) (by rfl) (by rfl)) (@aS _ _ _ _ _ _ _ _ _ (@b_len _ _ rfl) (by rfl) T.b_len ((¬2)∘ab) (by decide) (by decide) (by rfl) (by rfl)) (bc _)))))))
noncomputable def pX:FS:=(aE (aZ 2 (aw aN (aw aY (aw aY (aw ke (aw aN (ae 0) (vC (.int 2147483647))) (vC (.int 48271))) (aw ke (aw ke (vC (.int 7919)) (ae 1)) (ae 1))) (vC (.int 104729))) (vC (.int 2147483647))))
    (bG (aw aN (aw ke (ae 2) (ae 2)) (vC (.int 2147483629)))))
noncomputable def ek:FM:=jp 2 1 ([2]++[]) pX
theorem oK:aJ ["_law_cell","_law_k","_law_number"] ["_law_cell","_law_k"] (aj fv):=⟨rfl,rfl,rfl,by decide+kernel,rfl,by decide+kernel,by decide+kernel⟩
theorem uo(h:bI K mg "_law_mixed" fv f fd ["_law_cell","_law_k"])(T:jU mg):aP P w K mg base cL 1 f fd ["_law_cell","_law_k"] (cO K 2 ek):=by
  have nd:=oK.nd
  exact h.fn oK rfl rfl (fun cdv A outer s H E hr=>(@af _ _ _ _ _ _ _ _ (@au _ _ _ _ _ 2 _ _ nd rfl (Or.inl rfl) (@aM _ _ _ _ _ _ _ (@aO _ _ _ _ _ _ _ rfl (@aO _ _ _ _ _ _ _ rfl (@lW _ _ _ _ _ _ _ rfl (@aM _ _ _ _ _ _ _ (¬0) ac) ac) (@lW _ _ _ _ _ _ _ rfl (@lW _ _ _ _ _ _ _ rfl ac (¬1)) (¬1))) ac) ac) (by rfl) (by trivial))
      (@ah _ _ _ _ _ (@aG _ _ _ _ _ (@aM _ _ _ _ _ _ _ (@lW _ _ _ _ _ _ _ rfl (¬2) (¬2)) ac)))))
noncomputable def dO:FT:=(nh (aU (aw Bg (ae 3) (aw mM (vC (.int 10)) (vC (.int 18))))) (aU (aw tG (aH (g1 en) (aa (ae 1) ag)) (vC (.int 900)))))
noncomputable def gy:FS:=(aE (gh (dq bT (ae 1) (aa (aw aN (ae 3) (vC (.int 2147483629))) ag)))
    (aZ 3 (aw cC (ae 3) (vC (.int 2147483629)))))
noncomputable def gA:FI:=(cY (aa (vC (.int 12)) ag))
noncomputable def eA:FS:=(gh (dq bT (ae 1) (aa (dM 2 ek (aa (dM 2 ek (aa (ae 3) (aa (aw aY (aw ke (vC (.int 3)) (ae 4)) (vC (.int 1))) ag))) (aa (aw aY (aw aY (ae 4) (ae 2)) (vC (.int 2))) ag))) ag)))
noncomputable def iO:FI:=(cY (aa (aH (g2 tH) (aa (aH (g1 en) (aa (ae 0) ag)) (aa (vC (.int 63)) ag))) ag))
noncomputable def dN:FS:=(aE (aZ 3 (aH (g1 rc) (aa (aw fJ (ae 0) (ae 2)) ag)))
    (aE (jr (aU (aw tG (ae 3) (aw mM (vC (.int 10)) (vC (.int 18)))))
    (cI ([4]++[]) gA (ao 4) eA)
    ez)
    (aE (hJ (2 ^ 4200) dO gy)
    (jr (aU (aw Bg (ae 3) (vC (.int 2147483629))))
    (gh (dq bT (ae 1) (aa (aw aN (ae 3) (vC (.int 2147483629))) ag)))
    ez))))
noncomputable def pW:FS:=(aE (aZ 1 (cg ag))
    (aE (cI ([2]++([3]++((([4]++[])++[])++(([]++[3])++([]++[]))))) iO (ao 2) dN)
    (bG (ae 1))))
noncomputable def ir:FM:=jp 1 4 ([1]++(([2]++([3]++((([4]++[])++[])++(([]++[3])++([]++[])))))++[])) pW
theorem oJ:aJ ["_law_script","_law_drawn","_law_k","_law_cell","_law_j"] ["_law_script"] (aj gB):=⟨rfl,rfl,rfl,by decide+kernel,rfl,by decide+kernel,by decide+kernel⟩
theorem um(h:bI K mg "_law_draws" gB f fd ["_law_script"])(T:jU mg){fLmixed:Addr}{eLmixed:FuncData}(hLmixed:bI K mg "_law_mixed" fv fLmixed eLmixed ["_law_cell","_law_k"])(GLmixed:aP P w K mg base cL 1 fLmixed eLmixed ["_law_cell","_law_k"] (cO K 2 ek)):aP P w K mg base cL 2 f fd ["_law_script"] (cO K 1 ir):=by
  have nd:=oJ.nd
  exact h.fn oJ rfl rfl (fun cdv A outer s H E hr=>(@af _ _ _ _ _ _ _ _ (@au _ _ _ _ _ 1 _ _ nd rfl (Or.inl rfl) (@aW _ _ _ _ _ ab) (by rfl) (by trivial))
      (@af _ _ _ _ _ _ _ _ (@d9 _ _ _ _ _ _ _ _ _ _ _ PassesOwn.never rfl (@dR _ _ _ _ _ _ _ rfl T.b_range ((@aS _ _ _ _ _ _ _ _ _ (@b_min _ _ rfl) (by rfl) T.b_min ((@aS _ _ _ _ _ _ _ _ _ (@b_len _ _ rfl) (by rfl) T.b_len ((¬0)∘ab) (by decide) (by decide) (by rfl) (by rfl))∘(ac∘ab)) (by decide) (by decide) (by rfl) (by rfl))∘ab) (by rfl)) (@bv _ _ _ 2 _ nd rfl (Or.inl rfl) (by trivial))
      (@af _ _ _ _ _ _ _ _ (@au _ _ _ _ _ 3 _ _ nd rfl (Or.inl rfl) (@aS _ _ _ _ _ _ _ _ _ (@b_abs _ _) (by rfl) T.b_abs ((@dj _ _ _ _ _ _ _ rfl (¬0) (¬2) (fun _ _=>rfl))∘ab) (by decide) (by decide) (by rfl) (by rfl)) (by rfl) (by trivial))
      (@af _ _ _ _ _ _ _ _ (@dk _ _ _ _ _ _ _ _ _ _ _ (@bL _ _ _ _ _ _ _ _ _ (@sI _ _) (¬3) (@uJ _ _ _ _ _ _ _ ac ac) (bc _))
      (@ah _ _ _ _ _ (@d9 _ _ _ _ _ _ _ _ _ _ _ PassesOwn.never rfl (@dR _ _ _ _ _ _ _ rfl T.b_range (ac∘ab) (by rfl)) (@bv _ _ _ 4 _ nd rfl (Or.inl rfl) (by trivial))
      (@ah _ _ _ _ _ (@el _ _ _ _ _ (@di _ _ _ _ _ _ _ _ _ rfl (¬1) ((@bj _ _ _ _ _ _ _ _ _ _ _ _ _ _ _ hLmixed GLmixed (hr.mono (by decide)) ((@bj _ _ _ _ _ _ _ _ _ _ _ _ _ _ _ hLmixed GLmixed (hr.mono (by decide)) ((¬3)∘((@aO _ _ _ _ _ _ _ rfl (@lW _ _ _ _ _ _ _ rfl ac (¬4)) ac)∘ab)) (by rfl) (by decide) (by rfl) (by rfl))∘((@aO _ _ _ _ _ _ _ rfl (@aO _ _ _ _ _ _ _ rfl (¬4) (¬2)) ac)∘ab)) (by rfl) (by decide) (by rfl) (by rfl))∘ab) (by rfl) (by rfl) (by rfl) (by rfl) (by rfl)) (by rfl))) (by intro _;rfl)))
      (@br _ _))
      (@af _ _ _ _ _ _ _ _ (@kM _ _ _ _ _ _ _ _ _ PassesOwn.never (@rR _ _ _ _ (@m6 _ _ _ _ _ _ _ _ (@bL _ _ _ _ _ _ _ _ _ (@A8 _ _) (¬3) (@uJ _ _ _ _ _ _ _ ac ac) (bc _)) (@m7 _ _ _ _ _ (@bL _ _ _ _ _ _ _ _ _ (@sI _ _) (@aS _ _ _ _ _ _ _ _ _ (@b_len _ _ rfl) (by rfl) T.b_len ((¬1)∘ab) (by decide) (by decide) (by rfl) (by rfl)) ac (bc _)))))
      (@af _ _ _ _ _ _ _ _ (@el _ _ _ _ _ (@di _ _ _ _ _ _ _ _ _ rfl (¬1) ((@aM _ _ _ _ _ _ _ (¬3) ac)∘ab) (by rfl) (by rfl) (by rfl) (by rfl) (by rfl)) (by rfl))
      (@ah _ _ _ _ _ (@au _ _ _ _ _ 3 _ _ nd rfl (Or.inl rfl) (@et _ _ _ _ _ _ _ (¬3) ac) (by rfl) (by trivial)))))
      (@ah _ _ _ _ _ (@dk _ _ _ _ _ _ _ _ _ _ _ (@bL _ _ _ _ _ _ _ _ _ (@A8 _ _) (¬3) ac (bc _))
      (@ah _ _ _ _ _ (@el _ _ _ _ _ (@di _ _ _ _ _ _ _ _ _ rfl (¬1) ((@aM _ _ _ _ _ _ _ (¬3) ac)∘ab) (by rfl) (by rfl) (by rfl) (by rfl) (by rfl)) (by rfl)))
      (@br _ _)))))) (by intro _;rfl))
      (@ah _ _ _ _ _ (@aG _ _ _ _ _ (¬1))))))
noncomputable def oY:FS:=(aE (jr (aU (aw (cB false) (ae 0) (cg ag)))
    (bG (vC (.int 0)))
    ez)
    (bG (dq gY (ae 0) (aa (vC (.int 0)) ag))))
noncomputable def aV:FM:=jp 1 0 (([]++[])++[]) oY
theorem qE:aJ ["_law_drawn"] ["_law_drawn"] (aj eu):=⟨rfl,rfl,rfl,by decide+kernel,rfl,by decide+kernel,by decide+kernel⟩
theorem wB(h:bI K mg "_law_next" eu f fd ["_law_drawn"])(T:jU mg):aP P w K mg base cL 1 f fd ["_law_drawn"] (cO K 1 aV):=by
  have nd:=qE.nd
  exact h.fn qE rfl rfl (fun cdv A outer s H E hr=>(@af _ _ _ _ _ _ _ _ (@dk _ _ _ _ _ _ _ _ _ _ _ (@bL _ _ _ _ _ _ _ _ _ (@mr _ _ _ rfl hr) (¬0) (@aW _ _ _ _ _ ab) (bc _))
      (@ah _ _ _ _ _ (@aG _ _ _ _ _ ac))
      (@br _ _))
      (@ah _ _ _ _ _ (@aG _ _ _ _ _ (@qq _ _ _ _ _ _ _ _ _ rfl (¬0) (ac∘ab) (by rfl) (by rfl) (by rfl) (by rfl) (by rfl))))))
noncomputable def ib:FT:=(aU (aw (cB true) (ae 1) (vC (.int 0))))
noncomputable def jG:FS:=(u_ 0 1 (aa (ae 1) (aa (aw aN (ae 0) (ae 1)) ag)))
noncomputable def xY:FS:=(aE (hJ (2 ^ 4200) ib jG)
    (bG (aH (g1 rc) (aa (ae 0) ag))))
noncomputable def oj:FM:=jp 2 0 ([0,1]++[]) xY
theorem va:aJ ["_law_one","_law_other"] ["_law_one","_law_other"] (aj l0):=⟨rfl,rfl,rfl,by decide+kernel,rfl,by decide+kernel,by decide+kernel⟩
theorem zl(h:bI K mg "_law_gcd" l0 f fd ["_law_one","_law_other"])(T:jU mg):aP P w K mg base cL 1 f fd ["_law_one","_law_other"] (cO K 2 oj):=by
  have nd:=va.nd
  exact h.fn va rfl rfl (fun cdv A outer s H E hr=>(@af _ _ _ _ _ _ _ _ (@kM _ _ _ _ _ _ _ _ _ PassesOwn.never (@bL _ _ _ _ _ _ _ _ _ (@yK _ _ _ rfl hr) (¬1) ac (bc _))
      (@ah _ _ _ _ _ (@z3 _ _ _ _ _ 0 1 _ _ _ _ _ _ _ _ _ rfl nd rfl rfl (by decide) rfl rfl ((¬1)∘((@aM _ _ _ _ _ _ _ (¬0) (¬1))∘ab)) (by rfl) (by rfl))))
      (@ah _ _ _ _ _ (@aG _ _ _ _ _ (@aS _ _ _ _ _ _ _ _ _ (@b_abs _ _) (by rfl) T.b_abs ((¬0)∘ab) (by decide) (by decide) (by rfl) (by rfl))))))
noncomputable def xZ:FS:=(aE (aZ 2 (dM 2 oj (aa (ae 0) (aa (ae 1) ag))))
    (bG (bh (aa (aw cC (ae 0) (ae 2)) (aa (aw cC (ae 1) (ae 2)) ag)))))
noncomputable def lS:FM:=jp 2 1 ([2]++[]) xZ
theorem vc:aJ ["_law_top","_law_bottom","_law_common"] ["_law_top","_law_bottom"] (aj l5):=⟨rfl,rfl,rfl,by decide+kernel,rfl,by decide+kernel,by decide+kernel⟩
theorem zm(h:bI K mg "_law_low" l5 f fd ["_law_top","_law_bottom"])(T:jU mg){fLgcd:Addr}{eLgcd:FuncData}(hLgcd:bI K mg "_law_gcd" l0 fLgcd eLgcd ["_law_one","_law_other"])(GLgcd:aP P w K mg base cL 1 fLgcd eLgcd ["_law_one","_law_other"] (cO K 2 oj)):aP P w K mg base cL 2 f fd ["_law_top","_law_bottom"] (cO K 2 lS):=by
  have nd:=vc.nd
  exact h.fn vc rfl rfl (fun cdv A outer s H E hr=>(@af _ _ _ _ _ _ _ _ (@au _ _ _ _ _ 2 _ _ nd rfl (Or.inl rfl) (@bj _ _ _ _ _ _ _ _ _ _ _ _ _ _ _ hLgcd GLgcd (hr.mono (by decide)) ((¬0)∘((¬1)∘ab)) (by rfl) (by decide) (by rfl) (by rfl)) (by rfl) (by trivial))
      (@ah _ _ _ _ _ (@aG _ _ _ _ _ (@ax _ _ _ _ _ _ ((@et _ _ _ _ _ _ _ (¬0) (¬2))∘((@et _ _ _ _ _ _ _ (¬1) (¬2))∘ab)))))))
noncomputable def sD:FS:=(aE (jr (aU (ae 1))
    (bG (aw Bh (ae 0) (vC (.bool true))))
    ez)
    (bG (aw Bh (ae 0) (vC (.bool false)))))
noncomputable def iR:FM:=jp 2 0 (([]++[])++[]) sD
theorem qF:aJ ["_law_found","_law_due"] ["_law_found","_law_due"] (aj i9):=⟨rfl,rfl,rfl,by decide+kernel,rfl,by decide+kernel,by decide+kernel⟩
theorem wC(h:bI K mg "_law_says" i9 f fd ["_law_found","_law_due"])(T:jU mg):aP P w K mg base cL 1 f fd ["_law_found","_law_due"] (cO K 2 iR):=by
  have nd:=qF.nd
  exact h.fn qF rfl rfl (fun cdv A outer s H E hr=>(@af _ _ _ _ _ _ _ _ (@dk _ _ _ _ _ _ _ _ _ _ _ (@fq _ _ _ _ (¬1) (by intro _;rfl))
      (@ah _ _ _ _ _ (@aG _ _ _ _ _ (@jq _ _ _ _ _ _ _ _ _ (@A_ _ _) (¬0) (@cG _ _ _ _ _) (bc _))))
      (@br _ _))
      (@ah _ _ _ _ _ (@aG _ _ _ _ _ (@jq _ _ _ _ _ _ _ _ _ (@A_ _ _) (¬0) (@cG _ _ _ _ _) (bc _))))))
noncomputable def fL:FS:=(aE (jr (aU (aw (cB false) (ae 1) (vC (.int 0))))
    (bG (aw fJ (cg (aa (bh (aa (vC (.int 1)) (aa (vC (.int 2)) ag))) (aa (bh (aa (vC (.int 1)) (aa (vC (.int 3)) ag))) (aa (bh (aa (vC (.int 2)) (aa (vC (.int 3)) ag))) (aa (bh (aa (vC (.int 1)) (aa (vC (.int 1)) ag))) (aa (bh (aa (vC (.int 0)) (aa (vC (.int 1)) ag))) (aa (bh (aa (vC (.int 3)) (aa (vC (.int 4)) ag))) ag))))))) (aw aN (ae 0) (vC (.int 6)))))
    ez)
    (aE (jr (aU (aw (cB false) (ae 1) (vC (.int 1))))
    (aE (aZ 2 (aw aY (vC (.int 2)) (aw aN (ae 0) (vC (.int 9)))))
    (bG (dM 2 lS (aa (aw aY (vC (.int 1)) (aw aN (aw cC (ae 0) (vC (.int 9))) (aw gX (ae 2) (vC (.int 1))))) (aa (ae 2) ag)))))
    ez)
    (aE (jr (aU (aw (cB false) (ae 1) (vC (.int 2))))
    (aE (aZ 2 (aw aY (vC (.int 1)) (aw aN (ae 0) (vC (.int 100)))))
    (bG (dM 2 lS (aa (aw aN (aw cC (ae 0) (vC (.int 100))) (aw aY (ae 2) (vC (.int 1)))) (aa (ae 2) ag)))))
    ez)
    (bG (bh (aa (vC (.int 1)) (aa (vC (.int 1)) ag)))))))
noncomputable def dc:FM:=jp 2 1 (([]++[])++((([2]++[])++[])++((([2]++[])++[])++[]))) fL
theorem l8:aJ ["_law_number","_law_kind","_law_bottom"] ["_law_number","_law_kind"] (aj eJ):=⟨rfl,rfl,rfl,by decide+kernel,rfl,by decide+kernel,by decide+kernel⟩
theorem rH(h:bI K mg "_law_chance" eJ f fd ["_law_number","_law_kind"])(T:jU mg){fLlow:Addr}{eLlow:FuncData}(hLlow:bI K mg "_law_low" l5 fLlow eLlow ["_law_top","_law_bottom"])(GLlow:aP P w K mg base cL 2 fLlow eLlow ["_law_top","_law_bottom"] (cO K 2 lS)):aP P w K mg base cL 3 f fd ["_law_number","_law_kind"] (cO K 2 dc):=by
  have nd:=l8.nd
  exact h.fn l8 rfl rfl (fun cdv A outer s H E hr=>(@af _ _ _ _ _ _ _ _ (@dk _ _ _ _ _ _ _ _ _ _ _ (@bL _ _ _ _ _ _ _ _ _ (@mr _ _ _ rfl hr) (¬1) ac (bc _))
      (@ah _ _ _ _ _ (@aG _ _ _ _ _ (@dj _ _ _ _ _ _ _ rfl (@aW _ _ _ _ _ ((@ax _ _ _ _ _ _ (ac∘(ac∘ab)))∘((@ax _ _ _ _ _ _ (ac∘(ac∘ab)))∘((@ax _ _ _ _ _ _ (ac∘(ac∘ab)))∘((@ax _ _ _ _ _ _ (ac∘(ac∘ab)))∘((@ax _ _ _ _ _ _ (ac∘(ac∘ab)))∘((@ax _ _ _ _ _ _ (ac∘(ac∘ab)))∘ab))))))) (@aM _ _ _ _ _ _ _ (¬0) ac) (fun _ _=>rfl))))
      (@br _ _))
      (@af _ _ _ _ _ _ _ _ (@dk _ _ _ _ _ _ _ _ _ _ _ (@bL _ _ _ _ _ _ _ _ _ (@mr _ _ _ rfl hr) (¬1) ac (bc _))
      (@af _ _ _ _ _ _ _ _ (@au _ _ _ _ _ 2 _ _ nd rfl (Or.inl rfl) (@aO _ _ _ _ _ _ _ rfl ac (@aM _ _ _ _ _ _ _ (¬0) ac)) (by rfl) (by trivial))
      (@ah _ _ _ _ _ (@aG _ _ _ _ _ (@bj _ _ _ _ _ _ _ _ _ _ _ _ _ _ _ hLlow GLlow (hr.mono (by decide)) ((@aO _ _ _ _ _ _ _ rfl ac (@aM _ _ _ _ _ _ _ (@et _ _ _ _ _ _ _ (¬0) ac) (@qr _ _ _ _ _ _ _ (¬2) ac)))∘((¬2)∘ab)) (by rfl) (by decide) (by rfl) (by rfl)))))
      (@br _ _))
      (@af _ _ _ _ _ _ _ _ (@dk _ _ _ _ _ _ _ _ _ _ _ (@bL _ _ _ _ _ _ _ _ _ (@mr _ _ _ rfl hr) (¬1) ac (bc _))
      (@af _ _ _ _ _ _ _ _ (@au _ _ _ _ _ 2 _ _ nd rfl (Or.inl rfl) (@aO _ _ _ _ _ _ _ rfl ac (@aM _ _ _ _ _ _ _ (¬0) ac)) (by rfl) (by trivial))
      (@ah _ _ _ _ _ (@aG _ _ _ _ _ (@bj _ _ _ _ _ _ _ _ _ _ _ _ _ _ _ hLlow GLlow (hr.mono (by decide)) ((@aM _ _ _ _ _ _ _ (@et _ _ _ _ _ _ _ (¬0) ac) (@aO _ _ _ _ _ _ _ rfl (¬2) ac))∘((¬2)∘ab)) (by rfl) (by decide) (by rfl) (by rfl)))))
      (@br _ _))
      (@ah _ _ _ _ _ (@aG _ _ _ _ _ (@ax _ _ _ _ _ _ (ac∘(ac∘ab)))))))))
noncomputable def pY:FS:=(bG (aw fJ (cg (aa (aw aN (ae 0) (vC (.int 7))) (aa (aw aY (vC (.int 5)) (aw aN (ae 0) (vC (.int 2)))) (aa (aw aN (ae 0) (vC (.int 1001))) (aa (aw gX (vC (.int 1000)) (aw aN (ae 0) (vC (.int 3)))) ag))))) (aw aN (ae 1) (vC (.int 4)))))
noncomputable def iu:FM:=jp 2 0 [] pY
theorem oM:aJ ["_law_number","_law_kind"] ["_law_number","_law_kind"] (aj gC):=⟨rfl,rfl,rfl,by decide+kernel,rfl,by decide+kernel,by decide+kernel⟩
theorem uq(h:bI K mg "_law_worth" gC f fd ["_law_number","_law_kind"])(T:jU mg):aP P w K mg base cL 1 f fd ["_law_number","_law_kind"] (cO K 2 iu):=by
  have nd:=oM.nd
  exact h.fn oM rfl rfl (fun cdv A outer s H E hr=>(@ah _ _ _ _ _ (@aG _ _ _ _ _ (@dj _ _ _ _ _ _ _ rfl (@aW _ _ _ _ _ ((@aM _ _ _ _ _ _ _ (¬0) ac)∘((@aO _ _ _ _ _ _ _ rfl ac (@aM _ _ _ _ _ _ _ (¬0) ac))∘((@aM _ _ _ _ _ _ _ (¬0) ac)∘((@qr _ _ _ _ _ _ _ ac (@aM _ _ _ _ _ _ _ (¬0) ac))∘ab))))) (@aM _ _ _ _ _ _ _ (¬1) ac) (fun _ _=>rfl)))))
noncomputable def ki:FI:=(cY (aa (ae 2) ag))
noncomputable def eC:FS:=(aE (aZ 8 (dM 1 aV (aa (ae 0) ag)))
    (aE (aZ 9 (aw fJ (cg (aa (aw aN (ae 8) (ae 1)) (aa (vC (.int 0)) (aa (aw aN (ae 7) (ae 1)) (aa (aw aN (ae 8) (ae 1)) (aa (aw aN (ae 8) (vC (.int 2))) (aa (aw aN (ae 8) (ae 1)) ag))))))) (ae 3)))
    (aE (aZ 10 (aw aN (aw aY (aw aY (ae 9) (vC (.int 1))) (aw aN (aw cC (ae 8) (vC (.int 12))) (aw gX (ae 1) (vC (.int 1))))) (ae 1)))
    (aE (jr (aU (aw (cB false) (ae 3) (vC (.int 4))))
    (u9 (bh (aa (vC (.int 0)) (aa (vC (.int 1)) ag))) (n6 (fV (ao 9) (fV (ao 10) kh))))
    ez)
    (aE (aZ 11 (dM 1 aV (aa (ae 0) ag)))
    (aE (aZ 12 (bh (aa (aH (g2 tH) (aa (ae 9) (aa (ae 10) ag))) (aa (aH (g2 o_) (aa (ae 9) (aa (ae 10) ag))) ag))))
    (gh (dq bT (ae 6) (aa (aw aY (ae 12) (bh (aa (dM 2 dc (aa (ae 11) (aa (ae 4) ag))) (aa (dM 2 iu (aa (aw cC (ae 11) (vC (.int 10007))) (aa (ae 5) ag))) ag)))) ag)))))))))
noncomputable def sE:FS:=(aE (aZ 3 (aw aN (dM 1 aV (aa (ae 0) ag)) (vC (.int 6))))
    (aE (aZ 4 (aw aN (dM 1 aV (aa (ae 0) ag)) (vC (.int 4))))
    (aE (aZ 5 (aw aN (dM 1 aV (aa (ae 0) ag)) (vC (.int 4))))
    (aE (aZ 6 (cg ag))
    (aE (cI ([7]++([8]++([9]++([10]++((([9]++([10]++[]))++[])++([11]++([12]++[]))))))) ki (ao 7) eC)
    (bG (aH (g1 cf) (aa (ae 6) ag))))))))
noncomputable def ky:FM:=jp 3 10 ([3]++([4]++([5]++([6]++(([7]++([8]++([9]++([10]++((([9]++([10]++[]))++[])++([11]++([12]++[])))))))++[]))))) sE
theorem qG:aJ ["_law_drawn","_law_things","_law_many","_law_shape","_law_odds","_law_worths","_law_found","_law_k","_law_number","_law_one","_law_other","_law_cell","_law_ends_here"] ["_law_drawn","_law_things","_law_many"] (aj i_):=⟨rfl,rfl,rfl,by decide+kernel,rfl,by decide+kernel,by decide+kernel⟩
theorem wD(h:bI K mg "_law_ties" i_ f fd ["_law_drawn","_law_things","_law_many"])(T:jU mg){fLnext:Addr}{eLnext:FuncData}(hLnext:bI K mg "_law_next" eu fLnext eLnext ["_law_drawn"])(GLnext:aP P w K mg base cL 1 fLnext eLnext ["_law_drawn"] (cO K 1 aV)){fLchance:Addr}{eLchance:FuncData}(hLchance:bI K mg "_law_chance" eJ fLchance eLchance ["_law_number","_law_kind"])(GLchance:aP P w K mg base cL 3 fLchance eLchance ["_law_number","_law_kind"] (cO K 2 dc)){fLworth:Addr}{eLworth:FuncData}(hLworth:bI K mg "_law_worth" gC fLworth eLworth ["_law_number","_law_kind"])(GLworth:aP P w K mg base cL 1 fLworth eLworth ["_law_number","_law_kind"] (cO K 2 iu)):aP P w K mg base cL 4 f fd ["_law_drawn","_law_things","_law_many"] (cO K 3 ky):=by
  have nd:=qG.nd
  exact h.fn qG rfl rfl (fun cdv A outer s H E hr=>(@af _ _ _ _ _ _ _ _ (@au _ _ _ _ _ 3 _ _ nd rfl (Or.inl rfl) (@aM _ _ _ _ _ _ _ (@bj _ _ _ _ _ _ _ _ _ _ _ _ _ _ _ hLnext GLnext (hr.mono (by decide)) ((¬0)∘ab) (by rfl) (by decide) (by rfl) (by rfl)) ac) (by rfl) (by trivial))
      (@af _ _ _ _ _ _ _ _ (@au _ _ _ _ _ 4 _ _ nd rfl (Or.inl rfl) (@aM _ _ _ _ _ _ _ (@bj _ _ _ _ _ _ _ _ _ _ _ _ _ _ _ hLnext GLnext (hr.mono (by decide)) ((¬0)∘ab) (by rfl) (by decide) (by rfl) (by rfl)) ac) (by rfl) (by trivial))
      (@af _ _ _ _ _ _ _ _ (@au _ _ _ _ _ 5 _ _ nd rfl (Or.inl rfl) (@aM _ _ _ _ _ _ _ (@bj _ _ _ _ _ _ _ _ _ _ _ _ _ _ _ hLnext GLnext (hr.mono (by decide)) ((¬0)∘ab) (by rfl) (by decide) (by rfl) (by rfl)) ac) (by rfl) (by trivial))
      (@af _ _ _ _ _ _ _ _ (@au _ _ _ _ _ 6 _ _ nd rfl (Or.inl rfl) (@aW _ _ _ _ _ ab) (by rfl) (by trivial))
      (@af _ _ _ _ _ _ _ _ (@d9 _ _ _ _ _ _ _ _ _ _ _ PassesOwn.never rfl (@dR _ _ _ _ _ _ _ rfl T.b_range ((¬2)∘ab) (by rfl)) (@bv _ _ _ 7 _ nd rfl (Or.inl rfl) (by trivial))
      (@af _ _ _ _ _ _ _ _ (@au _ _ _ _ _ 8 _ _ nd rfl (Or.inl rfl) (@bj _ _ _ _ _ _ _ _ _ _ _ _ _ _ _ hLnext GLnext (hr.mono (by decide)) ((¬0)∘ab) (by rfl) (by decide) (by rfl) (by rfl)) (by rfl) (by trivial))
      (@af _ _ _ _ _ _ _ _ (@au _ _ _ _ _ 9 _ _ nd rfl (Or.inl rfl) (@dj _ _ _ _ _ _ _ rfl (@aW _ _ _ _ _ ((@aM _ _ _ _ _ _ _ (¬8) (¬1))∘(ac∘((@aM _ _ _ _ _ _ _ (¬7) (¬1))∘((@aM _ _ _ _ _ _ _ (¬8) (¬1))∘((@aM _ _ _ _ _ _ _ (¬8) ac)∘((@aM _ _ _ _ _ _ _ (¬8) (¬1))∘ab))))))) (¬3) (fun _ _=>rfl)) (by rfl) (by trivial))
      (@af _ _ _ _ _ _ _ _ (@au _ _ _ _ _ 10 _ _ nd rfl (Or.inl rfl) (@aM _ _ _ _ _ _ _ (@aO _ _ _ _ _ _ _ rfl (@aO _ _ _ _ _ _ _ rfl (¬9) ac) (@aM _ _ _ _ _ _ _ (@et _ _ _ _ _ _ _ (¬8) ac) (@qr _ _ _ _ _ _ _ (¬1) ac))) (¬1)) (by rfl) (by trivial))
      (@af _ _ _ _ _ _ _ _ (@dk _ _ _ _ _ _ _ _ _ _ _ (@bL _ _ _ _ _ _ _ _ _ (@mr _ _ _ rfl hr) (¬3) ac (bc _))
      (@ah _ _ _ _ _ (@z0 _ _ _ _ _ _ _ _ (@ax _ _ _ _ _ _ (ac∘(ac∘ab))) (@zZ _ _ _ _ _ _ _ _ rfl rfl (@oF _ _ _ _ _ _ _ _ (@bv _ _ _ 9 _ nd rfl (Or.inl rfl) (by trivial)) (@oF _ _ _ _ _ _ _ _ (@bv _ _ _ 10 _ nd rfl (Or.inl rfl) (by trivial)) (@xr _ _) (by rfl)) (by rfl)) (qh (qh yT)) (by rfl) (by rfl)) (by rfl) (by rfl) (by rfl)))
      (@br _ _))
      (@af _ _ _ _ _ _ _ _ (@au _ _ _ _ _ 11 _ _ nd rfl (Or.inl rfl) (@bj _ _ _ _ _ _ _ _ _ _ _ _ _ _ _ hLnext GLnext (hr.mono (by decide)) ((¬0)∘ab) (by rfl) (by decide) (by rfl) (by rfl)) (by rfl) (by trivial))
      (@af _ _ _ _ _ _ _ _ (@au _ _ _ _ _ 12 _ _ nd rfl (Or.inl rfl) (@ax _ _ _ _ _ _ ((@aS _ _ _ _ _ _ _ _ _ (@b_min _ _ rfl) (by rfl) T.b_min ((¬9)∘((¬10)∘ab)) (by decide) (by decide) (by rfl) (by rfl))∘((@aS _ _ _ _ _ _ _ _ _ (@b_max _ _ rfl) (by rfl) T.b_max ((¬9)∘((¬10)∘ab)) (by decide) (by decide) (by rfl) (by rfl))∘ab))) (by rfl) (by trivial))
      (@ah _ _ _ _ _ (@el _ _ _ _ _ (@di _ _ _ _ _ _ _ _ _ rfl (¬6) ((@aO _ _ _ _ _ _ _ rfl (¬12) (@ax _ _ _ _ _ _ ((@bj _ _ _ _ _ _ _ _ _ _ _ _ _ _ _ hLchance GLchance (hr.mono (by decide)) ((¬11)∘((¬4)∘ab)) (by rfl) (by decide) (by rfl) (by rfl))∘((@bj _ _ _ _ _ _ _ _ _ _ _ _ _ _ _ hLworth GLworth (hr.mono (by decide)) ((@et _ _ _ _ _ _ _ (¬11) ac)∘((¬5)∘ab)) (by rfl) (by decide) (by rfl) (by rfl))∘ab))))∘ab) (by rfl) (by rfl) (by rfl) (by rfl) (by rfl)) (by rfl))))))))) (by intro _;rfl))
      (@ah _ _ _ _ _ (@aG _ _ _ _ _ (@aS _ _ _ _ _ _ _ _ _ (@b_tuple _ _ rfl) (by rfl) T.b_tuple ((¬6)∘ab) (by decide) (by decide) (by rfl) (by rfl))))))))))
noncomputable def mP:FI:=(cY (aa (ae 3) ag))
noncomputable def jH:FS:=(gh (dq bT (ae 7) (aa (aw fJ (cg (aa (vC (.int 20)) (aa (aw aY (vC (.int 1)) (aw aN (dM 1 aV (aa (ae 0) ag)) (vC (.int 3)))) (aa (aw aN (dM 1 aV (aa (ae 0) ag)) (vC (.int 21))) ag)))) (ae 6)) ag)))
noncomputable def x5:FS:=(aE (aZ 3 (aw aN (dM 1 aV (aa (ae 0) ag)) (aw aY (ae 1) (vC (.int 1)))))
    (aE (aZ 4 (aw ke (aw aN (dM 1 aV (aa (ae 0) ag)) (aw aY (ae 2) (vC (.int 1)))) (aH (g1 nU) (aa (aw yP (ae 3) (vC (.int 1))) ag))))
    (aE (aZ 5 (dM 3 ky (aa (ae 0) (aa (aH (g2 o_) (aa (vC (.int 2)) (aa (ae 3) ag))) (aa (ae 4) ag)))))
    (aE (aZ 6 (aw aN (dM 1 aV (aa (ae 0) ag)) (vC (.int 3))))
    (aE (aZ 7 (cg ag))
    (aE (cI ([8]++[]) mP (ao 8) jH)
    (aE (aZ 9 (aw fJ (cg (aa (vC (.int 40)) (aa (aw aY (vC (.int 1)) (aw aN (dM 1 aV (aa (ae 0) ag)) (aH (g2 o_) (aa (vC (.int 1)) (aa (ae 4) ag))))) (aa (aw aN (dM 1 aV (aa (ae 0) ag)) (vC (.int 41))) ag)))) (aw aN (dM 1 aV (aa (ae 0) ag)) (vC (.int 3)))))
    (bG (bh (aa (ae 3) (aa (ae 5) (aa (aH (g1 cf) (aa (ae 7) ag)) (aa (ae 9) ag)))))))))))))
noncomputable def oo:FM:=jp 3 7 ([3]++([4]++([5]++([6]++([7]++(([8]++[])++([9]++[]))))))) x5
theorem ve:aJ ["_law_drawn","_law_most","_law_ties_here","_law_things","_law_many","_law_rows","_law_way","_law_patience","_law_k","_law_asks"] ["_law_drawn","_law_most","_law_ties_here"] (aj l7):=⟨rfl,rfl,rfl,by decide+kernel,rfl,by decide+kernel,by decide+kernel⟩
theorem zp(h:bI K mg "_law_web" l7 f fd ["_law_drawn","_law_most","_law_ties_here"])(T:jU mg){fLties:Addr}{eLties:FuncData}(hLties:bI K mg "_law_ties" i_ fLties eLties ["_law_drawn","_law_things","_law_many"])(GLties:aP P w K mg base cL 4 fLties eLties ["_law_drawn","_law_things","_law_many"] (cO K 3 ky)){fLnext:Addr}{eLnext:FuncData}(hLnext:bI K mg "_law_next" eu fLnext eLnext ["_law_drawn"])(GLnext:aP P w K mg base cL 1 fLnext eLnext ["_law_drawn"] (cO K 1 aV)):aP P w K mg base cL 5 f fd ["_law_drawn","_law_most","_law_ties_here"] (cO K 3 oo):=by
  have nd:=ve.nd
  exact h.fn ve rfl rfl (fun cdv A outer s H E hr=>(@af _ _ _ _ _ _ _ _ (@au _ _ _ _ _ 3 _ _ nd rfl (Or.inl rfl) (@aM _ _ _ _ _ _ _ (@bj _ _ _ _ _ _ _ _ _ _ _ _ _ _ _ hLnext GLnext (hr.mono (by decide)) ((¬0)∘ab) (by rfl) (by decide) (by rfl) (by rfl)) (@aO _ _ _ _ _ _ _ rfl (¬1) ac)) (by rfl) (by trivial))
      (@af _ _ _ _ _ _ _ _ (@au _ _ _ _ _ 4 _ _ nd rfl (Or.inl rfl) (@lW _ _ _ _ _ _ _ rfl (@aM _ _ _ _ _ _ _ (@bj _ _ _ _ _ _ _ _ _ _ _ _ _ _ _ hLnext GLnext (hr.mono (by decide)) ((¬0)∘ab) (by rfl) (by decide) (by rfl) (by rfl)) (@aO _ _ _ _ _ _ _ rfl (¬2) ac)) (@aS _ _ _ _ _ _ _ _ _ (@b_int _ _) (by rfl) T.b_int ((@jq _ _ _ _ _ _ _ _ _ (@A9 _ _) (¬3) ac (bc _))∘ab) (by decide) (by decide) (by rfl) (by rfl))) (by rfl) (by trivial))
      (@af _ _ _ _ _ _ _ _ (@au _ _ _ _ _ 5 _ _ nd rfl (Or.inl rfl) (@bj _ _ _ _ _ _ _ _ _ _ _ _ _ _ _ hLties GLties (hr.mono (by decide)) ((¬0)∘((@aS _ _ _ _ _ _ _ _ _ (@b_max _ _ rfl) (by rfl) T.b_max (ac∘((¬3)∘ab)) (by decide) (by decide) (by rfl) (by rfl))∘((¬4)∘ab))) (by rfl) (by decide) (by rfl) (by rfl)) (by rfl) (by trivial))
      (@af _ _ _ _ _ _ _ _ (@au _ _ _ _ _ 6 _ _ nd rfl (Or.inl rfl) (@aM _ _ _ _ _ _ _ (@bj _ _ _ _ _ _ _ _ _ _ _ _ _ _ _ hLnext GLnext (hr.mono (by decide)) ((¬0)∘ab) (by rfl) (by decide) (by rfl) (by rfl)) ac) (by rfl) (by trivial))
      (@af _ _ _ _ _ _ _ _ (@au _ _ _ _ _ 7 _ _ nd rfl (Or.inl rfl) (@aW _ _ _ _ _ ab) (by rfl) (by trivial))
      (@af _ _ _ _ _ _ _ _ (@d9 _ _ _ _ _ _ _ _ _ _ _ PassesOwn.never rfl (@dR _ _ _ _ _ _ _ rfl T.b_range ((¬3)∘ab) (by rfl)) (@bv _ _ _ 8 _ nd rfl (Or.inl rfl) (by trivial))
      (@ah _ _ _ _ _ (@el _ _ _ _ _ (@di _ _ _ _ _ _ _ _ _ rfl (¬7) ((@dj _ _ _ _ _ _ _ rfl (@aW _ _ _ _ _ (ac∘((@aO _ _ _ _ _ _ _ rfl ac (@aM _ _ _ _ _ _ _ (@bj _ _ _ _ _ _ _ _ _ _ _ _ _ _ _ hLnext GLnext (hr.mono (by decide)) ((¬0)∘ab) (by rfl) (by decide) (by rfl) (by rfl)) ac))∘((@aM _ _ _ _ _ _ _ (@bj _ _ _ _ _ _ _ _ _ _ _ _ _ _ _ hLnext GLnext (hr.mono (by decide)) ((¬0)∘ab) (by rfl) (by decide) (by rfl) (by rfl)) ac)∘ab)))) (¬6) (fun _ _=>rfl))∘ab) (by rfl) (by rfl) (by rfl) (by rfl) (by rfl)) (by rfl))) (by intro _;rfl))
      (@af _ _ _ _ _ _ _ _ (@au _ _ _ _ _ 9 _ _ nd rfl (Or.inl rfl) (@dj _ _ _ _ _ _ _ rfl (@aW _ _ _ _ _ (ac∘((@aO _ _ _ _ _ _ _ rfl ac (@aM _ _ _ _ _ _ _ (@bj _ _ _ _ _ _ _ _ _ _ _ _ _ _ _ hLnext GLnext (hr.mono (by decide)) ((¬0)∘ab) (by rfl) (by decide) (by rfl) (by rfl)) (@aS _ _ _ _ _ _ _ _ _ (@b_max _ _ rfl) (by rfl) T.b_max (ac∘((¬4)∘ab)) (by decide) (by decide) (by rfl) (by rfl))))∘((@aM _ _ _ _ _ _ _ (@bj _ _ _ _ _ _ _ _ _ _ _ _ _ _ _ hLnext GLnext (hr.mono (by decide)) ((¬0)∘ab) (by rfl) (by decide) (by rfl) (by rfl)) ac)∘ab)))) (@aM _ _ _ _ _ _ _ (@bj _ _ _ _ _ _ _ _ _ _ _ _ _ _ _ hLnext GLnext (hr.mono (by decide)) ((¬0)∘ab) (by rfl) (by decide) (by rfl) (by rfl)) ac) (fun _ _=>rfl)) (by rfl) (by trivial))
      (@ah _ _ _ _ _ (@aG _ _ _ _ _ (@ax _ _ _ _ _ _ ((¬3)∘((¬5)∘((@aS _ _ _ _ _ _ _ _ _ (@b_tuple _ _ rfl) (by rfl) T.b_tuple ((¬7)∘ab) (by decide) (by decide) (by rfl) (by rfl))∘((¬9)∘ab)))))))))))))))
noncomputable def x4:FS:=(aE (aZ 1 (cg (aa (vC .none) (aa (vC (.bool true)) (aa (vC (.bool false)) (aa (vC (.int 0)) (aa (vC (.int 1)) (aa (kU pb (vC (.int 1))) (aa (vC (.int 5)) (aa (vC (.str ("":Str))) (aa (vC (.str ("a":Str))) (aa (vC (.str ("0":Str))) (aa (bh ag) (aa (bh (aa (vC (.int 0)) ag)) (aa (bh (aa (vC (.int 0)) (aa (vC (.int 1)) ag))) (aa (bh (aa (bh ag) (aa (bh ag) ag))) (aa (cg ag) (aa (cg (aa (vC (.int 0)) ag)) (aa (jz []) (aa (jz [(0,1)]) ag))))))))))))))))))))
    (aE (aZ 1 (aw aY (ae 1) (cg (aa (bh (aa (vC .none) ag)) (aa (bh (aa (bh ag) ag)) (aa (cg (aa (bh ag) ag)) (aa (bh (aa (vC (.bool true)) (aa (vC (.bool false)) ag))) (aa (bh (aa (bh (aa (vC (.int 0)) (aa (vC (.int 1)) ag))) (aa (bh (aa (vC (.int 1)) (aa (vC (.int 2)) ag))) ag))) (aa (bh (aa (bh (aa (bh ag) (aa (bh ag) ag))) ag)) (aa (bh (aa (vC (.str ("a":Str))) (aa (vC (.int 1)) ag))) (aa (bh (aa (bh (aa (vC (.int 0)) (aa (vC (.int 1)) ag))) ag)) (aa (aw mM (vC (.int 10)) (vC (.int 30))) ag))))))))))))
    (bG (aw fJ (ae 1) (aw aN (ae 0) (aH (g1 en) (aa (ae 1) ag)))))))
noncomputable def om:FM:=jp 1 1 ([1]++([1]++[])) x4
theorem vd:aJ ["_law_number","_law_odd_here"] ["_law_number"] (aj l6):=⟨rfl,rfl,rfl,by decide+kernel,rfl,by decide+kernel,by decide+kernel⟩
theorem zo(h:bI K mg "_law_odd" l6 f fd ["_law_number"])(T:jU mg):aP P w K mg base cL 1 f fd ["_law_number"] (cO K 1 om):=by
  have nd:=vd.nd
  exact h.fn vd rfl rfl (fun cdv A outer s H E hr=>(@af _ _ _ _ _ _ _ _ (@au _ _ _ _ _ 1 _ _ nd rfl (Or.inl rfl) (@aW _ _ _ _ _ ((@uO _ _ _ _)∘((@cG _ _ _ _ _)∘((@cG _ _ _ _ _)∘(ac∘(ac∘((@qp _ _ _ _ _ ac)∘(ac∘((@m4 _ _ _ _ _)∘((@m4 _ _ _ _ _)∘((@m4 _ _ _ _ _)∘((@ax _ _ _ _ _ _ ab)∘((@ax _ _ _ _ _ _ (ac∘ab))∘((@ax _ _ _ _ _ _ (ac∘(ac∘ab)))∘((@ax _ _ _ _ _ _ ((@ax _ _ _ _ _ _ ab)∘((@ax _ _ _ _ _ _ ab)∘ab)))∘((@aW _ _ _ _ _ ab)∘((@aW _ _ _ _ _ (ac∘ab))∘((@oD _ _ _)∘((@oE _ _ _ _ _ _ _ _ _)∘ab))))))))))))))))))) (by rfl) (by trivial))
      (@af _ _ _ _ _ _ _ _ (@au _ _ _ _ _ 1 _ _ nd rfl (Or.inl rfl) (@aO _ _ _ _ _ _ _ rfl (¬1) (@aW _ _ _ _ _ ((@ax _ _ _ _ _ _ ((@uO _ _ _ _)∘ab))∘((@ax _ _ _ _ _ _ ((@ax _ _ _ _ _ _ ab)∘ab))∘((@aW _ _ _ _ _ ((@ax _ _ _ _ _ _ ab)∘ab))∘((@ax _ _ _ _ _ _ ((@cG _ _ _ _ _)∘((@cG _ _ _ _ _)∘ab)))∘((@ax _ _ _ _ _ _ ((@ax _ _ _ _ _ _ (ac∘(ac∘ab)))∘((@ax _ _ _ _ _ _ (ac∘(ac∘ab)))∘ab)))∘((@ax _ _ _ _ _ _ ((@ax _ _ _ _ _ _ ((@ax _ _ _ _ _ _ ab)∘((@ax _ _ _ _ _ _ ab)∘ab)))∘ab))∘((@ax _ _ _ _ _ _ ((@m4 _ _ _ _ _)∘(ac∘ab)))∘((@ax _ _ _ _ _ _ ((@ax _ _ _ _ _ _ (ac∘(ac∘ab)))∘ab))∘((@uJ _ _ _ _ _ _ _ ac ac)∘ab))))))))))) (by rfl) (by trivial))
      (@ah _ _ _ _ _ (@aG _ _ _ _ _ (@dj _ _ _ _ _ _ _ rfl (¬1) (@aM _ _ _ _ _ _ _ (¬0) (@aS _ _ _ _ _ _ _ _ _ (@b_len _ _ rfl) (by rfl) T.b_len ((¬1)∘ab) (by decide) (by decide) (by rfl) (by rfl))) (fun _ _=>rfl)))))))
noncomputable def cw:FT:=(nh (aU (aw (cB true) (ae 3) (cg ag))) (aU (aw tG (aH (g1 en) (aa (ae 4) ag)) (ae 2))))
noncomputable def h9:FS:=(gh (dq bT (ae 4) (aa (dq gY (ae 3) (aa (aw aN (dM 1 aV (aa (ae 0) ag)) (aH (g1 en) (aa (ae 3) ag))) ag)) ag)))
noncomputable def sC:FS:=(aE (aZ 3 (jP (aa (aH (g1 en) (aa (aw fJ (ae 1) (vC (.int 1))) ag)) ag)))
    (aE (aZ 4 (cg ag))
    (aE (hJ (2 ^ 4200) cw h9)
    (bG (aH (g1 cf) (aa (ae 4) ag))))))
noncomputable def ku:FM:=jp 3 2 ([3]++([4]++([]++[]))) sC
theorem qD:aJ ["_law_drawn","_law_web_here","_law_most","_law_left","_law_found"] ["_law_drawn","_law_web_here","_law_most"] (aj i8):=⟨rfl,rfl,rfl,by decide+kernel,rfl,by decide+kernel,by decide+kernel⟩
theorem wA(h:bI K mg "_law_full" i8 f fd ["_law_drawn","_law_web_here","_law_most"])(T:jU mg){fLnext:Addr}{eLnext:FuncData}(hLnext:bI K mg "_law_next" eu fLnext eLnext ["_law_drawn"])(GLnext:aP P w K mg base cL 1 fLnext eLnext ["_law_drawn"] (cO K 1 aV)):aP P w K mg base cL 2 f fd ["_law_drawn","_law_web_here","_law_most"] (cO K 3 ku):=by
  have nd:=qD.nd
  exact h.fn qD rfl rfl (fun cdv A outer s H E hr=>(@af _ _ _ _ _ _ _ _ (@au _ _ _ _ _ 3 _ _ nd rfl (Or.inl rfl) (@oC _ _ _ _ _ _ _ _ rfl rfl T.b_list rfl T.b_range ((@aS _ _ _ _ _ _ _ _ _ (@b_len _ _ rfl) (by rfl) T.b_len ((@dj _ _ _ _ _ _ _ rfl (¬1) ac (fun _ _=>rfl))∘ab) (by decide) (by decide) (by rfl) (by rfl))∘ab) (by rfl) (by rfl)) (by rfl) (by trivial))
      (@af _ _ _ _ _ _ _ _ (@au _ _ _ _ _ 4 _ _ nd rfl (Or.inl rfl) (@aW _ _ _ _ _ ab) (by rfl) (by trivial))
      (@af _ _ _ _ _ _ _ _ (@kM _ _ _ _ _ _ _ _ _ PassesOwn.never (@rR _ _ _ _ (@m6 _ _ _ _ _ _ _ _ (@bL _ _ _ _ _ _ _ _ _ (@yK _ _ _ rfl hr) (¬3) (@aW _ _ _ _ _ ab) (bc _)) (@m7 _ _ _ _ _ (@bL _ _ _ _ _ _ _ _ _ (@sI _ _) (@aS _ _ _ _ _ _ _ _ _ (@b_len _ _ rfl) (by rfl) T.b_len ((¬4)∘ab) (by decide) (by decide) (by rfl) (by rfl)) (¬2) (bc _)))))
      (@ah _ _ _ _ _ (@el _ _ _ _ _ (@di _ _ _ _ _ _ _ _ _ rfl (¬4) ((@qq _ _ _ _ _ _ _ _ _ rfl (¬3) ((@aM _ _ _ _ _ _ _ (@bj _ _ _ _ _ _ _ _ _ _ _ _ _ _ _ hLnext GLnext (hr.mono (by decide)) ((¬0)∘ab) (by rfl) (by decide) (by rfl) (by rfl)) (@aS _ _ _ _ _ _ _ _ _ (@b_len _ _ rfl) (by rfl) T.b_len ((¬3)∘ab) (by decide) (by decide) (by rfl) (by rfl)))∘ab) (by rfl) (by rfl) (by rfl) (by rfl) (by rfl))∘ab) (by rfl) (by rfl) (by rfl) (by rfl) (by rfl)) (by rfl))))
      (@ah _ _ _ _ _ (@aG _ _ _ _ _ (@aS _ _ _ _ _ _ _ _ _ (@b_tuple _ _ rfl) (by rfl) T.b_tuple ((¬4)∘ab) (by decide) (by decide) (by rfl) (by rfl))))))))
noncomputable def dX:FI:=(io (ae 1))
noncomputable def aQ:FS:=(aE (jr (xR (je (aU (kU (jC "int") (ae 3)))) (xR (aU (kU (jC "bool") (ae 3))) (je (aU (cK AF tG (vC (.int 0)) (ae 3) (aH (g1 en) (aa (aw fJ (ae 0) (vC (.int 1))) ag)))))))
    (bG (vC (.bool false)))
    ez)
    (aZ 2 (aw aY (ae 2) (aH (g1 gH) (aa (nq (aw fJ (aw fJ (ae 0) (vC (.int 1))) (ae 3)) dz (dh (vC (.int 2)))) ag)))))
noncomputable def dF:FS:=(aE (jr (je (aU (kU (jC "tuple") (ae 1))))
    (bG (vC (.bool false)))
    ez)
    (aE (aZ 2 (cg ag))
    (aE (cI ([3]++(([]++[])++[2])) dX (ao 3) aQ)
    (bG (jy (aw (cB false) (aH (g1 gH) (aa (ae 1) ag)) (kU dW (ae 1))) (aw (cB false) (kU dG (ae 2)) (aH (g1 en) (aa (ae 2) ag))))))))
noncomputable def bB:FM:=jp 2 2 (([]++[])++([2]++(([3]++(([]++[])++[2]))++[]))) dF
theorem gK:aJ ["_law_web_here","_law_thing","_law_ends_here","_law_tie"] ["_law_web_here","_law_thing"] (aj bX):=⟨rfl,rfl,rfl,by decide+kernel,rfl,by decide+kernel,by decide+kernel⟩
theorem lq(h:bI K mg "_law_is_pairing" bX f fd ["_law_web_here","_law_thing"])(T:jU mg):aP P w K mg base cL 1 f fd ["_law_web_here","_law_thing"] (cO K 2 bB):=by
  have nd:=gK.nd
  exact h.fn gK rfl rfl (fun cdv A outer s H E hr=>(@af _ _ _ _ _ _ _ _ (@dk _ _ _ _ _ _ _ _ _ _ _ (@gf _ _ _ _ _ (@fq _ _ _ _ (@lV _ _ _ _ _ _ _ _ "tuple" rfl (by decide) rfl T.b_isinstance rfl T.b_tuple PyProof.Rows.boot_tuple (by decide) (by decide) (¬1) (by rfl) (by rfl)) (by intro _;rfl)))
      (@ah _ _ _ _ _ (@aG _ _ _ _ _ (@cG _ _ _ _ _)))
      (@br _ _))
      (@af _ _ _ _ _ _ _ _ (@au _ _ _ _ _ 2 _ _ nd rfl (Or.inl rfl) (@aW _ _ _ _ _ ab) (by rfl) (by trivial))
      (@af _ _ _ _ _ _ _ _ (@d9 _ _ _ _ _ _ _ _ _ _ _ PassesOwn.never rfl (@gb _ _ _ _ _ rfl (¬1)) (@bv _ _ _ 3 _ nd rfl (Or.inl rfl) (by trivial))
      (@af _ _ _ _ _ _ _ _ (@dk _ _ _ _ _ _ _ _ _ _ _ (@rR _ _ _ _ (@qt _ _ _ _ _ _ _ _ (@gf _ _ _ _ _ (@fq _ _ _ _ (@lV _ _ _ _ _ _ _ _ "int" rfl (by decide) rfl T.b_isinstance rfl T.b_int PyProof.Rows.boot_int (by decide) (by decide) (¬3) (by rfl) (by rfl)) (by intro _;rfl))) (@qt _ _ _ _ _ _ _ _ (@fq _ _ _ _ (@lV _ _ _ _ _ _ _ _ "bool" rfl (by decide) rfl T.b_isinstance rfl T.b_bool PyProof.Rows.boot_bool (by decide) (by decide) (¬3) (by rfl) (by rfl)) (by intro _;rfl)) (@pE _ _ _ _ _ (@gf _ _ _ _ _ (@uK _ _ _ _ _ _ _ _ _ _ _ _ _ (@yJ _ _) (@sI _ _) ac (¬3) (@aS _ _ _ _ _ _ _ _ _ (@b_len _ _ rfl) (by rfl) T.b_len ((@dj _ _ _ _ _ _ _ rfl (¬0) ac (fun _ _=>rfl))∘ab) (by decide) (by decide) (by rfl) (by rfl)) (by with_unfolding_all rfl)))))))
      (@ah _ _ _ _ _ (@aG _ _ _ _ _ (@cG _ _ _ _ _)))
      (@br _ _))
      (@ah _ _ _ _ _ (@au _ _ _ _ _ 2 _ _ nd rfl (Or.inl rfl) (@aO _ _ _ _ _ _ _ rfl (¬2) (@aS _ _ _ _ _ _ _ _ _ (@b_list _ _ rfl) (by rfl) T.b_list ((@bU _ _ _ _ _ _ _ _ _ _ rfl (@dj _ _ _ _ _ _ _ rfl (@dj _ _ _ _ _ _ _ rfl (¬0) ac (fun _ _=>rfl)) (¬3) (fun _ _=>rfl)) (@bV _ _) (@bW _ _ _ _ ac))∘ab) (by decide) (by decide) (by rfl) (by rfl))) (by rfl) (by trivial)))) (by intro _;rfl))
      (@ah _ _ _ _ _ (@aG _ _ _ _ _ (@pC _ _ _ _ _ _ _ _ (@jq _ _ _ _ _ _ _ _ _ (@mr _ _ _ rfl hr) (@aS _ _ _ _ _ _ _ _ _ (@b_list _ _ rfl) (by rfl) T.b_list ((¬1)∘ab) (by decide) (by decide) (by rfl) (by rfl)) (@lX _ _ _ _ _ _ _ _ rfl rfl rfl T.b_sorted rfl T.b_set (¬1) (by rfl) (by rfl) (by rfl) (by rfl)) (bc _)) (@pD _ _ _ _ _ _ (@jq _ _ _ _ _ _ _ _ _ (@mr _ _ _ rfl hr) (@oB _ _ _ _ _ _ _ _ rfl rfl rfl T.b_len rfl T.b_set (¬2) (by rfl) (by rfl) (by rfl) (by rfl)) (@aS _ _ _ _ _ _ _ _ _ (@b_len _ _ rfl) (by rfl) T.b_len ((¬2)∘ab) (by decide) (by decide) (by rfl) (by rfl)) (bc _))))))))))
noncomputable def il:FI:=(io (ae 1))
noncomputable def fM:FS:=(aZ 2 (aw aY (ae 2) (aH (g1 gH) (aa (nq (aw fJ (aw fJ (ae 0) (vC (.int 1))) (ae 3)) dz (dh (vC (.int 2)))) ag))))
noncomputable def sy:FS:=(aE (aZ 2 (cg ag))
    (aE (cI ([3]++[2]) il (ao 3) fM)
    (bG (ae 2))))
noncomputable def kr:FM:=jp 2 2 ([2]++(([3]++[2])++[])) sy
theorem qC:aJ ["_law_web_here","_law_ties_here","_law_ends_here","_law_tie"] ["_law_web_here","_law_ties_here"] (aj i7):=⟨rfl,rfl,rfl,by decide+kernel,rfl,by decide+kernel,by decide+kernel⟩
theorem wz(h:bI K mg "_law_ends" i7 f fd ["_law_web_here","_law_ties_here"])(T:jU mg):aP P w K mg base cL 1 f fd ["_law_web_here","_law_ties_here"] (cO K 2 kr):=by
  have nd:=qC.nd
  exact h.fn qC rfl rfl (fun cdv A outer s H E hr=>(@af _ _ _ _ _ _ _ _ (@au _ _ _ _ _ 2 _ _ nd rfl (Or.inl rfl) (@aW _ _ _ _ _ ab) (by rfl) (by trivial))
      (@af _ _ _ _ _ _ _ _ (@d9 _ _ _ _ _ _ _ _ _ _ _ PassesOwn.never rfl (@gb _ _ _ _ _ rfl (¬1)) (@bv _ _ _ 3 _ nd rfl (Or.inl rfl) (by trivial))
      (@ah _ _ _ _ _ (@au _ _ _ _ _ 2 _ _ nd rfl (Or.inl rfl) (@aO _ _ _ _ _ _ _ rfl (¬2) (@aS _ _ _ _ _ _ _ _ _ (@b_list _ _ rfl) (by rfl) T.b_list ((@bU _ _ _ _ _ _ _ _ _ _ rfl (@dj _ _ _ _ _ _ _ rfl (@dj _ _ _ _ _ _ _ rfl (¬0) ac (fun _ _=>rfl)) (¬3) (fun _ _=>rfl)) (@bV _ _) (@bW _ _ _ _ ac))∘ab) (by decide) (by decide) (by rfl) (by rfl))) (by rfl) (by trivial))) (by intro _;rfl))
      (@ah _ _ _ _ _ (@aG _ _ _ _ _ (¬2))))))
noncomputable def fW:FI:=(io (dM 3 ku (aa (ae 0) (aa (ae 1) (aa (vC (.int 16)) ag)))))
noncomputable def bP:FS:=(aE (aZ 4 (dM 2 kr (aa (ae 1) (aa (ae 2) ag))))
    (jr (nh (aU (aw (s_ true) (aw fJ (aw fJ (aw fJ (ae 1) (vC (.int 1))) (ae 3)) (vC (.int 0))) (ae 4))) (nh (aU (aw (s_ true) (aw fJ (aw fJ (aw fJ (ae 1) (vC (.int 1))) (ae 3)) (vC (.int 1))) (ae 4))) (aU (aw yP (aw aN (dM 1 aV (aa (ae 0) ag)) (vC (.int 8))) (vC (.int 0))))))
    (gh (dq bT (ae 2) (aa (ae 3) ag)))
    ez))
noncomputable def lx:FS:=(aE (aZ 2 (cg ag))
    (aE (cI ([3]++([4]++([]++[]))) fW (ao 3) bP)
    (bG (aH (g1 cf) (aa (aH (g1 er) (aa (ae 2) ag)) ag)))))
noncomputable def eG:FM:=jp 2 3 ([2]++(([3]++([4]++([]++[])))++[])) lx
theorem kO:aJ ["_law_drawn","_law_web_here","_law_found","_law_tie","_law_ends_here"] ["_law_drawn","_law_web_here"] (aj dS):=⟨rfl,rfl,rfl,by decide+kernel,rfl,by decide+kernel,by decide+kernel⟩
theorem pv(h:bI K mg "_law_pairing" dS f fd ["_law_drawn","_law_web_here"])(T:jU mg){fLfull:Addr}{eLfull:FuncData}(hLfull:bI K mg "_law_full" i8 fLfull eLfull ["_law_drawn","_law_web_here","_law_most"])(GLfull:aP P w K mg base cL 2 fLfull eLfull ["_law_drawn","_law_web_here","_law_most"] (cO K 3 ku)){fLends:Addr}{eLends:FuncData}(hLends:bI K mg "_law_ends" i7 fLends eLends ["_law_web_here","_law_ties_here"])(GLends:aP P w K mg base cL 1 fLends eLends ["_law_web_here","_law_ties_here"] (cO K 2 kr)){fLnext:Addr}{eLnext:FuncData}(hLnext:bI K mg "_law_next" eu fLnext eLnext ["_law_drawn"])(GLnext:aP P w K mg base cL 1 fLnext eLnext ["_law_drawn"] (cO K 1 aV)):aP P w K mg base cL 3 f fd ["_law_drawn","_law_web_here"] (cO K 2 eG):=by
  have nd:=kO.nd
  exact h.fn kO rfl rfl (fun cdv A outer s H E hr=>(@af _ _ _ _ _ _ _ _ (@au _ _ _ _ _ 2 _ _ nd rfl (Or.inl rfl) (@aW _ _ _ _ _ ab) (by rfl) (by trivial))
      (@af _ _ _ _ _ _ _ _ (@d9 _ _ _ _ _ _ _ _ _ _ _ PassesOwn.never rfl (@gb _ _ _ _ _ rfl (@bj _ _ _ _ _ _ _ _ _ _ _ _ _ _ _ hLfull GLfull (hr.mono (by decide)) ((¬0)∘((¬1)∘(ac∘ab))) (by rfl) (by decide) (by rfl) (by rfl))) (@bv _ _ _ 3 _ nd rfl (Or.inl rfl) (by trivial))
      (@af _ _ _ _ _ _ _ _ (@au _ _ _ _ _ 4 _ _ nd rfl (Or.inl rfl) (@bj _ _ _ _ _ _ _ _ _ _ _ _ _ _ _ hLends GLends (hr.mono (by decide)) ((¬1)∘((¬2)∘ab)) (by rfl) (by decide) (by rfl) (by rfl)) (by rfl) (by trivial))
      (@ah _ _ _ _ _ (@dk _ _ _ _ _ _ _ _ _ _ _ (@rR _ _ _ _ (@m6 _ _ _ _ _ _ _ _ (@bL _ _ _ _ _ _ _ _ _ (@p4 _ _ _ rfl hr) (@dj _ _ _ _ _ _ _ rfl (@dj _ _ _ _ _ _ _ rfl (@dj _ _ _ _ _ _ _ rfl (¬1) ac (fun _ _=>rfl)) (¬3) (fun _ _=>rfl)) ac (fun _ _=>rfl)) (¬4) (by with_unfolding_all rfl)) (@m6 _ _ _ _ _ _ _ _ (@bL _ _ _ _ _ _ _ _ _ (@p4 _ _ _ rfl hr) (@dj _ _ _ _ _ _ _ rfl (@dj _ _ _ _ _ _ _ rfl (@dj _ _ _ _ _ _ _ rfl (¬1) ac (fun _ _=>rfl)) (¬3) (fun _ _=>rfl)) ac (fun _ _=>rfl)) (¬4) (by with_unfolding_all rfl)) (@m7 _ _ _ _ _ (@bL _ _ _ _ _ _ _ _ _ (@A9 _ _) (@aM _ _ _ _ _ _ _ (@bj _ _ _ _ _ _ _ _ _ _ _ _ _ _ _ hLnext GLnext (hr.mono (by decide)) ((¬0)∘ab) (by rfl) (by decide) (by rfl) (by rfl)) ac) ac (bc _))))))
      (@ah _ _ _ _ _ (@el _ _ _ _ _ (@di _ _ _ _ _ _ _ _ _ rfl (¬2) ((¬3)∘ab) (by rfl) (by rfl) (by rfl) (by rfl) (by rfl)) (by rfl)))
      (@br _ _)))) (by intro _;rfl))
      (@ah _ _ _ _ _ (@aG _ _ _ _ _ (@aS _ _ _ _ _ _ _ _ _ (@b_tuple _ _ rfl) (by rfl) T.b_tuple ((@aS _ _ _ _ _ _ _ _ _ (@pZ _ _ rfl) (by rfl) T.b_sorted ((¬2)∘ab) (by decide) (by decide) (by rfl) (by rfl))∘ab) (by decide) (by decide) (by rfl) (by rfl)))))))
noncomputable def n9:FI:=(io (ae 1))
noncomputable def eD:FE:=(aw fJ (cg (aa (ae 0) (aa (aw (cB false) (ae 0) (vC (.int 1))) ag))) (aH (g1 nU) (aa (aw tG (ae 0) (vC (.int 2))) ag)))
noncomputable def oX:FS:=(aE (aZ 4 (aw aN (ae 2) (aw aY (aH (g1 en) (aa (ae 1) ag)) (vC (.int 1)))))
    (aE (aZ 5 (aw aN (aw cC (ae 2) (vC (.int 17))) (aH (g2 o_) (aa (vC (.int 1)) (aa (aH (g1 en) (aa (aw fJ (ae 0) (vC (.int 1))) ag)) ag)))))
    (aE (aZ 6 (cg (aa (ae 1) (aa (aw aY (aw aY (nq (ae 1) dz (dh (ae 4))) (bh (aa (ae 5) ag))) (nq (ae 1) (dh (ae 4)) dz)) (aa (aH (g1 cf) (aa (aH (g1 er) (aa (aw aY (ae 1) (bh (aa (ae 5) ag))) ag)) ag)) ag)))))
    (aE (gh (dq bT (ae 6) (aa (aw aY (nq (ae 1) dz (dh (ae 4))) (nq (ae 1) (dh (aw aY (ae 4) (vC (.int 1)))) dz)) ag)))
    (aE (aZ 6 (aw aY (ae 6) (cg (aa (aw aY (ae 1) (nq (ae 1) (dh (kU pb (vC (.int 1)))) dz)) (aa (CA (ae 1) (kU pb (vC (.int 1)))) (aa (aH (g1 gH) (aa (ae 1) ag)) (aa (aw aY (aw aY (nq (ae 1) dz (dh (ae 4))) (bh (aa (ae 3) ag))) (nq (ae 1) (dh (ae 4)) dz)) (aa (ae 3) ag))))))))
    (aE (aZ 6 (aw aY (ae 6) (cg (aa (aw aY (ae 1) (bh (aa (aH (g1 en) (aa (aw fJ (ae 0) (vC (.int 1))) ag)) ag))) (aa (aw aY (bh (aa (kU pb (vC (.int 1))) ag)) (ae 1)) (aa (aH (g1 cf) (aa (kU dW (aw aY (nq (ae 1) (dh (vC (.int 1))) dz) (bh (aa (ae 5) ag)))) ag)) ag))))))
    (bG (aw fJ (aw aY (ae 6) (cg (aa (aH (g1 cf) (aa (kS [] 1 n9 (ao 0) gu eD) ag)) ag))) (aw aN (aw cC (ae 2) (vC (.int 300))) (vC (.int 13)))))))))))
noncomputable def ko:FM:=jp 4 3 ([4]++([5]++([6]++([]++([6]++([6]++[])))))) oX
theorem qB:aJ ["_law_web_here","_law_pairing_here","_law_number","_law_odd_here","_law_at","_law_tie","_law_some"] ["_law_web_here","_law_pairing_here","_law_number","_law_odd_here"] (aj hG):=⟨rfl,rfl,rfl,by decide+kernel,rfl,by decide+kernel,by decide+kernel⟩
theorem wy(h:bI K mg "_law_bent" hG f fd ["_law_web_here","_law_pairing_here","_law_number","_law_odd_here"])(T:jU mg):aP P w K mg base cL 1 f fd ["_law_web_here","_law_pairing_here","_law_number","_law_odd_here"] (cO K 4 ko):=by
  have nd:=qB.nd
  exact h.fn qB rfl rfl (fun cdv A outer s H E hr=>(@af _ _ _ _ _ _ _ _ (@au _ _ _ _ _ 4 _ _ nd rfl (Or.inl rfl) (@aM _ _ _ _ _ _ _ (¬2) (@aO _ _ _ _ _ _ _ rfl (@aS _ _ _ _ _ _ _ _ _ (@b_len _ _ rfl) (by rfl) T.b_len ((¬1)∘ab) (by decide) (by decide) (by rfl) (by rfl)) ac)) (by rfl) (by trivial))
      (@af _ _ _ _ _ _ _ _ (@au _ _ _ _ _ 5 _ _ nd rfl (Or.inl rfl) (@aM _ _ _ _ _ _ _ (@et _ _ _ _ _ _ _ (¬2) ac) (@aS _ _ _ _ _ _ _ _ _ (@b_max _ _ rfl) (by rfl) T.b_max (ac∘((@aS _ _ _ _ _ _ _ _ _ (@b_len _ _ rfl) (by rfl) T.b_len ((@dj _ _ _ _ _ _ _ rfl (¬0) ac (fun _ _=>rfl))∘ab) (by decide) (by decide) (by rfl) (by rfl))∘ab)) (by decide) (by decide) (by rfl) (by rfl))) (by rfl) (by trivial))
      (@af _ _ _ _ _ _ _ _ (@au _ _ _ _ _ 6 _ _ nd rfl (Or.inl rfl) (@aW _ _ _ _ _ ((¬1)∘((@aO _ _ _ _ _ _ _ rfl (@aO _ _ _ _ _ _ _ rfl (@bU _ _ _ _ _ _ _ _ _ _ rfl (¬1) (@bV _ _) (@bW _ _ _ _ (¬4))) (@ax _ _ _ _ _ _ ((¬5)∘ab))) (@bU _ _ _ _ _ _ _ _ _ _ rfl (¬1) (@bW _ _ _ _ (¬4)) (@bV _ _)))∘((@aS _ _ _ _ _ _ _ _ _ (@b_tuple _ _ rfl) (by rfl) T.b_tuple ((@aS _ _ _ _ _ _ _ _ _ (@pZ _ _ rfl) (by rfl) T.b_sorted ((@aO _ _ _ _ _ _ _ rfl (¬1) (@ax _ _ _ _ _ _ ((¬5)∘ab)))∘ab) (by decide) (by decide) (by rfl) (by rfl))∘ab) (by decide) (by decide) (by rfl) (by rfl))∘ab)))) (by rfl) (by trivial))
      (@af _ _ _ _ _ _ _ _ (@el _ _ _ _ _ (@di _ _ _ _ _ _ _ _ _ rfl (¬6) ((@aO _ _ _ _ _ _ _ rfl (@bU _ _ _ _ _ _ _ _ _ _ rfl (¬1) (@bV _ _) (@bW _ _ _ _ (¬4))) (@bU _ _ _ _ _ _ _ _ _ _ rfl (¬1) (@bW _ _ _ _ (@aO _ _ _ _ _ _ _ rfl (¬4) ac)) (@bV _ _)))∘ab) (by rfl) (by rfl) (by rfl) (by rfl) (by rfl)) (by rfl))
      (@af _ _ _ _ _ _ _ _ (@au _ _ _ _ _ 6 _ _ nd rfl (Or.inl rfl) (@aO _ _ _ _ _ _ _ rfl (¬6) (@aW _ _ _ _ _ ((@aO _ _ _ _ _ _ _ rfl (¬1) (@bU _ _ _ _ _ _ _ _ _ _ rfl (¬1) (@bW _ _ _ _ (@qp _ _ _ _ _ ac)) (@bV _ _)))∘((@Dp _ _ _ _ _ _ _ _ rfl (¬1) (@qp _ _ _ _ _ ac))∘((@aS _ _ _ _ _ _ _ _ _ (@b_list _ _ rfl) (by rfl) T.b_list ((¬1)∘ab) (by decide) (by decide) (by rfl) (by rfl))∘((@aO _ _ _ _ _ _ _ rfl (@aO _ _ _ _ _ _ _ rfl (@bU _ _ _ _ _ _ _ _ _ _ rfl (¬1) (@bV _ _) (@bW _ _ _ _ (¬4))) (@ax _ _ _ _ _ _ ((¬3)∘ab))) (@bU _ _ _ _ _ _ _ _ _ _ rfl (¬1) (@bW _ _ _ _ (¬4)) (@bV _ _)))∘((¬3)∘ab))))))) (by rfl) (by trivial))
      (@af _ _ _ _ _ _ _ _ (@au _ _ _ _ _ 6 _ _ nd rfl (Or.inl rfl) (@aO _ _ _ _ _ _ _ rfl (¬6) (@aW _ _ _ _ _ ((@aO _ _ _ _ _ _ _ rfl (¬1) (@ax _ _ _ _ _ _ ((@aS _ _ _ _ _ _ _ _ _ (@b_len _ _ rfl) (by rfl) T.b_len ((@dj _ _ _ _ _ _ _ rfl (¬0) ac (fun _ _=>rfl))∘ab) (by decide) (by decide) (by rfl) (by rfl))∘ab)))∘((@aO _ _ _ _ _ _ _ rfl (@ax _ _ _ _ _ _ ((@qp _ _ _ _ _ ac)∘ab)) (¬1))∘((@aS _ _ _ _ _ _ _ _ _ (@b_tuple _ _ rfl) (by rfl) T.b_tuple ((@lX _ _ _ _ _ _ _ _ rfl rfl rfl T.b_sorted rfl T.b_set (@aO _ _ _ _ _ _ _ rfl (@bU _ _ _ _ _ _ _ _ _ _ rfl (¬1) (@bW _ _ _ _ ac) (@bV _ _)) (@ax _ _ _ _ _ _ ((¬5)∘ab))) (by rfl) (by rfl) (by rfl) (by rfl))∘ab) (by decide) (by decide) (by rfl) (by rfl))∘ab))))) (by rfl) (by trivial))
      (@ah _ _ _ _ _ (@aG _ _ _ _ _ (@dj _ _ _ _ _ _ _ rfl (@aO _ _ _ _ _ _ _ rfl (¬6) (@aW _ _ _ _ _ ((@aS _ _ _ _ _ _ _ _ _ (@b_tuple _ _ rfl) (by rfl) T.b_tuple ((@zW _ _ _ _ _ _ _ _ _ _ _ _ _ (aj hG) ["_law_web_here","_law_pairing_here","_law_number","_law_odd_here","_law_at","_law_tie","_law_some"] [] ["_law_one"] rfl rfl rfl (@gb _ _ _ _ _ rfl (¬1))
        (fun C s0 H0 fp=>(@bv _ _ _ 0 _ (show List.Nodup (["_law_one"]:List Str) by decide+kernel) rfl (Or.inl rfl) (by trivial))) (fun C s0 H0 fp=>(@m5 _ _))
        (fun C s0 H0 fp=>(@dj _ _ _ _ _ _ _ rfl (@aW _ _ _ _ _ ((¬0)∘((@jq _ _ _ _ _ _ _ _ _ (@mr _ _ _ rfl hr) (¬0) ac (bc _))∘ab))) (@aS _ _ _ _ _ _ _ _ _ (@b_int _ _) (by rfl) T.b_int ((@jq _ _ _ _ _ _ _ _ _ (@sI _ _) (¬0) ac (bc _))∘ab) (by decide) (by decide) (by rfl) (by rfl)) (fun _ _=>rfl))) rfl (by decide+kernel) (by decide+kernel) (by decide+kernel) (by decide+kernel) (by decide+kernel) (by decide+kernel) (by decide+kernel) (by intro _;rfl))∘ab) (by decide) (by decide) (by rfl) (by rfl))∘ab))) (@aM _ _ _ _ _ _ _ (@et _ _ _ _ _ _ _ (¬2) ac) ac) (fun _ _=>rfl)))))))))))
noncomputable def DP:FI:=(cY (aa (vC (.int 8)) ag))
noncomputable def CJ:FS:=(aE (aZ 8 (dM 2 ek (aa (dM 1 aV (aa (ae 1) ag)) (aa (aw aY (ae 7) (vC (.int 2))) ag))))
    (aE (aZ 9 (dM 4 ko (aa (ae 3) (aa (ae 4) (aa (ae 8) (aa (dM 1 om (aa (aw cC (ae 8) (vC (.int 10000))) ag)) ag))))))
    (aE (aZ 10 (aH (g1 jn) (aa (bh (aa (ae 3) (aa (ae 9) ag))) ag)))
    (jr (xR (je (aU (dM 2 iR (aa (dM 2 ba (aa (ae 3) (aa (ae 9) ag))) (aa (dM 2 bB (aa (ae 3) (aa (ae 9) ag))) ag))))) (aU (aw (cB true) (aH (g1 jn) (aa (bh (aa (ae 3) (aa (ae 9) ag))) ag)) (ae 10))))
    (bG (vC (.bool false)))
    ez))))
noncomputable def Dc:FI:=(io (cg (aa (cg ag) (aa (jz []) (aa (cg (aa (vC (.int 0)) ag)) (aa (jz [(0,1)]) ag))))))
noncomputable def CK:FS:=(jr (je (aU (dM 2 iR (aa (dM 2 ba (aa (ae 3) (aa (aw aY (aw aY (nq (ae 4) dz (dh (ae 5))) (bh (aa (ae 6) ag))) (nq (ae 4) (dh (ae 5)) dz)) ag))) (aa (vC (.bool false)) ag)))))
    (bG (vC (.bool false)))
    ez)
noncomputable def DQ:FI:=(cY (aa (vC (.int 4)) ag))
noncomputable def AZ:FS:=(aE (aZ 3 (dM 3 oo (aa (ae 1) (aa (vC (.int 12)) (aa (vC (.int 16)) ag)))))
    (aE (aZ 4 (dM 2 eG (aa (ae 1) (aa (ae 3) ag))))
    (aE (jr (xR (aU (aw j_ (dM 2 ba (aa (ae 3) (aa (ae 4) ag))) (vC (.bool true)))) (aU (aw j_ (dM 2 ba (aa (ae 3) (aa (bh ag) ag))) (vC (.bool true)))))
    (bG (vC (.bool false)))
    ez)
    (aE (aZ 5 (aw aN (dM 1 aV (aa (ae 1) ag)) (aw aY (aH (g1 en) (aa (ae 4) ag)) (vC (.int 1)))))
    (aE (cI ([6]++([]++[])) Dc (ao 6) CK)
    (cI ([7]++([8]++([9]++([10]++([]++[]))))) DP (ao 7) CJ))))))
noncomputable def x6:FS:=(aE (aZ 1 (dM 1 ir (aa (ae 0) ag)))
    (aE (cI ([2]++([3]++([4]++(([]++[])++([5]++(([6]++([]++[]))++([7]++([8]++([9]++([10]++([]++[]))))))))))) DQ (ao 2) AZ)
    (bG (vC (.bool true)))))
noncomputable def kz:FM:=jp 1 10 ([1]++(([2]++([3]++([4]++(([]++[])++([5]++(([6]++([]++[]))++([7]++([8]++([9]++([10]++([]++[])))))))))))++[])) x6
theorem vf:aJ ["_law_script","_law_drawn","_law_k","_law_web_here","_law_pairing_here","_law_at","_law_odd_here","_law_j","_law_number","_law_thing","_law_handed"] ["_law_script"] (aj js):=⟨rfl,rfl,rfl,by decide+kernel,rfl,by decide+kernel,by decide+kernel⟩
theorem zq(h:bI K mg "law" js f fd ["_law_script"])(T:jU mg){fLdraws:Addr}{eLdraws:FuncData}(hLdraws:bI K mg "_law_draws" gB fLdraws eLdraws ["_law_script"])(GLdraws:aP P w K mg base cL 2 fLdraws eLdraws ["_law_script"] (cO K 1 ir)){fLweb:Addr}{eLweb:FuncData}(hLweb:bI K mg "_law_web" l7 fLweb eLweb ["_law_drawn","_law_most","_law_ties_here"])(GLweb:aP P w K mg base cL 5 fLweb eLweb ["_law_drawn","_law_most","_law_ties_here"] (cO K 3 oo)){fLpairing:Addr}{eLpairing:FuncData}(hLpairing:bI K mg "_law_pairing" dS fLpairing eLpairing ["_law_drawn","_law_web_here"])(GLpairing:aP P w K mg base cL 3 fLpairing eLpairing ["_law_drawn","_law_web_here"] (cO K 2 eG)){fLnext:Addr}{eLnext:FuncData}(hLnext:bI K mg "_law_next" eu fLnext eLnext ["_law_drawn"])(GLnext:aP P w K mg base cL 1 fLnext eLnext ["_law_drawn"] (cO K 1 aV)){fLmixed:Addr}{eLmixed:FuncData}(hLmixed:bI K mg "_law_mixed" fv fLmixed eLmixed ["_law_cell","_law_k"])(GLmixed:aP P w K mg base cL 1 fLmixed eLmixed ["_law_cell","_law_k"] (cO K 2 ek)){fLbent:Addr}{eLbent:FuncData}(hLbent:bI K mg "_law_bent" hG fLbent eLbent ["_law_web_here","_law_pairing_here","_law_number","_law_odd_here"])(GLbent:aP P w K mg base cL 1 fLbent eLbent ["_law_web_here","_law_pairing_here","_law_number","_law_odd_here"] (cO K 4 ko)){f_is_pairing:Addr}{e_is_pairing:FuncData}(h_is_pairing:bI K mg "is_pairing" bC f_is_pairing e_is_pairing ["web","thing"])(G_is_pairing:aP P w K mg base cL 4 f_is_pairing e_is_pairing ["web","thing"] (cO K 2 ba)){fLsays:Addr}{eLsays:FuncData}(hLsays:bI K mg "_law_says" i9 fLsays eLsays ["_law_found","_law_due"])(GLsays:aP P w K mg base cL 1 fLsays eLsays ["_law_found","_law_due"] (cO K 2 iR)){fLodd:Addr}{eLodd:FuncData}(hLodd:bI K mg "_law_odd" l6 fLodd eLodd ["_law_number"])(GLodd:aP P w K mg base cL 1 fLodd eLodd ["_law_number"] (cO K 1 om)){fLis_pairing:Addr}{eLis_pairing:FuncData}(hLis_pairing:bI K mg "_law_is_pairing" bX fLis_pairing eLis_pairing ["_law_web_here","_law_thing"])(GLis_pairing:aP P w K mg base cL 1 fLis_pairing eLis_pairing ["_law_web_here","_law_thing"] (cO K 2 bB)):aP P w K mg base cL 6 f fd ["_law_script"] (cO K 1 kz):=by
  have nd:=vf.nd
  exact h.fn vf rfl rfl (fun cdv A outer s H E hr=>(@af _ _ _ _ _ _ _ _ (@au _ _ _ _ _ 1 _ _ nd rfl (Or.inl rfl) (@bj _ _ _ _ _ _ _ _ _ _ _ _ _ _ _ hLdraws GLdraws (hr.mono (by decide)) ((¬0)∘ab) (by rfl) (by decide) (by rfl) (by rfl)) (by rfl) (by trivial))
      (@af _ _ _ _ _ _ _ _ (@d9 _ _ _ _ _ _ _ _ _ _ _ PassesOwn.never rfl (@dR _ _ _ _ _ _ _ rfl T.b_range (ac∘ab) (by rfl)) (@bv _ _ _ 2 _ nd rfl (Or.inl rfl) (by trivial))
      (@af _ _ _ _ _ _ _ _ (@au _ _ _ _ _ 3 _ _ nd rfl (Or.inl rfl) (@bj _ _ _ _ _ _ _ _ _ _ _ _ _ _ _ hLweb GLweb (hr.mono (by decide)) ((¬1)∘(ac∘(ac∘ab))) (by rfl) (by decide) (by rfl) (by rfl)) (by rfl) (by trivial))
      (@af _ _ _ _ _ _ _ _ (@au _ _ _ _ _ 4 _ _ nd rfl (Or.inl rfl) (@bj _ _ _ _ _ _ _ _ _ _ _ _ _ _ _ hLpairing GLpairing (hr.mono (by decide)) ((¬1)∘((¬3)∘ab)) (by rfl) (by decide) (by rfl) (by rfl)) (by rfl) (by trivial))
      (@af _ _ _ _ _ _ _ _ (@dk _ _ _ _ _ _ _ _ _ _ _ (@rR _ _ _ _ (@qt _ _ _ _ _ _ _ _ (@bL _ _ _ _ _ _ _ _ _ (@p0 _ _) (@bj _ _ _ _ _ _ _ _ _ _ _ _ _ _ _ h_is_pairing G_is_pairing (hr.mono (by decide)) ((¬3)∘((¬4)∘ab)) (by rfl) (by decide) (by rfl) (by rfl)) (@cG _ _ _ _ _) (bc _)) (@pE _ _ _ _ _ (@bL _ _ _ _ _ _ _ _ _ (@p0 _ _) (@bj _ _ _ _ _ _ _ _ _ _ _ _ _ _ _ h_is_pairing G_is_pairing (hr.mono (by decide)) ((¬3)∘((@ax _ _ _ _ _ _ ab)∘ab)) (by rfl) (by decide) (by rfl) (by rfl)) (@cG _ _ _ _ _) (bc _)))))
      (@ah _ _ _ _ _ (@aG _ _ _ _ _ (@cG _ _ _ _ _)))
      (@br _ _))
      (@af _ _ _ _ _ _ _ _ (@au _ _ _ _ _ 5 _ _ nd rfl (Or.inl rfl) (@aM _ _ _ _ _ _ _ (@bj _ _ _ _ _ _ _ _ _ _ _ _ _ _ _ hLnext GLnext (hr.mono (by decide)) ((¬1)∘ab) (by rfl) (by decide) (by rfl) (by rfl)) (@aO _ _ _ _ _ _ _ rfl (@aS _ _ _ _ _ _ _ _ _ (@b_len _ _ rfl) (by rfl) T.b_len ((¬4)∘ab) (by decide) (by decide) (by rfl) (by rfl)) ac)) (by rfl) (by trivial))
      (@af _ _ _ _ _ _ _ _ (@d9 _ _ _ _ _ _ _ _ _ _ _ PassesOwn.never rfl (@gb _ _ _ _ _ rfl (@aW _ _ _ _ _ ((@aW _ _ _ _ _ ab)∘((@oD _ _ _)∘((@aW _ _ _ _ _ (ac∘ab))∘((@oE _ _ _ _ _ _ _ _ _)∘ab)))))) (@bv _ _ _ 6 _ nd rfl (Or.inl rfl) (by trivial))
      (@ah _ _ _ _ _ (@dk _ _ _ _ _ _ _ _ _ _ _ (@gf _ _ _ _ _ (@fq _ _ _ _ (@bj _ _ _ _ _ _ _ _ _ _ _ _ _ _ _ hLsays GLsays (hr.mono (by decide)) ((@bj _ _ _ _ _ _ _ _ _ _ _ _ _ _ _ h_is_pairing G_is_pairing (hr.mono (by decide)) ((¬3)∘((@aO _ _ _ _ _ _ _ rfl (@aO _ _ _ _ _ _ _ rfl (@bU _ _ _ _ _ _ _ _ _ _ rfl (¬4) (@bV _ _) (@bW _ _ _ _ (¬5))) (@ax _ _ _ _ _ _ ((¬6)∘ab))) (@bU _ _ _ _ _ _ _ _ _ _ rfl (¬4) (@bW _ _ _ _ (¬5)) (@bV _ _)))∘ab)) (by rfl) (by decide) (by rfl) (by rfl))∘((@cG _ _ _ _ _)∘ab)) (by rfl) (by decide) (by rfl) (by rfl)) (by intro _;rfl)))
      (@ah _ _ _ _ _ (@aG _ _ _ _ _ (@cG _ _ _ _ _)))
      (@br _ _))) (by intro _;rfl))
      (@ah _ _ _ _ _ (@d9 _ _ _ _ _ _ _ _ _ _ _ PassesOwn.never rfl (@dR _ _ _ _ _ _ _ rfl T.b_range (ac∘ab) (by rfl)) (@bv _ _ _ 7 _ nd rfl (Or.inl rfl) (by trivial))
      (@af _ _ _ _ _ _ _ _ (@au _ _ _ _ _ 8 _ _ nd rfl (Or.inl rfl) (@bj _ _ _ _ _ _ _ _ _ _ _ _ _ _ _ hLmixed GLmixed (hr.mono (by decide)) ((@bj _ _ _ _ _ _ _ _ _ _ _ _ _ _ _ hLnext GLnext (hr.mono (by decide)) ((¬1)∘ab) (by rfl) (by decide) (by rfl) (by rfl))∘((@aO _ _ _ _ _ _ _ rfl (¬7) ac)∘ab)) (by rfl) (by decide) (by rfl) (by rfl)) (by rfl) (by trivial))
      (@af _ _ _ _ _ _ _ _ (@au _ _ _ _ _ 9 _ _ nd rfl (Or.inl rfl) (@bj _ _ _ _ _ _ _ _ _ _ _ _ _ _ _ hLbent GLbent (hr.mono (by decide)) ((¬3)∘((¬4)∘((¬8)∘((@bj _ _ _ _ _ _ _ _ _ _ _ _ _ _ _ hLodd GLodd (hr.mono (by decide)) ((@et _ _ _ _ _ _ _ (¬8) ac)∘ab) (by rfl) (by decide) (by rfl) (by rfl))∘ab)))) (by rfl) (by decide) (by rfl) (by rfl)) (by rfl) (by trivial))
      (@af _ _ _ _ _ _ _ _ (@au _ _ _ _ _ 10 _ _ nd rfl (Or.inl rfl) (@aS _ _ _ _ _ _ _ _ _ (@b_repr _ _ _ rfl hr) (by rfl) T.b_repr ((@ax _ _ _ _ _ _ ((¬3)∘((¬9)∘ab)))∘ab) (by decide) (by decide) (by rfl) (by rfl)) (by rfl) (by trivial))
      (@ah _ _ _ _ _ (@dk _ _ _ _ _ _ _ _ _ _ _ (@rR _ _ _ _ (@qt _ _ _ _ _ _ _ _ (@gf _ _ _ _ _ (@fq _ _ _ _ (@bj _ _ _ _ _ _ _ _ _ _ _ _ _ _ _ hLsays GLsays (hr.mono (by decide)) ((@bj _ _ _ _ _ _ _ _ _ _ _ _ _ _ _ h_is_pairing G_is_pairing (hr.mono (by decide)) ((¬3)∘((¬9)∘ab)) (by rfl) (by decide) (by rfl) (by rfl))∘((@bj _ _ _ _ _ _ _ _ _ _ _ _ _ _ _ hLis_pairing GLis_pairing (hr.mono (by decide)) ((¬3)∘((¬9)∘ab)) (by rfl) (by decide) (by rfl) (by rfl))∘ab)) (by rfl) (by decide) (by rfl) (by rfl)) (by intro _;rfl))) (@pE _ _ _ _ _ (@bL _ _ _ _ _ _ _ _ _ (@yK _ _ _ rfl hr) (@aS _ _ _ _ _ _ _ _ _ (@b_repr _ _ _ rfl hr) (by rfl) T.b_repr ((@ax _ _ _ _ _ _ ((¬3)∘((¬9)∘ab)))∘ab) (by decide) (by decide) (by rfl) (by rfl)) (¬10) (bc _)))))
      (@ah _ _ _ _ _ (@aG _ _ _ _ _ (@cG _ _ _ _ _)))
      (@br _ _)))))) (by intro _;rfl)))))))) (by intro _;rfl))
      (@ah _ _ _ _ _ (@aG _ _ _ _ _ (@cG _ _ _ _ _))))))
local macro_rules | `(tactic| simp? [$ts,*]) => `(tactic| simp [$ts,*, jp, ov, aE, jr, bG, ez, aZ, gh, u9, u_, xn, aU, aw, kU, ae, vC, cg, ag, aa, bh, aH, dM, nh, xR, je, DY, jy, Cz, oS, nq, dz, dh, dq, bT, Bv, gY, ie, qW, dr, ck, vS, r8, n6, fV, ao, kh, cv, aC, a_, zh, ee, bF, kc, ii, qd, qb, p_, p9, nW, nV, nX, lM, nQ, yl, tj, ti, ym, tF, qc, tu, tD, nZ, nY, lO, n5, yn, su, oW, sv, sx, x9, lF, lE, ij, qa, List.replicate, -List.map_nil, -List.map_cons, -List.nil_append, -List.cons_append, -Option.bind_some, -Option.map_some, -getElem?_pos, -List.append_nil, yi, yh, yd, yc, yf, yg, ye, yj])
theorem qX{n k:Int}(h:0 < k):0≤n % k:=Int.emod_nonneg _ (Int.ne_of_gt h)
theorem qY{n k:Int}(h:0 < k):n % k < k:=Int.emod_lt_of_pos _ h
def nx:List Int→Int
  | []=>0
  | d::_=>d
def fH(ds:List Int):Prop:=∀d∈ds,0≤d∧d < 2147483648
theorem yt{ds:List Int}(h:fH ds):0≤nx ds∧nx ds < 2147483648:=by
  cases ds with
  | nil=>exact⟨Int.le_refl 0,by show(0:Int) < 2147483648;decide⟩
  | cons d r=>exact h d (by simp)
theorem Cw{ds:List Int}(h:fH ds):fH ds.tail:=fun d hd=>h d (List.mem_of_mem_tail hd)
theorem Aq(ds:List Int):aV [.l (ds.map .int)]=some (.d (.int (nx ds)),[.l (ds.tail.map .int)]):=by
  have hq:∀e:En,e[0]?=some (some (.l (ds.map .int)))→cB false e (.s 0) (.l [])=some (.d (.bool (ds.map PyData.int).isEmpty)):=fun e he=>nS he (jt ds).1
  cases ds with
  | nil=>simp? [aV,oY,hq,nx]
  | cons d r=>simp? [aV,oY,hq,nx]
theorem gv{ds:List Int}(hd:fH ds):∃(n:Int) (ds':List Int),aV [.l (ds.map .int)]=some (.d (.int n),[.l (ds'.map .int)])∧0≤n∧n < 2147483648∧fH ds':=⟨nx ds,ds.tail,Aq ds,(yt hd).1,(yt hd).2,Cw hd⟩
theorem m_(cell k:Int)(h0:0≤k)(h1:k≤1000):∃r,ek [.d (.int cell),.d (.int k)]=some (.d (.int r),[.d (.int cell),.d (.int k)])∧0≤r∧r < 2147483648:=by
  have a1:iT (cell % 2147483647) 48271=true:=mV (by decide) (by decide)
  have a2:iT 7919 k=true:=uf (by decide) (by decide)
  have a3:iT (7919*k) k=true:=mV (by lia) (by lia)
  have a4:iT ((cell % 2147483647*48271+7919*k*k+104729) % 2147483647) ((cell % 2147483647*48271+7919*k*k+104729) % 2147483647)=true:=mV (by lia) (by lia)
  refine⟨_,by simp? [ek,pX,az,kf,a1,a2,a3,a4];rfl,?_,?_⟩
  · lia
  · lia
theorem mG{ds:List Int}(h:fH ds){r:Int}(h0:0≤r)(h1:r < 2147483648):fH (ds++[r]):=fun d hd=>by
  rcases List.mem_append.mp hd with hd | hd
  · exact h d hd
  · simp at hd;subst hd;exact⟨h0,h1⟩
abbrev dE(ns ds:List Int)(v2 v3 v4:Option Sv):En:=[some (.d (.list (ns.map .int))),some (.l (ds.map .int)),v2,v3,v4]
inductive DI (ns:List Int) (i:Nat):En→Prop
  | mk {ds v2 v3 v4} (hd:fH ds) (hl:ds.length≤1000*i):DI ns i (dE ns ds v2 v3 v4)
inductive DJ (ns:List Int) (k cell:Int) (n i:Nat):En→Prop
  | mk {ds v4} (hd:fH ds) (hl:ds.length=n+i):DJ ns k cell n i (dE ns ds (some (.d (.int k))) (some (.d (.int cell))) v4)
inductive DW (ns:List Int) (k:Int) (v4:Option Sv) (n:Nat):En→Prop
  | mk {cell ds} (hc:0≤cell) (hd:fH ds) (hl:ds.length≤max n 900):DW ns k v4 n (dE ns ds (some (.d (.int k))) (some (.d (.int cell))) v4)
theorem xJ(ns:List Int)(hn:ns.length≤63):∃ds,ir [.d (.list (ns.map .int))]=some (.l (ds.map .int),[.d (.list (ns.map .int))])∧fH ds:=by
  have inner:∀(cell k:Int) (ds:List Int) (v4:Option Sv),0≤k→k≤63→fH ds→ds.length≤63000→∃ds' v4',(∀W,cI W gA (ao 4) eA (dE ns ds (some (.d (.int k))) (some (.d (.int cell))) v4)=some (.nx (dE ns ds' (some (.d (.int k))) (some (.d (.int cell))) v4')))∧fH ds'∧ds'.length=ds.length+12:=by
    intro cell k ds v4 k0 k1 hd hl
    obtain⟨e',h1,h2⟩:=b6 (own:=[]) (g:=ao 4) (f:=eA) (DJ ns k cell ds.length) (bx 0 12) 0 (dE ns ds (some (.d (.int k))) (some (.d (.int cell))) v4) (fun i x e hx hI=>by
      obtain⟨rfl,hi⟩:=cU hx
      obtain⟨hd',hl'⟩:=hI
      rename_i ds' v4'
      obtain⟨r1,c1,_,_⟩:=m_ cell (3*(0+(i:Int))+1) (by lia) (by lia)
      obtain⟨r2,c2,c3,c4⟩:=m_ r1 (0+(i:Int)+k+2) (by lia) (by lia)
      have a1:iT 3 (0+(i:Int))=true:=uf (by decide) (by decide)
      refine⟨_,dE ns (ds'++[r2]) (some (.d (.int k))) (some (.d (.int cell))) (some (.d (.int (0+(i:Int))))),rfl,?_,bg,.mk (mG hd' c3 c4) (by simp;lia)⟩
      have hlen:ds'.length < 1000000:=by lia
      simp only [Int.zero_add] at a1 c1 c2
      simp? [dE,eA,c1,c2,kf,a1,hlen]) (.mk hd rfl)
    obtain⟨hd',hl'⟩:=h2
    rename_i ds' v4'
    rw [hE] at hl'
    refine⟨ds',v4',fun W=>?_,hd',by lia⟩
    rw [cZ (show gA _=some (bx 0 12,[],_) from eW (n:=12) rfl (by decide) (by decide))]
    exact h1
  have wh:∀(cell k:Int) (ds:List Int) (v4:Option Sv),0≤cell→fH ds→ds.length≤63100→∃cell' ds',hJ (2 ^ 4200) dO gy (dE ns ds (some (.d (.int k))) (some (.d (.int cell))) v4)=some (.nx (dE ns ds' (some (.d (.int k))) (some (.d (.int cell'))) v4))∧0≤cell'∧fH ds'∧ds'.length≤max ds.length 900:=by
    intro cell k ds v4 hc hd hl
    have tst:∀(cell:Int) (ds:List Int),dO (dE ns ds (some (.d (.int k))) (some (.d (.int cell))) v4)=some (decide (1000000000000000000≤cell)&&decide ((ds.length:Int) < 900),dE ns ds (some (.d (.int k))) (some (.d (.int cell))) v4):=by
      intro cell ds
      by_cases h:(1000000000000000000:Int)≤cell
      · simp? [dE,dO,fU,iy,h]
      · simp? [dE,dO,fU,iy,h]
    obtain⟨e0,e',h1,hI,h3⟩:=hV (ft:=dO) (f:=gy) (DW ns k v4 ds.length)
      (fun e=>1000000 - yp 1 e) (fun e hI=>by
        obtain⟨hc',hd',hl'⟩:=hI
        rename_i cell' ds'
        rw [tst]
        by_cases c1:(1000000000000000000:Int)≤cell'
        · by_cases c2:(ds'.length:Int) < 900
          · refine .inr ⟨_,dE ns (ds'++[cell' % 2147483629]) (some (.d (.int k))) (some (.d (.int (cell' / 2147483629)))) v4,by rw [decide_eq_true c1,decide_eq_true c2];rfl,?_,.mk (by lia) (mG hd' (by lia) (by lia)) (by simp;lia),?_⟩
            · have hlen:ds'.length < 1000000:=by lia
              have b8:Bt 8000 2147483629:=fN (by decide) (by decide)
              simp? [dE,gy,az,cj,b8,hlen]
            · simp [yp,dE];lia
          · exact .inl ⟨_,by rw [decide_eq_true c1,decide_eq_false c2];rfl,trivial⟩
        · exact .inl ⟨_,by rw [decide_eq_false c1];rfl,trivial⟩) (2 ^ 4200) _ (.mk hc hd (by lia)) (qk (m:=20) (Nat.lt_of_le_of_lt (Nat.sub_le _ _) (by decide)) (by decide))
    obtain⟨hc',hd',hl'⟩:=hI
    rename_i cell' ds'
    rw [tst] at h3
    have h4:=(Prod.mk.inj (Option.some.inj h3)).2
    subst h4
    exact⟨cell',ds',h1,hc',hd',hl'⟩
  have turn:∀(i:Nat) (ds:List Int) (v3 v4:Option Sv) (hi:i < ns.length),fH ds→ds.length≤1000*i→∃ds2 v3' v4',dN (dE ns ds (some (.d (.int (i:Int)))) v3 v4)=some (.nx (dE ns ds2 (some (.d (.int (i:Int)))) v3' v4'))∧fH ds2∧ds2.length≤1000*(i+1):=by
    intro i ds v3 v4 hi hd hl
    have hcell:atI (ns.map PyData.int) (i:Int)=some (.int ns[i]):=by
      rw [gQ (by lia) (by rw [List.length_map];lia)]
      simp [hi]
    have c0:(0:Int)≤(ns[i].natAbs:Int):=by lia
    have st:aZ 3 (aH (g1 rc) (aa (aw fJ (ae 0) (ae 2)) ag)) (dE ns ds (some (.d (.int (i:Int)))) v3 v4)=some (.nx (dE ns ds (some (.d (.int (i:Int)))) (some (.d (.int (ns[i].natAbs:Int)))) v4)):=by
      simp? [dE,hcell]
    generalize (ns[i].natAbs:Int)=cell at c0 st
    have mid:∃ds1 v4',jr (aU (aw tG (ae 3) (aw mM (vC (.int 10)) (vC (.int 18))))) (cI ([4]++[]) gA (ao 4) eA) ez (dE ns ds (some (.d (.int (i:Int)))) (some (.d (.int cell))) v4)=some (.nx (dE ns ds1 (some (.d (.int (i:Int)))) (some (.d (.int cell))) v4'))∧fH ds1∧ds1.length≤ds.length+12:=by
      by_cases cb:cell < 1000000000000000000
      · obtain⟨ds1,v4',f1,f2,f3⟩:=inner cell (i:Int) ds v4 (by lia) (by lia) hd (by lia)
        refine⟨ds1,v4',?_,f2,by lia⟩
        rw [B' (e1:=dE ns ds (some (.d (.int (i:Int)))) (some (.d (.int cell))) v4) (by simp? [dE,fU,iy,cb])]
        exact f1 _
      · refine⟨ds,v4,?_,hd,by lia⟩
        rw [B_ (e1:=dE ns ds (some (.d (.int (i:Int)))) (some (.d (.int cell))) v4) (by simp? [dE,fU,iy,cb])]
        rfl
    obtain⟨ds1,v4',m1,m2,m3⟩:=mid
    obtain⟨cell2,ds2,w1,w2,w3,w4⟩:=wh cell (i:Int) ds1 v4' c0 m2 (by lia)
    by_cases c2:(2147483629:Int)≤cell2
    · refine⟨ds2++[cell2 % 2147483629],some (.d (.int cell2)),v4',?_,mG w3 (by lia) (by lia),by simp;lia⟩
      have hlen:ds2.length < 1000000:=by lia
      unfold dN
      rw [bu st,bu m1,bu w1]
      simp? [dE,c2,az,hlen]
    · refine⟨ds2,some (.d (.int cell2)),v4',?_,w3,by lia⟩
      unfold dN
      rw [bu st,bu m1,bu w1]
      simp? [dE,c2]
  obtain⟨e',h1,hI⟩:=b6 (own:=[]) (g:=ao 2) (f:=dN) (DI ns) (bx 0 (min (ns.length:Int) 63).toNat) 0 (dE ns [] none none none) (fun i x e hx hI=>by
    obtain⟨rfl,hi⟩:=cU hx
    obtain⟨hd,hl⟩:=hI
    rename_i ds v2 v3 v4
    rw [Nat.zero_add] at hl ⊢
    obtain⟨ds2,v3',v4',t1,t2,t3⟩:=turn i ds v3 v4 (by lia) hd hl
    exact⟨dE ns ds (some (.d (.int (i:Int)))) v3 v4,_,by simp [ao,dE],t1,bg,.mk t2 t3⟩) (.mk (fun d hd=>by cases hd) (by simp))
  obtain⟨hd,hl⟩:=hI
  rename_i ds v2 v3 v4
  refine⟨ds,?_,hd⟩
  have hf:∀W,cI W iO (ao 2) dN (dE ns [] none none none)=some (.nx (dE ns ds v2 v3 v4)):=fun W=>by
    rw [cZ (show iO _=some (bx 0 (min (ns.length:Int) 63).toNat,[],dE ns [] none none none) from eW (n:=min (ns.length:Int) 63) (by simp? [dE]) (by lia) (by lia))]
    exact h1
  unfold dE at hf
  simp only [List.map_nil] at hf
  simp? [ir,pW,hf]
theorem Cs(a b:Int)(hb:Bt 4000 b):oj [.d (.int a),.d (.int b)]=some (.d (.int (Int.gcd a b)),[.d (.int a),.d (.int b)]):=by
  have tst:∀x y:Int,ib [some (.d (.int x)),some (.d (.int y))]=some (!(y==0),[some (.d (.int x)),some (.d (.int y))]):=fun x y=>by simp? [ib]
  obtain⟨e0,e',h1,⟨x,y,he,hg,hy⟩,h3⟩:=hV (ft:=ib) (f:=jG) (fun e=>∃x y,e=[some (.d (.int x)),some (.d (.int y))]∧Int.gcd x y=Int.gcd a b∧Bt 4000 y) (ug 1) (fun e ⟨x,y,he,hg,hy⟩=>by
    subst he
    rw [tst]
    by_cases c:y=0
    · subst c;exact .inl ⟨_,rfl,trivial⟩
    · refine .inr ⟨_,[some (.d (.int y)),some (.d (.int (x.fmod y)))],by rw [beq_false_of_ne c];rfl,by simp? [jG,yR c],⟨y,x.fmod y,rfl,by rw [tQ,hg],?_⟩,?_⟩
      · have:=jm x c
        exact Bt.of_le hy (by lia)
      · have:=jm x c
        simpa [ug] using this) (2 ^ 4200) _ ⟨a,b,rfl,rfl,hb⟩ (qk (m:=4000) (by simpa [ug,Bt] using hb) (by decide))
  subst he
  rw [tst] at h3
  have h4:=Prod.mk.inj (Option.some.inj h3)
  have hy0:y=0:=by simpa using h4.1
  subst hy0
  have h5:=h4.2
  subst h5
  have hs:hJ (2 ^ 4200) ib jG [some (.d (.int a)),some (.d (.int b))]=some (.nx [some (.d (.int x)),some (.d (.int 0))]):=h1
  have hg':(x.natAbs:Int)=(Int.gcd a b:Int):=by rw [←hg];simp
  simp only [oj,xY,jp,ov,aE,jr,bG,ez,aZ,gh,u9,u_,xn,aU,aw,kU,ae,vC,cg,ag,aa,bh,aH,dM,nh,xR,je,DY,jy,Cz,oS,nq,dz,dh,dq,bT,Bv,gY,ie,qW,dr,ck,vS,r8,n6,fV,ao,kh,cv,aC,a_,zh,ee,bF,kc,ii,qd,qb,p_,p9,nW,nV,nX,lM,nQ,yl,tj,ti,ym,tF,qc,tu,tD,nZ,nY,lO,n5,yn,su,oW,sv,sx,x9,lF,lE,ij,qa,List.replicate, -List.map_nil, -List.map_cons, -List.nil_append, -List.cons_append, -Option.bind_some, -Option.map_some, -getElem?_pos, -List.append_nil,yi,yh,yd,yc,yf,yg,ye,yj]
  simp? [hs,hg']
theorem yB(t b:Int)(hb:0 < b)(h:Bt 4000 b):lS [.d (.int t),.d (.int b)]=some (.d (.tuple [.int (du t b).1,.int (du t b).2]),[.d (.int t),.d (.int b)]):=by
  have g0:=qg (t:=t) (b:=b) (by lia)
  have g1:(Int.gcd t b:Int)≠0:=by lia
  have g8:Bt 8000 (Int.gcd t b:Int):=(yS (t:=t) (by lia) h).mono (by decide)
  have e:du t b=(t.fdiv (Int.gcd t b:Int),b.fdiv (Int.gcd t b:Int)):=by unfold du;rw [if_neg (by lia)]
  rw [e]
  simp? [lS,xZ,Cs t b h,vX g1 g8]
theorem x8{i:Int}{n:Nat}(h1: -2147483648 < i)(h2:i < 2147483648)(hn:31≤n):Bt n i:=Bt.mono (m:=31) (by unfold Bt;lia) hn
def sM(t b:Int):Prop:=0≤t∧t≤b∧1≤b∧b≤100∧Int.gcd t b=1
theorem vt(n k:Int)(hn:0≤n):∃t b,dc [.d (.int n),.d (.int k)]=some (.d (.tuple [.int t,.int b]),[.d (.int n),.d (.int k)])∧sM t b:=by
  have b9:Bt 8000 9:=fN (by decide) (by decide)
  have b100:Bt 8000 100:=fN (by decide) (by decide)
  have low:∀t b:Int,0 < b→0≤t→t≤b→b≤100→sM (du t b).1 (du t b).2:=fun t b hb h0 h1 h2=>by
    obtain⟨r1,r2,r3,r4⟩:=pq hb h0 h1 h2
    exact⟨r1,r2,r3,r4,ud (by lia)⟩
  by_cases c0:k=0
  · subst c0
    obtain⟨x,hx,ha⟩:=gP (xs:=[PyData.tuple [.int 1,.int 2],.tuple [.int 1,.int 3],.tuple [.int 2,.int 3],.tuple [.int 1,.int 1],.tuple [.int 0,.int 1],.tuple [.int 3,.int 4]]) (i:=n % 6) (by lia) (by simp;lia)
    obtain⟨t,b,rfl,hc⟩:∃t b,x=.tuple [.int t,.int b]∧sM t b:=by
      simp only [List.mem_cons,List.not_mem_nil,or_false] at hx
      rcases hx with rfl | rfl | rfl | rfl | rfl | rfl<;>exact⟨_,_,rfl,by unfold sM;decide⟩
    exact⟨t,b,by simp? [dc,fL,az,ha],hc⟩
  · by_cases c1:k=1
    · subst c1
      have hm:(n / 9) % (2+n % 9 - 1) < 2+n % 9 - 1:=Int.emod_lt_of_pos _ (by lia)
      have hm0:0≤(n / 9) % (2+n % 9 - 1):=Int.emod_nonneg _ (by lia)
      refine⟨_,_,?_,low (1+(n / 9) % (2+n % 9 - 1)) (2+n % 9) (by lia) (by lia) (by lia) (by lia)⟩
      have hpos:∀e:En,aN e (.d (.int (n / 9))) (.d (.int (2+n % 9 - 1)))=_:=fun e=>az (by lia)
      have hl:=yB (1+(n / 9) % (2+n % 9 - 1)) (2+n % 9) (by lia) (x8 (by lia) (by lia) (by decide))
      simp? [dc,fL,az,cj,b9,hpos,hl]
    · by_cases c2:k=2
      · subst c2
        have hm:(n / 100) % (1+n % 100+1) < 1+n % 100+1:=Int.emod_lt_of_pos _ (by lia)
        have hm0:0≤(n / 100) % (1+n % 100+1):=Int.emod_nonneg _ (by lia)
        refine⟨_,_,?_,low ((n / 100) % (1+n % 100+1)) (1+n % 100) (by lia) (by lia) (by lia) (by lia)⟩
        have hpos:∀e:En,aN e (.d (.int (n / 100))) (.d (.int (1+n % 100+1)))=_:=fun e=>az (by lia)
        have hl:=yB ((n / 100) % (1+n % 100+1)) (1+n % 100) (by lia) (x8 (by lia) (by lia) (by decide))
        simp? [dc,fL,az,cj,b100,hpos,hl]
      · refine⟨1,1,?_,by unfold sM;decide⟩
        simp? [dc,fL,c0,c1,c2]
theorem xK(n k:Int):∃r,iu [.d (.int n),.d (.int k)]=some (.d (.int r),[.d (.int n),.d (.int k)])∧0≤r∧r≤1000:=by
  obtain⟨x,hx,ha⟩:=gP (xs:=[PyData.int (n % 7),.int (5+n % 2),.int (n % 1001),.int (1000 - n % 3)]) (i:=k % 4) (by lia) (by simp;lia)
  obtain⟨r,rfl,hr⟩:∃r,x=.int r∧0≤r∧r≤1000:=by
    simp only [List.mem_cons,List.not_mem_nil,or_false] at hx
    rcases hx with rfl | rfl | rfl | rfl<;>exact⟨_,rfl,by lia,by lia⟩
  exact⟨r,by simp? [iu,pY,az,ha],hr⟩
abbrev tE(ds:List Int)(things many shape odds ws:Int)(ts:List jT)(v7 v8 v9 v10 v11 v12:Option Sv):En:=[some (.l (ds.map .int)),some (.d (.int things)),some (.d (.int many)),some (.d (.int shape)),some (.d (.int odds)),some (.d (.int ws)),some (.l (ts.map cx)),v7,v8,v9,v10,v11,v12]
inductive TR (things many shape odds ws:Int) (ts:List jT) (k:Option Sv):En→Prop
  | mk {t ds w8 w9 w10 w11 w12} (hd:fH ds) (ht:t.Ok things):TR things many shape odds ws ts k (tE ds things many shape odds ws (ts++[t]) k w8 w9 w10 w11 w12)
inductive TI (things many a b c:Int) (i:Nat):En→Prop
  | mk {ts ds w7 w8 w9 w10 w11 w12} (hd:fH ds) (hl:ts.length=i) (ht:∀t∈ts,t.Ok things):TI things many a b c i (tE ds things many a b c ts w7 w8 w9 w10 w11 w12)
theorem Cu(ds:List Int)(things many shape odds ws:Int)(ts:List jT)(k:Int)(v8 v9 v10 v11 v12:Option Sv)(hd:fH ds)(h2:2≤things)(h12:things≤100)(s0:0≤shape)(s1:shape < 6)(k0:0≤k)(hl:ts.length≤1000):
    ∃e',eC (tE ds things many shape odds ws ts (some (.d (.int k))) v8 v9 v10 v11 v12)=some (.nx e')∧TR things many shape odds ws ts (some (.d (.int k))) e':=by
  obtain⟨n,d1,tn, -, -,hd1⟩:=gv hd
  obtain⟨m,d2,tm,m0, -,hd2⟩:=gv hd1
  obtain⟨x,hx,ha⟩:=gP (xs:=[PyData.int (n % things),.int 0,.int (k % things),.int (n % things),.int (n % 2),.int (n % things)]) (i:=shape) s0 (by simp;lia)
  have tp:0 < things:=Int.lt_of_lt_of_le (by decide) h2
  have tq:0 < things - 1:=Int.sub_pos_of_lt (Int.lt_of_lt_of_le (by decide) h2)
  have nt:0≤n % things∧n % things < things:=⟨qX tp,qY tp⟩
  have kt:0≤k % things∧k % things < things:=⟨qX tp,qY tp⟩
  obtain⟨one,rfl,o0,o1⟩:∃r,x=.int r∧0≤r∧r < things:=by
    simp only [List.mem_cons,List.not_mem_nil,or_false] at hx
    rcases hx with rfl | rfl | rfl | rfl | rfl | rfl<;>exact⟨_,rfl,by lia,by lia⟩
  have r0:0≤(n / 12) % (things - 1):=qX tq
  have r1:(n / 12) % (things - 1) < things - 1:=qY tq
  have q0:0≤(one+1+(n / 12) % (things - 1)) % things:=qX tp
  have q1:(one+1+(n / 12) % (things - 1)) % things < things:=qY tp
  have qn:(one+1+(n / 12) % (things - 1)) % things≠one:=fun z=>by
    by_cases c:one+1+(n / 12) % (things - 1) < things
    · rw [Int.emod_eq_of_lt (by lia) c] at z;lia
    · have e:(one+1+(n / 12) % (things - 1)) % things=(one+1+(n / 12) % (things - 1) - things) % things:=by rw [Int.sub_emod_right]
      rw [e,Int.emod_eq_of_lt (by lia) (by lia)] at z;lia
  obtain⟨t,b,c1,c2,c3,c4,c5,c6⟩:=vt m odds m0
  obtain⟨w,w1,w2,w3⟩:=xK (m / 10007) ws
  have b12:Bt 8000 12:=fN (by decide) (by decide)
  have b107:Bt 8000 10007:=fN (by decide) (by decide)
  have g1:∀(e:En) (i:Int),aN e (.d (.int i)) (.d (.int things))=some (.d (.int (i % things))):=fun e i=>az tp
  have g2:∀(e:En) (i:Int),aN e (.d (.int i)) (.d (.int (things - 1)))=some (.d (.int (i % (things - 1)))):=fun e i=>az tq
  have hlen:ts.length < 1000000:=by lia
  by_cases c:shape=4
  · subst c
    refine⟨tE d2 things many 4 odds ws (ts++[⟨0,1,t,b,w⟩]) (some (.d (.int k))) (some (.d (.int n))) (some (.d (.int 0))) (some (.d (.int 1))) (some (.d (.int m))) (some (.d (.tuple [.int 0,.int 1]))),?_,.mk hd2 ⟨by show(0:Int)≤0;decide,by show(0:Int) < 1;decide,by show(1:Int) < things;lia,c2,c3,c4,c5,w2,w3,c6⟩⟩
    simp? [tE,eC,tn,tm,az,g1,g2,cj,b12,b107,ha,c1,w1,j9,cx,hlen]
    decide
  · refine⟨tE d2 things many shape odds ws (ts++[⟨min one ((one+1+(n / 12) % (things - 1)) % things),max one ((one+1+(n / 12) % (things - 1)) % things),t,b,w⟩]) (some (.d (.int k))) (some (.d (.int n))) (some (.d (.int one))) (some (.d (.int ((one+1+(n / 12) % (things - 1)) % things)))) (some (.d (.int m))) (some (.d (.tuple [.int (min one ((one+1+(n / 12) % (things - 1)) % things)),.int (max one ((one+1+(n / 12) % (things - 1)) % things))]))),?_,.mk hd2 ⟨by show 0≤min _ _;lia,by show min _ _ < max _ _;lia,by show max _ _ < _;lia,c2,c3,c4,c5,w2,w3,c6⟩⟩
    simp? [tE,eC,tn,tm,az,g1,g2,cj,b12,b107,ha,c1,w1,j9,cx,hlen,c]
theorem As(ds:List Int)(things many:Int)(hd:fH ds)(h2:2≤things)(h12:things≤100)(m0:0≤many)(m1:many≤1000):∃(ts:List jT) (ds':List Int),ky [.l (ds.map .int),.d (.int things),.d (.int many)]=some (.d (.tuple (ts.map cx)),[.l (ds'.map .int),.d (.int things),.d (.int many)])∧fH ds'∧(ts.length:Int)=many∧∀t∈ts,t.Ok things:=by
  obtain⟨n0,d1,t0, -, -,hd1⟩:=gv hd
  obtain⟨n1,d2,t1, -, -,hd2⟩:=gv hd1
  obtain⟨n2,d3,t2, -, -,hd3⟩:=gv hd2
  obtain⟨e',h1,hI⟩:=b6 (own:=[]) (g:=ao 7) (f:=eC) (TI things many (n0 % 6) (n1 % 4) (n2 % 4)) (bx 0 many.toNat) 0 (tE d3 things many (n0 % 6) (n1 % 4) (n2 % 4) [] none none none none none none) (fun i x e hx hI=>by
    obtain⟨rfl,hi⟩:=cU hx
    obtain⟨hd',hl,ht⟩:=hI
    rename_i ts ds' w7 w8 w9 w10 w11 w12
    obtain⟨e9,s1,⟨s2,s3⟩⟩:=Cu ds' things many (n0 % 6) (n1 % 4) (n2 % 4) ts (0+(i:Int)) w8 w9 w10 w11 w12 hd' h2 h12 (qX (by decide)) (qY (by decide)) (by lia) (by lia)
    exact⟨_,_,rfl,s1,bg,.mk s2 (by simp;lia) fun z hz=>by
      rcases List.mem_append.mp hz with hz | hz
      · exact ht z hz
      · simp at hz;subst hz;exact s3⟩) (.mk hd3 rfl fun t ht=>by cases ht)
  obtain⟨hd',hl,ht⟩:=hI
  rename_i ts ds' w7 w8 w9 w10 w11 w12
  refine⟨ts,ds',?_,hd',by rw [hl,hE];lia,ht⟩
  have hf:∀W,cI W ki (ao 7) eC (tE d3 things many (n0 % 6) (n1 % 4) (n2 % 4) [] none none none none none none)=some (.nx (tE ds' things many (n0 % 6) (n1 % 4) (n2 % 4) ts w7 w8 w9 w10 w11 w12)):=fun W=>by
    rw [cZ (show ki _=some (bx 0 many.toNat,[],tE d3 things many (n0 % 6) (n1 % 4) (n2 % 4) [] none none none none none none) from eW (n:=many) (by simp? [tE]) (by lia) (by lia))]
    exact h1
  unfold tE at hf
  simp only [List.map_nil] at hf
  simp? [ky,sE,t0,t1,t2,az,hf]
abbrev wE(ds:List Int)(most tn things many:Int)(ts:List jT)(way:Int)(ps:List Int)(v8 v9:Option Sv):En:=[some (.l (ds.map .int)),some (.d (.int most)),some (.d (.int tn)),some (.d (.int things)),some (.d (.int many)),some (.d (.tuple (ts.map cx))),some (.d (.int way)),some (.l (ps.map .int)),v8,v9]
inductive WI (most tn things many:Int) (ts:List jT) (way:Int) (i:Nat):En→Prop
  | mk {ps ds w8} (hd:fH ds) (hpl:ps.length=i) (hps:∀p∈ps,0≤p∧p≤20):WI most tn things many ts way i (wE ds most tn things many ts way ps w8 none)
theorem Cv(ds:List Int)(most tn:Int)(hd:fH ds)(m0:0≤most)(m1:most≤12)(k0:0≤tn)(k1:tn≤16):∃(W:bE) (ds':List Int),oo [.l (ds.map .int),.d (.int most),.d (.int tn)]=some (.d (ay W),[.l (ds'.map .int),.d (.int most),.d (.int tn)])∧fH ds'∧W.Ok∧W.things≤most∧(W.ties.length:Int)≤tn:=by
  obtain⟨n0,d1,t0, -, -,hd1⟩:=gv hd
  obtain⟨n1,d2,t1, -, -,hd2⟩:=gv hd1
  have mp:0 < most+1:=Int.lt_add_one_of_le m0
  have kp:0 < tn+1:=Int.lt_add_one_of_le k0
  have g0:∀(e:En),aN e (.d (.int n0)) (.d (.int (most+1)))=some (.d (.int (n0 % (most+1)))):=fun e=>az mp
  have g1':∀(e:En),aN e (.d (.int n1)) (.d (.int (tn+1)))=some (.d (.int (n1 % (tn+1)))):=fun e=>az kp
  have th0:0≤n0 % (most+1):=qX mp
  have th1:n0 % (most+1) < most+1:=qY mp
  have ti0:0≤n1 % (tn+1):=qX kp
  have ti1:n1 % (tn+1) < tn+1:=qY kp
  clear mp kp
  generalize n0 % (most+1)=things at th0 th1 g0
  generalize n1 % (tn+1)=tm at ti0 ti1 g1'
  obtain⟨many,hmany,mm,m00,m01⟩:∃many:Int,many=tm*(if decide (1 < things)=true then 1 else 0)∧(1 < things∨many=0)∧0≤many∧many≤tn:=by
    by_cases c:1 < things
    · exact⟨tm,by simp [c],.inl c,ti0,by lia⟩
    · exact⟨0,by simp [c],.inr rfl,by lia,by lia⟩
  have gm:∀e:En,ke e (.d (.int tm)) (.d (.int (if decide (1 < things)=true then 1 else 0)))=some (.d (.int many)):=fun e=>by
    rw [kf (mV (by split<;>decide) (by split<;>decide)),hmany]
  have gi:∀e:En,g1 nU e [.d (.bool (decide (1 < things)))]=some (.d (.int (if decide (1 < things)=true then 1 else 0))):=fun e=>rfl
  generalize (if decide (1 < things)=true then 1 else 0:Int)=one at gm gi
  obtain⟨ts,d3,t3,hd3,hlen,hts⟩:=As d2 (max 2 things) many hd2 (by lia) (by lia) m00 (by lia)
  obtain⟨n4,d4,t4, -, -,hd4⟩:=gv hd3
  obtain⟨e',h1,hI⟩:=b6 (own:=[]) (g:=ao 8) (f:=jH) (WI most tn things many ts (n4 % 3)) (bx 0 things.toNat) 0 (wE d4 most tn things many ts (n4 % 3) [] none none) (fun i x e hx hI=>by
    obtain⟨rfl,hi⟩:=cU hx
    obtain⟨hd5,hpl,hps⟩:=hI
    rename_i ps d5 w8
    obtain⟨p1,d6,t6, -, -,hd6⟩:=gv hd5
    obtain⟨p2,d7,t7, -, -,hd7⟩:=gv hd6
    obtain⟨z,hz,ha⟩:=gP (xs:=[PyData.int 20,.int (1+p1 % 3),.int (p2 % 21)]) (i:=n4 % 3) (qX (by decide)) (qY (k:=3) (by decide))
    obtain⟨p,rfl,hp⟩:∃r,z=.int r∧0≤r∧r≤20:=by
      simp only [List.mem_cons,List.not_mem_nil,or_false] at hz
      rcases hz with rfl | rfl | rfl<;>exact⟨_,rfl,by lia,by lia⟩
    refine⟨wE d5 most tn things many ts (n4 % 3) ps (some (.d (.int (0+(i:Int))))) none,wE d7 most tn things many ts (n4 % 3) (ps++[p]) (some (.d (.int (0+(i:Int))))) none,rfl,?_,bg,.mk hd7 (by simp;lia) fun q hq=>by
      rcases List.mem_append.mp hq with hq | hq
      · exact hps q hq
      · simp at hq;subst hq;exact hp⟩
    have hlen:ps.length < 1000000:=by lia
    simp? [wE,jH,t6,t7,az,ha,hlen]) (.mk hd4 rfl fun p hp=>by cases hp)
  obtain⟨hd5,hpl,hps⟩:=hI
  rename_i ps d5 w8
  have hf:∀W,cI W mP (ao 8) jH (wE d4 most tn things many ts (n4 % 3) [] none none)=some (.nx (wE d5 most tn things many ts (n4 % 3) ps w8 none)):=fun W=>by
    rw [cZ (show mP _=some (bx 0 things.toNat,[],wE d4 most tn things many ts (n4 % 3) [] none none) from eW (n:=things) (by simp? [wE]) (by lia) (by lia))]
    exact h1
  obtain⟨p1,d6,t6, -, -,hd6⟩:=gv hd5
  obtain⟨p2,d7,t7, -, -,hd7⟩:=gv hd6
  obtain⟨p3,d8,t8, -, -,hd8⟩:=gv hd7
  have xp:0 < max 1 many:=Int.lt_of_lt_of_le Int.zero_lt_one (Int.le_max_left _ _)
  have gx:∀(e:En),aN e (.d (.int p1)) (.d (.int (max 1 many)))=some (.d (.int (p1 % max 1 many))):=fun e=>az xp
  have x0:0≤p1 % max 1 many:=qX xp
  have x1:p1 % max 1 many < max 1 many:=qY xp
  obtain⟨z,hz,ha⟩:=gP (xs:=[PyData.int 40,.int (1+p1 % max 1 many),.int (p2 % 41)]) (i:=p3 % 3) (qX (by decide)) (qY (k:=3) (by decide))
  obtain⟨asks,rfl,hasks⟩:∃r,z=.int r∧0≤r∧r≤40:=by
    simp only [List.mem_cons,List.not_mem_nil,or_false] at hz
    rcases hz with rfl | rfl | rfl<;>exact⟨_,rfl,by lia,by lia⟩
  rw [hE] at hpl
  refine⟨⟨things,ts,ps,asks⟩,d8,?_,hd8,⟨th0,by show things≤12;lia,fun t ht=>?_,by show ts.length≤16;lia,by show(ps.length:Int)=things;lia,hps,hasks.1,hasks.2⟩,by show things≤most;lia,by show(ts.length:Int)≤tn;lia⟩
  · unfold wE at hf
    simp only [List.map_nil] at hf
    simp? [oo,x5,t0,t1,g0,g1',gm,gi,t3,t4,az,hf,t6,t7,t8,gx,ha,ay]
  · rcases mm with c | c
    · have:=hts t ht
      rw [show max 2 things=things by lia] at this
      exact this
    · have:ts=[]:=List.length_eq_zero_iff.mp (by lia)
      subst this;cases ht
def ro:PyData→Bool
  | .int _=>true
  | .bool _=>true
  | _=>false
def rm:PyData→Bool
  | .bool _=>true
  | _=>false
def v0:PyData→Bool
  | .tuple _=>true
  | _=>false
theorem yk{e:En}{d:PyData}:jC "int" e (.d d)=some (.d (.bool (ro d))):=by cases d<;>rfl
theorem Be{e:En}{d:PyData}:jC "bool" e (.d d)=some (.d (.bool (rm d))):=by cases d<;>rfl
theorem tP{e:En}{d:PyData}:jC "tuple" e (.d d)=some (.d (.bool (v0 d))):=by cases d<;>rfl
theorem qj{d:PyData}(h:v0 d=true):∃ds,d=.tuple ds:=by cases d<;>first | exact⟨_,rfl⟩ | cases h
theorem tV(d:PyData):AH d=(ro d&& !rm d):=by cases d<;>rfl
theorem Ar(d:PyData):de [.d d]=some (.d (.bool (AH d)),[.d d]):=by
  rw [tV]
  have g1:=fun e=>yk (e:=e) (d:=d)
  have g2:=fun e=>Be (e:=e) (d:=d)
  generalize ro d=a at*
  generalize rm d=b at*
  cases a<;>simp? [de,jg,g1,g2]
def ul:List PyData:=[.none,.bool true,.bool false,.int 0,.int 1,.int (-1),.int 5,.str "",.str "a",.str "0",.tuple [],.tuple [.int 0],.tuple [.int 0,.int 1],.tuple [.tuple [],.tuple []],.list [],.list [.int 0],.dict [],.dict [(.int 0,.int 1)],.tuple [.none],.tuple [.tuple []],.list [.tuple []],.tuple [.bool true,.bool false],.tuple [.tuple [.int 0,.int 1],.tuple [.int 1,.int 2]],.tuple [.tuple [.tuple [],.tuple []]],.tuple [.str "a",.int 1],.tuple [.tuple [.int 0,.int 1]],.int (10 ^ 30)]
theorem Ct(n:Int):∃d∈ul,om [.d (.int n)]=some (.d d,[.d (.int n)]):=by
  have m0:0≤n % 27:=Int.emod_nonneg _ (by decide)
  have m1:n % 27 < 27:=Int.emod_lt_of_pos _ (by decide)
  obtain⟨d,hd,ha⟩:=gP (xs:=ul) m0 (by show n % 27 < 27;exact m1)
  have gm:∀e,aN e (.d (.int n)) (.d (.int 27))=some (.d (.int (n % 27))):=fun e=>az (by decide)
  have gp:∀e,mM e (.d (.int 10)) (.d (.int 30))=some (.d (.int (10 ^ 30))):=fun e=>fU (i:=10) (j:=30) (by decide)
  refine⟨d,hd,?_⟩
  generalize n % 27=k at*
  generalize hb:(10 ^ 30:Int)=big at*
  rw [show ul=[.none,.bool true,.bool false,.int 0,.int 1,.int (-1),.int 5,.str "",.str "a",.str "0",.tuple [],.tuple [.int 0],.tuple [.int 0,.int 1],.tuple [.tuple [],.tuple []],.list [],.list [.int 0],.dict [],.dict [(.int 0,.int 1)],.tuple [.none],.tuple [.tuple []],.list [.tuple []],.tuple [.bool true,.bool false],.tuple [.tuple [.int 0,.int 1],.tuple [.int 1,.int 2]],.tuple [.tuple [.tuple [],.tuple []]],.tuple [.str "a",.int 1],.tuple [.tuple [.int 0,.int 1]],.int big] by rw [←hb];rfl] at ha
  have gc:∀(e:En) (xs ys:List PyData),e[1]?=some (some (.l xs))→xs.length+ys.length≤1000000→aY e (.s 1) (.l ys)=some (.l (xs++ys)):=fun e xs ys he h=>jJ he h
  simp? [om,x4,gm,gp,gc,ha,jz]
theorem vw(a b:Bool):iR [.d (.bool a),.d (.bool b)]=some (.d (.bool (a==b)),[.d (.bool a),.d (.bool b)]):=by
  have gi:∀(e:En) (x y:Bool),Bh e (.d (.bool x)) (.d (.bool y))=some (.d (.bool (x==y))):=fun e x y=>rfl
  cases a<;>cases b<;>simp? [iR,sD,gi]
theorem rY(d:PyData)(lo hi:Int):aL [.d d,.d (.int lo),.d (.int hi)]=some (.d (.bool (bM lo hi d)),[.d d,.d (.int lo),.d (.int hi)]):=by
  have t:=Ar d
  cases d with
  | int i=>
    by_cases c:lo≤i
    · simp? [aL,bA,t,AH,bM,cK,c]
    · simp? [aL,bA,t,AH,bM,cK,c]
  | _=>simp? [aL,bA,t,AH,bM,cK]
theorem oO{W:bE}{k:Int}(hk:jR W k):df [.d (ay W),.d (.int k)]=some (.d (.tuple [.int (W.tie k).one,.int (W.tie k).other]),[.d (ay W),.d (.int k)]):=by
  rw [nI]
  simp? [df,jh,hZ hk,cx]
theorem AG{W:bE}(e:En):fJ e (.d (ay W)) (.d (.int 1))=some (.d (.tuple (W.ties.map cx))):=by rw [nI,tj,oW];rfl
theorem q_{α:Type}(l:List α):l.filter (fun _=>true)=l:=List.filter_eq_self.mpr fun _ _=>rfl
def eZ:PyData→Int
  | .int i=>i
  | _=>0
def jE(many:Int):Int→List PyData→Bool
  | _,[]=>true
  | lo,d::r=>bM lo (many - 1) d&&jE many (eZ d+1) r
theorem dP{lo hi:Int}{d:PyData}(h:bM lo hi d=true):∃i,d=.int i∧lo≤i∧i≤hi:=by
  cases d with
  | int i=>exact⟨i,rfl,by simpa [bM] using h⟩
  | _=>cases h
theorem qy{thing:Sv}{many:Int}:∀(ds:List PyData) (lo:Int) (v3:Option Sv),∃w2 w3,gW [] (ao 3) aR ds [some thing,some (.d (.int many)),some (.d (.int lo)),v3]=some (if jE many lo ds=true then .nx [some thing,some (.d (.int many)),w2,w3] else .rt (.d (.bool false)) [some thing,some (.d (.int many)),w2,w3])
  | [],lo,v3=>⟨_,_,rfl⟩
  | x::r,lo,v3=>by
    have t:=rY x lo (many - 1)
    have hg:ao 3 x [some thing,some (.d (.int many)),some (.d (.int lo)),v3]=some [some thing,some (.d (.int many)),some (.d (.int lo)),some (.d x)]:=rfl
    cases c:bM lo (many - 1) x with
    | false=>
      rw [c] at t
      have hb:aR [some thing,some (.d (.int many)),some (.d (.int lo)),some (.d x)]=some (.rt (.d (.bool false)) [some thing,some (.d (.int many)),some (.d (.int lo)),some (.d x)]):=by
        simp? [aR,t]
      refine⟨some (.d (.int lo)),some (.d x),?_⟩
      simp only [gW,hg,Option.bind_some,hb,jE,c,Bool.false_and,Bool.false_eq_true,if_false]
    | true=>
      rw [c] at t
      obtain⟨i,rfl,_,_⟩:=dP c
      have hb:aR [some thing,some (.d (.int many)),some (.d (.int lo)),some (.d (.int i))]=some (.nx [some thing,some (.d (.int many)),some (.d (.int (i+1))),some (.d (.int i))]):=by
        simp? [aR,t]
      obtain⟨w2,w3,ih⟩:=qy (thing:=thing) (many:=many) r (i+1) (some (.d (.int i)))
      refine⟨w2,w3,?_⟩
      simp only [gW,hg,Option.bind_some,hb,jE,c,Bool.true_and,eZ]
      rw [if_pos bg]
      exact ih
def CO(many:Int):PyData→Bool
  | .tuple ds=>jE many 0 ds
  | _=>false
theorem rZ{d:PyData}{many:Int}:a9 [.d d,.d (.int many)]=some (.d (.bool (CO many d)),[.d d,.d (.int many)]):=by
  have gt:=fun e=>tP (e:=e) (d:=d)
  cases c:v0 d with
  | false=>
    rw [c] at gt
    have e:CO many d=false:=by cases d<;>first | rfl | cases c
    rw [e]
    simp? [a9,b7,gt]
  | true=>
    rw [c] at gt
    obtain⟨ds,rfl⟩:=qj c
    obtain⟨w2,w3,hf⟩:=qy (thing:=.d (.tuple ds)) (many:=many) ds 0 none
    have hs:∀Wl,cI Wl cE (ao 3) aR [some (.d (.tuple ds)),some (.d (.int many)),some (.d (.int 0)),none]=some (if jE many 0 ds=true then .nx [some (.d (.tuple ds)),some (.d (.int many)),w2,w3] else .rt (.d (.bool false)) [some (.d (.tuple ds)),some (.d (.int many)),w2,w3]):=fun Wl=>by
      rw [cZ (show cE _=_ from mQ rfl)]
      exact hf
    rw [show CO many (.tuple ds)=jE many 0 ds from rfl]
    cases c2:jE many 0 ds with
    | false=>
      rw [c2] at hs
      simp only [Bool.false_eq_true,if_false] at hs
      simp? [a9,b7,gt,hs]
    | true=>
      rw [c2] at hs
      simp only [if_true] at hs
      simp? [a9,b7,gt,hs]
theorem qz{many:Int}:∀{ds:List PyData} {lo:Int},jE many lo ds=true→∃ns:List Int,ds=ns.map .int∧ns.Nodup∧∀k∈ns,lo≤k∧k < many
  | [],lo,_=>⟨[],rfl,List.nodup_nil,fun _ h=>by cases h⟩
  | d::r,lo,h=>by
    simp only [jE,Bool.and_eq_true] at h
    obtain⟨i,rfl,h1,h2⟩:=dP h.1
    obtain⟨ns,rfl,nd,hk⟩:=qz h.2
    refine⟨i::ns,rfl,List.nodup_cons.mpr ⟨fun hi=>?_,nd⟩,fun k hk'=>?_⟩
    · have:=hk i hi
      simp only [eZ] at this
      lia
    · rcases List.mem_cons.mp hk' with rfl | hk'
      · lia
      · have:=hk k hk'
        simp only [eZ] at this
        lia
def aI(W:bE)(ns:List Int):List Int:=ns.flatMap fun k=>[(W.tie k).one,(W.tie k).other]
theorem j5(W:bE)(ns:List Int):(aI W ns).length=2*ns.length:=by
  unfold aI
  induction ns with
  | nil=>rfl
  | cons x r ih=>rw [List.flatMap_cons,List.length_append,ih,List.length_cons];simp;lia
def kX(W:bE):PyData→Bool
  | .tuple ds=>jE (W.ties.length:Int) 0 ds&&decide ((aI W (ds.map eZ)).Nodup)
  | _=>false
theorem iq(ns:List Int):(ns.map PyData.int).map eZ=ns:=by
  rw [List.map_map]
  exact List.map_id' ns
theorem ka{e:En}{i:Nat}{ns:List Int}(hi:e[i]?=some (some (.l (ns.map .int))))(h:ns.length≤1000):dG e (.s i)=some (.d (.int (fD ns).length)):=by
  simp [dG,cJ,hi,eF,h]
theorem Ac{W:bE}(ok:W.Ok){ns:List Int}(nd:ns.Nodup)(hk:∀k∈ns,0≤k∧k < (W.ties.length:Int)):ns.length≤16:=by
  have:=kD W.ties.length ns nd hk
  have:=ok.len
  lia
theorem gD{W:bE}(ok:W.Ok)(d:PyData):ba [.d (ay W),.d d]=some (.d (.bool (kX W d)),[.d (ay W),.d d]):=by
  have g1':=AG (W:=W)
  have tr:=rZ (d:=d) (many:=(W.ties.length:Int))
  have ql:(((W.ties.map cx).length:Nat):Int)=(W.ties.length:Int):=by simp
  cases c:CO (W.ties.length:Int) d with
  | false=>
    rw [c] at tr
    have e:kX W d=false:=by
      cases d with
      | tuple ds=>simp only [kX,show jE (W.ties.length:Int) 0 ds=false from c,Bool.false_and]
      | _=>rfl
    rw [e]
    generalize W.ties.map cx=TT at*
    simp? [ba,eR,g1',ql,tr]
  | true=>
    rw [c] at tr
    cases d with
    | tuple ds=>
      have c':jE (W.ties.length:Int) 0 ds=true:=c
      obtain⟨ns,rfl,nd,hk⟩:=qz c'
      have hl:=Ac ok nd hk
      have e:kX W (.tuple (ns.map .int))=decide ((aI W ns).Nodup):=by simp only [kX,c',Bool.true_and,iq]
      rw [e]
      obtain⟨t',ht,hf⟩:=jj (cs:=[some (.d (ay W))]) (g:=ao 1) (ft:=gu) (fi2:=cD) (g2:=ao 2) (ft2:=gu) (fe:=cA) (f:=fun x=>[PyData.int (W.tie (eZ x)).one,.int (W.tie (eZ x)).other]) 2 (ns.map .int) [none,none] [] rfl (fun x hx=>by simp) (fun x hx t acc ht ha=>by
        obtain⟨k,hk',rfl⟩:=List.mem_map.mp hx
        have tt:=oO (W:=W) (k:=k) (hk k hk')
        rcases t with _ | ⟨a1,_ | ⟨a2,_ | ⟨a3,r⟩⟩⟩
        · simp at ht
        · simp at ht
        · refine⟨[some (.d (ay W)),some (.d (.int k)),a2],[some (.d (ay W)),some (.d (.int k)),a2],[.int (W.tie k).one,.int (W.tie k).other],[some (.d (ay W)),some (.d (.int k)),a2],[some (.d (.int k)),some (.d (.int (W.tie k).other))],rfl,rfl,?_,?_,rfl⟩
          · unfold cD
            refine mQ ?_
            simp? [tt]
          · have q1:acc.length < 1000000:=by lia
            have q2:acc.length+1 < 1000000:=by lia
            simp? [dU,ao,cA,qW,gu,q1,q2,eZ]
        · simp at ht) (by simp;lia)
      have hv:=r9 (cp:=[(0,"web")]) (nT:=2) (fi:=fX) (g:=ao 1) (ft:=gu) (fi2:=cD) (g2:=ao 2) (ft2:=gu) (fe:=cA) (e:=[some (.d (ay W)),some (.d (.tuple (ns.map .int))),none]) (cs:=[some (.d (ay W))]) (t:=[none,none]) (t':=t') rfl rfl rfl hf
      rw [List.nil_append,show(ns.map PyData.int).flatMap (fun x=>[PyData.int (W.tie (eZ x)).one,.int (W.tie (eZ x)).other])=(aI W ns).map .int by
        unfold aI
        rw [List.flatMap_map,List.map_flatMap]
        rfl] at hv
      have he:=j5 W ns
      have gs:∀e:En,e[2]?=some (some (.l ((aI W ns).map .int)))→dG e (.s 2)=some (.d (.int (fD (aI W ns)).length)):=fun e h=>ka h (by lia)
      have ge:∀e:En,cB false e (.d (.int ((fD (aI W ns)).length:Int))) (.d (.int ((aI W ns).length:Int)))=some (.d (.bool (decide (aI W ns).Nodup))):=fun e=>by
        rw [ii]
        refine congrArg (fun z=>some (Rv.d (.bool z))) ?_
        rw [Bool.eq_iff_iff,decide_eq_true_iff,←p7]
        simp
        lia
      have qe:((((aI W ns).map PyData.int).length:Nat):Int)=((aI W ns).length:Int):=by simp
      generalize decide (aI W ns).Nodup=bb at*
      generalize (fD (aI W ns)).length=l1 at*
      generalize (aI W ns).length=l2 at*
      generalize (aI W ns).map PyData.int=EE at*
      generalize ns.map PyData.int=NN at*
      generalize W.ties.map cx=TT at*
      simp? [ba,eR,g1',ql,tr,hv,gs,qe,ge]
    | _=>cases c
theorem u7{n:Nat}{x:Int}(h:x∈iA n):0≤x∧x < (n:Int):=by
  unfold iA at h
  obtain⟨i,hi,rfl⟩:=List.mem_map.mp h
  have:=List.mem_range.mp hi
  have e:(Int.ofNat i)=(i:Int):=rfl
  simp only [e]
  lia
theorem xu(n:Nat):(iA n).Nodup:=by
  unfold iA
  exact List.pairwise_map.mpr (List.Pairwise.imp (fun h e=>by have:_=_:=e;simp at this;lia) List.nodup_range)
abbrev eV(ds:List Int)(W:bE)(lf fd:List Int):En:=[some (.l (ds.map .int)),some (.d (ay W)),some (.d (.int 16)),some (.l (lf.map .int)),some (.l (fd.map .int))]
inductive FK (W:bE):En→Prop
  | mk {ds lf fd} (hd:fH ds) (nd:(fd++lf).Nodup) (hr:∀k∈fd++lf,jR W k) (hl:fd.length≤16):FK W (eV ds W lf fd)
def Bc(e:En):Nat:=match e[3]? with
  | some (some (Sv.l xs))=>xs.length
  | _=>0
theorem mK{W:bE}{ds lf fd:List Int}:Bc (eV ds W lf fd)=lf.length:=by
  show(lf.map PyData.int).length=_
  rw [List.length_map]
theorem Ap{W:bE}(ok:W.Ok){ds:List Int}(hd:fH ds):∃(fs ds':List Int),ku [.l (ds.map .int),.d (ay W),.d (.int 16)]=some (.d (.tuple (fs.map .int)),[.l (ds'.map .int),.d (ay W),.d (.int 16)])∧fH ds'∧fs.Nodup∧(∀k∈fs,jR W k)∧fs.length≤16:=by
  have wl:=ok.len
  have g1':=AG (W:=W)
  have q3:∀(xs:List Int) (e:En),e[3]?=some (some (.l (xs.map .int)))→cB true e (.s 3) (.l [])=some (.d (.bool (!(xs.map PyData.int).isEmpty))):=fun xs e he=>nS he (jt _).1
  obtain⟨e0,e',hw,hP,hft⟩:=hV (ft:=cw) (f:=h9) (FK W) Bc (fun e hP=>by
    obtain⟨hd,nd,hr,hl⟩:=hP
    rename_i ds lf fd
    have qf:((fd.map PyData.int).length:Int)=(fd.length:Int):=by simp
    by_cases c:lf=[]
    · subst c
      left
      refine⟨eV ds W [] fd,?_,trivial⟩
      have q:=fun e he=>q3 [] e he
      simp only [eV,List.map_nil,List.isEmpty_nil,Bool.not_true] at q ⊢
      simp? [cw,q]
    · have q:=fun e he=>q3 lf e he
      rw [show(lf.map PyData.int).isEmpty=false by
        rcases lf with _ | ⟨x,r⟩
        · exact absurd rfl c
        · rfl] at q
      by_cases c2:fd.length < 16
      · right
        obtain⟨n,d1,t1, -, -,hd1⟩:=gv hd
        have lp:0 < (lf.length:Int):=by have:=List.length_pos_iff.mpr c;lia
        have gm:∀e:En,aN e (.d (.int n)) (.d (.int (lf.length:Int)))=some (.d (.int (n % (lf.length:Int)))):=fun e=>az lp
        have a0:=qX (n:=n) lp;have a1:=qY (n:=n) lp
        generalize n % (lf.length:Int)=k at*
        have hk:k.toNat < lf.length:=by lia
        have hp:=j4 lf k.toNat hk
        have hx:(lf.map PyData.int)[k.toNat]?=some (.int lf[k.toNat]):=by rw [List.getElem?_map,List.getElem?_eq_getElem hk];rfl
        have he:(lf.map PyData.int).eraseIdx k.toNat=(lf.eraseIdx k.toNat).map .int:=lK
        have pp:((fd++[lf[k.toNat]])++lf.eraseIdx k.toNat).Perm (fd++lf):=by
          rw [List.append_assoc]
          exact List.Perm.append_left _ hp
        have hle:=hp.length_eq
        rw [List.length_cons] at hle
        generalize lf[k.toNat]=x at*
        generalize lf.eraseIdx k.toNat=lf' at*
        refine⟨eV ds W lf fd,eV d1 W lf' (fd++[x]),?_,?_,.mk hd1 (pp.nodup_iff.mpr nd) (fun z hz=>hr z (pp.mem_iff.mp hz)) (by simp;lia),by rw [mK,mK];lia⟩
        · have c3:(fd.length:Int) < 16:=by lia
          simp only [eV]
          generalize lf.map PyData.int=LL at*
          simp? [cw,q,qf,c3]
        · have ql:((lf.map PyData.int).length:Int)=(lf.length:Int):=by simp
          have nl:=kD W.ties.length (fd++lf) nd hr
          rw [List.length_append] at nl
          have kb:k < 1000000000:=by lia
          have lt:fd.length < 1000000:=by lia
          simp only [eV,List.map_append,List.map_cons,List.map_nil,←he]
          generalize (lf.length:Int)=M0 at*
          generalize lf.map PyData.int=LL at*
          simp? [h9,t1,ql,gm,a0,kb,hx,lt]
      · left
        refine⟨eV ds W lf fd,?_,trivial⟩
        have c3:¬(fd.length:Int) < 16:=by lia
        simp only [eV]
        generalize lf.map PyData.int=LL at*
        simp? [cw,q,qf,c3]) (2 ^ 4200) (eV ds W (iA W.ties.length) []) (.mk hd (xu _) (fun k hk=>u7 hk) (by simp)) (by
    rw [mK,oI]
    exact Nat.lt_of_le_of_lt wl (by decide))
  obtain⟨hd2,nd,hr,hl⟩:=hP
  rename_i ds2 lf fd
  have key:∀b e'',cw (eV ds2 W lf fd)=some (b,e'')→e''=eV ds2 W lf fd:=fun b e'' h=>by
    have q:=fun e he=>q3 lf e he
    have qf:((fd.map PyData.int).length:Int)=(fd.length:Int):=by simp
    generalize (!(lf.map PyData.int).isEmpty)=bb at*
    have:cw (eV ds2 W lf fd)=some (bb&&decide ((fd.length:Int) < 16),eV ds2 W lf fd):=by
      simp only [eV]
      generalize lf.map PyData.int=LL at*
      cases bb<;>simp? [cw,q,qf]
    rw [this] at h
    exact(Prod.mk.inj (Option.some.inj h)).2.symm
  have he:=key _ _ hft
  subst he
  refine⟨fd,ds2,?_,hd2,(List.nodup_append.mp nd).1,fun k hk=>hr k (by simp [hk]),hl⟩
  have hw':hJ (2 ^ 4200) cw h9 (eV ds W (iA W.ties.length) [])=some (.nx (eV ds2 W lf fd)):=hw
  have ql:(((W.ties.map cx).length:Nat):Int)=(W.ties.length:Int):=by simp
  have q2:(W.ties.length:Int)≤100000:=by lia
  have q4:((W.ties.length:Int)).toNat=W.ties.length:=by lia
  simp only [eV,List.map_nil] at hw'
  generalize fd.map PyData.int=FF at*
  generalize lf.map PyData.int=LL at*
  generalize W.ties.map cx=TT at*
  simp? [ku,sC,g1',ql,jP,q2,q4,hw']
theorem nM(W:bE)(a b:List Int):aI W (a++b)=aI W a++aI W b:=by
  unfold aI
  rw [List.flatMap_append]
inductive EK (W:bE) (ks:List Int) (i:Nat):En→Prop
  | mk {v3}:EK W ks i [some (.d (ay W)),some (.l (ks.map .int)),some (.l ((aI W (ks.take i)).map .int)),v3]
theorem Ao{W:bE}{ks:List Int}(hk:∀k∈ks,jR W k)(hl:ks.length≤100):kr [.d (ay W),.l (ks.map .int)]=some (.l ((aI W ks).map .int),[.d (ay W),.l (ks.map .int)]):=by
  have g1':=AG (W:=W)
  have gl:∀(e:En) (xs:List PyData),g1 gH e [.d (.tuple xs)]=some (.l xs):=fun e xs=>rfl
  have ca:∀(e:En) (xs ys:List PyData),e[2]?=some (some (.l xs))→xs.length+ys.length≤1000000→aY e (.s 2) (.l ys)=some (.l (xs++ys)):=fun e xs ys he h=>jJ he h
  obtain⟨e',h1,hI⟩:=b6 (own:=[(1,ks.map .int)]) (g:=ao 3) (f:=fM) (EK W ks) (ks.map .int) 0 [some (.d (ay W)),some (.l (ks.map .int)),some (.l []),none] (fun i x e hx hI=>by
    obtain⟨⟩:=hI
    rename_i v3
    rw [Nat.zero_add] at*
    rw [List.getElem?_map] at hx
    obtain⟨k,hki,rfl⟩:=Option.map_eq_some_iff.mp hx
    have ai:=hZ (hk k (List.mem_of_getElem? hki))
    have e2:aI W (ks.take (i+1))=aI W (ks.take i)++[(W.tie k).one,(W.tie k).other]:=by
      rw [List.take_succ,hki,nM]
      rfl
    have hle:=j5 W (ks.take i)
    rw [List.length_take] at hle
    have lt:((aI W (ks.take i)).map PyData.int).length+2≤1000000:=by rw [List.length_map];lia
    have cu:L2.cutD [PyData.int (W.tie k).one,.int (W.tie k).other,.tuple [.int (W.tie k).top,.int (W.tie k).bot],.int (W.tie k).worth] none (some 2)=[.int (W.tie k).one,.int (W.tie k).other]:=rfl
    refine⟨[some (.d (ay W)),some (.l (ks.map .int)),some (.l ((aI W (ks.take i)).map .int)),some (.d (.int k))],[some (.d (ay W)),some (.l (ks.map .int)),some (.l ((aI W (ks.take (i+1))).map .int)),some (.d (.int k))],rfl,?_,fun p hp=>by simp at hp;subst hp;rfl,.mk⟩
    rw [e2,List.map_append]
    simp only [List.map_cons,List.map_nil]
    generalize (aI W (ks.take i)).map PyData.int=EE at*
    unfold cx at ai g1'
    generalize (W.ties.map fun t=>PyData.tuple [.int t.one,.int t.other,.tuple [.int t.top,.int t.bot],.int t.worth])=TT at*
    generalize ks.map PyData.int=KK at*
    simp? [fM,g1',ai,cu,gl,ca,lt]) .mk
  obtain⟨⟩:=hI
  rename_i v3
  rw [Nat.zero_add,List.length_map,List.take_length] at h1
  have hf:cI ([3]++[2]) il (ao 3) fM [some (.d (ay W)),some (.l (ks.map .int)),some (.l []),none]=some (.nx [some (.d (ay W)),some (.l (ks.map .int)),some (.l ((aI W ks).map .int)),v3]):=by
    unfold cI
    rw [show il [some (.d (ay W)),some (.l (ks.map .int)),some (.l []),none]=some (ks.map .int,[(1,ks.map .int)],[some (.d (ay W)),some (.l (ks.map .int)),some (.l []),none]) from rfl]
    exact h1
  generalize (aI W ks).map PyData.int=EE at*
  generalize ks.map PyData.int=KK at*
  have hf':cI [3,2] il (ao 3) fM [some (.d (ay W)),some (.l KK),some (.l []),none]=_:=hf
  simp? [kr,sy,hf']
abbrev ff(ds:List Int)(W:bE)(fd:List Int)(v3 v4:Option Sv):En:=[some (.l (ds.map .int)),some (.d (ay W)),some (.l (fd.map .int)),v3,v4]
inductive AQ (W:bE) (fs:List Int) (i:Nat):En→Prop
  | mk {ds fd v3 v4} (hd:fH ds) (hs:List.Sublist fd (fs.take i)) (he:(aI W fd).Nodup):AQ W fs i (ff ds W fd v3 v4)
theorem Au{W:bE}(ok:W.Ok){k:Int}(h:jR W k):(W.tie k).one≠(W.tie k).other:=by
  have hk:k.toNat < W.ties.length:=by have:=h.2;have:=h.1;lia
  have:W.tie k∈W.ties:=by
    unfold bE.tie
    rw [List.getD_eq_getElem?_getD,List.getElem?_eq_getElem hk]
    exact List.getElem_mem _
  have:=(ok.ties _ this).o1
  lia
theorem yv{ns:List Int}(h:ns.Pairwise (· ≤·))(nd:ns.Nodup):ns.Pairwise (· < ·):=by
  have:=h.and nd
  exact this.imp fun⟨a,b⟩=>by lia
theorem qZ{W:bE}{a b:List Int}(h:a.Perm b):(aI W a).Perm (aI W b):=h.flatMap_right _
theorem pO{W:bE}(ok:W.Ok){ds:List Int}(hd:fH ds):∃(ks ds':List Int),eG [.l (ds.map .int),.d (ay W)]=some (.d (.tuple (ks.map .int)),[.l (ds'.map .int),.d (ay W)])∧fH ds'∧ks.Nodup∧(∀k∈ks,jR W k)∧ks.length≤16∧(aI W ks).Nodup∧ks.Pairwise (· < ·):=by
  have g1':=AG (W:=W)
  obtain⟨fs,d1,tf,hd1,nf,rf,lf⟩:=Ap ok hd
  obtain⟨e',h1,hI⟩:=b6 (own:=[]) (g:=ao 3) (f:=bP) (AQ W fs) (fs.map .int) 0 (ff d1 W [] none none) (fun i x e hx hI=>by
    obtain⟨hd,hs,he⟩:=hI
    rename_i ds fd v3 v4
    rw [Nat.zero_add] at*
    rw [List.getElem?_map] at hx
    obtain⟨k,hki,rfl⟩:=Option.map_eq_some_iff.mp hx
    have hik:=rf k (List.mem_of_getElem? hki)
    have ai:=hZ hik
    have hsl:=hs.length_le
    rw [List.length_take] at hsl
    have hfk:∀z∈fd,jR W z:=fun z hz=>rf z (List.mem_of_mem_take (hs.subset hz))
    have te:=Ao hfk (by lia)
    have tk:fs.take (i+1)=fs.take i++[k]:=by rw [List.take_succ,hki];rfl
    have i4:∀(e:En) (z:Int),e[4]?=some (some (.l ((aI W fd).map .int)))→s_ true e (.d (.int z)) (.s 4)=some (.d (.bool (!(aI W fd).contains z))):=fun e z h=>yQ h
    have i5:=fun e h=>i4 e (W.tie k).one h
    have i6:=fun e h=>i4 e (W.tie k).other h
    have lt:fd.length < 1000000:=by lia
    unfold cx at ai g1'
    have stay:List.Sublist fd (fs.take (i+1)):=by rw [tk];exact hs.trans (List.sublist_append_left _ _)
    cases c1:(aI W fd).contains (W.tie k).one with
    | true=>
      rw [c1] at i5
      refine⟨ff ds W fd (some (.d (.int k))) v4,ff ds W fd (some (.d (.int k))) (some (.l ((aI W fd).map .int))),rfl,?_,bg,.mk hd stay he⟩
      simp only [ff]
      generalize (aI W fd).map PyData.int=EE at*
      generalize fd.map PyData.int=FF at*
      generalize (W.ties.map fun t=>PyData.tuple [.int t.one,.int t.other,.tuple [.int t.top,.int t.bot],.int t.worth])=TT at*
      simp? [bP,te,g1',ai,i5]
    | false=>
      rw [c1] at i5
      cases c2:(aI W fd).contains (W.tie k).other with
      | true=>
        rw [c2] at i6
        refine⟨ff ds W fd (some (.d (.int k))) v4,ff ds W fd (some (.d (.int k))) (some (.l ((aI W fd).map .int))),rfl,?_,bg,.mk hd stay he⟩
        simp only [ff]
        generalize (aI W fd).map PyData.int=EE at*
        generalize fd.map PyData.int=FF at*
        generalize (W.ties.map fun t=>PyData.tuple [.int t.one,.int t.other,.tuple [.int t.top,.int t.bot],.int t.worth])=TT at*
        simp? [bP,te,g1',ai,i5,i6]
      | false=>
        rw [c2] at i6
        obtain⟨n,d2,t2, -, -,hd2⟩:=gv hd
        have gm:∀e:En,aN e (.d (.int n)) (.d (.int 8))=some (.d (.int (n % 8))):=fun e=>az (by decide)
        by_cases c3:n % 8 > 0
        · have n1:(W.tie k).one∉aI W fd:=fun h=>by rw [List.contains_iff_mem.mpr h] at c1;cases c1
          have n2:(W.tie k).other∉aI W fd:=fun h=>by rw [List.contains_iff_mem.mpr h] at c2;cases c2
          have ne:=Au ok hik
          have he2:(aI W (fd++[k])).Nodup:=by
            rw [nM,List.nodup_append]
            refine⟨he,by simp [aI,ne],fun a ha b hb e=>?_⟩
            subst e
            simp only [aI,List.flatMap_cons,List.flatMap_nil,List.append_nil,List.mem_cons,List.not_mem_nil,or_false] at hb
            rcases hb with rfl | rfl
            · exact n1 ha
            · exact n2 ha
          refine⟨ff ds W fd (some (.d (.int k))) v4,ff d2 W (fd++[k]) (some (.d (.int k))) (some (.l ((aI W fd).map .int))),rfl,?_,bg,.mk hd2 (by rw [tk];exact hs.append (List.Sublist.refl _)) he2⟩
          have gg:∀e:En,yP e (.d (.int (n % 8))) (.d (.int 0))=some (.d (.bool true)):=fun e=>by
            have:decide ((0:Int) < n % 8)=true:=decide_eq_true c3
            rw [←this];rfl
          simp only [ff,List.map_append,List.map_cons,List.map_nil]
          generalize (aI W fd).map PyData.int=EE at*
          generalize (W.ties.map fun t=>PyData.tuple [.int t.one,.int t.other,.tuple [.int t.top,.int t.bot],.int t.worth])=TT at*
          simp? [bP,te,g1',ai,i5,i6,t2,gm,gg,lt]
        · refine⟨ff ds W fd (some (.d (.int k))) v4,ff d2 W fd (some (.d (.int k))) (some (.l ((aI W fd).map .int))),rfl,?_,bg,.mk hd2 stay he⟩
          have gg:∀e:En,yP e (.d (.int (n % 8))) (.d (.int 0))=some (.d (.bool false)):=fun e=>by
            have:decide ((0:Int) < n % 8)=false:=decide_eq_false c3
            rw [←this];rfl
          simp only [ff]
          generalize (aI W fd).map PyData.int=EE at*
          generalize fd.map PyData.int=FF at*
          generalize (W.ties.map fun t=>PyData.tuple [.int t.one,.int t.other,.tuple [.int t.top,.int t.bot],.int t.worth])=TT at*
          simp? [bP,te,g1',ai,i5,i6,t2,gm,gg]) (.mk hd1 (List.nil_sublist _) List.nodup_nil)
  obtain⟨hd2,hs,he⟩:=hI
  rename_i d2 fd v3 v4
  have hsub:List.Sublist fd fs:=hs.trans (List.take_sublist _ _)
  have hl:=hsub.length_le
  have hp:=cV fd
  refine⟨a8 fd,d2,?_,hd2,hp.nodup_iff.mpr (hsub.nodup nf),fun k hk=>rf k (hsub.subset (hp.mem_iff.mp hk)),by rw [hp.length_eq];lia,(qZ hp).nodup_iff.mpr he,yv (iG fd) (hp.nodup_iff.mpr (hsub.nodup nf))⟩
  have hf:∀Wl,cI Wl fW (ao 3) bP (ff ds W [] none none)=some (.nx (ff d2 W fd v3 v4)):=fun Wl=>by
    rw [cZ (items:=fs.map .int) (e1:=ff d1 W [] none none) (show fW _=_ from mQ (by simp? [ff,tf]))]
    exact h1
  have gs:∀e:En,e[2]?=some (some (.l (fd.map .int)))→g1 er e [.s 2]=some (.l ((a8 fd).map .int)):=fun e h=>tN h (by lia)
  simp only [ff,List.map_nil] at hf
  generalize (a8 fd).map PyData.int=SS at*
  generalize fd.map PyData.int=FF at*
  simp? [eG,lx,hf,gs]
theorem lJ:∀(ns ms:List Int),PyData.eqvAll (ns.map .int) (ms.map .int)=(ns==ms)
  | [],[]=>by simp [PyData.eqvAll]
  | [],_::_=>by simp [PyData.eqvAll]
  | _::_,[]=>by simp [PyData.eqvAll]
  | x::r,y::s=>by simp [PyData.eqvAll,PyData.eqv,lJ r s]
theorem xw(ns:List Int):SeqAt.shaped (.list (ns.map .int))=true:=(Sh.list (n:=2) fun d hd=>by
  obtain⟨x,_,rfl⟩:=List.mem_map.mp hd
  exact Sh.int).ok (by decide)
theorem vV{e:En}{ns ms:List Int}:cB false e (.l (ns.map .int)) (.l (ms.map .int))=some (.d (.bool (ns==ms))):=by
  unfold cB
  simp only [fB,Option.bind_some,xw,Bool.and_self,if_true,PyData.eqv,lJ]
  rfl
theorem sS:∀(ns acc:List Int),acc.Nodup→(ns.foldl step_dedup acc).Nodup
  | [],acc,h=>h
  | x::r,acc,h=>by
    refine sS r _ ?_
    unfold step_dedup
    split
    · exact h
    · rename_i c
      refine List.nodup_append.mpr ⟨h,by simp,fun a ha b hb e=>c ?_⟩
      simp at hb
      subst hb;subst e
      exact List.any_eq_true.mpr ⟨a,ha,by simp⟩
theorem sQ:∀(ns acc:List Int),ns.Nodup→(∀x∈ns,x∉acc)→ns.foldl step_dedup acc=acc++ns
  | [],acc,_,_=>by simp
  | x::r,acc,nd,h=>by
    obtain⟨n1,n2⟩:=List.nodup_cons.mp nd
    have e:step_dedup acc x=acc++[x]:=if_neg fun c=>by
      obtain⟨y,hy,e⟩:=List.any_eq_true.mp c
      obtain rfl:y=x:=by simpa using e
      exact h y (by simp) hy
    rw [List.foldl_cons,e,sQ r _ n2 fun y hy hm=>by
      rcases List.mem_append.mp hm with hm | hm
      · exact h y (by simp [hy]) hm
      · simp at hm;subst hm;exact n1 hy]
    simp
theorem xF{ns:List Int}:(ns==a8 (fD ns))=decide (ns.Pairwise (· < ·)):=by
  rw [Bool.eq_iff_iff,beq_iff_eq,decide_eq_true_iff]
  constructor
  · intro e
    have hp:=cV (fD ns)
    have nd:(a8 (fD ns)).Nodup:=hp.nodup_iff.mpr (sS ns [] List.nodup_nil)
    have hs:=iG (fD ns)
    rw [←e] at nd hs
    exact yv hs nd
  · intro h
    have nd:ns.Nodup:=h.imp fun{a b} h e=>by lia
    have e:fD ns=ns:=by
      have:=sQ ns [] nd fun x _ h=>by cases h
      simpa [fD] using this
    rw [e]
    exact gj .rfl (h.imp fun{a b} h=>by lia)
theorem pH{many:Int}:∀(ns:List Int) (lo:Int),(∀k∈ns,k < many)→jE many lo (ns.map .int)=decide (ns.Pairwise (· < ·)∧∀k∈ns,lo≤k)
  | [],lo,_=>by simp [jE]
  | x::r,lo,h=>by
    rw [List.map_cons,jE,pH r _ fun k hk=>h k (by simp [hk]),Bool.eq_iff_iff,Bool.and_eq_true,decide_eq_true_iff,decide_eq_true_iff]
    have hx:=h x (by simp)
    simp only [bM,eZ,Bool.and_eq_true,decide_eq_true_eq,List.pairwise_cons,List.mem_cons]
    constructor
    · rintro⟨⟨a,b⟩,c,d⟩
      refine⟨⟨fun k hk=>by have:=d k hk;lia,c⟩,fun k hk=>?_⟩
      rcases hk with rfl | hk
      · exact a
      · have:=d k hk;lia
    · rintro⟨⟨a,b⟩,c⟩
      exact⟨⟨c x (.inl rfl),by lia⟩,b,fun k hk=>by have:=a k hk;lia⟩
theorem Ad{many:Int}{ns:List Int}(h:∀k∈ns,0≤k∧k < many):(ns==a8 (fD ns))=jE many 0 (ns.map .int):=by
  rw [xF,pH ns 0 fun k hk=>(h k hk).2,Bool.eq_iff_iff,decide_eq_true_iff,decide_eq_true_iff]
  exact⟨fun a=>⟨a,fun k hk=>(h k hk).1⟩,fun a=>a.1⟩
theorem pG{many:Int}:∀{ds:List PyData} {lo:Int},0≤lo→jE many lo ds=true→ds.all (bM 0 (many - 1))=true
  | [],lo,_,_=>rfl
  | d::r,lo,h0,h=>by
    simp only [jE,Bool.and_eq_true] at h
    obtain⟨i,rfl,h1,h2⟩:=dP h.1
    rw [List.all_cons,pG (by simp only [eZ];lia) h.2,Bool.and_true]
    simp only [bM,Bool.and_eq_true,decide_eq_true_eq]
    lia
theorem ny{many:Int}:∀{ds:List PyData},ds.all (bM 0 (many - 1))=true→∃ns:List Int,ds=ns.map .int∧∀k∈ns,0≤k∧k < many
  | [],_=>⟨[],rfl,fun _ h=>by cases h⟩
  | d::r,h=>by
    simp only [List.all_cons,Bool.and_eq_true] at h
    obtain⟨i,rfl,h1,h2⟩:=dP h.1
    obtain⟨ns,rfl,hk⟩:=ny h.2
    exact⟨i::ns,rfl,fun k hk'=>by
      rcases List.mem_cons.mp hk' with rfl | hk'
      · lia
      · exact hk k hk'⟩
theorem yr{W:bE}(ok:W.Ok){thing:PyData}:∀(ds:List PyData) (tk:List Int) (v3:Option Sv),tk.length+2*ds.length≤1000→∃w2 w3,gW [] (ao 3) aQ ds [some (.d (ay W)),some (.d thing),some (.l (tk.map .int)),v3]=some (if ds.all (bM 0 ((W.ties.length:Int) - 1))=true then .nx [some (.d (ay W)),some (.d thing),some (.l ((tk++aI W (ds.map eZ)).map .int)),w3] else .rt (.d (.bool false)) [some (.d (ay W)),some (.d thing),w2,w3])
  | [],tk,v3,_=>⟨none,v3,by
    rw [show([]:List PyData).all (bM 0 ((W.ties.length:Int) - 1))=true from rfl,if_pos rfl,show aI W (([]:List PyData).map eZ)=[] from rfl,List.append_nil]
    rfl⟩
  | x::r,tk,v3,hl=>by
    have q1:=fun e=>yk (e:=e) (d:=x)
    have q2:=fun e=>Be (e:=e) (d:=x)
    have g1':=AG (W:=W)
    have ql:(((W.ties.map cx).length:Nat):Int)=(W.ties.length:Int):=by simp
    have hg:ao 3 x [some (.d (ay W)),some (.d thing),some (.l (tk.map .int)),v3]=some [some (.d (ay W)),some (.d thing),some (.l (tk.map .int)),some (.d x)]:=rfl
    cases c:bM 0 ((W.ties.length:Int) - 1) x with
    | false=>
      have hb:aQ [some (.d (ay W)),some (.d thing),some (.l (tk.map .int)),some (.d x)]=some (.rt (.d (.bool false)) [some (.d (ay W)),some (.d thing),some (.l (tk.map .int)),some (.d x)]):=by
        generalize tk.map PyData.int=TK at*
        generalize W.ties.map cx=TT at*
        cases hn:AH x with
        | false=>
          rw [tV] at hn
          generalize ro x=a at*
          generalize rm x=b at*
          cases a<;>cases b<;>first | (simp at hn;done) | simp? [aQ,q1,q2]
        | true=>
          cases x with
          | int i=>
            have k1:ro (.int i)=true:=rfl
            have k2:rm (.int i)=false:=rfl
            rw [k1] at q1
            rw [k2] at q2
            by_cases k3:0≤i
            · have k4:(W.ties.length:Int)≤i:=by
                by_cases q:(W.ties.length:Int)≤i
                · exact q
                · have:bM 0 ((W.ties.length:Int) - 1) (.int i)=true:=by
                    simp only [bM,Bool.and_eq_true,decide_eq_true_eq]
                    lia
                  rw [this] at c;cases c
              have k5:¬i < (W.ties.length:Int):=by lia
              simp? [aQ,q1,q2,cK,k3,k4,k5,g1',ql]
            · simp? [aQ,q1,q2,cK,k3,g1',ql]
          | _=>cases hn
      refine⟨some (.l (tk.map .int)),some (.d x),?_⟩
      simp only [gW,hg,Option.bind_some,hb,List.all_cons,c,Bool.false_and,Bool.false_eq_true,if_false]
    | true=>
      obtain⟨i,rfl,i0,i1⟩:=dP c
      have hI:jR W i:=⟨by lia,by lia⟩
      have ai:=hZ hI
      have k1:ro (.int i)=true:=rfl
      have k2:rm (.int i)=false:=rfl
      rw [k1] at q1
      rw [k2] at q2
      have k4:¬(W.ties.length:Int)≤i:=by lia
      have k5:i < (W.ties.length:Int):=by lia
      have gc:∀(e:En) (xs ys:List PyData),e[2]?=some (some (.l xs))→xs.length+ys.length≤1000000→aY e (.s 2) (.l ys)=some (.l (xs++ys)):=fun e xs ys he h=>jJ he h
      simp only [List.length_cons] at hl
      have lt:(tk.map PyData.int).length+2≤1000000:=by rw [List.length_map];lia
      have gl:∀(e:En) (xs:List PyData),g1 gH e [.d (.tuple xs)]=some (.l xs):=fun e xs=>rfl
      have hb:aQ [some (.d (ay W)),some (.d thing),some (.l (tk.map .int)),some (.d (.int i))]=some (.nx [some (.d (ay W)),some (.d thing),some (.l ((tk++[(W.tie i).one,(W.tie i).other]).map .int)),some (.d (.int i))]):=by
        rw [List.map_append]
        simp only [List.map_cons,List.map_nil]
        unfold cx at ai
        generalize tk.map PyData.int=TK at*
        generalize (W.tie i).one=o1 at*
        generalize (W.tie i).other=o2 at*
        unfold cx at g1' ql
        generalize (W.ties.map fun t=>PyData.tuple [.int t.one,.int t.other,.tuple [.int t.top,.int t.bot],.int t.worth])=TT at*
        simp? [aQ,q1,q2,cK,i0,k4,k5,g1',ql,ai,gl,gc,lt]
      obtain⟨w2,w3,ih⟩:=yr ok (thing:=thing) r (tk++[(W.tie i).one,(W.tie i).other]) (some (.d (.int i))) (by rw [List.length_append];simp;lia)
      refine⟨w2,w3,?_⟩
      simp only [gW,hg,Option.bind_some,hb,List.all_cons,c,Bool.true_and]
      rw [if_pos bg,ih,List.map_cons,show aI W (eZ (.int i)::r.map eZ)=[(W.tie i).one,(W.tie i).other]++aI W (r.map eZ) from rfl,List.append_assoc]
def Ln(d:PyData):Prop:=∀ds,d=.tuple ds→ds.length≤60
theorem pP{W:bE}(ok:W.Ok){d:PyData}(hl:Ln d):bB [.d (ay W),.d d]=some (.d (.bool (kX W d)),[.d (ay W),.d d]):=by
  have gt:=fun e=>tP (e:=e) (d:=d)
  cases c0:v0 d with
  | false=>
    rw [c0] at gt
    have e:kX W d=false:=by cases d<;>first | rfl | cases c0
    rw [e]
    simp? [bB,dF,gt]
  | true=>
    rw [c0] at gt
    obtain⟨ds,rfl⟩:=qj c0
    have hz:=hl ds rfl
    obtain⟨w2,w3,hf⟩:=yr ok (thing:=.tuple ds) ds [] none (by simp;lia)
    have hs:∀Wl,cI Wl dX (ao 3) aQ [some (.d (ay W)),some (.d (.tuple ds)),some (.l []),none]=some (if ds.all (bM 0 ((W.ties.length:Int) - 1))=true then .nx [some (.d (ay W)),some (.d (.tuple ds)),some (.l (([]++aI W (ds.map eZ)).map .int)),w3] else .rt (.d (.bool false)) [some (.d (ay W)),some (.d (.tuple ds)),w2,w3]):=fun Wl=>by
      rw [cZ (show dX _=_ from mQ rfl)]
      exact hf
    cases c:ds.all (bM 0 ((W.ties.length:Int) - 1)) with
    | false=>
      rw [c] at hs
      simp only [Bool.false_eq_true,if_false] at hs
      have e:kX W (.tuple ds)=false:=by
        cases c2:jE (W.ties.length:Int) 0 ds with
        | false=>simp only [kX,c2,Bool.false_and]
        | true=>rw [pG (Int.le_refl _) c2] at c;cases c
      rw [e]
      simp? [bB,dF,gt,hs]
    | true=>
      rw [c] at hs
      simp only [if_true,List.nil_append] at hs
      obtain⟨ns,rfl,hk⟩:=ny c
      rw [List.length_map] at hz
      rw [iq] at hs
      have gl:∀(e:En),g1 gH e [.d (.tuple (ns.map .int))]=some (.l (ns.map .int)):=fun e=>rfl
      have gs:=fun e=>kg (e:=e) (ns:=ns) (by lia)
      have gq:=fun e=>vV (e:=e) (ns:=ns) (ms:=a8 (fD ns))
      rw [Ad hk] at gq
      have e:kX W (.tuple (ns.map .int))=(jE (W.ties.length:Int) 0 (ns.map .int)&&decide ((aI W ns).Nodup)):=by simp only [kX,iq]
      rw [e]
      have he:=j5 W ns
      have gn:∀e:En,e[2]?=some (some (.l ((aI W ns).map .int)))→dG e (.s 2)=some (.d (.int (fD (aI W ns)).length)):=fun e h=>ka h (by lia)
      have ge:∀e:En,cB false e (.d (.int ((fD (aI W ns)).length:Int))) (.d (.int ((aI W ns).length:Int)))=some (.d (.bool (decide (aI W ns).Nodup))):=fun e=>by
        rw [ii]
        refine congrArg (fun z=>some (Rv.d (.bool z))) ?_
        rw [Bool.eq_iff_iff,decide_eq_true_iff,←p7]
        simp
        lia
      have qe:((((aI W ns).map PyData.int).length:Nat):Int)=((aI W ns).length:Int):=by simp
      generalize decide (aI W ns).Nodup=bb at*
      generalize jE (W.ties.length:Int) 0 (ns.map .int)=b1 at*
      generalize (fD (aI W ns)).length=l1 at*
      generalize (aI W ns).length=l2 at*
      generalize (aI W ns).map PyData.int=EE at*
      generalize (a8 (fD ns)).map PyData.int=SS at*
      generalize ns.map PyData.int=NN at*
      cases b1<;>simp? [bB,dF,gt,hs,gl,gs,gq,gn,qe,ge,jy,dr]
theorem C7(ks:List Int)(lo hi:Option Int):∃ms:List Int,L2.cutD (ks.map .int) lo hi=ms.map .int∧ms.length≤ks.length∧∀k∈ms,k∈ks:=by
  refine⟨(ks.drop (HT.sIx (ks.map PyData.int).length 0 lo)).take (HT.sIx (ks.map PyData.int).length (ks.map PyData.int).length hi - HT.sIx (ks.map PyData.int).length 0 lo),?_,?_,fun k hk=>List.mem_of_mem_drop (List.mem_of_mem_take hk)⟩
  · unfold L2.cutD
    rw [List.map_take,List.map_drop]
  · rw [List.length_take,List.length_drop];lia
def vB(x:PyData):PyData:=match x with
  | .int i=>if i < 2 then .bool (i==1) else .int i
  | d=>d
theorem iv{x:PyData}{xs:List PyData}{lo hi:Option Int}(h:x∈L2.cutD xs lo hi):x∈xs:=List.mem_of_mem_drop (List.mem_of_mem_take h)
def vJ(NN S1 S2:List PyData)(at_ tie tl:Int)(o:PyData):List PyData:=[.tuple NN,.tuple (L2.cutD NN none (some at_)++[.int tie]++L2.cutD NN (some at_) none),.tuple S1,.tuple (L2.cutD NN none (some at_)++L2.cutD NN (some (at_+1)) none),.tuple (NN++L2.cutD NN (some (-1)) none),.tuple NN.reverse,.list NN,.tuple (L2.cutD NN none (some at_)++[o]++L2.cutD NN (some at_) none),o,.tuple (NN++[.int tl]),.tuple ([.int (-1)]++NN),.tuple S2,.tuple (NN.map vB)]
theorem Ak:∀d∈ul,(∃b,Sw b 1000 4 d)∧Ln d:=fun d h=>by
  have s0:PyData.strOk ""=true:=bz _
  have s1:PyData.strOk "a"=true:=bz _
  have s2:PyData.strOk "0"=true:=bz _
  have k0:("":Str).length≤10:=by decide
  have k1:("a":Str).length≤10:=by decide
  have k2:("0":Str).length≤10:=by decide
  have yes:∀d,sk 4 d=true→wt d≤9→∃b,Sw b 1000 4 d:=fun d hd hw=>⟨false,(jX hd).sw.mono (by lia) (by lia)⟩
  unfold ul at h
  simp only [List.mem_cons,List.not_mem_nil,or_false] at h
  refine⟨?_,?_⟩
  · rcases h with rfl | rfl | rfl | rfl | rfl | rfl | rfl | rfl | rfl | rfl | rfl | rfl | rfl | rfl | rfl | rfl | rfl | rfl | rfl | rfl | rfl | rfl | rfl | rfl | rfl | rfl | rfl
    all_goals first
      | exact yes _ (by first | rfl | decide | (simp only [sk,kJ,s0,s1,s2,k0,k1,k2];first | done | decide)) (by first | decide | (simp only [wt,kW];decide))
      | exact⟨true,⟨rfl,by decide+kernel,by simp [PyData.depth,PyData.depthKv],by decide+kernel,by decide+kernel⟩⟩
  · rcases h with rfl | rfl | rfl | rfl | rfl | rfl | rfl | rfl | rfl | rfl | rfl | rfl | rfl | rfl | rfl | rfl | rfl | rfl | rfl | rfl | rfl | rfl | rfl | rfl | rfl | rfl | rfl
    all_goals (intro ds e;first | (cases e;done) | (cases e;decide))
theorem vK{rs s1 s2:List Int}{at_ tie tl:Int}{o:PyData}(hr:∀r∈rs,0≤r∧r < 16)(hrl:rs.length≤16)(h1:∀r∈s1,0≤r∧r < 16)(l1:s1.length≤17)(h2:∀r∈s2,0≤r∧r < 16)(l2:s2.length≤17)(ht:0≤tie∧tie < 16)(hT:0≤tl∧tl≤16)(hO:(∃b,Sw b 1000 4 o)∧Ln o):∀d∈vJ (rs.map .int) (s1.map .int) (s2.map .int) at_ tie tl o,(∃b,Sw b 40005 5 d)∧Ln d:=fun d hd=>by
  have eI:∀{ns:List Int},(∀r∈ns,0≤r∧r < 16)→∀b,∀d∈ns.map PyData.int,Sw b 1000 4 d:=fun h b d hd=>by
    obtain⟨r,hr',rfl⟩:=List.mem_map.mp hd
    exact(Sw.int (by have:=h r hr';lia)).mono (by decide) (by decide)
  have eN:=fun b=>eI hr b
  have e1:=fun b=>eI h1 b
  have e2:=fun b=>eI h2 b
  have eT:∀b,Sw b 1000 4 (.int tie):=fun b=>(Sw.int (by lia)).mono (by decide) (by decide)
  have eL:∀b,Sw b 1000 4 (.int tl):=fun b=>(Sw.int (by lia)).mono (by decide) (by decide)
  have eM:∀b,Sw b 1000 4 (.int (-1)):=fun b=>(Sw.int (by decide)).mono (by decide) (by decide)
  have eB:∀b,∀d∈(rs.map PyData.int).map vB,Sw b 1000 4 d:=fun b d hd=>by
    obtain⟨x,hx,rfl⟩:=List.mem_map.mp hd
    obtain⟨r,hr',rfl⟩:=List.mem_map.mp hx
    unfold vB
    simp only
    split
    · exact Sw.bool.mono (by decide) (by decide)
    · exact(Sw.int (by have:=hr r hr';lia)).mono (by decide) (by decide)
  have lN:(rs.map PyData.int).length≤16:=by simpa using hrl
  have k1:(s1.map PyData.int).length≤17:=by simpa using l1
  have k2:(s2.map PyData.int).length≤17:=by simpa using l2
  have lB:((rs.map PyData.int).map vB).length≤16:=by simpa using hrl
  have up:∀{b xs},(∀d∈xs,Sw b 1000 4 d)→xs.length≤40→(∃b,Sw b 40005 5 (.tuple xs))∧Ln (.tuple xs):=fun{b xs} h l=>⟨⟨b,Sw.tup (n:=1000) (dep:=4) (m:=40) h l⟩,fun ds e=>by cases e;lia⟩
  unfold vJ at hd
  generalize (rs.map PyData.int).map vB=BB at*
  generalize rs.map PyData.int=NN at*
  generalize s1.map PyData.int=S1 at*
  generalize s2.map PyData.int=S2 at*
  have cl:∀lo hi,(L2.cutD NN lo hi).length≤16:=fun lo hi=>Nat.le_trans L2.cut_len lN
  obtain⟨⟨bo,hO⟩,hO2⟩:=hO
  have mid:∀{b x},Sw b 1000 4 x→(∃b,Sw b 40005 5 (.tuple (L2.cutD NN none (some at_)++[x]++L2.cutD NN (some at_) none)))∧Ln (.tuple (L2.cutD NN none (some at_)++[x]++L2.cutD NN (some at_) none)):=fun{b x} hx=>by
    have l1:=cl none (some at_);have l2:=cl (some at_) none
    refine up (b:=b) (fun d hd=>?_) (by simp only [List.length_append,List.length_cons,List.length_nil];lia)
    rcases List.mem_append.mp hd with h | h
    · rcases List.mem_append.mp h with h | h
      · exact eN b d (iv h)
      · simp at h;subst h;exact hx
    · exact eN b d (iv h)
  simp only [List.mem_cons,List.not_mem_nil,or_false] at hd
  rcases hd with rfl | rfl | rfl | rfl | rfl | rfl | rfl | rfl | rfl | rfl | rfl | rfl | rfl
  · exact up (eN true) (by lia)
  · exact mid (eT true)
  · exact up (e1 true) (by lia)
  · refine up (b:=true) (fun d hd=>?_) (by have:=cl none (some at_);have:=cl (some (at_+1)) none;simp only [List.length_append];lia)
    rcases List.mem_append.mp hd with h | h
    · exact eN _ d (iv h)
    · exact eN _ d (iv h)
  · refine up (b:=true) (fun d hd=>?_) (by have:=cl (some (-1)) none;simp only [List.length_append];lia)
    rcases List.mem_append.mp hd with h | h
    · exact eN _ d h
    · exact eN _ d (iv h)
  · exact up (b:=true) (fun d hd=>eN _ d (List.mem_reverse.mp hd)) (by rw [List.length_reverse];lia)
  · exact⟨⟨false,Sw.lst (n:=1000) (dep:=4) (m:=40) (eN _) (by lia)⟩,fun ds e=>by cases e⟩
  · exact mid hO
  · exact⟨⟨bo,hO.mono (by decide) (by decide)⟩,hO2⟩
  · refine up (b:=true) (fun d hd=>?_) (by simp only [List.length_append,List.length_cons,List.length_nil];lia)
    rcases List.mem_append.mp hd with h | h
    · exact eN _ d h
    · simp at h;subst h;exact eL _
  · refine up (b:=true) (fun d hd=>?_) (by simp only [List.length_append,List.length_cons,List.length_nil];lia)
    rcases List.mem_append.mp hd with h | h
    · simp at h;subst h;exact eM _
    · exact eN _ d h
  · exact up (e2 true) (by lia)
  · exact up (eB true) (by lia)
theorem vQ{ns:List Int}:∀{x:Int},x∈fD ns→x∈ns:=by
  have go:∀(l acc:List Int) (x:Int),x∈l.foldl step_dedup acc→x∈acc∨x∈l:=fun l=>by
    induction l with
    | nil=>exact fun acc x h=>.inl h
    | cons y r ih=>
      intro acc x h
      rcases ih _ x h with h | h
      · unfold step_dedup at h
        split at h
        · exact .inl h
        · rcases List.mem_append.mp h with h | h
          · exact .inl h
          · simp at h;subst h;exact .inr (by simp)
      · exact .inr (by simp [h])
  intro x h
  rcases go ns [] x h with h | h
  · cases h
  · exact h
theorem vq{W:bE}(ok:W.Ok){rs:List Int}{n:Int}{o:PyData}(hn:0≤n)(hr:∀r∈rs,0≤r∧r < 16)(hrl:rs.length≤16)(hO:(∃b,Sw b 1000 4 o)∧Ln o):
    ∃d,ko [.d (ay W),.d (.tuple (rs.map .int)),.d (.int n),.d o]=some (.d d,[.d (ay W),.d (.tuple (rs.map .int)),.d (.int n),.d o])∧(∃b,Sw b 40005 5 d)∧Ln d:=by
  have g1':=AG (W:=W)
  have wl:=ok.len
  have lp:0 < (rs.length:Int)+1:=by lia
  have gm1:∀e:En,aN e (.d (.int n)) (.d (.int ((rs.length:Int)+1)))=some (.d (.int (n % ((rs.length:Int)+1)))):=fun e=>az lp
  generalize n % ((rs.length:Int)+1)=at_ at*
  have b17:Bt 8000 17:=fN (by decide) (by decide)
  have b300:Bt 8000 300:=fN (by decide) (by decide)
  have f17:∀e:En,cC e (.d (.int n)) (.d (.int 17))=some (.d (.int (n / 17))):=fun e=>cj (by decide) b17
  have f300:∀e:En,cC e (.d (.int n)) (.d (.int 300))=some (.d (.int (n / 300))):=fun e=>cj (by decide) b300
  have mp:0 < max 1 (W.ties.length:Int):=by lia
  have gm2:∀e:En,aN e (.d (.int (n / 17))) (.d (.int (max 1 (W.ties.length:Int))))=some (.d (.int (n / 17 % max 1 (W.ties.length:Int)))):=fun e=>az mp
  have x0:=qX (n:=n / 17) mp;have x1:=qY (n:=n / 17) mp
  have ht:0≤n / 17 % max 1 (W.ties.length:Int)∧n / 17 % max 1 (W.ties.length:Int) < 16:=⟨x0,by lia⟩
  generalize n / 17 % max 1 (W.ties.length:Int)=tie at*
  have gm3:∀e:En,aN e (.d (.int (n / 300))) (.d (.int 13))=some (.d (.int (n / 300 % 13))):=fun e=>az (by decide)
  have c0:=qX (n:=n / 300) (k:=13) (by decide);have c1:=qY (n:=n / 300) (k:=13) (by decide)
  generalize n / 300 % 13=q at*
  obtain⟨cs,hcs,csl,csm⟩:=C7 rs (some 1) none
  have s1:=fun e=>tO (e:=e) (ns:=rs++[tie]) (by simp;lia)
  have s2:=fun e=>kg (e:=e) (ns:=cs++[tie]) (by simp;lia)
  simp only [List.map_append,List.map_cons,List.map_nil] at s1 s2
  have p1:=cV (rs++[tie])
  have p2:=cV (fD (cs++[tie]))
  have r1:∀r∈a8 (rs++[tie]),0≤r∧r < 16:=fun r h=>by
    rcases List.mem_append.mp (p1.mem_iff.mp h) with h | h
    · exact hr r h
    · simp at h;subst h;exact ht
  have r2:∀r∈a8 (fD (cs++[tie])),0≤r∧r < 16:=fun r h=>by
    rcases List.mem_append.mp (vQ (p2.mem_iff.mp h)) with h | h
    · exact hr r (csm r h)
    · simp at h;subst h;exact ht
  have m1:(a8 (rs++[tie])).length≤17:=by rw [p1.length_eq];simp;lia
  have m2:(a8 (fD (cs++[tie]))).length≤17:=by
    rw [p2.length_eq]
    refine Nat.le_trans (gT _) ?_
    simp;lia
  obtain⟨d,hd,ha⟩:=gP (xs:=vJ (rs.map .int) ((a8 (rs++[tie])).map .int) ((a8 (fD (cs++[tie]))).map .int) at_ tie (W.ties.length:Int) o) (i:=q) c0 c1
  refine⟨d,?_,vK hr hrl r1 m1 r2 m2 ht ⟨by lia,by lia⟩ hO d hd⟩
  have qtl:((W.ties.map cx).length:Int)=(W.ties.length:Int):=by simp
  have qrl:((rs.map PyData.int).length:Int)=(rs.length:Int):=by simp
  have lN:(rs.map PyData.int).length≤16:=by simpa using hrl
  obtain⟨t1,hf1⟩:=iL (cs:=[]) (ft:=gu) (fe:=eD) (b:=fun _=>true) (y:=vB) (rs.map .int) none [] (fun x hx=>rfl) (fun x hx _=>by
    obtain⟨z,hz,rfl⟩:=List.mem_map.mp hx
    have gi:∀(e:En) (b:Bool),g1 nU e [.d (.bool b)]=some (.d (.int (if b=true then 1 else 0))):=fun e b=>by cases b<;>rfl
    have ge:∀e:En,cB false e (.d (.int z)) (.d (.int 1))=some (.d (.bool (z==1))):=fun e=>by rw [ii];rfl
    show eD [some (.d (.int z))]=some (.d (vB (.int z)),[some (.d (.int z))])
    unfold vB
    simp only
    generalize (z==1)=b1 at*
    by_cases c:z < 2
    · have gl:∀e:En,tG e (.d (.int z)) (.d (.int 2))=some (.d (.bool true)):=fun e=>by
        have:decide (z < 2)=true:=decide_eq_true c
        rw [←this];rfl
      rw [if_pos c]
      simp? [eD,gl,gi,ge]
    · have gl:∀e:En,tG e (.d (.int z)) (.d (.int 2))=some (.d (.bool false)):=fun e=>by
        have:decide (z < 2)=false:=decide_eq_false c
        rw [←this];rfl
      rw [if_neg c]
      simp? [eD,gl,gi,ge]) (by simp;lia)
  have hv:=fun v7=>oR (cp:=[]) (nT:=1) (fi:=n9) (g:=ao 0) (ft:=gu) (fe:=eD) (e:=[some (.d (ay W)),some (.d (.tuple (rs.map .int))),some (.d (.int n)),some (.d o),some (.d (.int at_)),some (.d (.int tie)),v7]) (cs:=[]) (t:=[none]) (t':=[t1]) rfl rfl rfl hf1
  rw [List.nil_append,q_] at hv
  have lB:((rs.map PyData.int).map vB).length≤16:=by simpa using hrl
  unfold vJ at ha
  rw [←hcs] at s2
  have lC:(L2.cutD (rs.map PyData.int) (some 1) none).length≤16:=Nat.le_trans L2.cut_len lN
  generalize (rs.map PyData.int).map vB=BB at*
  generalize (a8 (rs++[tie])).map PyData.int=S1 at*
  generalize (a8 (fD (cs++[tie]))).map PyData.int=S2 at*
  generalize rs.map PyData.int=NN at*
  generalize W.ties.map cx=TT at*
  generalize (rs.length:Int)=RL at*
  generalize (W.ties.length:Int)=TL at*
  have cl:∀lo hi,(L2.cutD NN lo hi).length≤16:=fun lo hi=>Nat.le_trans L2.cut_len lN
  have l1:=cl none (some at_);have l2:=cl (some (at_+1)) none;have l3:=cl (some (-1)) none;have l4:=cl (some at_) none
  have gc:∀(xs ys:List PyData),xs.length≤100→ys.length≤100→∀e:En,aY e (.d (.tuple xs)) (.d (.tuple ys))=some (.d (.tuple (xs++ys))):=fun xs ys h1 h2 e=>j9 (by lia)
  have gr:∀e:En,C9 e (.d (.tuple NN)) (.d (.int (-1)))=some (.d (.tuple NN.reverse)):=fun e=>rfl
  have gl:∀(e:En),g1 gH e [.d (.tuple NN)]=some (.l NN):=fun e=>rfl
  have gt:∀(e:En) (xs:List PyData),g1 cf e [.l xs]=some (.d (.tuple xs)):=fun e xs=>rfl
  have ca:∀(e:En) (xs ys:List PyData),e[6]?=some (some (.l xs))→xs.length+ys.length≤1000000→aY e (.s 6) (.l ys)=some (.l (xs++ys)):=fun e xs ys he h=>jJ he h
  have k1:=gc (L2.cutD NN none (some at_)) [.int tie] (by lia) (by simp)
  have k2:=gc (L2.cutD NN none (some at_)++[.int tie]) (L2.cutD NN (some at_) none) (by simp;lia) (by lia)
  have k3:=gc NN [.int tie] (by lia) (by simp)
  have k4:=gc (L2.cutD NN none (some at_)) (L2.cutD NN (some (at_+1)) none) (by lia) (by lia)
  have k5:=gc NN (L2.cutD NN (some (-1)) none) (by lia) (by lia)
  have k6:=gc (L2.cutD NN none (some at_)) [o] (by lia) (by simp)
  have k7:=gc (L2.cutD NN none (some at_)++[o]) (L2.cutD NN (some at_) none) (by simp;lia) (by lia)
  have k8:=gc NN [.int TL] (by lia) (by simp)
  have k9:=gc [.int (-1)] NN (by simp) (by lia)
  have k10:=gc (L2.cutD NN (some 1) none) [.int tie] (by lia) (by simp)
  generalize L2.cutD NN (some 1) none++[.int tie]=E0 at*
  generalize hH:L2.cutD NN (some 1) none=H at*
  generalize L2.cutD NN none (some at_)++[.int tie]++L2.cutD NN (some at_) none=E1 at*
  generalize L2.cutD NN none (some at_)++[o]++L2.cutD NN (some at_) none=E2 at*
  generalize L2.cutD NN none (some at_)++[.int tie]=E3 at*
  generalize L2.cutD NN none (some at_)++[o]=E4 at*
  generalize L2.cutD NN none (some at_)++L2.cutD NN (some (at_+1)) none=E5 at*
  generalize NN++[.int tie]=E6 at*
  generalize NN++[.int TL]=E7 at*
  generalize [PyData.int (-1)]++NN=E8 at*
  generalize hA:L2.cutD NN none (some at_)=A at*
  generalize hB:L2.cutD NN (some (at_+1)) none=B at*
  generalize hF:L2.cutD NN (some at_) none=F at*
  generalize NN++L2.cutD NN (some (-1)) none=E9 at*
  generalize hC:L2.cutD NN (some (-1)) none=C at*
  generalize NN.reverse=NR at*
  have hm:∀(v4 v5 v6:Option Sv),∃w6,oX [some (.d (ay W)),some (.d (.tuple NN)),some (.d (.int n)),some (.d o),v4,v5,v6]=some (.rt (.d d) [some (.d (ay W)),some (.d (.tuple NN)),some (.d (.int n)),some (.d o),some (.d (.int at_)),some (.d (.int tie)),w6]):=fun v4 v5 v6=>by
    unfold oX
    refine⟨some (.l [.tuple NN,.tuple E1,.tuple S1,.tuple E5,.tuple E9,.tuple NR,.list NN,.tuple E2,o,.tuple E7,.tuple E8,.tuple S2]),?_⟩
    refine(bu (e1:=[some (.d (ay W)),some (.d (.tuple NN)),some (.d (.int n)),some (.d o),some (.d (.int at_)),v5,v6]) ?_).trans ?_
    · simp? [qrl,gm1]
    refine(bu (e1:=[some (.d (ay W)),some (.d (.tuple NN)),some (.d (.int n)),some (.d o),some (.d (.int at_)),some (.d (.int tie)),v6]) ?_).trans ?_
    · simp? [qtl,g1',f17,gm2]
    refine(bu (e1:=[some (.d (ay W)),some (.d (.tuple NN)),some (.d (.int n)),some (.d o),some (.d (.int at_)),some (.d (.int tie)),some (.l [.tuple NN,.tuple E1,.tuple S1])]) ?_).trans ?_
    · simp? [hA,hF,k1,k2,k3,s1,gt, -bF,bF]
    refine(bu (e1:=[some (.d (ay W)),some (.d (.tuple NN)),some (.d (.int n)),some (.d o),some (.d (.int at_)),some (.d (.int tie)),some (.l [.tuple NN,.tuple E1,.tuple S1,.tuple E5])]) ?_).trans ?_
    · simp? [hA,hB,k4, -bF,bF]
    refine(bu (e1:=[some (.d (ay W)),some (.d (.tuple NN)),some (.d (.int n)),some (.d o),some (.d (.int at_)),some (.d (.int tie)),some (.l [.tuple NN,.tuple E1,.tuple S1,.tuple E5,.tuple E9,.tuple NR,.list NN,.tuple E2,o])]) ?_).trans ?_
    · simp? [hA,hF,hC,k5,k6,k7,gr,gl,CA,ca, -bF,bF]
    refine(bu (e1:=[some (.d (ay W)),some (.d (.tuple NN)),some (.d (.int n)),some (.d o),some (.d (.int at_)),some (.d (.int tie)),some (.l [.tuple NN,.tuple E1,.tuple S1,.tuple E5,.tuple E9,.tuple NR,.list NN,.tuple E2,o,.tuple E7,.tuple E8,.tuple S2])]) ?_).trans ?_
    · simp? [hH,k8,k9,k10,s2,qtl,g1',gt,ca, -bF,bF]
    · simp? [hv,ca,f300,gm3,ha,gt, -bF,bF]
  obtain⟨w6,hm⟩:=hm none none none
  simp? [ko,hm]
theorem AB{W:bE}(ok:W.Ok)(b:Bool):Sw b 64025 5 (ay W):=by
  have t0:=ok.t0;have t1:=ok.t1;have a0:=ok.a0;have a1:=ok.a1;have wl:=ok.len;have pl:=ok.pl
  have T2:∀d∈W.ties.map cx,Sw b 1000 3 d:=fun d hd=>by
    obtain⟨t,ht,rfl⟩:=List.mem_map.mp hd
    have o:=ok.ties t ht
    have o0:=o.o0;have o1:=o.o1;have o2:=o.o2;have c0:=o.c0;have c1:=o.c1;have b1:=o.b1;have w0:=o.w0;have w1:=o.w1
    have hd:sk 2 (cx t)=true:=by
      simp only [cx,sk,kJ,Bool.and_eq_true,decide_eq_true_eq,Nat.reducePow]
      exact⟨by decide,by lia,by lia,⟨by decide,by lia,by lia,trivial⟩,by lia,trivial⟩
    exact((jX hd).swF rfl b).mono (by simp [cx,wt,kW]) (by decide)
  have T3:Sw b 16005 4 (.tuple (W.ties.map cx)):=Sw.tup (n:=1000) (dep:=3) (m:=16) T2 (by simpa using wl)
  have P1:Sw b 16005 4 (.tuple (W.pat.map .int)):=(Sw.ints (m:=12) (fun r hr=>by have:=ok.pat r hr;lia) (by lia)).mono (by decide) (by decide)
  have i1:Sw b 16005 4 (.int W.things):=(Sw.int (by lia)).mono (by decide) (by decide)
  have i2:Sw b 16005 4 (.int W.asks):=(Sw.int (by lia)).mono (by decide) (by decide)
  exact Sw.tup (n:=16005) (dep:=4) (m:=4) (fun d hd=>by
    simp only [List.mem_cons,List.not_mem_nil,or_false] at hd
    rcases hd with rfl | rfl | rfl | rfl
    · exact i1
    · exact T3
    · exact P1
    · exact i2) (by simp)
abbrev dt(ns ds:List Int)(v2 v3 v4 v5 v6 v7 v8 v9 v10:Option Sv):En:=[some (.d (.list (ns.map .int))),some (.l (ds.map .int)),v2,v3,v4,v5,v6,v7,v8,v9,v10]
inductive LI (ns:List Int):En→Prop
  | mk {ds v2 v3 v4 v5 v6 v7 v8 v9 v10} (hd:fH ds):LI ns (dt ns ds v2 v3 v4 v5 v6 v7 v8 v9 v10)
inductive LJ (ns ks:List Int) (W:bE) (v2 v5 v6:Option Sv):En→Prop
  | mk {ds v7 v8 v9 v10} (hd:fH ds):LJ ns ks W v2 v5 v6 (dt ns ds v2 (some (.d (ay W))) (some (.d (.tuple (ks.map .int)))) v5 v6 v7 v8 v9 v10)
theorem B9{many:Int}{xs ys:List PyData}{x:PyData}(h:bM 0 (many - 1) x=false):jE many 0 (xs++[x]++ys)=false:=by
  cases c:jE many 0 (xs++[x]++ys) with
  | false=>rfl
  | true=>
    have:=pG (Int.le_refl _) c
    rw [List.all_append,List.all_append] at this
    simp only [List.all_cons,h,Bool.false_and,Bool.and_false] at this
    cases this
theorem Dm{ns ds ks:List Int}{W:bE}(ok:W.Ok){at_:Int}{v2 v6 v7 v8 v9 v10:Option Sv}(kl:ks.length≤16):∃w6,∀Wl,cI Wl Dc (ao 6) CK (dt ns ds v2 (some (.d (ay W))) (some (.d (.tuple (ks.map .int)))) (some (.d (.int at_))) v6 v7 v8 v9 v10)=some (.nx (dt ns ds v2 (some (.d (ay W))) (some (.d (.tuple (ks.map .int)))) (some (.d (.int at_))) w6 v7 v8 v9 v10)):=by
  have lN:(ks.map PyData.int).length≤16:=by simpa using kl
  obtain⟨e2,h1,⟨w6,rfl⟩⟩:=b6 (own:=[]) (g:=ao 6) (f:=CK) (fun i e=>∃v6,e=dt ns ds v2 (some (.d (ay W))) (some (.d (.tuple (ks.map .int)))) (some (.d (.int at_))) v6 v7 v8 v9 v10) [.list [],.dict [],.list [.int 0],.dict [(.int 0,.int 1)]] 0 (dt ns ds v2 (some (.d (ay W))) (some (.d (.tuple (ks.map .int)))) (some (.d (.int at_))) v6 v7 v8 v9 v10) (fun i x e hx ⟨v6,he⟩=>by
    subst he
    have hx':bM 0 ((W.ties.length:Int) - 1) x=false:=by
      have:=List.mem_of_getElem? hx
      simp only [List.mem_cons,List.not_mem_nil,or_false] at this
      rcases this with rfl | rfl | rfl | rfl<;>rfl
    have cl:∀lo hi,(L2.cutD (ks.map PyData.int) lo hi).length≤16:=fun lo hi=>Nat.le_trans L2.cut_len lN
    have l1:=cl none (some at_);have l2:=cl (some at_) none
    have tp:=gD ok (.tuple (L2.cutD (ks.map .int) none (some at_)++[x]++L2.cutD (ks.map .int) (some at_) none))
    rw [show kX W (.tuple (L2.cutD (ks.map .int) none (some at_)++[x]++L2.cutD (ks.map .int) (some at_) none))=false by simp only [kX,B9 hx',Bool.false_and]] at tp
    have s1:=vw false false
    have k1:∀e:En,aY e (.d (.tuple (L2.cutD (ks.map .int) none (some at_)))) (.d (.tuple [x]))=some (.d (.tuple (L2.cutD (ks.map .int) none (some at_)++[x]))):=fun e=>j9 (by simp;lia)
    have k2:∀e:En,aY e (.d (.tuple (L2.cutD (ks.map .int) none (some at_)++[x]))) (.d (.tuple (L2.cutD (ks.map .int) (some at_) none)))=some (.d (.tuple (L2.cutD (ks.map .int) none (some at_)++[x]++L2.cutD (ks.map .int) (some at_) none))):=fun e=>j9 (by simp;lia)
    refine⟨dt ns ds v2 (some (.d (ay W))) (some (.d (.tuple (ks.map .int)))) (some (.d (.int at_))) (some (.d x)) v7 v8 v9 v10,dt ns ds v2 (some (.d (ay W))) (some (.d (.tuple (ks.map .int)))) (some (.d (.int at_))) (some (.d x)) v7 v8 v9 v10,rfl,?_,bg,_,rfl⟩
    generalize ks.map PyData.int=KK at*
    generalize L2.cutD KK none (some at_)++[x]++L2.cutD KK (some at_) none=E1 at*
    generalize L2.cutD KK none (some at_)++[x]=E2 at*
    generalize hA:L2.cutD KK none (some at_)=A at*
    generalize hB:L2.cutD KK (some at_) none=B at*
    simp? [CK,hA,hB,k1,k2,tp,s1]) ⟨_,rfl⟩
  refine⟨w6,fun Wl=>?_⟩
  rw [cZ (items:=[.list [],.dict [],.list [.int 0],.dict [(.int 0,.int 1)]]) (e1:=dt ns ds v2 (some (.d (ay W))) (some (.d (.tuple (ks.map .int)))) (some (.d (.int at_))) v6 v7 v8 v9 v10) (show Dc (dt ns ds v2 (some (.d (ay W))) (some (.d (.tuple (ks.map .int)))) (some (.d (.int at_))) v6 v7 v8 v9 v10)=some ([.list [],.dict [],.list [.int 0],.dict [(.int 0,.int 1)]],[],dt ns ds v2 (some (.d (ay W))) (some (.d (.tuple (ks.map .int)))) (some (.d (.int at_))) v6 v7 v8 v9 v10) from yW (by simp? [jz]))]
  exact h1
theorem A0{ns ds ks:List Int}{W:bE}(ok:W.Ok){v2 v5 v6 v7 v8 v9 v10:Option Sv}(hd:fH ds)(hk:∀k∈ks,jR W k)(kl:ks.length≤16):∃e2,LJ ns ks W v2 v5 v6 e2∧∀Wl,cI Wl DP (ao 7) CJ (dt ns ds v2 (some (.d (ay W))) (some (.d (.tuple (ks.map .int)))) v5 v6 v7 v8 v9 v10)=some (.nx e2):=by
  have wl:=ok.len
  have hr:∀r∈ks,0≤r∧r < 16:=fun r h=>by
    obtain⟨a,b⟩:=hk r h
    exact⟨a,by lia⟩
  obtain⟨e2,h1,hI⟩:=b6 (own:=[]) (g:=ao 7) (f:=CJ) (fun _=>LJ ns ks W v2 v5 v6) (bx 0 8) 0 (dt ns ds v2 (some (.d (ay W))) (some (.d (.tuple (ks.map .int)))) v5 v6 v7 v8 v9 v10) (fun i x e hx hI=>by
    obtain⟨hd⟩:=hI
    rename_i ds v7 v8 v9 v10
    obtain⟨rfl,hi⟩:=cU hx
    obtain⟨m,d1,t1,a1,b1,hd1⟩:=gv hd
    obtain⟨n,tm,hn, -⟩:=m_ m (0+(i:Int)+2) (by lia) (by lia)
    generalize (0+(i:Int))=j at*
    have b4:Bt 8000 10000:=fN (by decide) (by decide)
    have f4:∀e:En,cC e (.d (.int n)) (.d (.int 10000))=some (.d (.int (n / 10000))):=fun e=>cj (by decide) b4
    obtain⟨o,ho,to⟩:=Ct (n / 10000)
    obtain⟨d,tb,⟨b,sd⟩,hln⟩:=vq ok (rs:=ks) (n:=n) (o:=o) hn hr kl (Ak o ho)
    have sA:Sw b (2*64025+5) 6 (.tuple [ay W,d]):=Sw.tup (n:=64025) (dep:=5) (m:=2) (fun x hx=>by
      simp only [List.mem_cons,List.not_mem_nil,or_false] at hx
      rcases hx with rfl | rfl
      · exact AB ok b
      · exact sd.mono (by decide) (by decide)) (by simp)
    have gr:=sA.repr (by decide) (by decide)
    have ge:=fun e=>sZ (e:=e) sA.so
    have p1:=gD ok d
    have p2:=pP ok hln
    have s1:=vw (kX W d) (kX W d)
    rw [beq_self_eq_true] at s1
    refine⟨dt ns ds v2 (some (.d (ay W))) (some (.d (.tuple (ks.map .int)))) v5 v6 (some (.d (.int j))) v8 v9 v10,dt ns d1 v2 (some (.d (ay W))) (some (.d (.tuple (ks.map .int)))) v5 v6 (some (.d (.int j))) (some (.d (.int n))) (some (.d d)) (some (.d (.str (PyData.tuple [ay W,d]).shown))),rfl,?_,bg,.mk hd1⟩
    generalize (PyData.tuple [ay W,d]).shown=SH at*
    generalize kX W d=bb at*
    generalize ks.map PyData.int=KK at*
    generalize ay W=WW at*
    simp? [CJ,t1,tm,f4,to,tb,gr,ge,p1,p2,s1]) (.mk hd)
  refine⟨e2,hI,fun Wl=>?_⟩
  rw [cZ (items:=bx 0 8) (e1:=dt ns ds v2 (some (.d (ay W))) (some (.d (.tuple (ks.map .int)))) v5 v6 v7 v8 v9 v10) rfl]
  exact h1
theorem ua{ns ds:List Int}{j:Int}{v3 v4 v5 v6 v7 v8 v9 v10:Option Sv}(hd:fH ds):∃e2,AZ (dt ns ds (some (.d (.int j))) v3 v4 v5 v6 v7 v8 v9 v10)=some (.nx e2)∧LI ns e2:=by
  obtain⟨W,d1,tw,hd1,ok, -, -⟩:=Cv ds 12 16 hd (by decide) (by decide) (by decide) (by decide)
  obtain⟨ks,d2,t2,hd2,nd,hk,kl,kd,kp⟩:=pO ok hd1
  obtain⟨m,d3,t3,a3,b3,hd3⟩:=gv hd2
  have lp:0 < (ks.length:Int)+1:=by lia
  have gm:∀e:En,aN e (.d (.int m)) (.d (.int ((ks.length:Int)+1)))=some (.d (.int (m % ((ks.length:Int)+1)))):=fun e=>az lp
  generalize m % ((ks.length:Int)+1)=at_ at*
  have p1:=gD ok (.tuple (ks.map .int))
  rw [show kX W (.tuple (ks.map .int))=true by
    simp only [kX,iq,Bool.and_eq_true,decide_eq_true_eq]
    refine⟨?_,kd⟩
    rw [pH ks 0 fun k hk'=>(hk k hk').2,decide_eq_true_iff]
    exact⟨kp,fun k hk'=>(hk k hk').1⟩] at p1
  have p2:=gD ok (.tuple [])
  rw [show kX W (.tuple [])=true by simp [kX,jE,aI]] at p2
  obtain⟨w6,h6⟩:=Dm (ns:=ns) (ds:=d3) (ks:=ks) ok (at_:=at_) (v2:=some (.d (.int j))) (v6:=v6) (v7:=v7) (v8:=v8) (v9:=v9) (v10:=v10) kl
  obtain⟨e2,hI,h8⟩:=A0 (ns:=ns) ok (v2:=some (.d (.int j))) (v5:=some (.d (.int at_))) (v6:=w6) (v7:=v7) (v8:=v8) (v9:=v9) (v10:=v10) hd3 hk kl
  have gi:∀e:En,j_ e (.d (.bool true)) (.d (.bool true))=some (.d (.bool false)):=fun e=>rfl
  have ql:((ks.map PyData.int).length:Int)=(ks.length:Int):=by simp
  refine⟨e2,?_,?_⟩
  · unfold AZ
    refine(bu (e1:=dt ns d1 (some (.d (.int j))) (some (.d (ay W))) v4 v5 v6 v7 v8 v9 v10) ?_).trans ?_
    · simp? [tw]
    refine(bu (e1:=dt ns d2 (some (.d (.int j))) (some (.d (ay W))) (some (.d (.tuple (ks.map .int)))) v5 v6 v7 v8 v9 v10) ?_).trans ?_
    · generalize ks.map PyData.int=KK at*
      simp? [t2]
    refine(bu (e1:=dt ns d2 (some (.d (.int j))) (some (.d (ay W))) (some (.d (.tuple (ks.map .int)))) v5 v6 v7 v8 v9 v10) ?_).trans ?_
    · generalize ks.map PyData.int=KK at*
      generalize ay W=WW at*
      simp? [p1,p2,gi]
    refine(bu (e1:=dt ns d3 (some (.d (.int j))) (some (.d (ay W))) (some (.d (.tuple (ks.map .int)))) (some (.d (.int at_))) v6 v7 v8 v9 v10) ?_).trans ?_
    · generalize (ks.length:Int)=KL at*
      generalize ks.map PyData.int=KK at*
      simp? [t3,ql,gm]
    refine(bu (h6 _)).trans (h8 _)
  · obtain⟨hd4⟩:=hI
    exact .mk hd4
theorem t_(ns:List Int)(hl:ns.length≤63):∃as',kz [.d (.list (ns.map .int))]=some (.d (.bool true),as'):=by
  obtain⟨ds,td,hd⟩:=xJ ns hl
  obtain⟨e2,h1,hI⟩:=b6 (own:=[]) (g:=ao 2) (f:=AZ) (fun _=>LI ns) (bx 0 4) 0 (dt ns ds none none none none none none none none none) (fun i x e hx hI=>by
    obtain⟨hd⟩:=hI
    rename_i ds v2 v3 v4 v5 v6 v7 v8 v9 v10
    obtain⟨rfl, -⟩:=cU hx
    obtain⟨e2,k1,k2⟩:=ua (ns:=ns) (j:=0+(i:Int)) (v3:=v3) (v4:=v4) (v5:=v5) (v6:=v6) (v7:=v7) (v8:=v8) (v9:=v9) (v10:=v10) hd
    exact⟨_,e2,rfl,k1,bg,k2⟩) (.mk hd)
  obtain⟨hd2⟩:=hI
  rename_i ds2 v2 v3 v4 v5 v6 v7 v8 v9 v10
  have hfor:∀Wl,cI Wl DQ (ao 2) AZ (dt ns ds none none none none none none none none none)=some (.nx (dt ns ds2 v2 v3 v4 v5 v6 v7 v8 v9 v10)):=fun Wl=>by
    rw [cZ (items:=bx 0 4) (e1:=dt ns ds none none none none none none none none none) rfl]
    exact h1
  simp? [kz,x6,td,hfor]
def kE(P:Params)(k:Str)(t:Tok)(v:Value):DictEntry:=⟨PyData.keyHash P k,.str k t,v⟩
def kF(n:Str)(s:Stmt)(doc pm:Value)(c:Addr):Obj:=⟨.type "function",none,.func (W.fnOf n n (cz s) (bS s) (aj s) .none .none doc pm none (.ref c) .none),#[]⟩
def kI(n:Int):Value:=.int n 0
def kC(n:Str)(a:Nat)(l:List Value)(z:Nat):Obj:=⟨.type "code",none,.fields (Value.str n a::Value.str n (a+1)::Value.str "/claim/cut.py" (a+2)::l++[Value.str "/claim/cut.py" z]).toArray,#[]⟩
def AI:Value:=.str "askedpairs.forms" 187
def DR:Value:=.str "askedpairs.stands" 215
def DS:Value:=.str "askedpairs.chargepaper" 225
def fZ:Value:=.str "law_askedpairs_k57_pairings_of_anything" 233
def kK(P:Params):W.Frag:=[(3,⟨.type "dict",none,.dict (List.toArray [kE P "__name__" 165 (.str "law_askedpairs_k57_pairings_of_anything" 233),kE P "__doc__" 166 (.none),kE P "__package__" 167 (.none),kE P "__loader__" 168 (.builtin "__main__.__loader__#opaque"),kE P "__spec__" 169 (.none),kE P "__annotations__" 170 (.ref 6),kE P "__builtins__" 171 (.ref 4),kE P "__file__" 173 (.str "/claim/cut.py" 172),kE P "__cached__" 174 (.none),kE P "is_number" 195 (.ref 21),kE P "is_number_within" 204 (.ref 28),kE P "is_rising_row" 214 (.ref 35),kE P "things_of" 224 (.ref 42),kE P "is_pairing" 232 (.ref 47),kE P "_law_mixed" 243 (.ref 54),kE P "_law_draws" 254 (.ref 61),kE P "_law_next" 261 (.ref 68),kE P "_law_gcd" 269 (.ref 75),kE P "_law_low" 278 (.ref 82),kE P "_law_says" 286 (.ref 89),kE P "_law_chance" 295 (.ref 96),kE P "_law_worth" 303 (.ref 103),kE P "_law_ties" 322 (.ref 110),kE P "_law_web" 338 (.ref 117),kE P "_law_odd" 346 (.ref 124),kE P "_law_full" 357 (.ref 131),kE P "_law_is_pairing" 367 (.ref 138),kE P "_law_pairing" 378 (.ref 145),kE P "_law_ends" 388 (.ref 152),kE P "_law_bent" 394 (.ref 157),kE P "law" 411 (.ref 164)]) 31,#[]⟩),
  (21,kF "is_number" cm (.none) AI 20),
  (20,kC "is_number" 189 [kI 2,kI 1,kI 0,kI 0,kI 3,.ref 15,.bool true,kI 181,.ref 16,.none,.ref 17,.ref 18,.ref 19,kI 193,kI 2] 194),
  (28,kF "is_number_within" aX (.none) AI 27),
  (27,kC "is_number_within" 196 [kI 4,kI 3,kI 0,kI 0,kI 3,.ref 22,.bool true,kI 181,.ref 23,.none,.ref 24,.ref 25,.ref 26,kI 202,kI 4] 203),
  (35,kF "is_rising_row" bi (.none) AI 34),
  (34,kC "is_rising_row" 205 [kI 6,kI 2,kI 0,kI 0,kI 3,.ref 29,.bool true,kI 181,.ref 30,.none,.ref 31,.ref 32,.ref 33,kI 212,kI 6] 213),
  (42,kF "things_of" cn (.none) DR 41),
  (41,kC "things_of" 217 [kI 16,kI 2,kI 0,kI 0,kI 3,.ref 36,.bool true,kI 181,.ref 37,.none,.ref 38,.ref 39,.ref 40,kI 222,kI 16] 223),
  (47,kF "is_pairing" bC (.none) DS 46),
  (46,kC "is_pairing" 227 [kI 19,kI 2,kI 0,kI 0,kI 3,.ref 43,.bool true,kI 181,.ref 44,.none,.none,.none,.ref 45,kI 230,kI 19] 231),
  (54,kF "_law_mixed" fv (.none) fZ 53),
  (53,kC "_law_mixed" 235 [kI 25,kI 2,kI 0,kI 0,kI 3,.ref 48,.bool true,kI 181,.ref 49,.none,.ref 50,.ref 51,.ref 52,kI 241,kI 25] 242),
  (61,kF "_law_draws" gB (.none) fZ 60),
  (60,kC "_law_draws" 244 [kI 28,kI 1,kI 0,kI 0,kI 3,.ref 55,.bool true,kI 181,.ref 56,.none,.ref 57,.ref 58,.ref 59,kI 252,kI 28] 253),
  (68,kF "_law_next" eu (.none) fZ 67),
  (67,kC "_law_next" 255 [kI 41,kI 1,kI 0,kI 0,kI 3,.ref 62,.bool true,kI 181,.ref 63,.none,.ref 64,.ref 65,.ref 66,kI 259,kI 41] 260),
  (75,kF "_law_gcd" l0 (.none) fZ 74),
  (74,kC "_law_gcd" 262 [kI 45,kI 2,kI 0,kI 0,kI 3,.ref 69,.bool true,kI 181,.ref 70,.none,.ref 71,.ref 72,.ref 73,kI 267,kI 45] 268),
  (82,kF "_law_low" l5 (.none) fZ 81),
  (81,kC "_law_low" 270 [kI 49,kI 2,kI 0,kI 0,kI 3,.ref 76,.bool true,kI 181,.ref 77,.none,.ref 78,.ref 79,.ref 80,kI 276,kI 49] 277),
  (89,kF "_law_says" i9 (.none) fZ 88),
  (88,kC "_law_says" 279 [kI 52,kI 2,kI 0,kI 0,kI 3,.ref 83,.bool true,kI 181,.ref 84,.none,.ref 85,.ref 86,.ref 87,kI 284,kI 52] 285),
  (96,kF "_law_chance" eJ (.none) fZ 95),
  (95,kC "_law_chance" 287 [kI 56,kI 2,kI 0,kI 0,kI 3,.ref 90,.bool true,kI 181,.ref 91,.none,.ref 92,.ref 93,.ref 94,kI 293,kI 56] 294),
  (103,kF "_law_worth" gC (.none) fZ 102),
  (102,kC "_law_worth" 296 [kI 66,kI 2,kI 0,kI 0,kI 3,.ref 97,.bool true,kI 181,.ref 98,.none,.ref 99,.ref 100,.ref 101,kI 301,kI 66] 302),
  (110,kF "_law_ties" i_ (.none) fZ 109),
  (109,kC "_law_ties" 304 [kI 68,kI 3,kI 0,kI 0,kI 3,.ref 104,.bool true,kI 181,.ref 105,.none,.ref 106,.ref 107,.ref 108,kI 320,kI 68] 321),
  (117,kF "_law_web" l7 (.none) fZ 116),
  (116,kC "_law_web" 323 [kI 83,kI 3,kI 0,kI 0,kI 3,.ref 111,.bool true,kI 181,.ref 112,.none,.ref 113,.ref 114,.ref 115,kI 336,kI 83] 337),
  (124,kF "_law_odd" l6 (.none) fZ 123),
  (123,kC "_law_odd" 339 [kI 93,kI 1,kI 0,kI 0,kI 3,.ref 118,.bool true,kI 181,.ref 119,.none,.ref 120,.ref 121,.ref 122,kI 344,kI 93] 345),
  (131,kF "_law_full" i8 (.none) fZ 130),
  (130,kC "_law_full" 347 [kI 97,kI 3,kI 0,kI 0,kI 3,.ref 125,.bool true,kI 181,.ref 126,.none,.ref 127,.ref 128,.ref 129,kI 355,kI 97] 356),
  (138,kF "_law_is_pairing" bX (.none) fZ 137),
  (137,kC "_law_is_pairing" 358 [kI 103,kI 2,kI 0,kI 0,kI 3,.ref 132,.bool true,kI 181,.ref 133,.none,.ref 134,.ref 135,.ref 136,kI 365,kI 103] 366),
  (145,kF "_law_pairing" dS (.none) fZ 144),
  (144,kC "_law_pairing" 368 [kI 112,kI 2,kI 0,kI 0,kI 3,.ref 139,.bool true,kI 181,.ref 140,.none,.ref 141,.ref 142,.ref 143,kI 376,kI 112] 377),
  (152,kF "_law_ends" i7 (.none) fZ 151),
  (151,kC "_law_ends" 379 [kI 119,kI 2,kI 0,kI 0,kI 3,.ref 146,.bool true,kI 181,.ref 147,.none,.ref 148,.ref 149,.ref 150,kI 386,kI 119] 387),
  (157,kF "_law_bent" hG (.none) fZ 156),
  (156,kC "_law_bent" 389 [kI 124,kI 4,kI 0,kI 0,kI 3,.ref 153,.bool true,kI 181,.ref 154,.none,.none,.none,.ref 155,kI 392,kI 124] 393),
  (164,kF "law" js (.none) fZ 163),
  (163,kC "law" 395 [kI 132,kI 1,kI 0,kI 0,kI 3,.ref 158,.bool true,kI 181,.ref 159,.none,.ref 160,.ref 161,.ref 162,kI 409,kI 132] 410)]
def kA:List Addr:=[3,21,20,28,27,35,34,42,41,47,46,54,53,61,60,68,67,75,74,82,81,89,88,96,95,103,102,110,109,117,116,124,123,131,130,138,137,145,144,152,151,157,156,164,163]
def kq:Program:={PySem.Challenge.pw_askedpairs_k57_pairings_of_anything with main:={PySem.Challenge.pw_askedpairs_k57_pairings_of_anything.main with body:=[top 1,top 2,top 3,top 5,top 7,top 9,top 10,top 11,top 12,top 13,top 14,top 15,top 16,top 17,top 18,top 19,top 20,top 21,top 22,top 23,top 24,top 25]}}
def kH:W.Hook:=W.kHook kK kA (fun _=>by kernel_rfl)
theorem left:W.LeftO PySem.Challenge.pw_askedpairs_k57_pairings_of_anything kq [] (fun s=>W.xlAt kq [] s&&W.recOk (W.RowW.records (W.OpenRow.toRowW (W.OpenLaw.row PySem.Challenge.rw_askedpairs_k57_pairings_of_anything))) s) (W.Hook.obs kH) (W.Hook.val kH) 1592:=fun w=>by kernel_rfl
theorem Bu{P:List Value→Prop}(h:∀a0,P [a0]):∀us:List Value,us.length=1→P us:=fun us e=>match us,e with | [a0],_=>h a0
theorem sj{P:List Value→Prop}(h:∀a0 a1,P [a0,a1]):∀us:List Value,us.length=2→P us:=fun us e=>match us,e with | [a0,a1],_=>h a0 a1
theorem CM{P:List Value→Prop}(h:∀a0 a1 a2,P [a0,a1,a2]):∀us:List Value,us.length=3→P us:=fun us e=>match us,e with | [a0,a1,a2],_=>h a0 a1 a2
theorem Eg{P:List Value→Prop}(h:∀a0 a1 a2 a3,P [a0,a1,a2,a3]):∀us:List Value,us.length=4→P us:=fun us e=>match us,e with | [a0,a1,a2,a3],_=>h a0 a1 a2 a3
abbrev hQ(w:World)(n:Str)(s:Stmt)(a c:Addr)(d p:Value):Prop:=(W.nsIn (kK w.params) mainGlobals n,List.lookup a (kK w.params),W.codeIn (kK w.params) (.ref c) n,W.keepIn (kK w.params) (.ref a))=(some (some (.ref a)),some (kF n s d p c),true,true)
theorem hm{w:World}{h:Heap}{mg:Str→Option Value}{n:Str}{s:Stmt}{a c:Addr}{d p:Value}{ps:List Str}(X:(kK w.params).In h)(G:h.Ns mainGlobals mg)
    (e:hQ w n s a c d p)
    (b:∀(kV doc pm:Value) (an:Option Addr) (cdv ct:Value) (us:List Value),us.length=ps.length→bindArgs (W.fnOf n n (cz s) (bS s) (aj s) .none kV doc pm an cdv ct) ⟨us,[]⟩=pure (ps.zip us)):
    bI (kK w.params) mg n s a (W.fnOf n n (cz s) (bS s) (aj s) .none .none d p none (.ref c) .none) ps:=yU X G (congrArg (·.1) e) (congrArg (·.2.1) e) (congrArg (·.2.2.1) e) (congrArg (·.2.2.2) e) b
theorem mS(w:World):hQ w "is_number" cm 21 20 (.none) AI:=by kernel_rfl
theorem gE(w:World):hQ w "is_number_within" aX 28 27 (.none) AI:=by kernel_rfl
theorem iP(w:World):hQ w "is_rising_row" bi 35 34 (.none) AI:=by kernel_rfl
theorem mT(w:World):hQ w "things_of" cn 42 41 (.none) DR:=by kernel_rfl
theorem lm(w:World):hQ w "is_pairing" bC 47 46 (.none) DS:=by kernel_rfl
theorem tZ(w:World):hQ w "_law_mixed" fv 54 53 (.none) fZ:=by kernel_rfl
theorem tY(w:World):hQ w "_law_draws" gB 61 60 (.none) fZ:=by kernel_rfl
theorem wj(w:World):hQ w "_law_next" eu 68 67 (.none) fZ:=by kernel_rfl
theorem y4(w:World):hQ w "_law_gcd" l0 75 74 (.none) fZ:=by kernel_rfl
theorem y6(w:World):hQ w "_law_low" l5 82 81 (.none) fZ:=by kernel_rfl
theorem wk(w:World):hQ w "_law_says" i9 89 88 (.none) fZ:=by kernel_rfl
theorem rC(w:World):hQ w "_law_chance" eJ 96 95 (.none) fZ:=by kernel_rfl
theorem t5(w:World):hQ w "_law_worth" gC 103 102 (.none) fZ:=by kernel_rfl
theorem wm(w:World):hQ w "_law_ties" i_ 110 109 (.none) fZ:=by kernel_rfl
theorem y9(w:World):hQ w "_law_web" l7 117 116 (.none) fZ:=by kernel_rfl
theorem y8(w:World):hQ w "_law_odd" l6 124 123 (.none) fZ:=by kernel_rfl
theorem wg(w:World):hQ w "_law_full" i8 131 130 (.none) fZ:=by kernel_rfl
theorem lj(w:World):hQ w "_law_is_pairing" bX 138 137 (.none) fZ:=by kernel_rfl
theorem pj(w:World):hQ w "_law_pairing" dS 145 144 (.none) fZ:=by kernel_rfl
theorem wf(w:World):hQ w "_law_ends" i7 152 151 (.none) fZ:=by kernel_rfl
theorem we(w:World):hQ w "_law_bent" hG 157 156 (.none) fZ:=by kernel_rfl
theorem y_(w:World):hQ w "law" js 164 163 (.none) fZ:=by kernel_rfl
theorem all_mk{l:W.OpenLaw}{w:World}{h:Heap}{mg:Str→Option Value}{fa:Addr}(X:(kK w.params).In h)(G:h.Ns mainGlobals mg)(hfa:mg "law"=some (.ref fa)):
    ∃fd:FuncData,(∀(s:Shared) (v:Value),BindsTo s fd ⟨[v],[]⟩ [("_law_script",v)])∧∀base:Heap,(kK w.params).In base→base.Ns mainGlobals mg→aP l.prog w (kK w.params) mg base cL 6 fa fd ["_law_script"] (cO (kK w.params) 1 kz):=by
  have e:=hfa.symm.trans (W.mg_of X G (show W.nsIn (kK w.params) mainGlobals "law"=some (some (.ref 164)) by kernel_rfl))
  cases e
  have T:jU mg:=⟨W.mg_none_of X G (show W.nsIn (kK w.params) mainGlobals "abs"=some none by kernel_rfl),W.mg_none_of X G (show W.nsIn (kK w.params) mainGlobals "len"=some none by kernel_rfl),W.mg_none_of X G (show W.nsIn (kK w.params) mainGlobals "min"=some none by kernel_rfl),W.mg_none_of X G (show W.nsIn (kK w.params) mainGlobals "max"=some none by kernel_rfl),W.mg_none_of X G (show W.nsIn (kK w.params) mainGlobals "range"=some none by kernel_rfl),W.mg_none_of X G (show W.nsIn (kK w.params) mainGlobals "repr"=some none by kernel_rfl),W.mg_none_of X G (show W.nsIn (kK w.params) mainGlobals "tuple"=some none by kernel_rfl),W.mg_none_of X G (show W.nsIn (kK w.params) mainGlobals "int"=some none by kernel_rfl),W.mg_none_of X G (show W.nsIn (kK w.params) mainGlobals "sorted"=some none by kernel_rfl),W.mg_none_of X G (show W.nsIn (kK w.params) mainGlobals "isinstance"=some none by kernel_rfl),W.mg_none_of X G (show W.nsIn (kK w.params) mainGlobals "bool"=some none by kernel_rfl),W.mg_none_of X G (show W.nsIn (kK w.params) mainGlobals "set"=some none by kernel_rfl),W.mg_none_of X G (show W.nsIn (kK w.params) mainGlobals "list"=some none by kernel_rfl)⟩
  have h_is_number:bI (kK w.params) mg "is_number" cm 21 _ ["thing"]:=hm X G (mS w) fun _ _ _ _ _ _=>Bu fun _=>rfl
  have h_is_number_within:bI (kK w.params) mg "is_number_within" aX 28 _ ["thing","low","high"]:=hm X G (gE w) fun _ _ _ _ _ _=>CM fun _ _ _=>rfl
  have h_is_rising_row:bI (kK w.params) mg "is_rising_row" bi 35 _ ["thing","many"]:=hm X G (iP w) fun _ _ _ _ _ _=>sj fun _ _=>rfl
  have h_things_of:bI (kK w.params) mg "things_of" cn 42 _ ["web","tie"]:=hm X G (mT w) fun _ _ _ _ _ _=>sj fun _ _=>rfl
  have h_is_pairing:bI (kK w.params) mg "is_pairing" bC 47 _ ["web","thing"]:=hm X G (lm w) fun _ _ _ _ _ _=>sj fun _ _=>rfl
  have hLmixed:bI (kK w.params) mg "_law_mixed" fv 54 _ ["_law_cell","_law_k"]:=hm X G (tZ w) fun _ _ _ _ _ _=>sj fun _ _=>rfl
  have hLdraws:bI (kK w.params) mg "_law_draws" gB 61 _ ["_law_script"]:=hm X G (tY w) fun _ _ _ _ _ _=>Bu fun _=>rfl
  have hLnext:bI (kK w.params) mg "_law_next" eu 68 _ ["_law_drawn"]:=hm X G (wj w) fun _ _ _ _ _ _=>Bu fun _=>rfl
  have hLgcd:bI (kK w.params) mg "_law_gcd" l0 75 _ ["_law_one","_law_other"]:=hm X G (y4 w) fun _ _ _ _ _ _=>sj fun _ _=>rfl
  have hLlow:bI (kK w.params) mg "_law_low" l5 82 _ ["_law_top","_law_bottom"]:=hm X G (y6 w) fun _ _ _ _ _ _=>sj fun _ _=>rfl
  have hLsays:bI (kK w.params) mg "_law_says" i9 89 _ ["_law_found","_law_due"]:=hm X G (wk w) fun _ _ _ _ _ _=>sj fun _ _=>rfl
  have hLchance:bI (kK w.params) mg "_law_chance" eJ 96 _ ["_law_number","_law_kind"]:=hm X G (rC w) fun _ _ _ _ _ _=>sj fun _ _=>rfl
  have hLworth:bI (kK w.params) mg "_law_worth" gC 103 _ ["_law_number","_law_kind"]:=hm X G (t5 w) fun _ _ _ _ _ _=>sj fun _ _=>rfl
  have hLties:bI (kK w.params) mg "_law_ties" i_ 110 _ ["_law_drawn","_law_things","_law_many"]:=hm X G (wm w) fun _ _ _ _ _ _=>CM fun _ _ _=>rfl
  have hLweb:bI (kK w.params) mg "_law_web" l7 117 _ ["_law_drawn","_law_most","_law_ties_here"]:=hm X G (y9 w) fun _ _ _ _ _ _=>CM fun _ _ _=>rfl
  have hLodd:bI (kK w.params) mg "_law_odd" l6 124 _ ["_law_number"]:=hm X G (y8 w) fun _ _ _ _ _ _=>Bu fun _=>rfl
  have hLfull:bI (kK w.params) mg "_law_full" i8 131 _ ["_law_drawn","_law_web_here","_law_most"]:=hm X G (wg w) fun _ _ _ _ _ _=>CM fun _ _ _=>rfl
  have hLis_pairing:bI (kK w.params) mg "_law_is_pairing" bX 138 _ ["_law_web_here","_law_thing"]:=hm X G (lj w) fun _ _ _ _ _ _=>sj fun _ _=>rfl
  have hLpairing:bI (kK w.params) mg "_law_pairing" dS 145 _ ["_law_drawn","_law_web_here"]:=hm X G (pj w) fun _ _ _ _ _ _=>sj fun _ _=>rfl
  have hLends:bI (kK w.params) mg "_law_ends" i7 152 _ ["_law_web_here","_law_ties_here"]:=hm X G (wf w) fun _ _ _ _ _ _=>sj fun _ _=>rfl
  have hLbent:bI (kK w.params) mg "_law_bent" hG 157 _ ["_law_web_here","_law_pairing_here","_law_number","_law_odd_here"]:=hm X G (we w) fun _ _ _ _ _ _=>Eg fun _ _ _ _=>rfl
  have h_law:bI (kK w.params) mg "law" js 164 _ ["_law_script"]:=hm X G (y_ w) fun _ _ _ _ _ _=>Bu fun _=>rfl
  refine⟨W.fnOf "law" "law" (cz js) (bS js) (aj js) .none .none (.none) fZ none (.ref 163) .none,fun s v=>.of_eq rfl,fun base _ _=>?_⟩
  have G_is_number:=mW (P:=l.prog) (w:=w) (base:=base) h_is_number T
  have G_is_number_within:=gF (P:=l.prog) (w:=w) (base:=base) h_is_number_within T h_is_number G_is_number
  have G_is_rising_row:=iU (P:=l.prog) (w:=w) (base:=base) h_is_rising_row T h_is_number_within G_is_number_within
  have G_things_of:=mX (P:=l.prog) (w:=w) (base:=base) h_things_of T
  have G_is_pairing:=lr (P:=l.prog) (w:=w) (base:=base) h_is_pairing T h_is_rising_row G_is_rising_row h_things_of G_things_of
  have GLmixed:=uo (P:=l.prog) (w:=w) (base:=base) hLmixed T
  have GLdraws:=um (P:=l.prog) (w:=w) (base:=base) hLdraws T hLmixed GLmixed
  have GLnext:=wB (P:=l.prog) (w:=w) (base:=base) hLnext T
  have GLgcd:=zl (P:=l.prog) (w:=w) (base:=base) hLgcd T
  have GLlow:=zm (P:=l.prog) (w:=w) (base:=base) hLlow T hLgcd GLgcd
  have GLsays:=wC (P:=l.prog) (w:=w) (base:=base) hLsays T
  have GLchance:=rH (P:=l.prog) (w:=w) (base:=base) hLchance T hLlow GLlow
  have GLworth:=uq (P:=l.prog) (w:=w) (base:=base) hLworth T
  have GLties:=wD (P:=l.prog) (w:=w) (base:=base) hLties T hLnext GLnext hLchance GLchance hLworth GLworth
  have GLweb:=zp (P:=l.prog) (w:=w) (base:=base) hLweb T hLties GLties hLnext GLnext
  have GLodd:=zo (P:=l.prog) (w:=w) (base:=base) hLodd T
  have GLfull:=wA (P:=l.prog) (w:=w) (base:=base) hLfull T hLnext GLnext
  have GLis_pairing:=lq (P:=l.prog) (w:=w) (base:=base) hLis_pairing T
  have GLends:=wz (P:=l.prog) (w:=w) (base:=base) hLends T
  have GLpairing:=pv (P:=l.prog) (w:=w) (base:=base) hLpairing T hLfull GLfull hLends GLends hLnext GLnext
  have GLbent:=wy (P:=l.prog) (w:=w) (base:=base) hLbent T
  have G_law:=zq (P:=l.prog) (w:=w) (base:=base) h_law T hLdraws GLdraws hLweb GLweb hLpairing GLpairing hLnext GLnext hLmixed GLmixed hLbent GLbent h_is_pairing G_is_pairing hLsays GLsays hLodd GLodd hLis_pairing GLis_pairing
  exact G_law
def Cc(K:W.Frag):Sp:=fun vs H Q _=>∃(a:Addr) (ns:List Int),vs=[.ref a]∧fy K H a (ns.map V.int)∧ns.length≤63∧∀H',Q (.bl true) H'
theorem zb{K:W.Frag}{vs:List V}{H:Hp}{Q:VK}{E:XK}(h:Cc K vs H Q E):cO K 1 kz vs H Q E:=by
  obtain⟨a,ns,rfl,hS,hl,q⟩:=h
  obtain⟨as',hm⟩:=t_ ns hl
  exact pL hS hm q
theorem walk{l:W.OpenLaw}{q:Program}{loose:List Str}{XP:(Str→Option Value)→Heap→Prop}{YP:World→Heap→Prop}{d:DefRec}{K:Params→W.Frag}(hn:l.most=some 63)(hdf:d.params.defaults=[])
    (hY:∀(w:World) (h:Heap),YP w h→(K w.params).In h)
    (F:∀(w:World) (mg:Str→Option Value) (fa:Addr) (h:Heap),(K w.params).In h→h.Ns mainGlobals mg→mg d.name=some (.ref fa)→
      ∃fd:FuncData,(∀(s:Shared) (u:Value),BindsTo s fd ⟨[u],[]⟩ [("_law_script",u)])∧∀base:Heap,(K w.params).In base→base.Ns mainGlobals mg→aP l.prog w (K w.params) mg base cL 6 fa fd ["_law_script"] (cO (K w.params) 1 kz)):
    W.WalkO q loose XP YP l.row.toRowW d [] (fun f vs=>PySem.call f vs):=
  L2.walk_of (n:=63) (k:=6) (x:="_law_script") (CX:=fun _=>cL) (sp:=fun w=>cO (K w.params) 1 kz) hn (by decide) hdf ⟨rfl,by decide,by decide,rfl⟩ hY F (fun _ _ a ns hl _ hS=>zb ⟨a,ns,rfl,hS,hl,fun _=>rfl⟩) fun _ _ _ _ _ z=>z
end V57
open PySem PySem.W PyProof.Rows
set_option maxRecDepth 100000 in
set_option maxHeartbeats 0 in
theorem PySem.Challenge.cw_askedpairs_k57_pairings_of_anything_holds : PySem.Challenge.rw_askedpairs_k57_pairings_of_anything.Holds := by
  w_on;o_law
  refine holds_open (q:=V57.kq) (loose:=[]) (Xt:=fun s=>xlAt V57.kq [] s&&recOk (RowW.records (OpenRow.toRowW (OpenLaw.row PySem.Challenge.rw_askedpairs_k57_pairings_of_anything))) s) (XP:=XL V57.kq []) (Yf:=Hook.obs V57.kH) (Ya:=Hook.val V57.kH) (YP:=Hook.says V57.kH) (N:=1592) V57.left (Hook.of V57.kH) (Hook.keeps V57.kH) (fun s e=>xl_of s (Bool.and_eq_true_iff.mp e).1) XL.keeps (by rfl) (by rfl) (by rfl) (fun s e=>recFacts_of (Bool.and_eq_true_iff.mp e).2) (by rfl) (by assumption) (by decide+kernel) ⟨rfl,rfl,rfl,rfl,rfl,by decide+kernel⟩ ?hw ?hc
  case hw=>w_witness2
  case hc=>exact V57.walk (l:=PySem.Challenge.rw_askedpairs_k57_pairings_of_anything) rfl rfl (fun w h Y=>kIn_of Y) (fun w mg fa h KX G hmg=>V57.all_mk KX G hmg)
