import PyProof.Rows.All
import Wide.All
import OpenK.AllK
import Wide.FinOn
import Lean
import PyProof.EqAt
import PyProof.EqKinds
import PyProof.TupleCall
import PyProof.ReprRoads
import PyProof.IsInstance
import PyProof.IsInstanceH
import PyProof.FitsBits
import PyProof.CompFree
import PyProof.Rows.SumAny
import PyProof.Rows.SortShell
import PyProof.Rows.TupAdd
import PyProof.NeKinds
import PyProof.ConsumeWalk
import PyProof.ZipIter
import PyProof.TupleIter
import PyProof.LayNew
import PyProof.Draws
import PyProof.EnumFor
import PyProof.EnumMake
import PyProof.ListRange
import PyProof.CollectIter
import KE.KRevIter
import PyProof.ListMulRoad
import PyProof.TupleOps
import PyProof.TupleOfStr
import PyProof.WalksMore
import PyProof.FactsAll.range_iterator
import PyProof.IsRules
import PyProof.CompUse
import PyProof.P3In
import PyProof.EqLayable
import KE.KIsAll
import PyProof.Rows.FactsN_isinstance
import PyProof.CallStr
import PyProof.Rows.StrWeight2
import PyProof.Rows.FStr
import PyProof.StrLawsRepr
import PyProof.Rows.SetFrom
import KE.KIntText
import KE.KRevSl
import PyProof.Rows.SeqMore2
import PySem.Challenge.RW_askedpairs_k62_rings_of_anything
set_option Elab.async false
set_option linter.all false
set_option maxRecDepth 100000
namespace L2
open PySem PySem.Spec PyProof.Rows
abbrev eT:=Sum Int Str
def kZ:eT→Value→Bool
  | .inl k,v=>Value.isInt k v
  | .inr x,v=>Value.isStrOf x v
def C6(w:World):eT→Int
  | .inl k=>hashInt k
  | .inr x=>hashStr w x
theorem bC:∀{k:eT} {v:Value},kZ k v=true→(∃i t,k=Sum.inl i∧v=Value.int i t)∨(∃x t,k=Sum.inr x∧v=Value.str x t)
  | .inl i,v,h=>by
    obtain⟨t,e⟩:=Value.isInt_shape (k:=i) (v:=v) h
    exact .inl ⟨i,t,rfl,e⟩
  | .inr x,v,h=>by
    obtain⟨t,e⟩:=Value.isStrOf_shape (x:=x) (v:=v) h
    exact .inr ⟨x,t,rfl,e⟩
theorem qk(i:Int)(t:Tok):kZ (.inl i) (.int i t)=true:=by simp [kZ,Value.isInt]
theorem qm(x:Str)(t:Tok):kZ (.inr x) (.str x t)=true:=by simp [kZ,Value.isStrOf]
theorem yu(a b:Int):decide ((Sum.inl a:eT)=Sum.inl b)=(a==b):=by
  by_cases e:a=b
  · subst e;simp
  · have h:¬(Sum.inl a:eT)=Sum.inl b:=fun q=>e (Sum.inl.inj q)
    rw [decide_eq_false h]
    exact(beq_eq_false_iff_ne.mpr e).symm
theorem yx(a b:Str):decide ((Sum.inr a:eT)=Sum.inr b)=decide (a=b):=by
  by_cases e:a=b
  · subst e;simp
  · have h:¬(Sum.inr a:eT)=Sum.inr b:=fun q=>e (Sum.inr.inj q)
    rw [decide_eq_false h,decide_eq_false e]
theorem yv(a:Int)(b:Str):decide ((Sum.inl a:eT)=Sum.inr b)=false:=decide_eq_false (fun q=>nomatch q)
theorem yw(a:Str)(b:Int):decide ((Sum.inr a:eT)=Sum.inl b)=false:=decide_eq_false (fun q=>nomatch q)
def dq(prog:Program)(w:World):PySem.KeyKind prog w eT where
  is:=kZ
  hash:=C6 w
  inj:=fun v a b ha hb=>by
    rcases bC ha with ⟨i,t,rfl,rfl⟩ | ⟨x,t,rfl,rfl⟩
    · rcases bC hb with ⟨j,u,rfl,e⟩ | ⟨y,u,rfl,e⟩
      · injection e with e1 _;rw [e1]
      · exact nomatch e
    · rcases bC hb with ⟨j,u,rfl,e⟩ | ⟨y,u,rfl,e⟩
      · exact nomatch e
      · injection e with e1 _;rw [e1]
  byValue:=fun k v h=>by
    rcases bC h with ⟨i,t,rfl,rfl⟩ | ⟨x,t,rfl,rfl⟩<;>rfl
  pyHash:=fun hv h=>by
    rcases bC hv with ⟨i,t,rfl,rfl⟩ | ⟨x,t,rfl,rfl⟩
    · exact wpAny_pyHash_int h
    · exact wpAny_pyHash_str h
  eqBool:=fun hu hv h=>by
    rcases bC hu with ⟨i,t,rfl,rfl⟩ | ⟨x,t,rfl,rfl⟩
    · rcases bC hv with ⟨j,u,rfl,rfl⟩ | ⟨y,u,rfl,rfl⟩
      · rw [yu] at h;exact wpAny_eqBool_int h
      · rw [yv] at h;exact SeqAt.EqAt.int_str i t y u _ _ _ _ h
    · rcases bC hv with ⟨j,u,rfl,rfl⟩ | ⟨y,u,rfl,rfl⟩
      · rw [yw] at h;exact SeqAt.EqAt.str_int x t j u _ _ _ _ h
      · rw [yx] at h;exact wpAny_eqBool_str h
  «strs»:=fun k x t v h=>by
    rcases bC h with ⟨i,u,rfl,e⟩ | ⟨y,u,rfl,e⟩
    · exact nomatch e
    · injection e with e1 _
      subst e1
      cases v<;>rfl
theorem mQ(prog:Program)(w:World)(i:Int)(t:Tok):(dq prog w).is (.inl i) (.int i t)=true:=qk i t
theorem mR(prog:Program)(w:World)(x:Str)(t:Tok):(dq prog w).is (.inr x) (.str x t)=true:=qm x t
end L2
namespace L2
open PySem PySem.Spec PyProof.Rows
inductive V where
  | non | bl (b:Bool) | int (i:Int) | str (x:Str) | byt (b:Array UInt8) | flt (b:UInt64) | ref (a:Addr) | ty (n:String)
  deriving DecidableEq
def bh:V→Value→Prop
  | .non,u=>u=Value.none
  | .bl b,u=>u=Value.bool b
  | .int i,u=>∃t,u=Value.int i t
  | .str x,u=>∃t,u=Value.str x t
  | .byt b,u=>∃t,u=Value.bytes b t
  | .flt b,u=>∃t,u=Value.float b t
  | .ref a,u=>u=Value.ref a
  | .ty n,u=>u=Value.type n
abbrev aI:List V→List Value→Prop:=Paired bh
theorem aI.length{xs:List V}{us:List Value}(r:aI xs us):xs.length=us.length:=Paired.length r
theorem aI.get:∀{xs:List V} {us:List Value} {i:Nat} {x:V},aI xs us→xs[i]?=some x→∃u,us[i]?=some u∧bh x u
  | _,_,_,_,.nil,e=>by simp at e
  | _,_,0,_,.cons r _,e=>by simp at e;subst e;exact⟨_,rfl,r⟩
  | _,_,i+1,x,.cons _ t,e=>by
    obtain⟨u,h1,h2⟩:=aI.get (i:=i) (x:=x) t (by simpa using e)
    exact⟨u,by simpa using h1,h2⟩
theorem aI.append:∀{xs ys:List V} {us ws:List Value},aI xs us→aI ys ws→aI (xs++ys) (us++ws)
  | _,_,_,_,.nil,s=>s
  | _,_,_,_,.cons r t,s=>.cons r (aI.append t s)
theorem aI.take:∀{xs:List V} {us:List Value} (n:Nat),aI xs us→aI (xs.take n) (us.take n)
  | _,_,0,_=>.nil
  | _,_,_+1,.nil=>.nil
  | _,_,n+1,.cons r t=>.cons r (aI.take n t)
theorem aI.drop:∀{xs:List V} {us:List Value} (n:Nat),aI xs us→aI (xs.drop n) (us.drop n)
  | _,_,0,r=>r
  | _,_,_+1,.nil=>.nil
  | _,_,n+1,.cons _ t=>aI.drop n t
def AG:Option V→Option Value→Prop
  | some v,some u=>bh v u
  | none,none=>True
  | _,_=>False
def KV{κ:Type}:List (κ × V)→List (κ × Value)→Prop:=Paired fun(p:κ × V) (q:κ × Value)=>p.1=q.1∧bh p.2 q.2
def kV:eT→V
  | .inl i=>.int i
  | .inr x=>.str x
inductive HO where
  /-- a list -/
  | lst (xs:List V)
  /-- a tuple (never changes) -/
  | tup (xs:List V)
  /-- a dict whose keys are ints and texts; one whose keys are tuples of ints and texts (the empty one is both) -/
  | dK (kvs:List (eT × V)) | dT (kvs:List (List eT × V))
  /-- a set of ints: its members, its size -/
  | set (S:Int→Bool) (n:Nat)
  /-- an instance of the class at C, its dict at dx, its attributes -/
  | ins (C dx:Addr) (fs:List (Str × V))
  /-- the dict of the instance at x -/
  | own (x:Addr)
  /-- the dict of an exception -/
  | xd (fs:List (Str × V))
  /-- a bound method, f of x -/
  | met (f x:Addr)
  /-- a range object lo, lo + 1, .. below hi -/
  | rng (lo hi:Int)
  /-- a thing that is known to the object (the script; a dict while a loop walks it): read, never written while it is so -/
  | frz (o:Obj) (u:HO)
  /-- a code object's table -/
  | tbl (ps:Array Value)
  /-- any other thing, by what is true of its one object (a def of one's own: SetO a S n := HO.ext fun h => ..) -/
  | ext (φ:Heap→Prop)
abbrev Hp:=Addr→Option HO
def aY(H:Hp)(a:Addr)(o:HO):Hp:=fun b=>if b=a then some o else H b
theorem ar{H:Hp}{a:Addr}{o:HO}:aY H a o a=some o:=by unfold aY;rw [if_pos rfl]
theorem aE{H:Hp}{a b:Addr}{o:HO}(h:b≠a):aY H a o b=H b:=by unfold aY;rw [if_neg h]
theorem dh{H:Hp}{a b:Addr}{o:HO}(h:H a=some o)(h':H b=none):a≠b:=by
  intro e;subst e;rw [h] at h';cases h'
def hV(h:Heap)(a:Addr)(items:Array Value):Prop:=∃o,h.get? a=some o∧o.cls=.type "tuple"∧∃n,o.data=.seq items n∧o.dict=none
theorem hV.tup{h:Heap}{a:Addr}{items:Array Value}(x:hV h a items):IsTup h a items:=let ⟨o,ho,hc,n,hd,_⟩:=x;⟨o,ho,hc,n,hd⟩
theorem hV.new(h:Heap)(items:Array Value):hV (h.push {cls:=.type "tuple",data:=.seq items}) h.objs.size items:=⟨_,Heap.get?_push_size _ rfl,rfl,_,rfl,rfl⟩
section
variable(P:Program)(w:World)
def cz(H:Hp)(h:Heap)(a:Addr):HO→Prop
  | .lst xs=>xs.length≤sizeLine∧∃(its:List Value) (n:Nat),aI xs its∧h.get? a=some {cls:=.type "list",data:=.seq its.toArray n}
  | .tup xs=>xs.length≤sizeLine∧∃its:List Value,aI xs its∧hV h a its.toArray
  | .dK kvs=>kvs.length≤sizeLine∧(a==sysModules)=false∧∃vs,KV kvs vs∧h.DictOf (dq P w) a vs
  | .dT kvs=>kvs.length≤sizeLine∧(a==sysModules)=false∧∃xs:List (List eT × Addr × Value),
      Paired (fun(p:List eT × V) (q:List eT × Addr × Value)=>p.1=q.1∧H q.2.1=some (.tup (p.1.map kV))∧bh p.2 q.2.2) kvs xs∧
      ∃o es ep,h.get? a=some o∧o.ExactDict∧o.data=.dict es ep∧es.toList=xs.map (entryOfKey (tupleKind (dq P w)))∧(xs.map (·.1)).Nodup
  | .set S n=>h.SetOf (intKind P w) a S n
  | .ins C dx fs=>H dx=some (.own a)∧fs.length≤1000∧dx≠a∧h.get? a=some (PySem.W.instObj C dx)∧
      ∃mA,h.Ns1 dx mA∧(∀f,AG (fs.lookup f) (mA f))∧PySem.Within mA (fs.map (·.1))
  | .own _=>∃o,h.get? a=some o
  | .xd fs=>∃mA,h.Ns1 a mA∧∀f,AG (fs.lookup f) (mA f)
  | .rng lo hi=>∃t u v,h.get? a=some {cls:=.type "range",data:=.fields #[.int lo t,.int hi u,.int 1 v]}
  | .frz o u=>h.get? a=some o∧cz H h a u
  | .tbl ps=>h.get? a=some {cls:=.none,data:=.fields ps}
  | .met f x=>h.get? a=some (PySem.W.methodObj (.ref f) (.ref x))
  | .ext φ=>φ h∧(∃o,h.get? a=some o)∧∀h1 h2:Heap,φ h1→(∀o,h1.get? a=some o→h2.get? a=some o)→φ h2
def jf(H:Hp)(h:Heap):Prop:=∀a o,H a=some o→cz P w H h a o
end
section
variable{P:Program}{w:World}{H H':Hp}{h h':Heap}{a:Addr}{o:HO}
theorem cz.lt(x:cz P w H h a o):a < h.objs.size:=by
  cases o with
  | lst xs=>obtain⟨_,_,_,_,e⟩:=x;exact Heap.lt_size e
  | tup xs=>obtain⟨_,_,_,p⟩:=x;exact p.tup.lt
  | dK kvs=>obtain⟨_,_,_,_,o,_,_,e,_⟩:=x;exact Heap.lt_size e
  | dT kvs=>obtain⟨_,_,_,_,o,_,_,e,_⟩:=x;exact Heap.lt_size e
  | set S n=>obtain⟨o,_,_,_,e,_⟩:=x;exact Heap.lt_size e
  | ins C dx fs=>obtain⟨_,_,_,e,_⟩:=x;exact Heap.lt_size e
  | own y=>obtain⟨_,e⟩:=x;exact Heap.lt_size e
  | xd fs=>obtain⟨_,⟨_,_,_,e,_⟩,_⟩:=x;exact Heap.lt_size e
  | rng lo hi=>obtain⟨_,_,_,e⟩:=x;exact Heap.lt_size e
  | frz ob u=>obtain⟨e,_⟩:=x;exact Heap.lt_size e
  | tbl ps=>exact Heap.lt_size (show h.get? a=some _ from x)
  | met f y=>exact Heap.lt_size (show h.get? a=some _ from x)
  | ext φ=>obtain⟨_,⟨_,e⟩,_⟩:=x;exact Heap.lt_size e
theorem Paired.mapP{α β:Type}{F G:α→β→Prop}:∀{l₁:List α} {l₂:List β},Paired F l₁ l₂→(∀a b,F a b→G a b)→Paired G l₁ l₂
  | _,_,.nil,_=>.nil
  | _,_,.cons r t,f=>.cons (f _ _ r) (Paired.mapP t f)
theorem cz.stay(x:cz P w H h a o)(k:∀b u,(b=a∨H b=some (.own a))→h.get? b=some u→h'.get? b=some u)
    (ho:∀b,H b=some (.own a)→H' b=some (.own a))(ht:∀b xs,H b=some (.tup xs)→H' b=some (.tup xs)):cz P w H' h' a o:=by
  induction o with
  | lst xs=>obtain⟨z,its,n,r,e⟩:=x;exact⟨z,its,n,r,k _ _ (.inl rfl) e⟩
  | tup xs=>obtain⟨z,its,r,ob,e,c⟩:=x;exact⟨z,its,r,ob,k _ _ (.inl rfl) e,c⟩
  | dK kvs=>obtain⟨z,y,vs,r,ob,es,ep,e,c⟩:=x;exact⟨z,y,vs,r,ob,es,ep,k _ _ (.inl rfl) e,c⟩
  | dT kvs=>
    obtain⟨z,y,xs,r,ob,es,ep,e,c⟩:=x
    exact⟨z,y,xs,Paired.mapP r fun p q z=>⟨z.1,ht _ _ z.2.1,z.2.2⟩,ob,es,ep,k _ _ (.inl rfl) e,c⟩
  | set S n=>obtain⟨ob,es,ep,t,e,c⟩:=x;exact⟨ob,es,ep,t,k _ _ (.inl rfl) e,c⟩
  | ins C dx fs=>
    obtain⟨d,z,ne,e,mA,⟨od,es,ep,e2,c⟩,r⟩:=x
    exact⟨ho _ d,z,ne,k _ _ (.inl rfl) e,mA,⟨od,es,ep,k _ _ (.inr d) e2,c⟩,r⟩
  | own y=>obtain⟨ob,e⟩:=x;exact⟨ob,k _ _ (.inl rfl) e⟩
  | xd fs=>obtain⟨mA,⟨od,es,ep,e,c⟩,r⟩:=x;exact⟨mA,⟨od,es,ep,k _ _ (.inl rfl) e,c⟩,r⟩
  | rng lo hi=>obtain⟨t,u,v,e⟩:=x;exact⟨t,u,v,k _ _ (.inl rfl) e⟩
  | frz ob u ih=>obtain⟨e,q⟩:=x;exact⟨k _ _ (.inl rfl) e,ih q⟩
  | tbl ps=>
    have e:h.get? a=some {cls:=.none,data:=.fields ps}:=x
    show h'.get? a=some {cls:=.none,data:=.fields ps}
    exact k a _ (.inl rfl) e
  | met f y=>
    have e:h.get? a=some (PySem.W.methodObj (.ref f) (.ref y)):=x
    show h'.get? a=some (PySem.W.methodObj (.ref f) (.ref y))
    exact k a _ (.inl rfl) e
  | ext φ=>obtain⟨p,⟨o,e⟩,st⟩:=x;exact⟨st _ _ p fun o q=>k _ _ (.inl rfl) q,⟨o,k _ _ (.inl rfl) e⟩,st⟩
theorem jf.lt(x:jf P w H h)(e:H a=some o):a < h.objs.size:=(x a o e).lt
theorem jf.fresh(x:jf P w H h)(e:h.objs.size≤a):H a=none:=by
  cases q:H a with
  | none=>rfl
  | some u=>exact absurd (Nat.lt_of_lt_of_le (x.lt q) e) (Nat.lt_irrefl _)
theorem jf.kept(x:jf P w H h)(k:∀b u,h.get? b=some u→h'.get? b=some u):jf P w H h':=fun a o e=>
  (x a o e).stay (fun b u _ q=>k b u q) (fun _ q=>q) fun _ _ q=>q
theorem jf.laid(x:jf P w H h)(k:∀b u,h.get? b=some u→h'.get? b=some u)(hp:h.objs.size≤a)(new:cz P w (aY H a o) h' a o):jf P w (aY H a o) h':=fun b u e=>by
  have hn:=x.fresh hp
  by_cases hb:b=a
  · subst hb;rw [ar] at e;cases e;exact new
  · rw [aE hb] at e
    exact(x b u e).stay (fun c v _ q=>k c v q) (fun c q=>by rw [aE (dh q hn)];exact q) fun c xs q=>by rw [aE (dh q hn)];exact q
end
def Rd(H:Hp)(a:Addr)(u:HO):Prop:=H a=some u∨∃o,H a=some (.frz o u)
theorem Rd.ok{P:Program}{w:World}{H:Hp}{h:Heap}{a:Addr}{u:HO}(r:Rd H a u)(x:jf P w H h):cz P w H h a u:=by
  rcases r with r | ⟨o,r⟩
  · exact x a u r
  · obtain⟨_,q⟩:=x a _ r
    exact q
def AF:Option HO→Prop
  | some (.lst _)=>True
  | some (.dK _)=>True
  | some (.dT _)=>True
  | some (.set _ _)=>True
  | some (.ins _ _ _)=>True
  | some (.ext _)=>True
  | _=>False
section
variable{P:Program}{w:World}{H:Hp}{h h':Heap}{x e:Addr}{o':HO}
theorem jf.write(ok:jf P w H h)(mu:AF (H x))(he:e=x∨H e=some (.own x))(k:∀b u,b≠e→h.get? b=some u→h'.get? b=some u)(heo:∃u,h'.get? e=some u)
    (new:cz P w (aY H x o') h' x o'):jf P w (aY H x o') h':=fun b u q=>by
  have nown:∀c y,H c=some (.own y)→c≠x:=fun c y r z=>by subst z;rw [r] at mu;exact mu
  have ntup:∀c xs,H c=some (.tup xs)→c≠x:=fun c xs r z=>by subst z;rw [r] at mu;exact mu
  by_cases hb:b=x
  · subst hb;rw [ar] at q;cases q;exact new
  · rw [aE hb] at q
    by_cases hbe:b=e
    · have q':H b=some (.own x):=by
        rcases he with z | z
        · exact absurd (hbe.trans z) hb
        · rw [hbe];exact z
      rw [q] at q';cases q'
      obtain⟨v,hv⟩:=heo
      exact⟨v,by rw [hbe];exact hv⟩
    · refine(ok b u q).stay (fun c v hc r=>k c v ?_ r) (fun c r=>by rw [aE (nown c b r)];exact r) fun c xs r=>by rw [aE (ntup c xs r)];exact r
      rcases hc with rfl | hc
      · exact hbe
      · rintro rfl
        rcases he with z | z
        · exact nown c b hc z
        · rw [hc] at z;cases z;exact hb rfl
end
structure Un (fs ex:List Addr) (H H':Hp) (h h':Heap):Prop where
  keep:∀b o,h.get? b=some o→H b=none→b∉fs→b∉ex→h'.get? b=some o
  slot:∀b o,h.get? b=some o→H b=none→b∈fs→b∉ex→∃sl,h'.get? b=some {o with slots:=sl}
  free:∀b o,h.get? b=some o→H b=none→b∉ex→H' b=none
  there:∀b o,h.get? b=some o→b∉ex→∃o',h'.get? b=some o'
  tups:∀b xs,H b=some (.tup xs)→H' b=some (.tup xs)
  frzs:∀b o u,H b=some (.frz o u)→H' b=some (.frz o u)
  tbls:∀b ps,H b=some (.tbl ps)→∃more,H' b=some (.tbl (ps++more))
section
variable{fs fs' ex ex':List Addr}{H H1 H2:Hp}{h h1 h2 h':Heap}{a x e:Addr}{o:HO}
theorem Un.any(u:Un fs ex H H1 h h1){b:Addr}{ob:Obj}(q:h.get? b=some ob)(n:H b=none)(hx:b∉ex):∃sl,h1.get? b=some {ob with slots:=sl}:=by
  by_cases hb:b∈fs
  · exact u.slot b ob q n hb hx
  · exact⟨ob.slots,u.keep b ob q n hb hx⟩
theorem Un.kept(k:∀b u,h.get? b=some u→h'.get? b=some u):Un fs ex H H h h':=
  ⟨fun b ob q _ _ _=>k b ob q,fun b ob q _ _ _=>⟨ob.slots,k b ob q⟩,fun _ _ _ n _=>n,fun b ob q _=>⟨ob,k b ob q⟩,fun _ _ q=>q,fun _ _ _ q=>q,fun _ ps q=>⟨#[],by rw [q];simp⟩⟩
theorem Un.refl:Un fs ex H H h h:=Un.kept fun _ _ q=>q
theorem Un.laid(k:∀b u,h.get? b=some u→h'.get? b=some u)(hp:h.objs.size≤a)(hn:H a=none):Un fs ex H (aY H a o) h h' where
  keep:=fun b u q _ _ _=>k b u q
  slot:=fun b u q _ _ _=>⟨u.slots,k b u q⟩
  free:=fun b u q n _=>by rw [aE (Nat.ne_of_lt (Nat.lt_of_lt_of_le (Heap.lt_size q) hp))];exact n
  there:=fun b u q _=>⟨u,k b u q⟩
  tups:=fun b xs q=>by rw [aE (dh q hn)];exact q
  frzs:=fun b u xs q=>by rw [aE (dh q hn)];exact q
  tbls:=fun b ps q=>⟨#[],by rw [aE (dh q hn),q];simp⟩
theorem Un.write(mu:AF (H x))(he:e=x∨H e=some (.own x))(k:∀b u,b≠e→h.get? b=some u→h'.get? b=some u)(heo:∃u,h'.get? e=some u):Un fs ex H (aY H x o) h h':=by
  have hx:∀b,H b=none→b≠x:=fun b n z=>by subst z;rw [n] at mu;exact mu
  have hb:∀b,H b=none→b≠e:=fun b n z=>by
    subst z
    rcases he with r | r
    · exact hx b n r
    · rw [n] at r;cases r
  have hm:∀b u,H b=some u→¬AF (some u)→b≠x:=fun b u q nm z=>by subst z;rw [q] at mu;exact nm mu
  refine⟨fun b u q n _ _=>k b u (hb b n) q,fun b u q n _ _=>⟨u.slots,k b u (hb b n) q⟩,fun b u q n _=>by rw [aE (hx b n)];exact n,fun b u q _=>?_,
    fun b xs q=>by rw [aE (hm b _ q fun z=>z)];exact q,fun b u xs q=>by rw [aE (hm b _ q fun z=>z)];exact q,fun b ps q=>⟨#[],by rw [aE (hm b _ q fun z=>z),q];simp⟩⟩
  by_cases hbe:b=e
  · subst hbe;exact heo
  · exact⟨u,k b u hbe q⟩
end
def CC(h:Heap)(H:Hp):List Addr:=(List.range h.objs.size).filter fun a=>(H a).isSome
def lQ(h:Heap)(H:Hp):Heap:=PySem.W.hideAll h (CC h H)
theorem qg(h:Heap)(H:Hp):(lQ h H).objs.size=h.objs.size:=PySem.W.hideAll_size _ _
theorem rZ{h:Heap}{H:Hp}{b:Addr}{o:Obj}(e:h.get? b=some o)(n:H b=none):(lQ h H).get? b=some o:=
  PySem.W.hideAll_get _ e fun hm=>by
    have q:(H b).isSome=true:=(List.mem_filter.mp hm).2
    rw [n] at q;simp at q
theorem vt{h:Heap}{H:Hp}{b:Addr}{o:Obj}(e:(lQ h H).get? b=some o):h.get? b=some o∧H b=none:=by
  have e':h.get? b=some o:=PySem.W.of_hideAll (CC h H) e
  refine⟨e',?_⟩
  cases q:H b with
  | none=>rfl
  | some x=>
    have hm:b∈CC h H:=List.mem_filter.mpr ⟨List.mem_range.mpr (Heap.lt_size e'),by simp [q]⟩
    have z:(lQ h H).get? b=none:=PySem.W.hideAll_none (CC h H) hm
    rw [z] at e;cases e
def lC(g h:Heap)(L:Addr):List (Addr × Obj):=(List.range h.objs.size).filterMap fun a=>if a=L∨(g.get? a).isSome=true then none else(h.get? a).map fun o=>(a,o)
theorem jZ{g h:Heap}{L:Addr}{p:Addr × Obj}(hp:p∈lC g h L):p.1≠L∧g.get? p.1=none∧h.get? p.1=some p.2:=by
  obtain⟨b,_,e⟩:=List.mem_filterMap.mp hp
  split at e
  · cases e
  · rename_i hn
    cases q:h.get? b with
    | none=>rw [q] at e;simp at e
    | some u=>
      rw [q] at e
      simp only [Option.map_some,Option.some.injEq] at e
      subst e
      refine⟨fun z=>hn (.inl z),?_,q⟩
      show g.get? b=none
      cases r:g.get? b with
      | none=>rfl
      | some v=>exact(hn (.inr (by simp [r]))).elim
def cV(g h:Heap)(L d:Addr):List (Addr × Obj):=(lC g h L).filter fun p=>decide (p.1≠d)
theorem sD{g h:Heap}{L:Addr}:News g L h (lC g h L):=fun p hp=>let ⟨a,b,c⟩:=jZ hp;⟨c,a,b⟩
end L2
namespace L2
open PySem PySem.Spec PyProof.Rows
structure Mod (K:PySem.W.Frag) (mg:Str→Option Value) (base:Heap):Prop where
  kin:K.In base
  glob:base.Ns mainGlobals mg
  blt:∃mb,base.Ns builtinsNs mb∧∀x:Str,x≠"__name__"→mb x=bootBuiltins x
  nolimit:base.NoLimit
structure Cx where
  prog:Program
  w:World
  K:PySem.W.Frag
  mg:Str→Option Value
  base:Heap
  A:Around
  N:List Str
  s₀:Shared
  H₀:Hp
  env:Env
  outer:List Env
  stack:List Env
  ex:List Addr
  fn:Str→Bool
  calm:Bool
  pn:List (Addr × Obj)
  xe:Value→Shared→Prop
def rK(l:List Env):List Addr:=l.filterMap (·.frame)
abbrev Cx.fs(X:Cx):List Addr:=rK X.outer
def AJ(sc:Scope)(x:Str):Prop:=sc.names.lookup x=some .local∨sc.names.lookup x=some .cell∨sc.names.lookup x=some .free
def Ap(sc:Scope)(x:Str):Prop:=sc.names.lookup x=some .local∨sc.names.lookup x=some .cell
def CJ(env:Env)(h:Heap)(m:Str→Option Value)(x:Str)(u:Value):Prop:=
  (env.kindOf x=some .local∧m x=some u)∨((env.kindOf x=some .cell∨env.kindOf x=some .free)∧∃c,env.cells.lookup x=some c∧h.IsCell c (some u))
structure Cx.Ok (X:Cx):Prop where
  mod:Mod X.K X.mg X.base
  kind:X.env.scope.kind=.function
  glob:X.env.globals=mainGlobals
  blt:X.env.builtins=builtinsNs
  above:X.s₀.heap.objs.size≤X.env.locals
  inj:∀x y c,X.env.cells.lookup x=some c→X.env.cells.lookup y=some c→x=y
  has:∀x,(X.env.kindOf x=some .cell∨X.env.kindOf x=some .free)→∃c,X.env.cells.lookup x=some c
  cab:∀x c,X.fn x=true→X.env.cells.lookup x=some c→X.s₀.heap.objs.size≤c
  hd:X.calm=true→X.A.handled=none
  frames:X.A.frames=some X.stack
  stk:X.stack=X.outer∨(X.stack=X.env::X.outer∧X.env.frame=some X.env.locals)
  exf:∀b∈X.ex,b≠X.env.locals∧∀x c,X.env.cells.lookup x=some c→c≠b
  bs:∀b o,X.base.get? b=some o→X.s₀.heap.get? b=some o∧X.H₀ b=none
  bsz:X.base.objs.size≤X.s₀.heap.objs.size
  noex:∀b o,X.base.get? b=some o→b∉X.ex
  exfs:∀b∈X.ex,b∉X.fs
  funs:X.s₀.heap.FunFrames X.base X.outer
  frf:∀b∈X.fs,X.H₀ b=none
structure aw (X:Cx) (pins:List (Addr × Obj)) (σ:List (Option V)) (H:Hp) (s:Shared):Prop where
  ok:X.Ok
  os:s.os=X.s₀.os
  bare:AllBare s.gens
  base:Un X.fs X.ex X.H₀ H X.s₀.heap s.heap
  loc:∃m,s.heap.Ns X.env.locals m∧∀(i:Nat) (x:Str) (v:V),X.N[i]?=some x→σ[i]?=some (some v)→AJ X.env.scope x→∃u,bh v u∧CJ X.env s.heap m x u
  cell:∀x c,X.env.cells.lookup x=some c→∃v,s.heap.IsCell c v
  free:H X.env.locals=none
  freeC:∀x c,X.env.cells.lookup x=some c→H c=none
  pin:∀p∈X.pn++pins,s.heap.get? p.1=some p.2∧H p.1=none∧p.1≠X.env.locals∧p.1∉X.fs∧∀v,p.2.data≠.cell v
  hok:jf X.prog X.w H s.heap
  len:σ.length=X.N.length
section
variable{X:Cx}{pins:List (Addr × Obj)}{σ:List (Option V)}{H H':Hp}{s:Shared}{h':Heap}
theorem Cx.Ok.nofr(ok:X.Ok){b:Addr}{o:Obj}(e:X.base.get? b=some o):b∉X.fs:=fun hb=>by
  have:=(ok.funs.mem hb).1
  rw [e] at this;cases this
theorem aw.bs(I:aw X pins σ H s):∀b o,X.base.get? b=some o→s.heap.get? b=some o∧H b=none:=fun b o e=>
  ⟨I.base.keep b o (I.ok.bs b o e).1 (I.ok.bs b o e).2 (I.ok.nofr e) (I.ok.noex b o e),I.base.free b o (I.ok.bs b o e).1 (I.ok.bs b o e).2 (I.ok.noex b o e)⟩
theorem aw.bk(I:aw X pins σ H s):∀b o,X.base.get? b=some o→s.heap.get? b=some o:=fun b o e=>(I.bs b o e).1
theorem aw.mod(I:aw X pins σ H s):Mod X.K X.mg X.base:=I.ok.mod
theorem aw.kIn(I:aw X pins σ H s):X.K.In s.heap:=I.ok.mod.kin.keeps I.bk
theorem aw.fr(I:aw X pins σ H s):∃m,Fr X.base X.env.locals s.heap m:=
  let ⟨m,hn,_⟩:=I.loc
  ⟨m,hn,I.bk,Nat.le_trans I.ok.bsz I.ok.above⟩
theorem aw.lt(I:aw X pins σ H s):X.env.locals < s.heap.objs.size:=let ⟨_,hn,_⟩:=I.loc;hn.lt
theorem aw.sz(I:aw X pins σ H s):X.s₀.heap.objs.size≤s.heap.objs.size:=Nat.le_trans I.ok.above (Nat.le_of_lt I.lt)
theorem aw.nofs(I:aw X pins σ H s){a:Addr}(h:s.heap.objs.size≤a):a∉X.fs:=fun hb=>by
  obtain⟨_,o,ho,_⟩:=I.ok.funs.mem hb
  exact absurd (Nat.lt_of_lt_of_le (Heap.lt_size ho) (Nat.le_trans I.sz h)) (Nat.lt_irrefl _)
theorem aw.cne(I:aw X pins σ H s):∀x c,X.env.cells.lookup x=some c→c≠X.env.locals:=fun x c e z=>by
  obtain⟨v,o,ho,hd⟩:=I.cell x c e
  obtain⟨m,⟨o',es,ep,ho',hd',_⟩,_⟩:=I.loc
  rw [z,ho'] at ho;cases ho;rw [hd'] at hd;cases hd
theorem aw.funs(I:aw X pins σ H s):s.heap.FunFrames X.base X.outer:=by
  have all:∀(l:List Env),(∀b∈rK l,b∈X.fs)→X.s₀.heap.FunFrames X.base l→s.heap.FunFrames X.base l:=by
    intro l
    induction l with
    | nil=>intro _ _;trivial
    | cons env r ih=>
      intro hs hl
      obtain⟨hk,⟨L,o,hf,hn,ho,hd⟩,hr⟩:=hl
      have hL:L∈X.fs:=hs L (by unfold rK;rw [List.filterMap_cons,hf];exact List.mem_cons_self)
      obtain⟨sl,e⟩:=I.base.slot L o ho (I.ok.frf L hL) hL fun z=>I.ok.exfs L z hL
      exact⟨hk,⟨L,_,hf,hn,e,hd⟩,ih (fun b hb=>hs b (by unfold rK;rw [List.filterMap_cons,hf];exact List.mem_cons_of_mem _ hb)) hr⟩
  exact all X.outer (fun _ hb=>hb) I.ok.funs
theorem aw.stack(I:aw X pins σ H s):s.heap.FunFrames X.base X.stack:=by
  rcases I.ok.stk with e | ⟨e,hf⟩
  · rw [e];exact I.funs
  · rw [e]
    obtain⟨m,hn,_⟩:=I.loc
    refine .cons (by rw [I.ok.kind];decide) hf hn ?_ I.funs
    exact Heap.get?_none_of_le (Nat.le_trans I.ok.bsz I.ok.above)
theorem aw.stkSub(I:aw X pins σ H s):∀b∈rK X.stack,b∈X.env.locals::X.fs:=fun b hb=>by
  rcases I.ok.stk with e | ⟨e,hf⟩
  · rw [e] at hb;exact List.mem_cons_of_mem _ hb
  · rw [e] at hb
    unfold rK at hb
    rw [List.filterMap_cons,hf] at hb
    exact hb
theorem aw.stkFree(I:aw X pins σ H s):∀b∈rK X.stack,H b=none:=fun b hb=>by
  rcases List.mem_cons.mp (I.stkSub b hb) with e | hb
  · rw [e];exact I.free
  · obtain⟨_,o,ho,_⟩:=I.ok.funs.mem hb
    exact I.base.free b o ho (I.ok.frf b hb) fun z=>I.ok.exfs b z hb
theorem aw.step{g':Array GenState}{t':Nat}{d':Drawn}{ch:List Addr}(I:aw X pins σ H s)
    (hch:∀b∈ch,(b∈X.ex∨X.s₀.heap.objs.size≤b)∧b≠X.env.locals∧(∀x c,X.env.cells.lookup x=some c→c≠b)∧∀p∈X.pn++pins,p.1≠b)
    (keep:∀b o,b≠X.env.locals→b∉X.fs→b∉ch→s.heap.get? b=some o→H b=none→h'.get? b=some o)
    (slot:∀b o,b≠X.env.locals→b∈X.fs→b∉ch→s.heap.get? b=some o→H b=none→∃sl,h'.get? b=some {o with slots:=sl})(free:∀b o,b∉ch→s.heap.get? b=some o→H b=none→H' b=none)
    (there:∀b o,b∉ch→s.heap.get? b=some o→∃o',h'.get? b=some o')
    (tups:∀b xs,H b=some (.tup xs)→H' b=some (.tup xs))(frzs:∀b o u,H b=some (.frz o u)→H' b=some (.frz o u))(tbls:∀b ps,H b=some (.tbl ps)→∃more,H' b=some (.tbl (ps++more)))
    (ns:∀m,s.heap.Ns X.env.locals m→h'.Ns X.env.locals m)(hok:jf X.prog X.w H' h')(hg:AllBare g'):
    aw X pins σ H' {s with heap:=h',gens:=g',drawn:=d',toks:=t'}:=by
  have neL:∀b o,X.s₀.heap.get? b=some o→b≠X.env.locals:=fun b o e=>Nat.ne_of_lt (Nat.lt_of_lt_of_le (Heap.lt_size e) I.ok.above)
  have neC:∀b o,X.s₀.heap.get? b=some o→b∉X.ex→b∉ch:=fun b o e hx hb=>by
    rcases(hch b hb).1 with z | z
    · exact hx z
    · exact absurd (Nat.lt_of_lt_of_le (Heap.lt_size e) z) (Nat.lt_irrefl _)
  have cellK:∀x c,X.env.cells.lookup x=some c→∀v,s.heap.IsCell c v→h'.IsCell c v:=fun x c e v ⟨o,ho,hd⟩=>by
    have nch:c∉ch:=fun z=>(hch c z).2.2.1 x c e rfl
    by_cases hc:c∈X.fs
    · obtain⟨sl,q⟩:=slot c o (I.cne x c e) hc nch ho (I.freeC x c e)
      exact⟨_,q,hd⟩
    · exact⟨o,keep c o (I.cne x c e) hc nch ho (I.freeC x c e),hd⟩
  refine⟨I.ok,I.os,hg,⟨fun b o e n hb hx=>?_,fun b o e n hb hx=>?_,fun b o e n hx=>?_,fun b o e hx=>?_,fun b xs e=>tups b xs (I.base.tups b xs e),fun b o xs e=>frzs b o xs (I.base.frzs b o xs e),fun b ps e=>?_⟩,?_,fun x c e=>?_,?_,fun x c e=>?_,fun p hp=>?_,hok,I.len⟩
  · exact keep b o (neL b o e) hb (neC b o e hx) (I.base.keep b o e n hb hx) (I.base.free b o e n hx)
  · obtain⟨sl,e1⟩:=I.base.slot b o e n hb hx
    obtain⟨sl',e2⟩:=slot b _ (neL b o e) hb (neC b o e hx) e1 (I.base.free b o e n hx)
    exact⟨sl',e2⟩
  · obtain⟨o',e1⟩:=I.base.there b o e hx
    exact free b o' (neC b o e hx) e1 (I.base.free b o e n hx)
  · obtain⟨o',e1⟩:=I.base.there b o e hx
    exact there b o' (neC b o e hx) e1
  · obtain⟨m1,e1⟩:=I.base.tbls b ps e
    obtain⟨m2,e2⟩:=tbls b _ e1
    exact⟨m1++m2,by rw [e2,Array.append_assoc]⟩
  · obtain⟨m,hn,hl⟩:=I.loc
    refine⟨m,ns m hn,fun i x v e1 e2 e3=>?_⟩
    obtain⟨u,r,l⟩:=hl i x v e1 e2 e3
    refine⟨u,r,?_⟩
    rcases l with l | ⟨k,c,e,z⟩
    · exact .inl l
    · exact .inr ⟨k,c,e,cellK x c e _ z⟩
  · obtain⟨v,z⟩:=I.cell x c e
    exact⟨v,cellK x c e v z⟩
  · obtain⟨m,⟨o,_,_,ho,_⟩,_⟩:=I.loc
    exact free _ o (fun z=>(hch _ z).2.1 rfl) ho I.free
  · obtain⟨v,o,ho,hd⟩:=I.cell x c e
    exact free c o (fun z=>(hch c z).2.2.1 x c e rfl) ho (I.freeC x c e)
  · obtain⟨e,n,ne,nf,d⟩:=I.pin p hp
    have nch:p.1∉ch:=fun z=>(hch p.1 z).2.2.2 p hp rfl
    exact⟨keep p.1 p.2 ne nf nch e n,free p.1 p.2 nch e n,ne,nf,d⟩
theorem aw.un{t':Nat}(I:aw X pins σ H s)(u:Un X.fs [] H H' s.heap h')(hok:jf X.prog X.w H' h'):aw X pins σ H' {s with heap:=h',toks:=t'}:=by
  obtain⟨m,⟨o,es,ep,ho,r⟩,_⟩:=id I.loc
  obtain⟨sl,hL⟩:=u.any ho I.free (by simp)
  exact I.step (g':=s.gens) (d':=s.drawn) (ch:=[]) (fun _ z=>nomatch z) (fun b o _ hb _ e n=>u.keep b o e n hb (by simp)) (fun b o _ hb _ e n=>u.slot b o e n hb (by simp)) (fun b o _ e n=>u.free b o e n (by simp)) (fun b o _ e=>u.there b o e (by simp)) u.tups u.frzs u.tbls (fun m' hm=>by
    obtain⟨o',es',ep',ho',r'⟩:=hm
    rw [ho] at ho';cases ho'
    exact⟨_,es',ep',hL,r'⟩) hok I.bare
theorem aw.call{g':Array GenState}{t':Nat}{d':Drawn}{ch:List Addr}(I:aw X pins σ H s)(u:Un (rK X.stack) ch H H' s.heap h')(hok:jf X.prog X.w H' h')(hg:AllBare g')
    (hch:∀b∈ch,(b∈X.ex∨X.s₀.heap.objs.size≤b)∧b≠X.env.locals∧(∀x c,X.env.cells.lookup x=some c→c≠b)∧∀p∈X.pn++pins,p.1≠b):
    aw X pins σ H' {s with heap:=h',gens:=g',drawn:=d',toks:=t'}:=by
  obtain⟨m,⟨o,es,ep,ho,r⟩,_⟩:=id I.loc
  obtain⟨sl,hL⟩:=u.any ho I.free fun z=>(hch _ z).2.1 rfl
  exact I.step (ch:=ch) hch (fun b o hL hb hc e n=>u.keep b o e n (fun z=>(List.mem_cons.mp (I.stkSub b z)).elim hL hb) hc) (fun b o _ _ hc e n=>u.any e n hc) (fun b o hc e n=>u.free b o e n hc) (fun b o hc e=>u.there b o e hc) u.tups u.frzs u.tbls (fun m' hm=>by
    obtain⟨o',es',ep',ho',r'⟩:=hm
    rw [ho] at ho';cases ho'
    exact⟨_,es',ep',hL,r'⟩) hok hg
theorem aw.turned{t':Nat}{it:Addr}(I:aw X pins σ H s)(k:∀b o,b≠it→s.heap.get? b=some o→h'.get? b=some o)(hn:H it=none)(hL:it≠X.env.locals)
    (h1:it∈X.ex∨X.s₀.heap.objs.size≤it)(h2:∀x c,X.env.cells.lookup x=some c→c≠it)(h3:∀p∈X.pn++pins,p.1≠it):aw X pins σ H {s with heap:=h',toks:=t'}:=by
  have nit:∀b u,H b=some u→b≠it:=fun b u e z=>by rw [z,hn] at e;cases e
  refine I.step (g':=s.gens) (d':=s.drawn) (ch:=[it]) (fun b hb=>?_) (fun b o _ _ hc e _=>k b o (fun z=>hc (by simp [z])) e) (fun b o _ _ hc e _=>⟨o.slots,k b o (fun z=>hc (by simp [z])) e⟩) (fun _ _ _ _ n=>n)
    (fun b o hc e=>⟨o,k b o (fun z=>hc (by simp [z])) e⟩) (fun _ _ e=>e) (fun _ _ _ e=>e) (fun b ps e=>⟨#[],by rw [e];simp⟩) (fun m hm=>?_) (fun b u e=>?_) I.bare
  · have e:b=it:=by simpa using hb
    subst e
    exact⟨h1,hL,h2,h3⟩
  · obtain⟨o,es,ep,ho,r⟩:=hm
    exact⟨o,es,ep,k _ o (Ne.symm hL) ho,r⟩
  · refine(I.hok b u e).stay (fun c v hc q=>k c v ?_ q) (fun _ q=>q) fun _ _ q=>q
    rcases hc with z | z
    · rw [z];exact nit b u e
    · exact nit c _ z
theorem aw.tok(I:aw X pins σ H s)(t:Nat):aw X pins σ H {s with toks:=t}:=I.un (h':=s.heap) (t':=t) Un.refl I.hok
theorem aw.kept{t':Nat}(I:aw X pins σ H s)(k:∀b u,s.heap.get? b=some u→h'.get? b=some u):aw X pins σ H {s with heap:=h',toks:=t'}:=I.un (Un.kept k) (I.hok.kept k)
theorem aw.laid{a:Addr}{o:HO}{t':Nat}(I:aw X pins σ H s)(k:∀b u,s.heap.get? b=some u→h'.get? b=some u)(hp:s.heap.objs.size≤a)(new:cz X.prog X.w (aY H a o) h' a o):
    aw X pins σ (aY H a o) {s with heap:=h',toks:=t'}:=I.un (Un.laid k hp (I.hok.fresh hp)) (I.hok.laid k hp new)
theorem aw.write{x e:Addr}{o:HO}{t':Nat}(I:aw X pins σ H s)(mu:AF (H x))(he:e=x∨H e=some (.own x))(k:∀b u,b≠e→s.heap.get? b=some u→h'.get? b=some u)(heo:∃u,h'.get? e=some u)
    (new:cz X.prog X.w (aY H x o) h' x o):aw X pins σ (aY H x o) {s with heap:=h',toks:=t'}:=I.un (Un.write mu he k heo) (I.hok.write mu he k heo new)
theorem aw.pins_of{pins':List (Addr × Obj)}(I:aw X pins σ H s)(h:∀p∈pins',s.heap.get? p.1=some p.2∧H p.1=none∧p.1≠X.env.locals∧p.1∉X.fs∧∀v,p.2.data≠.cell v):aw X pins' σ H s:=
  ⟨I.ok,I.os,I.bare,I.base,I.loc,I.cell,I.free,I.freeC,fun p hp=>(List.mem_append.mp hp).elim (fun z=>I.pin p (List.mem_append_left _ z)) (h p),I.hok,I.len⟩
theorem mU{N:List Str}(hN:N.Nodup){i j:Nat}{x:Str}(a:N[i]?=some x)(b:N[j]?=some x):i=j:=by
  obtain⟨h1,e1⟩:=List.getElem?_eq_some_iff.mp a
  obtain⟨h2,e2⟩:=List.getElem?_eq_some_iff.mp b
  exact(List.getElem_inj hN).mp (e1.trans e2.symm)
theorem lq{M:Model}{A:Around}{E:Value→Shared→Prop}{i:Nat}{x:Str}{v:V}{u:Value}{Q:Unit→Shared→Prop}(I:aw X pins σ H s)(hN:X.N.Nodup)(hi:X.N[i]?=some x)(hx:Ap X.env.scope x)(r:bh v u)
    (h:∀s',aw X pins (σ.set i (some v)) H s'→(∃a,Heap.SameBut a s.heap s'.heap∧(a=X.env.locals∨X.env.cells.lookup x=some a))→Q () s')(hf:X.fn x=true∨X.env.scope.names.lookup x=some .local:=by first | exact .inl rfl | exact .inr rfl | assumption):wpAny M A (storeName X.env x u) Q E s:=by
  obtain⟨m,hn,hl⟩:=id I.loc
  have hcls:(X.env.scope.kind==.class || (X.env.scope.kind==.module&&X.env.locals != X.env.globals))=false:=by rw [I.ok.kind];rfl
  have hiσ:i < σ.length:=by rw [I.len];exact(List.getElem?_eq_some_iff.mp hi).1
  have cne:=I.cne
  have tracked:∀{a:Addr} {h':Heap},(∃o,s.heap.get? a=some o∧H a=none)→Heap.SameBut a s.heap h'→jf X.prog X.w H h':=fun{a h'} ha hs b ob e=>by
    obtain⟨_,_,hfree⟩:=ha
    refine(I.hok b ob e).stay (fun c w' hc q=>(hs.2 c ?_).trans q) (fun _ q=>q) fun _ _ q=>q
    rintro rfl
    rcases hc with rfl | hc
    · rw [hfree] at e;cases e
    · rw [hfree] at hc;cases hc
  rcases hx with hk | hk
  · refine wpAny_storeName_local hk hn (fun h' hn' hs=>?_) hcls
    obtain⟨oL,_,_,hoL,_⟩:=id hn
    refine h _ ⟨I.ok,I.os,I.bare,⟨fun b o e n hb hx=>?_,fun b o e n hb hx=>?_,I.base.free,fun b o e hx=>?_,I.base.tups,I.base.frzs,I.base.tbls⟩,⟨_,hn',fun j y v' e1 e2 e3=>?_⟩,fun y c e=>?_,I.free,I.freeC,fun p hp=>?_,tracked ⟨oL,hoL,I.free⟩ hs,by simpa using I.len⟩ ⟨_,hs,.inl rfl⟩
    · exact(hs.2 b (Nat.ne_of_lt (Nat.lt_of_lt_of_le (Heap.lt_size e) I.ok.above))).trans (I.base.keep b o e n hb hx)
    · obtain⟨sl,e1⟩:=I.base.slot b o e n hb hx
      exact⟨sl,(hs.2 b (Nat.ne_of_lt (Nat.lt_of_lt_of_le (Heap.lt_size e) I.ok.above))).trans e1⟩
    · obtain⟨o',e1⟩:=I.base.there b o e hx
      exact⟨o',(hs.2 b (Nat.ne_of_lt (Nat.lt_of_lt_of_le (Heap.lt_size e) I.ok.above))).trans e1⟩
    · by_cases hj:j=i
      · subst hj
        rw [hi] at e1;cases e1
        rw [List.getElem?_set_self hiσ] at e2
        cases e2
        exact⟨u,r,.inl ⟨hk,by simp⟩⟩
      · rw [List.getElem?_set_ne (Ne.symm hj)] at e2
        obtain⟨u',r',q⟩:=hl j y v' e1 e2 e3
        refine⟨u',r',?_⟩
        rcases q with ⟨k,e⟩ | ⟨k,c,e,z⟩
        · refine .inl ⟨k,?_⟩
          have:y≠x:=fun e=>hj (mU hN e1 (e ▸ hi))
          simp [this,e]
        · exact .inr ⟨k,c,e,z.sameBut hs (cne y c e)⟩
    · obtain⟨w',z⟩:=I.cell y c e
      exact⟨w',z.sameBut hs (cne y c e)⟩
    · obtain⟨e,n,ne,nf,d⟩:=I.pin p hp
      exact⟨(hs.2 p.1 ne).trans e,n,ne,nf,d⟩
  · have hfn:X.fn x=true:=by
      rcases hf with z | z
      · exact z
      · rw [z] at hk;cases hk
    obtain⟨c,hc⟩:=I.ok.has x (.inl hk)
    obtain⟨w',z⟩:=I.cell x c hc
    refine wpAny_storeName_cell I.ok.kind hk hc z (fun h' hc' hs=>?_)
    obtain⟨oc,hoc,hocd⟩:=id z
    refine h {s with heap:=h'} ⟨I.ok,I.os,I.bare,⟨fun b o e n hb hx=>?_,fun b o e n hb hx=>?_,I.base.free,fun b o e hx=>?_,I.base.tups,I.base.frzs,I.base.tbls⟩,⟨m,hn.sameBut hs (Ne.symm (cne x c hc)),fun j y v' e1 e2 e3=>?_⟩,fun y c' e=>?_,I.free,I.freeC,fun p hp=>?_,tracked ⟨oc,hoc,I.freeC x c hc⟩ hs,by simpa using I.len⟩ ⟨c,hs,.inr hc⟩
    · exact(hs.2 b (Nat.ne_of_lt (Nat.lt_of_lt_of_le (Heap.lt_size e) (I.ok.cab x c hfn hc)))).trans (I.base.keep b o e n hb hx)
    · obtain⟨sl,e1⟩:=I.base.slot b o e n hb hx
      exact⟨sl,(hs.2 b (Nat.ne_of_lt (Nat.lt_of_lt_of_le (Heap.lt_size e) (I.ok.cab x c hfn hc)))).trans e1⟩
    · obtain⟨o',e1⟩:=I.base.there b o e hx
      exact⟨o',(hs.2 b (Nat.ne_of_lt (Nat.lt_of_lt_of_le (Heap.lt_size e) (I.ok.cab x c hfn hc)))).trans e1⟩
    · by_cases hj:j=i
      · subst hj
        rw [hi] at e1;cases e1
        rw [List.getElem?_set_self hiσ] at e2
        cases e2
        exact⟨u,r,.inr ⟨.inl hk,c,hc,hc'⟩⟩
      · rw [List.getElem?_set_ne (Ne.symm hj)] at e2
        obtain⟨u',r',q⟩:=hl j y v' e1 e2 e3
        refine⟨u',r',?_⟩
        rcases q with q | ⟨k,c',e,z'⟩
        · exact .inl q
        · refine .inr ⟨k,c',e,z'.sameBut hs ?_⟩
          rintro rfl
          exact hj (mU hN e1 (I.ok.inj _ _ _ e hc ▸ hi))
    · by_cases hcc:c'=c
      · subst hcc;exact⟨_,hc'⟩
      · obtain⟨w2,z2⟩:=I.cell y c' e
        exact⟨w2,z2.sameBut hs hcc⟩
    · obtain⟨e,n,ne,nf,d⟩:=I.pin p hp
      refine⟨(hs.2 p.1 ?_).trans e,n,ne,nf,d⟩
      intro q
      rw [q,hoc] at e
      have q':oc=p.2:=Option.some.inj e
      exact d w' (by rw [←q'];exact hocd)
theorem iM{M:Model}{A:Around}{E:Value→Shared→Prop}{i:Nat}{x:Str}{v:V}{u:Value}{Q:Unit→Shared→Prop}(I:aw X pins σ H s)(hN:X.N.Nodup)(hi:X.N[i]?=some x)(hx:Ap X.env.scope x)(r:bh v u)
    (h:∀s',aw X pins (σ.set i (some v)) H s'→Q () s')(hf:X.fn x=true∨X.env.scope.names.lookup x=some .local:=by first | exact .inl rfl | exact .inr rfl | assumption):wpAny M A (storeName X.env x u) Q E s:=
  lq I hN hi hx r (fun s' I' _=>h s' I') hf
theorem aw.call'{s':Shared}{ch:List Addr}(I:aw X pins σ H s)(ho:s'.os=s.os)(u:Un (rK X.stack) ch H H' s.heap s'.heap)(hok:jf X.prog X.w H' s'.heap)(hg:AllBare s'.gens)
    (hch:∀b∈ch,(b∈X.ex∨X.s₀.heap.objs.size≤b)∧b≠X.env.locals∧(∀x c,X.env.cells.lookup x=some c→c≠b)∧∀p∈X.pn++pins,p.1≠b):aw X pins σ H' s':=by
  obtain⟨h',g',d',t',o'⟩:=s'
  have e:o'=s.os:=ho
  subst e
  exact I.call (g':=g') (t':=t') (d':=d') u hok hg hch
end
abbrev XK:=Value→Option Addr→Hp→Prop
abbrev St:=List (Option V)
abbrev VK:=V→Hp→Prop
abbrev TE:=St→Hp→VK→Prop
abbrev TT:=St→Hp→(Bool→Hp→Prop)→Prop
abbrev TA:=St→Hp→(List V→Hp→Prop)→Prop
structure nM where
  nx:St→Hp→Prop
  rt:VK
  bk:St→Hp→Prop:=fun _ _=>False
  ct:St→Hp→Prop:=fun _ _=>False
abbrev TS:=nM→St→Hp→Prop
def EP(X:Cx)(pins:List (Addr × Obj))(σ:St)(Q:VK)(u:Value)(s':Shared):Prop:=∃v H',aw X pins σ H' s'∧bh v u∧Q v H'
def TP(X:Cx)(pins:List (Addr × Obj))(σ:St)(Q:Bool→Hp→Prop)(b:Bool)(s':Shared):Prop:=∃H',aw X pins σ H' s'∧Q b H'
def AP(X:Cx)(pins:List (Addr × Obj))(σ:St)(Q:List V→Hp→Prop)(us:List Value)(s':Shared):Prop:=∃vs H',aw X pins σ H' s'∧aI vs us∧Q vs H'
def SP(X:Cx)(pins:List (Addr × Obj))(D:nM)(f:Flow)(s':Shared):Prop:=
  match f with
  | .next=>∃σ' H',aw X pins σ' H' s'∧D.nx σ' H'
  | .brk=>∃σ' H',aw X pins σ' H' s'∧D.bk σ' H'
  | .cont=>∃σ' H',aw X pins σ' H' s'∧D.ct σ' H'
  | .ret u=>∃v σ' H',aw X pins σ' H' s'∧bh v u∧D.rt v H'
def PE(X:Cx)(e:Expr)(t:TE):Prop:=
  ∀(pins:List (Addr × Obj)) (s:Shared) (σ:St) (H:Hp) (Q:VK),aw X pins σ H s→t σ H Q→wpAny (model X.prog X.w) X.A (eval e X.env) (EP X pins σ Q) X.xe s
def PT(X:Cx)(e:Expr)(t:TT):Prop:=
  ∀(pins:List (Addr × Obj)) (s:Shared) (σ:St) (H:Hp) (Q:Bool→Hp→Prop),aw X pins σ H s→t σ H Q→wpAny (model X.prog X.w) X.A (isTrue e X.env (eval e X.env)) (TP X pins σ Q) X.xe s
def PW(X:Cx)(e:Expr)(t:TT):Prop:=
  ∀(whole:Sem Value) (pins:List (Addr × Obj)) (s:Shared) (σ:St) (H:Hp) (Q:Bool→Hp→Prop),aw X pins σ H s→t σ H Q→wpAny (model X.prog X.w) X.A (isTrue e X.env whole) (TP X pins σ Q) X.xe s
theorem PW.pt{X:Cx}{e:Expr}{t:TT}(h:PW X e t):PT X e t:=h _
def PA(X:Cx)(es:List Expr)(t:TA):Prop:=
  ∀(pos:Pos) (pins:List (Addr × Obj)) (s:Shared) (σ:St) (H:Hp) (Q:List V→Hp→Prop),aw X pins σ H s→t σ H Q→wpAny (model X.prog X.w) X.A (spliced (backTo pos (starEach es X.env))) (AP X pins σ Q) X.xe s
def PS(X:Cx)(st:Stmt)(t:TS):Prop:=
  ∀(pins:List (Addr × Obj)) (s:Shared) (σ:St) (H:Hp) (D:nM),aw X pins σ H s→t D σ H→wpAny (model X.prog X.w) X.A (exec st X.env) (SP X pins D) X.xe s
def jr(X:Cx)(st:List Stmt)(t:TS):Prop:=
  ∀(pins:List (Addr × Obj)) (s:Shared) (σ:St) (H:Hp) (D:nM),aw X pins σ H s→t D σ H→wpAny (model X.prog X.w) X.A (execs st X.env) (SP X pins D) X.xe s
theorem bH{α:Type}{t:Sem α}{Q Q':α→Shared→Prop}{M:Model}{A:Around}{E:Value→Shared→Prop}{s:Shared}(h:wpAny M A t Q E s)(hQ:∀a s,Q a s→Q' a s):wpAny M A t Q' E s:=wpAny_mono h hQ fun _ _ x=>x
end L2
namespace L2
open PySem PySem.Spec PyProof.Rows
section
variable{X:Cx}
def Cf(i:Nat):TE:=fun σ H Q=>∃v,σ[i]?=some (some v)∧Q v H
def tC(v:V):TE:=fun _ H Q=>Q v H
theorem zc{i:Nat}{x:Str}{pos:Pos}(hN:X.N[i]?=some x)(hv:AJ X.env.scope x)(hd:(x==("__debug__":Str))=false:=by decide)(hcd:(x==("__classdict__":Str))=false:=by decide):PE X (.Name x pos) (Cf i):=by
  intro pins s σ H Q I h
  obtain⟨v,e,h⟩:=h
  obtain⟨m,hn,hl⟩:=I.loc
  obtain⟨u,r,l⟩:=hl i x v hN e hv
  have fin:EP X pins σ Q u s:=⟨v,H,I,r,h⟩
  rcases l with ⟨hk,hm⟩ | ⟨hk,c,hc,hcell⟩
  · exact wpAny_Name (wpAny_loadName_local I.ok.kind hk hn hm fin) hd
  · rcases hk with hk | hk
    · exact wpAny_Name (wpAny_loadName_cell I.ok.kind hk hc hcell fin) hd
    · exact wpAny_Name (wpAny_loadName_free I.ok.kind hk hc hcell fin hcd) hd
theorem ot{i j pos}:PE X (.Constant (.int i) j pos) (tC (.int i)):=fun _ _ _ H _ I h=>wpAny_Constant_int ⟨.int i,H,I.tok _,⟨_,rfl⟩,h⟩
theorem BE{b j pos}:PE X (.Constant (.bool b) j pos) (tC (.bl b)):=fun _ _ _ H _ I h=>Constant_bool ⟨.bl b,H,I,rfl,h⟩
theorem y8{j pos}:PE X (.Constant .none j pos) (tC .non):=fun _ _ _ H _ I h=>Constant_none ⟨.non,H,I,rfl,h⟩
theorem za{x j pos}:PE X (.Constant (.str x) j pos) (tC (.str x)):=fun _ _ _ H _ I h=>Calls.Constant_str ⟨.str x,H,I.tok _,⟨_,rfl⟩,h⟩
def Gl(X:Cx)(x:Str):Prop:=X.env.kindOf x=some .globalImplicit
theorem pG{E:Value→Shared→Prop}{pins:List (Addr × Obj)}{s:Shared}{σ:St}{H:Hp}{x:Str}{u:Value}{pos:Pos}{Q:Value→Shared→Prop}(I:aw X pins σ H s)(hg:Gl X x)(hm:X.mg x=some u)(h:Q u s)
    (hd:(x==("__debug__":Str))=false:=by decide):wpAny (model X.prog X.w) X.A (eval (.Name x pos) X.env) Q E s:=
  Calls.Name_function_global I.ok.kind hg (Calls.loadGlobal_global (by rw [I.ok.glob];exact I.mod.glob.keeps I.bk) hm h) hd
theorem eF{E:Value→Shared→Prop}{pins:List (Addr × Obj)}{s:Shared}{σ:St}{H:Hp}{x:Str}{u:Value}{pos:Pos}{Q:Value→Shared→Prop}(I:aw X pins σ H s)(hg:Gl X x)(hm:X.mg x=none)(hv:bootBuiltins x=some u)(h:Q u s)
    (hn:x≠"__name__":=by decide)(hd:(x==("__debug__":Str))=false:=by decide):wpAny (model X.prog X.w) X.A (eval (.Name x pos) X.env) Q E s:=by
  obtain⟨mb,h1,h2⟩:=I.mod.blt
  exact Calls.Name_function_global I.ok.kind hg (Calls.loadGlobal_builtin (by rw [I.ok.glob];exact I.mod.glob.keeps I.bk) hm (by rw [I.ok.blt];exact h1.keeps I.bk) ((h2 x hn).trans hv) h) hd
theorem vQ{x:Str}{v:V}{u:Value}{pos:Pos}(hg:Gl X x)(hm:X.mg x=some u)(r:bh v u)(hd:(x==("__debug__":Str))=false:=by decide):PE X (.Name x pos) (tC v):=
  fun _ _ _ H _ I h=>pG I hg hm ⟨v,H,I,r,h⟩ hd
variable{a b:Expr}{ta tb:TE}{pos:Pos}
def tB(t:TE):TT:=fun σ H Q=>t σ H fun x H1=>∃c,x=.bl c∧Q c H1
theorem zw{e:Expr}{t:TE}(h:PE X e t)(he:∀whole,isTrue e X.env whole=(do let v ←whole;standAt e.pos;holding [v] (truthy v)):=by intro _;rfl):PT X e (tB t):=by
  intro pins s σ H Q I hw
  refine isTrue_plain (bH (h pins s σ H _ I hw) fun v s1 ⟨x,H1,I1,r1,q1⟩=>?_) (he _)
  obtain⟨d,rfl,q⟩:=q1
  cases r1
  exact wpAny_truthy_bool ⟨H1,I1,q⟩
variable{tA tB':TT}{cV:List Expr}
def B7(t u:TT):TT:=fun σ H Q=>t σ H fun c H1=>if c=true then u σ H1 Q else Q false H1
def DG(t u:TT):TT:=fun σ H Q=>t σ H fun c H1=>if c=true then Q true H1 else u σ H1 Q
def Ca(t:TT):TT:=fun σ H Q=>t σ H fun c H1=>Q (!c) H1
theorem wj(ha:PT X a tA):PW X (.BoolOp .And [a] pos) tA:=by
  intro wh pins s σ H Q I h
  refine isTrue_and (bH (ha pins s σ H Q I h) fun c s1 e=>?_)
  cases c with
  | true=>exact isTrue_and_nil e
  | false=>exact e
theorem zy(ha:PT X a tA):PW X (.BoolOp .Or [a] pos) tA:=by
  intro wh pins s σ H Q I h
  refine isTrue_or (bH (ha pins s σ H Q I h) fun c s1 e=>?_)
  cases c with
  | false=>exact isTrue_or_nil e
  | true=>exact e
theorem zx(ha:PT X a tA)(hb:PW X (.BoolOp .And (b::cV) pos) tB'):PW X (.BoolOp .And (a::b::cV) pos) (B7 tA tB'):=by
  intro wh pins s σ H Q I h
  refine isTrue_and (bH (ha pins s σ H _ I h) fun c s1 ⟨H1,I1,q1⟩=>?_)
  cases c with
  | true=>exact hb wh pins s1 σ H1 Q I1 q1
  | false=>exact⟨H1,I1,q1⟩
theorem BM(ha:PT X a tA)(hb:PW X (.BoolOp .Or (b::cV) pos) tB'):PW X (.BoolOp .Or (a::b::cV) pos) (DG tA tB'):=by
  intro wh pins s σ H Q I h
  refine isTrue_or (bH (ha pins s σ H _ I h) fun c s1 ⟨H1,I1,q1⟩=>?_)
  cases c with
  | true=>exact⟨H1,I1,q1⟩
  | false=>exact hb wh pins s1 σ H1 Q I1 q1
theorem zv(ha:PT X a tA):PT X (.UnaryOp .Not a pos) (Ca tA):=by
  intro pins s σ H Q I h
  exact isTrue_not (ha pins s σ H (fun c H1=>Q (!c) H1) I h)
def B8(ta tb:TE):TE:=fun σ H Q=>ta σ H fun x H1=>∃c,x=.bl c∧if c=true then tb σ H1 Q else Q (.bl false) H1
def Cb(ta:TE):TE:=fun σ H Q=>ta σ H fun x H1=>∃c,x=.bl c∧Q (.bl (!c)) H1
theorem y_{op}{t:TE}(h:PE X a t):PE X (.BoolOp op [a] pos) t:=fun pins s σ H Q I hw=>BoolOp_one (h pins s σ H Q I hw)
theorem y4(ha:PE X a ta)(hb:PE X (.BoolOp .And (b::cV) pos) tb):PE X (.BoolOp .And (a::b::cV) pos) (B8 ta tb):=by
  intro pins s σ H Q I h
  refine BoolOp_and (bH (ha pins s σ H _ I h) fun v s1 ⟨x,H1,I1,r1,q1⟩=>?_)
  obtain⟨c,rfl,q1⟩:=q1
  cases r1
  refine wpAny_truthy_bool ?_
  cases c with
  | true=>exact hb pins s1 σ H1 Q I1 q1
  | false=>exact⟨.bl false,H1,I1,rfl,q1⟩
theorem y9(ha:PE X a ta):PE X (.UnaryOp .Not a pos) (Cb ta):=by
  intro pins s σ H Q I h
  refine UnaryOp_ (bH (ha pins s σ H _ I h) fun v s1 ⟨x,H1,I1,r1,q1⟩=>?_)
  obtain⟨c,rfl,q1⟩:=q1
  cases r1
  exact not_of (wpAny_truthy_bool ⟨.bl (!c),H1,I1,rfl,q1⟩)
end
end L2
namespace L2
open PySem PySem.Spec PyProof.Rows
def ce(K:PySem.W.Frag)(H:Hp)(a:Addr)(xs:List V):Prop:=
  Rd H a (.lst xs)∨
    ∃(o:Obj) (its:Array Value) (n:Nat),K.lookup a=some o∧o.cls=.type "list"∧o.dict=none∧o.data=.seq its n∧its.size≤sizeLine∧aI xs its.toList
def bK(K:PySem.W.Frag)(H:Hp)(a:Addr)(xs:List V):Prop:=
  Rd H a (.tup xs)∨
    ∃(o:Obj) (its:Array Value) (n:Nat),K.lookup a=some o∧o.cls=.type "tuple"∧o.dict=none∧o.data=.seq its n∧its.size≤sizeLine∧aI xs its.toList
def CP:Value→Option V
  | .none=>some .non
  | .bool b=>some (.bl b)
  | .int i _=>some (.int i)
  | .str x _=>some (.str x)
  | .bytes b _=>some (.byt b)
  | .float b _=>some (.flt b)
  | .ref a=>some (.ref a)
  | .type n=>some (.ty n)
  | _=>none
theorem bh.abs{x:V}{u:Value}(r:bh x u):CP u=some x:=by
  cases x with
  | non=>cases r;rfl
  | bl _=>cases r;rfl
  | int _=>obtain⟨t,rfl⟩:=r;rfl
  | str _=>obtain⟨t,rfl⟩:=r;rfl
  | byt _=>obtain⟨t,rfl⟩:=r;rfl
  | flt _=>obtain⟨t,rfl⟩:=r;rfl
  | ref _=>cases r;rfl
  | ty _=>cases r;rfl
theorem bh.inj{x y:V}{u:Value}(r:bh x u)(q:bh y u):x=y:=Option.some.inj (r.abs.symm.trans q.abs)
theorem aI.inj:∀{xs ys:List V} {us:List Value},aI xs us→aI ys us→xs=ys
  | _,_,_,.nil,.nil=>rfl
  | _,_,_,.cons r t,.cons r' t'=>by rw [r.inj r',aI.inj t t']
section
variable{X:Cx}{pins:List (Addr × Obj)}{σ:St}{H:Hp}{s:Shared}{a:Addr}{xs ys:List V}
theorem ce.of{K:PySem.W.Frag}(h:H a=some (.lst xs)):ce K H a xs:=.inl (.inl h)
theorem bK.of{K:PySem.W.Frag}(h:H a=some (.tup xs)):bK K H a xs:=.inl (.inl h)
theorem aw.list(I:aw X pins σ H s)(h:ce X.K H a xs):∃its:List Value,aI xs its∧PlainL s.heap a its.toArray∧xs.length≤sizeLine:=by
  rcases h with h | ⟨o,its,n,hk,hc,hd,hs,hz,r⟩
  · obtain⟨z,its,n,r,e⟩:=h.ok I.hok
    exact⟨its,r,⟨_,n,e,rfl,rfl,rfl⟩,z⟩
  · refine⟨its.toList,r,⟨o,n,I.kIn a o hk,hc,hd,by simpa using hs⟩,?_⟩
    have e:=r.length
    simp only [Array.length_toList] at e
    lia
theorem aw.tuple(I:aw X pins σ H s)(h:bK X.K H a xs):∃its:List Value,aI xs its∧IsTup s.heap a its.toArray∧xs.length≤sizeLine:=by
  rcases h with h | ⟨o,its,n,hk,hc,_,hs,hz,r⟩
  · obtain⟨z,its,r,p⟩:=h.ok I.hok
    exact⟨its,r,p.tup,z⟩
  · refine⟨its.toList,r,⟨o,I.kIn a o hk,hc,n,by simpa using hs⟩,?_⟩
    have e:=r.length
    simp only [Array.length_toList] at e
    lia
theorem aw.tupD(I:aw X pins σ H s)(h:bK X.K H a xs):∃o,s.heap.get? a=some o∧o.dict=none:=by
  rcases h with h | ⟨o,its,n,hk,hc,hd,hs,hz,r⟩
  · obtain⟨z,its,r,o,e,_,_,_,hd⟩:=h.ok I.hok
    exact⟨o,e,hd⟩
  · exact⟨o,I.kIn a o hk,hd⟩
theorem aw.list_inj(I:aw X pins σ H s)(h:ce X.K H a xs)(h':ce X.K H a ys):xs=ys:=by
  obtain⟨its,r,⟨o,n,e,_,_,d⟩,_⟩:=I.list h
  obtain⟨its',r',⟨o',n',e',_,_,d'⟩,_⟩:=I.list h'
  rw [e] at e';cases e'
  rw [d] at d'
  injection d' with d1 _
  have:its=its':=by simpa using congrArg Array.toList d1
  subst this
  exact r.inj r'
theorem aw.tuple_inj(I:aw X pins σ H s)(h:bK X.K H a xs)(h':bK X.K H a ys):xs=ys:=by
  obtain⟨its,r,⟨o,e,_,n,d⟩,_⟩:=I.tuple h
  obtain⟨its',r',⟨o',e',_,n',d'⟩,_⟩:=I.tuple h'
  rw [e] at e';cases e'
  rw [d] at d'
  injection d' with d1 _
  have:its=its':=by simpa using congrArg Array.toList d1
  subst this
  exact r.inj r'
end
abbrev Cx.wish(X:Cx)(E:Value→Shared→Prop):Cx:={X with xe:=E}
abbrev Cx.nox(X:Cx):Cx:=X.wish fun _ _=>False
theorem Cx.Ok.wish{X:Cx}(ok:X.Ok)(E:Value→Shared→Prop):(X.wish E).Ok:=
  ⟨ok.mod,ok.kind,ok.glob,ok.blt,ok.above,ok.inj,ok.has,ok.cab,ok.hd,ok.frames,ok.stk,ok.exf,ok.bs,ok.bsz,ok.noex,ok.exfs,ok.funs,ok.frf⟩
theorem Cx.Ok.unwish{X:Cx}{E:Value→Shared→Prop}(ok:(X.wish E).Ok):X.Ok:=
  ⟨ok.mod,ok.kind,ok.glob,ok.blt,ok.above,ok.inj,ok.has,ok.cab,ok.hd,ok.frames,ok.stk,ok.exf,ok.bs,ok.bsz,ok.noex,ok.exfs,ok.funs,ok.frf⟩
section
variable{X:Cx}{pins:List (Addr × Obj)}{σ:St}{H:Hp}{s:Shared}{E:Value→Shared→Prop}
theorem aw.wish(I:aw X pins σ H s)(E:Value→Shared→Prop):aw (X.wish E) pins σ H s:=⟨I.ok.wish E,I.os,I.bare,I.base,I.loc,I.cell,I.free,I.freeC,I.pin,I.hok,I.len⟩
theorem aw.unwish(I:aw (X.wish E) pins σ H s):aw X pins σ H s:=⟨I.ok.unwish,I.os,I.bare,I.base,I.loc,I.cell,I.free,I.freeC,I.pin,I.hok,I.len⟩
theorem SP.unwish{D:nM}{f:Flow}{s':Shared}(h:SP (X.wish E) pins D f s'):SP X pins D f s':=by
  cases f with
  | next=>obtain⟨σ',H',I,q⟩:=h;exact⟨σ',H',I.unwish,q⟩
  | brk=>obtain⟨σ',H',I,q⟩:=h;exact⟨σ',H',I.unwish,q⟩
  | cont=>obtain⟨σ',H',I,q⟩:=h;exact⟨σ',H',I.unwish,q⟩
  | ret u=>obtain⟨v,σ',H',I,r,q⟩:=h;exact⟨v,σ',H',I.unwish,r,q⟩
theorem jr.nox{st:List Stmt}{t:TS}(h:jr X.nox st t):jr X st t:=fun pins s σ H D I hw=>
  wpAny_mono (h pins s σ H D (I.wish _) hw) (fun _ _ q=>q.unwish) fun _ _ z=>False.elim z
end
section
variable{X:Cx}{st:Stmt}{cV:List Stmt}{t u:TS}{e:Expr}{te:TE}{pos:Pos}
def B':TS:=fun D σ H=>D.nx σ H
def Do(t u:TS):TS:=fun D σ H=>t {D with nx:=u D} σ H
theorem wb:jr X [] B':=fun _ _ σ H _ I h=>wpAny_execs_nil ⟨σ,H,I,h⟩
theorem tJ(h1:PS X st t)(h2:jr X cV u):jr X (st::cV) (Do t u):=by
  intro pins s σ H D I h
  refine wpAny_execs_cons (bH (h1 pins s σ H {D with nx:=u D} I h) fun f s1 q=>?_)
  cases f with
  | next=>
    obtain⟨σ',H',I',q⟩:=q
    exact h2 pins s1 σ' H' D I' q
  | ret v=>exact q
  | brk=>exact q
  | cont=>exact q
theorem wc(h1:PS X st t):jr X [st] t:=by
  intro pins s σ H D I h
  refine wpAny_execs_cons (bH (h1 pins s σ H D I h) fun f s1 q=>?_)
  cases f with
  | next=>exact wpAny_execs_nil q
  | ret v=>exact q
  | brk=>exact q
  | cont=>exact q
theorem aw.quiet{pins:List (Addr × Obj)}{σ:St}{H:Hp}{s:Shared}(I:aw X pins σ H s):interactive X.env=false:=by simp [interactive,I.ok.kind]
def B_(te:TE):TS:=fun D σ H=>te σ H fun _ H1=>D.nx σ H1
theorem wa(he:PE X e te)(hs:swapsWith e none pos.line X.env=pure false:=by rfl):PS X (.Expr e pos) (B_ te):=by
  intro pins s σ H D I h
  exact wpAny_Expr_any (bH (he pins s σ H _ I h) fun v s1 ⟨x,H1,I1,r1,q1⟩=>⟨σ,H1,I1,q1⟩) I.quiet hs
def Dn(te:TE):TS:=fun D σ H=>te σ H D.rt
theorem zt(he:PE X e te):PS X (.Return (some e) pos) (Dn te):=by
  intro pins s σ H D I h
  exact wpAny_Return_some (bH (he pins s σ H _ I h) fun v s1 ⟨x,H1,I1,r1,q1⟩=>⟨x,σ,H1,I1,r1,q1⟩)
def Di(c:TT)(t u:TS):TS:=fun D σ H=>c σ H fun b H1=>if b=true then t D σ H1 else u D σ H1
theorem BL{c:Expr}{a b:List Stmt}{tc:TT}(hc:PT X c tc)(ha:jr X a t)(hb:jr X b u):PS X (.If c a b pos) (Di tc t u):=by
  intro pins s σ H D I h
  refine wpAny_If (bH (hc pins s σ H _ I h) fun d s1 ⟨H1,I1,q1⟩=>?_)
  cases d with
  | true=>exact ha pins s1 σ H1 D I1 q1
  | false=>exact hb pins s1 σ H1 D I1 q1
end
abbrev TG:=V→St→Hp→(St→Hp→Prop)→Prop
abbrev uI:=List V→St→Hp→(St→Hp→Prop)→Prop
def PG(X:Cx)(target:Expr)(t:TG):Prop:=
  ∀(pins:List (Addr × Obj)) (s:Shared) (σ:St) (H:Hp) (v:V) (u:Value) (Q:St→Hp→Prop),aw X pins σ H s→bh v u→t v σ H Q→
    wpAny (model X.prog X.w) X.A (assign target X.env u) (fun _ s'=>∃σ' H',aw X pins σ' H' s'∧Q σ' H') X.xe s
def qX(X:Cx)(ts:List Expr)(t:uI):Prop:=
  ∀(pins:List (Addr × Obj)) (s:Shared) (σ:St) (H:Hp) (vs:List V) (us:List Value) (Q:St→Hp→Prop),aw X pins σ H s→aI vs us→t vs σ H Q→
    wpAny (model X.prog X.w) X.A (assignInOrder ((assignEach ts X.env).map (·.2)) us) (fun _ s'=>∃σ' H',aw X pins σ' H' s'∧Q σ' H') X.xe s
section
variable{X:Cx}{pos:Pos}
def rT(i:Nat):TG:=fun v σ H Q=>Q (σ.set i (some v)) H
theorem vR{i:Nat}{x:Str}(hN:X.N.Nodup)(hi:X.N[i]?=some x)(hx:Ap X.env.scope x)(hf:X.fn x=true∨X.env.scope.names.lookup x=some .local:=by first | exact .inl rfl | exact .inr rfl | assumption):PG X (.Name x pos) (rT i):=by
  intro pins s σ H v u Q I r h
  exact wpAny_assign_Name (iM I hN hi hx r (fun s' I'=>⟨_,H,I',h⟩) hf)
def CS:uI:=fun vs σ H Q=>vs=[]∧Q σ H
def A8(t:TG)(u:uI):uI:=fun vs σ H Q=>∃v r,vs=v::r∧t v σ H fun σ' H'=>u r σ' H' Q
theorem vT:qX X [] CS:=by
  intro pins s σ H vs us Q I r h
  obtain⟨e,h⟩:=h
  subst e
  cases r
  exact assignInOrder_nil ⟨σ,H,I,h⟩
theorem sX{e:Expr}{es:List Expr}{t:TG}{u:uI}(h1:PG X e t)(h2:qX X es u)
    (hs:(assignEach (e::es) X.env).map (·.2)=assign e X.env::(assignEach es X.env).map (·.2):=by rfl):qX X (e::es) (A8 t u):=by
  intro pins s σ H vs us Q I r h
  obtain⟨v,vr,e1,h⟩:=h
  subst e1
  cases r with
  | cons r rr=>
    rw [hs]
    refine assignInOrder_cons (bH (h1 pins s σ H _ _ _ I r h) fun _ s1 ⟨σ1,H1,I1,q1⟩=>?_)
    exact h2 pins s1 σ1 H1 _ _ Q I1 rr q1
def vb(K:PySem.W.Frag)(n:Nat)(t:uI):TG:=fun v σ H Q=>∃a xs,v=.ref a∧bK K H a xs∧xs.length=n∧t xs σ H Q
theorem ze{es:List Expr}{k:Nat}{t:uI}{n:Nat}(hc:X.calm=true)(h:qX X es t)
    (hn:(assignEach es X.env).length=n:=by rfl)(hst:(assignEach es X.env).findIdx? (·.1)=none:=by rfl):PG X (.Tuple es k pos) (vb X.K n t):=by
  intro pins s σ H v u Q I r hw
  obtain⟨a,xs,e1,hq,hl,hw⟩:=hw
  subst e1
  cases r
  obtain⟨its,rv,ht,hz⟩:=I.tuple hq
  refine assign_Tuple_tuple (I.ok.hd hc) ht (by simp [hn,←hl,rv.length]) hst fun h' hx=>?_
  have I1:aw X pins σ H {s with heap:=h'}:=I.kept (t':=s.toks) fun b o e=>hx b o (Nat.ne_of_lt (Heap.lt_size e)) e
  exact h pins _ σ H xs _ Q I1 (by simpa using rv) hw
def zX(te:TE)(g:TG):TS:=fun D σ H=>te σ H fun x H1=>g x σ H1 D.nx
theorem zo{tg e:Expr}{te:TE}{g:TG}(he:PE X e te)(hg:PG X tg g)(hs:swapsWithSole [tg] e pos.line X.env=pure false:=by rfl)(hw:swappedStores [tg] e X.env=pure none:=by rfl)
    (h1:(assignEach [tg] X.env).map (·.2)=[assign tg X.env]:=by rfl):PS X (.Assign [tg] e pos) (zX te g):=by
  intro pins s σ H D I h
  refine wpAny_Assign_stores (bH (he pins s σ H _ I h) fun v s1 ⟨x,H1,I1,r1,q1⟩=>?_) hs hw
  rw [h1]
  exact bH (hg pins s1 σ H1 x v _ I1 r1 q1) fun _ s2 q=>q
theorem zu{i:Nat}{x:Str}{e:Expr}{te:TE}{pos':Pos}(hN:X.N.Nodup)(hi:X.N[i]?=some x)(hx:Ap X.env.scope x)(he:PE X e te)(hs:swapsWith e (some (.Name x pos')) pos.line X.env=pure false:=by rfl)(hf:X.fn x=true∨X.env.scope.names.lookup x=some .local:=by first | exact .inl rfl | exact .inr rfl | assumption):
    PS X (.Assign [.Name x pos'] e pos) (zX te (rT i)):=by
  intro pins s σ H D I h
  refine wpAny_Assign_Name (bH (he pins s σ H _ I h) fun v s1 ⟨y,H1,I1,r1,q1⟩=>?_) hs
  exact iM I1 hN hi hx r1 (fun s2 I2=>⟨_,H1,I2,q1⟩) hf
def Dm(i j:Nat)(ta:TA):TS:=fun D σ H=>ta σ H fun vs H1=>∃v w,vs=[v,w]∧D.nx ((σ.set i (some v)).set j (some w)) H1
theorem zr{i j:Nat}{x y:Str}{a b:Expr}{ta:TA}{px py pt:Pos}{kt k2 pt2}(hc:X.calm=true)(hN:X.N.Nodup)(hi:X.N[i]?=some x)(hj:X.N[j]?=some y)(hij:i≠j)
    (hx:X.env.scope.names.lookup x=some .local)(hy:X.env.scope.names.lookup y=some .local)(ha:PA X [a,b] ta)
    (hw:swappedStores [.Tuple [.Name x px,.Name y py] kt pt] (.Tuple [a,b] k2 pt2) X.env=pure (some [x,y]))
    (hs:swapsWithSole [.Tuple [.Name x px,.Name y py] kt pt] (.Tuple [a,b] k2 pt2) pos.line X.env=pure false:=by rfl):
    PS X (.Assign [.Tuple [.Name x px,.Name y py] kt pt] (.Tuple [a,b] k2 pt2) pos) (Dm i j ta):=by
  intro pins s σ H D I h
  rw [exec_Assign_arm]
  refine wpAny_bind (wpAny_standAt ?_)
  rw [hs]
  refine wpAny_bind (wpAny_pure ?_)
  rw [if_neg (by decide)]
  refine wpAny_bind (Tuple_ (bH (ha _ pins s σ H _ I h) fun us s1 ⟨vs,H1,I1,r1,q1⟩=>?_))
  obtain⟨v,w,e1,q1⟩:=q1
  subst e1
  obtain⟨u1,u2,rfl,rv,rw'⟩:∃u1 u2,us=[u1,u2]∧bh v u1∧bh w u2:=by
    cases r1 with
    | cons p q=>
      cases q with
      | cons p' q'=>
        cases q'
        exact⟨_,_,rfl,p,p'⟩
  refine wpAny_newObj_type ?_ (by show 2≤sizeLine;decide)
  have I2:aw X pins σ H1 {s1 with heap:=s1.heap.push {cls:=.type "tuple",data:=.seq [u1,u2].toArray}}:=I1.kept (t':=s1.toks) fun b o e=>Heap.get?_push_of_some _ e
  rw [hw]
  refine wpAny_bind (wpAny_pure ?_)
  show wpAny (model X.prog X.w) X.A (do rule "assign.swapped-stores";let items ←unpackItems (.ref s1.heap.objs.size) 2 none;assignInOrder [fun v=>bindName X.env y v,fun v=>bindName X.env x v] items.reverse;pure Flow.next) _ _ _
  refine wpAny_bind (wpAny_rule (wpAny_bind (unpackItems_tuple (items:=#[u1,u2]) (I.ok.hd hc) (IsTup.new s1.heap _) fun h' hx'=>?_)))
  have I3:=I2.kept (h':=h') (t':=s1.toks) fun b o e=>hx' b o (Nat.ne_of_lt (Heap.lt_size e)) e
  show wpAny _ _ (assignInOrder [fun v=>bindName X.env y v,fun v=>bindName X.env x v] [u2,u1] >>= fun _=>pure Flow.next) _ _ _
  refine wpAny_bind (assignInOrder_cons (wpAny_bindName (iM I3 hN hj (.inl hy) rw' (fun s2 I4=>?_) (.inr hy))))
  refine assignInOrder_cons (wpAny_bindName (iM I4 hN hi (.inl hx) rv (fun s3 I5=>assignInOrder_nil (wpAny_pure ?_)) (.inr hx)))
  rw [List.set_comm _ _ (Ne.symm hij)] at I5
  exact⟨_,H1,I5,q1⟩
end
section
variable{X:Cx}{pos:Pos}
def z_(c:TT)(tb:TS):TS:=fun D σ H=>∃W:Nat→St→Hp→Prop,(∃m,W m σ H)∧∀m σ H,W m σ H→
  c σ H fun b H1=>if b=true then ∃N:St→Hp→Prop,(∀σ' H',N σ' H'→∃m',m' < m∧W m' σ' H')∧tb {D with nx:=N,ct:=N,bk:=D.nx} σ H1 else D.nx σ H1
theorem tI{c:Expr}{body:List Stmt}{tc:TT}{tb:TS}(hp:PassesOwn (model X.prog X.w) X.A X.env X.xe)(hc:PT X c tc)(hb:jr X body tb):PS X (.While c body [] pos) (z_ tc tb):=by
  intro pins s σ H D I h
  obtain⟨W,⟨m0,w0⟩,turn⟩:=h
  refine wpAny_While (codeAny_whileLoop (fun n s'=>∃σ' H',aw X pins σ' H' s'∧W n σ' H') ?_ m0 ⟨σ,H,I,w0⟩)
  rintro n s1 ⟨σ1,H1,I1,w1⟩
  refine wpAny_passesOwn hp (bH (hc pins s1 σ1 H1 _ I1 (turn n σ1 H1 w1)) fun b s2 ⟨H2,I2,q2⟩=>?_)
  cases b with
  | true=>
    obtain⟨N,hN,q2⟩:=q2
    rw [if_pos rfl]
    refine wpAny_passesOwn hp (bH (hb pins s2 σ1 H2 _ I2 q2) fun f s3 q3=>?_)
    cases f with
    | next=>
      obtain⟨σ3,H3,I3,n3⟩:=q3
      obtain⟨m',hm,w3⟩:=hN σ3 H3 n3
      exact⟨m',hm,σ3,H3,I3,w3⟩
    | cont=>
      obtain⟨σ3,H3,I3,n3⟩:=q3
      obtain⟨m',hm,w3⟩:=hN σ3 H3 n3
      exact⟨m',hm,σ3,H3,I3,w3⟩
    | brk=>exact q3
    | ret v=>exact q3
  | false=>
    rw [if_neg Bool.false_ne_true]
    exact wpAny_execs_nil ⟨σ1,H2,I2,q2⟩
end
structure It where
  go:Nat→Hp→Prop
  yld:Nat→Hp→V→Hp→Prop
  stop:Nat→Hp→Prop
def fj(X:Cx)(pins:List (Addr × Obj))(H:Hp)(b:Addr):Prop:=
  H b=none∧b≠X.env.locals∧b∉X.fs∧(b∈X.ex∨X.s₀.heap.objs.size≤b)∧(∀x c,X.env.cells.lookup x=some c→c≠b)∧∀p∈X.pn++pins,p.1≠b
theorem aw.fpOk{X:Cx}{pins:List (Addr × Obj)}{σ:St}{H H':Hp}{s:Shared}{b:Addr}(I:aw X pins σ H s)(hb:s.heap.objs.size≤b)(hn:H' b=none):fj X pins H' b:=by
  refine⟨hn,Nat.ne_of_gt (Nat.lt_of_lt_of_le I.lt hb),I.nofs hb,.inr (Nat.le_trans I.sz hb),fun x c e z=>?_,fun p hp z=>?_⟩
  · obtain⟨v,q⟩:=I.cell x c e
    exact absurd (Nat.lt_of_lt_of_le q.lt (by rw [z];exact hb)) (Nat.lt_irrefl _)
  · exact absurd (Nat.lt_of_lt_of_le (Heap.lt_size (I.pin p hp).1) (by rw [z];exact hb)) (Nat.lt_irrefl _)
structure mh (P:Program) (w:World) (K:PySem.W.Frag) (tg:Expr) (J:It) (fp:List Addr) (it:Addr) (tn:Nat→Heap→Prop):Prop where
  mem:it∈fp
  obj:∀i h,tn i h→∀b∈fp,∃o,h.get? b=some o∧∀v,o.data≠.cell v
  keep:∀i h h',tn i h→(∀b∈fp,∀o,h.get? b=some o→h'.get? b=some o)→tn i h'
  item:∀(X:Cx),X.prog=P→X.w=w→X.K=K→X.calm=true→∀(i:Nat) (pins:List (Addr × Obj)) (s:Shared) (σ:St) (H:Hp) (E:Value→Shared→Prop),aw X pins σ H s→(∀b∈fp,fj X pins H b)→tn i s.heap→J.go i H→
    wpAny (model P w) X.A (pyNext (.ref it)) (fun r s1=>∃u,r=some u∧
      wpAny (model P w) X.A (letOwnedTupleGo tg (.ref it) u) (fun _ s2=>∃x H',aw X pins σ H' s2∧bh x u∧J.yld i H x H'∧tn (i+1) s2.heap∧∀b∈fp,H' b=none) E s1) E s
  done:∀(X:Cx),X.prog=P→X.w=w→X.K=K→X.calm=true→∀(i:Nat) (pins:List (Addr × Obj)) (s:Shared) (σ:St) (H:Hp) (E:Value→Shared→Prop),aw X pins σ H s→(∀b∈fp,fj X pins H b)→tn i s.heap→J.stop i H→
    wpAny (model P w) X.A (pyNext (.ref it)) (fun r s1=>r=none∧aw X pins σ H s1) E s
  self:∀(A:Around) (i:Nat) (s:Shared) (Q:Value→Shared→Prop) (E:Value→Shared→Prop),tn i s.heap→Q (.ref it) s→wpAny (model P w) A (pyIter (.ref it)) Q E s
abbrev TI:=St→Hp→(It→Hp→Prop)→Prop
def Dt(X:Cx)(pins:List (Addr × Obj))(σ:St)(tg:Expr)(R:It→Hp→Prop)(itv:Value)(s2:Shared):Prop:=
  ∃(it:Addr) (fp:List Addr) (tn:Nat→Heap→Prop) (J:It) (H':Hp),itv=.ref it∧aw X pins σ H' s2∧mh X.prog X.w X.K tg J fp it tn∧tn 0 s2.heap∧(∀b∈fp,fj X pins H' b)∧R J H'
def PI(X:Cx)(tg iter:Expr)(wi:TI):Prop:=
  ∀(pins:List (Addr × Obj)) (s:Shared) (σ:St) (H:Hp) (R:It→Hp→Prop),aw X pins σ H s→wi σ H R→
    wpAny (model X.prog X.w) X.A (eval iter X.env) (fun v s1=>wpAny (model X.prog X.w) X.A (pyIter v) (Dt X pins σ tg R) X.xe s1) X.xe s
theorem rY{M:Model}{A:Around}{E:Value→Shared→Prop}{s:Shared}{tg:Expr}{it:Addr}{u:Value}{o:Obj}{n:String}{vs:Array Value}{Q:Unit→Shared→Prop}(ho:s.heap.get? it=some o)(hc:o.cls=.type n)(hd:o.data=.fields vs)
    (hn:["enumerate","zip","dict_itemiterator","dict_reverseitemiterator","odict_iterator","itertools.zip_longest","itertools.pairwise"].contains n=false)(hQ:Q () s):wpAny M A (letOwnedTupleGo tg (.ref it) u) Q E s:=by
  unfold letOwnedTupleGo
  cases tg<;>first
    | exact wpAny_pure hQ
    | (cases u<;>first
        | exact wpAny_pure hQ
        | (refine wpAny_bind (wpAny_load ho ?_)
           rw [hc,hd]
           show wpAny M A (if (["enumerate","zip","dict_itemiterator","dict_reverseitemiterator","odict_iterator","itertools.zip_longest","itertools.pairwise"].contains n&&vs[0]?==some (rawInt _))=true then _ else _) Q E s
           rw [if_neg (by intro h;rw [hn,Bool.false_and] at h;cases h)]
           exact wpAny_pure hQ))
def CF(K:PySem.W.Frag)(a:Addr):It:=
  ⟨fun i H=>∃xs x,ce K H a xs∧xs[i]?=some x,fun i H x H'=>H'=H∧∀xs,ce K H a xs→xs[i]?=some x,fun i H=>∃xs,ce K H a xs∧xs.length≤i⟩
def CG(K:PySem.W.Frag)(a:Addr):It:=
  ⟨fun i H=>∃xs x,bK K H a xs∧xs[i]?=some x,fun i H x H'=>H'=H∧∀xs,bK K H a xs→xs[i]?=some x,fun i H=>∃xs,bK K H a xs∧xs.length≤i⟩
def Co(lo:Int)(n:Nat):It:=⟨fun i _=>i < n,fun i H x H'=>H'=H∧x=.int (lo+i),fun i _=>n≤i⟩
theorem qR{P:Program}{w:World}{K:PySem.W.Frag}{tg:Expr}(a it:Addr):mh P w K tg (CF K a) [it] it (fun i h=>h.IsListIter it a i) where
  mem:=by simp
  obj:=fun i h st b hb=>by
    have e:b=it:=by simpa using hb
    subst e
    obtain⟨o,e,c,d⟩:=st
    exact⟨o,e,fun v z=>by rw [d] at z;cases z⟩
  keep:=fun i h h' st k=>st.at fun o e=>k it (by simp) o e
  item:=by
    intro X hP hw hK hc i pins s σ H E I hf st hg
    subst hP hw hK
    obtain⟨xs,x,hq,hx⟩:=hg
    obtain⟨its,rv,p,hz⟩:=I.list hq
    obtain⟨u,hu,ru⟩:=rv.get hx
    obtain⟨f0,f1,f2,f3,f4,f5⟩:=hf it (by simp)
    refine wpAny_pyNext_list_item st p.isList (x:=u) (by simpa using hu) fun h' st' sb=>?_
    have I1:aw X pins σ H {s with heap:=h'}:=I.turned (t':=s.toks) (fun b o hb e=>(sb.2 b hb).trans e) f0 f1 f3 f4 f5
    obtain⟨o,e,c,d⟩:=id st'
    exact⟨u,rfl,rY (s:={s with heap:=h'}) e c d (by decide) ⟨x,H,I1,ru,⟨rfl,fun ys hy=>by rw [I.list_inj hy hq];exact hx⟩,st',fun b hb=>(hf b hb).1⟩⟩
  done:=by
    intro X hP hw hK hc i pins s σ H E I hf st hg
    subst hP hw hK
    obtain⟨xs,hq,hx⟩:=hg
    obtain⟨its,rv,p,hz⟩:=I.list hq
    obtain⟨f0,f1,f2,f3,f4,f5⟩:=hf it (by simp)
    have hl:=rv.length
    exact wpAny_pyNext_list_end (I.ok.hd hc) st p.isList (by simp;lia) fun h' eb=>⟨rfl,I.turned (t':=s.toks) (fun b o hb e=>eb b o hb e) f0 f1 f3 f4 f5⟩
  self:=fun _ _ _ _ _ st h=>wpAny_pyIter_listiter st h
theorem oI{P:Program}{w:World}{K:PySem.W.Frag}{tg:Expr}(a it:Addr):mh P w K tg (CG K a) [it] it (fun i h=>h.IsTupleIter it a i) where
  mem:=by simp
  obj:=fun i h st b hb=>by
    have e:b=it:=by simpa using hb
    subst e
    obtain⟨o,e,c,d⟩:=st
    exact⟨o,e,fun v z=>by rw [d] at z;cases z⟩
  keep:=fun i h h' st k=>st.at fun o e=>k it (by simp) o e
  item:=by
    intro X hP hw hK hc i pins s σ H E I hf st hg
    subst hP hw hK
    obtain⟨xs,x,hq,hx⟩:=hg
    obtain⟨its,rv,p,hz⟩:=I.tuple hq
    obtain⟨u,hu,ru⟩:=rv.get hx
    obtain⟨f0,f1,f2,f3,f4,f5⟩:=hf it (by simp)
    refine wpAny_pyNext_tuple_item st (show s.heap.IsTuple a its.toArray from p) (x:=u) (by simpa using hu) fun h' st' sb=>?_
    have I1:aw X pins σ H {s with heap:=h'}:=I.turned (t':=s.toks) (fun b o hb e=>(sb.2 b hb).trans e) f0 f1 f3 f4 f5
    obtain⟨o,e,c,d⟩:=id st'
    exact⟨u,rfl,rY (s:={s with heap:=h'}) e c d (by decide) ⟨x,H,I1,ru,⟨rfl,fun ys hy=>by rw [I.tuple_inj hy hq];exact hx⟩,st',fun b hb=>(hf b hb).1⟩⟩
  done:=by
    intro X hP hw hK hc i pins s σ H E I hf st hg
    subst hP hw hK
    obtain⟨xs,hq,hx⟩:=hg
    obtain⟨its,rv,p,hz⟩:=I.tuple hq
    obtain⟨f0,f1,f2,f3,f4,f5⟩:=hf it (by simp)
    have hl:=rv.length
    exact wpAny_pyNext_tuple_end (I.ok.hd hc) st (show s.heap.IsTuple a its.toArray from p) (by simp;lia) fun h' eb=>⟨rfl,I.turned (t':=s.toks) (fun b o hb e=>eb b o hb e) f0 f1 f3 f4 f5⟩
  self:=fun _ _ _ _ _ st h=>wpAny_pyIter_tupleiter st h
theorem oH{P:Program}{w:World}{K:PySem.W.Frag}{tg:Expr}(it:Addr)(lo:Int)(n:Nat):mh P w K tg (Co lo n) [it] it (fun i h=>IsRangeIter h it (lo+(i:Nat)*1) ((n:Int) - (i:Nat)) 1) where
  mem:=by simp
  obj:=fun i h st b hb=>by
    have e:b=it:=by simpa using hb
    subst e
    exact⟨_,st,fun v z=>by
      have z':Data.fields _=Data.cell v:=z
      cases z'⟩
  keep:=fun i h h' st k=>k it (by simp) _ st
  item:=by
    intro X hP hw hK hc i pins s σ H E I hf st hg
    subst hP hw hK
    obtain⟨f0,f1,f2,f3,f4,f5⟩:=hf it (by simp)
    have W:=Walks.range (prog:=X.prog) (w:=X.w) (I.ok.hd hc) it lo 1 n
    refine W.item i s _ _ hg st fun v h' tk hv st' kk=>?_
    obtain⟨t,rfl⟩:=hv
    have I1:aw X pins σ H {s with heap:=h',toks:=tk}:=I.turned (fun b o hb e=>kk b o (by simpa using hb) e) f0 f1 f3 f4 f5
    refine⟨_,rfl,rY (s:={s with heap:=h',toks:=tk}) (n:="range_iterator") st' rfl rfl (by decide) ⟨.int (lo+i),H,I1,⟨t,?_⟩,⟨rfl,rfl⟩,st',fun b hb=>(hf b hb).1⟩⟩
    rw [Int.mul_one]
  done:=by
    intro X hP hw hK hc i pins s σ H E I hf st hg
    subst hP hw hK
    obtain⟨f0,f1,f2,f3,f4,f5⟩:=hf it (by simp)
    exact wpAny_pyNext_range_end (I.ok.hd hc) st (by have:n≤i:=hg;lia) fun h' eb=>⟨rfl,I.turned (t':=s.toks) (fun b o hb e=>eb b o hb e) f0 f1 f3 f4 f5⟩
  self:=fun _ _ _ _ _ st h=>wpAny_pyIter_rangeiter st h
end L2
namespace L2
open PySem PySem.Spec PyProof.Rows
section
variable{X:Cx}{tg:Expr}
def xD(K:PySem.W.Frag)(tl:TE):TI:=fun σ H R=>tl σ H fun x H1=>∃a,x=.ref a∧(∃xs,ce K H1 a xs)∧R (CF K a) H1
def Bd(K:PySem.W.Frag)(tl:TE):TI:=fun σ H R=>tl σ H fun x H1=>∃a,x=.ref a∧(∃xs,bK K H1 a xs)∧R (CG K a) H1
theorem vU{l:Expr}{tl:TE}(hl:PE X l tl):PI X tg l (xD X.K tl):=by
  intro pins s σ H R I h
  refine bH (hl pins s σ H _ I h) fun v s1 ⟨x,H1,I1,r1,q1⟩=>?_
  obtain⟨a,e,⟨xs,hq⟩,q⟩:=q1
  subst e
  cases r1
  obtain⟨its,rv,p,hz⟩:=I1.list hq
  refine wpAny_pyIter_list p.isList ?_
  refine⟨s1.heap.objs.size,[s1.heap.objs.size],_,_,H1,rfl,I1.kept (t':=s1.toks) fun b o e=>Heap.get?_push_of_some _ e,qR a _,⟨_,Heap.get?_push_size _ rfl,rfl,rfl⟩,fun b hb=>?_,q⟩
  have e:b=s1.heap.objs.size:=by simpa using hb
  subst e
  exact I1.fpOk (Nat.le_refl _) (I1.hok.fresh (Nat.le_refl _))
theorem zg{l:Expr}{tl:TE}(hl:PE X l tl):PI X tg l (Bd X.K tl):=by
  intro pins s σ H R I h
  refine bH (hl pins s σ H _ I h) fun v s1 ⟨x,H1,I1,r1,q1⟩=>?_
  obtain⟨a,e,⟨xs,hq⟩,q⟩:=q1
  subst e
  cases r1
  obtain⟨its,rv,p,hz⟩:=I1.tuple hq
  refine wpAny_pyIter_tuple (show s1.heap.IsTuple a its.toArray from p) ?_
  refine⟨s1.heap.objs.size,[s1.heap.objs.size],_,_,H1,rfl,I1.kept (t':=s1.toks) fun b o e=>Heap.get?_push_of_some _ e,oI a _,⟨_,Heap.get?_push_size _ rfl,rfl,rfl⟩,fun b hb=>?_,q⟩
  have e:b=s1.heap.objs.size:=by simpa using hb
  subst e
  exact I1.fpOk (Nat.le_refl _) (I1.hok.fresh (Nat.le_refl _))
theorem uc{pins:List (Addr × Obj)}{σ:St}{H:Hp}{s:Shared}{R:It→Hp→Prop}{E:Value→Shared→Prop}{lo hi:Int}{t u v:Tok}{tk:Nat}(I:aw X pins σ H s)(h1: -(2 ^ 62)≤lo)(h2:lo < 2 ^ 62)(h3: -(2 ^ 62)≤hi)(h4:hi < 2 ^ 62)
    (q:R (Co lo (hi - lo).toNat) H):wpAny (model X.prog X.w) X.A (pyIter (.ref s.heap.objs.size)) (Dt X pins σ tg R) E {s with heap:=s.heap.push {cls:=.type "range",data:=.fields #[.int lo t,.int hi u,.int 1 v]},toks:=tk}:=by
  refine wpAny_pyIter_range (IsRange.new ..) (small_one h1 h2 h3 h4) ?_
  have I1:aw X pins σ H {s with heap:=s.heap.push {cls:=.type "range",data:=.fields #[.int lo t,.int hi u,.int 1 v]},toks:=tk}:=I.kept fun b o e=>Heap.get?_push_of_some _ e
  refine⟨(s.heap.push {cls:=.type "range",data:=.fields #[.int lo t,.int hi u,.int 1 v]}).objs.size,[(s.heap.push {cls:=.type "range",data:=.fields #[.int lo t,.int hi u,.int 1 v]}).objs.size],_,_,H,rfl,
    I1.kept (t':=tk) fun b o e=>Heap.get?_push_of_some _ e,oH _ lo (hi - lo).toNat,?_,fun b hb=>?_,q⟩
  · have e1:lo+((0:Nat):Int)*1=lo:=by simp
    have e2:(((hi - lo).toNat:Nat):Int) - ((0:Nat):Int)=Builtin.Range.rangeSize lo hi 1:=by rw [rangeSize_one];split<;>lia
    show IsRangeIter _ _ (lo+((0:Nat):Int)*1) ((((hi - lo).toNat:Nat):Int) - ((0:Nat):Int)) 1
    rw [e1,e2]
    exact Heap.get?_push_size _ rfl
  · have e:b=(s.heap.push {cls:=.type "range",data:=.fields #[.int lo t,.int hi u,.int 1 v]}).objs.size:=by simpa using hb
    subst e
    exact I1.fpOk (Nat.le_refl _) (I1.hok.fresh (Nat.le_refl _))
def Bc(ta:TA):TI:=fun σ H R=>ta σ H fun vs H1=>∃j:Int,vs=[.int j]∧ -(2 ^ 62)≤j∧j < 2 ^ 62∧R (Co 0 j.toNat) H1
theorem qA{a:Expr}{ta:TA}{p pos:Pos}(hg:Gl X "range")(hm:X.mg "range"=none)(ha:PA X [a] ta)(hs:starEach [a] X.env=[(false,eval a X.env)]:=by rfl):PI X tg (.Call (.Name "range" p) [a] [] pos) (Bc ta):=by
  intro pins s σ H R I h
  refine Call_ (eF I hg hm boot_range (PyProof.Rows.callWith_type1 (bH (ha pos pins s σ H _ I h) fun us s1 ⟨vs,H1,I1,r1,q1⟩=>?_) hs rfl))
  obtain⟨j,e,q1,q2,q⟩:=q1
  subst e
  cases r1 with
  | cons r rr=>
    cases rr
    obtain⟨t,rfl⟩:=r
    exact call_range_1 (uc I1 (by lia) (by lia) q1 q2 (by simpa using q))
def Dh(wi:TI)(g:TG)(tb:TS):TS:=fun D σ H=>wi σ H fun J H1=>∃W:Nat→Nat→St→Hp→Prop,(∃m,W 0 m σ H1)∧∀i m σ H,W i m σ H→
  (J.stop i H∧D.nx σ H)∨(J.go i H∧∃N:St→Hp→Prop,(∀σ' H',N σ' H'→∃m',m' < m∧W (i+1) m' σ' H')∧∀x H',J.yld i H x H'→g x σ H' fun σ2 H2=>tb {D with nx:=N,ct:=N,bk:=D.nx} σ2 H2)
def ja(fp:List Addr)(h:Heap):List (Addr × Obj):=fp.filterMap fun b=>(h.get? b).map fun o=>(b,o)
theorem dg{fp:List Addr}{h:Heap}{b:Addr}{o:Obj}(hb:b∈fp)(e:h.get? b=some o):(b,o)∈ja fp h:=List.mem_filterMap.mpr ⟨b,hb,by rw [e];rfl⟩
theorem qr{fp:List Addr}{h:Heap}{p:Addr × Obj}(hp:p∈ja fp h):p.1∈fp∧h.get? p.1=some p.2:=by
  obtain⟨b,hb,e⟩:=List.mem_filterMap.mp hp
  cases q:h.get? b with
  | none=>rw [q] at e;cases e
  | some o=>
    rw [q] at e
    have e':(b,o)=p:=Option.some.inj e
    subst e'
    exact⟨hb,q⟩
theorem aw.pinned{pins:List (Addr × Obj)}{σ:St}{H:Hp}{s:Shared}{fp:List Addr}(I:aw X pins σ H s)(hf:∀b∈fp,fj X pins H b)(ho:∀b∈fp,∃o,s.heap.get? b=some o∧∀v,o.data≠.cell v):aw X (pins++ja fp s.heap) σ H s:=
  I.pins_of fun p hp=>(List.mem_append.mp hp).elim (fun z=>I.pin p (List.mem_append_right _ z)) fun z=>by
    obtain⟨hb,e⟩:=qr z
    obtain⟨f0,f1,f2,_⟩:=hf p.1 hb
    obtain⟨o,e',d⟩:=ho p.1 hb
    rw [e] at e';cases e'
    exact⟨e,f0,f1,f2,d⟩
theorem aw.unpinned{pins pl:List (Addr × Obj)}{σ:St}{H:Hp}{s:Shared}(I:aw X (pins++pl) σ H s):aw X pins σ H s:=I.pins_of fun p hp=>I.pin p (List.mem_append_right _ (List.mem_append_left _ hp))
theorem zq{iter:Expr}{body:List Stmt}{wi:TI}{g:TG}{tb:TS}{pos:Pos}(hp:PassesOwn (model X.prog X.w) X.A X.env X.xe)(hc:X.calm=true)(hi:PI X tg iter wi)(hg:PG X tg g)(hb:jr X body tb)
    (hs:∀x,foldedSetIterable iter X.env x=pure x:=by intro _;rfl):PS X (.For tg iter body [] pos) (Dh wi g tb):=by
  intro pins s σ H D I h
  refine wpAny_For (bH (hi pins s σ H _ I h) fun v s1 h1=>bH h1 fun itv s2 h2=>?_) hs
  obtain⟨it,fp,tn,J,H2,e,I2,T,st2,f2,W,⟨m0,w0⟩,turn⟩:=h2
  subst e
  have stat:∀{H':Hp},(∀b∈fp,H' b=none)→∀b∈fp,fj X pins H' b:=fun hn b hb=>⟨hn b hb,(f2 b hb).2⟩
  refine codeAny_forLoop_any (fun n s'=>∃i σ' H',aw X pins σ' H' s'∧tn i s'.heap∧(∀b∈fp,H' b=none)∧W i n σ' H') ?_ m0 ⟨0,σ,H2,I2,st2,fun b hb=>(f2 b hb).1,w0⟩
  rintro n s3 ⟨i,σ3,H3,I3,st3,fr3,w3⟩
  rcases turn i n σ3 H3 w3 with ⟨stop,qn⟩ | ⟨go,N,hN,step⟩
  · refine wpAny_passesOwn hp (bH (T.done X rfl rfl rfl hc i pins s3 σ3 H3 X.xe I3 (stat fr3) st3 stop) fun r s4 ⟨hr,I4⟩=>?_)
    subst hr
    exact wpAny_execs_nil ⟨σ3,H3,I4,qn⟩
  · refine wpAny_passesOwn hp (bH (T.item X rfl rfl rfl hc i pins s3 σ3 H3 X.xe I3 (stat fr3) st3 go) fun r s4 ⟨u,hr,h4⟩=>?_)
    subst hr
    refine wpAny_passesOwn hp (bH h4 fun _ s5 ⟨x,H5,I5,r5,y5,st5,fr5⟩=>?_)
    have I5':=I5.pinned (stat fr5) (T.obj _ _ st5)
    refine wpAny_passesOwn hp (bH (hg _ s5 σ3 H5 x u _ I5' r5 (step x H5 y5)) fun _ s6 ⟨σ6,H6,I6,q6⟩=>?_)
    refine wpAny_passesOwn hp (bH (hb _ s6 σ6 H6 _ I6 q6) fun f s7 q7=>?_)
    have again:∀{σ7:St} {H7:Hp},aw X (pins++ja fp s5.heap) σ7 H7 s7→N σ7 H7→∃m,m < n∧∃i σ' H',aw X pins σ' H' s7∧tn i s7.heap∧(∀b∈fp,H' b=none)∧W i m σ' H':=fun{σ7 H7} I7 n7=>by
      obtain⟨m',hm,w7⟩:=hN σ7 H7 n7
      refine⟨m',hm,i+1,σ7,H7,I7.unpinned,T.keep _ _ _ st5 fun b hb o e=>(I7.pin (b,o) (List.mem_append_right _ (List.mem_append_right _ (dg hb e)))).1,fun b hb=>?_,w7⟩
      obtain⟨o,e,d⟩:=T.obj _ _ st5 b hb
      exact(I7.pin (b,o) (List.mem_append_right _ (List.mem_append_right _ (dg hb e)))).2.1
    cases f with
    | next=>obtain⟨σ7,H7,I7,n7⟩:=q7;exact again I7 n7
    | cont=>obtain⟨σ7,H7,I7,n7⟩:=q7;exact again I7 n7
    | brk=>obtain⟨σ7,H7,I7,q7⟩:=q7;exact⟨σ7,H7,I7.unpinned,q7⟩
    | ret v=>obtain⟨x7,σ7,H7,I7,r7,q7⟩:=q7;exact⟨x7,σ7,H7,I7.unpinned,r7,q7⟩
end
end L2
namespace L2
open PySem PySem.Spec PyProof.Rows
abbrev R2:=V→V→Hp→VK→Prop
def dC(X:Cx)(f:Value→Value→Sem Value)(r:R2):Prop:=
  ∀(pins:List (Addr × Obj)) (s:Shared) (σ:St) (H:Hp) (x y:V) (v u:Value) (Q:VK),aw X pins σ H s→bh x v→bh y u→r x y H Q→
    wpAny (model X.prog X.w) X.A (f v u) (EP X pins σ Q) X.xe s
def Cs(X:Cx)(f:Value→Sem Value)(r:V→Hp→VK→Prop):Prop:=
  ∀(pins:List (Addr × Obj)) (s:Shared) (σ:St) (H:Hp) (x:V) (v:Value) (Q:VK),aw X pins σ H s→bh x v→r x H Q→
    wpAny (model X.prog X.w) X.A (f v) (EP X pins σ Q) X.xe s
def cW(X:Cx)(f:Value)(r:List V→Hp→VK→Prop):Prop:=
  ∀(pins:List (Addr × Obj)) (s:Shared) (σ:St) (H:Hp) (xs:List V) (us:List Value) (Q:VK),aw X pins σ H s→aI xs us→r xs H Q→
    wpAny (model X.prog X.w) X.A (call f us) (EP X pins σ Q) X.xe s
def Cc(r:R2)(ta tb:TE):TE:=fun σ H Q=>ta σ H fun x H1=>tb σ H1 fun y H2=>r x y H2 Q
def DK(r:V→Hp→VK→Prop)(ta:TE):TE:=fun σ H Q=>ta σ H fun x H1=>r x H1 Q
def rI(C:Int→Int→Prop)(g:Int→Int→V):R2:=fun x y H Q=>∃i j,x=.int i∧y=.int j∧C i j∧Q (g i j) H
def oC(g:Int→Int→V):R2:=fun x y H Q=>∃i j,x=.int i∧y=.int j∧Q (g i j) H
def rU(g:Int→V):V→Hp→VK→Prop:=fun x H Q=>∃i,x=.int i∧Q (g i) H
section
variable{X:Cx}{a b c:Expr}{ta tb tc:TE}{pos:Pos}
theorem xX(ha:PE X a ta)(hb:PE X b tb){pins:List (Addr × Obj)}{s:Shared}{σ:St}{H:Hp}{R:V→V→Hp→Prop}(I:aw X pins σ H s)
    (h:ta σ H fun x H1=>tb σ H1 fun y H2=>R x y H2){Q:Value→Shared→Prop}{f:Value→Value→Sem Value}
    (hf:∀v u s2 x y H2,aw X pins σ H2 s2→bh x v→bh y u→R x y H2→wpAny (model X.prog X.w) X.A (f v u) Q X.xe s2):
    wpAny (model X.prog X.w) X.A (eval a X.env) (fun v s₁=>wpAny (model X.prog X.w) X.A (eval b X.env) (fun u s₂=>wpAny (model X.prog X.w) X.A (f v u) Q X.xe s₂) X.xe s₁) X.xe s:=by
  refine bH (ha pins s σ H _ I h) fun v s1 ⟨x,H1,I1,r1,q1⟩=>?_
  refine bH (hb pins s1 σ H1 _ I1 q1) fun u s2 ⟨y,H2,I2,r2,q2⟩=>?_
  exact hf v u s2 x y H2 I2 r1 r2 q2
theorem BH{op:Operator}{r:R2}(ho:dC X (binaryOp op) r)(ha:PE X a ta)(hb:PE X b tb):PE X (.BinOp a op b pos) (Cc r ta tb):=by
  intro pins s σ H Q I h
  exact wpAny_BinOp (xX ha hb I h fun v u s2 x y H2 I2 rx ry q=>ho pins s2 σ H2 x y v u Q I2 rx ry q)
theorem BJ{op:UnaryOp}{r:V→Hp→VK→Prop}(ho:Cs X (unaryOp op) r)(ha:PE X a ta):PE X (.UnaryOp op a pos) (DK r ta):=by
  intro pins s σ H Q I h
  exact UnaryOp_ (bH (ha pins s σ H _ I h) fun v s1 ⟨x,H1,I1,r1,q1⟩=>ho pins s1 σ H1 x v Q I1 r1 q1)
theorem Bx{f:Value→Value→Sem Value}{C:Int→Int→Prop}{g:Int→Int→Int}
    (rule:∀(i j:Int) (t u:Tok) (s:Shared) (Q:Value→Shared→Prop) (E:Value→Shared→Prop),C i j→Q (.int (g i j) s.toks) {s with toks:=s.toks+1}→wpAny (model X.prog X.w) X.A (f (.int i t) (.int j u)) Q E s):
    dC X f (rI C fun i j=>.int (g i j)):=by
  intro pins s σ H x y v u Q I rx ry h
  obtain⟨i,j,rfl,rfl,hc,q⟩:=h
  obtain⟨t,rfl⟩:=rx
  obtain⟨t',rfl⟩:=ry
  exact rule i j t t' s _ _ hc ⟨.int (g i j),H,I.tok _,⟨_,rfl⟩,q⟩
theorem By{f:Value→Value→Sem Value}{g:Int→Int→Int}
    (rule:∀(i j:Int) (t u:Tok) (s:Shared) (Q:Value→Shared→Prop) (E:Value→Shared→Prop),Q (.int (g i j) s.toks) {s with toks:=s.toks+1}→wpAny (model X.prog X.w) X.A (f (.int i t) (.int j u)) Q E s):
    dC X f (oC fun i j=>.int (g i j)):=by
  intro pins s σ H x y v u Q I rx ry h
  obtain⟨i,j,rfl,rfl,q⟩:=h
  obtain⟨t,rfl⟩:=rx
  obtain⟨t',rfl⟩:=ry
  exact rule i j t t' s _ _ ⟨.int (g i j),H,I.tok _,⟨_,rfl⟩,q⟩
theorem vD{f:Value→Value→Sem Value}{g:Int→Int→Bool}
    (rule:∀(i j:Int) (t u:Tok) (s:Shared) (Q:Value→Shared→Prop) (E:Value→Shared→Prop),Q (.bool (g i j)) s→wpAny (model X.prog X.w) X.A (f (.int i t) (.int j u)) Q E s):
    dC X f (oC fun i j=>.bl (g i j)):=by
  intro pins s σ H x y v u Q I rx ry h
  obtain⟨i,j,rfl,rfl,q⟩:=h
  obtain⟨t,rfl⟩:=rx
  obtain⟨t',rfl⟩:=ry
  exact rule i j t t' s _ _ ⟨.bl (g i j),H,I,rfl,q⟩
def xU(i j:Int):Prop:=0≤j∧j≤1000000∧i.natAbs < 2 ^ 64
def uM(i j:Int):Prop:=(-(2 ^ 64) < i∧i < 2 ^ 64)∨(-(2 ^ 64) < j∧j < 2 ^ 64)
theorem uM.ok{i j:Int}(h:uM i j):IntMulOk i j:=by
  rcases h with ⟨h1,h2⟩ | ⟨h1,h2⟩
  · exact .of_left (intBits_le_64 h1 h2)
  · exact .of_right (intBits_le_64 h1 h2)
theorem yN:dC X (binaryOp .Add) (oC fun i j=>.int (i+j)):=By fun _ _ _ _ _ _ _ q=>add_int q
theorem y3:dC X (binaryOp .Sub) (oC fun i j=>.int (i - j)):=By fun _ _ _ _ _ _ _ q=>sub_int q
theorem yW:dC X (binaryOp .Mult) (rI uM fun i j=>.int (i*j)):=Bx fun _ _ _ _ _ _ _ hc q=>mul_int q hc.ok
theorem vH:dC X (binaryOp .Mod) (rI (fun _ j=>j≠0) fun i j=>.int (i.fmod j)):=Bx fun _ _ _ _ _ _ _ hc q=>mod_int' hc q
theorem yZ:dC X (binaryOp .Pow) (rI xU fun i j=>.int (i ^ j.toNat)):=Bx fun _ _ _ _ _ _ _ hc q=>pow_int_small hc.1 hc.2.1 hc.2.2 q
theorem D9{f:Value→Sem Value}{g:Int→Int}
    (rule:∀(i:Int) (t:Tok) (s:Shared) (Q:Value→Shared→Prop) (E:Value→Shared→Prop),Q (.int (g i) s.toks) {s with toks:=s.toks+1}→wpAny (model X.prog X.w) X.A (f (.int i t)) Q E s):
    Cs X f (rU fun i=>.int (g i)):=by
  intro pins s σ H x v Q I rx h
  obtain⟨i,rfl,q⟩:=h
  obtain⟨t,rfl⟩:=rx
  exact rule i t s _ _ ⟨.int (g i),H,I.tok _,⟨_,rfl⟩,q⟩
theorem Ai:Cs X (unaryOp .USub) (rU fun i=>.int (-i)):=D9 fun _ _ _ _ _ q=>neg_int q
end
section
variable{X:Cx}{a b c:Expr}{ta tb tc:TE}{pos:Pos}
theorem yc{pins:List (Addr × Obj)}{σ:St}{H:Hp}{s:Shared}{Q:VK}{k k':Bool}(I:aw X pins σ H s)(q:Q (.bl k) H)(e:k=k'):EP X pins σ Q (.bool k') s:=by
  subst e
  exact⟨.bl k,H,I,rfl,q⟩
theorem BC:dC X (compareOp .Lt) (oC fun i j=>.bl (decide (i < j))):=vD fun _ _ _ _ _ _ _ q=>lt_int q
theorem BB:dC X (compareOp .LtE) (oC fun i j=>.bl (decide (i≤j))):=vD fun _ _ _ _ _ _ _ q=>le_int q
theorem BA:dC X (compareOp .Gt) (oC fun i j=>.bl (decide (j < i))):=vD fun _ _ _ _ _ _ _ q=>gt_int q
theorem Bz:dC X (compareOp .GtE) (oC fun i j=>.bl (decide (j≤i))):=vD fun _ _ _ _ _ _ _ q=>ge_int q
theorem yV:dC X (compareOp .Is) (fun x y H Q=>y=.non∧Q (.bl (decide (x=.non))) H):=by
  intro pins s σ H x y v u Q I rx ry h
  obtain⟨rfl,q⟩:=h
  cases ry
  refine is_none_gen (yc I q ?_)
  cases x<;>first
    | (cases rx;rfl)
    | (obtain⟨t,rfl⟩:=rx;rfl)
theorem dC.or{f:Value→Value→Sem Value}{r r':R2}(h:dC X f r)(h':dC X f r'):dC X f (fun x y H Q=>r x y H Q∨r' x y H Q):=by
  intro pins s σ H x y v u Q I rx ry q
  rcases q with q | q
  · exact h pins s σ H x y v u Q I rx ry q
  · exact h' pins s σ H x y v u Q I rx ry q
theorem aZ(b:Expr){op:CmpOp}(h:op≠.In:=by decide)(h2:op≠.NotIn:=by decide):behindInMarks op b=false:=by
  have e1:(op==CmpOp.In)=false:=by cases op<;>first | rfl | exact absurd rfl h
  have e2:(op==CmpOp.NotIn)=false:=by cases op<;>first | rfl | exact absurd rfl h2
  cases b<;>simp [behindInMarks,e1,e2]
theorem vN{op:CmpOp}{r:R2}(ho:dC X (compareOp op) r)(ha:PE X a ta)(hb:PE X b tb)(hm:behindInMarks op b=false):PE X (.Compare a [op] [b] pos) (Cc r ta tb):=by
  intro pins s σ H Q I h
  exact wpAny_Compare1 (xX ha hb I h fun v u s2 x y H2 I2 rx ry q=>ho pins s2 σ H2 x y v u Q I2 rx ry q) hm
def xO(t:TE):TT:=fun σ H Q=>t σ H fun x H'=>∃k,x=.bl k∧Q k H'
theorem wd{op:CmpOp}{r:R2}(ho:dC X (compareOp op) r)(ha:PE X a ta)(hb:PE X b tb)(hm:behindInMarks op b=false):PT X (.Compare a [op] [b] pos) (xO (Cc r ta tb)):=by
  intro pins s σ H Q I h
  refine wpAny_isTrue_Compare1 (bH (ha pins s σ H _ I h) fun v s1 ⟨x,H1,I1,r1,q1⟩=>bH (hb pins s1 σ H1 _ I1 q1) fun u s2 ⟨y,H2,I2,r2,q2⟩=>
    bH (ho pins s2 σ H2 x y v u _ I2 r1 r2 q2) fun c s3 ⟨z,H3,I3,r3,k,e,q3⟩=>?_) hm
  subst e
  cases r3
  exact wpAny_truthy_bool ⟨H3,I3,q3⟩
def oE(r r':R2)(ta tb tc:TE):TE:=fun σ H Q=>ta σ H fun x H1=>tb σ H1 fun y H2=>r x y H2 fun z H3=>∃k,z=.bl k∧
  (if k=true then tc σ H3 fun w' H4=>r' y w' H4 Q else Q (.bl false) H3)
theorem sQ{op op':CmpOp}{r r':R2}(ho:dC X (compareOp op) r)(ho':dC X (compareOp op') r')(ha:PE X a ta)(hb:PE X b tb)(hc:PE X c tc)
    (hm:lastMarks [op,op'] [b,c]=false:=by with_unfolding_all rfl):PE X (.Compare a [op,op'] [b,c] pos) (oE r r' ta tb tc):=by
  intro pins s σ H Q I h
  refine Compare_chain (bH (ha pins s σ H _ I h) fun v s1 ⟨x,H1,I1,r1,q1⟩=>chain_link (bH (hb pins s1 σ H1 _ I1 q1) fun u s2 ⟨y,H2,I2,r2,q2⟩=>
    bH (ho pins s2 σ H2 x y v u _ I2 r1 r2 q2) fun d s3 ⟨z,H3,I3,r3,k,e,q3⟩=>?_)) hm
  subst e
  cases r3
  refine wpAny_truthy_bool ?_
  cases k with
  | false=>exact ite_ff ⟨.bl false,H3,I3,rfl,q3⟩
  | true=>exact ite_tt (chain_last (bH (hc pins s3 σ H3 _ I3 q3) fun w' s4 ⟨z',H4,I4,r4,q4⟩=>ho' pins s4 σ H4 y z' u w' Q I4 r2 r4 q4))
theorem tK{op op':CmpOp}{r r':R2}(ho:dC X (compareOp op) r)(ho':dC X (compareOp op') r')(ha:PE X a ta)(hb:PE X b tb)(hc:PE X c tc)
    (hm:lastMarks [op,op'] [b,c]=false:=by with_unfolding_all rfl):PT X (.Compare a [op,op'] [b,c] pos) (xO (oE r r' ta tb tc)):=by
  intro pins s σ H Q I h
  refine isTrue_chain (bH (ha pins s σ H _ I h) fun v s1 ⟨x,H1,I1,r1,q1⟩=>test_link (bH (hb pins s1 σ H1 _ I1 q1) fun u s2 ⟨y,H2,I2,r2,q2⟩=>
    bH (ho pins s2 σ H2 x y v u _ I2 r1 r2 q2) fun d s3 ⟨z,H3,I3,r3,k,e,q3⟩=>?_)) hm
  subst e
  cases r3
  refine wpAny_truthy_bool ?_
  cases k with
  | false=>
    obtain⟨k',e',q'⟩:=q3
    cases e'
    exact ite_ff ⟨H3,I3,q'⟩
  | true=>
    refine ite_tt (test_last (bH (hc pins s3 σ H3 _ I3 q3) fun w' s4 ⟨z',H4,I4,r4,q4⟩=>bH (ho' pins s4 σ H4 y z' u w' _ I4 r2 r4 q4) fun d' s5 ⟨z2,H5,I5,r5,k2,e2,q5⟩=>?_))
    subst e2
    cases r5
    exact wpAny_truthy_bool ⟨H5,I5,q5⟩
theorem oj:(sizeLine:Nat) < 2 ^ 63:=by rw [sizeLine_eq];decide
theorem lx{x:V}{us:List Value}(r:aI [x] us):∃u,us=[u]∧bh x u:=by
  cases r with
  | cons r1 r2=>cases r2;exact⟨_,rfl,r1⟩
theorem xS{x y:V}{us:List Value}(r:aI [x,y] us):∃u w',us=[u,w']∧bh x u∧bh y w':=by
  cases r with
  | cons r1 r2=>
    cases r2 with
    | cons r3 r4=>cases r4;exact⟨_,_,rfl,r1,r3⟩
theorem rA:cW X (.builtin "abs") (fun xs H Q=>∃i,xs=[.int i]∧Q (.int (if i < 0 then -i else i)) H):=by
  intro pins s σ H xs us Q I r h
  obtain⟨i,rfl,q⟩:=h
  obtain⟨u,rfl,t,rfl⟩:=lx r
  exact call_abs_int fun u tk=>⟨.int (if i < 0 then -i else i),H,I.tok _,⟨_,rfl⟩,q⟩
theorem p9(hc:X.calm=true):cW X (.builtin "max") (fun xs H Q=>∃i j,xs=[.int i,.int j]∧Q (.int (if j > i then j else i)) H):=by
  intro pins s σ H xs us Q I r h
  obtain⟨i,j,rfl,q⟩:=h
  obtain⟨u,w',rfl,⟨t,rfl⟩,⟨t',rfl⟩⟩:=xS r
  refine max_two_ints (I.ok.hd hc) fun h' tk k=>⟨_,H,I.kept k,?_,q⟩
  by_cases hj:j > i
  · rw [if_pos hj,if_pos hj];exact⟨_,rfl⟩
  · rw [if_neg hj,if_neg hj];exact⟨_,rfl⟩
theorem p_(hc:X.calm=true):cW X (.builtin "min") (fun xs H Q=>∃i j,xs=[.int i,.int j]∧Q (.int (if j < i then j else i)) H):=by
  intro pins s σ H xs us Q I r h
  obtain⟨i,j,rfl,q⟩:=h
  obtain⟨u,w',rfl,⟨t,rfl⟩,⟨t',rfl⟩⟩:=xS r
  refine min_two_ints (I.ok.hd hc) fun h' tk k=>⟨_,H,I.kept k,?_,q⟩
  by_cases hj:j < i
  · rw [if_pos hj,if_pos hj];exact⟨_,rfl⟩
  · rw [if_neg hj,if_neg hj];exact⟨_,rfl⟩
theorem p7:cW X (.type "int") (fun xs H Q=>(∃i,xs=[.int i]∧Q (.int i) H)∨∃k,xs=[.bl k]∧Q (.int (if k then 1 else 0)) H):=by
  intro pins s σ H xs us Q I r h
  rcases h with ⟨i,rfl,q⟩ | ⟨k,rfl,q⟩
  · obtain⟨u,rfl,t,rfl⟩:=lx r
    exact call_int_int ⟨.int i,H,I,⟨_,rfl⟩,q⟩
  · obtain⟨u,rfl,r1⟩:=lx r
    cases r1
    exact call_int_bool ⟨.int (if k then 1 else 0),H,I.tok _,⟨_,rfl⟩,q⟩
end
end L2
namespace L2
open PySem PySem.Spec PyProof.Rows
structure DT (h:Heap) (x dx C:Addr) (mA:Str→Option Value):Prop where
  obj:h.get? x=some (PySem.W.instObj C dx)
  ns:h.Ns1 dx mA
  ne:dx≠x
section
variable{prog:Program}{w:World}{A:Around}{E:Value→Shared→Prop}{s:Shared}{K:PySem.W.Frag}{x dx C f:Addr}{mA:Str→Option Value}{name:Str}{v:Value}
end
section
variable{P:Program}{w:World}{H H':Hp}{h h':Heap}{a C dx:Addr}{fs fs':List (Str × V)}
end
structure DP (K:PySem.W.Frag) (C:Addr):Prop where
  pg:PySem.W.plainGet K C Str.empty=true
  hd:PySem.W.hasDictIn K C=true
  po:PySem.W.plainOver K C=true
  sa:PySem.W.findIn K (.ref C) "__setattr__"=some (some (.builtin "object.__setattr__"))
structure D' (K:PySem.W.Frag) (C:Addr) (f:Str) (v:V) (u:Value):Prop where
  at_:PySem.W.findIn K (.ref C) f=some (some u)
  rel:bh v u
  get:PySem.W.specialIn K u "__get__"=some none
  cp:PySem.W.copiedNames.contains f=false
structure DS (K:PySem.W.Frag) (C:Addr) (m:Str) (f:Addr):Prop where
  at_:PySem.W.findIn K (.ref C) m=some (some (.ref f))
  fn:PySem.W.isFn K (.ref f)=true
  kp:PySem.W.keepIn K (.ref f)=true
section
variable{X:Cx}{pins:List (Addr × Obj)}{σ:St}{H:Hp}{s:Shared}{a C dx:Addr}{fs:List (Str × V)}{f:Str}{v:V}{A:Around}{E:Value→Shared→Prop}
end
section
variable{X:Cx}{o e value:Expr}{f:Str}{pos pos' tpos:Pos}{ta tv:TE}
end
section
variable{X:Cx}{pins:List (Addr × Obj)}{σ:St}{H:Hp}{s:Shared}{A:Around}{E:Value→Shared→Prop}{Q:Value→Shared→Prop}{c:Value}{b:Bool}
inductive jG (K:PySem.W.Frag) (H:Hp):V→Value→Prop where
  | non:jG K H .non (.type "NoneType")
  | bl (x:Bool):jG K H (.bl x) (.type "bool")
  | int (i:Int):jG K H (.int i) (.type "int")
  | str (x:Str):jG K H (.str x) (.type "str")
  | flt (x:UInt64):jG K H (.flt x) (.type "float")
  | lst {a:Addr} {xs:List V} (e:H a=some (.lst xs)):jG K H (.ref a) (.type "list")
  | frz {a:Addr} {o:Obj} {xs:List V} (e:H a=some (.frz o (.lst xs))):jG K H (.ref a) (.type "list")
  | tup {a:Addr} {xs:List V} (e:H a=some (.tup xs)):jG K H (.ref a) (.type "tuple")
  | dK {a:Addr} {kvs:List (eT × V)} (e:H a=some (.dK kvs)):jG K H (.ref a) (.type "dict")
  | dT {a:Addr} {kvs:List (List eT × V)} (e:H a=some (.dT kvs)):jG K H (.ref a) (.type "dict")
  | ins {a C dx:Addr} {fs:List (Str × V)} (e:H a=some (.ins C dx fs)) (cl:DP K C) (ha:PySem.W.findIn K (.ref C) "__class__"=some (some (.builtin "object.__class__")))
      (hn:PySem.W.specialIn K (.builtin "object.__class__") "__get__"=some (some (.builtin "getset_descriptor.__get__"))) (htk:PySem.W.takesIn K (.builtin "object.__class__")=some true)
      (hm:PySem.W.mroIn K C (.type "object")=some true):jG K H (.ref a) (.ref C)
end
end L2
namespace L2
open PySem PySem.Spec PyProof.Rows
structure b_ (k:Nat) (A:Around):Prop where
  hd:A.handled=none
  dp:A.depth+3*k+5 < recursionLimit
  un:A.units+16*k+200 < cLine
  gd:A.guards=some []
theorem b_.mono{j k:Nat}{A:Around}(r:b_ k A)(h:j≤k):b_ j A:=⟨r.hd,by have:=r.dp;lia,by have:=r.un;lia,r.gd⟩
theorem b_.deeper{k:Nat}{A:Around}(r:b_ (k+1) A)(env:Env):b_ k (A.deeper env):=
  ⟨r.hd,by have:=r.dp;show A.depth+1+3*k+5 < _;lia,by have:=r.un;show A.units+3+16*k+200 < _;lia,r.gd⟩
theorem b_.depth{k:Nat}{A:Around}(r:b_ k A):A.depth < recursionLimit:=by have:=r.dp;lia
theorem b_.units{k:Nat}{A:Around}(r:b_ k A):A.units+64 < cLine:=by have:=r.un;lia
theorem b_.units0{k:Nat}{A:Around}(r:b_ k A):A.units < cLine:=by have:=r.un;lia
def z9:TA:=fun _ H Q=>Q [] H
def nD(ta:TE)(tr:TA):TA:=fun σ H Q=>ta σ H fun x H1=>tr σ H1 fun xs H2=>Q (x::xs) H2
section
variable{X:Cx}{e:Expr}{es:List Expr}{te:TE}{t:TA}{pos:Pos}
theorem j2:PA X [] z9:=fun _ _ _ _ H Q I h=>Calls.spliced_nil ⟨[],H,I,.nil,h⟩
theorem gE(ha:PE X e te)(hr:PA X es t)(hs:starEach (e::es) X.env=(false,eval e X.env)::starEach es X.env:=by rfl):PA X (e::es) (nD te t):=by
  intro pos pins s σ H Q I h
  rw [hs]
  show wpAny _ _ (spliced ((false,eval e X.env)::backTo pos (starEach es X.env))) _ _ s
  refine Calls.spliced_cons (bH (ha pins s σ H _ I h) fun u s1 ⟨x,H1,I1,r1,q1⟩=>?_)
  exact bH (hr pos pins s1 σ H1 _ I1 q1) fun us s2 ⟨xs,H2,I2,r2,q2⟩=>⟨x::xs,H2,I2,.cons r1 r2,q2⟩
def Ce(t:TA):TE:=fun σ H Q=>t σ H fun xs H1=>xs.length≤sizeLine∧∀p,H1 p=none→Q (.ref p) (aY H1 p (.tup xs))
def Dj(t:TA):TE:=fun σ H Q=>t σ H fun xs H1=>xs.length≤sizeLine∧∀p,H1 p=none→Q (.ref p) (aY H1 p (.lst xs))
theorem zb{x1}(h:PA X es t):PE X (.Tuple es x1 pos) (Ce t):=by
  intro pins s σ H Q I hq
  refine wpAny_Tuple_spliced (bH (h pos pins s σ H _ I hq) fun us s1 ⟨xs,H1,I1,r,z,q⟩=>⟨by rw [←r.length];exact z,?_⟩)
  have hf:H1 s1.heap.objs.size=none:=I1.hok.fresh (Nat.le_refl _)
  refine⟨.ref s1.heap.objs.size,aY H1 s1.heap.objs.size (.tup xs),I1.laid (t':=s1.toks) (fun b u e=>Heap.get?_push_of_some _ e) (Nat.le_refl _) ?_,rfl,q _ hf⟩
  exact⟨z,us,r,⟨_,Heap.get?_push_size _ rfl,rfl,_,rfl,rfl⟩⟩
theorem y6(h:PA X es t):PE X (.List es pos) (Dj t):=by
  intro pins s σ H Q I hq
  refine wpAny_List_spliced (bH (h pos pins s σ H _ I hq) fun us s1 ⟨xs,H1,I1,r,z,q⟩=>⟨by rw [←r.length];exact z,?_⟩)
  have hf:H1 s1.heap.objs.size=none:=I1.hok.fresh (Nat.le_refl _)
  refine⟨.ref s1.heap.objs.size,aY H1 s1.heap.objs.size (.lst xs),I1.laid (t':=s1.toks) (fun b u e=>Heap.get?_push_of_some _ e) (Nat.le_refl _) ?_,rfl,q _ hf⟩
  exact⟨z,us,0,r,Heap.get?_push_size _ rfl⟩
end
abbrev Sp:=List V→Hp→VK→XK→Prop
abbrev p5:=List Env→Hp→Shared→XK→Value→Shared→Prop
structure uO (P:Program) (w:World) (K:PySem.W.Frag) (mg:Str→Option Value) (base:Heap) (A:Around) (outer:List Env) (s:Shared) (H:Hp):Prop where
  frames:A.frames=some outer
  mod:Mod K mg base
  bs:∀b o,base.get? b=some o→s.heap.get? b=some o∧H b=none
  bsz:base.objs.size≤s.heap.objs.size
  funs:s.heap.FunFrames base outer
  frf:∀b∈rK outer,H b=none
  hok:jf P w H s.heap
  bare:AllBare s.gens
def CE(outer:List Env)(P:Program)(w:World)(H:Hp)(s:Shared)(Q:VK)(u:Value)(s':Shared):Prop:=
  ∃v H',s'.os=s.os∧AllBare s'.gens∧Un (rK outer) [] H H' s.heap s'.heap∧jf P w H' s'.heap∧bh v u∧Q v H'
def CR(CX:p5)(outer:List Env)(P:Program)(w:World)(H:Hp)(s:Shared)(Q:VK)(E:XK)(r:Result)(s':Shared):Prop:=
  match r with
  | .ok (.ret u)=>CE outer P w H s Q u s'
  | .ok _=>False
  | .error e=>CX outer H s E e s'
structure aN (P:Program) (w:World) (K:PySem.W.Frag) (mg:Str→Option Value) (base:Heap) (CX:p5) (k:Nat) (f:Addr) (fd:FuncData) (ps:List Str) (sp:Sp):Prop where
  len:∀vs H Q E,sp vs H Q E→vs.length=ps.length
  run:∀(A:Around) (outer:List Env) (s:Shared) (H:Hp) (args:Args) (us:List Value) (vs:List V) (Q:VK) (E:XK),b_ k A→uO P w K mg base A outer s H→BindsTo s fd args (ps.zip us)→aI vs us→sp vs H Q E→
    codeAny (model P w) A (.call (.ref f) args) (CR CX outer P w H s Q E) s
section
variable{X:Cx}{pins:List (Addr × Obj)}{σ:St}{H:Hp}{s s':Shared}
theorem aw.env0(I:aw X pins σ H s):uO X.prog X.w X.K X.mg X.base X.A X.stack s H:=
  ⟨I.ok.frames,I.ok.mod,I.bs,Nat.le_trans I.ok.bsz I.sz,I.stack,I.stkFree,I.hok,I.bare⟩
theorem aw.after{Q:VK}{u:Value}(I:aw X pins σ H s)(h:CE X.stack X.prog X.w H s Q u s'):EP X pins σ Q u s':=by
  obtain⟨v,H',os,bare,un,hok,r,q⟩:=h
  obtain⟨hh,g,d,t,os'⟩:=s'
  obtain rfl:os'=s.os:=os
  exact⟨v,H',I.call (h':=hh) (g':=g) (d':=d) (t':=t) (ch:=[]) un hok bare (fun b z=>absurd z (by simp)),r,q⟩
end
def ut(sp:Sp)(dvs:List V)(E:XK)(t:TA):TE:=fun σ H Q=>t σ H fun vs H1=>sp (vs++dvs) H1 Q E
def kD(K:PySem.W.Frag)(fd:FuncData)(ps:List Str)(ds:List Value):Prop:=
  ∀(s:Shared) (us:List Value),K.In s.heap→(us++ds).length=ps.length→BindsTo s fd ⟨us,[]⟩ (ps.zip (us++ds))
theorem kD.all{K:PySem.W.Frag}{fd:FuncData}{ps:List Str}(h:∀us:List Value,us.length=ps.length→bindArgs fd ⟨us,[]⟩=pure (ps.zip us)):kD K fd ps []:=fun s us _ hl=>by
  rw [List.append_nil] at hl ⊢
  exact .of_eq (h us hl)
def nO(CX:p5)(X:Cx)(E:XK):Prop:=∀(pins:List (Addr × Obj)) (σ:St) (H:Hp) (s:Shared) (e:Value) (s':Shared),aw X pins σ H s→CX X.stack H s E e s'→X.xe e s'
section
variable{X:Cx}{CX:p5}{k:Nat}{f C:Addr}{fd:FuncData}{ps:List Str}{sp:Sp}{dvs:List V}{ds:List Value}{E:XK}{x m:Str}{p pos apos:Pos}{e o:Expr}{es:List Expr}{ta:TE}{t:TA}
theorem zS{pins:List (Addr × Obj)}{σ:St}{H:Hp}{s:Shared}{Q:VK}{us:List Value}{vs:List V}(F:aN X.prog X.w X.K X.mg X.base CX k f fd ps sp)(hr:b_ k X.A)(hb:kD X.K fd ps ds)(hd:aI dvs ds)(hx:nO CX X E)
    (I:aw X pins σ H s)(r:aI vs us)(h:sp (vs++dvs) H Q E):wpAny (model X.prog X.w) X.A (call (.ref f) us) (EP X pins σ Q) X.xe s:=by
  have r2:aI (vs++dvs) (us++ds):=r.append hd
  have hl:(us++ds).length=ps.length:=by rw [←r2.length];exact F.len _ _ _ _ h
  refine wpAny_call (codeAny_mono (F.run X.A X.stack s H ⟨us,[]⟩ (us++ds) (vs++dvs) Q E hr I.env0 (hb s us I.kIn hl) r2 h) fun r s' hq=>?_)
  cases r with
  | error e=>exact hx pins σ H s e s' I hq
  | ok fl=>
    cases fl with
    | ret u=>exact I.after hq
    | next=>exact False.elim hq
    | brk=>exact False.elim hq
    | cont=>exact False.elim hq
theorem vM(F:aN X.prog X.w X.K X.mg X.base CX k f fd ps sp)(hr:b_ k X.A)(hg:Gl X x)(hm:X.mg x=some (.ref f))(hk:PySem.W.keepIn X.K (.ref f)=true)(hb:kD X.K fd ps ds)(hd:aI dvs ds)(hx:nO CX X E)
    (ha:PA X (e::es) t)(hdb:(x==("__debug__":Str))=false:=by decide)(he:starEach (e::es) X.env=(false,eval e X.env)::starEach es X.env:=by rfl)(hpl:(backTo pos (starEach es X.env)).any (·.1)=false:=by rfl):
    PE X (.Call (.Name x p) (e::es) [] pos) (ut sp dvs E t):=by
  intro pins s σ H Q I h
  refine wpAny_Call_Name_kw (pG I hg hm ?_ hdb)
  refine PySem.W.callWith_K (h₀:=X.base) I.ok.mod.kin hk (bH (ha pos pins s σ H _ I h) fun us s1 ⟨vs,H1,I1,r,q⟩=>⟨I1.kIn,?_⟩) he hpl
  exact zS F hr hb hd hx I1 r q
structure Mk (K:PySem.W.Frag) (C f:Addr):Prop where
  makes:PySem.W.makesIn K C=true
  init:PySem.W.findIn K (.ref C) "__init__"=some (some (.ref f))
  fn:PySem.W.isFn K (.ref f)=true
  kp:PySem.W.keepIn K (.ref C)=true
end
section
variable{X:Cx}{CX:p5}{k:Nat}{f C:Addr}{fd:FuncData}{ps ks:List Str}{sp:Sp}{E:XK}{x m:Str}{p pos apos kpos:Pos}{e o:Expr}{es:List Expr}{kws:List Keyword}{te ta:TE}{t tk:TA}{nm:Option Str}
structure CH (K:PySem.W.Frag) (fd:FuncData) (ps ks:List Str) (g:List Value→List Value→List Value) (gV:List V→List V→List V):Prop where
  to:∀(s:Shared) (us ws:List Value),K.In s.heap→(g us ws).length=ps.length→BindsTo s fd ⟨us,ks.zip ws⟩ (ps.zip (g us ws))
  rel:∀{vs:List V} {us:List Value} {zs:List V} {ws:List Value},aI vs us→aI zs ws→aI (gV vs zs) (g us ws)
variable{g:List Value→List Value→List Value}{gV:List V→List V→List V}
end
structure aO (N P:List Str) (sc:Scope):Prop where
  kind:sc.kind=.function
  co:sc.isCoroutine=false
  gen:sc.isGenerator=false
  nd:N.Nodup
  pre:N.take P.length=P
  par:∀x∈P,sc.names.lookup x=some .local∨sc.names.lookup x=some .cell
  nofree:∀y∈sc.names,y.2≠.free
theorem kM{kindOf:Str→Option NameKind}{x:Str}:∀{binds:List (Str × Value)} {m:Str→Option Value},(∀v,(x,v)∉binds)→bindL kindOf binds m x=m x
  | [],_,_=>rfl
  | (n,v)::r,m,h=>by
    unfold bindL
    rw [kM fun w hw=>h w (List.mem_cons_of_mem _ hw)]
    split
    · have:x≠n:=by rintro rfl;exact h v List.mem_cons_self
      simp [this]
    · rfl
theorem kJ{kindOf:Str→Option NameKind}{x:Str}:∀{binds:List (Str × Value)} {m:Str→Option Value},(∀v,(x,v)∉binds)→bindC kindOf binds m x=m x
  | [],_,_=>rfl
  | (n,v)::r,m,h=>by
    unfold bindC
    rw [kJ fun w hw=>h w (List.mem_cons_of_mem _ hw)]
    split
    · rfl
    · have:x≠n:=by rintro rfl;exact h v List.mem_cons_self
      simp [this]
theorem kL{kindOf:Str→Option NameKind}{x:Str}{v:Value}:∀{P:List Str} {vs:List Value} {i:Nat} {m:Str→Option Value},P.Nodup→P[i]?=some x→vs[i]?=some v→kindOf x=some .local→
    bindL kindOf (P.zip vs) m x=some v
  | [],_,_,_,_,h,_,_=>by simp at h
  | _::_,[],_,_,_,_,h,_=>by simp at h
  | p::P,w::vs,0,m,nd,h1,h2,hk=>by
    simp at h1 h2;subst h1;subst h2
    show bindL kindOf ((p,w)::P.zip vs) m p=_
    unfold bindL
    rw [kM fun v hv=>(List.nodup_cons.mp nd).1 (List.of_mem_zip hv).1,if_pos hk]
    simp
  | p::P,w::vs,i+1,m,nd,h1,h2,hk=>by
    show bindL kindOf ((p,w)::P.zip vs) m x=_
    unfold bindL
    exact kL (i:=i) (List.nodup_cons.mp nd).2 (by simpa using h1) (by simpa using h2) hk
theorem kG{kindOf:Str→Option NameKind}{x:Str}{v:Value}:∀{P:List Str} {vs:List Value} {i:Nat} {m:Str→Option Value},P.Nodup→P[i]?=some x→vs[i]?=some v→kindOf x≠some .local→
    bindC kindOf (P.zip vs) m x=some v
  | [],_,_,_,_,h,_,_=>by simp at h
  | _::_,[],_,_,_,_,h,_=>by simp at h
  | p::P,w::vs,0,m,nd,h1,h2,hk=>by
    simp at h1 h2;subst h1;subst h2
    show bindC kindOf ((p,w)::P.zip vs) m p=_
    unfold bindC
    rw [kJ fun v hv=>(List.nodup_cons.mp nd).1 (List.of_mem_zip hv).1,if_neg hk]
    simp
  | p::P,w::vs,i+1,m,nd,h1,h2,hk=>by
    show bindC kindOf ((p,w)::P.zip vs) m x=_
    unfold bindC
    exact kG (i:=i) (List.nodup_cons.mp nd).2 (by simpa using h1) (by simpa using h2) hk
def start(N:List Str)(vs:List V):St:=vs.map some++List.replicate (N.length - vs.length) none
def nX(CX:p5)(P:Program)(w:World)(K:PySem.W.Frag)(mg:Str→Option Value)(base:Heap)(N:List Str)(qual:Str)(scope:Scope)(f:Addr)(cd:Value)(A:Around)(outer:List Env)(s:Shared)(H:Hp)(E:XK):Cx where
  prog:=P
  w:=w
  K:=K
  mg:=mg
  base:=base
  A:=A.deeper (envOfC qual scope s.heap.objs.size f cd)
  N:=N
  s₀:=s
  H₀:=H
  env:=envOfC qual scope s.heap.objs.size f cd
  outer:=outer
  stack:=envOfC qual scope s.heap.objs.size f cd::outer
  ex:=[]
  calm:=true
  fn:=fun _=>true
  pn:=[]
  xe:=fun e s'=>wpAny (model P w) (A.deeper (envOfC qual scope s.heap.objs.size f cd)) (leaving (envOfC qual scope s.heap.objs.size f cd) e) (fun _ s''=>CX outer H s E e s'') (fun e' s''=>CX outer H s E e' s'') s'
theorem mq{sc:Scope}{n:Nat}{x:Str}(h:sc.names.lookup x=some .cell):∃c,(cellsFrom n sc.names []).lookup x=some c:=by
  have q:=PySem.W.cellsFrom_some sc.names n [] (.inl h)
  exact Option.isSome_iff_exists.mp q
theorem qh{CX:p5}{P:Program}{w:World}{K:PySem.W.Frag}{mg:Str→Option Value}{base:Heap}{N ps:List Str}{qual:Str}{scope:Scope}{f:Addr}{cd:Value}{A:Around}{outer:List Env}{s s1:Shared}{H:Hp}{E:XK}{us:List Value}{vs:List V}
    (S:aO N ps scope)(hd:A.handled=none)(e0:uO P w K mg base A outer s H)(hl:vs.length=ps.length)(r:aI vs us)
    (x:InCallC s s.heap.objs.size (bindL (envOfC qual scope s.heap.objs.size f cd).kindOf (ps.zip us) fun _=>none) (cellsFrom (s.heap.objs.size+1) scope.names []) (bindC (envOfC qual scope s.heap.objs.size f cd).kindOf (ps.zip us) fun _=>none) s1):
    aw (nX CX P w K mg base N qual scope f cd A outer s H E) [] (start N vs) H s1:=by
  have hpl:ps.length≤N.length:=by have:=congrArg List.length S.pre;rw [List.length_take] at this;lia
  obtain⟨h1,tk,rfl,hk⟩:=x.done
  have noA:∀b:Addr,b∉(nX CX P w K mg base N qual scope f cd A outer s H E).ex:=fun b z=>absurd (show b∈([]:List Addr) from z) (by simp)
  refine⟨⟨e0.mod,S.kind,rfl,rfl,Nat.le_refl _,fun y z c h1 h2=>?_,fun y hy=>?_,fun y c _ h=>?_,fun _=>hd,Around.frames_deeper e0.frames,.inr ⟨rfl,rfl⟩,fun b z=>absurd z (noA b),e0.bs,e0.bsz,fun b _ _=>noA b,fun b z=>absurd z (noA b),e0.funs,e0.frf⟩,
    rfl,e0.bare,Un.kept hk,⟨_,x.toInCall.ns,fun i y v h1 h2 h3=>?_⟩,fun y c h=>⟨_,x.cell y c h⟩,e0.hok.fresh (Nat.le_refl _),fun y c h=>?_,fun p hp=>absurd (show p∈([]:List (Addr × Obj)) from hp) (by simp),e0.hok.kept hk,?_⟩
  · exact name_of_addr x.apart (PySem.mem_of_lookup h1) (PySem.mem_of_lookup h2)
  · have hy:scope.names.lookup y=some .cell∨scope.names.lookup y=some .free:=hy
    rcases hy with hy | hy
    · exact mq hy
    · exact absurd rfl (S.nofree _ (PySem.mem_of_lookup hy))
  · exact Nat.le_of_lt (x.above y c (PySem.mem_of_lookup h))
  · have hi:i < vs.length:=by
      unfold start at h2
      by_cases hi:i < vs.length
      · exact hi
      · rw [List.getElem?_append_right (by simpa using hi)] at h2
        rw [List.getElem?_replicate] at h2
        split at h2<;>cases h2
    have ha:vs[i]?=some v:=by
      unfold start at h2
      rw [List.getElem?_append_left (by simpa using hi),List.getElem?_map] at h2
      cases e:vs[i]? with
      | none=>rw [e] at h2;cases h2
      | some a=>rw [e] at h2;cases h2;rfl
    obtain⟨u,hu,rv⟩:=r.get ha
    have hp:ps[i]?=some y:=by
      rw [←S.pre,List.getElem?_take_of_lt (by lia)];exact h1
    have ndP:ps.Nodup:=by rw [←S.pre];exact S.nd.sublist (List.take_sublist _ _)
    refine⟨u,rv,?_⟩
    rcases S.par y (List.mem_of_getElem? hp) with k | k
    · exact .inl ⟨k,kL ndP hp hu k⟩
    · obtain⟨c,e⟩:=mq (n:=s.heap.objs.size+1) k
      refine .inr ⟨.inl k,c,e,?_⟩
      have q:=x.cell y c e
      rw [kG ndP hp hu (by show scope.names.lookup y≠_;rw [k];decide)] at q
      exact q
  · exact e0.hok.fresh (Nat.le_of_lt (x.above y c (PySem.mem_of_lookup h)))
  · unfold start
    show _=N.length
    rw [List.length_append,List.length_map,List.length_replicate]
    lia
theorem A6{CX:p5}{P:Program}{w:World}{K:PySem.W.Frag}{mg:Str→Option Value}{base:Heap}{k:Nat}{f:Addr}{name qual:Str}{params:Arguments}{body:List Stmt}{scope:Scope}{dV kV doc pm cdv ct oc:Value}{an od:Option Addr}
    {osl:Array (Option Value)}{N ps:List Str}{sp:Sp}(lk:K.lookup f=some ⟨oc,od,.func (PySem.W.fnOf name qual params body scope dV kV doc pm an cdv ct),osl⟩)(hcd:PySem.W.codeIn K cdv qual=true)(S:aO N ps scope)
    (len:∀vs H Q E,sp vs H Q E→vs.length=ps.length)
    (hbody:∀(A:Around) (outer:List Env) (s:Shared) (H:Hp) (vs:List V) (Q:VK) (E:XK),b_ k (A.deeper (envOfC qual scope s.heap.objs.size f cdv))→sp vs H Q E→
      ∃t,jr (nX CX P w K mg base N qual scope f cdv A outer s H E) body t∧t {nx:=fun _ H'=>Q .non H',rt:=Q} (start N vs) H):
    aN P w K mg base CX (k+1) f (PySem.W.fnOf name qual params body scope dV kV doc pm an cdv ct) ps sp:=by
  refine⟨len,fun A outer s H args us vs Q E hr e0 hb r hsp=>?_⟩
  have hl:=len _ _ _ _ hsp
  have KX:K.In s.heap:=e0.mod.kin.keeps fun b o e=>(e0.bs b o e).1
  have lim:s.heap.NoLimit:=e0.mod.nolimit.keeps fun b o e=>(e0.bs b o e).1
  have hkind:∀y∈ps.zip us,scope.names.lookup y.1=some .local∨(scope.names.lookup y.1=some .cell∧((cellsFrom (s.heap.objs.size+1) scope.names []).lookup y.1).isSome=true):=fun⟨n,v⟩ hy=>by
    rcases S.par n (List.of_mem_zip hy).1 with q | q
    · exact .inl q
    · exact .inr ⟨q,PySem.W.cellsFrom_some _ _ _ (.inl q)⟩
  refine codeAny_call_function hr.depth (KX _ _ lk) rfl S.co S.gen rfl (PySem.W.codeRec_of KX hcd) (hb _ _ _ _ ?_)
  refine wpAny_newFunctionEnv_cells S.kind hkind fun env he s1 x=>?_
  subst he
  refine⟨lim.keeps x.toInCall.keep,codeAny_func ?_⟩
  obtain⟨t,ht,hq⟩:=hbody A outer s H vs Q E (hr.deeper _) hsp
  have I:aw (nX CX P w K mg base N qual scope f cdv A outer s H E) [] (start N vs) H s1:=qh S hr.hd e0 hl r x
  refine wpAny_mono (ht [] s1 (start N vs) H _ I hq) (fun fl s' hs=>?_) fun e s' hs=>hs
  have fin:∀{σ':St} {H':Hp} {v:V} {u:Value},aw (nX CX P w K mg base N qual scope f cdv A outer s H E) [] σ' H' s'→bh v u→Q v H'→CE outer P w H s Q u s':=
    fun{σ' H' v u} J rv q=>⟨v,H',J.os,J.bare,J.base,J.hok,rv,q⟩
  cases fl with
  | ret u=>
    obtain⟨v,σ',H',J,rv,q⟩:=hs
    exact fin J rv q
  | next=>
    obtain⟨σ',H',J,q⟩:=hs
    exact fin (v:=V.non) (u:=Value.none) J rfl q
  | brk=>
    obtain⟨_,_,_,q⟩:=hs
    exact False.elim q
  | cont=>
    obtain⟨_,_,_,q⟩:=hs
    exact False.elim q
end L2
namespace L2
open PySem PySem.Spec PyProof.Rows
section
variable{X:Cx}{x:Str}{p pos:Pos}{e:Expr}{es:List Expr}{t:TA}{id T:String}{r:List V→Hp→VK→Prop}
def Df(r:List V→Hp→VK→Prop)(t:TA):TE:=fun σ H Q=>t σ H fun vs H1=>r vs H1 Q
theorem j3(hc:cW X (.builtin id) r)(hg:Gl X x)(hm:X.mg x=none)(hv:bootBuiltins x=some (.builtin id))(ha:PA X (e::es) t)(hn:x≠"__name__":=by decide)(hdb:(x==("__debug__":Str))=false:=by decide)
    (he:starEach (e::es) X.env=(false,eval e X.env)::starEach es X.env:=by rfl)(hpl:(backTo pos (starEach es X.env)).any (·.1)=false:=by rfl):PE X (.Call (.Name x p) (e::es) [] pos) (Df r t):=by
  intro pins s σ H Q I h
  refine wpAny_Call_Name_kw (eF I hg hm hv ?_ hn hdb)
  exact PyProof.Rows.callWith_builtin1 (bH (ha pos pins s σ H _ I h) fun us s1 ⟨vs,H1,I1,r1,q1⟩=>hc pins s1 σ H1 vs us Q I1 r1 q1) he hpl
theorem k_(hc:cW X (.type T) r)(hg:Gl X x)(hm:X.mg x=none)(hv:bootBuiltins x=some (.type T))(ha:PA X (e::es) t)(hn:x≠"__name__":=by decide)(hdb:(x==("__debug__":Str))=false:=by decide)
    (he:starEach (e::es) X.env=(false,eval e X.env)::starEach es X.env:=by rfl)(hpl:(backTo pos (starEach es X.env)).any (·.1)=false:=by rfl):PE X (.Call (.Name x p) (e::es) [] pos) (Df r t):=by
  intro pins s σ H Q I h
  refine wpAny_Call_Name_kw (eF I hg hm hv ?_ hn hdb)
  exact PyProof.Rows.callWith_type1 (bH (ha pos pins s σ H _ I h) fun us s1 ⟨vs,H1,I1,r1,q1⟩=>hc pins s1 σ H1 vs us Q I1 r1 q1) he hpl
end
end L2
namespace HT
open PySem PyProof.Rows
section
open PySem.SeqAt
open PySem.AutoSeq1 (wpAny_loadPart')
open PySem.MeetsSeq PySem.MeetsSeq2 PySem.MeetsSeq3
end
section
variable{prog:Program}{w:World}{A:Around}{E:Value→Shared→Prop}{s:Shared}
theorem cat_tup{t b:Addr}{vs ws:List Value}{Q:Value→Shared→Prop}(ht:IsTup s.heap t vs.toArray)(hb:IsTup s.heap b ws.toArray)(hv:vs≠[])
    (h1:ws=[]→Q (.ref t) s)(h2:ws≠[]→Q (.ref s.heap.objs.size) {s with heap:=s.heap.push {cls:=.type "tuple",data:=.seq (vs++ws).toArray}})
    (hsz:vs.length+ws.length≤sizeLine):wpAny (model prog w) A (binaryOp .Add (.ref t) (.ref b)) Q E s:=by
  obtain⟨⟨cls,dd,data,sl⟩,ho,hc,n,hd⟩:=id ht
  obtain⟨⟨cls2,dd2,data2,sl2⟩,ho2,hc2,n2,hd2⟩:=id hb
  simp only at hc hd hc2 hd2
  subst hc hd hc2 hd2
  have e:vs.toArray++ws.toArray=(vs++ws).toArray:=by simp
  by_cases hw:ws=[]
  · exact concat_meets ⟨_,ho,rfl⟩ ⟨_,ho2,rfl⟩ noFill_tuple_add seq_tuple_add PySem.F.slot_tuple_add PySem.F.entry_tuple_add (PySem.F.args_tuple_add_2 _ _)
      (tuple_addW1 t b vs.toArray ws.toArray n n2 dd dd2 sl sl2 (by simpa using hv) (by simp [hw])) ⟨ho,ho2,h1 hw⟩
  · refine concat_meets ⟨_,ho,rfl⟩ ⟨_,ho2,rfl⟩ noFill_tuple_add seq_tuple_add PySem.F.slot_tuple_add PySem.F.entry_tuple_add (PySem.F.args_tuple_add_2 _ _)
      (tuple_addW2 t b vs.toArray ws.toArray n n2 dd dd2 sl sl2 (by simpa using hv) (by simpa using hw) (by rw [List.size_toArray,List.size_toArray];exact hsz)) ⟨ho,ho2,?_⟩
    rw [e]
    exact h2 hw
def sIx(n d:Nat):Option Int→Nat
  | none=>d
  | some v=>if v < 0 then(v+(n:Int)).toNat else min v.toNat n
theorem sIx_none(n d:Nat):sIx n d none=d:=rfl
theorem sIx_nat(n d k:Nat):sIx n d (some (k:Int))=min k n:=by
  show(if (k:Int) < 0 then((k:Int)+(n:Int)).toNat else min (k:Int).toNat n)=min k n
  rw [if_neg (by lia),Int.toNat_natCast]
theorem zT(n d:Nat)(hd:d≤n)(o:Option Int):sIx n d o≤n:=by
  cases o with
  | none=>exact hd
  | some v=>
    show(if v < 0 then(v+(n:Int)).toNat else min v.toNat n)≤n
    by_cases hv:v < 0
    · rw [if_pos hv];lia
    · rw [if_neg hv];exact Nat.min_le_right _ _
theorem pf(v:Int)(n d:Nat):(if v < 0 then max (v+(n:Int)) 0 else min v (n:Int))=((sIx n d (some v):Nat):Int):=by
  show(if v < 0 then max (v+(n:Int)) 0 else min v (n:Int))=(((if v < 0 then(v+(n:Int)).toNat else min v.toNat n):Nat):Int)
  by_cases hv:v < 0
  · simp only [if_pos hv];lia
  · simp only [if_neg hv];lia
theorem nP(lo hi:Option Int)(n:Nat):Builtin.Slice.sliceAdjust lo hi 1 (n:Int)=(((sIx n 0 lo:Nat):Int),((sIx n n hi:Nat):Int)):=by
  have h1:¬((1:Int) < 0):=by lia
  unfold Builtin.Slice.sliceAdjust
  simp only [h1,if_false]
  refine Prod.ext ?_ ?_
  · cases lo with
    | none=>rfl
    | some v=>exact pf v n 0
  · cases hi with
    | none=>rfl
    | some v=>exact pf v n n
theorem ov(i j:Nat):Builtin.Slice.slicePlaces (i:Int) (j:Int) 1=j - i:=by
  unfold Builtin.Slice.slicePlaces
  have h1:(1:Int) > 0:=by lia
  simp only [h1,if_true,Int.ediv_one]
  split<;>lia
theorem slicePart_{v:Value}{o:Option Int}{Q:Option Int→Shared→Prop}(p:IsPart v o)(h:Q o s):wpAny (model prog w) A (Builtin.Slice.slicePartIndex v) Q E s:=by
  cases p with
  | none=>exact slicePart_none h
  | int i t=>exact slicePart_int h
theorem eR{sl:Addr}{vl vu:Value}{lo hi:Option Int}{n:Nat}{Q:Int × Int × Nat→Shared→Prop}(hs:s.heap.IsSliceOf sl vl vu .none)(pl:IsPart vl lo)(pu:IsPart vu hi)
    (h:Q (((sIx n 0 lo:Nat):Int),1,sIx n n hi - sIx n 0 lo) s):wpAny (model prog w) A (Builtin.Slice.sliceApplied (.ref sl) (pure (n:Int))) Q E s:=by
  obtain⟨os,hos,hcs,hds⟩:=id hs
  unfold Builtin.Slice.sliceApplied Builtin.Slice.sliceFields
  refine wpAny_bind (wpAny_bind (wpAny_field hos hds (x:=vl) rfl (wpAny_bind (wpAny_field hos hds (x:=vu) rfl (wpAny_bind (wpAny_field hos hds (x:=.none) rfl (wpAny_pure ?_)))))))
  refine wpAny_bind (slicePart_none ?_)
  show wpAny _ _ (if ((1:Int)==0)=true then _ else _) _ _ s
  rw [if_neg (by decide)]
  refine wpAny_bind (slicePart_ pl (wpAny_bind (slicePart_ pu (wpAny_bind (wpAny_pure ?_)))))
  show wpAny _ _ (match Builtin.Slice.sliceAdjust lo hi 1 (n:Int) with | (lo,hi)=>pure (lo,(1:Int),Builtin.Slice.slicePlaces lo hi 1)) _ _ s
  rw [nP lo hi n]
  show wpAny _ _ (pure (((sIx n 0 lo:Nat):Int),(1:Int),Builtin.Slice.slicePlaces ((sIx n 0 lo:Nat):Int) ((sIx n n hi:Nat):Int) 1)) _ _ s
  rw [ov]
  exact wpAny_pure h
theorem tj(xs:Array Value)(i k:Nat):((List.range k).filterMap fun(m:Nat)=>xs[((i:Int)+(m:Int)*1).toNat]?).toArray=((xs.toList.drop i).take k).toArray:=by
  have e:(fun(m:Nat)=>xs[((i:Int)+(m:Int)*1).toNat]?)=fun m=>xs[i+m]?:=by
    funext m
    have:((i:Int)+(m:Int)*1).toNat=i+m:=by lia
    rw [this]
  rw [e]
  have:=pick_run xs i k
  rw [List.filterMap_map] at this
  have e2:((fun x=>xs[x]?) ∘ fun x=>i+x)=fun m=>xs[i+m]?:=rfl
  rw [e2] at this
  rw [this]
theorem getItem_tuple_cut{t sl:Addr}{items:Array Value}{vl vu:Value}{lo hi:Option Int}{Q:Value→Shared→Prop}(ht:IsTup s.heap t items)(hs:s.heap.IsSliceOf sl vl vu .none)(pl:IsPart vl lo)(pu:IsPart vu hi)
    (hw:¬(sIx items.size 0 lo=0∧sIx items.size items.size hi=items.size))
    (h:Q (.ref s.heap.objs.size) {s with heap:=s.heap.push {cls:=.type "tuple",data:=.seq ((items.toList.drop (sIx items.size 0 lo)).take (sIx items.size items.size hi - sIx items.size 0 lo)).toArray}})
    (hsz:items.size≤sizeLine):wpAny (model prog w) A (getItem (.ref t) (.ref sl)) Q E s:=by
  have htake:sizeOk (.seq ((items.toList.drop (sIx items.size 0 lo)).take (sIx items.size items.size hi - sIx items.size 0 lo)).toArray):=by
    show((items.toList.drop (sIx items.size 0 lo)).take (sIx items.size items.size hi - sIx items.size 0 lo)).toArray.size≤sizeLine
    rw [List.size_toArray,List.length_take,List.length_drop,Array.length_toList]
    lia
  have hj:sIx items.size items.size hi≤items.size:=zT _ _ (Nat.le_refl _) hi
  obtain⟨os,hos,hcs,hds⟩:=id hs
  have hTs:s.TypeIs (.ref sl) "slice":=⟨os,hos,hcs⟩
  unfold getItem
  try with_reducible refine wpAny_holding ?_
  first | refine wpAny_bind (wpAny_pure ?_) | skip
  refine wpAny_bind (wpAny_sequenceKey ht.typeIs (by decide) ?_)
  refine wpAny_bind (wpAny_callSpecial?_slot (name:=Str.ofString "__getitem__") ht.typeIs PyProof.Rows.slot_tuple_getitem
    (wpAny_call_entry PyProof.Rows.slot_tuple_getitem ht.typeIs entry_tuple_getitem ?_ (args_tuple_getitem _ _)))
  show wpAny _ _ (Builtin.Tuple.tupleItemsOf (.ref t) >>= _) _ _ s
  refine wpAny_bind (tupleItemsOf_ ht ?_)
  refine wpAny_bind (wpAny_typeOf hTs ?_)
  rw [if_pos (by decide)]
  refine wpAny_bind (eR hs pl pu ?_)
  have hno:¬((((sIx items.size 0 lo:Nat):Int)==0&&(1:Int)==1&&(sIx items.size items.size hi - sIx items.size 0 lo)==items.size)=true):=by
    intro q
    rw [Bool.and_eq_true,Bool.and_eq_true] at q
    have q1:((sIx items.size 0 lo:Nat):Int)=0:=eq_of_beq q.1.1
    have q2:sIx items.size items.size hi - sIx items.size 0 lo=items.size:=eq_of_beq q.2
    exact hw ⟨by lia,by lia⟩
  show wpAny _ _ (if (((sIx items.size 0 lo:Nat):Int)==0&&(1:Int)==1&&(sIx items.size items.size hi - sIx items.size 0 lo)==items.size)=true then _ else _) _ _ s
  rw [if_neg hno,tj]
  first
    | exact wpAny_bind (m:=Builtin.Tuple.tupleExact _) (wpAny_newObj_type (wpAny_pure ⟨_,rfl,wpAny_pure h⟩) htake)
    | exact wpAny_bind (m:=Builtin.Tuple.tupleExact _) (wpAny_newObj_type (wpAny_bind (wpAny_pure (wpAny_pure ⟨_,rfl,wpAny_pure h⟩))) htake)
    | exact wpAny_bind (wpAny_bind (m:=Builtin.Tuple.tupleExact _) (wpAny_newObj_type (wpAny_pure (wpAny_pure ⟨_,rfl,wpAny_pure h⟩)) htake))
    | exact wpAny_bind (wpAny_bind (m:=Builtin.Tuple.tupleExact _) (wpAny_newObj_type (wpAny_pure ⟨_,rfl,wpAny_pure h⟩) htake))
end
end HT
namespace L2
open PySem PySem.Spec PyProof.Rows
abbrev TO:=St→Hp→(Option Int→Hp→Prop)→Prop
def PO(X:Cx)(e:Option Expr)(t:TO):Prop:=
  ∀(pins:List (Addr × Obj)) (s:Shared) (σ:St) (H:Hp) (Q:Option Int→Hp→Prop),aw X pins σ H s→t σ H Q→
    wpAny (model X.prog X.w) X.A (evalPart e X.env) (fun u s'=>∃o H',aw X pins σ H' s'∧IsPart u o∧Q o H') X.xe s
def wA:TO:=fun _ H Q=>Q none H
def Cd(t:TE):TO:=fun σ H Q=>t σ H fun x H1=>∃i,x=.int i∧Q (some i) H1
theorem eh{ns:List Int}:∀{us:List Value},aI (ns.map V.int) us→IntsAre us ns:=by
  induction ns with
  | nil=>intro us r;rw [List.map_nil] at r;cases r;exact .nil
  | cons n ns ih=>
    intro us r
    rw [List.map_cons] at r
    cases r with
    | cons r1 r2=>
      obtain⟨t,e⟩:=r1
      subst e
      exact .cons n t (ih r2)
section
variable{X:Cx}{e:Expr}{te:TE}{lo hi:Option Expr}{tl th:TO}{pos p2:Pos}
theorem vX:PO X none wA:=by
  intro pins s σ H Q I h
  rw [evalPart_none]
  exact wpAny_pure ⟨none,H,I,.none,h⟩
theorem vY(h:PE X e te):PO X (some e) (Cd te):=by
  intro pins s σ H Q I hw
  rw [evalPart_some]
  refine bH (h pins s σ H _ I hw) fun u s1 ⟨x,H1,I1,r1,q1⟩=>?_
  obtain⟨i,rfl,q⟩:=q1
  obtain⟨t,rfl⟩:=r1
  exact⟨some i,H1,I1,.int i t,q⟩
def uQ(X:Cx)(r:V→Option Int→Option Int→Hp→VK→Prop):Prop:=
  ∀(pins:List (Addr × Obj)) (s:Shared) (σ:St) (H:Hp) (x:V) (v vl vu:Value) (lo hi:Option Int) (sl:Addr) (Q:VK),aw X pins σ H s→bh x v→s.heap.IsSliceOf sl vl vu .none→IsPart vl lo→IsPart vu hi→r x lo hi H Q→
    ∃T id,typeLookup (.type T) "__getitem__"=pure (some (.builtin id))∧s.TypeIs v T∧wpAny (model X.prog X.w) X.A (getItem v (.ref sl)) (EP X pins σ Q) X.xe s
theorem uQ.or{r r':V→Option Int→Option Int→Hp→VK→Prop}(h:uQ X r)(h':uQ X r'):uQ X (fun x lo hi H Q=>r x lo hi H Q∨r' x lo hi H Q):=by
  intro pins s σ H x v vl vu lo hi sl Q I rx hs pl pu q
  rcases q with q | q
  · exact h pins s σ H x v vl vu lo hi sl Q I rx hs pl pu q
  · exact h' pins s σ H x v vl vu lo hi sl Q I rx hs pl pu q
def D8(r:V→Option Int→Option Int→Hp→VK→Prop)(te:TE)(tl th:TO):TE:=fun σ H Q=>te σ H fun x H1=>tl σ H1 fun l H2=>th σ H2 fun u H3=>r x l u H3 Q
theorem sT{r:V→Option Int→Option Int→Hp→VK→Prop}(hr:uQ X r)(he:PE X e te)(hl:PO X lo tl)(hu:PO X hi th):PE X (.Subscript e (.Slice lo hi none p2) pos) (D8 r te tl th):=by
  intro pins s σ H Q I h
  refine Subscript_ (bH (he pins s σ H _ I h) fun v s1 ⟨x,H1,I1,r1,q1⟩=>?_)
  refine wpAny_Slice (bH (hl pins s1 σ H1 _ I1 q1) fun vl s2 ⟨l,H2,I2,pl,q2⟩=>bH (hu pins s2 σ H2 _ I2 q2) fun vu s3 ⟨u,H3,I3,pu,q3⟩=>?_)
  rw [evalPart_none]
  refine wpAny_pure ?_
  have I4:aw X pins σ H3 {s3 with heap:=s3.heap.push {cls:=.type "slice",data:=.fields #[vl,vu,.none]}}:=I3.kept (t':=s3.toks) fun b ob q=>Heap.get?_push_of_some _ q
  obtain⟨T,id,hT,ht,hg⟩:=hr pins {s3 with heap:=s3.heap.push {cls:=.type "slice",data:=.fields #[vl,vu,.none]}} σ H3 x v vl vu l u s3.heap.objs.size Q I4 r1 (Heap.IsSliceOf.new ..) pl pu q3
  show wpAny (model X.prog X.w) X.A (subscriptTail e (.Slice lo hi none p2) v (.ref s3.heap.objs.size)) (EP X pins σ Q) X.xe {s3 with heap:=s3.heap.push {cls:=.type "slice",data:=.fields #[vl,vu,.none]}}
  exact tail_any (ops:=[.ref s3.heap.objs.size,v]) ht hT hg (by with_unfolding_all rfl)
def ko(xs:List V)(lo hi:Option Int):List V:=(xs.drop (HT.sIx xs.length 0 lo)).take (HT.sIx xs.length xs.length hi - HT.sIx xs.length 0 lo)
theorem jj(xs:List V)(lo hi:Option Int):(ko xs lo hi).length≤xs.length:=by
  unfold ko
  rw [List.length_take,List.length_drop]
  lia
def BZ(K:PySem.W.Frag):V→Option Int→Option Int→Hp→VK→Prop:=fun x lo hi H Q=>∃a xs,x=.ref a∧bK K H a xs∧
  ¬(HT.sIx xs.length 0 lo=0∧HT.sIx xs.length xs.length hi=xs.length)∧∀p,H p=none→Q (.ref p) (aY H p (.tup (ko xs lo hi)))
theorem zV:uQ X (BZ X.K):=by
  intro pins s σ H x v vl vu lo hi sl Q I rx hs pl pu h
  obtain⟨a,xs,rfl,hx,hw,q⟩:=h
  cases rx
  obtain⟨its,r,ht,hz⟩:=I.tuple hx
  have hlen:its.toArray.size=xs.length:=by rw [List.size_toArray];exact r.length.symm
  refine⟨"tuple",_,PyProof.Rows.slot_tuple_getitem.lookup,ht.typeIs,?_⟩
  refine HT.getItem_tuple_cut ht hs pl pu (by rw [hlen];exact hw) ?_ (by rw [hlen];exact hz)
  rw [hlen]
  refine⟨.ref s.heap.objs.size,_,I.laid (t':=s.toks) (o:=.tup (ko xs lo hi)) (fun b ob q=>Heap.get?_push_of_some _ q) (Nat.le_refl _) ?_,rfl,q _ (I.hok.fresh (Nat.le_refl _))⟩
  exact⟨Nat.le_trans (jj xs lo hi) hz,_,(r.drop (HT.sIx xs.length 0 lo)).take (HT.sIx xs.length xs.length hi - HT.sIx xs.length 0 lo),hV.new _ _⟩
def BR(K:PySem.W.Frag):R2:=fun x y H Q=>∃a b xs ys,x=.ref a∧y=.ref b∧bK K H a xs∧bK K H b ys∧xs≠[]∧xs.length+ys.length≤sizeLine∧
  (ys=[]→Q (.ref a) H)∧(ys≠[]→∀p,H p=none→Q (.ref p) (aY H p (.tup (xs++ys))))
theorem aI.nil_iff{xs:List V}{us:List Value}(r:aI xs us):us=[]↔ xs=[]:=by
  cases r with
  | nil=>simp
  | cons _ _=>simp
theorem vG:dC X (binaryOp .Add) (BR X.K):=by
  intro pins s σ H x y v u Q I rx ry h
  obtain⟨a,b,xs,ys,rfl,rfl,ha,hb,hx,hz,q1,q2⟩:=h
  cases rx
  cases ry
  obtain⟨its,r1,p1,_⟩:=I.tuple ha
  obtain⟨its2,r2,p2,_⟩:=I.tuple hb
  refine HT.cat_tup p1 p2 (fun z=>hx (r1.nil_iff.mp z)) (fun z=>⟨.ref a,H,I,rfl,q1 (r2.nil_iff.mp z)⟩) (fun z=>?_) (by rw [←r1.length,←r2.length];exact hz)
  refine⟨.ref s.heap.objs.size,_,I.laid (t':=s.toks) (o:=.tup (xs++ys)) (fun b ob q=>Heap.get?_push_of_some _ q) (Nat.le_refl _) ?_,rfl,q2 (fun w=>z (r2.nil_iff.mpr w)) _ (I.hok.fresh (Nat.le_refl _))⟩
  exact⟨by rw [List.length_append];exact hz,_,r1.append r2,hV.new _ _⟩
end
end L2
namespace L2
open PySem PySem.Spec PyProof.Rows
def Av(n:Nat)(i:Int):Option Nat:=if 0≤i then(if i < n then some i.toNat else none) else if -(n:Int)≤i then some (i+n).toNat else none
def atI{α:Type}(xs:List α)(i:Int):Option α:=(Av xs.length i).bind fun j=>xs[j]?
theorem ve{n:Nat}{i:Int}{j:Nat}(h:Av n i=some j):seqIndex? i n=some j∧j < n∧ -(n:Int)≤i∧i < n:=by
  unfold Av at h
  by_cases h0:0≤i
  · rw [if_pos h0] at h
    by_cases h1:i < n
    · rw [if_pos h1] at h
      have e:i.toNat=j:=Option.some.inj h
      exact⟨by rw [seqIndex_of h0 h1,e],by lia,by lia,h1⟩
    · rw [if_neg h1] at h;cases h
  · rw [if_neg h0] at h
    by_cases h1: -(n:Int)≤i
    · rw [if_pos h1] at h
      have e:(i+n).toNat=j:=Option.some.inj h
      exact⟨by rw [seqIndex_neg (by lia) h1,e],by lia,h1,by lia⟩
    · rw [if_neg h1] at h;cases h
theorem oZ{α:Type}{xs:List α}{i:Int}{v:α}(h:atI xs i=some v):∃j,seqIndex? i xs.length=some j∧xs[j]?=some v∧j < xs.length∧ -(xs.length:Int)≤i∧i < xs.length:=by
  unfold atI at h
  cases e:Av xs.length i with
  | none=>rw [e] at h;cases h
  | some j=>
    rw [e] at h
    obtain⟨h1,h2,h3,h4⟩:=ve e
    exact⟨j,h1,h,h2,h3,h4⟩
def lA(b:Expr):Prop:=∀o i,subscripted b false o i=operate [o,i] (getItem o i)
def uP(X:Cx)(r:R2):Prop:=
  ∀(value slice:Expr) (pins:List (Addr × Obj)) (s:Shared) (σ:St) (H:Hp) (x y:V) (v u:Value) (Q:VK),aw X pins σ H s→bh x v→bh y u→r x y H Q→
    subscripted slice false v u=operate [v,u] (getItem v u)→wpAny (model X.prog X.w) X.A (subscriptTail value slice v u) (EP X pins σ Q) X.xe s
def Aq(X:Cx)(id:String)(r:V→List V→Hp→VK→Prop):Prop:=
  ∀(pins:List (Addr × Obj)) (s:Shared) (σ:St) (H:Hp) (x:V) (xs:List V) (v:Value) (us:List Value) (Q:VK),aw X pins σ H s→bh x v→aI xs us→r x xs H Q→
    wpAny (model X.prog X.w) X.A (call (.builtin id) (v::us)) (EP X pins σ Q) X.xe s
section
variable{X:Cx}{a b:Expr}{ta tb:TE}{pos:Pos}
theorem uP.or{r r':R2}(h:uP X r)(h':uP X r'):uP X (fun x y H Q=>r x y H Q∨r' x y H Q):=by
  intro value slice pins s σ H x y v u Q I rx ry q hs
  rcases q with q | q
  · exact h value slice pins s σ H x y v u Q I rx ry q hs
  · exact h' value slice pins s σ H x y v u Q I rx ry q hs
theorem BG{r:R2}(hr:uP X r)(ha:PE X a ta)(hb:PE X b tb)(hs:lA b):PE X (.Subscript a b pos) (Cc r ta tb):=by
  intro pins s σ H Q I h
  exact Subscript_ (xX ha hb I h fun v u s2 x y H2 I2 rx ry q=>hr a b pins s2 σ H2 x y v u Q I2 rx ry q (hs _ _))
def BV(K:PySem.W.Frag):R2:=fun x y H Q=>∃p xs i v,x=.ref p∧y=.int i∧ce K H p xs∧atI xs i=some v∧Q v H
def BW(K:PySem.W.Frag):R2:=fun x y H Q=>∃p xs i v,x=.ref p∧y=.int i∧bK K H p xs∧atI xs i=some v∧Q v H
theorem vf:uP X (BV X.K):=by
  intro value slice pins s σ H x y v u Q I rx ry h hs
  obtain⟨p,xs,i,z,rfl,rfl,hq,he,q⟩:=h
  cases rx
  obtain⟨t,rfl⟩:=ry
  obtain⟨its,r,pl,hz⟩:=I.list hq
  obtain⟨j,h1,h2,h3,h4,h5⟩:=oZ he
  obtain⟨w,ew,rw'⟩:=r.get h2
  have hl:=r.length
  have hn:=oj
  have fin:EP X pins σ Q w s:=⟨z,H,I,rw',q⟩
  by_cases h0:0≤i
  · have hj:i.toNat=j:=by
      rw [seqIndex_of h0 h5] at h1
      exact Option.some.inj h1
    exact item_listR pl.isList h0 (by lia) (by rw [hj];simpa using ew) fin hs
  · have hj:(i+(its.toArray.size:Int)).toNat=j:=by
      rw [seqIndex_neg (by lia) h4] at h1
      rw [List.size_toArray,←hl]
      exact Option.some.inj h1
    exact subscriptTail_builtinR (x:=w) pl.isList.typeIs slot_list_getitem.lookup
      (wpAny_getItem_list_neg (Q:=fun r s'=>r=w∧EP X pins σ Q r s') pl.isList (by lia) (by rw [List.size_toArray]<;>lia) (by lia) (by rw [hj];simpa using ew) ⟨rfl,fin⟩) hs
theorem yt:uP X (BW X.K):=by
  intro value slice pins s σ H x y v u Q I rx ry h hs
  obtain⟨p,xs,i,z,rfl,rfl,hq,he,q⟩:=h
  cases rx
  obtain⟨t,rfl⟩:=ry
  obtain⟨its,r,pl,hz⟩:=I.tuple hq
  obtain⟨j,h1,h2,h3,h4,h5⟩:=oZ he
  obtain⟨w,ew,rw'⟩:=r.get h2
  have hl:=r.length
  have hn:=oj
  have fin:EP X pins σ Q w s:=⟨z,H,I,rw',q⟩
  exact subscriptTail_builtinR (x:=w) pl.typeIs slot_tuple_getitem.lookup
    (getItem_tuple (j:=j) (Q:=fun r s'=>r=w∧EP X pins σ Q r s') pl (by lia) (by lia) (by rw [List.size_toArray,←hl];exact h1) (by simpa using ew) ⟨rfl,fin⟩) hs
theorem l5(lo hi:Option Int)(n:Nat):(sliceBounds lo hi none n).1=((HT.sIx n 0 lo:Nat):Int)∧(sliceBounds lo hi none n).2.1=((HT.sIx n n hi:Nat):Int)∧(sliceBounds lo hi none n).2.2=1:=by
  refine⟨?_,?_,rfl⟩
  · cases lo with
    | none=>simp [sliceBounds,HT.sIx]
    | some i=>
      simp only [sliceBounds,HT.sIx,Option.getD_none,show(1:Int) > 0 by decide,if_true]
      by_cases h:i < 0
      · simp only [h,if_true]<;>lia
      · simp only [h,if_false]<;>lia
  · cases hi with
    | none=>simp [sliceBounds,HT.sIx]
    | some i=>
      simp only [sliceBounds,HT.sIx,Option.getD_none,show(1:Int) > 0 by decide,if_true]
      by_cases h:i < 0
      · simp only [h,if_true]<;>lia
      · simp only [h,if_false]<;>lia
theorem ky(its:List Value)(lo hi:Option Int):slicePick its.toArray lo hi none=((its.drop (HT.sIx its.length 0 lo)).take (HT.sIx its.length its.length hi - HT.sIx its.length 0 lo)).toArray:=by
  obtain⟨h1,h2,h3⟩:=l5 lo hi its.toArray.size
  unfold slicePick
  rw [h1,h2,h3]
  simp only [sliceRange_one,pick_run,List.size_toArray]<;>rfl
def BY(K:PySem.W.Frag):V→Option Int→Option Int→Hp→VK→Prop:=fun x lo hi H Q=>∃a xs,x=.ref a∧ce K H a xs∧∀p,H p=none→Q (.ref p) (aY H p (.lst (ko xs lo hi)))
theorem wy:uQ X (BY X.K):=by
  intro pins s σ H x v vl vu lo hi sl Q I rx hs pl pu h
  obtain⟨a,xs,rfl,hx,q⟩:=h
  cases rx
  obtain⟨its,r,ht,hz⟩:=I.list hx
  have hlen:=r.length
  refine⟨"list",_,slot_list_getitem.lookup,ht.isList.typeIs,?_⟩
  refine wpAny_getItem_list_slice ht.isList hs pl pu .none (by simp) ?_ (by rw [List.size_toArray]<;>lia)
  rw [ky,←hlen]
  refine⟨.ref s.heap.objs.size,_,I.laid (t':=s.toks) (o:=.lst (ko xs lo hi)) (fun b ob q=>Heap.get?_push_of_some _ q) (Nat.le_refl _) ?_,rfl,q _ (I.hok.fresh (Nat.le_refl _))⟩
  exact⟨Nat.le_trans (jj xs lo hi) hz,_,0,(r.drop (HT.sIx xs.length 0 lo)).take (HT.sIx xs.length xs.length hi - HT.sIx xs.length 0 lo),Heap.get?_push_size _ rfl⟩
theorem lD:cW X (.builtin "len") (fun xs H Q=>∃p ys,xs=[.ref p]∧(ce X.K H p ys∨bK X.K H p ys)∧Q (.int ys.length) H):=by
  intro pins s σ H xs us Q I r h
  obtain⟨p,ys,rfl,hq,q⟩:=h
  obtain⟨u,rfl,rx⟩:=lx r
  cases rx
  have hn:=oj
  rcases hq with hq | hq
  · obtain⟨its,r',pl,hz⟩:=I.list hq
    have hlen:=r'.length
    exact Calls.call_len_list pl.isList (by simp only [List.size_toArray]<;>lia) ⟨.int ys.length,H,I.tok _,⟨s.toks+1,by rw [List.size_toArray,hlen]⟩,q⟩
  · obtain⟨its,r',pl,hz⟩:=I.tuple hq
    have hlen:=r'.length
    exact len_tuple pl (by simp only [List.size_toArray]<;>lia) ⟨.int ys.length,H,I.tok _,⟨s.toks+1,by rw [List.size_toArray,hlen]⟩,q⟩
theorem lE:cW X (.type "list") (fun xs H Q=>∃p ys,xs=[.ref p]∧(ce X.K H p ys∨bK X.K H p ys)∧∀l,H l=none→Q (.ref l) (aY H l (.lst ys))):=by
  intro pins s σ H xs us Q I r h
  obtain⟨p,ys,rfl,hq,q⟩:=h
  obtain⟨u,rfl,rx⟩:=lx r
  cases rx
  have fin:∀(its:List Value),aI ys its→ys.length≤sizeLine→∀(h':Heap) (c':Nat),(∀b o',s.heap.get? b=some o'→h'.get? b=some o')→
      h'.get? s.heap.objs.size=some {cls:=.type "list",dict:=none,data:=.seq its.toArray c',slots:=#[]}→EP X pins σ Q (.ref s.heap.objs.size) {s with heap:=h'}:=fun its r' hz h' c' kp e=>
    ⟨.ref s.heap.objs.size,_,I.laid (t':=s.toks) kp (Nat.le_refl _) (show cz X.prog X.w _ h' _ (.lst ys) from⟨hz,its,c',r',e⟩),rfl,q _ (I.hok.fresh (Nat.le_refl _))⟩
  rcases hq with hq | hq
  · obtain⟨its,r',pl,hz⟩:=I.list hq
    have hlen:=r'.length
    obtain⟨o,ho,hc,n,hd⟩:=pl.isList
    exact call_list_seq p (.inl rfl) ho hc hd (fun h' c' kp e=>fin its r' hz h' c' kp e) (by simp only [List.size_toArray]<;>lia)
  · obtain⟨its,r',pl,hz⟩:=I.tuple hq
    have hlen:=r'.length
    obtain⟨o,ho,hc,n,hd⟩:=pl
    exact call_list_seq p (.inr rfl) ho hc hd (fun h' c' kp e=>fin its r' hz h' c' kp e) (by simp only [List.size_toArray]<;>lia)
theorem kn:cW X (.type "tuple") (fun xs H Q=>∃p ys,xs=[.ref p]∧((ce X.K H p ys∧∀l,H l=none→Q (.ref l) (aY H l (.tup ys)))∨(bK X.K H p ys∧Q (.ref p) H))):=by
  intro pins s σ H xs us Q I r h
  obtain⟨p,ys,rfl,h⟩:=h
  obtain⟨u,rfl,rx⟩:=lx r
  cases rx
  rcases h with ⟨hq,q⟩ | ⟨hq,q⟩
  · obtain⟨its,r',pl,hz⟩:=I.list hq
    have hlen:=r'.length
    refine call_tuple_list pl.isList (fun h' kp=>?_) (by simp only [List.size_toArray]<;>lia)
    have I1:aw X pins σ H {s with heap:=h'}:=I.kept (t':=s.toks) kp
    have I2:aw X pins σ (aY H h'.objs.size (.tup ys)) {s with heap:=h'.push {cls:=.type "tuple",data:=.seq its.toArray}}:=
      I1.laid (t':=s.toks) (fun b o e=>Heap.get?_push_of_some _ e) (Nat.le_refl _) (show cz X.prog X.w _ _ _ (.tup ys) from⟨hz,its,r',hV.new _ _⟩)
    exact⟨.ref h'.objs.size,_,I2,rfl,q _ (I1.hok.fresh (Nat.le_refl _))⟩
  · obtain⟨its,r',pl,hz⟩:=I.tuple hq
    exact call_tuple_same pl ⟨.ref p,H,I,rfl,q⟩
def DL(K:PySem.W.Frag)(T:String)(x:V)(H:Hp):Prop:=match x with
  | .str _=>T="str"
  | .int _=>T="int"
  | .ref p=>(T="list"∧∃xs,ce K H p xs)∨(T="tuple"∧∃o,K.lookup p=some o∧o.cls=.type "tuple"∧o.dict=none)∨
      (T="dict"∧((∃kvs,H p=some (.dK kvs))∨∃kvs,H p=some (.dT kvs)))∨(T="set"∧∃S n,H p=some (.set S n))
  | _=>False
theorem uD{pins:List (Addr × Obj)}{σ:St}{H:Hp}{s:Shared}{T:String}{x:V}{v:Value}(I:aw X pins σ H s)(r:bh x v)(ty:DL X.K T x H):
    s.TypeIs v T∧∀a,v=.ref a→∃ob,s.heap.get? a=some ob∧ob.dict=none:=by
  cases x with
  | str z=>
    obtain⟨t,rfl⟩:=r
    cases (show T="str" from ty)
    exact⟨typeIs_str s z t,fun _ e=>nomatch e⟩
  | int i=>
    obtain⟨t,rfl⟩:=r
    cases (show T="int" from ty)
    exact⟨typeIs_int s i t,fun _ e=>nomatch e⟩
  | ref p=>
    cases r
    rcases ty with ⟨rfl,xs,hq⟩ | ⟨rfl,o,hk,hc,hd⟩ | ⟨rfl,hk⟩ | ⟨rfl,S,n,hk⟩
    · obtain⟨its,_,pl,_⟩:=I.list hq
      refine⟨pl.isList.typeIs,fun a e=>?_⟩
      cases e
      obtain⟨o,n,e,c,hd,_⟩:=pl
      exact⟨o,e,hd⟩
    · refine⟨⟨o,I.kIn p o hk,hc⟩,fun a e=>?_⟩
      cases e
      exact⟨o,I.kIn _ o hk,hd⟩
    · have z:∃o,s.heap.get? p=some o∧o.ExactDict:=by
        rcases hk with ⟨kvs,hk⟩ | ⟨kvs,hk⟩
        · obtain⟨_,_,_,_,o,_,_,e,ex,_⟩:=I.hok p _ hk
          exact⟨o,e,ex⟩
        · obtain⟨_,_,_,_,o,_,_,e,ex,_⟩:=I.hok p _ hk
          exact⟨o,e,ex⟩
      obtain⟨o,e,ex⟩:=z
      refine⟨⟨o,e,ex.1⟩,fun a e2=>?_⟩
      cases e2
      exact⟨o,e,ex.2.1⟩
    · obtain⟨o,_,_,_,e,ex,_⟩:=I.hok p _ hk
      refine⟨⟨o,e,ex.1⟩,fun a e2=>?_⟩
      cases e2
      exact⟨o,e,ex.2.1⟩
  | _=>exact False.elim ty
def DF(K:PySem.W.Frag)(T:String)(r:V→List V→Hp→VK→Prop)(to:TE)(t:TA):TE:=fun σ H Q=>to σ H fun x H1=>DL K T x H1∧t σ H1 fun xs H2=>r x xs H2 Q
variable{o e:Expr}{es:List Expr}{to:TE}{t:TA}{name:Str}{apos cpos:Pos}{T id:String}{r:V→List V→Hp→VK→Prop}
theorem BF(pa:PlainAttrs T)(slot:Slot T name id)(hty:typeOf (.builtin id)=pure (.type "method_descriptor"))(hm:Aq X id r)(ho:PE X o to)(ha:PA X (e::es) t)
    (hbase:attributeBase o name X.env (eval o X.env)=eval o X.env:=by rfl)
    (hfew:((backTo cpos (starEach (e::es) X.env)).all (fun x=> !x.1)&&(backToKw cpos (keywordEach [] X.env)).all (fun x=>x.1.isSome)
      &&decide ((e::es).length+([]:List Keyword).length+(if ([]:List Keyword).isEmpty then 0 else 1) < 30))=true:=by rfl)
    (hline:(apos.endLine==cpos.line)=true:=by rfl)(hs:starEach (e::es) X.env=(false,eval e X.env)::starEach es X.env:=by rfl)(hplain:(backTo cpos (starEach es X.env)).any (·.1)=false:=by rfl):
    PE X (.Call (.Attribute o name apos) (e::es) [] cpos) (DF X.K T r to t):=by
  intro pins s σ H Q I h
  refine wpAny_Call_method_late hbase hfew hline rfl (bH (ho pins s σ H _ I h) fun v s1 ⟨x,H1,I1,r1,ty,q1⟩=>?_)
  obtain⟨h1,h2⟩:=uD I1 r1 ty
  refine⟨T,id,pa,slot,hty,h1,h2,?_⟩
  have hA:=ha cpos pins s1 σ H1 _ I1 q1
  rw [hs] at hA ⊢
  refine Calls.callWith_builtin (by show(false || (backTo cpos (starEach es X.env)).any (·.1))=false;rw [hplain]<;>rfl) (Calls.evalArgs_plain ?_)
  exact bH hA fun us s2 ⟨vs,H2,I2,r2,q2⟩=>hm pins s2 σ H2 x vs v us Q I2 r1 r2 q2
end
end L2
namespace L2
open PySem PySem.Spec PyProof.Rows
def Dr(X:Cx)(id:String)(r:V→List V→Hp→VK→Prop):Prop:=
  ∀(pins:List (Addr × Obj)) (s:Shared) (σ:St) (H:Hp) (x:V) (xs:List V) (v:Value) (us:List Value) (Q:VK),aw X pins σ H s→bh x v→aI xs us→r x xs H Q→
    wpAny (model X.prog X.w) X.A (call (.builtin id) (v::us)) (EP X pins σ Q) X.xe s
theorem aI.one:∀{x:V} {us:List Value},aI [x] us→∃u,us=[u]∧bh x u
  | _,_,.cons r .nil=>⟨_,rfl,r⟩
theorem aI.eraseIdx:∀{xs:List V} {us:List Value} (i:Nat),aI xs us→aI (xs.eraseIdx i) (us.eraseIdx i)
  | _,_,_,.nil=>.nil
  | _,_,0,.cons _ t=>t
  | _,_,i+1,.cons r t=>.cons r (aI.eraseIdx i t)
theorem aI.reverse{xs:List V}{us:List Value}(h:aI xs us):aI xs.reverse us.reverse:=by
  induction h with
  | nil=>exact .nil
  | cons r t ih=>rw [List.reverse_cons,List.reverse_cons];exact aI.append ih (.cons r .nil)
theorem aI.rep{xs:List V}{us:List Value}(h:aI xs us):∀k:Nat,aI (List.replicate k xs).flatten (List.replicate k us).flatten
  | 0=>.nil
  | k+1=>by
    rw [List.replicate_succ,List.replicate_succ,List.flatten_cons,List.flatten_cons]
    exact aI.append h (aI.rep h k)
theorem k7{α:Type}:∀(l:List α) (i:Nat),(l.eraseIdx i).length≤l.length
  | [],_=>Nat.le_refl _
  | _::_,0=>Nat.le_succ _
  | _::r,i+1=>Nat.succ_le_succ (k7 r i)
theorem kT(its:List Value):∀(k:Nat) (acc:List Value),
    List.foldl (fun x1 x2=>x1++x2) acc.toArray (List.replicate k its.toArray)=(acc++(List.replicate k its).flatten).toArray
  | 0,acc=>by simp
  | k+1,acc=>by
    have e:acc.toArray++its.toArray=(acc++its).toArray:=by simp
    have e2:(acc++its)++(List.replicate k its).flatten=acc++(List.replicate (k+1) its).flatten:=by
      rw [List.replicate_succ,List.flatten_cons,List.append_assoc]
    rw [←e2,←kT its k (acc++its),←e,List.replicate_succ,List.foldl_cons]
section
variable{X:Cx}{pins:List (Addr × Obj)}{σ:St}{H:Hp}{s:Shared}{l b:Addr}{xs ys zs:List V}
theorem aw.lset{its its':List Value}{n:Nat}{f:Array Value→Array Value}{t':Nat}(I:aw X pins σ H s)(hH:H l=some (.lst xs))
    (e:s.heap.get? l=some {cls:=.type "list",data:=.seq its.toArray n})(hf:f its.toArray=its'.toArray)(hv:aI ys its')(hz:ys.length≤sizeLine):
    aw X pins σ (aY H l (.lst ys)) {s with heap:=s.heap.update l (Obj.mapSeq f),toks:=t'}:=by
  have q:=PySem.IsL.update e f
  rw [hf] at q
  refine I.write (x:=l) (e:=l) (by rw [hH];exact trivial) (.inl rfl) (fun b' u hb hu=>(Heap.get?_update_other s.heap (Obj.mapSeq f) (Ne.symm hb)).trans hu) ⟨_,q⟩ ?_
  exact⟨hz,its',_,hv,q⟩
theorem aw.lnew{its:List Value}{t':Nat}(I:aw X pins σ H s)(hv:aI ys its)(hz:ys.length≤sizeLine):
    aw X pins σ (aY H s.heap.objs.size (.lst ys)) {s with heap:=s.heap.push {cls:=.type "list",data:=.seq its.toArray},toks:=t'}:=
  I.laid (fun _ _ q=>Heap.get?_push_of_some _ q) (Nat.le_refl _) ⟨hz,its,0,hv,Heap.get?_push_size _ rfl⟩
theorem aw.fresh(I:aw X pins σ H s):H s.heap.objs.size=none:=I.hok.fresh (Nat.le_refl _)
theorem aw.lstM(I:aw X pins σ H s)(hH:H l=some (.lst xs)):xs.length≤sizeLine∧∃(its:List Value) (n:Nat),aI xs its∧xs.length=its.length∧s.heap.get? l=some {cls:=.type "list",data:=.seq its.toArray n}:=by
  obtain⟨z,its,n,r,e⟩:=I.hok l _ hH
  exact⟨z,its,n,r,r.length,e⟩
theorem sG{n:Nat}(h:n≤sizeLine):Builtin.List.listTooLong n=false:=by
  unfold Builtin.List.listTooLong
  exact decide_eq_false (by lia)
end
section
variable{X:Cx}
def pL:V→List V→Hp→VK→Prop:=fun x vs H Q=>∃l xs y,x=.ref l∧vs=[y]∧H l=some (.lst xs)∧xs.length < sizeLine∧Q .non (aY H l (.lst (xs++[y])))
theorem i8:Dr X "list.append" pL:=by
  intro pins s σ H x vs v us Q I rx rv h
  obtain⟨l,xs,y,rfl,rfl,hH,hz,q⟩:=h
  cases rx
  obtain⟨u,rfl,ru⟩:=rv.one
  obtain⟨z,its,n,r,hl,e⟩:=I.lstM hH
  refine call_meets F.slot_list_append ⟨_,e,rfl⟩ F.entry_list_append (F.args_list_append_2 _ _) (PySem.list_append l its.toArray n u (by rw [List.size_toArray];lia)) ⟨e,?_⟩
  refine⟨.non,_,I.lset (its':=its++[u]) hH e (by simp) (r.append (.cons ru .nil)) ?_,rfl,q⟩
  rw [List.length_append,List.length_singleton]
  lia
def t_:V→List V→Hp→VK→Prop:=fun x vs H Q=>∃l xs i k y,x=.ref l∧vs=[.int i]∧H l=some (.lst xs)∧ -(2 ^ 63)≤i∧i < 2 ^ 63∧seqIndex? i xs.length=some k∧xs[k]?=some y∧Q y (aY H l (.lst (xs.eraseIdx k)))
theorem su:Dr X "list.pop" t_:=by
  intro pins s σ H x vs v us Q I rx rv h
  obtain⟨l,xs,i,k,y,rfl,rfl,hH,h1,h2,hk,hy,q⟩:=h
  cases rx
  obtain⟨u,rfl,ru⟩:=rv.one
  obtain⟨t,rfl⟩:=ru
  obtain⟨z,its,n,r,hl,e⟩:=I.lstM hH
  obtain⟨w,hw,rw'⟩:=r.get hy
  refine call_meets F.slot_list_pop ⟨_,e,rfl⟩ F.entry_list_pop (F.args_list_pop_2 _ _)
    (MeetsSeq.list_pop_at l its.toArray n i t k w (fitsIndex_both h1 h2) (by rw [List.size_toArray,←hl];exact hk) (by rw [←Array.getElem?_toList];exact hw) (by rw [List.size_toArray];lia)) ⟨e,?_⟩
  refine⟨y,_,I.lset (its':=its.eraseIdx k) hH e ?_ (r.eraseIdx k) ?_,rw',q⟩
  · show its.toArray.eraseIdxIfInBounds k=(its.eraseIdx k).toArray
    rw [List.eraseIdxIfInBounds_toArray]
  · have:=k7 xs k
    lia
def zJ:R2:=fun x y H Q=>∃l b xs zs,x=.ref l∧y=.ref b∧H l=some (.lst xs)∧H b=some (.lst zs)∧xs.length+zs.length≤sizeLine∧∀p,H p=none→Q (.ref p) (aY H p (.lst (xs++zs)))
theorem yO:dC X (binaryOp .Add) zJ:=by
  intro pins s σ H x y v u Q I rx ry h
  obtain⟨l,b,xs,zs,rfl,rfl,hH,hB,hz,q⟩:=h
  cases rx
  cases ry
  obtain⟨z,its,n,r,hl,e⟩:=I.lstM hH
  obtain⟨z2,its2,n2,r2,hl2,e2⟩:=I.lstM hB
  refine PySem.P.add_list e e2 ?_ (by rw [List.size_toArray,List.size_toArray];lia)
  have ea:its.toArray++its2.toArray=(its++its2).toArray:=by simp
  rw [ea]
  exact⟨.ref _,_,I.lnew (t':=s.toks) (r.append r2) (by rw [List.length_append];lia),rfl,q _ I.fresh⟩
def zN:R2:=fun x y H Q=>∃l k xs,x=.ref l∧y=.int k∧H l=some (.lst xs)∧ -(2 ^ 63)≤k∧k < 2 ^ 63∧xs.length*k.toNat≤sizeLine∧
  ∀p,H p=none→Q (.ref p) (aY H p (.lst (List.replicate k.toNat xs).flatten))
theorem vg{α:Type}(xs:List α)(k:Nat):(List.replicate k xs).flatten.length=k*xs.length:=by
  induction k with
  | zero=>simp
  | succ k ih=>rw [List.replicate_succ,List.flatten_cons,List.length_append,ih,Nat.succ_mul,Nat.add_comm]
theorem y0:dC X (binaryOp .Mult) zN:=by
  intro pins s σ H x y v u Q I rx ry h
  obtain⟨l,k,xs,rfl,rfl,hH,h1,h2,hz,q⟩:=h
  cases rx
  obtain⟨t,rfl⟩:=ry
  obtain⟨z,its,n,r,hl,e⟩:=I.lstM hH
  have hlen:its.toArray.size*k.toNat≤sizeLine:=by rw [List.size_toArray,←hl];exact hz
  have hcap:¬its.toArray.size*k.toNat > (2 ^ 63 - 1) / 8:=by
    have:(sizeLine:Nat)≤(2 ^ 63 - 1) / 8:=by decide
    lia
  have hfit:¬(!Builtin.List.listFitsIndex k)=true:=by
    rw [fitsIndex_both h1 h2]
    exact Bool.false_ne_true
  have hlong:¬Builtin.List.listTooLong (its.toArray.size*k.toNat)=true:=by
    rw [sG hlen]
    exact Bool.false_ne_true
  have hnew:List.foldl (fun x1 x2=>x1++x2) #[] (List.replicate (if its.toArray.isEmpty=true then 0 else k.toNat) its.toArray)=(List.replicate k.toNat its).flatten.toArray:=by
    have f0:∀m:Nat,List.foldl (fun x1 x2=>x1++x2) #[] (List.replicate m its.toArray)=(List.replicate m its).flatten.toArray:=fun m=>by
      have:=kT its m []
      rw [List.nil_append] at this
      exact this
    rw [f0]
    cases its with
    | nil=>simp
    | cons a r'=>rw [if_neg (by simp)]
  refine wpAny_binaryOp_repeat_ref (T:="list") (U:="int") (by decide) ⟨_,e,rfl⟩ (fun s'=>typeIs_int s' k t) noFill_list_mul F.fills_int_mul F.slot_int_rmul repeat_list F.slot_int_index.lookup
    (call_meets F.slot_int_rmul (typeIs_int s k t) F.entry_int_rmul (F.args_int_rmul_2 _ _) (int___rmul___int_list k t l its.toArray n)
      ⟨e,rfl,⟨_,e,rfl⟩,call_meets F.slot_list_mul ⟨_,e,rfl⟩ F.entry_list_mul (F.args_list_mul_2 _ _) (AutoListH.list___mul___list_int_3 l its.toArray n k t hfit hcap hlong) ⟨e,?_⟩⟩)
  rw [hnew]
  exact⟨.ref _,_,I.lnew (t':=s.toks) (r.rep k.toNat) (by rw [vg,Nat.mul_comm];exact hz),rfl,q _ I.fresh⟩
end
section
variable{prog:Program}{w:World}{A:Around}{E:Value→Shared→Prop}{s:Shared}
end
section
variable{X:Cx}
end
end L2
namespace Att
open PySem PySem.W PySem.Calls PyProof.Rows
theorem jv{P:Params}{h:Heap}:∀(ns:List Int) (vs:List Value),WellAll P h vs (ns.map WData.int)→IntsAre vs ns:=by
  intro ns
  induction ns with
  | nil=>
    intro vs w
    rw [List.map_nil] at w
    cases w
    exact .nil
  | cons n ns ih=>
    intro vs w
    rw [List.map_cons] at w
    cases w with
    | cons a b=>
      cases a
      exact .cons _ _ (ih _ b)
theorem qH{l:OpenLaw}{n:Nat}(hn:l.most=some n){P:Params}{h:Heap}{args:List WData}{vals:List Value}
    (hpre:l.row.toRowW.claim.pre args=true)(hwl:WellAll P h vals args):
    ∃a vs ns,vals=[Value.ref a]∧args=[WData.list (ns.map WData.int)]∧h.get? a=some {cls:=.type "list",data:=.seq vs.toArray}∧IntsAre vs ns∧ns.length≤n:=by
  have hsh:WShape.hasAll [] args [.list .int]=true:=(pre_splitW hpre).1
  have hc:l.pre.holds [] {args:=args}=true:=(pre_splitW hpre).2
  obtain⟨d,r,rfl,h1,h2⟩:=hasAllW_cons hsh
  obtain rfl:=hasAllW_nil h2
  obtain⟨xs,rfl,h3⟩:=hasW_list h1
  obtain⟨ns,rfl⟩:=items_int h3
  have hlen:ns.length≤n:=by
    unfold OpenLaw.pre at hc
    have h4:(WTm.not (.lt (.lit (.int (n:Int))) (.len (.arg 0)))).holds [] {args:=[.list (ns.map .int)]}=true:=by
      have h4:=(holds_andW hc).1
      rw [hn] at h4
      exact h4
    have h5:=condW_of h4 (w_not (w_lt w_lit (w_len_list (w_arg rfl))))
    rw [List.length_map] at h5
    refine Nat.le_of_not_lt fun q=>?_
    have q':(n:Int) < ((ns.length:Nat):Int):=by lia
    first
      | (rw [decide_eq_true q'] at h5;exact absurd h5 (by decide))
      | (simp at h5;lia)
  cases hwl with
  | cons w1 w2=>
    cases w2
    cases w1 with
    | list ho hall=>exact⟨_,_,ns,rfl,rfl,ho,jv ns _ hall,hlen⟩
theorem qB(l:OpenLaw)(args:List WData):l.row.toRowW.claim.post args (.bool true) args=true:=
  postW_of (r:=l.row.toRowW) (X:=(true==true))
    (show WShape.has [] (.bool true) .bool=true by first | rfl | decide | simp [WShape.has,WShape.arms,WShape.armsAll])
    (show(WTm.eq .res (.lit (.bool true))).value [] {args:=args,res:=some (.bool true),after:=args}=some (.bool (true==true)) from w_eq_bool (w_res rfl) w_lit) rfl
theorem attach_call{l:OpenLaw}{n:Nat}{q:Program}{loose:List Str}{XP:(Str→Option Value)→Heap→Prop}{YP:World→Heap→Prop}{d:DefRec}
    (hn:l.most=some n)(hdf:d.params.defaults=[])
    (call:∀(w:World) (s₀ s₁:Shared) (mg mb:Str→Option Value) (fa:Addr) (o:Obj) (pm cd doc:Value) (a:Addr) (vs:List Value) (ns:List Int),
      Ground q loose [] XP w s₀ mg mb s₁.heap→YP w s₁.heap→
      s₁.heap.get? fa=some o→o.data=.func (docDef d.name d.params d.body d.scope pm cd doc)→s₁.heap.CodeRec cd d.name→mg d.name=some (.ref fa)→
      s₁.heap.get? a=some {cls:=.type "list",data:=.seq vs.toArray}→IntsAre vs ns→ns.length≤n→s₁.gens=#[]→
      codeAny (model l.prog w) callerA (.call (.ref fa) ⟨[.ref a],[]⟩) (fun r s'=>r=.ok (.ret (.bool true))∧OldK s₁.heap s'.heap∧s'.os=s₁.os∧AllBare s'.gens) s₁):
    WalkO q loose XP YP l.row.toRowW d [] (fun f vs=>PySem.call f vs):=by
  intro w s₀ s₁ mg mb G Y fa o pm cd doc dV kV ho hd hcd hD hmg hg args vals as hpre hlay hrd hwl hlo
  obtain rfl:dV=.none:=Dflts.none hD hdf
  obtain rfl:kV=.none:=Dflts.noKw hD
  obtain⟨a,vs,ns,rfl,rfl,hobj,hints,hlen⟩:=qH hn hpre hwl
  refine enter_call (codeAny_mono (call w s₀ s₁ mg mb fa o pm cd doc a vs ns G Y ho (fd_plain hd) hcd hmg hobj hints hlen hg) fun r s' hq=>?_)
  obtain⟨rfl,h2,h3,h4⟩:=hq
  exact⟨.inl ⟨.bool true,.bool true,[],rfl,fun _=>rfl,.bool true,qB l _,fun _=>⟨List.Pairwise.nil,fun _ hm=>(nomatch hm)⟩⟩,h2,h3,h4⟩
section
variable{prog:Program}{w:World}{A:Around}{E:Value→Shared→Prop}{s:Shared}{K:Frag}
end
end Att
namespace L2
open PySem PySem.Spec PyProof.Rows
theorem ly:∀{vs:List Value} {ns:List Int},IntsAre vs ns→aI (ns.map V.int) vs
  | _,_,.nil=>.nil
  | _,_,.cons n t h=>.cons ⟨t,rfl⟩ (ly h)
def xV(H:Hp):Prop:=∀b,H b=none∨∃o xs,H b=some (.frz o (.lst xs))
theorem r_{P:Program}{w:World}{K:PySem.W.Frag}{mg mb:Str→Option Value}{CX:p5}{k:Nat}{fa a:Addr}{fd:FuncData}{x:Str}{sp:Sp}{s₁:Shared}{vs:List Value}{ns:List Int}
    (KX:K.In s₁.heap)(hns:s₁.heap.Ns mainGlobals mg)(hb:s₁.heap.Ns builtinsNs mb)(hbb:∀x:Str,x≠"__name__"→mb x=bootBuiltins x)(hlim:s₁.heap.NoLimit)(hg:s₁.gens=#[])
    (ha:s₁.heap.get? a=some {cls:=.type "list",data:=.seq vs.toArray})(hi:IntsAre vs ns)(hl:ns.length≤sizeLine)(hr:b_ k callerA)
    (F:∀base:Heap,K.In base→base.Ns mainGlobals mg→aN P w K mg base CX k fa fd [x] sp)(hbind:∀(s:Shared) (u:Value),BindsTo s fd ⟨[u],[]⟩ [(x,u)])
    (hsp:∀H:Hp,xV H→ce K H a (ns.map V.int)→sp [.ref a] H (fun v _=>v=.bl true) fun _ _ _=>False)
    (hCX:∀H e s',CX [] H s₁ (fun _ _ _=>False) e s'→False):
    codeAny (model P w) callerA (.call (.ref fa) ⟨[.ref a],[]⟩) (fun r s'=>r=.ok (.ret (.bool true))∧OldK s₁.heap s'.heap∧s'.os=s₁.os∧AllBare s'.gens) s₁:=by
  have rv:=ly hi
  have lenV:=hi.length
  have core:∀H:Hp,xV H→ce K H a (ns.map V.int)→jf P w H s₁.heap→(∀b,H b≠none→b=a)→(H a≠none→K.lookup a=none)→
      codeAny (model P w) callerA (.call (.ref fa) ⟨[.ref a],[]⟩) (fun r s'=>r=.ok (.ret (.bool true))∧OldK s₁.heap s'.heap∧s'.os=s₁.os∧AllBare s'.gens) s₁:=by
    intro H hO hS hok hA hK
    have base_of:∀{b:Addr} {o:Obj},s₁.heap.get? b=some o→H b=none→(lQ s₁.heap H).get? b=some o:=fun e n=>rZ e n
    have noA:∀{b:Addr} {o:Obj} {es:Array DictEntry} {ep:Nat},s₁.heap.get? b=some o→o.data=.dict es ep→H b=none:=fun{b o es ep} e d=>by
      cases q:H b with
      | none=>rfl
      | some u=>
        have e':b=a:=hA b (by rw [q];simp)
        subst e'
        rw [ha] at e;cases e
        have d':Data.seq vs.toArray _=Data.dict es ep:=d
        cases d'
    have nsK:∀{b:Addr} {m:Str→Option Value},s₁.heap.Ns b m→(lQ s₁.heap H).Ns b m:=fun{b m} ⟨o,es,ep,e,d,r⟩=>⟨o,es,ep,base_of e (noA e d),d,r⟩
    have hKb:K.In (lQ s₁.heap H):=fun b o e=>base_of (KX b o e) (by
      cases q:H b with
      | none=>rfl
      | some u=>
        have e':b=a:=hA b (by rw [q];simp)
        subst e'
        rw [hK (by rw [q];simp)] at e;cases e)
    have hM:Mod K mg (lQ s₁.heap H):=⟨hKb,nsK hns,⟨mb,nsK hb,hbb⟩,let ⟨mc,h1,h2⟩:=hlim;⟨mc,nsK h1,h2⟩⟩
    have e0:uO P w K mg (lQ s₁.heap H) callerA [] s₁ H:=⟨rfl,hM,fun b o e=>vt e,Nat.le_of_eq (qg _ _),trivial,fun b hb=>absurd (show b∈([]:List Addr) from hb) (by simp),hok,.of_eq hg⟩
    refine codeAny_mono ((F _ hKb (nsK hns)).run callerA [] s₁ H ⟨[.ref a],[]⟩ [.ref a] [.ref a] _ _ hr e0 (hbind s₁ (.ref a)) (.cons rfl .nil) (hsp H hO hS)) fun r s' h=>?_
    cases r with
    | error e=>exact(hCX H e s' h).elim
    | ok fl=>
      cases fl with
      | next=>exact False.elim h
      | brk=>exact False.elim h
      | cont=>exact False.elim h
      | ret u=>
        obtain⟨v,H',os,bare,un,hok',r',q⟩:=h
        have q':v=.bl true:=q
        subst q'
        obtain rfl:u=Value.bool true:=r'
        refine⟨rfl,OldK.of_keep fun b o e=>?_,os,bare⟩
        cases q:H b with
        | none=>exact un.keep b o e q (by intro z;exact absurd (show b∈([]:List Addr) from z) (by simp)) (by simp)
        | some u=>
          rcases hO b with z | ⟨ob,xs,z⟩
          · rw [q] at z;cases z
          · have z2:=un.frzs b ob _ z
            obtain⟨e1,_⟩:=hok b _ z
            obtain⟨e2,_⟩:=hok' b _ z2
            rw [e] at e1;cases e1
            exact e2
  cases hk:K.lookup a with
  | some o=>
    have e:=KX a o hk
    rw [ha] at e
    cases e
    refine core (fun _=>none) (fun _=>.inl rfl) (.inr ⟨_,vs.toArray,_,hk,rfl,rfl,rfl,by rw [List.size_toArray,lenV];exact hl,by simpa using rv⟩) (fun b u z=>by have z':(none:Option HO)=some u:=z;cases z') (fun b z=>absurd rfl z) fun z=>absurd rfl z
  | none=>
    refine core (fun b=>if b=a then some (.frz {cls:=.type "list",data:=.seq vs.toArray} (.lst (ns.map V.int))) else none) (fun b=>?_) (.inl (.inr ⟨{cls:=.type "list",data:=.seq vs.toArray},if_pos rfl⟩)) (fun b u z=>?_) (fun b z=>?_) fun _=>hk
    · by_cases hb:b=a
      · exact .inr ⟨_,_,if_pos hb⟩
      · exact .inl (if_neg hb)
    · by_cases hb:b=a
      · have z':=(if_pos hb).symm.trans z
        cases z'
        subst hb
        exact⟨ha,by rw [List.length_map];exact hl,vs,_,rv,ha⟩
      · have z':=(if_neg hb).symm.trans z
        cases z'
    · by_cases hb:b=a
      · exact hb
      · exact absurd (if_neg hb) z
end L2
namespace L2
open PySem PySem.Spec PyProof.Rows
theorem walk_of{l:PySem.W.OpenLaw}{n k:Nat}{q:Program}{loose:List Str}{XP:(Str→Option Value)→Heap→Prop}{YP:World→Heap→Prop}{d:DefRec}{K:Params→PySem.W.Frag}{CX:World→p5}{sp:World→Sp}{x:Str}
    (hn:l.most=some n)(hn2:n≤sizeLine)(hdf:d.params.defaults=[])(hr:b_ k callerA)
    (hY:∀(w:World) (h:Heap),YP w h→(K w.params).In h)
    (F:∀(w:World) (mg:Str→Option Value) (fa:Addr) (h:Heap),(K w.params).In h→h.Ns mainGlobals mg→mg d.name=some (.ref fa)→
      ∃fd:FuncData,(∀(s:Shared) (u:Value),BindsTo s fd ⟨[u],[]⟩ [(x,u)])∧
        ∀base:Heap,(K w.params).In base→base.Ns mainGlobals mg→aN l.prog w (K w.params) mg base (CX w) k fa fd [x] (sp w))
    (hsp:∀(w:World) (H:Hp) (a:Addr) (ns:List Int),ns.length≤n→xV H→ce (K w.params) H a (ns.map V.int)→sp w [.ref a] H (fun v _=>v=.bl true) fun _ _ _=>False)
    (hCX:∀(w:World) (H:Hp) (s:Shared) (e:Value) (s':Shared),CX w [] H s (fun _ _ _=>False) e s'→False):
    PySem.W.WalkO q loose XP YP l.row.toRowW d [] (fun f vs=>PySem.call f vs):=by
  refine Att.attach_call hn hdf fun w s₀ s₁ mg mb fa o pm cd doc a vs ns G Y ho hd hcd hmg hobj hints hlen hg=>?_
  have KX:=hY w _ Y
  obtain⟨fd,hb,hF⟩:=F w mg fa _ KX G.T.g hmg
  exact r_ KX G.T.g G.T.b G.T.builtins G.T.nolimit hg hobj hints (Nat.le_trans hlen hn2) hr hF hb (fun H hO hS=>hsp w H a ns hlen hO hS) fun H e s'=>hCX w H s₁ e s'
end L2
namespace L2
open PySem PySem.Spec PyProof.Rows
def cP(s:Stmt):Arguments:=match s with
  | .FunctionDef _ a _ _ _ _ _ _ _ _=>a
  | _=>{posonlyargs:=[],args:=[],vararg:=none,kwonlyargs:=[],kw_defaults:=[],kwarg:=none,defaults:=[]}
def cq(s:Stmt):List Stmt:=match s with
  | .FunctionDef _ _ b _ _ _ _ _ _ _=>b
  | _=>[]
def am(s:Stmt):Scope:=match s with
  | .FunctionDef _ _ _ _ _ _ sc _ _ _=>sc
  | _=>{kind:=.function,names:=[],isGenerator:=false,isCoroutine:=false}
abbrev bV:p5:=fun _ _ _ _ _ _=>False
abbrev E0:XK:=fun _ _ _=>False
theorem BD{X:Cx}:nO bV X E0:=fun _ _ _ _ _ _ _ h=>h.elim
structure Ao (K:PySem.W.Frag) (x qual:Str) (st:Stmt) (f:Addr) (fd:FuncData):Prop where
  ex:∃(oc:Value) (od:Option Addr) (kV doc pm:Value) (an:Option Addr) (cdv ct:Value) (osl:Array (Option Value)),
    fd=PySem.W.fnOf x qual (cP st) (cq st) (am st) .none kV doc pm an cdv ct∧K.lookup f=some ⟨oc,od,.func fd,osl⟩∧PySem.W.codeIn K cdv qual=true
  kp:PySem.W.keepIn K (.ref f)=true
section
variable{P:Program}{w:World}{K:PySem.W.Frag}{mg:Str→Option Value}{base:Heap}
theorem Ao.ok{x qual:Str}{st:Stmt}{f:Addr}{fd:FuncData}{N ps:List Str}{k:Nat}{sp:Sp}(F:Ao K x qual st f fd)(S:aO N ps (am st))(len:∀vs H Q E,sp vs H Q E→vs.length=ps.length)
    (hbody:∀(cdv:Value) (A:Around) (outer:List Env) (s:Shared) (H:Hp) (vs:List V) (Q:VK) (E:XK),b_ k (A.deeper (envOfC qual (am st) s.heap.objs.size f cdv))→sp vs H Q E→
      ∃t,jr (nX bV P w K mg base N qual (am st) f cdv A outer s H E).nox (cq st) t∧t {nx:=fun _ H'=>Q .non H',rt:=Q} (start N vs) H):aN P w K mg base bV (k+1) f fd ps sp:=by
  obtain⟨oc,od,kV,doc,pm,an,cdv,ct,osl,rfl,lk,hcd⟩:=F.ex
  refine A6 lk hcd S len fun A outer s H vs Q E hr hsp=>?_
  obtain⟨t,h,q⟩:=hbody cdv A outer s H vs Q E hr hsp
  exact⟨t,h.nox,q⟩
theorem Ao.binds{x qual:Str}{st:Stmt}{f:Addr}{fd:FuncData}{ps:List Str}(F:Ao K x qual st f fd)
    (h:∀(kV doc pm:Value) (an:Option Addr) (cdv ct:Value) (us:List Value),us.length=ps.length→bindArgs (PySem.W.fnOf x qual (cP st) (cq st) (am st) .none kV doc pm an cdv ct) ⟨us,[]⟩=pure (ps.zip us)):kD K fd ps []:=by
  obtain⟨oc,od,kV,doc,pm,an,cdv,ct,osl,rfl,lk,hcd⟩:=F.ex
  exact .all (h kV doc pm an cdv ct)
theorem rL{x qual:Str}{st:Stmt}{f:Addr}{oc:Value}{od an:Option Addr}{osl:Array (Option Value)}{kV doc pm cdv ct:Value}(l:K.lookup f=some ⟨oc,od,.func (PySem.W.fnOf x qual (cP st) (cq st) (am st) .none kV doc pm an cdv ct),osl⟩)
    (c:PySem.W.codeIn K cdv qual=true)(k:PySem.W.keepIn K (.ref f)=true):Ao K x qual st f (PySem.W.fnOf x qual (cP st) (cq st) (am st) .none kV doc pm an cdv ct):=⟨⟨oc,od,kV,doc,pm,an,cdv,ct,osl,rfl,l,c⟩,k⟩
end
theorem lm{n:Nat}(h:n≤1000):n < sizeLine:=Nat.lt_of_le_of_lt h (by decide)
section
variable{X:Cx}
end
theorem Bk{A B:Prop}(h:B):if false=true then A else B:=by
  rw [if_neg Bool.false_ne_true]
  exact h
theorem Bl{A B:Prop}(h:A):if true=true then A else B:=by
  rw [if_pos rfl]
  exact h
def av(H H':Hp):Prop:=∀b o,H b=some o→H' b=some o
theorem av.refl(H:Hp):av H H:=fun _ _ h=>h
theorem av.trans{H H1 H2:Hp}(a:av H H1)(b:av H1 H2):av H H2:=fun c o h=>b c o (a c o h)
theorem av.free{H H':Hp}(e:av H H'){l:Addr}(h:H' l=Option.none):H l=Option.none:=by
  cases q:H l with
  | none=>rfl
  | some o=>
    rw [e l o q] at h
    cases h
theorem av.seq{K:PySem.W.Frag}{H H':Hp}{a:Addr}{xs:List V}(e:av H H')(h:ce K H a xs):ce K H' a xs:=by
  rcases h with (h | ⟨o,h⟩) | h
  · exact .inl (.inl (e _ _ h))
  · exact .inl (.inr ⟨o,e _ _ h⟩)
  · exact .inr h
end L2
set_option maxHeartbeats 4000000
namespace L2
open PySem PySem.Spec PyProof.Rows
def Bt(n:Nat)(i:Int):Prop:=i.natAbs < 2 ^ n
theorem Bt.mono{m n:Nat}{i:Int}(h:Bt m i)(hm:m≤n):Bt n i:=Nat.lt_of_lt_of_le h (Nat.pow_le_pow_right (by decide) hm)
theorem Bt.log{m:Nat}{i:Int}(h:Bt m i)(hm:0 < m):i.natAbs.log2 < m:=by
  unfold Bt at h
  rcases Nat.eq_zero_or_pos i.natAbs with h0 | hp
  · rw [h0];exact hm
  · exact(Nat.log2_lt (by lia)).mpr h
theorem Bt.bits{m:Nat}{i:Int}(h:Bt m i)(hm:0 < m):Builtin.Int.intBits i≤m:=by
  unfold Builtin.Int.intBits
  split
  · exact Nat.zero_le _
  · exact h.log hm
theorem Bt.of_le{m:Nat}{i:Int}{j:Int}(h:Bt m j)(e:i.natAbs≤j.natAbs):Bt m i:=Nat.lt_of_le_of_lt e h
section
variable{X:Cx}
def wU(i j:Int):Prop:=Bt 4000 i∧Bt 4000 j
theorem vK:dC X (binaryOp .Mult) (rI wU fun i j=>.int (i*j)):=Bx fun _ _ _ _ _ _ _ hc q=>
  mul_int q (.of_bits (Nat.le_trans (hc.1.bits (by decide)) (by decide)) (Nat.le_trans (hc.2.bits (by decide)) (by decide)))
def wR(i j:Int):Prop:=j≠0∧Bt 8000 j
theorem sP:dC X (binaryOp .FloorDiv) (rI wR fun i j=>.int (i.fdiv j)):=Bx fun _ _ _ _ _ _ _ hc q=>
  floordiv_int hc.1 q (.inl (PyProof.noPylong_of_log2 (Nat.lt_trans (hc.2.log (by decide)) (by decide))))
def Dc(K:PySem.W.Frag):R2:=fun x y H Q=>∃a b xs,x=.ref a∧y=.ref b∧ce K H a xs∧ce K H b []∧Q (.bl xs.isEmpty) H
theorem yQ(hu:X.A.units < cLine):dC X (compareOp .Eq) (Dc X.K):=by
  intro pins s σ H x y v u Q I rx ry h
  obtain⟨a,b,xs,rfl,rfl,ha,hb,q⟩:=h
  cases rx
  cases ry
  obtain⟨its,r,p,hz⟩:=I.list ha
  obtain⟨its2,r2,p2,hz2⟩:=I.list hb
  cases r2
  cases r with
  | nil=>
    refine SeqAt.eq_listAt (e:=fun _=>true) p.isList p2.isList rfl hu (fun j h1 h2=>by simp at h1) ?_
    exact⟨.bl true,H,I,rfl,q⟩
  | cons r rr=>
    refine SeqAt.eq_list_lengthsAt p.isList p2.isList (by simp) hu ?_
    exact⟨.bl false,H,I,rfl,q⟩
theorem yU:dC X (compareOp .Is) (fun x y H Q=>∃b c,x=.bl b∧y=.bl c∧Q (.bl (b==c)) H):=by
  intro pins s σ H x y v u Q I rx ry h
  obtain⟨b,c,rfl,rfl,q⟩:=h
  cases rx;cases ry
  exact is_bool ⟨.bl _,H,I,rfl,q⟩
end
def jg(H H':Hp):Prop:=∀a o,H a=some o→(∀xs,o≠.lst xs)→(∀ob xs,o≠.frz ob (.lst xs))→H' a=some o
theorem jg.trans{H H1 H2:Hp}(a:jg H H1)(b:jg H1 H2):jg H H2:=fun c o h n m=>b c o (a c o h n m) n m
theorem av.ts{H H':Hp}(h:av H H'):jg H H':=fun a o e _ _=>h a o e
theorem jg.tup{K:PySem.W.Frag}{H H':Hp}(h:jg H H'){a:Addr}{xs:List V}(q:bK K H a xs):bK K H' a xs:=by
  rcases q with (q | ⟨o,q⟩) | q
  · exact .inl (.inl (h _ _ q (fun _ e=>nomatch e) (fun _ _ e=>nomatch e)))
  · exact .inl (.inr ⟨o,h _ _ q (fun _ e=>nomatch e) (fun _ _ e=>nomatch e)⟩)
  · exact .inr q
section
variable{X:Cx}
end
end L2
namespace L2
open PySem PySem.Spec PyProof.Rows
structure bj (K:PySem.W.Frag) (mg:Str→Option Value) (x:Str) (st:Stmt) (f:Addr) (fd:FuncData) (ps:List Str):Prop where
  F:Ao K x x st f fd
  m:mg x=some (.ref f)
  b:kD K fd ps []
theorem yk{K:PySem.W.Frag}{mg:Str→Option Value}{h:Heap}{x:Str}{st:Stmt}{f:Addr}{ps:List Str}{oc:Value}{od an:Option Addr}{osl:Array (Option Value)}{kV doc pm cdv ct:Value}(X:K.In h)(G:h.Ns mainGlobals mg)(a:PySem.W.nsIn K mainGlobals x=some (some (.ref f)))
    (l:K.lookup f=some ⟨oc,od,.func (PySem.W.fnOf x x (cP st) (cq st) (am st) .none kV doc pm an cdv ct),osl⟩)(c:PySem.W.codeIn K cdv x=true)(k:PySem.W.keepIn K (.ref f)=true)
    (hb:∀(kV doc pm:Value) (an:Option Addr) (cdv ct:Value) (us:List Value),us.length=ps.length→bindArgs (PySem.W.fnOf x x (cP st) (cq st) (am st) .none kV doc pm an cdv ct) ⟨us,[]⟩=pure (ps.zip us)):
    bj K mg x st f (PySem.W.fnOf x x (cP st) (cq st) (am st) .none kV doc pm an cdv ct) ps:=⟨rL l c k,PySem.W.mg_of X G a,(rL l c k).binds hb⟩
theorem C_{X:Cx}{x:Str}{st:Stmt}{f:Addr}{fd:FuncData}{ps:List Str}{k:Nat}{sp:Sp}{e:Expr}{es:List Expr}{t:TA}{p pos:Pos}(h:bj X.K X.mg x st f fd ps)(G:aN X.prog X.w X.K X.mg X.base bV k f fd ps sp)(hr:b_ k X.A)(ha:PA X (e::es) t)
    (hg:Gl X x:=by rfl)(hdb:(x==("__debug__":Str))=false:=by decide)(he:starEach (e::es) X.env=(false,eval e X.env)::starEach es X.env:=by rfl)(hpl:(backTo pos (starEach es X.env)).any (·.1)=false:=by rfl):
    PE X (.Call (.Name x p) (e::es) [] pos) (ut sp [] E0 t):=vM G hr hg h.m h.F.kp h.b .nil BD ha hdb he hpl
theorem av.new{H:Hp}{p:Addr}{o:HO}(h:H p=none):av H (aY H p o):=fun b u e=>by
  rw [aE (dh e h)];exact e
theorem av.tup{K:PySem.W.Frag}{H H':Hp}{a:Addr}{xs:List V}(e:av H H')(h:bK K H a xs):bK K H' a xs:=e.ts.tup h
end L2
namespace L2
open PySem PySem.Spec PyProof.Rows
def dF(t b:Int):Int × Int:=if b < 0 then(t.fdiv (-(Int.gcd t b:Int)),b.fdiv (-(Int.gcd t b:Int))) else(t.fdiv (Int.gcd t b:Int),b.fdiv (Int.gcd t b:Int))
theorem rX(x y:Int):Int.gcd y (x.fmod y)=Int.gcd x y:=by
  rw [Int.fmod_def,Int.gcd_sub_mul_left_right,Int.gcd_comm]
theorem jk(x:Int){y:Int}(h:y≠0):(x.fmod y).natAbs < y.natAbs:=by
  rcases Int.lt_or_gt_of_ne h with h | h
  · have h1:x.fmod y= -((-x).fmod (-y)):=by
      have:=Int.neg_fmod_neg x y
      lia
    have h2:=Int.fmod_nonneg_of_pos (-x) (b:= -y) (by lia)
    have h3:=Int.fmod_lt_of_pos (-x) (b:= -y) (by lia)
    lia
  · have h2:=Int.fmod_nonneg_of_pos x h
    have h3:=Int.fmod_lt_of_pos x h
    lia
theorem pE{t b:Int}(h:b≠0):(0:Int) < Int.gcd t b:=by
  have:=Int.gcd_pos_of_ne_zero_right t h
  lia
theorem k8{t b:Int}(h:b≠0):∃d:Int,d.natAbs=Int.gcd t b∧d≠0∧(dF t b).1*d=t∧(dF t b).2*d=b∧0 < (dF t b).2:=by
  have hg:=pE (t:=t) h
  have d1:(Int.gcd t b:Int) ∣ t:=Int.gcd_dvd_left ..
  have d2:(Int.gcd t b:Int) ∣ b:=Int.gcd_dvd_right ..
  unfold dF
  split
  · rename_i hb
    have e1:t.fdiv (-(Int.gcd t b:Int))*(-(Int.gcd t b:Int))=t:=Int.fdiv_mul_cancel (Int.neg_dvd.mpr d1)
    have e2:b.fdiv (-(Int.gcd t b:Int))*(-(Int.gcd t b:Int))=b:=Int.fdiv_mul_cancel (Int.neg_dvd.mpr d2)
    refine⟨-(Int.gcd t b:Int),by lia,by lia,e1,e2,?_⟩
    show 0 < b.fdiv (-(Int.gcd t b:Int))
    have h3:b.fdiv (-(Int.gcd t b:Int))*(Int.gcd t b:Int)= -b:=by rw [Int.mul_neg] at e2;lia
    exact Int.pos_of_mul_pos_left (by lia) (by lia) (b:=(Int.gcd t b:Int))
  · rename_i hb
    have e1:t.fdiv (Int.gcd t b:Int)*(Int.gcd t b:Int)=t:=Int.fdiv_mul_cancel d1
    have e2:b.fdiv (Int.gcd t b:Int)*(Int.gcd t b:Int)=b:=Int.fdiv_mul_cancel d2
    refine⟨(Int.gcd t b:Int),by lia,by lia,e1,e2,?_⟩
    show 0 < b.fdiv (Int.gcd t b:Int)
    exact Int.pos_of_mul_pos_left (by lia) (by lia) (b:=(Int.gcd t b:Int))
theorem sj{t b:Int}(h:b≠0):Int.gcd (dF t b).1 (dF t b).2=1:=by
  obtain⟨d,h1,h2,h3,h4,h5⟩:=k8 (t:=t) h
  have e:Int.gcd ((dF t b).1*d) ((dF t b).2*d)=Int.gcd (dF t b).1 (dF t b).2*d.natAbs:=Int.gcd_mul_right ..
  rw [h3,h4,←h1] at e
  have hd:0 < d.natAbs:=by lia
  exact(Nat.eq_of_mul_eq_mul_right hd (by rw [Nat.one_mul];exact e)).symm
theorem yj{t b:Int}(h:b≠0){n:Nat}(hb:Bt n b):Bt n (Int.gcd t b:Int):=by
  refine hb.of_le ?_
  have h1:=Nat.le_of_dvd (show 0 < b.natAbs by lia) (Int.ofNat_dvd.mp (by rw [Int.dvd_natAbs];exact Int.gcd_dvd_right t b))
  lia
mutual
def cnt:PyData→Nat
  | .tuple ds=>1+gN ds
  | .str _=>0
  | _=>1
def gN:List PyData→Nat
  | []=>0
  | d::ds=>cnt d+gN ds
end
mutual
def jY:PyData→Bool
  | .tuple ds=>eN ds
  | .str _=>false
  | .list _=>false
  | .dict _=>false
  | _=>true
def eN:List PyData→Bool
  | []=>true
  | d::ds=>jY d&&eN ds
end
theorem ku{a:Int}(h:a.natAbs.log2 < 1920):(Str.ofString (toString a)).length≤1921:=by
  have e:=int_text_length_le (k:=1920) (by decide) h
  rw [PySem.ofString_length];lia
theorem ou(x:Str)(r:List Str):piled (x::r)=x.length+2+piled r:=by
  simp [piled]
theorem qQ(ts:List Str):(tupleText ts).length≤piled ts+3:=by
  unfold tupleText
  rw [strLen_append,strLen_append]
  have h1:(("(":Str)).length=1:=by decide
  have h2:(Str.ofString (if (ts.length==1)=true then ",)" else ")")).length≤2:=by split<;>decide
  have h3:(Str.join ", " ts).length≤piled ts:=by
    cases ts with
    | nil=>show(Str.join ", " []).length≤0;decide
    | cons x r=>have:=join_length_add (x::r) (by simp);lia
  lia
mutual
theorem lj:∀{d:PyData},jY d=true→d.showable=true→d.shown.length+2≤2000*cnt d
  | .none,_,_=>by show(Str.ofString "None").length+2≤2000*1;decide
  | .bool b,_,_=>by
    cases b
    · show(Str.ofString "False").length+2≤2000*1;decide
    · show(Str.ofString "True").length+2≤2000*1;decide
  | .int i,_,hs=>by
    simp only [PyData.showable,decide_eq_true_eq] at hs
    have:=ku hs
    show(Str.ofString (toString i)).length+2≤2000*1
    lia
  | .tuple ds,hn,hs=>by
    simp only [PyData.showable] at hs
    simp only [jY] at hn
    have h1:=iL hn hs
    have h2:=qQ (PyData.shownAll ds)
    simp only [PyData.shown,cnt]
    lia
  | .str _,hn,_=>by simp [jY] at hn
  | .list _,hn,_=>by simp [jY] at hn
  | .dict _,hn,_=>by simp [jY] at hn
theorem iL:∀{ds:List PyData},eN ds=true→PyData.showableAll ds=true→piled (PyData.shownAll ds)≤2000*gN ds
  | [],_,_=>by simp [PyData.shownAll,piled]
  | d::ds,hn,hs=>by
    simp only [eN,Bool.and_eq_true] at hn
    simp only [PyData.showableAll,Bool.and_eq_true] at hs
    have h1:=lj hn.1 hs.1
    have h2:=iL hn.2 hs.2
    simp only [PyData.shownAll,gN,ou]
    lia
end
end L2
namespace L2
open PySem PySem.Spec PyProof.Rows
def fq(env:Env):List (Str × NameKind)→List (Str × Addr)→List (Str × Addr)
  | [],cs=>cs
  | (n,k)::r,cs=>fq env r (if k==.free then(n,(env.cells.lookup n).getD 0)::cs else cs)
theorem ii{env:Env}:∀(names:List (Str × NameKind)) (cs:List (Str × Addr)),(∀y∈names,y.2=.free→∃c,env.cells.lookup y.1=some c)→
    (forIn names cs (fun(x:Str × NameKind) (r:List (Str × Addr))=>(if (x.2==NameKind.free)=true then do let a ←cellOf env x.1;pure (ForInStep.yield ((x.1,a)::r)) else pure (ForInStep.yield r):Sem (ForInStep (List (Str × Addr))))):Sem (List (Str × Addr)))=pure (fq env names cs)
  | [],cs,_=>rfl
  | (n,k)::r,cs,h=>by
    rw [List.forIn_cons]
    have ih:=fun cs'=>ii (env:=env) r cs' (fun y hy=>h y (List.mem_cons_of_mem _ hy))
    by_cases hk:(k==NameKind.free)=true
    · have hk':k=.free:=by simpa using hk
      obtain⟨c,hc⟩:=h (n,k) List.mem_cons_self hk'
      have e:cellOf env n=pure c:=by unfold cellOf;rw [hc]
      simp only [hk,if_true,e,pure_bind,fq,hc,Option.getD_some]
      exact ih _
    · have hk':(k==NameKind.free)=false:=by simpa using hk
      simp only [hk',Bool.false_eq_true,if_false,pure_bind,fq]
      exact ih _
theorem jL{scope:Scope}{env:Env}(h:∀y∈scope.names,y.2=.free→∃c,env.cells.lookup y.1=some c):closureFor scope env=pure (fq env scope.names []):=by
  have e:=ii (env:=env) scope.names [] h
  unfold closureFor
  simp only [pure_bind,bind_pure] at e ⊢
  exact e
theorem gM{env:Env}:∀(names:List (Str × NameKind)) (cs:List (Str × Addr)) (x:Str) (c:Addr),(∀y∈names,y.2=.free→∃c,env.cells.lookup y.1=some c)→(∀x c,cs.lookup x=some c→env.cells.lookup x=some c)→(fq env names cs).lookup x=some c→env.cells.lookup x=some c
  | [],cs,x,c,_,hs,h=>hs x c h
  | (n,k)::r,cs,x,c,hn,hs,h=>by
    refine gM r _ x c (fun y hy=>hn y (List.mem_cons_of_mem _ hy)) (fun x' c' e=>?_) h
    by_cases hk:(k==NameKind.free)=true
    · rw [if_pos hk] at e
      obtain⟨c0,hc⟩:=hn (n,k) List.mem_cons_self (by simpa using hk)
      rw [List.lookup_cons] at e
      cases hx:x'==n with
      | true=>
        rw [hx] at e
        have e1:x'=n:=by simpa using hx
        subst e1
        simp only [hc,Option.getD_some,Option.some.injEq] at e
        rw [←e];exact hc
      | false=>rw [hx] at e;exact hs x' c' e
    · rw [if_neg hk] at e
      exact hs x' c' e
theorem jK{env:Env}:∀(names:List (Str × NameKind)) (cs:List (Str × Addr)) (x:Str),((∃y∈names,y.1=x∧y.2=.free)∨∃c,cs.lookup x=some c)→∃c,(fq env names cs).lookup x=some c
  | [],cs,x,h=>by
    rcases h with ⟨y,hy,_⟩ | h
    · cases hy
    · exact h
  | (n,k)::r,cs,x,h=>by
    refine jK r _ x ?_
    by_cases hk:(k==NameKind.free)=true
    · rw [if_pos hk,List.lookup_cons]
      cases hx:x==n with
      | true=>exact .inr ⟨_,rfl⟩
      | false=>
        rcases h with ⟨y,hy,e1,e2⟩ | h
        · rcases List.mem_cons.mp hy with z | z
          · subst z;subst e1;simp at hx
          · exact .inl ⟨y,z,e1,e2⟩
        · exact .inr h
    · rw [if_neg hk]
      rcases h with ⟨y,hy,e1,e2⟩ | h
      · rcases List.mem_cons.mp hy with z | z
        · subst z;exact absurd (by simpa using e2) hk
        · exact .inl ⟨y,z,e1,e2⟩
      · exact .inr h
theorem cS{env:Env}:∀{names:List (Str × NameKind)} {x:Str},(∀y∈names,y.2≠.cell)→(names.map fun(n,k)=>if (k==NameKind.free&&env.scope.kind==.function&&env.kindOf n==some .cell) then(n,NameKind.cell) else(n,k)).lookup x=some .cell∨
    (names.map fun(n,k)=>if (k==NameKind.free&&env.scope.kind==.function&&env.kindOf n==some .cell) then(n,NameKind.cell) else(n,k)).lookup x=some .free→∃y∈names,y.1=x∧y.2=.free
  | [],x,_,h=>by simp at h
  | (n,k)::r,x,hc,h=>by
    have ih:=@cS env r x (fun y hy=>hc y (List.mem_cons_of_mem _ hy))
    have nc:k≠.cell:=hc (n,k) List.mem_cons_self
    rw [List.map_cons] at h
    cases hx:x==n with
    | true=>
      have e1:x=n:=by simpa using hx
      subst e1
      refine⟨(x,k),List.mem_cons_self,rfl,?_⟩
      by_cases q:(k==NameKind.free&&env.scope.kind==.function&&env.kindOf x==some .cell)=true
      · simp only [Bool.and_eq_true,beq_iff_eq] at q;exact q.1.1
      · simp only [q,Bool.false_eq_true,if_false,List.lookup_cons,beq_self_eq_true,Option.some.injEq] at h
        rcases h with h | h
        · exact absurd h nc
        · exact h
    | false=>
      have e2:∀(l:List (Str × NameKind)),((if (k==NameKind.free&&env.scope.kind==.function&&env.kindOf n==some .cell)=true then(n,NameKind.cell) else(n,k))::l).lookup x=l.lookup x:=fun l=>by
        split<;>simp [List.lookup_cons,hx]
      simp only [e2] at h
      obtain⟨y,hy,z⟩:=ih h
      exact⟨y,List.mem_cons_of_mem _ hy,z⟩
theorem dG{env:Env}:∀{names:List (Str × NameKind)} {x:Str},names.lookup x=some .free→
    (names.map fun(n,k)=>if (k==NameKind.free&&env.scope.kind==.function&&env.kindOf n==some .cell) then(n,NameKind.cell) else(n,k)).lookup x≠some .local
  | [],x,h=>by simp at h
  | (n,k)::r,x,h=>by
    rw [List.map_cons]
    cases hx:x==n with
    | true=>
      simp only [hx,List.lookup_cons] at h
      cases h
      show List.lookup x ((if (NameKind.free==NameKind.free&&env.scope.kind==.function&&env.kindOf n==some .cell)=true then(n,NameKind.cell) else(n,NameKind.free))::_)≠_
      split<;>simp [List.lookup_cons,hx]
    | false=>
      simp only [hx,List.lookup_cons] at h
      have ih:=@dG env r x h
      have e2:∀(l:List (Str × NameKind)),((if (k==NameKind.free&&env.scope.kind==.function&&env.kindOf n==some .cell)=true then(n,NameKind.cell) else(n,k))::l).lookup x=l.lookup x:=fun l=>by
        split<;>simp [List.lookup_cons,hx]
      simp only [e2]
      exact ih
def aP(X:Cx)(scope:Scope)(cp:List (Nat × Str))(tgN:List Str)(C:Addr)(s0:Shared)(H0:Hp)(fp:List Addr):Cx where
  prog:=X.prog
  w:=X.w
  K:=X.K
  mg:=X.mg
  base:=X.base
  A:=X.A
  N:=cp.map (·.2)++tgN
  s₀:=s0
  H₀:=H0
  env:=compEnvC scope (fq X.env scope.names []) C X.env
  outer:=X.stack
  stack:=X.stack
  ex:=fp
  fn:=fun x=>scope.names.lookup x==some .local
  calm:=X.calm
  pn:=[]
  xe:=fun _ _=>False
def rg(X:Cx)(ifs:List Expr)(t:TT):Prop:=
  ∀(pins:List (Addr × Obj)) (s:Shared) (σ:L2.St) (H:Hp) (Q:Bool→Hp→Prop),aw X pins σ H s→t σ H Q→
    wpAny (model X.prog X.w) X.A (forIn ifs true fun c r=>if r=true then do let ok ←isTrue c X.env (eval c X.env);pure (ForInStep.yield ok) else pure (ForInStep.yield r)) (TP X pins σ Q) X.xe s
theorem we{X:Cx}:rg X [] (fun _ H Q=>Q true H):=fun _ _ _ H _ I h=>wpAny_tests_nil ⟨H,I,h⟩
theorem wf{X:Cx}{c:Expr}{t:TT}(h:PT X c t):rg X [c] t:=fun pins s σ H Q I q=>wpAny_tests_one (h pins s σ H Q I q)
abbrev Ay:Value→Shared→Prop:=fun _ _=>False
def x6(prog:Program)(w:World)(A:Around)(elt tg:Expr)(ifs:List Expr)(env:Env)(it acc:Value)(onward:Shared→Prop)(v:Value)(u:Shared):Prop:=
  wpAny (model prog w) A (letOwnedTupleGo tg it v) (fun _ u1=>wpAny (model prog w) A (assign tg env v) (fun _ u2=>wpAny (model prog w) A
    (forIn ifs true fun c r=>if r=true then do let ok ←isTrue c env (eval c env);pure (ForInStep.yield ok) else pure (ForInStep.yield r)) (fun ok u3=>if ok=true then wpAny (model prog w) A (eval elt env) (fun x u4=>wpAny (model prog w) A (call (.builtin "list.append") [acc,x]) (fun _ u5=>onward u5) Ay u4) Ay u3 else onward u3) Ay u2) Ay u1) Ay u
theorem ij{prog:Program}{w:World}{A:Around}{R:Result→Shared→Prop}{elt tg iter:Expr}{ifs:List Expr}{scope:Scope}{pos:Pos}{it acc:Value}{env:Env}(J:Nat→Shared→Prop)
    (turn:∀n u,J n u→wpAny (model prog w) A (pyNext it) (fun r u1=>(r=none→R (.ok .next) u1)∧∀v,r=some v→x6 prog w A elt tg ifs env it acc (fun u2=>∃m,m < n∧J m u2) v u1) Ay u){n0:Nat}{u0:Shared}(start:J n0 u0):
    codeAny (model prog w) A (.compLoop (.ListComp elt [⟨tg,iter,ifs,0⟩] scope pos) 0 it acc env) R u0:=by
  refine codeAny_loop rfl J (fun n u ju=>?_) n0 start
  show wpAny _ A ((compTurn (.ListComp elt [⟨tg,iter,ifs,0⟩] scope pos) 0 it acc env).onRaise _) _ _ u;refine wpAny_noted ?_;rw [compTurn_list]
  refine wpAny_bind (wpAny_standAt (wpAny_bind (wpAny_mono (turn n u ju) (fun r u1 k1=>?_) fun _ _ z=>z.elim)))
  cases r with
  | none=>exact wpAny_pure (k1.1 rfl)
  | some v=>
    refine wpAny_bind (wpAny_mono (k1.2 v rfl) (fun _ u2 k2=>wpAny_bind (wpAny_mono k2 (fun _ u3 k3=>wpAny_bind (wpAny_mono k3 (fun ok u4 k4=>?_) fun _ _ z=>z.elim)) fun _ _ z=>z.elim)) fun _ _ z=>z.elim)
    cases ok with
    | false=>rw [if_neg Bool.false_ne_true] at k4;exact wpAny_pure ⟨rfl,k4⟩
    | true=>
      rw [if_pos rfl] at k4
      refine wpAny_bind (wpAny_bind (wpAny_mono k4 (fun x u5 k5=>wpAny_bind (wpAny_mono k5 (fun _ u6 k6=>?_) fun _ _ z=>z.elim)) fun _ _ z=>z.elim));exact wpAny_pure (wpAny_pure ⟨rfl,k6⟩)
def eQ(cp:List (Nat × Str))(nT:Nat)(σ:L2.St):L2.St:=cp.map (fun p=>(σ[p.1]?).join)++List.replicate nT none
structure pR (cp:List (Nat × Str)) (nT:Nat) (wi:TI) (g:TG) (tc:TT) (te:TE) (σ:L2.St) (H:Hp) (Q:VK):Prop where
  go:wi σ H fun J H1=>∀l,H1 l=none→
  ∃W:Nat→Nat→L2.St→Hp→Prop,(∃m,W 0 m (eQ cp nT σ) (aY H1 l (.lst [])))∧∀i m σ' H',W i m σ' H'→
    (J.stop i H'∧Q (.ref l) H')∨(J.go i H'∧∃N:L2.St→Hp→Prop,(∀σ2 H2,N σ2 H2→∃m',m' < m∧W (i+1) m' σ2 H2)∧
      ∀x H2,J.yld i H' x H2→g x σ' H2 fun σ2 H3=>tc σ2 H3 fun b H4=>if b=true then te σ2 H4 fun v H5=>∃ys,H5 l=some (.lst ys)∧ys.length < sizeLine∧N σ2 (aY H5 l (.lst (ys++[v]))) else N σ2 H4)
theorem vO{X:Cx}{elt iter tg:Expr}{ifs:List Expr}{scope:Scope}{pos:Pos}{wi:TI}{g:TG}{tc:TT}{te:TE}(sc0:Scope)(N0:List Str)(cp:List (Nat × Str))(tgN:List Str)
    (hc:X.calm=true)(hsc:X.env.scope=sc0)(hN0:X.N=N0)(hi:PI X tg iter wi)
    (hg:∀C s0 H0 fp,PG (aP X scope cp tgN C s0 H0 fp) tg g)
    (ht:∀C s0 H0 fp,rg (aP X scope cp tgN C s0 H0 fp) ifs tc)
    (he:∀C s0 H0 fp,PE (aP X scope cp tgN C s0 H0 fp) elt te)
    (hk:scope.kind=.function)(hcell:∀y∈scope.names,y.2≠.cell)(hnames:∀y∈scope.names,y.2=.local→scope.names.lookup y.1=some .local)
    (hfr:∀y∈scope.names,y.2=.free→scope.names.lookup y.1=some .free∧sc0.names.lookup y.1=some .cell)
    (hcp:∀p∈cp,N0[p.1]?=some p.2)(hcq:∀p∈cp,sc0.names.lookup p.2=some .cell∧scope.names.lookup p.2=some .free)
    (hs:∀x,foldedSetIterable iter X.env x=pure x:=by intro _;rfl):
    PE X (.ListComp elt [⟨tg,iter,ifs,0⟩] scope pos) (pR cp tgN.length wi g tc te):=by
  intro pins s σ H Q I h
  have hkind:∀x,X.env.kindOf x=sc0.names.lookup x:=fun x=>by unfold Env.kindOf;rw [hsc]
  have hfree:∀y∈scope.names,y.2=.free→∃c,X.env.cells.lookup y.1=some c:=fun y hy e=>I.ok.has y.1 (.inl (by rw [hkind];exact(hfr y hy e).2))
  rw [eval_ListComp]
  refine wpAny_comprehension_free (use:=none) rfl hs (jL hfree) hk hnames (wpAny_mono (hi pins s σ H _ I h.go) (fun xv s₁ h₁=>wpAny_mono h₁ (fun itv s₂ h₂=>?_) fun _ _ e=>e) fun _ _ e=>e)
  obtain⟨it,fp,tn,J,H2,rfl,I2,T,st2,f2,hq⟩:=h₂
  refine wpAny_newObj_type ?_
  have hlF:H2 s₂.heap.objs.size=none:=I2.hok.fresh (Nat.le_refl _)
  have I3:aw X pins σ (aY H2 s₂.heap.objs.size (.lst [])) {s₂ with heap:=s₂.heap.push {cls:=.type "list",data:=.seq ([]:List Value).toArray}}:=I2.lnew (t':=s₂.toks) .nil (Nat.zero_le _)
  obtain⟨W,⟨m0,w0⟩,turn⟩:=hq _ hlF
  have f3:∀b∈fp,fj X pins (aY H2 s₂.heap.objs.size (.lst [])) b:=fun b hb=>by
    obtain⟨f0,fr⟩:=f2 b hb
    obtain⟨o,ho,_⟩:=T.obj _ _ st2 b hb
    exact⟨by rw [aE (Nat.ne_of_lt (Heap.lt_size ho))];exact f0,fr⟩
  have st3:tn 0 (s₂.heap.push {cls:=.type "list",data:=.seq ([]:List Value).toArray}):=T.keep _ _ _ st2 fun b _ o e=>Heap.get?_push_of_some _ e
  generalize hD:s₂.heap.objs.size=D at*
  generalize hs3:({s₂ with heap:=s₂.heap.push {cls:=.type "list",data:=.seq ([]:List Value).toArray}}:Shared)=s₃ at*
  have hst3:tn 0 s₃.heap:=by rw [←hs3];exact st3
  refine wpAny_newFunctionEnv hcell (by intro y hy;simp at hy) (fun h₁ hns₁ hsb₁=>?_) hk
  generalize hC:s₃.heap.objs.size=C at*
  have old:∀b o,s₃.heap.get? b=some o→h₁.get? b=some o:=fun b o e=>hsb₁.extBut b o (by rw [←hC];exact Nat.ne_of_lt (Heap.lt_size e)) (Heap.get?_push_of_some _ e)
  have nC:∀b o,s₃.heap.get? b=some o→b≠C:=fun b o e=>by rw [←hC];exact Nat.ne_of_lt (Heap.lt_size e)
  have hHC:(aY H2 D (.lst [])) C=none:=I3.hok.fresh (by rw [hC];exact Nat.le_refl _)
  have clS:∀x c,(fq X.env scope.names []).lookup x=some c→X.env.cells.lookup x=some c:=fun x c e=>gM _ _ x c hfree (fun _ _ z=>by simp at z) e
  have clH:∀x,(∃y∈scope.names,y.1=x∧y.2=.free)→∃c,(fq X.env scope.names []).lookup x=some c:=fun x e=>jK _ _ x (.inl e)
  have ok':(aP X scope cp tgN C s₃ (aY H2 D (.lst [])) fp).Ok:=by
    refine⟨I.ok.mod,hk,I.ok.glob,I.ok.blt,by rw [←hC];exact Nat.le_refl _,fun x y c e1 e2=>I.ok.inj x y c (clS _ _ e1) (clS _ _ e2),fun x e=>clH x (cS hcell e),fun x c e1 e2=>?_,I.ok.hd,I.ok.frames,.inl rfl,fun b hb=>?_,fun b o e=>I3.bs b o e,?_,fun b o e hb=>?_,fun b hb z=>?_,I3.stack,fun b hb=>I3.stkFree b hb⟩
    · exfalso
      have e1':scope.names.lookup x=some .local:=by simpa [aP] using e1
      have e2':=clS x c e2
      obtain⟨c',hc'⟩:∃y∈scope.names,y.1=x∧y.2=.free:=by
        by_cases q:∃y∈scope.names,y.1=x∧y.2=.free
        · exact q
        · exfalso
          have:∀(names:List (Str × NameKind)) (cs:List (Str × Addr)),(¬∃y∈names,y.1=x∧y.2=.free)→cs.lookup x=none→(fq X.env names cs).lookup x=none:=by
            intro names
            induction names with
            | nil=>intro cs _ h;exact h
            | cons y r ih=>
              intro cs hn hcs
              obtain⟨n,k⟩:=y
              refine ih _ (fun⟨y,hy,z⟩=>hn ⟨y,List.mem_cons_of_mem _ hy,z⟩) ?_
              by_cases hk:(k==NameKind.free)=true
              · rw [if_pos hk,List.lookup_cons]
                cases hx:x==n with
                | true=>exact absurd ⟨(n,k),List.mem_cons_self,(by simpa using hx:x=n).symm,by simpa using hk⟩ hn
                | false=>exact hcs
              · rw [if_neg hk];exact hcs
          have z:=this scope.names [] q rfl
          have e2'':(fq X.env scope.names []).lookup x=some c:=e2
          rw [z] at e2'';cases e2''
      have z:=(hfr c' hc'.1 hc'.2.2).1
      rw [hc'.2.1,e1'] at z;cases z
    · obtain⟨f0,f1,f4,f5,f6,f7⟩:=f3 b hb
      obtain⟨o,ho,_⟩:=T.obj _ _ hst3 b hb
      exact⟨nC b o ho,fun x c e=>f6 x c (clS x c e)⟩
    · exact Nat.le_trans I.ok.bsz I3.sz
    · obtain⟨f0,f1,f4,f5,f6,f7⟩:=f3 b hb
      rcases f5 with z | z
      · exact I.ok.noex b o e z
      · have:=(I.ok.bs b o e).1
        exact absurd (Nat.lt_of_lt_of_le (Heap.lt_size this) z) (Nat.lt_irrefl _)
    · obtain⟨f0,f1,f4,f5,f6,f7⟩:=f3 b hb
      rcases List.mem_cons.mp (I3.stkSub b z) with z | z
      · exact f1 z
      · exact f4 z
  have I4:aw (aP X scope cp tgN C s₃ (aY H2 D (.lst [])) fp) [] (eQ cp tgN.length σ) (aY H2 D (.lst [])) {s₃ with heap:=h₁,toks:=s₃.toks+([]:List (Str × Value)).length}:=by
    refine⟨ok',rfl,I3.bare,Un.kept old,⟨_,hns₁,fun i x v e1 e2 e3=>?_⟩,fun x c e=>?_,hHC,fun x c e=>I3.freeC x c (clS x c e),fun p hp=>by simp [aP] at hp,I3.hok.kept old,by simp [eQ,aP]⟩
    · have hlt:i < cp.length:=by
        by_cases q:i < cp.length
        · exact q
        · exfalso
          unfold eQ at e2
          rw [List.getElem?_append_right (by simp;lia)] at e2
          rw [List.getElem?_replicate] at e2
          split at e2<;>cases e2
      have e1':(cp.map (·.2))[i]?=some x:=by
        have e1'':(cp.map (·.2)++tgN)[i]?=some x:=e1
        rwa [List.getElem?_append_left (by simp;exact hlt)] at e1''
      have e2':(cp.map (fun p=>(σ[p.1]?).join))[i]?=some (some v):=by
        unfold eQ at e2
        rwa [List.getElem?_append_left (by simp;exact hlt)] at e2
      rw [List.getElem?_map,List.getElem?_eq_getElem hlt] at e1' e2'
      have ex:(cp[i]).2=x:=by simpa using e1'
      have ev:(σ[(cp[i]).1]?).join=some v:=by simpa using e2'
      have ev':σ[(cp[i]).1]?=some (some v):=by
        cases q:σ[(cp[i]).1]? with
        | none=>rw [q] at ev;cases ev
        | some z=>rw [q] at ev;simp only [Option.join_some] at ev;rw [ev]
      have hN:=hcp cp[i] (List.getElem_mem hlt)
      rw [←hN0] at hN
      obtain⟨hcl,hcf⟩:=hcq cp[i] (List.getElem_mem hlt)
      rw [ex] at hN hcl hcf
      obtain⟨m,hn,hl⟩:=I3.loc
      obtain⟨u,r,l⟩:=hl _ x v hN ev' (.inr (.inl (by rw [hsc];exact hcl)))
      refine⟨u,r,.inr ?_⟩
      rcases l with ⟨k1,_⟩ | ⟨k1,c,hcc,o,ho,hd⟩
      · rw [hkind,hcl] at k1;cases k1
      · have e3':(relabel scope X.env).names.lookup x=some .local∨(relabel scope X.env).names.lookup x=some .cell∨(relabel scope X.env).names.lookup x=some .free:=e3
        have nl:(relabel scope X.env).names.lookup x=some .cell∨(relabel scope X.env).names.lookup x=some .free:=by
          rcases e3' with z | z | z
          · exact absurd z (dG hcf)
          · exact .inl z
          · exact .inr z
        obtain⟨c',hc'⟩:=clH x (cS hcell nl)
        have:=clS x c' hc'
        rw [hcc] at this;cases this
        exact⟨nl,c,hc',o,old c o ho,hd⟩
    · obtain⟨v,o,ho,hd⟩:=I3.cell x c (clS x c e)
      exact⟨v,o,old c o ho,hd⟩
  have hst4:tn 0 h₁:=T.keep _ _ _ hst3 fun b _ o e=>old b o e
  have loop:codeAny (model X.prog X.w) X.A (.compLoop (.ListComp elt [⟨tg,iter,ifs,0⟩] scope pos) 0 (.ref it) (.ref D) (compEnvC scope (fq X.env scope.names []) C X.env))
      (compPost (model X.prog X.w) X.A X.xe none (EP X pins σ Q) (.ref D) C) {s₃ with heap:=h₁,toks:=s₃.toks+([]:List (Str × Value)).length}:=by
    refine ij (fun n s'=>∃i σ' H',aw (aP X scope cp tgN C s₃ (aY H2 D (.lst [])) fp) [] σ' H' s'∧tn i s'.heap∧(∀b∈fp,H' b=none)∧W i n σ' H') ?_ (n0:=m0) ⟨0,_,_,I4,hst4,fun b hb=>(f3 b hb).1,w0⟩
    rintro n s5 ⟨i,σ5,H5,I5,st5,fr5,w5⟩
    have stat:∀{H':Hp},(∀b∈fp,H' b=none)→∀b∈fp,fj (aP X scope cp tgN C s₃ (aY H2 D (.lst [])) fp) [] H' b:=fun hn b hb=>
      ⟨hn b hb,(ok'.exf b hb).1,ok'.exfs b hb,.inl hb,(ok'.exf b hb).2,fun p hp=>by simp [aP] at hp⟩
    rcases turn i n σ5 H5 w5 with ⟨stop,qn⟩ | ⟨go,N,hN,step⟩
    · refine bH (T.done (aP X scope cp tgN C s₃ (aY H2 D (.lst [])) fp) rfl rfl rfl hc i [] s5 σ5 H5 (fun _ _=>False) I5 (stat fr5) st5 stop) fun r s6 ⟨hr,I6⟩=>?_
      subst hr
      refine⟨fun _=>?_,fun v z=>by cases z⟩
      obtain⟨m,hn,_⟩:=I6.loc
      refine⟨m,hn,fun h' sb=>⟨.ref D,H5,?_,rfl,qn⟩⟩
      have ub:=I6.base
      have kp:∀b u,b≠C→s6.heap.get? b=some u→h'.get? b=some u:=fun b u ne e=>sb.extBut b u ne e
      have nit:∀b u,H5 b=some u→b≠C:=fun b u e z=>by
        have:=I6.free
        rw [z] at e
        rw [show H5 C=none from this] at e;cases e
      refine I3.call' (s':={s6 with heap:=h'}) (ch:=fp) I6.os ⟨fun b o e n hb hx=>kp b o (nC b o e) (ub.keep b o e n hb hx),fun b o e n hb hx=>?_,ub.free,fun b o e hx=>?_,ub.tups,ub.frzs,ub.tbls⟩ (fun b u e=>?_) I6.bare (fun b hb=>?_)
      · obtain⟨sl,q⟩:=ub.slot b o e n hb hx
        exact⟨sl,kp b _ (nC b o e) q⟩
      · obtain⟨o',q⟩:=ub.there b o e hx
        exact⟨o',kp b _ (nC b o e) q⟩
      · refine(I6.hok b u e).stay (fun c v hc q=>kp c v ?_ q) (fun _ q=>q) fun _ _ q=>q
        rcases hc with z | z
        · rw [z];exact nit b u e
        · exact nit c _ z
      · obtain⟨f0,f1,f4,f5,f6,f7⟩:=f3 b hb
        exact⟨f5,f1,f6,f7⟩
    · refine bH (T.item (aP X scope cp tgN C s₃ (aY H2 D (.lst [])) fp) rfl rfl rfl hc i [] s5 σ5 H5 (fun _ _=>False) I5 (stat fr5) st5 go) fun r s6 ⟨u,hr,h6⟩=>?_
      subst hr
      refine⟨fun z=>(by cases z),fun v z=>?_⟩
      cases z
      refine bH h6 fun _ s7 ⟨x,H7,I7,r7,y7,st7,fr7⟩=>?_
      have I7':=I7.pinned (stat fr7) (T.obj _ _ st7)
      have again:∀{σ8:L2.St} {H8:Hp} {s8:Shared},aw (aP X scope cp tgN C s₃ (aY H2 D (.lst [])) fp) ([]++ja fp s7.heap) σ8 H8 s8→N σ8 H8→∃m,m < n∧∃i σ' H',aw (aP X scope cp tgN C s₃ (aY H2 D (.lst [])) fp) [] σ' H' s8∧tn i s8.heap∧(∀b∈fp,H' b=none)∧W i m σ' H':=fun{σ8 H8 s8} I8 n8=>by
        obtain⟨m',hm,w8⟩:=hN σ8 H8 n8
        refine⟨m',hm,i+1,σ8,H8,I8.unpinned,T.keep _ _ _ st7 fun b hb o e=>(I8.pin (b,o) (List.mem_append_right _ (List.mem_append_right _ (dg hb e)))).1,fun b hb=>?_,w8⟩
        obtain⟨o,e,d⟩:=T.obj _ _ st7 b hb
        exact(I8.pin (b,o) (List.mem_append_right _ (List.mem_append_right _ (dg hb e)))).2.1
      refine bH (hg C s₃ (aY H2 D (.lst [])) fp _ s7 σ5 H7 x u _ I7' r7 (step x H7 y7)) fun _ s8 ⟨σ8,H8,I8,q8⟩=>?_
      refine bH (ht C s₃ (aY H2 D (.lst [])) fp _ s8 σ8 H8 _ I8 q8) fun ok s9 ⟨H9,I9,q9⟩=>?_
      cases ok with
      | false=>
        rw [if_neg Bool.false_ne_true] at q9 ⊢
        exact again I9 q9
      | true=>
        rw [if_pos rfl] at q9 ⊢
        refine bH (he C s₃ (aY H2 D (.lst [])) fp _ s9 σ8 H9 _ I9 q9) fun v s10 ⟨xv,H10,I10,r10,ys,hl,hz,n10⟩=>?_
        refine bH (i8 _ s10 σ8 H10 (.ref D) [xv] (.ref D) [v] (fun _ H=>N σ8 H) I10 rfl (.cons r10 .nil) ⟨D,ys,xv,rfl,rfl,hl,hz,n10⟩) fun _ s11 ⟨_,H11,I11,_,q11⟩=>?_
        exact again I11 q11
  exact codeAny_compStart_list loop (T.self X.A 0 _ _ _ hst4 loop)
end L2
namespace L2
open PySem PySem.Spec PyProof.Rows
section
variable{X:Cx}
def tZ(K:PySem.W.Frag):R2:=fun x y H Q=>∃a b xs ys,x=.ref a∧y=.ref b∧bK K H a xs∧bK K H b ys∧xs.length+ys.length≤sizeLine∧∀p H',av H H'→bK K H' p (xs++ys)→Q (.ref p) H'
theorem vF:dC X (binaryOp .Add) (tZ X.K):=by
  intro pins s σ H x y v u Q I rx ry h
  obtain⟨a,b,xs,ys,rfl,rfl,ha,hb,hz,q⟩:=h
  cases rx;cases ry
  by_cases hx:xs=[]
  · obtain⟨i1,r1,p1,_⟩:=I.tuple ha
    obtain⟨i2,r2,p2,_⟩:=I.tuple hb
    obtain⟨m,F⟩:=I.fr
    have e1:i1=[]:=by subst hx;cases r1;rfl
    refine add_tuples F (sD (g:=X.base)) p1 p2 (fun _=>?_) (fun z1 _=>absurd e1 z1) (fun z1 _ _ _ _=>absurd e1 z1) (by rw [←r1.length,←r2.length];exact hz)
    exact⟨.ref b,H,I,rfl,q b H (av.refl H) (by rw [hx];exact hb)⟩
  · exact vG pins s σ H (.ref a) (.ref b) _ _ Q I rfl rfl ⟨a,b,xs,ys,rfl,rfl,ha,hb,hx,hz,fun z=>q a H (av.refl H) (by rw [z,List.append_nil];exact ha),fun _ p hp=>q p _ (av.new hp) (bK.of ar)⟩
theorem fZ{x:V}{us:List Value}(r:aI [x] us):∃u,us=[u]∧bh x u:=by
  cases r with
  | cons p p'=>cases p';exact⟨_,rfl,p⟩
end
end L2
namespace L2
open PySem PySem.Spec PyProof.Rows
section
variable{X:Cx}
end
theorem qL{e:Expr}{es:List Expr}{env:Env}(h:PySem.W.isStarred e=false):starEach (e::es) env=(false,eval e env)::starEach es env:=by
  cases e<;>first | rfl | cases h
theorem C9{X:Cx}{e:Expr}{es:List Expr}{te:TE}{t:TA}(ha:PE X e te)(hr:PA X es t)(h:PySem.W.isStarred e=false:=by rfl):PA X (e::es) (nD te t):=gE ha hr (qL h)
def pS:List (Int × Int)→TA
  | []=>z9
  | p::r=>nD (Ce (nD (tC (.int p.1)) (nD (tC (.int p.2)) z9))) (pS r)
@[irreducible] def Dl(ps:List (Int × Int)):TA:=pS ps
structure fx where
  one:Int
  other:Int
  top:Int
  bot:Int
  worth:Int
structure bv where
  things:Int
  ties:List fx
  pat:List Int
  asks:Int
structure fx.Ok (n:Int) (t:fx):Prop where
  o0:0≤t.one
  o1:t.one < t.other
  o2:t.other < n
  c0:0≤t.top
  c1:t.top≤t.bot
  b0:1≤t.bot
  b1:t.bot≤100
  w0:0≤t.worth
  w1:t.worth≤1000
  cop:Int.gcd t.top t.bot=1
structure bv.Ok (w:bv):Prop where
  t0:0≤w.things
  t1:w.things≤12
  ties:∀t∈w.ties,t.Ok w.things
  len:w.ties.length≤16
  pl:(w.pat.length:Int)=w.things
  pat:∀p∈w.pat,0≤p∧p≤20
  a0:0≤w.asks
  a1:w.asks≤40
def AI(K:PySem.W.Frag)(H:Hp)(v:V)(t:fx):Prop:=∃p q,v=.ref p∧bK K H p [.int t.one,.int t.other,.ref q,.int t.worth]∧bK K H q [.int t.top,.int t.bot]
inductive lB (K:PySem.W.Frag) (H:Hp):List V→List fx→Prop
  | nil:lB K H [] []
  | cons {v vs t ts}:AI K H v t→lB K H vs ts→lB K H (v::vs) (t::ts)
structure Dy (K:PySem.W.Frag) (H:Hp) (v:V) (w:bv):Prop where
  ex:∃a b c ts,v=.ref a∧bK K H a [.int w.things,.ref b,.ref c,.int w.asks]∧bK K H b ts∧lB K H ts w.ties∧bK K H c (w.pat.map V.int)
section
variable{K:PySem.W.Frag}{H H':Hp}
end
theorem om{t b:Int}(hb:0 < b)(h0:0≤t)(h1:t≤b)(h2:b≤100):0≤(dF t b).1∧(dF t b).1≤(dF t b).2∧1≤(dF t b).2∧(dF t b).2≤100:=by
  obtain⟨d,e1,e2,e3,e4,e5⟩:=k8 (t:=t) (b:=b) (by lia)
  generalize (dF t b).1=x at*
  generalize (dF t b).2=y at*
  have dp:0 < d:=by
    rcases Int.lt_or_gt_of_ne e2 with z | z
    · exfalso
      have:y*d < 0:=Int.mul_neg_of_pos_of_neg e5 z
      lia
    · exact z
  have x0:0≤x:=by
    rcases Int.lt_or_le x 0 with z | z
    · have:x*d < 0:=Int.mul_neg_of_neg_of_pos z dp
      lia
    · exact z
  have xy:x≤y:=by
    rcases Int.lt_or_le y x with z | z
    · have:y*d < x*d:=Int.mul_lt_mul_of_pos_right z dp
      lia
    · exact z
  have yb:y≤y*d:=by
    have:=Int.mul_le_mul_of_nonneg_left (show(1:Int)≤d by lia) (show 0≤y by lia)
    lia
  exact⟨x0,xy,by lia,by lia⟩
end L2
namespace L2
open PySem PySem.Spec PyProof.Rows
inductive jq {α β:Type} (R:α→β→Prop):List α→List β→Prop
  | nil:jq R [] []
  | cons {a b as bs}:R a b→jq R as bs→jq R (a::as) (b::bs)
namespace jq
variable{α β:Type}{R S:α→β→Prop}
theorem mono(h:∀a b,R a b→S a b):∀{as:List α} {bs:List β},jq R as bs→jq S as bs
  | _,_,.nil=>.nil
  | _,_,.cons x r=>.cons (h _ _ x) (mono h r)
theorem len:∀{as:List α} {bs:List β},jq R as bs→as.length=bs.length
  | _,_,.nil=>rfl
  | _,_,.cons _ r=>by simp [len r]
theorem snoc{a:α}{b:β}(h:R a b):∀{as:List α} {bs:List β},jq R as bs→jq R (as++[a]) (bs++[b])
  | _,_,.nil=>.cons h .nil
  | _,_,.cons x r=>.cons x (snoc h r)
theorem get:∀{as:List α} {bs:List β} {i:Nat} {b:β},jq R as bs→bs[i]?=some b→∃a,as[i]?=some a∧R a b
  | _,_,_,_,.nil,e=>by simp at e
  | _,_,0,_,.cons x _,e=>by simp at e;subst e;exact⟨_,rfl,x⟩
  | _,_,i+1,b,.cons _ r,e=>by
    obtain⟨v,h1,h2⟩:=get (i:=i) (b:=b) r (by simpa using e)
    exact⟨v,by simpa using h1,h2⟩
end jq
section
variable{K:PySem.W.Frag}{a l:Addr}{xs:List V}{g:TG}{tc:TT}{te:TE}{Q:VK}{σ:L2.St}{H:Hp}{α β:Type}{us:List α}{cp:List (Nat × Str)}{nT:Nat}
def Cq(a7:Hp→V→β→Prop)(SI:L2.St→Prop)(us:List α)(f:α→Option β)(H:Hp)(l:Addr)(i:Nat)(σ:L2.St)(H':Hp):Prop:=SI σ∧av H H'∧∃vs,H' l=some (.lst vs)∧vs.length≤i∧jq (a7 H') vs ((us.take i).filterMap f)
end
def ny(ns:List Int):List Int:=ns.mergeSort
theorem ke(ns:List Int):(ny ns).Perm ns:=List.mergeSort_perm ns _
theorem AA{ns:List Int}{x:Int}:x∈ny ns↔ x∈ns:=(ke ns).mem_iff
theorem Az(ns:List Int):(ny ns).length=ns.length:=(ke ns).length_eq
section
variable{X:Cx}{K:PySem.W.Frag}{pos:Pos}
theorem vS{es:List Expr}{k:Nat}{t:uI}{n:Nat}(hK:X.K=K)(hc:X.calm=true)(h:qX X es t)(hn:(assignEach es X.env).length=n:=by rfl)(hst:(assignEach es X.env).findIdx? (·.1)=none:=by rfl):PG X (.Tuple es k pos) (vb K n t):=hK ▸ ze hc h hn hst
theorem vV{tg l:Expr}{tl:TE}(h:X.K=K)(hl:PE X l tl):PI X tg l (Bd K tl):=h ▸ zg hl
theorem sY{tg l:Expr}{tl:TE}(h:X.K=K)(hl:PE X l tl):PI X tg l (xD K tl):=h ▸ vU hl
end
instance:Inhabited fx:=⟨⟨0,1,1,1,0⟩⟩
def bv.tie(W:bv)(k:Int):fx:=W.ties.getD k.toNat default
def bv.has(W:bv)(k thing:Int):Bool:=(W.tie k).one==thing || (W.tie k).other==thing
def bv.many(W:bv)(asked:List Int)(thing:Int):Int:=((asked.filter fun k=>W.has k thing).length:Nat)
def bv.bears(W:bv)(asked taken:List Int)(thing:Int):Bool:= !taken.contains thing&&decide (W.many asked thing < W.pat.getD thing.toNat 0)
def bv.may(W:bv)(asked taken:List Int)(k:Int):Bool:= !(asked.contains k || decide (W.asks≤(asked.length:Int)))&&(W.bears asked taken (W.tie k).one&&W.bears asked taken (W.tie k).other)
def bv.askd(asked:List Int)(k:Int):List Int:=ny (asked++[k])
def bv.took(W:bv)(taken:List Int)(k:Int)(truth:Bool):List Int:=if truth then ny (taken++[(W.tie k).one,(W.tie k).other]) else taken
def bv.rng(W:bv):List Int:=(List.range W.ties.length).map Int.ofNat
def rd(W:bv)(k:Int):Prop:=0≤k∧k < (W.ties.length:Int)
theorem rd.get{W:bv}{k:Int}(h:rd W k):W.ties[k.toNat]?=some (W.tie k):=by
  have hk:k.toNat < W.ties.length:=by have:=h.1;have:=h.2;lia
  unfold bv.tie
  rw [List.getD_eq_getElem?_getD,List.getElem?_eq_getElem hk];rfl
theorem rd.ok{W:bv}{k:Int}(h:rd W k)(o:W.Ok):(W.tie k).Ok W.things:=o.ties _ (List.mem_of_getElem? h.get)
theorem CA{W:bv}{k:Int}:k∈W.rng↔ rd W k:=by
  unfold bv.rng rd
  rw [List.mem_map]
  constructor
  · rintro⟨n,hn,rfl⟩
    have:=List.mem_range.mp hn
    exact⟨Int.natCast_nonneg n,by simp;lia⟩
  · rintro⟨h0,h1⟩
    exact⟨k.toNat,List.mem_range.mpr (by lia),by simp;lia⟩
def xW(K:PySem.W.Frag)(H:Hp)(v:V)(asked taken:List Int):Prop:=∃a b c,v=.ref a∧bK K H a [.ref b,.ref c]∧bK K H b (asked.map V.int)∧bK K H c (taken.map V.int)
theorem xW.ts{K:PySem.W.Frag}{H H':Hp}(s:jg H H'){v:V}{asked taken:List Int}(h:xW K H v asked taken):xW K H' v asked taken:=by
  obtain⟨a,b,c,e,h1,h2,h3⟩:=h
  exact⟨a,b,c,e,s.tup h1,s.tup h2,s.tup h3⟩
section
variable{K:PySem.W.Frag}{σ:L2.St}{H:Hp}{Q:VK}{i j:Nat}{vW:V}{W:bv}{k:Int}
end
def small(k:Int):Prop:= -1000000≤k∧k≤1000000
def Dk(n dep:Nat)(d:PyData):Prop:=d.showable=true∧jY d=true∧L2.cnt d≤n∧d.depth≤dep
theorem Dk.mono{n m dep e:Nat}{d:PyData}(h:Dk n dep d)(h1:n≤m)(h2:dep≤e):Dk m e d:=⟨h.1,h.2.1,Nat.le_trans h.2.2.1 h1,Nat.le_trans h.2.2.2 h2⟩
theorem Dk.int{k:Int}(h:small k):Dk 1 2 (.int k):=by
  refine⟨?_,rfl,Nat.le_refl _,by simp [PyData.depth]⟩
  show decide (k.natAbs.log2 < 1920)=true
  rw [decide_eq_true_eq]
  exact Nat.lt_trans ((show Bt 64 k by have:=h.1;have:=h.2;unfold Bt;lia).log (by decide)) (by decide)
theorem Dk.bool(b:Bool):Dk 1 2 (.bool b):=⟨rfl,rfl,Nat.le_refl _,by simp [PyData.depth]⟩
theorem Dk.none:Dk 1 2 .none:=⟨rfl,rfl,Nat.le_refl _,by simp [PyData.depth]⟩
theorem Dk.all{n dep:Nat}:∀{ds:List PyData},(∀d∈ds,Dk n dep d)→PyData.showableAll ds=true∧eN ds=true∧gN ds≤ds.length*n∧PyData.depthAll ds≤dep
  | [],_=>⟨rfl,rfl,by simp [gN],by simp [PyData.depthAll]⟩
  | d::r,h=>by
    obtain⟨a1,a2,a3,a4⟩:=h d (by simp)
    obtain⟨b1,b2,b3,b4⟩:=Dk.all (ds:=r) fun x hx=>h x (by simp [hx])
    refine⟨?_,?_,?_,?_⟩
    · simp only [PyData.showableAll,a1,b1,Bool.and_self]
    · simp only [eN,a2,b2,Bool.and_self]
    · simp only [gN,List.length_cons,Nat.succ_mul]
      lia
    · simp only [PyData.depthAll];lia
theorem Dk.tup{n dep m:Nat}{ds:List PyData}(h:∀d∈ds,Dk n dep d)(hl:ds.length≤m):Dk (1+m*n) (dep+2) (.tuple ds):=by
  obtain⟨b1,b2,b3,b4⟩:=Dk.all h
  refine⟨b1,b2,?_,?_⟩
  · simp only [L2.cnt]
    have:=Nat.mul_le_mul_right n hl
    lia
  · simp only [PyData.depth];lia
theorem Dk.ok{n dep:Nat}{d:PyData}(h:Dk n dep d)(h1:n≤8000)(h2:dep≤60):d.showable=true∧d.depth≤60∧d.shown.length≤sizeLine:=by
  have:=lj h.2.1 h.1
  have sl:sizeLine=16777216:=sizeLine_eq
  have:=h.2.2.1
  exact⟨h.1,Nat.le_trans h.2.2.2 h2,by lia⟩
theorem Dk.ints{ns:List Int}{m:Nat}(hl:ns.length≤m)(h:∀r∈ns,small r):Dk (1+m) 4 (.tuple (ns.map .int)):=by
  have:=Dk.tup (n:=1) (dep:=2) (m:=m) (ds:=ns.map PyData.int) (fun d hd=>by
    obtain⟨x,hx,rfl⟩:=List.mem_map.mp hd
    exact Dk.int (h x hx)) (by rw [List.length_map];exact hl)
  simpa using this
section
variable{K:PySem.W.Frag}{H:Hp}
theorem Dk.bools{ns:List Bool}{m:Nat}(hl:ns.length≤m):Dk (1+m) 4 (.tuple (ns.map .bool)):=by
  have:=Dk.tup (n:=1) (dep:=2) (m:=m) (ds:=ns.map PyData.bool) (fun d hd=>by
    obtain⟨x,hx,rfl⟩:=List.mem_map.mp hd
    exact Dk.bool x) (by rw [List.length_map];exact hl)
  simpa using this
def aG(t:fx):PyData:=.tuple [.int t.one,.int t.other,.tuple [.int t.top,.int t.bot],.int t.worth]
def a9(W:bv):PyData:=.tuple [.int W.things,.tuple (W.ties.map aG),.tuple (W.pat.map .int),.int W.asks]
def Ed(asked taken:List Int):PyData:=.tuple [.tuple (asked.map .int),.tuple (taken.map .int)]
end
end L2
namespace L2
open PySem PySem.Spec PyProof.Rows
theorem nW:∀{bs:List Bool} {us:List Value} {i:Nat} {v:Value},aI (bs.map V.bl) us→us[i]?=some v→∃b,bs[i]?=some b∧v=.bool b
  | [],us,i,v,r,e=>by cases r;simp at e
  | b::bs,us,i,v,r,e=>by
    cases r with
    | cons p q=>
      cases i with
      | zero=>simp at e;subst e;cases p;exact⟨b,rfl,rfl⟩
      | succ i=>
        obtain⟨c,h1,h2⟩:=nW (bs:=bs) (i:=i) (v:=v) q (by simpa using e)
        exact⟨c,by simpa using h1,h2⟩
theorem ww(bs:List Bool):((List.range bs.length).all fun i=>(bs[i]?).getD true)=bs.all id:=by
  rw [Bool.eq_iff_iff,List.all_eq_true,List.all_eq_true]
  constructor
  · intro h b hb
    obtain⟨i,hi,rfl⟩:=List.getElem_of_mem hb
    have:=h i (List.mem_range.mpr hi)
    rw [List.getElem?_eq_getElem hi] at this
    exact this
  · intro h i hi
    have hi':=List.mem_range.mp hi
    rw [List.getElem?_eq_getElem hi']
    exact h _ (List.getElem_mem hi')
theorem wx(bs:List Bool):((List.range bs.length).any fun i=>(bs[i]?).getD false)=bs.any id:=by
  rw [Bool.eq_iff_iff,List.any_eq_true,List.any_eq_true]
  constructor
  · rintro⟨i,hi,e⟩
    have hi':=List.mem_range.mp hi
    rw [List.getElem?_eq_getElem hi'] at e
    exact⟨_,List.getElem_mem hi',e⟩
  · rintro⟨b,hb,e⟩
    obtain⟨i,hi,rfl⟩:=List.getElem_of_mem hb
    refine⟨i,List.mem_range.mpr hi,?_⟩
    rw [List.getElem?_eq_getElem hi]
    exact e
section
variable{X:Cx}
theorem rB{k:Nat}{K:PySem.W.Frag}(hr:b_ k X.A)(hK:X.K=K):cW X (.builtin "all") (fun xs H Q=>∃(l:Addr) (bs:List Bool),xs=[.ref l]∧ce K H l (bs.map V.bl)∧Q (.bl (bs.all id)) H):=by
  intro pins s σ H xs us Q I r h
  subst hK
  obtain⟨l,bs,rfl,hs,q⟩:=h
  obtain⟨u,rfl,ru⟩:=fZ r
  cases ru
  obtain⟨its,rv,p,hz⟩:=I.list hs
  have hl:=p.isList
  have lt:l < s.heap.objs.size:=by obtain⟨_,e,_⟩:=hl;exact Heap.lt_size e
  refine PySem.call_all_walk (wpAny_pyIter_list hl ?_)
  refine⟨s.heap.objs.size,[s.heap.objs.size,l],[s.heap.objs.size],its.toArray.size,_,_,fun i=>(bs[i]?).getD true,rfl,Walks.list (A:=X.A.in1) hr.hd _ l (Nat.ne_of_lt lt) its.toArray,⟨⟨_,Heap.get?_push_size _ rfl,rfl,rfl⟩,hl.push _⟩,fun i v s' Q' E' hP hQ=>?_,fun h' tk hk=>?_⟩
  · obtain⟨b,e,rfl⟩:=nW rv (by simpa using hP)
    simp only [e,Option.getD_some] at hQ
    exact wpAny_truthy_bool hQ
  · have e:its.toArray.size=bs.length:=by have:=rv.length;rw [List.length_map] at this;simpa using this.symm
    rw [e,ww]
    refine⟨.bl (bs.all id),H,I.kept fun b x e=>hk b x (fun hm=>?_) (Heap.get?_push_of_some _ e),rfl,q⟩
    rw [List.mem_singleton.mp hm] at e
    exact Nat.lt_irrefl _ (Heap.lt_size e)
theorem rC{k:Nat}{K:PySem.W.Frag}(hr:b_ k X.A)(hK:X.K=K):cW X (.builtin "any") (fun xs H Q=>∃(l:Addr) (bs:List Bool),xs=[.ref l]∧ce K H l (bs.map V.bl)∧Q (.bl (bs.any id)) H):=by
  intro pins s σ H xs us Q I r h
  subst hK
  obtain⟨l,bs,rfl,hs,q⟩:=h
  obtain⟨u,rfl,ru⟩:=fZ r
  cases ru
  obtain⟨its,rv,p,hz⟩:=I.list hs
  have hl:=p.isList
  have lt:l < s.heap.objs.size:=by obtain⟨_,e,_⟩:=hl;exact Heap.lt_size e
  refine PySem.call_any_walk (wpAny_pyIter_list hl ?_)
  refine⟨s.heap.objs.size,[s.heap.objs.size,l],[s.heap.objs.size],its.toArray.size,_,_,fun i=>(bs[i]?).getD false,rfl,Walks.list (A:=X.A.in1) hr.hd _ l (Nat.ne_of_lt lt) its.toArray,⟨⟨_,Heap.get?_push_size _ rfl,rfl,rfl⟩,hl.push _⟩,fun i v s' Q' E' hP hQ=>?_,fun h' tk hk=>?_⟩
  · obtain⟨b,e,rfl⟩:=nW rv (by simpa using hP)
    simp only [e,Option.getD_some] at hQ
    exact wpAny_truthy_bool hQ
  · have e:its.toArray.size=bs.length:=by have:=rv.length;rw [List.length_map] at this;simpa using this.symm
    rw [e,wx]
    refine⟨.bl (bs.any id),H,I.kept fun b x e=>hk b x (fun hm=>?_) (Heap.get?_push_of_some _ e),rfl,q⟩
    rw [List.mem_singleton.mp hm] at e
    exact Nat.lt_irrefl _ (Heap.lt_size e)
end
end L2
namespace L2
theorem ro:PySem.bootBuiltins "all"=some (.builtin "all"):=by decide+kernel
theorem rp:PySem.bootBuiltins "any"=some (.builtin "any"):=by decide+kernel
end L2
namespace L2
open PySem PySem.Spec PyProof.Rows
section
variable{prog:Program}{w:World}{A:Around}{E:Value→Shared→Prop}{s:Shared}
theorem uB{it t:Addr}{i:Nat}{ys}{x:Value}{Q:Value→Shared→Prop}(hi:s.heap.IsTupleIter it t i)(ht:s.heap.IsTuple t ys)(hx:ys[i]?=some x)
    (q:∀g,g.IsTupleIter it t (i+1)→Heap.SameBut it s.heap g→Q x {s with heap:=g}):wpAny (model prog w) A (Builtin.SmallTypes.nextOf (.ref it)) Q E s:=by
  obtain⟨o,ho,hc,hd⟩:=id hi;obtain⟨p,hp,_,n,hpd⟩:=ht;unfold Builtin.SmallTypes.nextOf
  refine wpAny_bind (wpAny_callSpecial?_slot (name:=Str.ofString "__next__") hi.typeIs F.slot_tuple_iterator_next (wpAny_call_entry F.slot_tuple_iterator_next hi.typeIs F.entry_tuple_iterator_next ?_ (F.args_tuple_iterator_next_1 _)))
  show wpAny _ _ (field (.ref it) 0 >>= _) _ _ s;refine wpAny_bind (wpAny_field ho hd (x:=.ref t) rfl ?_)
  show wpAny _ _ (if (Value.ref t==Value.none)=true then _ else _) _ _ s;rw [if_neg (show ¬((Value.ref t==Value.none)=true) from Bool.false_ne_true)]
  show wpAny _ _ (field (.ref it) 1 >>= _) _ _ s;refine wpAny_bind (wpAny_field ho hd (x:=.int i 0) rfl ?_)
  show wpAny _ _ (seqItems? (.ref t) >>= _) _ _ s;refine wpAny_bind (wpAny_seqItems hp hpd ?_)
  simp only [Int.toNat_natCast,hx];refine wpAny_bind (wpAny_setField ho hd (by simp) (wpAny_pure ⟨x,rfl,wpAny_pure (q _ ?_ (Heap.SameBut.update ..))⟩))
  refine⟨_,Heap.get?_update_self _ ho (Obj.isFreed_of_fields (Obj.data_mapFields hd _)),(Obj.cls_mapFields ..).trans hc,?_⟩;rw [Obj.data_mapFields hd];simp [rawInt]
theorem uA{it t:Addr}{i:Nat}{ys}{Q:Value→Shared→Prop}(hh:A.handled=none)(hi:s.heap.IsTupleIter it t i)(ht:s.heap.IsTuple t ys)(hx:ys[i]?=none)
    (q:∀g e,Heap.ExtBut it s.heap g→(∃o,g.get? e=some o∧o.cls=.type "StopIteration")→E (.ref e) {s with heap:=g}):wpAny (model prog w) A (Builtin.SmallTypes.nextOf (.ref it)) Q E s:=by
  obtain⟨o,ho,hc,hd⟩:=id hi;obtain⟨p,hp,_,n,hpd⟩:=ht;unfold Builtin.SmallTypes.nextOf
  refine wpAny_bind (wpAny_callSpecial?_slot (name:=Str.ofString "__next__") hi.typeIs F.slot_tuple_iterator_next (wpAny_call_entry F.slot_tuple_iterator_next hi.typeIs F.entry_tuple_iterator_next ?_ (F.args_tuple_iterator_next_1 _)))
  show wpAny _ _ (field (.ref it) 0 >>= _) _ _ s;refine wpAny_bind (wpAny_field ho hd (x:=.ref t) rfl ?_)
  show wpAny _ _ (if (Value.ref t==Value.none)=true then _ else _) _ _ s;rw [if_neg (show ¬((Value.ref t==Value.none)=true) from Bool.false_ne_true)]
  show wpAny _ _ (field (.ref it) 1 >>= _) _ _ s;refine wpAny_bind (wpAny_field ho hd (x:=.int i 0) rfl ?_)
  show wpAny _ _ (seqItems? (.ref t) >>= _) _ _ s;refine wpAny_bind (wpAny_seqItems hp hpd ?_)
  simp only [Int.toNat_natCast,hx];refine wpAny_bind (wpAny_rule (wpAny_bind (wpAny_setField ho hd (by simp) ?_)))
  show wpAny _ _ (newExc (.type "StopIteration") [] >>= _) _ _ _;refine wpAny_bind ?_;simp only [newExc,newTuple]
  refine wpAny_bind (wpAny_newObj_type ?_ (by size_fits));refine wpAny_bind (m:=firstArgMember _ _) (wpAny_of_eq (a:=Value.none) (by first | rfl | (simp only [firstArgMember];rfl)) ?_)
  refine wpAny_newObj_type ?_ (by size_fits);simp only [raiseNew];refine wpAny_bind (wpAny_handled ?_);first | rw [show A.in1.handled=none from hh] | rw [hh]
  refine wpAny_bind (wpAny_pure (wpAny_throw ?_));exact q _ _ (((Heap.SameBut.update ..).extBut.push _).push _) ⟨_,Heap.get?_push_size _ rfl,rfl⟩
end
structure Sc (prog:Program) (w:World) (it l:Addr) (St:Nat→Heap→Prop) (Sq:Heap→Array Value→Prop):Prop where
  stay:∀{k h h'},St k h→(∀o,h.get? it=some o→h'.get? it=some o)→St k h'
  live:∀{k h},St k h→∃o,h.get? it=some o∧∀v,o.data≠.cell v
  row:∀{h h' xs},Sq h xs→(∀o,h.get? l=some o→h'.get? l=some o)→Sq h' xs
  next:∀{A:Around} {s:Shared} {E:Value→Shared→Prop} {Q:Value→Shared→Prop} {k:Nat} {xs:Array Value} {x:Value},St k s.heap→Sq s.heap xs→xs[k]?=some x→(∀g,St (k+1) g→Heap.SameBut it s.heap g→Q x {s with heap:=g})→wpAny (model prog w) A (Builtin.SmallTypes.nextOf (.ref it)) Q E s
  last:∀{A:Around} {s:Shared} {E:Value→Shared→Prop} {Q:Value→Shared→Prop} {k:Nat} {xs:Array Value},A.handled=none→St k s.heap→Sq s.heap xs→xs[k]?=none→(∀g e,Heap.ExtBut it s.heap g→(∃o,g.get? e=some o∧o.cls=.type "StopIteration")→E (.ref e) {s with heap:=g})→wpAny (model prog w) A (Builtin.SmallTypes.nextOf (.ref it)) Q E s
theorem gg{prog:Program}{w:World}(it l:Addr):Sc prog w it l (fun k h=>h.IsTupleIter it l k) (fun h xs=>h.IsTuple l xs) where
  stay:=fun st k=>st.at fun o e=>k o e
  live:=fun st=>by
    obtain⟨o,e,c,d⟩:=st
    exact⟨o,e,fun v z=>by rw [d] at z;cases z⟩
  row:=fun q k=>by
    obtain⟨o,e,r⟩:=q
    exact⟨o,k o e,r⟩
  next:=fun st sq hx q=>uB st sq hx q
  last:=fun hh st sq hx q=>uA hh st sq hx q
theorem eD{prog:Program}{w:World}(it l:Addr):Sc prog w it l (fun k h=>h.IsListIter it l k) (fun h xs=>h.IsList l xs) where
  stay:=fun st k=>st.at fun o e=>k o e
  live:=fun st=>by
    obtain⟨o,e,c,d⟩:=st
    exact⟨o,e,fun v z=>by rw [d] at z;cases z⟩
  row:=fun q k=>by
    obtain⟨o,e,r⟩:=q
    exact⟨o,k o e,r⟩
  next:=fun st sq hx q=>wpAny_nextOf_list_item st sq hx q
  last:=fun hh st sq hx q=>wpAny_nextOf_list_end hh st sq hx q
structure ff (z TI TO i1 i2 l1 l2:Addr):Prop where
  a1:TO≠z
  a2:i1≠z
  a3:i2≠z
  a4:TO≠i1
  a5:TO≠i2
  a6:i1≠i2
  b1:l1≠z
  b2:l1≠TO
  b3:l1≠i1
  b4:l1≠i2
  c1:l2≠z
  c2:l2≠TO
  c3:l2≠i1
  c4:l2≠i2
section
variable{prog:Program}{w:World}{A:Around}{E:Value→Shared→Prop}{s:Shared}{z TI TO i1 i2 l1 l2:Addr}{k:Nat}{xs ys:Array Value}{a b:Value}{S1 S2:Nat→Heap→Prop}{R1 R2:Heap→Array Value→Prop}
theorem An{x y:Value}{Q:Value→Shared→Prop}(P1:Sc prog w i1 l1 S1 R1)(P2:Sc prog w i2 l2 S2 R2)(D:ff z TI TO i1 i2 l1 l2)(hz:IsZip s.heap z TI TO .none)(hI:IsPair s.heap TI (.ref i1) (.ref i2))(hO:IsPair s.heap TO a b)(u1:S1 k s.heap)(u2:S2 k s.heap)(r1:R1 s.heap xs)(r2:R2 s.heap ys)(hx:xs[k]?=some x)(hy:ys[k]?=some y)
    (q:∀g,IsZip g z TI TO (rawInt s.heap.objs.size)→IsPair g TO x y→S1 (k+1) g→S2 (k+1) g→IsPair g s.heap.objs.size x y→g.objs.size=s.heap.objs.size+1→(∀c o,c≠z→c≠TO→c≠i1→c≠i2→s.heap.get? c=some o→g.get? c=some o)→Q (.ref s.heap.objs.size) {s with heap:=g}):
    wpAny (model prog w) A (Builtin.«zip.__next__» ⟨[.ref z],[]⟩) (fun f s'=>∃v,f=.done (.ret v)∧Q v s') E s:=by
  show wpAny _ _ (field (.ref z) 2 >>= _) _ _ _;refine wpAny_bind (wpAny_field hz rfl (x:=.bool false) rfl ?_)
  show wpAny _ _ (field (.ref z) 3 >>= _) _ _ _;refine wpAny_bind (wpAny_field hz rfl (x:=.ref TI) rfl ?_);refine wpAny_bind (wpAny_seqItems hI rfl ?_)
  show wpAny _ _ (Builtin.SmallTypes.ownedTupleIsFree (.ref z) >>= _) _ _ _;refine wpAny_bind ?_;unfold Builtin.SmallTypes.ownedTupleIsFree
  refine wpAny_bind (wpAny_field hz rfl (x:=.none) rfl (wpAny_pure ?_));simp only [if_true];refine wpAny_bind (wpAny_rule ?_)
  refine wpAny_bind (wpAny_field hz rfl (x:=.ref TO) rfl ?_);refine wpAny_bind (wpAny_setField_rec hz (by simp) fun g1 z1 e1=>?_)
  replace z1:IsZip g1 z TI TO .ellipsis:=z1;refine wpAny_bind ?_;simp only [List.zipIdx_cons,List.zipIdx_nil,List.forIn_cons,List.forIn_nil]
  refine wpAny_bind (wpAny_bind (wpAny_onRaise ?_));show wpAny _ _ (Builtin.SmallTypes.nextOf (.ref i1) >>= _) _ _ _
  refine wpAny_bind (P1.next (P1.stay u1 fun o e=>e1.extBut _ _ D.a2 e) (P1.row r1 fun o e=>e1.extBut _ _ D.b1 e) hx fun g2 v1 e2=>wpAny_pure ?_)
  have O2:IsPair g2 TO a b:=e2.extBut _ _ D.a4 (e1.extBut _ _ D.a1 hO)
  refine wpAny_bind (wpAny_seqItems O2 rfl ?_);refine wpAny_bind (wpAny_updateSeq_pair O2 fun g3 O3 e3=>?_);replace O3:IsPair g3 TO x b:=O3;refine wpAny_bind (wpAny_letGo (wpAny_pure ?_))
  refine wpAny_bind (wpAny_bind (wpAny_onRaise ?_));show wpAny _ _ (Builtin.SmallTypes.nextOf (.ref i2) >>= _) _ _ _
  have up3:∀c o,c≠z→c≠i1→c≠TO→s.heap.get? c=some o→g3.get? c=some o:=fun c o n1 n2 n3 e=>e3.extBut _ _ n3 (e2.extBut _ _ n2 (e1.extBut _ _ n1 e))
  refine wpAny_bind (P2.next (P2.stay u2 fun o e=>up3 _ _ D.a3 D.a6.symm D.a5.symm e) (P2.row r2 fun o e=>up3 _ _ D.c1 D.c3 D.c2 e) hy fun g4 v2 e4=>wpAny_pure ?_)
  have O4:IsPair g4 TO x b:=e4.extBut _ _ D.a5 O3
  refine wpAny_bind (wpAny_seqItems O4 rfl ?_);refine wpAny_bind (wpAny_updateSeq_pair O4 fun g5 O5 e5=>?_);replace O5:IsPair g5 TO x y:=O5;refine wpAny_bind (wpAny_letGo (wpAny_pure (wpAny_pure ?_)))
  refine wpAny_bind (wpAny_seqItems O5 rfl ?_);refine wpAny_bind (wpAny_newTuple ?_)
  have sz:g5.objs.size=s.heap.objs.size:=by rw [e5.1,e4.1,e3.1,e2.1,e1.1]
  have z5:IsZip g5 z TI TO .ellipsis:=e5.extBut _ _ D.a1.symm (e4.extBut _ _ D.a3.symm (e3.extBut _ _ D.a1.symm (e2.extBut _ _ D.a2.symm z1)))
  have k5:∀c o,c≠z→c≠TO→c≠i1→c≠i2→s.heap.get? c=some o→g5.get? c=some o:=fun c o n1 n2 n3 n4 e=>e5.extBut _ _ n2 (e4.extBut _ _ n4 (up3 c o n1 n3 n2 e))
  have w1:S1 (k+1) g5:=P1.stay v1 fun o e=>e5.extBut _ _ D.a4.symm (e4.extBut _ _ D.a6 (e3.extBut _ _ D.a4.symm e))
  have w2:S2 (k+1) g5:=P2.stay v2 fun o e=>e5.extBut _ _ D.a5.symm e
  have lz:z < g5.objs.size:=Heap.lt_size z5
  show wpAny _ _ (Builtin.SmallTypes.ownedTupleHandOut (.ref z) (.ref g5.objs.size) >>= _) _ _ _;refine wpAny_bind ?_;unfold Builtin.SmallTypes.ownedTupleHandOut
  have z6:IsZip (g5.push {cls:=.type "tuple",data:=.seq #[x,y]}) z TI TO .ellipsis:=Heap.get?_push_of_some _ z5
  refine wpAny_bind (wpAny_setField_rec z6 (by simp) fun g7 z7 e7=>?_);replace z7:IsZip g7 z TI TO (rawInt g5.objs.size):=z7
  refine wpAny_setField_rec z7 (by simp) fun g8 z8 e8=>?_;replace z8:IsZip g8 z TI TO (rawInt g5.objs.size):=z8
  have up:∀c o,c≠z→g5.get? c=some o→g8.get? c=some o:=fun c o n e=>e8.extBut _ _ n (e7.extBut _ _ n (Heap.get?_push_of_some _ e))
  have T8:IsPair g8 g5.objs.size x y:=e8.extBut _ _ (Nat.ne_of_gt lz) (e7.extBut _ _ (Nat.ne_of_gt lz) (Heap.get?_push_size _ rfl))
  have n8:g8.objs.size=g5.objs.size+1:=by rw [e8.1,e7.1,Heap.size_push]
  rw [sz] at z8 T8 n8;refine wpAny_pure ⟨_,rfl,?_⟩;show Q (.ref g5.objs.size) _;rw [sz]
  exact q g8 z8 (up _ _ D.a1 O5) (P1.stay w1 fun o e=>up _ o D.a2 e) (P2.stay w2 fun o e=>up _ o D.a3 e) T8 n8 fun c o n1 n2 n3 n4 e=>up c o n1 (k5 c o n1 n2 n3 n4 e)
theorem wN{Q:Fin→Shared→Prop}(hh:A.handled=none)(P1:Sc prog w i1 l1 S1 R1)(P2:Sc prog w i2 l2 S2 R2)(D:ff z TI TO i1 i2 l1 l2)(hz:IsZip s.heap z TI TO .none)(hI:IsPair s.heap TI (.ref i1) (.ref i2))(hO:IsPair s.heap TO a b)(u1:S1 k s.heap)(u2:S2 k s.heap)(r1:R1 s.heap xs)(r2:R2 s.heap ys)(hn:xs[k]?=none∨ys[k]?=none)
    (q:∀g e,(∀c o,c≠z→c≠TO→c≠i1→c≠i2→s.heap.get? c=some o→g.get? c=some o)→(∃o,g.get? e=some o∧o.cls=.type "StopIteration")→E (.ref e) {s with heap:=g}):
    wpAny (model prog w) A (Builtin.«zip.__next__» ⟨[.ref z],[]⟩) Q E s:=by
  show wpAny _ _ (field (.ref z) 2 >>= _) _ _ _;refine wpAny_bind (wpAny_field hz rfl (x:=.bool false) rfl ?_)
  show wpAny _ _ (field (.ref z) 3 >>= _) _ _ _;refine wpAny_bind (wpAny_field hz rfl (x:=.ref TI) rfl ?_);refine wpAny_bind (wpAny_seqItems hI rfl ?_)
  show wpAny _ _ (Builtin.SmallTypes.ownedTupleIsFree (.ref z) >>= _) _ _ _;refine wpAny_bind ?_;unfold Builtin.SmallTypes.ownedTupleIsFree
  refine wpAny_bind (wpAny_field hz rfl (x:=.none) rfl (wpAny_pure ?_));simp only [if_true];refine wpAny_bind (wpAny_rule ?_)
  refine wpAny_bind (wpAny_field hz rfl (x:=.ref TO) rfl ?_);refine wpAny_bind (wpAny_setField_rec hz (by simp) fun g1 z1 e1=>?_)
  replace z1:IsZip g1 z TI TO .ellipsis:=z1;refine wpAny_bind ?_;simp only [List.zipIdx_cons,List.zipIdx_nil,List.forIn_cons,List.forIn_nil]
  refine wpAny_bind (wpAny_bind (wpAny_onRaise ?_));show wpAny _ _ (Builtin.SmallTypes.nextOf (.ref i1) >>= _) _ _ _
  cases hx:xs[k]? with
  | none=>
    refine wpAny_bind (P1.last hh (P1.stay u1 fun o e=>e1.extBut _ _ D.a2 e) (P1.row r1 fun o e=>e1.extBut _ _ D.b1 e) hx fun g2 e e2 he=>?_)
    obtain⟨oe,h1,h2⟩:=he;have z2:IsZip g2 z TI TO .ellipsis:=e2 _ _ D.a2.symm z1
    have nz:e≠z:=fun x=>by subst x;rw [z2] at h1;cases h1;simp at h2
    refine wpAny_setField_rec z2 (by simp) fun g3 _ e3=>q g3 e (fun c o n1 _ n3 _ x=>e3.extBut _ _ n1 (e2 _ _ n3 (e1.extBut _ _ n1 x))) ⟨oe,e3.extBut _ _ nz h1,h2⟩
  | some x=>
    have hy:ys[k]?=none:=by
      rcases hn with h | h
      · rw [hx] at h;cases h
      · exact h
    refine wpAny_bind (P1.next (P1.stay u1 fun o e=>e1.extBut _ _ D.a2 e) (P1.row r1 fun o e=>e1.extBut _ _ D.b1 e) hx fun g2 v1 e2=>wpAny_pure ?_)
    have O2:IsPair g2 TO a b:=e2.extBut _ _ D.a4 (e1.extBut _ _ D.a1 hO)
    refine wpAny_bind (wpAny_seqItems O2 rfl ?_);refine wpAny_bind (wpAny_updateSeq_pair O2 fun g3 O3 e3=>?_);refine wpAny_bind (wpAny_letGo (wpAny_pure ?_))
    refine wpAny_bind (wpAny_bind (wpAny_onRaise ?_));show wpAny _ _ (Builtin.SmallTypes.nextOf (.ref i2) >>= _) _ _ _
    have up3:∀c o,c≠z→c≠i1→c≠TO→s.heap.get? c=some o→g3.get? c=some o:=fun c o n1 n2 n3 e=>e3.extBut _ _ n3 (e2.extBut _ _ n2 (e1.extBut _ _ n1 e))
    refine wpAny_bind (P2.last hh (P2.stay u2 fun o e=>up3 _ _ D.a3 D.a6.symm D.a5.symm e) (P2.row r2 fun o e=>up3 _ _ D.c1 D.c3 D.c2 e) hy fun g4 e e4 he=>?_)
    obtain⟨oe,h1,h2⟩:=he;have z4:IsZip g4 z TI TO .ellipsis:=e4 _ _ D.a3.symm (e3.extBut _ _ D.a1.symm (e2.extBut _ _ D.a2.symm z1))
    have nz:e≠z:=fun x=>by subst x;rw [z4] at h1;cases h1;simp at h2
    refine wpAny_setField_rec z4 (by simp) fun g5 _ e5=>q g5 e (fun c o n1 n2 n3 n4 x=>e5.extBut _ _ n1 (e4 _ _ n4 (up3 c o n1 n3 n2 x))) ⟨oe,e5.extBut _ _ nz h1,h2⟩
theorem iQ{x y:Value}{Q:Option Value→Shared→Prop}(P1:Sc prog w i1 l1 S1 R1)(P2:Sc prog w i2 l2 S2 R2)(D:ff z TI TO i1 i2 l1 l2)(hz:IsZip s.heap z TI TO .none)(hI:IsPair s.heap TI (.ref i1) (.ref i2))(hO:IsPair s.heap TO a b)(u1:S1 k s.heap)(u2:S2 k s.heap)(r1:R1 s.heap xs)(r2:R2 s.heap ys)(hx:xs[k]?=some x)(hy:ys[k]?=some y)
    (q:∀g,IsZip g z TI TO (rawInt s.heap.objs.size)→IsPair g TO x y→S1 (k+1) g→S2 (k+1) g→IsPair g s.heap.objs.size x y→g.objs.size=s.heap.objs.size+1→(∀c o,c≠z→c≠TO→c≠i1→c≠i2→s.heap.get? c=some o→g.get? c=some o)→Q (some (.ref s.heap.objs.size)) {s with heap:=g}):
    wpAny (model prog w) A (pyNext (.ref z)) Q E s:=by
  have hT:s.TypeIs (.ref z) "zip":=⟨_,hz,rfl⟩;unfold pyNext
  refine wpAny_bind (wpAny_attempt (wpAny_callSpecial?_slot (name:=Str.ofString "__next__") hT F.slot_zip_next (wpAny_call_entry F.slot_zip_next hT F.entry_zip_next ?_ (F.args_zip_next_1 _))))
  exact An P1 P2 D hz hI hO u1 u2 r1 r2 hx hy fun g b1 b2 b3 b4 b5 b6 b7=>wpAny_pure (q g b1 b2 b3 b4 b5 b6 b7)
theorem iR{Q:Option Value→Shared→Prop}(hh:A.handled=none)(P1:Sc prog w i1 l1 S1 R1)(P2:Sc prog w i2 l2 S2 R2)(D:ff z TI TO i1 i2 l1 l2)(hz:IsZip s.heap z TI TO .none)(hI:IsPair s.heap TI (.ref i1) (.ref i2))(hO:IsPair s.heap TO a b)(u1:S1 k s.heap)(u2:S2 k s.heap)(r1:R1 s.heap xs)(r2:R2 s.heap ys)(hn:xs[k]?=none∨ys[k]?=none)
    (q:∀g,(∀c o,c≠z→c≠TO→c≠i1→c≠i2→s.heap.get? c=some o→g.get? c=some o)→Q none {s with heap:=g}):wpAny (model prog w) A (pyNext (.ref z)) Q E s:=by
  have hT:s.TypeIs (.ref z) "zip":=⟨_,hz,rfl⟩;unfold pyNext
  refine wpAny_bind (wpAny_attempt (wpAny_callSpecial?_slot (name:=Str.ofString "__next__") hT F.slot_zip_next (wpAny_call_entry F.slot_zip_next hT F.entry_zip_next (wN hh P1 P2 D hz hI hO u1 u2 r1 r2 hn fun g e hk he=>?_) (F.args_zip_next_1 _))))
  obtain⟨o,ho,hc⟩:=he;refine wpAny_bind (wpAny_isInstance (T:="StopIteration") (b:=true) ⟨o,ho,hc⟩ isSubtype_stop ?_);exact wpAny_pure (q _ hk)
end
end L2
namespace L2
open PySem PySem.Spec PyProof.Rows
section
variable{X:Cx}{pins:List (Addr × Obj)}{σ:L2.St}{H:Hp}{s:Shared}{h':Heap}
theorem aw.turnedL{t':Nat}{fp:List Addr}(I:aw X pins σ H s)(hf:∀b∈fp,fj X pins H b)(k:∀b o,b∉fp→s.heap.get? b=some o→h'.get? b=some o):aw X pins σ H {s with heap:=h',toks:=t'}:=by
  have hL:X.env.locals∉fp:=fun z=>(hf _ z).2.1 rfl
  have nit:∀b u,H b=some u→b∉fp:=fun b u e z=>by have:=(hf b z).1;rw [this] at e;cases e
  refine I.step (g':=s.gens) (d':=s.drawn) (ch:=fp) (fun b hb=>?_) (fun b o _ _ hc e _=>k b o hc e) (fun b o _ _ hc e _=>⟨o.slots,k b o hc e⟩) (fun _ _ _ _ n=>n) (fun b o hc e=>⟨o,k b o hc e⟩) (fun _ _ e=>e) (fun _ _ _ e=>e) (fun b ps e=>⟨#[],by rw [e];simp⟩) (fun m hm=>?_) (fun b u e=>?_) I.bare
  · obtain⟨f0,f1,f2,f3,f4,f5⟩:=hf b hb
    exact⟨f3,f1,f4,f5⟩
  · obtain⟨o,es,ep,ho,r⟩:=hm
    exact⟨o,es,ep,k _ o hL ho,r⟩
  · refine(I.hok b u e).stay (fun c v hc q=>k c v ?_ q) (fun _ q=>q) fun _ _ q=>q
    rcases hc with z | z
    · rw [z];exact nit b u e
    · exact nit c _ z
theorem ay(I:aw X pins σ H s){b l:Addr}{xs:List V}(f:fj X pins H b)(q:bK X.K H l xs):l≠b:=by
  intro z
  subst z
  rcases q with (q | ⟨o,q⟩) | ⟨o,its,n,hk,_⟩
  · rw [f.1] at q;cases q
  · rw [f.1] at q;cases q
  · have hb:X.base.get? l=some o:=I.ok.mod.kin l o hk
    rcases f.2.2.2.1 with z | z
    · exact I.ok.noex l o hb z
    · exact absurd (Nat.lt_of_lt_of_le (Heap.lt_size (I.ok.bs l o hb).1) z) (Nat.lt_irrefl _)
end
def Dq(K:PySem.W.Frag)(l1 l2:Addr):It:=
  ⟨fun i H=>∃xs ys x y,bK K H l1 xs∧bK K H l2 ys∧xs[i]?=some x∧ys[i]?=some y,
   fun i H v H'=>∃p x y,v=.ref p∧H p=none∧H'=aY H p (.tup [x,y])∧∀xs ys,bK K H l1 xs→bK K H l2 ys→xs[i]?=some x∧ys[i]?=some y,
   fun i H=>∃xs ys,bK K H l1 xs∧bK K H l2 ys∧(xs.length≤i∨ys.length≤i)⟩
def xT(z TI TO i1 i2 l1 l2:Addr)(i:Nat)(h:Heap):Prop:=IsZip h z TI TO .none∧IsPair h TI (.ref i1) (.ref i2)∧(∃a b,IsPair h TO a b)∧h.IsTupleIter i1 l1 i∧h.IsTupleIter i2 l2 i
theorem uC{P:Program}{w:World}{K:PySem.W.Frag}{es:List Expr}{k0:Nat}{pos:Pos}{z TI TO i1 i2:Addr}(l1 l2:Addr)(n1:TO≠z)(n2:i1≠z)(n3:i2≠z)(n4:TO≠i1)(n5:TO≠i2)(n6:i1≠i2)(n7:TI≠z)(n8:TI≠TO)(n9:TI≠i1)(n10:TI≠i2):
    mh P w K (.Tuple es k0 pos) (Dq K l1 l2) [z,TI,TO,i1,i2] z (xT z TI TO i1 i2 l1 l2) where
  mem:=by simp
  obj:=fun i h st b hb=>by
    obtain⟨hz,hI,⟨a,c,hO⟩,u1,u2⟩:=st
    simp only [List.mem_cons,List.not_mem_nil,or_false] at hb
    rcases hb with rfl | rfl | rfl | rfl | rfl
    · exact⟨_,hz,fun v z=>by cases z⟩
    · exact⟨_,hI,fun v z=>by cases z⟩
    · exact⟨_,hO,fun v z=>by cases z⟩
    · obtain⟨o,e,c,d⟩:=u1
      exact⟨o,e,fun v z=>by rw [d] at z;cases z⟩
    · obtain⟨o,e,c,d⟩:=u2
      exact⟨o,e,fun v z=>by rw [d] at z;cases z⟩
  keep:=fun i h h' st k=>by
    obtain⟨hz,hI,⟨a,c,hO⟩,u1,u2⟩:=st
    exact⟨k _ (by simp) _ hz,k _ (by simp) _ hI,⟨a,c,k _ (by simp) _ hO⟩,u1.at fun o e=>k _ (by simp) o e,u2.at fun o e=>k _ (by simp) o e⟩
  item:=by
    intro X hP hw hK hc i pins s σ H E I hf st hg
    subst hP hw hK
    obtain⟨xs,ys,x,y,q1,q2,hx,hy⟩:=hg
    obtain⟨hz,hI,⟨a,b,hO⟩,u1,u2⟩:=id st
    obtain⟨its1,rv1,p1,z1⟩:=I.tuple q1
    obtain⟨its2,rv2,p2,z2⟩:=I.tuple q2
    obtain⟨ux,hux,rux⟩:=rv1.get hx
    obtain⟨uy,huy,ruy⟩:=rv2.get hy
    have fz:=hf z (by simp);have fO:=hf TO (by simp);have f1:=hf i1 (by simp);have f2:=hf i2 (by simp)
    have D:ff z TI TO i1 i2 l1 l2:=⟨n1,n2,n3,n4,n5,n6,ay I fz q1,ay I fO q1,ay I f1 q1,ay I f2 q1,ay I fz q2,ay I fO q2,ay I f1 q2,ay I f2 q2⟩
    refine iQ (xs:=its1.toArray) (ys:=its2.toArray) (gg i1 l1) (gg i2 l2) D hz hI hO u1 u2 p1 p2 (by simpa using hux) (by simpa using huy) fun g gz gO g1 g2 gT gs gk=>?_
    refine⟨_,rfl,wpAny_letOwnedTupleGo_zip gz fun g' gz' ge=>?_⟩
    have lt:∀b∈[z,TI,TO,i1,i2],b < s.heap.objs.size:=fun b hb=>by
      simp only [List.mem_cons,List.not_mem_nil,or_false] at hb
      rcases hb with rfl | rfl | rfl | rfl | rfl
      · exact Heap.lt_size hz
      · exact Heap.lt_size hI
      · exact Heap.lt_size hO
      · obtain⟨o,e,_⟩:=u1;exact Heap.lt_size e
      · obtain⟨o,e,_⟩:=u2;exact Heap.lt_size e
    have hT:H s.heap.objs.size=none:=I.hok.fresh (Nat.le_refl _)
    have vv:aI [x,y] [ux,uy]:=.cons rux (.cons ruy .nil)
    have I1:aw X pins σ (aY H s.heap.objs.size (.tup [x,y])) {s with heap:=s.heap.push {cls:=.type "tuple",data:=.seq #[ux,uy]},toks:=s.toks}:=
      I.laid (t':=s.toks) (fun b u e=>Heap.get?_push_of_some _ e) (Nat.le_refl _) ⟨(by show 2≤sizeLine;decide),[ux,uy],vv,hV.new _ _⟩
    have hf1:∀b∈[z,TI,TO,i1,i2],fj X pins (aY H s.heap.objs.size (.tup [x,y])) b:=fun b hb=>by
      obtain⟨f0,fr⟩:=hf b hb
      exact⟨by rw [aE (Nat.ne_of_lt (lt b hb))];exact f0,fr⟩
    have nzT:s.heap.objs.size≠z:=Nat.ne_of_gt (lt z (by simp))
    have I2:aw X pins σ (aY H s.heap.objs.size (.tup [x,y])) {s with heap:=g',toks:=s.toks}:=by
      refine I1.turnedL (t':=s.toks) hf1 fun b o nb e=>?_
      have nb':b≠z∧b≠TI∧b≠TO∧b≠i1∧b≠i2:=by simpa using nb
      refine ge.extBut _ _ nb'.1 ?_
      rcases Heap.get?_push_cases e with ⟨rfl,rfl⟩ | e
      · exact gT
      · exact gk b o nb'.1 nb'.2.2.1 nb'.2.2.2.1 nb'.2.2.2.2 e
    refine⟨.ref s.heap.objs.size,_,I2,rfl,⟨_,x,y,rfl,hT,rfl,fun xs' ys' w1 w2=>?_⟩,⟨gz',ge.extBut _ _ n7 (gk _ _ n7 n8 n9 n10 hI),⟨ux,uy,ge.extBut _ _ n1 gO⟩,g1.at fun o e=>ge.extBut _ _ n2 e,g2.at fun o e=>ge.extBut _ _ n3 e⟩,fun b hb=>(hf1 b hb).1⟩
    rw [I.tuple_inj w1 q1,I.tuple_inj w2 q2]
    exact⟨hx,hy⟩
  done:=by
    intro X hP hw hK hc i pins s σ H E I hf st hg
    subst hP hw hK
    obtain⟨xs,ys,q1,q2,hn⟩:=hg
    obtain⟨hz,hI,⟨a,b,hO⟩,u1,u2⟩:=id st
    obtain⟨its1,rv1,p1,z1⟩:=I.tuple q1
    obtain⟨its2,rv2,p2,z2⟩:=I.tuple q2
    have fz:=hf z (by simp);have fO:=hf TO (by simp);have f1:=hf i1 (by simp);have f2:=hf i2 (by simp)
    have D:ff z TI TO i1 i2 l1 l2:=⟨n1,n2,n3,n4,n5,n6,ay I fz q1,ay I fO q1,ay I f1 q1,ay I f2 q1,ay I fz q2,ay I fO q2,ay I f1 q2,ay I f2 q2⟩
    have e1:=rv1.length
    have e2:=rv2.length
    refine iR (xs:=its1.toArray) (ys:=its2.toArray) (I.ok.hd hc) (gg i1 l1) (gg i2 l2) D hz hI hO u1 u2 p1 p2 ?_ fun g gk=>⟨rfl,I.turnedL (t':=s.toks) hf fun b o nb e=>?_⟩
    · rcases hn with hn | hn
      · exact .inl (by simp;lia)
      · exact .inr (by simp;lia)
    · have nb':b≠z∧b≠TI∧b≠TO∧b≠i1∧b≠i2:=by simpa using nb
      exact gk b o nb'.1 nb'.2.2.1 nb'.2.2.2.1 nb'.2.2.2.2 e
  self:=fun A i s Q E st h=>wpAny_pyIter_zip st.1 h
theorem wQ(l1 l2:Addr)(xs ys:Array Value):
    Meets (Builtin.«zip.__new__» ⟨[.type "zip",.ref l1,.ref l2],[]⟩) (fun _ R s=>s.heap.IsTuple l1 xs∧s.heap.IsTuple l2 ys∧
      R (.ok (.ret (.ref (s.heap.objs.size+4)))) {s with heap:=((((s.heap.push {cls:=.type "tuple_iterator",data:=.fields #[.ref l1,.int 0 0]}).push {cls:=.type "tuple_iterator",data:=.fields #[.ref l2,.int 0 0]}).push {cls:=.type "tuple",data:=.seq #[.ref s.heap.objs.size,.ref (s.heap.objs.size+1)]}).push {cls:=.type "tuple",data:=.seq #[.none,.none]}).push {cls:=.type "zip",data:=.fields #[.none,.bool false,.bool false,.ref (s.heap.objs.size+2),.ref (s.heap.objs.size+3)]}}):=
  .of_wp fun prog w A R s h=>by
    obtain⟨hp,g,d,tk,os⟩:=s;obtain⟨t1,t2,h⟩:=h;have sz:=PySem.sub_zip
    have T1:Heap.IsTuple (Shared.heap ⟨hp,g,d,tk,os⟩) l1 xs:=t1
    have T2:Heap.IsTuple (Shared.heap ⟨hp.push {cls:=.type "tuple_iterator",data:=.fields #[.ref l1,.int 0 0]},g,d,tk,os⟩) l2 ys:=Heap.IsTuple.push t2 _
    wp_walk using wpAny_pyIter_tuple T1,wpAny_pyIter_tuple T2
    refine⟨_,rfl,?_⟩
    simp only [Heap.size_push]
    exact h
section
variable{prog:Program}{w:World}{A:Around}{E:Value→Shared→Prop}{s:Shared}
theorem uH{l1 l2:Addr}{xs ys:Array Value}{Q:Value→Shared→Prop}(t1:s.heap.IsTuple l1 xs)(t2:s.heap.IsTuple l2 ys)
    (h:∀g,xT (s.heap.objs.size+4) (s.heap.objs.size+2) (s.heap.objs.size+3) s.heap.objs.size (s.heap.objs.size+1) l1 l2 0 g→(∀c o,s.heap.get? c=some o→g.get? c=some o)→Q (.ref (s.heap.objs.size+4)) {s with heap:=g}):
    wpAny (model prog w) A (call (.type "zip") [.ref l1,.ref l2]) Q E s:=by
  refine callType_new F.called_zip (by decide) (F.typeCall_zip_2 _ _) (F.newCall_zip_2 _ _) (fun obj=>F.args_object_init_3 obj _ _) F.entry_zip_new (wQ l1 l2 xs ys) ⟨t1,t2,?_⟩
  have at5:∀(g:Heap) (o:Obj) (a:Addr),o.isFreed=false→a=g.objs.size→(g.push o).get? a=some o:=fun g o a hf e=>by rw [e];exact Heap.get?_push_size _ hf
  have g5:=at5 ((((s.heap.push {cls:=.type "tuple_iterator",data:=.fields #[.ref l1,.int 0 0]}).push {cls:=.type "tuple_iterator",data:=.fields #[.ref l2,.int 0 0]}).push {cls:=.type "tuple",data:=.seq #[.ref s.heap.objs.size,.ref (s.heap.objs.size+1)]}).push {cls:=.type "tuple",data:=.seq #[.none,.none]}) {cls:=.type "zip",data:=.fields #[.none,.bool false,.bool false,.ref (s.heap.objs.size+2),.ref (s.heap.objs.size+3)]} (s.heap.objs.size+4) rfl (by simp only [Heap.size_push])
  have g4:=at5 (((s.heap.push {cls:=.type "tuple_iterator",data:=.fields #[.ref l1,.int 0 0]}).push {cls:=.type "tuple_iterator",data:=.fields #[.ref l2,.int 0 0]}).push {cls:=.type "tuple",data:=.seq #[.ref s.heap.objs.size,.ref (s.heap.objs.size+1)]}) {cls:=.type "tuple",data:=.seq #[.none,.none]} (s.heap.objs.size+3) rfl (by simp only [Heap.size_push])
  have g3:=at5 ((s.heap.push {cls:=.type "tuple_iterator",data:=.fields #[.ref l1,.int 0 0]}).push {cls:=.type "tuple_iterator",data:=.fields #[.ref l2,.int 0 0]}) {cls:=.type "tuple",data:=.seq #[.ref s.heap.objs.size,.ref (s.heap.objs.size+1)]} (s.heap.objs.size+2) rfl (by simp only [Heap.size_push])
  have g2:=at5 (s.heap.push {cls:=.type "tuple_iterator",data:=.fields #[.ref l1,.int 0 0]}) {cls:=.type "tuple_iterator",data:=.fields #[.ref l2,.int 0 0]} (s.heap.objs.size+1) rfl (by simp only [Heap.size_push])
  have g1:=at5 s.heap {cls:=.type "tuple_iterator",data:=.fields #[.ref l1,.int 0 0]} s.heap.objs.size rfl rfl
  have up:∀{g:Heap} {a:Addr} {u:Obj} (o:Obj),g.get? a=some u→(g.push o).get? a=some u:=fun o e=>Heap.get?_push_of_some o e
  refine⟨⟨_,g5,rfl⟩,h _ ⟨g5,up _ (up _ g3),⟨_,_,up _ g4⟩,⟨_,up _ (up _ (up _ (up _ g1))),rfl,rfl⟩,⟨_,up _ (up _ (up _ g2)),rfl,rfl⟩⟩ fun c o x=>up _ (up _ (up _ (up _ (up _ x))))⟩
end
theorem ib:PySem.bootBuiltins "zip"=some (.type "zip"):=by decide+kernel
def C0(K:PySem.W.Frag)(ta:TA):TI:=fun σ H R=>ta σ H fun vs H1=>∃a b,vs=[.ref a,.ref b]∧(∃xs,bK K H1 a xs)∧(∃ys,bK K H1 b ys)∧R (Dq K a b) H1
theorem zh{X:Cx}{K:PySem.W.Frag}{es:List Expr}{k0:Nat}{tp:Pos}{a b:Expr}{ta:TA}{p pos:Pos}(hK:X.K=K)(hg:Gl X "zip")(hm:X.mg "zip"=none)(ha:PA X [a,b] ta)(hs:starEach [a,b] X.env=[(false,eval a X.env),(false,eval b X.env)]:=by rfl)(hs2:starEach [b] X.env=[(false,eval b X.env)]:=by rfl):
    PI X (.Tuple es k0 tp) (.Call (.Name "zip" p) [a,b] [] pos) (C0 K ta):=by
  intro pins s σ H R I h
  subst hK
  refine Call_ (eF I hg hm ib (PyProof.Rows.callWith_type1 (bH (ha pos pins s σ H _ I h) fun us s1 ⟨vs,H1,I1,r1,q1⟩=>?_) (by rw [hs,hs2]) (by rw [hs2];rfl)))
  obtain⟨a,b,e,⟨xs,qx⟩,⟨ys,qy⟩,q⟩:=q1
  subst e
  cases r1 with
  | cons r rr=>
    cases rr with
    | cons r' rr=>
      cases rr
      cases r
      cases r'
      obtain⟨i1,v1,p1,_⟩:=I1.tuple qx
      obtain⟨i2,v2,p2,_⟩:=I1.tuple qy
      refine uH p1 p2 fun g st hk=>wpAny_pyIter_zip st.1 ?_
      have I2:aw X pins σ H1 {s1 with heap:=g,toks:=s1.toks}:=I1.kept (t':=s1.toks) fun b o e=>hk b o e
      refine⟨s1.heap.objs.size+4,[s1.heap.objs.size+4,s1.heap.objs.size+2,s1.heap.objs.size+3,s1.heap.objs.size,s1.heap.objs.size+1],_,_,H1,rfl,I2,uC a b (show((s1.heap.objs.size+3:Nat)≠s1.heap.objs.size+4) by lia) (show((s1.heap.objs.size:Nat)≠s1.heap.objs.size+4) by lia) (show((s1.heap.objs.size+1:Nat)≠s1.heap.objs.size+4) by lia) (show((s1.heap.objs.size+3:Nat)≠s1.heap.objs.size) by lia) (show((s1.heap.objs.size+3:Nat)≠s1.heap.objs.size+1) by lia) (show((s1.heap.objs.size:Nat)≠s1.heap.objs.size+1) by lia) (show((s1.heap.objs.size+2:Nat)≠s1.heap.objs.size+4) by lia) (show((s1.heap.objs.size+2:Nat)≠s1.heap.objs.size+3) by lia) (show((s1.heap.objs.size+2:Nat)≠s1.heap.objs.size) by lia) (show((s1.heap.objs.size+2:Nat)≠s1.heap.objs.size+1) by lia),st,fun c hc=>?_,q⟩
      have le:s1.heap.objs.size≤c:=by
        simp only [List.mem_cons,List.not_mem_nil,or_false] at hc
        rcases hc with rfl | rfl | rfl | rfl | rfl
        · exact Nat.le_add_right _ 4
        · exact Nat.le_add_right _ 2
        · exact Nat.le_add_right _ 3
        · exact Nat.le_refl _
        · exact Nat.le_add_right _ 1
      have f:=I1.fpOk (H':=H1) le (I1.hok.fresh le)
      exact f
end L2
namespace L2
open PySem PySem.Spec PyProof.Rows
section
variable{prog:Program}{w:World}{A:Around}{E:Value→Shared→Prop}{s:Shared}{e it l:Addr}{k:Nat}{xs:Array Value}{S:Nat→Heap→Prop}{R:Heap→Array Value→Prop}
end
section
variable{X:Cx}{pins:List (Addr × Obj)}{σ:L2.St}{H:Hp}{s:Shared}
theorem aq(I:aw X pins σ H s){b l:Addr}{xs:List V}(f:fj X pins H b)(q:ce X.K H l xs):l≠b:=by
  intro z
  subst z
  rcases q with (q | ⟨o,q⟩) | ⟨o,its,n,hk,_⟩
  · rw [f.1] at q;cases q
  · rw [f.1] at q;cases q
  · have hb:X.base.get? l=some o:=I.ok.mod.kin l o hk
    rcases f.2.2.2.1 with z | z
    · exact I.ok.noex l o hb z
    · exact absurd (Nat.lt_of_lt_of_le (Heap.lt_size (I.ok.bs l o hb).1) z) (Nat.lt_irrefl _)
end
end L2
namespace L2
open PySem PySem.Spec PyProof.Rows
theorem pW:∀(us:List Value) (f:Nat→Int),(∀(j:Nat) (v:Value),us[j]?=some v→∃t,v=Value.int (f j) t)→aI ((List.range us.length).map fun j=>V.int (f j)) us
  | [],_,_=>.nil
  | u::us,f,h=>by
    rw [List.length_cons,List.range_succ_eq_map,List.map_cons,List.map_map]
    refine .cons (h 0 u rfl) (pW us (fun j=>f (j+1)) fun j v e=>h (j+1) v (by simpa using e))
def gZ(n:Nat):List Int:=(List.range n).map Int.ofNat
theorem iF(n:Nat):(gZ n).length=n:=by simp [gZ]
section
variable{X:Cx}{a:Expr}{ta:TA}{p p2 pos pos2:Pos}
theorem rJ(hg:Gl X "range")(hm:X.mg "range"=none)(ha:PA X [a] ta)(hs:starEach [a] X.env=[(false,eval a X.env)]){pins:List (Addr × Obj)}{s:Shared}{σ:L2.St}{H:Hp}{R:Int→Hp→Prop}(I:aw X pins σ H s)(h:ta σ H fun vs H1=>∃j:Int,vs=[.int j]∧R j H1):
    wpAny (model X.prog X.w) X.A (eval (.Call (.Name "range" p) [a] [] pos) X.env) (fun v s1=>∃(r:Addr) (j:Int) (H1:Hp) (t u w:Tok),v=.ref r∧IsRange s1.heap r 0 j 1 t u w∧r < s1.heap.objs.size∧aw X pins σ H1 s1∧R j H1) X.xe s:=by
  refine Call_ (eF I hg hm boot_range (PyProof.Rows.callWith_type1 (bH (ha pos pins s σ H _ I h) fun us s1 ⟨vs,H1,I1,r1,q1⟩=>?_) hs rfl))
  obtain⟨j,e,q⟩:=q1
  subst e
  cases r1 with
  | cons r rr=>
    cases rr
    obtain⟨t,rfl⟩:=r
    exact call_range_1 ⟨_,j,H1,_,_,_,rfl,IsRange.new ..,by simp [Heap.size_push],I1.kept fun b o e=>Heap.get?_push_of_some _ e,q⟩
def D6(ta:TA):TE:=fun σ H Q=>ta σ H fun vs H1=>∃j:Int,vs=[.int j]∧(0≤j∧j≤100000∧∀l,H1 l=none→Q (.ref l) (aY H1 l (.lst ((gZ j.toNat).map V.int))))
theorem lY(hc:X.calm=true)(hgl:Gl X "list")(hml:X.mg "list"=none)(hg:Gl X "range")(hm:X.mg "range"=none)(ha:PA X [a] ta)(hs:starEach [a] X.env=[(false,eval a X.env)]:=by rfl)
    (he:starEach [.Call (.Name "range" p) [a] [] pos] X.env=(false,eval (.Call (.Name "range" p) [a] [] pos) X.env)::starEach [] X.env:=by rfl):PE X (.Call (.Name "list" p2) [.Call (.Name "range" p) [a] [] pos] [] pos2) (D6 ta):=by
  intro pins s σ H Q I h
  refine wpAny_Call_Name_kw (eF I hgl hml PyProof.Rows.boot_list ?_ (by decide) (by decide))
  refine PyProof.Rows.callWith_type1 ?_ he rfl
  rw [he]
  refine Calls.spliced_cons (bH (rJ hg hm ha hs I h) fun u s1 ⟨r,j,H1,t,u1,w,e,hr,lt,I1,j0,j1,q⟩=>?_)
  subst e
  refine wpAny_pure ?_
  have hsm:Builtin.Range.small 0 j 1=true:=small_one (by decide) (by decide) (by lia) (by lia)
  refine call_list_range (n:=j.toNat) (I1.ok.hd hc) hr hsm (by rw [rangeSize_one];split<;>lia) (Nat.le_trans (show j.toNat≤100000 by lia) (by decide)) fun h' tk acc c hk hD hI=>?_
  have hf:H1 s1.heap.objs.size=none:=I1.hok.fresh (Nat.le_refl _)
  have vv:aI ((gZ j.toNat).map V.int) acc.toList:=by
    have z:=pW acc.toList (fun k=>(k:Int)) fun k v e=>by
      obtain⟨t,ht⟩:=hI.2 k v (by simpa using e)
      exact⟨t,by rw [ht];simp⟩
    rw [Array.length_toList,hI.1] at z
    rw [gZ,List.map_map]
    exact z
  refine⟨.ref s1.heap.objs.size,_,I1.laid (o:=.lst ((gZ j.toNat).map V.int)) hk (Nat.le_refl _) ⟨?_,acc.toList,c,vv,by simpa using hD⟩,rfl,q _ hf⟩
  rw [List.length_map,iF,sizeLine_eq];lia
end
end L2
namespace L2
open PySem PySem.Spec PyProof.Rows
theorem qq:fillsNumberSlot (.type "tuple") "mul"=pure false:=
  PySem.fillsNumberSlot_seq (id:="tuple.__mul__") (r:=some (.builtin "tuple.__rmul__")) F.slot_tuple_mul.lookup (by decide+kernel) F.slot_tuple_rmul.lookup (by decide+kernel)
theorem zQ:seqRepeat? (.type "tuple")=pure (some (.builtin "tuple.__mul__")):=by
  unfold seqRepeat?;rw [PySem.seqSlot_of (T:="tuple") (name:="__mul__") (id:="tuple.__mul__") F.slot_tuple_mul.lookup (by decide+kernel),PySem.seqSlot_of (T:="tuple") (name:="__rmul__") (id:="tuple.__rmul__") F.slot_tuple_rmul.lookup (by decide+kernel)];rfl
theorem wu(a:Int)(t:Tok)(l:Addr)(items:Array Value)(n:Nat)(dd:Option Addr)(sl:Array (Option Value)):
    Meets (Builtin.«int.__rmul__» ⟨[.int a t,.ref l],[]⟩) (fun _ R s=>s.heap.get? l=some {cls:=.type "tuple",dict:=dd,data:=.seq items n,slots:=sl}∧R (.ok (.ret Value.notImplemented)) s):=
  .of_wp fun prog w A R s h=>by obtain⟨hp,g,d,tk,os⟩:=s;obtain⟨hl,h⟩:=h;wp_walk;exact⟨_,rfl,h⟩
theorem yF(l:Addr)(x:Value)(n:Nat)(k:Int)(u:Tok)(dd:Option Addr)(sl:Array (Option Value))(h0:2≤k)(h1:k≤100000):
    Meets (Builtin.«tuple.__mul__» ⟨[.ref l,.int k u],[]⟩) (fun _ R s=>s.heap.get? l=some {cls:=.type "tuple",dict:=dd,data:=.seq #[x] n,slots:=sl}∧
      R (.ok (.ret (.ref s.heap.objs.size))) {s with heap:=s.heap.push {cls:=.type "tuple",data:=.seq (List.replicate k.toNat x).toArray}}):=
  .of_wp fun prog w A R s h=>by
    obtain⟨hp,g,d,tk,os⟩:=s;obtain⟨hl,h⟩:=h
    have f1:=AutoSeq1.idx_int
    have c1:¬(decide (k < -(2 ^ 63)) || decide (k≥2 ^ 63))=true:=by simp;lia
    have c2:¬((#[x]:Array Value).isEmpty || k==1)=true:=by simp;lia
    have c3:¬(decide (k≤0) || (#[x]:Array Value).isEmpty)=true:=by simp;lia
    have c4:¬(((#[x]:Array Value).size:Int)*k > (2 ^ 63 - 1) / 8):=by simp;lia
    have c5:¬Builtin.Tuple.tupleTooMany (((#[x]:Array Value).size:Int)*k)=true:=by
      unfold Builtin.Tuple.tupleTooMany;rw [sizeLine_eq];simp;lia
    wp_walk using wpAny_loadPart' hl
    rw [if_neg c1]
    wp_walk using wpAny_loadPart' hl
    rw [if_neg c2]
    wp_walk using wpAny_loadPart' hl
    rw [if_neg c3]
    wp_walk using wpAny_loadPart' hl
    rw [if_neg c4]
    show wpAny _ _ (if Builtin.Tuple.tupleTooMany (((#[x]:Array Value).size:Int)*k)=true then _ else _) _ _ _
    rw [if_neg c5]
    have f0:∀(m:Nat) (acc:Array Value),List.foldl (fun x1 x2=>x1++x2) acc (List.replicate m #[x])=acc++(List.replicate m x).toArray:=by
      intro m
      induction m with
      | zero=>intro acc;simp
      | succ m ih=>intro acc;rw [List.replicate_succ,List.foldl_cons,ih,List.replicate_succ];apply Array.toList_inj.mp;simp
    have e:List.foldl (fun x1 x2=>x1++x2) #[] (List.replicate k.toNat #[x])=(List.replicate k.toNat x).toArray:=by rw [f0];simp
    show wpAny _ _ (Builtin.Tuple.tupleExact (List.foldl (fun x1 x2=>x1++x2) #[] (List.replicate k.toNat #[x])) >>= fun v=>ret v) _ _ _
    rw [e]
    unfold Builtin.Tuple.tupleExact
    refine wpAny_bind (wpAny_newObj_type ?_ (by show(List.replicate k.toNat x).toArray.size≤sizeLine;rw [List.size_toArray,List.length_replicate,sizeLine_eq];lia))
    exact wpAny_pure ⟨_,rfl,h⟩
theorem vo(l:Addr)(x:Value)(n:Nat)(u:Tok)(dd:Option Addr)(sl:Array (Option Value)):
    Meets (Builtin.«tuple.__mul__» ⟨[.ref l,.int 0 u],[]⟩) (fun _ R s=>s.heap.get? l=some {cls:=.type "tuple",dict:=dd,data:=.seq #[x] n,slots:=sl}∧R (.ok (.ret (.ref s.heap.objs.size))) {s with heap:=s.heap.push {cls:=.type "tuple",data:=.seq #[]}}):=
  .of_wp fun prog w A R s h=>by
    obtain⟨hp,g,d,tk,os⟩:=s;obtain⟨hl,h⟩:=h;have f1:=AutoSeq1.idx_int
    have c2:¬((#[x]:Array Value).isEmpty || (0:Int)==1)=true:=by simp
    wp_walk using wpAny_loadPart' hl
    first | rw [if_neg c2] | skip
    wp_walk using wpAny_loadPart' hl
    exact⟨_,rfl,h⟩
theorem vp(l:Addr)(x:Value)(n:Nat)(u:Tok)(dd:Option Addr)(sl:Array (Option Value)):
    Meets (Builtin.«tuple.__mul__» ⟨[.ref l,.int 1 u],[]⟩) (fun _ R s=>s.heap.get? l=some {cls:=.type "tuple",dict:=dd,data:=.seq #[x] n,slots:=sl}∧R (.ok (.ret (.ref l))) s):=
  .of_wp fun prog w A R s h=>by
    obtain⟨hp,g,d,tk,os⟩:=s;obtain⟨hl,h⟩:=h;have f1:=AutoSeq1.idx_int
    wp_walk using wpAny_loadPart' hl
    exact⟨_,rfl,h⟩
section
variable{X:Cx}
def ua(K:PySem.W.Frag):R2:=fun x y H Q=>∃a k v,x=.ref a∧y=.int k∧bK K H a [v]∧0≤k∧k≤100000∧∀p H',av H H'→bK K H' p (List.replicate k.toNat v)→Q (.ref p) H'
theorem vL:dC X (binaryOp .Mult) (ua X.K):=by
  intro pins s σ H x y v u Q I rx ry h
  obtain⟨a,k,z,rfl,rfl,ha,k0,k1,q⟩:=h
  cases rx
  obtain⟨t,rfl⟩:=ry
  obtain⟨its,r,p,hz⟩:=I.tuple ha
  obtain⟨uz,rfl,rz⟩:=fZ r
  obtain⟨⟨cls,dd,data,sl⟩,ho,hc,n,hd⟩:=id p
  simp only at hc hd
  subst hc hd
  refine wpAny_binaryOp_repeat_ref (T:="tuple") (U:="int") (by decide) ⟨_,ho,rfl⟩ (fun s'=>PySem.typeIs_int s' k t) qq F.fills_int_mul F.slot_int_rmul zQ F.slot_int_index.lookup (call_meets F.slot_int_rmul (PySem.typeIs_int s k t) F.entry_int_rmul (F.args_int_rmul_2 _ _) (wu k t a #[uz] n dd sl) ⟨ho,rfl,⟨_,ho,rfl⟩,?_⟩)
  have new:∀m:Nat,m=k.toNat→EP X pins σ Q (.ref s.heap.objs.size) {s with heap:=s.heap.push {cls:=.type "tuple",data:=.seq (List.replicate m uz).toArray},toks:=s.toks}:=fun m hm=>by
    have hf:H s.heap.objs.size=none:=I.hok.fresh (Nat.le_refl _)
    have vv:∀j:Nat,aI (List.replicate j z) (List.replicate j uz):=fun j=>by
      induction j with
      | zero=>exact .nil
      | succ j ih=>exact .cons rz ih
    refine⟨.ref s.heap.objs.size,_,I.laid (t':=s.toks) (o:=.tup (List.replicate m z)) (fun b ob q=>Heap.get?_push_of_some _ q) (Nat.le_refl _) ⟨by rw [List.length_replicate,sizeLine_eq];lia,_,vv m,hV.new _ _⟩,rfl,q _ _ (av.new hf) (bK.of (by rw [ar,hm]))⟩
  rcases(by lia:k=0∨k=1∨2≤k) with e | e | e
  · subst e
    exact call_meets F.slot_tuple_mul ⟨_,ho,rfl⟩ F.entry_tuple_mul (F.args_tuple_mul_2 _ _) (vo a uz n t dd sl) ⟨ho,new 0 rfl⟩
  · subst e
    exact call_meets F.slot_tuple_mul ⟨_,ho,rfl⟩ F.entry_tuple_mul (F.args_tuple_mul_2 _ _) (vp a uz n t dd sl) ⟨ho,⟨.ref a,H,I,rfl,q a H (av.refl H) ha⟩⟩
  · exact call_meets F.slot_tuple_mul ⟨_,ho,rfl⟩ F.entry_tuple_mul (F.args_tuple_mul_2 _ _) (yF a uz n k t dd sl e k1) ⟨ho,new _ rfl⟩
end
end L2
namespace L2
open PySem PySem.Spec PyProof.Rows
section
variable{prog:Program}{w:World}{A:Around}{E:Value→Shared→Prop}{s:Shared}
end
section
variable{X:Cx}{a:Expr}{ta:TA}{p p2 p3 pos pos2 pos3:Pos}
end
end L2
namespace L2
open PySem PySem.Spec PyProof.Rows
section
variable{prog:Program}{w:World}{A:Around}{E:Value→Shared→Prop}{s:Shared}
end
section
variable{X:Cx}{K:PySem.W.Frag}{es:List Expr}{k0:Nat}{tp:Pos}{a:Expr}{ta:TA}{p pos:Pos}
end
end L2
namespace L2
open PySem PySem.Spec PyProof.Rows
def wX(K:PySem.W.Frag)(l1 l2:Addr):It:=
  ⟨fun i H=>∃xs ys x y,ce K H l1 xs∧bK K H l2 ys∧xs[i]?=some x∧ys[i]?=some y,
   fun i H v H'=>∃p x y,v=.ref p∧H p=none∧H'=aY H p (.tup [x,y])∧∀xs ys,ce K H l1 xs→bK K H l2 ys→xs[i]?=some x∧ys[i]?=some y,
   fun i H=>∃xs ys,ce K H l1 xs∧bK K H l2 ys∧(xs.length≤i∨ys.length≤i)⟩
def pY(z TI TO i1 i2 l1 l2:Addr)(i:Nat)(h:Heap):Prop:=IsZip h z TI TO .none∧IsPair h TI (.ref i1) (.ref i2)∧(∃a b,IsPair h TO a b)∧h.IsListIter i1 l1 i∧h.IsTupleIter i2 l2 i
theorem oK{P:Program}{w:World}{K:PySem.W.Frag}{es:List Expr}{k0:Nat}{pos:Pos}{z TI TO i1 i2:Addr}(l1 l2:Addr)(n1:TO≠z)(n2:i1≠z)(n3:i2≠z)(n4:TO≠i1)(n5:TO≠i2)(n6:i1≠i2)(n7:TI≠z)(n8:TI≠TO)(n9:TI≠i1)(n10:TI≠i2):
    mh P w K (.Tuple es k0 pos) (wX K l1 l2) [z,TI,TO,i1,i2] z (pY z TI TO i1 i2 l1 l2) where
  mem:=by simp
  obj:=fun i h st b hb=>by
    obtain⟨hz,hI,⟨a,c,hO⟩,u1,u2⟩:=st
    simp only [List.mem_cons,List.not_mem_nil,or_false] at hb
    rcases hb with rfl | rfl | rfl | rfl | rfl
    · exact⟨_,hz,fun v z=>by cases z⟩
    · exact⟨_,hI,fun v z=>by cases z⟩
    · exact⟨_,hO,fun v z=>by cases z⟩
    · obtain⟨o,e,c,d⟩:=u1
      exact⟨o,e,fun v z=>by rw [d] at z;cases z⟩
    · obtain⟨o,e,c,d⟩:=u2
      exact⟨o,e,fun v z=>by rw [d] at z;cases z⟩
  keep:=fun i h h' st k=>by
    obtain⟨hz,hI,⟨a,c,hO⟩,u1,u2⟩:=st
    exact⟨k _ (by simp) _ hz,k _ (by simp) _ hI,⟨a,c,k _ (by simp) _ hO⟩,u1.at fun o e=>k _ (by simp) o e,u2.at fun o e=>k _ (by simp) o e⟩
  item:=by
    intro X hP hw hK hc i pins s σ H E I hf st hg
    subst hP hw hK
    obtain⟨xs,ys,x,y,q1,q2,hx,hy⟩:=hg
    obtain⟨hz,hI,⟨a,b,hO⟩,u1,u2⟩:=id st
    obtain⟨its1,rv1,p1,z1⟩:=I.list q1
    obtain⟨its2,rv2,p2,z2⟩:=I.tuple q2
    obtain⟨ux,hux,rux⟩:=rv1.get hx
    obtain⟨uy,huy,ruy⟩:=rv2.get hy
    have fz:=hf z (by simp);have fO:=hf TO (by simp);have f1:=hf i1 (by simp);have f2:=hf i2 (by simp)
    have D:ff z TI TO i1 i2 l1 l2:=⟨n1,n2,n3,n4,n5,n6,aq I fz q1,aq I fO q1,aq I f1 q1,aq I f2 q1,ay I fz q2,ay I fO q2,ay I f1 q2,ay I f2 q2⟩
    refine iQ (xs:=its1.toArray) (ys:=its2.toArray) (eD i1 l1) (gg i2 l2) D hz hI hO u1 u2 p1.isList p2 (by simpa using hux) (by simpa using huy) fun g gz gO g1 g2 gT gs gk=>?_
    refine⟨_,rfl,wpAny_letOwnedTupleGo_zip gz fun g' gz' ge=>?_⟩
    have lt:∀b∈[z,TI,TO,i1,i2],b < s.heap.objs.size:=fun b hb=>by
      simp only [List.mem_cons,List.not_mem_nil,or_false] at hb
      rcases hb with rfl | rfl | rfl | rfl | rfl
      · exact Heap.lt_size hz
      · exact Heap.lt_size hI
      · exact Heap.lt_size hO
      · obtain⟨o,e,_⟩:=u1;exact Heap.lt_size e
      · obtain⟨o,e,_⟩:=u2;exact Heap.lt_size e
    have hT:H s.heap.objs.size=none:=I.hok.fresh (Nat.le_refl _)
    have vv:aI [x,y] [ux,uy]:=.cons rux (.cons ruy .nil)
    have I1:aw X pins σ (aY H s.heap.objs.size (.tup [x,y])) {s with heap:=s.heap.push {cls:=.type "tuple",data:=.seq #[ux,uy]},toks:=s.toks}:=
      I.laid (t':=s.toks) (fun b u e=>Heap.get?_push_of_some _ e) (Nat.le_refl _) ⟨(by show 2≤sizeLine;decide),[ux,uy],vv,hV.new _ _⟩
    have hf1:∀b∈[z,TI,TO,i1,i2],fj X pins (aY H s.heap.objs.size (.tup [x,y])) b:=fun b hb=>by
      obtain⟨f0,fr⟩:=hf b hb
      exact⟨by rw [aE (Nat.ne_of_lt (lt b hb))];exact f0,fr⟩
    have nzT:s.heap.objs.size≠z:=Nat.ne_of_gt (lt z (by simp))
    have I2:aw X pins σ (aY H s.heap.objs.size (.tup [x,y])) {s with heap:=g',toks:=s.toks}:=by
      refine I1.turnedL (t':=s.toks) hf1 fun b o nb e=>?_
      have nb':b≠z∧b≠TI∧b≠TO∧b≠i1∧b≠i2:=by simpa using nb
      refine ge.extBut _ _ nb'.1 ?_
      rcases Heap.get?_push_cases e with ⟨rfl,rfl⟩ | e
      · exact gT
      · exact gk b o nb'.1 nb'.2.2.1 nb'.2.2.2.1 nb'.2.2.2.2 e
    refine⟨.ref s.heap.objs.size,_,I2,rfl,⟨_,x,y,rfl,hT,rfl,fun xs' ys' w1 w2=>?_⟩,⟨gz',ge.extBut _ _ n7 (gk _ _ n7 n8 n9 n10 hI),⟨ux,uy,ge.extBut _ _ n1 gO⟩,g1.at fun o e=>ge.extBut _ _ n2 e,g2.at fun o e=>ge.extBut _ _ n3 e⟩,fun b hb=>(hf1 b hb).1⟩
    rw [I.list_inj w1 q1,I.tuple_inj w2 q2]
    exact⟨hx,hy⟩
  done:=by
    intro X hP hw hK hc i pins s σ H E I hf st hg
    subst hP hw hK
    obtain⟨xs,ys,q1,q2,hn⟩:=hg
    obtain⟨hz,hI,⟨a,b,hO⟩,u1,u2⟩:=id st
    obtain⟨its1,rv1,p1,z1⟩:=I.list q1
    obtain⟨its2,rv2,p2,z2⟩:=I.tuple q2
    have fz:=hf z (by simp);have fO:=hf TO (by simp);have f1:=hf i1 (by simp);have f2:=hf i2 (by simp)
    have D:ff z TI TO i1 i2 l1 l2:=⟨n1,n2,n3,n4,n5,n6,aq I fz q1,aq I fO q1,aq I f1 q1,aq I f2 q1,ay I fz q2,ay I fO q2,ay I f1 q2,ay I f2 q2⟩
    have e1:=rv1.length
    have e2:=rv2.length
    refine iR (xs:=its1.toArray) (ys:=its2.toArray) (I.ok.hd hc) (eD i1 l1) (gg i2 l2) D hz hI hO u1 u2 p1.isList p2 ?_ fun g gk=>⟨rfl,I.turnedL (t':=s.toks) hf fun b o nb e=>?_⟩
    · rcases hn with hn | hn
      · exact .inl (by simp;lia)
      · exact .inr (by simp;lia)
    · have nb':b≠z∧b≠TI∧b≠TO∧b≠i1∧b≠i2:=by simpa using nb
      exact gk b o nb'.1 nb'.2.2.1 nb'.2.2.2.1 nb'.2.2.2.2 e
  self:=fun A i s Q E st h=>wpAny_pyIter_zip st.1 h
theorem qV(l1 l2:Addr)(xs ys:Array Value):
    Meets (Builtin.«zip.__new__» ⟨[.type "zip",.ref l1,.ref l2],[]⟩) (fun _ R s=>s.heap.IsList l1 xs∧s.heap.IsTuple l2 ys∧
      R (.ok (.ret (.ref (s.heap.objs.size+4)))) {s with heap:=((((s.heap.push {cls:=.type "list_iterator",data:=.fields #[.ref l1,.int 0 0]}).push {cls:=.type "tuple_iterator",data:=.fields #[.ref l2,.int 0 0]}).push {cls:=.type "tuple",data:=.seq #[.ref s.heap.objs.size,.ref (s.heap.objs.size+1)]}).push {cls:=.type "tuple",data:=.seq #[.none,.none]}).push {cls:=.type "zip",data:=.fields #[.none,.bool false,.bool false,.ref (s.heap.objs.size+2),.ref (s.heap.objs.size+3)]}}):=
  .of_wp fun prog w A R s h=>by
    obtain⟨hp,g,d,tk,os⟩:=s;obtain⟨t1,t2,h⟩:=h;have sz:=PySem.sub_zip
    have T1:Heap.IsList (Shared.heap ⟨hp,g,d,tk,os⟩) l1 xs:=t1
    have T2:Heap.IsTuple (Shared.heap ⟨hp.push {cls:=.type "list_iterator",data:=.fields #[.ref l1,.int 0 0]},g,d,tk,os⟩) l2 ys:=Heap.IsTuple.push t2 _
    wp_walk using wpAny_pyIter_list T1,wpAny_pyIter_tuple T2
    refine⟨_,rfl,?_⟩
    simp only [Heap.size_push]
    exact h
section
variable{prog:Program}{w:World}{A:Around}{E:Value→Shared→Prop}{s:Shared}
theorem oV{l1 l2:Addr}{xs ys:Array Value}{Q:Value→Shared→Prop}(t1:s.heap.IsList l1 xs)(t2:s.heap.IsTuple l2 ys)
    (h:∀g,pY (s.heap.objs.size+4) (s.heap.objs.size+2) (s.heap.objs.size+3) s.heap.objs.size (s.heap.objs.size+1) l1 l2 0 g→(∀c o,s.heap.get? c=some o→g.get? c=some o)→Q (.ref (s.heap.objs.size+4)) {s with heap:=g}):
    wpAny (model prog w) A (call (.type "zip") [.ref l1,.ref l2]) Q E s:=by
  refine callType_new F.called_zip (by decide) (F.typeCall_zip_2 _ _) (F.newCall_zip_2 _ _) (fun obj=>F.args_object_init_3 obj _ _) F.entry_zip_new (qV l1 l2 xs ys) ⟨t1,t2,?_⟩
  have at5:∀(g:Heap) (o:Obj) (a:Addr),o.isFreed=false→a=g.objs.size→(g.push o).get? a=some o:=fun g o a hf e=>by rw [e];exact Heap.get?_push_size _ hf
  have g5:=at5 ((((s.heap.push {cls:=.type "list_iterator",data:=.fields #[.ref l1,.int 0 0]}).push {cls:=.type "tuple_iterator",data:=.fields #[.ref l2,.int 0 0]}).push {cls:=.type "tuple",data:=.seq #[.ref s.heap.objs.size,.ref (s.heap.objs.size+1)]}).push {cls:=.type "tuple",data:=.seq #[.none,.none]}) {cls:=.type "zip",data:=.fields #[.none,.bool false,.bool false,.ref (s.heap.objs.size+2),.ref (s.heap.objs.size+3)]} (s.heap.objs.size+4) rfl (by simp only [Heap.size_push])
  have g4:=at5 (((s.heap.push {cls:=.type "list_iterator",data:=.fields #[.ref l1,.int 0 0]}).push {cls:=.type "tuple_iterator",data:=.fields #[.ref l2,.int 0 0]}).push {cls:=.type "tuple",data:=.seq #[.ref s.heap.objs.size,.ref (s.heap.objs.size+1)]}) {cls:=.type "tuple",data:=.seq #[.none,.none]} (s.heap.objs.size+3) rfl (by simp only [Heap.size_push])
  have g3:=at5 ((s.heap.push {cls:=.type "list_iterator",data:=.fields #[.ref l1,.int 0 0]}).push {cls:=.type "tuple_iterator",data:=.fields #[.ref l2,.int 0 0]}) {cls:=.type "tuple",data:=.seq #[.ref s.heap.objs.size,.ref (s.heap.objs.size+1)]} (s.heap.objs.size+2) rfl (by simp only [Heap.size_push])
  have g2:=at5 (s.heap.push {cls:=.type "list_iterator",data:=.fields #[.ref l1,.int 0 0]}) {cls:=.type "tuple_iterator",data:=.fields #[.ref l2,.int 0 0]} (s.heap.objs.size+1) rfl (by simp only [Heap.size_push])
  have g1:=at5 s.heap {cls:=.type "list_iterator",data:=.fields #[.ref l1,.int 0 0]} s.heap.objs.size rfl rfl
  have up:∀{g:Heap} {a:Addr} {u:Obj} (o:Obj),g.get? a=some u→(g.push o).get? a=some u:=fun o e=>Heap.get?_push_of_some o e
  refine⟨⟨_,g5,rfl⟩,h _ ⟨g5,up _ (up _ g3),⟨_,_,up _ g4⟩,⟨_,up _ (up _ (up _ (up _ g1))),rfl,rfl⟩,⟨_,up _ (up _ (up _ g2)),rfl,rfl⟩⟩ fun c o x=>up _ (up _ (up _ (up _ (up _ x))))⟩
end
def yn(K:PySem.W.Frag)(ta:TA):TI:=fun σ H R=>ta σ H fun vs H1=>∃a b,vs=[.ref a,.ref b]∧(∃xs,ce K H1 a xs)∧(∃ys,bK K H1 b ys)∧R (wX K a b) H1
theorem s_{X:Cx}{K:PySem.W.Frag}{es:List Expr}{k0:Nat}{tp:Pos}{a b:Expr}{ta:TA}{p pos:Pos}(hK:X.K=K)(hg:Gl X "zip")(hm:X.mg "zip"=none)(ha:PA X [a,b] ta)(hs:starEach [a,b] X.env=[(false,eval a X.env),(false,eval b X.env)]:=by rfl)(hs2:starEach [b] X.env=[(false,eval b X.env)]:=by rfl):
    PI X (.Tuple es k0 tp) (.Call (.Name "zip" p) [a,b] [] pos) (yn K ta):=by
  intro pins s σ H R I h
  subst hK
  refine Call_ (eF I hg hm ib (PyProof.Rows.callWith_type1 (bH (ha pos pins s σ H _ I h) fun us s1 ⟨vs,H1,I1,r1,q1⟩=>?_) (by rw [hs,hs2]) (by rw [hs2];rfl)))
  obtain⟨a,b,e,⟨xs,qx⟩,⟨ys,qy⟩,q⟩:=q1
  subst e
  cases r1 with
  | cons r rr=>
    cases rr with
    | cons r' rr=>
      cases rr
      cases r
      cases r'
      obtain⟨i1,v1,p1,_⟩:=I1.list qx
      obtain⟨i2,v2,p2,_⟩:=I1.tuple qy
      refine oV p1.isList p2 fun g st hk=>wpAny_pyIter_zip st.1 ?_
      have I2:aw X pins σ H1 {s1 with heap:=g,toks:=s1.toks}:=I1.kept (t':=s1.toks) fun b o e=>hk b o e
      refine⟨s1.heap.objs.size+4,[s1.heap.objs.size+4,s1.heap.objs.size+2,s1.heap.objs.size+3,s1.heap.objs.size,s1.heap.objs.size+1],_,_,H1,rfl,I2,oK a b (show((s1.heap.objs.size+3:Nat)≠s1.heap.objs.size+4) by lia) (show((s1.heap.objs.size:Nat)≠s1.heap.objs.size+4) by lia) (show((s1.heap.objs.size+1:Nat)≠s1.heap.objs.size+4) by lia) (show((s1.heap.objs.size+3:Nat)≠s1.heap.objs.size) by lia) (show((s1.heap.objs.size+3:Nat)≠s1.heap.objs.size+1) by lia) (show((s1.heap.objs.size:Nat)≠s1.heap.objs.size+1) by lia) (show((s1.heap.objs.size+2:Nat)≠s1.heap.objs.size+4) by lia) (show((s1.heap.objs.size+2:Nat)≠s1.heap.objs.size+3) by lia) (show((s1.heap.objs.size+2:Nat)≠s1.heap.objs.size) by lia) (show((s1.heap.objs.size+2:Nat)≠s1.heap.objs.size+1) by lia),st,fun c hc=>?_,q⟩
      have le:s1.heap.objs.size≤c:=by
        simp only [List.mem_cons,List.not_mem_nil,or_false] at hc
        rcases hc with rfl | rfl | rfl | rfl | rfl
        · exact Nat.le_add_right _ 4
        · exact Nat.le_add_right _ 2
        · exact Nat.le_add_right _ 3
        · exact Nat.le_refl _
        · exact Nat.le_add_right _ 1
      have f:=I1.fpOk (H':=H1) le (I1.hok.fresh le)
      exact f
def wY(K:PySem.W.Frag)(l1 l2:Addr):It:=
  ⟨fun i H=>∃xs ys x y,bK K H l1 xs∧ce K H l2 ys∧xs[i]?=some x∧ys[i]?=some y,
   fun i H v H'=>∃p x y,v=.ref p∧H p=none∧H'=aY H p (.tup [x,y])∧∀xs ys,bK K H l1 xs→ce K H l2 ys→xs[i]?=some x∧ys[i]?=some y,
   fun i H=>∃xs ys,bK K H l1 xs∧ce K H l2 ys∧(xs.length≤i∨ys.length≤i)⟩
def pZ(z TI TO i1 i2 l1 l2:Addr)(i:Nat)(h:Heap):Prop:=IsZip h z TI TO .none∧IsPair h TI (.ref i1) (.ref i2)∧(∃a b,IsPair h TO a b)∧h.IsTupleIter i1 l1 i∧h.IsListIter i2 l2 i
theorem oM{P:Program}{w:World}{K:PySem.W.Frag}{es:List Expr}{k0:Nat}{pos:Pos}{z TI TO i1 i2:Addr}(l1 l2:Addr)(n1:TO≠z)(n2:i1≠z)(n3:i2≠z)(n4:TO≠i1)(n5:TO≠i2)(n6:i1≠i2)(n7:TI≠z)(n8:TI≠TO)(n9:TI≠i1)(n10:TI≠i2):
    mh P w K (.Tuple es k0 pos) (wY K l1 l2) [z,TI,TO,i1,i2] z (pZ z TI TO i1 i2 l1 l2) where
  mem:=by simp
  obj:=fun i h st b hb=>by
    obtain⟨hz,hI,⟨a,c,hO⟩,u1,u2⟩:=st
    simp only [List.mem_cons,List.not_mem_nil,or_false] at hb
    rcases hb with rfl | rfl | rfl | rfl | rfl
    · exact⟨_,hz,fun v z=>by cases z⟩
    · exact⟨_,hI,fun v z=>by cases z⟩
    · exact⟨_,hO,fun v z=>by cases z⟩
    · obtain⟨o,e,c,d⟩:=u1
      exact⟨o,e,fun v z=>by rw [d] at z;cases z⟩
    · obtain⟨o,e,c,d⟩:=u2
      exact⟨o,e,fun v z=>by rw [d] at z;cases z⟩
  keep:=fun i h h' st k=>by
    obtain⟨hz,hI,⟨a,c,hO⟩,u1,u2⟩:=st
    exact⟨k _ (by simp) _ hz,k _ (by simp) _ hI,⟨a,c,k _ (by simp) _ hO⟩,u1.at fun o e=>k _ (by simp) o e,u2.at fun o e=>k _ (by simp) o e⟩
  item:=by
    intro X hP hw hK hc i pins s σ H E I hf st hg
    subst hP hw hK
    obtain⟨xs,ys,x,y,q1,q2,hx,hy⟩:=hg
    obtain⟨hz,hI,⟨a,b,hO⟩,u1,u2⟩:=id st
    obtain⟨its1,rv1,p1,z1⟩:=I.tuple q1
    obtain⟨its2,rv2,p2,z2⟩:=I.list q2
    obtain⟨ux,hux,rux⟩:=rv1.get hx
    obtain⟨uy,huy,ruy⟩:=rv2.get hy
    have fz:=hf z (by simp);have fO:=hf TO (by simp);have f1:=hf i1 (by simp);have f2:=hf i2 (by simp)
    have D:ff z TI TO i1 i2 l1 l2:=⟨n1,n2,n3,n4,n5,n6,ay I fz q1,ay I fO q1,ay I f1 q1,ay I f2 q1,aq I fz q2,aq I fO q2,aq I f1 q2,aq I f2 q2⟩
    refine iQ (xs:=its1.toArray) (ys:=its2.toArray) (gg i1 l1) (eD i2 l2) D hz hI hO u1 u2 p1 p2.isList (by simpa using hux) (by simpa using huy) fun g gz gO g1 g2 gT gs gk=>?_
    refine⟨_,rfl,wpAny_letOwnedTupleGo_zip gz fun g' gz' ge=>?_⟩
    have lt:∀b∈[z,TI,TO,i1,i2],b < s.heap.objs.size:=fun b hb=>by
      simp only [List.mem_cons,List.not_mem_nil,or_false] at hb
      rcases hb with rfl | rfl | rfl | rfl | rfl
      · exact Heap.lt_size hz
      · exact Heap.lt_size hI
      · exact Heap.lt_size hO
      · obtain⟨o,e,_⟩:=u1;exact Heap.lt_size e
      · obtain⟨o,e,_⟩:=u2;exact Heap.lt_size e
    have hT:H s.heap.objs.size=none:=I.hok.fresh (Nat.le_refl _)
    have vv:aI [x,y] [ux,uy]:=.cons rux (.cons ruy .nil)
    have I1:aw X pins σ (aY H s.heap.objs.size (.tup [x,y])) {s with heap:=s.heap.push {cls:=.type "tuple",data:=.seq #[ux,uy]},toks:=s.toks}:=
      I.laid (t':=s.toks) (fun b u e=>Heap.get?_push_of_some _ e) (Nat.le_refl _) ⟨(by show 2≤sizeLine;decide),[ux,uy],vv,hV.new _ _⟩
    have hf1:∀b∈[z,TI,TO,i1,i2],fj X pins (aY H s.heap.objs.size (.tup [x,y])) b:=fun b hb=>by
      obtain⟨f0,fr⟩:=hf b hb
      exact⟨by rw [aE (Nat.ne_of_lt (lt b hb))];exact f0,fr⟩
    have nzT:s.heap.objs.size≠z:=Nat.ne_of_gt (lt z (by simp))
    have I2:aw X pins σ (aY H s.heap.objs.size (.tup [x,y])) {s with heap:=g',toks:=s.toks}:=by
      refine I1.turnedL (t':=s.toks) hf1 fun b o nb e=>?_
      have nb':b≠z∧b≠TI∧b≠TO∧b≠i1∧b≠i2:=by simpa using nb
      refine ge.extBut _ _ nb'.1 ?_
      rcases Heap.get?_push_cases e with ⟨rfl,rfl⟩ | e
      · exact gT
      · exact gk b o nb'.1 nb'.2.2.1 nb'.2.2.2.1 nb'.2.2.2.2 e
    refine⟨.ref s.heap.objs.size,_,I2,rfl,⟨_,x,y,rfl,hT,rfl,fun xs' ys' w1 w2=>?_⟩,⟨gz',ge.extBut _ _ n7 (gk _ _ n7 n8 n9 n10 hI),⟨ux,uy,ge.extBut _ _ n1 gO⟩,g1.at fun o e=>ge.extBut _ _ n2 e,g2.at fun o e=>ge.extBut _ _ n3 e⟩,fun b hb=>(hf1 b hb).1⟩
    rw [I.tuple_inj w1 q1,I.list_inj w2 q2]
    exact⟨hx,hy⟩
  done:=by
    intro X hP hw hK hc i pins s σ H E I hf st hg
    subst hP hw hK
    obtain⟨xs,ys,q1,q2,hn⟩:=hg
    obtain⟨hz,hI,⟨a,b,hO⟩,u1,u2⟩:=id st
    obtain⟨its1,rv1,p1,z1⟩:=I.tuple q1
    obtain⟨its2,rv2,p2,z2⟩:=I.list q2
    have fz:=hf z (by simp);have fO:=hf TO (by simp);have f1:=hf i1 (by simp);have f2:=hf i2 (by simp)
    have D:ff z TI TO i1 i2 l1 l2:=⟨n1,n2,n3,n4,n5,n6,ay I fz q1,ay I fO q1,ay I f1 q1,ay I f2 q1,aq I fz q2,aq I fO q2,aq I f1 q2,aq I f2 q2⟩
    have e1:=rv1.length
    have e2:=rv2.length
    refine iR (xs:=its1.toArray) (ys:=its2.toArray) (I.ok.hd hc) (gg i1 l1) (eD i2 l2) D hz hI hO u1 u2 p1 p2.isList ?_ fun g gk=>⟨rfl,I.turnedL (t':=s.toks) hf fun b o nb e=>?_⟩
    · rcases hn with hn | hn
      · exact .inl (by simp;lia)
      · exact .inr (by simp;lia)
    · have nb':b≠z∧b≠TI∧b≠TO∧b≠i1∧b≠i2:=by simpa using nb
      exact gk b o nb'.1 nb'.2.2.1 nb'.2.2.2.1 nb'.2.2.2.2 e
  self:=fun A i s Q E st h=>wpAny_pyIter_zip st.1 h
theorem qW(l1 l2:Addr)(xs ys:Array Value):
    Meets (Builtin.«zip.__new__» ⟨[.type "zip",.ref l1,.ref l2],[]⟩) (fun _ R s=>s.heap.IsTuple l1 xs∧s.heap.IsList l2 ys∧
      R (.ok (.ret (.ref (s.heap.objs.size+4)))) {s with heap:=((((s.heap.push {cls:=.type "tuple_iterator",data:=.fields #[.ref l1,.int 0 0]}).push {cls:=.type "list_iterator",data:=.fields #[.ref l2,.int 0 0]}).push {cls:=.type "tuple",data:=.seq #[.ref s.heap.objs.size,.ref (s.heap.objs.size+1)]}).push {cls:=.type "tuple",data:=.seq #[.none,.none]}).push {cls:=.type "zip",data:=.fields #[.none,.bool false,.bool false,.ref (s.heap.objs.size+2),.ref (s.heap.objs.size+3)]}}):=
  .of_wp fun prog w A R s h=>by
    obtain⟨hp,g,d,tk,os⟩:=s;obtain⟨t1,t2,h⟩:=h;have sz:=PySem.sub_zip
    have T1:Heap.IsTuple (Shared.heap ⟨hp,g,d,tk,os⟩) l1 xs:=t1
    have T2:Heap.IsList (Shared.heap ⟨hp.push {cls:=.type "tuple_iterator",data:=.fields #[.ref l1,.int 0 0]},g,d,tk,os⟩) l2 ys:=Heap.IsList.push t2 _
    wp_walk using wpAny_pyIter_tuple T1,wpAny_pyIter_list T2
    refine⟨_,rfl,?_⟩
    simp only [Heap.size_push]
    exact h
section
variable{prog:Program}{w:World}{A:Around}{E:Value→Shared→Prop}{s:Shared}
theorem oW{l1 l2:Addr}{xs ys:Array Value}{Q:Value→Shared→Prop}(t1:s.heap.IsTuple l1 xs)(t2:s.heap.IsList l2 ys)
    (h:∀g,pZ (s.heap.objs.size+4) (s.heap.objs.size+2) (s.heap.objs.size+3) s.heap.objs.size (s.heap.objs.size+1) l1 l2 0 g→(∀c o,s.heap.get? c=some o→g.get? c=some o)→Q (.ref (s.heap.objs.size+4)) {s with heap:=g}):
    wpAny (model prog w) A (call (.type "zip") [.ref l1,.ref l2]) Q E s:=by
  refine callType_new F.called_zip (by decide) (F.typeCall_zip_2 _ _) (F.newCall_zip_2 _ _) (fun obj=>F.args_object_init_3 obj _ _) F.entry_zip_new (qW l1 l2 xs ys) ⟨t1,t2,?_⟩
  have at5:∀(g:Heap) (o:Obj) (a:Addr),o.isFreed=false→a=g.objs.size→(g.push o).get? a=some o:=fun g o a hf e=>by rw [e];exact Heap.get?_push_size _ hf
  have g5:=at5 ((((s.heap.push {cls:=.type "tuple_iterator",data:=.fields #[.ref l1,.int 0 0]}).push {cls:=.type "list_iterator",data:=.fields #[.ref l2,.int 0 0]}).push {cls:=.type "tuple",data:=.seq #[.ref s.heap.objs.size,.ref (s.heap.objs.size+1)]}).push {cls:=.type "tuple",data:=.seq #[.none,.none]}) {cls:=.type "zip",data:=.fields #[.none,.bool false,.bool false,.ref (s.heap.objs.size+2),.ref (s.heap.objs.size+3)]} (s.heap.objs.size+4) rfl (by simp only [Heap.size_push])
  have g4:=at5 (((s.heap.push {cls:=.type "tuple_iterator",data:=.fields #[.ref l1,.int 0 0]}).push {cls:=.type "list_iterator",data:=.fields #[.ref l2,.int 0 0]}).push {cls:=.type "tuple",data:=.seq #[.ref s.heap.objs.size,.ref (s.heap.objs.size+1)]}) {cls:=.type "tuple",data:=.seq #[.none,.none]} (s.heap.objs.size+3) rfl (by simp only [Heap.size_push])
  have g3:=at5 ((s.heap.push {cls:=.type "tuple_iterator",data:=.fields #[.ref l1,.int 0 0]}).push {cls:=.type "list_iterator",data:=.fields #[.ref l2,.int 0 0]}) {cls:=.type "tuple",data:=.seq #[.ref s.heap.objs.size,.ref (s.heap.objs.size+1)]} (s.heap.objs.size+2) rfl (by simp only [Heap.size_push])
  have g2:=at5 (s.heap.push {cls:=.type "tuple_iterator",data:=.fields #[.ref l1,.int 0 0]}) {cls:=.type "list_iterator",data:=.fields #[.ref l2,.int 0 0]} (s.heap.objs.size+1) rfl (by simp only [Heap.size_push])
  have g1:=at5 s.heap {cls:=.type "tuple_iterator",data:=.fields #[.ref l1,.int 0 0]} s.heap.objs.size rfl rfl
  have up:∀{g:Heap} {a:Addr} {u:Obj} (o:Obj),g.get? a=some u→(g.push o).get? a=some u:=fun o e=>Heap.get?_push_of_some o e
  refine⟨⟨_,g5,rfl⟩,h _ ⟨g5,up _ (up _ g3),⟨_,_,up _ g4⟩,⟨_,up _ (up _ (up _ (up _ g1))),rfl,rfl⟩,⟨_,up _ (up _ (up _ g2)),rfl,rfl⟩⟩ fun c o x=>up _ (up _ (up _ (up _ (up _ x))))⟩
end
def yo(K:PySem.W.Frag)(ta:TA):TI:=fun σ H R=>ta σ H fun vs H1=>∃a b,vs=[.ref a,.ref b]∧(∃xs,bK K H1 a xs)∧(∃ys,ce K H1 b ys)∧R (wY K a b) H1
theorem tf{X:Cx}{K:PySem.W.Frag}{es:List Expr}{k0:Nat}{tp:Pos}{a b:Expr}{ta:TA}{p pos:Pos}(hK:X.K=K)(hg:Gl X "zip")(hm:X.mg "zip"=none)(ha:PA X [a,b] ta)(hs:starEach [a,b] X.env=[(false,eval a X.env),(false,eval b X.env)]:=by rfl)(hs2:starEach [b] X.env=[(false,eval b X.env)]:=by rfl):
    PI X (.Tuple es k0 tp) (.Call (.Name "zip" p) [a,b] [] pos) (yo K ta):=by
  intro pins s σ H R I h
  subst hK
  refine Call_ (eF I hg hm ib (PyProof.Rows.callWith_type1 (bH (ha pos pins s σ H _ I h) fun us s1 ⟨vs,H1,I1,r1,q1⟩=>?_) (by rw [hs,hs2]) (by rw [hs2];rfl)))
  obtain⟨a,b,e,⟨xs,qx⟩,⟨ys,qy⟩,q⟩:=q1
  subst e
  cases r1 with
  | cons r rr=>
    cases rr with
    | cons r' rr=>
      cases rr
      cases r
      cases r'
      obtain⟨i1,v1,p1,_⟩:=I1.tuple qx
      obtain⟨i2,v2,p2,_⟩:=I1.list qy
      refine oW p1 p2.isList fun g st hk=>wpAny_pyIter_zip st.1 ?_
      have I2:aw X pins σ H1 {s1 with heap:=g,toks:=s1.toks}:=I1.kept (t':=s1.toks) fun b o e=>hk b o e
      refine⟨s1.heap.objs.size+4,[s1.heap.objs.size+4,s1.heap.objs.size+2,s1.heap.objs.size+3,s1.heap.objs.size,s1.heap.objs.size+1],_,_,H1,rfl,I2,oM a b (show((s1.heap.objs.size+3:Nat)≠s1.heap.objs.size+4) by lia) (show((s1.heap.objs.size:Nat)≠s1.heap.objs.size+4) by lia) (show((s1.heap.objs.size+1:Nat)≠s1.heap.objs.size+4) by lia) (show((s1.heap.objs.size+3:Nat)≠s1.heap.objs.size) by lia) (show((s1.heap.objs.size+3:Nat)≠s1.heap.objs.size+1) by lia) (show((s1.heap.objs.size:Nat)≠s1.heap.objs.size+1) by lia) (show((s1.heap.objs.size+2:Nat)≠s1.heap.objs.size+4) by lia) (show((s1.heap.objs.size+2:Nat)≠s1.heap.objs.size+3) by lia) (show((s1.heap.objs.size+2:Nat)≠s1.heap.objs.size) by lia) (show((s1.heap.objs.size+2:Nat)≠s1.heap.objs.size+1) by lia),st,fun c hc=>?_,q⟩
      have le:s1.heap.objs.size≤c:=by
        simp only [List.mem_cons,List.not_mem_nil,or_false] at hc
        rcases hc with rfl | rfl | rfl | rfl | rfl
        · exact Nat.le_add_right _ 4
        · exact Nat.le_add_right _ 2
        · exact Nat.le_add_right _ 3
        · exact Nat.le_refl _
        · exact Nat.le_add_right _ 1
      have f:=I1.fpOk (H':=H1) le (I1.hok.fresh le)
      exact f
def wW(K:PySem.W.Frag)(l1 l2:Addr):It:=
  ⟨fun i H=>∃xs ys x y,ce K H l1 xs∧ce K H l2 ys∧xs[i]?=some x∧ys[i]?=some y,
   fun i H v H'=>∃p x y,v=.ref p∧H p=none∧H'=aY H p (.tup [x,y])∧∀xs ys,ce K H l1 xs→ce K H l2 ys→xs[i]?=some x∧ys[i]?=some y,
   fun i H=>∃xs ys,ce K H l1 xs∧ce K H l2 ys∧(xs.length≤i∨ys.length≤i)⟩
def pX(z TI TO i1 i2 l1 l2:Addr)(i:Nat)(h:Heap):Prop:=IsZip h z TI TO .none∧IsPair h TI (.ref i1) (.ref i2)∧(∃a b,IsPair h TO a b)∧h.IsListIter i1 l1 i∧h.IsListIter i2 l2 i
theorem oJ{P:Program}{w:World}{K:PySem.W.Frag}{es:List Expr}{k0:Nat}{pos:Pos}{z TI TO i1 i2:Addr}(l1 l2:Addr)(n1:TO≠z)(n2:i1≠z)(n3:i2≠z)(n4:TO≠i1)(n5:TO≠i2)(n6:i1≠i2)(n7:TI≠z)(n8:TI≠TO)(n9:TI≠i1)(n10:TI≠i2):
    mh P w K (.Tuple es k0 pos) (wW K l1 l2) [z,TI,TO,i1,i2] z (pX z TI TO i1 i2 l1 l2) where
  mem:=by simp
  obj:=fun i h st b hb=>by
    obtain⟨hz,hI,⟨a,c,hO⟩,u1,u2⟩:=st
    simp only [List.mem_cons,List.not_mem_nil,or_false] at hb
    rcases hb with rfl | rfl | rfl | rfl | rfl
    · exact⟨_,hz,fun v z=>by cases z⟩
    · exact⟨_,hI,fun v z=>by cases z⟩
    · exact⟨_,hO,fun v z=>by cases z⟩
    · obtain⟨o,e,c,d⟩:=u1
      exact⟨o,e,fun v z=>by rw [d] at z;cases z⟩
    · obtain⟨o,e,c,d⟩:=u2
      exact⟨o,e,fun v z=>by rw [d] at z;cases z⟩
  keep:=fun i h h' st k=>by
    obtain⟨hz,hI,⟨a,c,hO⟩,u1,u2⟩:=st
    exact⟨k _ (by simp) _ hz,k _ (by simp) _ hI,⟨a,c,k _ (by simp) _ hO⟩,u1.at fun o e=>k _ (by simp) o e,u2.at fun o e=>k _ (by simp) o e⟩
  item:=by
    intro X hP hw hK hc i pins s σ H E I hf st hg
    subst hP hw hK
    obtain⟨xs,ys,x,y,q1,q2,hx,hy⟩:=hg
    obtain⟨hz,hI,⟨a,b,hO⟩,u1,u2⟩:=id st
    obtain⟨its1,rv1,p1,z1⟩:=I.list q1
    obtain⟨its2,rv2,p2,z2⟩:=I.list q2
    obtain⟨ux,hux,rux⟩:=rv1.get hx
    obtain⟨uy,huy,ruy⟩:=rv2.get hy
    have fz:=hf z (by simp);have fO:=hf TO (by simp);have f1:=hf i1 (by simp);have f2:=hf i2 (by simp)
    have D:ff z TI TO i1 i2 l1 l2:=⟨n1,n2,n3,n4,n5,n6,aq I fz q1,aq I fO q1,aq I f1 q1,aq I f2 q1,aq I fz q2,aq I fO q2,aq I f1 q2,aq I f2 q2⟩
    refine iQ (xs:=its1.toArray) (ys:=its2.toArray) (eD i1 l1) (eD i2 l2) D hz hI hO u1 u2 p1.isList p2.isList (by simpa using hux) (by simpa using huy) fun g gz gO g1 g2 gT gs gk=>?_
    refine⟨_,rfl,wpAny_letOwnedTupleGo_zip gz fun g' gz' ge=>?_⟩
    have lt:∀b∈[z,TI,TO,i1,i2],b < s.heap.objs.size:=fun b hb=>by
      simp only [List.mem_cons,List.not_mem_nil,or_false] at hb
      rcases hb with rfl | rfl | rfl | rfl | rfl
      · exact Heap.lt_size hz
      · exact Heap.lt_size hI
      · exact Heap.lt_size hO
      · obtain⟨o,e,_⟩:=u1;exact Heap.lt_size e
      · obtain⟨o,e,_⟩:=u2;exact Heap.lt_size e
    have hT:H s.heap.objs.size=none:=I.hok.fresh (Nat.le_refl _)
    have vv:aI [x,y] [ux,uy]:=.cons rux (.cons ruy .nil)
    have I1:aw X pins σ (aY H s.heap.objs.size (.tup [x,y])) {s with heap:=s.heap.push {cls:=.type "tuple",data:=.seq #[ux,uy]},toks:=s.toks}:=
      I.laid (t':=s.toks) (fun b u e=>Heap.get?_push_of_some _ e) (Nat.le_refl _) ⟨(by show 2≤sizeLine;decide),[ux,uy],vv,hV.new _ _⟩
    have hf1:∀b∈[z,TI,TO,i1,i2],fj X pins (aY H s.heap.objs.size (.tup [x,y])) b:=fun b hb=>by
      obtain⟨f0,fr⟩:=hf b hb
      exact⟨by rw [aE (Nat.ne_of_lt (lt b hb))];exact f0,fr⟩
    have nzT:s.heap.objs.size≠z:=Nat.ne_of_gt (lt z (by simp))
    have I2:aw X pins σ (aY H s.heap.objs.size (.tup [x,y])) {s with heap:=g',toks:=s.toks}:=by
      refine I1.turnedL (t':=s.toks) hf1 fun b o nb e=>?_
      have nb':b≠z∧b≠TI∧b≠TO∧b≠i1∧b≠i2:=by simpa using nb
      refine ge.extBut _ _ nb'.1 ?_
      rcases Heap.get?_push_cases e with ⟨rfl,rfl⟩ | e
      · exact gT
      · exact gk b o nb'.1 nb'.2.2.1 nb'.2.2.2.1 nb'.2.2.2.2 e
    refine⟨.ref s.heap.objs.size,_,I2,rfl,⟨_,x,y,rfl,hT,rfl,fun xs' ys' w1 w2=>?_⟩,⟨gz',ge.extBut _ _ n7 (gk _ _ n7 n8 n9 n10 hI),⟨ux,uy,ge.extBut _ _ n1 gO⟩,g1.at fun o e=>ge.extBut _ _ n2 e,g2.at fun o e=>ge.extBut _ _ n3 e⟩,fun b hb=>(hf1 b hb).1⟩
    rw [I.list_inj w1 q1,I.list_inj w2 q2]
    exact⟨hx,hy⟩
  done:=by
    intro X hP hw hK hc i pins s σ H E I hf st hg
    subst hP hw hK
    obtain⟨xs,ys,q1,q2,hn⟩:=hg
    obtain⟨hz,hI,⟨a,b,hO⟩,u1,u2⟩:=id st
    obtain⟨its1,rv1,p1,z1⟩:=I.list q1
    obtain⟨its2,rv2,p2,z2⟩:=I.list q2
    have fz:=hf z (by simp);have fO:=hf TO (by simp);have f1:=hf i1 (by simp);have f2:=hf i2 (by simp)
    have D:ff z TI TO i1 i2 l1 l2:=⟨n1,n2,n3,n4,n5,n6,aq I fz q1,aq I fO q1,aq I f1 q1,aq I f2 q1,aq I fz q2,aq I fO q2,aq I f1 q2,aq I f2 q2⟩
    have e1:=rv1.length
    have e2:=rv2.length
    refine iR (xs:=its1.toArray) (ys:=its2.toArray) (I.ok.hd hc) (eD i1 l1) (eD i2 l2) D hz hI hO u1 u2 p1.isList p2.isList ?_ fun g gk=>⟨rfl,I.turnedL (t':=s.toks) hf fun b o nb e=>?_⟩
    · rcases hn with hn | hn
      · exact .inl (by simp;lia)
      · exact .inr (by simp;lia)
    · have nb':b≠z∧b≠TI∧b≠TO∧b≠i1∧b≠i2:=by simpa using nb
      exact gk b o nb'.1 nb'.2.2.1 nb'.2.2.2.1 nb'.2.2.2.2 e
  self:=fun A i s Q E st h=>wpAny_pyIter_zip st.1 h
theorem qU(l1 l2:Addr)(xs ys:Array Value):
    Meets (Builtin.«zip.__new__» ⟨[.type "zip",.ref l1,.ref l2],[]⟩) (fun _ R s=>s.heap.IsList l1 xs∧s.heap.IsList l2 ys∧
      R (.ok (.ret (.ref (s.heap.objs.size+4)))) {s with heap:=((((s.heap.push {cls:=.type "list_iterator",data:=.fields #[.ref l1,.int 0 0]}).push {cls:=.type "list_iterator",data:=.fields #[.ref l2,.int 0 0]}).push {cls:=.type "tuple",data:=.seq #[.ref s.heap.objs.size,.ref (s.heap.objs.size+1)]}).push {cls:=.type "tuple",data:=.seq #[.none,.none]}).push {cls:=.type "zip",data:=.fields #[.none,.bool false,.bool false,.ref (s.heap.objs.size+2),.ref (s.heap.objs.size+3)]}}):=
  .of_wp fun prog w A R s h=>by
    obtain⟨hp,g,d,tk,os⟩:=s;obtain⟨t1,t2,h⟩:=h;have sz:=PySem.sub_zip
    have T1:Heap.IsList (Shared.heap ⟨hp,g,d,tk,os⟩) l1 xs:=t1
    have T2:Heap.IsList (Shared.heap ⟨hp.push {cls:=.type "list_iterator",data:=.fields #[.ref l1,.int 0 0]},g,d,tk,os⟩) l2 ys:=Heap.IsList.push t2 _
    wp_walk using wpAny_pyIter_list T1,wpAny_pyIter_list T2
    refine⟨_,rfl,?_⟩
    simp only [Heap.size_push]
    exact h
section
variable{prog:Program}{w:World}{A:Around}{E:Value→Shared→Prop}{s:Shared}
theorem oU{l1 l2:Addr}{xs ys:Array Value}{Q:Value→Shared→Prop}(t1:s.heap.IsList l1 xs)(t2:s.heap.IsList l2 ys)
    (h:∀g,pX (s.heap.objs.size+4) (s.heap.objs.size+2) (s.heap.objs.size+3) s.heap.objs.size (s.heap.objs.size+1) l1 l2 0 g→(∀c o,s.heap.get? c=some o→g.get? c=some o)→Q (.ref (s.heap.objs.size+4)) {s with heap:=g}):
    wpAny (model prog w) A (call (.type "zip") [.ref l1,.ref l2]) Q E s:=by
  refine callType_new F.called_zip (by decide) (F.typeCall_zip_2 _ _) (F.newCall_zip_2 _ _) (fun obj=>F.args_object_init_3 obj _ _) F.entry_zip_new (qU l1 l2 xs ys) ⟨t1,t2,?_⟩
  have at5:∀(g:Heap) (o:Obj) (a:Addr),o.isFreed=false→a=g.objs.size→(g.push o).get? a=some o:=fun g o a hf e=>by rw [e];exact Heap.get?_push_size _ hf
  have g5:=at5 ((((s.heap.push {cls:=.type "list_iterator",data:=.fields #[.ref l1,.int 0 0]}).push {cls:=.type "list_iterator",data:=.fields #[.ref l2,.int 0 0]}).push {cls:=.type "tuple",data:=.seq #[.ref s.heap.objs.size,.ref (s.heap.objs.size+1)]}).push {cls:=.type "tuple",data:=.seq #[.none,.none]}) {cls:=.type "zip",data:=.fields #[.none,.bool false,.bool false,.ref (s.heap.objs.size+2),.ref (s.heap.objs.size+3)]} (s.heap.objs.size+4) rfl (by simp only [Heap.size_push])
  have g4:=at5 (((s.heap.push {cls:=.type "list_iterator",data:=.fields #[.ref l1,.int 0 0]}).push {cls:=.type "list_iterator",data:=.fields #[.ref l2,.int 0 0]}).push {cls:=.type "tuple",data:=.seq #[.ref s.heap.objs.size,.ref (s.heap.objs.size+1)]}) {cls:=.type "tuple",data:=.seq #[.none,.none]} (s.heap.objs.size+3) rfl (by simp only [Heap.size_push])
  have g3:=at5 ((s.heap.push {cls:=.type "list_iterator",data:=.fields #[.ref l1,.int 0 0]}).push {cls:=.type "list_iterator",data:=.fields #[.ref l2,.int 0 0]}) {cls:=.type "tuple",data:=.seq #[.ref s.heap.objs.size,.ref (s.heap.objs.size+1)]} (s.heap.objs.size+2) rfl (by simp only [Heap.size_push])
  have g2:=at5 (s.heap.push {cls:=.type "list_iterator",data:=.fields #[.ref l1,.int 0 0]}) {cls:=.type "list_iterator",data:=.fields #[.ref l2,.int 0 0]} (s.heap.objs.size+1) rfl (by simp only [Heap.size_push])
  have g1:=at5 s.heap {cls:=.type "list_iterator",data:=.fields #[.ref l1,.int 0 0]} s.heap.objs.size rfl rfl
  have up:∀{g:Heap} {a:Addr} {u:Obj} (o:Obj),g.get? a=some u→(g.push o).get? a=some u:=fun o e=>Heap.get?_push_of_some o e
  refine⟨⟨_,g5,rfl⟩,h _ ⟨g5,up _ (up _ g3),⟨_,_,up _ g4⟩,⟨_,up _ (up _ (up _ (up _ g1))),rfl,rfl⟩,⟨_,up _ (up _ (up _ g2)),rfl,rfl⟩⟩ fun c o x=>up _ (up _ (up _ (up _ (up _ x))))⟩
end
def ym(K:PySem.W.Frag)(ta:TA):TI:=fun σ H R=>ta σ H fun vs H1=>∃a b,vs=[.ref a,.ref b]∧(∃xs,ce K H1 a xs)∧(∃ys,ce K H1 b ys)∧R (wW K a b) H1
theorem sZ{X:Cx}{K:PySem.W.Frag}{es:List Expr}{k0:Nat}{tp:Pos}{a b:Expr}{ta:TA}{p pos:Pos}(hK:X.K=K)(hg:Gl X "zip")(hm:X.mg "zip"=none)(ha:PA X [a,b] ta)(hs:starEach [a,b] X.env=[(false,eval a X.env),(false,eval b X.env)]:=by rfl)(hs2:starEach [b] X.env=[(false,eval b X.env)]:=by rfl):
    PI X (.Tuple es k0 tp) (.Call (.Name "zip" p) [a,b] [] pos) (ym K ta):=by
  intro pins s σ H R I h
  subst hK
  refine Call_ (eF I hg hm ib (PyProof.Rows.callWith_type1 (bH (ha pos pins s σ H _ I h) fun us s1 ⟨vs,H1,I1,r1,q1⟩=>?_) (by rw [hs,hs2]) (by rw [hs2];rfl)))
  obtain⟨a,b,e,⟨xs,qx⟩,⟨ys,qy⟩,q⟩:=q1
  subst e
  cases r1 with
  | cons r rr=>
    cases rr with
    | cons r' rr=>
      cases rr
      cases r
      cases r'
      obtain⟨i1,v1,p1,_⟩:=I1.list qx
      obtain⟨i2,v2,p2,_⟩:=I1.list qy
      refine oU p1.isList p2.isList fun g st hk=>wpAny_pyIter_zip st.1 ?_
      have I2:aw X pins σ H1 {s1 with heap:=g,toks:=s1.toks}:=I1.kept (t':=s1.toks) fun b o e=>hk b o e
      refine⟨s1.heap.objs.size+4,[s1.heap.objs.size+4,s1.heap.objs.size+2,s1.heap.objs.size+3,s1.heap.objs.size,s1.heap.objs.size+1],_,_,H1,rfl,I2,oJ a b (show((s1.heap.objs.size+3:Nat)≠s1.heap.objs.size+4) by lia) (show((s1.heap.objs.size:Nat)≠s1.heap.objs.size+4) by lia) (show((s1.heap.objs.size+1:Nat)≠s1.heap.objs.size+4) by lia) (show((s1.heap.objs.size+3:Nat)≠s1.heap.objs.size) by lia) (show((s1.heap.objs.size+3:Nat)≠s1.heap.objs.size+1) by lia) (show((s1.heap.objs.size:Nat)≠s1.heap.objs.size+1) by lia) (show((s1.heap.objs.size+2:Nat)≠s1.heap.objs.size+4) by lia) (show((s1.heap.objs.size+2:Nat)≠s1.heap.objs.size+3) by lia) (show((s1.heap.objs.size+2:Nat)≠s1.heap.objs.size) by lia) (show((s1.heap.objs.size+2:Nat)≠s1.heap.objs.size+1) by lia),st,fun c hc=>?_,q⟩
      have le:s1.heap.objs.size≤c:=by
        simp only [List.mem_cons,List.not_mem_nil,or_false] at hc
        rcases hc with rfl | rfl | rfl | rfl | rfl
        · exact Nat.le_add_right _ 4
        · exact Nat.le_add_right _ 2
        · exact Nat.le_add_right _ 3
        · exact Nat.le_refl _
        · exact Nat.le_add_right _ 1
      have f:=I1.fpOk (H':=H1) le (I1.hok.fresh le)
      exact f
end L2
namespace L2
open PySem PySem.Spec PyProof.Rows
theorem oy{X:Cx}{ix:Nat}{nm:Str}{posn poss:Pos}{elt iter tg:Expr}{ifs:List Expr}{scope:Scope}{pos:Pos}{wi:TI}{g:TG}{tc:TT}{te:TE}(sc0:Scope)(N0:List Str)(cp:List (Nat × Str))(tgN:List Str)
    (hc:X.calm=true)(hsc:X.env.scope=sc0)(hN0:X.N=N0)(hi:PI X tg iter wi)
    (hg:∀C s0 H0 fp,PG (aP X scope cp tgN C s0 H0 fp) tg g)
    (ht:∀C s0 H0 fp,rg (aP X scope cp tgN C s0 H0 fp) ifs tc)
    (he:∀C s0 H0 fp,PE (aP X scope cp tgN C s0 H0 fp) elt te)
    (hk:scope.kind=.function)(hcell:∀y∈scope.names,y.2≠.cell)(hnames:∀y∈scope.names,y.2=.local→scope.names.lookup y.1=some .local)
    (hfr:∀y∈scope.names,y.2=.free→scope.names.lookup y.1=some .free∧sc0.names.lookup y.1=some .cell)
    (hcp:∀p∈cp,N0[p.1]?=some p.2)(hcq:∀p∈cp,sc0.names.lookup p.2=some .cell∧scope.names.lookup p.2=some .free)
    (hNd:X.N.Nodup)(hix:X.N[ix]?=some nm)(hlc:X.env.scope.names.lookup nm=some .local)(hsw:swapsWith (.ListComp elt [⟨tg,iter,ifs,0⟩] scope pos) (some (.Name nm posn)) poss.line X.env=pure true)
    (hs:∀x,foldedSetIterable iter X.env x=pure x:=by intro _;rfl):
    PS X (.Assign [.Name nm posn] (.ListComp elt [⟨tg,iter,ifs,0⟩] scope pos) poss) (zX (pR cp tgN.length wi g tc te) (rT ix)):=by
  intro pins s σ H D0 I h
  let Q:VK:=fun x H1=>D0.nx (σ.set ix (some x)) H1
  have h:pR cp tgN.length wi g tc te σ H Q:=h
  have hkind:∀x,X.env.kindOf x=sc0.names.lookup x:=fun x=>by unfold Env.kindOf;rw [hsc]
  have hfree:∀y∈scope.names,y.2=.free→∃c,X.env.cells.lookup y.1=some c:=fun y hy e=>I.ok.has y.1 (.inl (by rw [hkind];exact(hfr y hy e).2))
  rw [exec_Assign_Name_used _ _ _ _ hsw]
  refine wpAny_bind (wpAny_standAt (wpAny_bind ?_))
  unfold evalThenUse
  refine wpAny_bind ?_
  refine wpAny_comprehension_free (use:=some (assign (.Name nm posn) X.env)) rfl hs (jL hfree) hk hnames (wpAny_mono (hi pins s σ H _ I h.go) (fun xv s₁ h₁=>wpAny_mono h₁ (fun itv s₂ h₂=>?_) fun _ _ e=>e) fun _ _ e=>e)
  obtain⟨it,fp,tn,J,H2,rfl,I2,T,st2,f2,hq⟩:=h₂
  refine wpAny_newObj_type ?_
  have hlF:H2 s₂.heap.objs.size=none:=I2.hok.fresh (Nat.le_refl _)
  have I3:aw X pins σ (aY H2 s₂.heap.objs.size (.lst [])) {s₂ with heap:=s₂.heap.push {cls:=.type "list",data:=.seq ([]:List Value).toArray}}:=I2.lnew (t':=s₂.toks) .nil (Nat.zero_le _)
  obtain⟨W,⟨m0,w0⟩,turn⟩:=hq _ hlF
  have f3:∀b∈fp,fj X pins (aY H2 s₂.heap.objs.size (.lst [])) b:=fun b hb=>by
    obtain⟨f0,fr⟩:=f2 b hb
    obtain⟨o,ho,_⟩:=T.obj _ _ st2 b hb
    exact⟨by rw [aE (Nat.ne_of_lt (Heap.lt_size ho))];exact f0,fr⟩
  have st3:tn 0 (s₂.heap.push {cls:=.type "list",data:=.seq ([]:List Value).toArray}):=T.keep _ _ _ st2 fun b _ o e=>Heap.get?_push_of_some _ e
  generalize hD:s₂.heap.objs.size=D at*
  generalize hs3:({s₂ with heap:=s₂.heap.push {cls:=.type "list",data:=.seq ([]:List Value).toArray}}:Shared)=s₃ at*
  have hst3:tn 0 s₃.heap:=by rw [←hs3];exact st3
  refine wpAny_newFunctionEnv hcell (by intro y hy;simp at hy) (fun h₁ hns₁ hsb₁=>?_) hk
  generalize hC:s₃.heap.objs.size=C at*
  have old:∀b o,s₃.heap.get? b=some o→h₁.get? b=some o:=fun b o e=>hsb₁.extBut b o (by rw [←hC];exact Nat.ne_of_lt (Heap.lt_size e)) (Heap.get?_push_of_some _ e)
  have nC:∀b o,s₃.heap.get? b=some o→b≠C:=fun b o e=>by rw [←hC];exact Nat.ne_of_lt (Heap.lt_size e)
  have hHC:(aY H2 D (.lst [])) C=none:=I3.hok.fresh (by rw [hC];exact Nat.le_refl _)
  have clS:∀x c,(fq X.env scope.names []).lookup x=some c→X.env.cells.lookup x=some c:=fun x c e=>gM _ _ x c hfree (fun _ _ z=>by simp at z) e
  have clH:∀x,(∃y∈scope.names,y.1=x∧y.2=.free)→∃c,(fq X.env scope.names []).lookup x=some c:=fun x e=>jK _ _ x (.inl e)
  have ok':(aP X scope cp tgN C s₃ (aY H2 D (.lst [])) fp).Ok:=by
    refine⟨I.ok.mod,hk,I.ok.glob,I.ok.blt,by rw [←hC];exact Nat.le_refl _,fun x y c e1 e2=>I.ok.inj x y c (clS _ _ e1) (clS _ _ e2),fun x e=>clH x (cS hcell e),fun x c e1 e2=>?_,I.ok.hd,I.ok.frames,.inl rfl,fun b hb=>?_,fun b o e=>I3.bs b o e,?_,fun b o e hb=>?_,fun b hb z=>?_,I3.stack,fun b hb=>I3.stkFree b hb⟩
    · exfalso
      have e1':scope.names.lookup x=some .local:=by simpa [aP] using e1
      have e2':=clS x c e2
      obtain⟨c',hc'⟩:∃y∈scope.names,y.1=x∧y.2=.free:=by
        by_cases q:∃y∈scope.names,y.1=x∧y.2=.free
        · exact q
        · exfalso
          have:∀(names:List (Str × NameKind)) (cs:List (Str × Addr)),(¬∃y∈names,y.1=x∧y.2=.free)→cs.lookup x=none→(fq X.env names cs).lookup x=none:=by
            intro names
            induction names with
            | nil=>intro cs _ h;exact h
            | cons y r ih=>
              intro cs hn hcs
              obtain⟨n,k⟩:=y
              refine ih _ (fun⟨y,hy,z⟩=>hn ⟨y,List.mem_cons_of_mem _ hy,z⟩) ?_
              by_cases hk:(k==NameKind.free)=true
              · rw [if_pos hk,List.lookup_cons]
                cases hx:x==n with
                | true=>exact absurd ⟨(n,k),List.mem_cons_self,(by simpa using hx:x=n).symm,by simpa using hk⟩ hn
                | false=>exact hcs
              · rw [if_neg hk];exact hcs
          have z:=this scope.names [] q rfl
          have e2'':(fq X.env scope.names []).lookup x=some c:=e2
          rw [z] at e2'';cases e2''
      have z:=(hfr c' hc'.1 hc'.2.2).1
      rw [hc'.2.1,e1'] at z;cases z
    · obtain⟨f0,f1,f4,f5,f6,f7⟩:=f3 b hb
      obtain⟨o,ho,_⟩:=T.obj _ _ hst3 b hb
      exact⟨nC b o ho,fun x c e=>f6 x c (clS x c e)⟩
    · exact Nat.le_trans I.ok.bsz I3.sz
    · obtain⟨f0,f1,f4,f5,f6,f7⟩:=f3 b hb
      rcases f5 with z | z
      · exact I.ok.noex b o e z
      · have:=(I.ok.bs b o e).1
        exact absurd (Nat.lt_of_lt_of_le (Heap.lt_size this) z) (Nat.lt_irrefl _)
    · obtain⟨f0,f1,f4,f5,f6,f7⟩:=f3 b hb
      rcases List.mem_cons.mp (I3.stkSub b z) with z | z
      · exact f1 z
      · exact f4 z
  have I4:aw (aP X scope cp tgN C s₃ (aY H2 D (.lst [])) fp) [] (eQ cp tgN.length σ) (aY H2 D (.lst [])) {s₃ with heap:=h₁,toks:=s₃.toks+([]:List (Str × Value)).length}:=by
    refine⟨ok',rfl,I3.bare,Un.kept old,⟨_,hns₁,fun i x v e1 e2 e3=>?_⟩,fun x c e=>?_,hHC,fun x c e=>I3.freeC x c (clS x c e),fun p hp=>by simp [aP] at hp,I3.hok.kept old,by simp [eQ,aP]⟩
    · have hlt:i < cp.length:=by
        by_cases q:i < cp.length
        · exact q
        · exfalso
          unfold eQ at e2
          rw [List.getElem?_append_right (by simp;lia)] at e2
          rw [List.getElem?_replicate] at e2
          split at e2<;>cases e2
      have e1':(cp.map (·.2))[i]?=some x:=by
        have e1'':(cp.map (·.2)++tgN)[i]?=some x:=e1
        rwa [List.getElem?_append_left (by simp;exact hlt)] at e1''
      have e2':(cp.map (fun p=>(σ[p.1]?).join))[i]?=some (some v):=by
        unfold eQ at e2
        rwa [List.getElem?_append_left (by simp;exact hlt)] at e2
      rw [List.getElem?_map,List.getElem?_eq_getElem hlt] at e1' e2'
      have ex:(cp[i]).2=x:=by simpa using e1'
      have ev:(σ[(cp[i]).1]?).join=some v:=by simpa using e2'
      have ev':σ[(cp[i]).1]?=some (some v):=by
        cases q:σ[(cp[i]).1]? with
        | none=>rw [q] at ev;cases ev
        | some z=>rw [q] at ev;simp only [Option.join_some] at ev;rw [ev]
      have hN:=hcp cp[i] (List.getElem_mem hlt)
      rw [←hN0] at hN
      obtain⟨hcl,hcf⟩:=hcq cp[i] (List.getElem_mem hlt)
      rw [ex] at hN hcl hcf
      obtain⟨m,hn,hl⟩:=I3.loc
      obtain⟨u,r,l⟩:=hl _ x v hN ev' (.inr (.inl (by rw [hsc];exact hcl)))
      refine⟨u,r,.inr ?_⟩
      rcases l with ⟨k1,_⟩ | ⟨k1,c,hcc,o,ho,hd⟩
      · rw [hkind,hcl] at k1;cases k1
      · have e3':(relabel scope X.env).names.lookup x=some .local∨(relabel scope X.env).names.lookup x=some .cell∨(relabel scope X.env).names.lookup x=some .free:=e3
        have nl:(relabel scope X.env).names.lookup x=some .cell∨(relabel scope X.env).names.lookup x=some .free:=by
          rcases e3' with z | z | z
          · exact absurd z (dG hcf)
          · exact .inl z
          · exact .inr z
        obtain⟨c',hc'⟩:=clH x (cS hcell nl)
        have:=clS x c' hc'
        rw [hcc] at this;cases this
        exact⟨nl,c,hc',o,old c o ho,hd⟩
    · obtain⟨v,o,ho,hd⟩:=I3.cell x c (clS x c e)
      exact⟨v,o,old c o ho,hd⟩
  have hst4:tn 0 h₁:=T.keep _ _ _ hst3 fun b _ o e=>old b o e
  have loop:codeAny (model X.prog X.w) X.A (.compLoop (.ListComp elt [⟨tg,iter,ifs,0⟩] scope pos) 0 (.ref it) (.ref D) (compEnvC scope (fq X.env scope.names []) C X.env))
      (compPost (model X.prog X.w) X.A X.xe (some (assign (.Name nm posn) X.env)) (fun _ s'=>wpAny (model X.prog X.w) X.A (pure ()) (fun _ s''=>wpAny (model X.prog X.w) X.A (pure Flow.next) (SP X pins D0) X.xe s'') X.xe s') (.ref D) C) {s₃ with heap:=h₁,toks:=s₃.toks+([]:List (Str × Value)).length}:=by
    refine ij (fun n s'=>∃i σ' H',aw (aP X scope cp tgN C s₃ (aY H2 D (.lst [])) fp) [] σ' H' s'∧tn i s'.heap∧(∀b∈fp,H' b=none)∧W i n σ' H') ?_ (n0:=m0) ⟨0,_,_,I4,hst4,fun b hb=>(f3 b hb).1,w0⟩
    rintro n s5 ⟨i,σ5,H5,I5,st5,fr5,w5⟩
    have stat:∀{H':Hp},(∀b∈fp,H' b=none)→∀b∈fp,fj (aP X scope cp tgN C s₃ (aY H2 D (.lst [])) fp) [] H' b:=fun hn b hb=>
      ⟨hn b hb,(ok'.exf b hb).1,ok'.exfs b hb,.inl hb,(ok'.exf b hb).2,fun p hp=>by simp [aP] at hp⟩
    rcases turn i n σ5 H5 w5 with ⟨stop,qn⟩ | ⟨go,N,hN,step⟩
    · refine bH (T.done (aP X scope cp tgN C s₃ (aY H2 D (.lst [])) fp) rfl rfl rfl hc i [] s5 σ5 H5 (fun _ _=>False) I5 (stat fr5) st5 stop) fun r s6 ⟨hr,I6⟩=>?_
      subst hr
      refine⟨fun _=>?_,fun v z=>by cases z⟩
      obtain⟨m,hn,_⟩:=I6.loc
      have I7:aw X pins σ H5 s6:=by
        have key:∀h':Heap,Heap.SameBut C s6.heap h'→aw X pins σ H5 {s6 with heap:=h'}:=fun h' sb=>by
          have ub:=I6.base
          have kp:∀b u,b≠C→s6.heap.get? b=some u→h'.get? b=some u:=fun b u ne e=>sb.extBut b u ne e
          have nit:∀b u,H5 b=some u→b≠C:=fun b u e z=>by
            have:=I6.free
            rw [z] at e
            rw [show H5 C=none from this] at e;cases e
          refine I3.call' (s':={s6 with heap:=h'}) (ch:=fp) I6.os ⟨fun b o e n hb hx=>kp b o (nC b o e) (ub.keep b o e n hb hx),fun b o e n hb hx=>?_,ub.free,fun b o e hx=>?_,ub.tups,ub.frzs,ub.tbls⟩ (fun b u e=>?_) I6.bare (fun b hb=>?_)
          · obtain⟨sl,q⟩:=ub.slot b o e n hb hx
            exact⟨sl,kp b _ (nC b o e) q⟩
          · obtain⟨o',q⟩:=ub.there b o e hx
            exact⟨o',kp b _ (nC b o e) q⟩
          · refine(I6.hok b u e).stay (fun c v hc q=>kp c v ?_ q) (fun _ q=>q) fun _ _ q=>q
            rcases hc with z | z
            · rw [z];exact nit b u e
            · exact nit c _ z
          · obtain⟨f0,f1,f4,f5,f6,f7⟩:=f3 b hb
            exact⟨f5,f1,f6,f7⟩
        exact key s6.heap ⟨rfl,fun _ _=>rfl⟩
      have fC:fj X pins H5 C:=I3.fpOk (by rw [hC];exact Nat.le_refl _) I6.free
      show wpAny (model X.prog X.w) X.A (assign (.Name nm posn) X.env (.ref D)) _ X.xe s6
      refine wpAny_assign_Name (lq (v:=.ref D) I7 hNd hix (Or.inl hlc) rfl (fun s' I' hsb=>?_) (Or.inr hlc))
      obtain⟨a,sb,ha⟩:=hsb
      have nCa:C≠a:=by
        rcases ha with z | z
        · rw [z];exact fC.2.1
        · exact fun e=>fC.2.2.2.2.1 _ _ z e.symm
      obtain⟨oN,esN,epN,hoN,rN⟩:=hn
      refine⟨m,⟨oN,esN,epN,(sb.2 C nCa).trans hoN,rN⟩,fun h' sb'=>wpAny_pure (wpAny_pure ?_)⟩
      have I8:aw X pins (σ.set ix (some (.ref D))) H5 {s' with heap:=h',toks:=s'.toks}:=I'.turnedL (t':=s'.toks) (fp:=[C]) (fun b hb=>by rw [List.mem_singleton.mp hb];exact fC) fun b o nb e=>sb'.extBut b o (by simpa using nb) e
      exact⟨_,H5,I8,qn⟩
    · refine bH (T.item (aP X scope cp tgN C s₃ (aY H2 D (.lst [])) fp) rfl rfl rfl hc i [] s5 σ5 H5 (fun _ _=>False) I5 (stat fr5) st5 go) fun r s6 ⟨u,hr,h6⟩=>?_
      subst hr
      refine⟨fun z=>(by cases z),fun v z=>?_⟩
      cases z
      refine bH h6 fun _ s7 ⟨x,H7,I7,r7,y7,st7,fr7⟩=>?_
      have I7':=I7.pinned (stat fr7) (T.obj _ _ st7)
      have again:∀{σ8:L2.St} {H8:Hp} {s8:Shared},aw (aP X scope cp tgN C s₃ (aY H2 D (.lst [])) fp) ([]++ja fp s7.heap) σ8 H8 s8→N σ8 H8→∃m,m < n∧∃i σ' H',aw (aP X scope cp tgN C s₃ (aY H2 D (.lst [])) fp) [] σ' H' s8∧tn i s8.heap∧(∀b∈fp,H' b=none)∧W i m σ' H':=fun{σ8 H8 s8} I8 n8=>by
        obtain⟨m',hm,w8⟩:=hN σ8 H8 n8
        refine⟨m',hm,i+1,σ8,H8,I8.unpinned,T.keep _ _ _ st7 fun b hb o e=>(I8.pin (b,o) (List.mem_append_right _ (List.mem_append_right _ (dg hb e)))).1,fun b hb=>?_,w8⟩
        obtain⟨o,e,d⟩:=T.obj _ _ st7 b hb
        exact(I8.pin (b,o) (List.mem_append_right _ (List.mem_append_right _ (dg hb e)))).2.1
      refine bH (hg C s₃ (aY H2 D (.lst [])) fp _ s7 σ5 H7 x u _ I7' r7 (step x H7 y7)) fun _ s8 ⟨σ8,H8,I8,q8⟩=>?_
      refine bH (ht C s₃ (aY H2 D (.lst [])) fp _ s8 σ8 H8 _ I8 q8) fun ok s9 ⟨H9,I9,q9⟩=>?_
      cases ok with
      | false=>
        rw [if_neg Bool.false_ne_true] at q9 ⊢
        exact again I9 q9
      | true=>
        rw [if_pos rfl] at q9 ⊢
        refine bH (he C s₃ (aY H2 D (.lst [])) fp _ s9 σ8 H9 _ I9 q9) fun v s10 ⟨xv,H10,I10,r10,ys,hl,hz,n10⟩=>?_
        refine bH (i8 _ s10 σ8 H10 (.ref D) [xv] (.ref D) [v] (fun _ H=>N σ8 H) I10 rfl (.cons r10 .nil) ⟨D,ys,xv,rfl,rfl,hl,hz,n10⟩) fun _ s11 ⟨_,H11,I11,_,q11⟩=>?_
        exact again I11 q11
  exact codeAny_compStart_list loop (T.self X.A 0 _ _ _ hst4 loop)
end L2
namespace L2
open PySem PySem.Spec PyProof.Rows
mutual
def DA(K:PySem.W.Frag)(F:Hp):PyData→V→Prop
  | .none,v=>v=.non
  | .bool b,v=>v=.bl b
  | .int i,v=>v=.int i
  | .str x,v=>v=.str x
  | .tuple ds,v=>∃a xs,v=.ref a∧bK K F a xs∧aH K F ds xs
  | .list ds,v=>∃a xs,v=.ref a∧ce K F a xs∧aH K F ds xs
  | .dict kvs,v=>∃(a:Addr) (m:List (Int × Int)),v=.ref a∧F a=some (.dK (m.map fun p=>(Sum.inl p.1,V.int p.2)))∧kvs=m.map fun p=>(PyData.int p.1,PyData.int p.2)
def aH(K:PySem.W.Frag)(F:Hp):List PyData→List V→Prop
  | [],xs=>xs=[]
  | d::ds,xs=>∃x r,xs=x::r∧DA K F d x∧aH K F ds r
end
mutual
theorem DA.mono{K:PySem.W.Frag}{F F':Hp}(h:av F F'):∀{d:PyData} {v:V},DA K F d v→DA K F' d v
  | .none,_,q=>by simp only [DA] at q ⊢;exact q
  | .bool b,_,q=>by simp only [DA] at q ⊢;exact q
  | .int i,_,q=>by simp only [DA] at q ⊢;exact q
  | .str x,_,q=>by simp only [DA] at q ⊢;exact q
  | .tuple ds,_,q=>by
    simp only [DA] at q ⊢
    obtain⟨a,xs,e,s,r⟩:=q
    exact⟨a,xs,e,h.tup s,aH.mono h r⟩
  | .list ds,_,q=>by
    simp only [DA] at q ⊢
    obtain⟨a,xs,e,s,r⟩:=q
    exact⟨a,xs,e,h.seq s,aH.mono h r⟩
  | .dict _,_,q=>by
    simp only [DA] at q ⊢
    obtain⟨a,m,e,s,k⟩:=q
    exact⟨a,m,e,h _ _ s,k⟩
theorem aH.mono{K:PySem.W.Frag}{F F':Hp}(h:av F F'):∀{ds:List PyData} {xs:List V},aH K F ds xs→aH K F' ds xs
  | [],_,q=>by simp only [aH] at q ⊢;exact q
  | d::ds,_,q=>by
    simp only [aH] at q ⊢
    obtain⟨x,r,e,a,b⟩:=q
    exact⟨x,r,e,DA.mono h a,aH.mono h b⟩
end
section
variable{K:PySem.W.Frag}{F:Hp}
theorem aH.len:∀{ds:List PyData} {xs:List V},aH K F ds xs→ds.length=xs.length
  | [],_,q=>by simp only [aH] at q;subst q;rfl
  | d::ds,_,q=>by
    simp only [aH] at q
    obtain⟨x,r,e,a,b⟩:=q
    subst e
    simp [aH.len b]
theorem aH.get:∀{ds:List PyData} {xs:List V} {i:Nat} {d:PyData},aH K F ds xs→ds[i]?=some d→∃v,xs[i]?=some v∧DA K F d v
  | [],_,_,_,_,h=>by simp at h
  | d::ds,_,i,d',q,h=>by
    simp only [aH] at q
    obtain⟨x,r,e,a,b⟩:=q
    subst e
    cases i with
    | zero=>simp at h;subst h;exact⟨x,rfl,a⟩
    | succ i=>
      obtain⟨v,h1,h2⟩:=aH.get (i:=i) b (by simpa using h)
      exact⟨v,by simpa using h1,h2⟩
theorem aH.append:∀{ds es:List PyData} {xs ys:List V},aH K F ds xs→aH K F es ys→aH K F (ds++es) (xs++ys)
  | [],_,_,_,q,s=>by simp only [aH] at q;subst q;simpa using s
  | d::ds,es,_,ys,q,s=>by
    simp only [aH] at q
    obtain⟨x,r,e,a,b⟩:=q
    subst e
    simp only [List.cons_append,aH]
    exact⟨x,_,rfl,a,aH.append b s⟩
theorem aH.one{d:PyData}{v:V}(h:DA K F d v):aH K F [d] [v]:=by simp only [aH];exact⟨_,_,rfl,h,rfl⟩
theorem aH.nil:aH K F [] []:=by simp only [aH]
theorem aH.cons{d:PyData}{v:V}{ds:List PyData}{vs:List V}(h:DA K F d v)(r:aH K F ds vs):aH K F (d::ds) (v::vs):=by simp only [aH];exact⟨_,_,rfl,h,r⟩
theorem aH.drop:∀{ds:List PyData} {xs:List V} (n:Nat),aH K F ds xs→aH K F (ds.drop n) (xs.drop n)
  | _,_,0,q=>q
  | [],_,n+1,q=>by simp only [aH] at q;subst q;exact aH.nil
  | d::ds,_,n+1,q=>by
    simp only [aH] at q
    obtain⟨x,r,e,a,b⟩:=q
    subst e
    simpa using aH.drop n b
theorem aH.take:∀{ds:List PyData} {xs:List V} (n:Nat),aH K F ds xs→aH K F (ds.take n) (xs.take n)
  | _,_,0,q=>by simpa using aH.nil
  | [],_,n+1,q=>by simp only [aH] at q;subst q;exact aH.nil
  | d::ds,_,n+1,q=>by
    simp only [aH] at q
    obtain⟨x,r,e,a,b⟩:=q
    subst e
    simpa using aH.cons a (aH.take n b)
theorem aH.erase:∀{ds:List PyData} {xs:List V} (n:Nat),aH K F ds xs→aH K F (ds.eraseIdx n) (xs.eraseIdx n)
  | [],_,_,q=>by simp only [aH] at q;subst q;exact aH.nil
  | e::ds,_,n,q=>by
    simp only [aH] at q
    obtain⟨x,r,e,a,b⟩:=q
    subst e
    cases n with
    | zero=>exact b
    | succ n=>exact aH.cons a (aH.erase n b)
theorem aH.ints:∀{ns:List Int} {xs:List V},aH K F (ns.map .int) xs↔ xs=ns.map V.int
  | [],xs=>by simp [aH]
  | n::ns,xs=>by
    simp only [List.map_cons,aH,DA]
    constructor
    · rintro⟨x,r,e,rfl,q⟩;rw [e,aH.ints.mp q]
    · rintro rfl;exact⟨_,_,rfl,rfl,aH.ints.mpr rfl⟩
theorem aH.bools:∀{ns:List Bool} {xs:List V},aH K F (ns.map .bool) xs↔ xs=ns.map V.bl
  | [],xs=>by simp [aH]
  | n::ns,xs=>by
    simp only [List.map_cons,aH,DA]
    constructor
    · rintro⟨x,r,e,rfl,q⟩;rw [e,aH.bools.mp q]
    · rintro rfl;exact⟨_,_,rfl,rfl,aH.bools.mpr rfl⟩
theorem cx{i:Int}{v:V}:DA K F (.int i) v↔ v=.int i:=by simp only [DA]
theorem cn{b:Bool}{v:V}:DA K F (.bool b) v↔ v=.bl b:=by simp only [DA]
theorem gw{v:V}:DA K F .none v↔ v=.non:=by simp only [DA]
theorem nY{x:Str}{v:V}:DA K F (.str x) v↔ v=.str x:=by simp only [DA]
theorem cF{ds:List PyData}{v:V}:DA K F (.tuple ds) v↔ ∃a xs,v=.ref a∧bK K F a xs∧aH K F ds xs:=by simp only [DA]
theorem cN{ds:List PyData}{v:V}:DA K F (.list ds) v↔ ∃a xs,v=.ref a∧ce K F a xs∧aH K F ds xs:=by simp only [DA]
end
inductive Sv where
  | d (x:PyData)
  | l (xs:List PyData)
  /-- a list of lists that nobody else holds -/
  | n (xss:List (List PyData))
abbrev En:=List (Option Sv)
inductive Rv where
  | d (x:PyData)
  | l (xs:List PyData)
  | s (i:Nat)
def Fp(σ:L2.St)(e:En)(H:Hp)(i:Nat)(a:Addr):Prop:=(∃xs:List PyData,e[i]?=some (some (Sv.l xs))∧σ[i]?=some (some (.ref a)))∨
  ∃(xss:List (List PyData)) (l:Addr) (bs:List Addr),e[i]?=some (some (Sv.n xss))∧σ[i]?=some (some (.ref l))∧H l=some (.lst (bs.map V.ref))∧(a=l∨a∈bs)
def c_(σ:L2.St)(e:En)(H:Hp)(a:Addr):Prop:=∃i,Fp σ e H i a
structure a7 (K:PySem.W.Frag) (F H:Hp) (σ:L2.St) (e:En):Prop where
  sm:av F H
  len:σ.length=e.length
  dat:∀(i:Nat) (x:PyData),e[i]?=some (some (.d x))→∃v,σ[i]?=some (some v)∧DA K F x v
  own:∀(i:Nat) (xs:List PyData),e[i]?=some (some (.l xs))→∃l vs,σ[i]?=some (some (.ref l))∧F l=none∧H l=some (.lst vs)∧aH K F xs vs
  nst:∀(i:Nat) (xss:List (List PyData)),e[i]?=some (some (.n xss))→∃(l:Addr) (bs:List Addr),σ[i]?=some (some (.ref l))∧F l=none∧H l=some (.lst (bs.map V.ref))∧bs.length=xss.length∧bs.Nodup∧l∉bs∧
    ∀(k:Nat) (b:Addr) (ys:List PyData),bs[k]?=some b→xss[k]?=some ys→F b=none∧∃us,H b=some (.lst us)∧aH K F ys us
  fp:∀(i j:Nat) (a:Addr),Fp σ e H i a→Fp σ e H j a→i=j
theorem a7.inj{K:PySem.W.Frag}{F H:Hp}{σ:L2.St}{e:En}(R:a7 K F H σ e)(i j:Nat)(xs ys:List PyData)(l:Addr)(h1:e[i]?=some (some (.l xs)))(h2:e[j]?=some (some (.l ys)))(h3:σ[i]?=some (some (.ref l)))(h4:σ[j]?=some (some (.ref l))):i=j:=R.fp i j l (.inl ⟨xs,h1,h3⟩) (.inl ⟨ys,h2,h4⟩)
theorem a7.fpAt{K:PySem.W.Frag}{F H:Hp}{σ:L2.St}{e:En}(R:a7 K F H σ e){i:Nat}{a:Addr}(h:Fp σ e H i a):F a=none∧∃vs,H a=some (.lst vs):=by
  rcases h with ⟨xs,h1,h2⟩ | ⟨xss,l,bs,h1,h2,h3,h4⟩
  · obtain⟨l,vs,g1,g2,g3,_⟩:=R.own i xs h1
    rw [h2] at g1;cases g1
    exact⟨g2,vs,g3⟩
  · obtain⟨l',bs',g1,g2,g3,g4,g5,g6,g7⟩:=R.nst i xss h1
    rw [h2] at g1;cases g1
    rw [h3] at g3
    have e1:bs=bs':=by
      have:=HO.lst.inj (Option.some.inj g3)
      exact List.map_inj_right (fun _ _ z=>V.ref.inj z) |>.mp this
    subst e1
    rcases h4 with rfl | h4
    · exact⟨g2,_,h3⟩
    · obtain⟨k,hk⟩:=List.getElem?_of_mem h4
      have hk2:k < xss.length:=by rw [←g4];exact(List.getElem?_eq_some_iff.mp hk).1
      obtain⟨c1,us,c2,_⟩:=g7 k a xss[k] hk (List.getElem?_eq_getElem hk2)
      exact⟨c1,us,c2⟩
structure cZ (σ:L2.St) (F H:Hp) (e:En) (F' H':Hp) (e':En):Prop where
  sf:av F F'
  dom:∀a,H' a=none→H a=none
  fr:∀a vs,F a=none→H a=some (.lst vs)→¬c_ σ e H a→F' a=none
  lst:∀a vs,H a=some (.lst vs)→∃vs',H' a=some (.lst vs')
  tmp:∀a o,H a=some o→¬c_ σ e H a→H' a=some o
  shp:∀i:Nat,(∃xs,e'[i]?=some (some (.l xs)))↔ (∃xs,e[i]?=some (some (.l xs)))
  ow:∀a,c_ σ e' H' a→c_ σ e H a∨H a=none
theorem cZ.refl(σ:L2.St)(F H:Hp)(e:En):cZ σ F H e F H e:=⟨av.refl _,fun _ h=>h,fun _ _ h _ _=>h,fun _ vs h=>⟨vs,h⟩,fun _ _ h _=>h,fun _=>Iff.rfl,fun _ h=>.inl h⟩
theorem cZ.trans{σ:L2.St}{F H F1 H1 F2 H2:Hp}{e e1 e2:En}(x:cZ σ F H e F1 H1 e1)(y:cZ σ F1 H1 e1 F2 H2 e2):cZ σ F H e F2 H2 e2:=
  ⟨x.sf.trans y.sf,fun a h=>x.dom a (y.dom a h),fun a vs h n no=>let ⟨vs',q⟩:=x.lst a vs n;y.fr a vs' (x.fr a vs h n no) q (fun z=>(x.ow a z).elim no fun z=>by rw [n] at z;cases z),fun a vs h=>let ⟨vs',q⟩:=x.lst a vs h;y.lst a vs' q,
    fun a o h n=>y.tmp a o (x.tmp a o h n) (fun z=>(x.ow a z).elim n fun z=>by rw [h] at z;cases z),fun i=>(y.shp i).trans (x.shp i),fun a h=>(y.ow a h).elim (x.ow a) fun z=>.inr (x.dom a z)⟩
def bP(K:PySem.W.Frag)(σ:L2.St)(H0 F H:Hp)(e:En):Rv→V→Prop
  | .d x,v=>DA K F x v
  | .l xs,v=>∃l vs,v=.ref l∧H0 l=none∧F l=none∧H l=some (.lst vs)∧aH K F xs vs∧¬c_ σ e H l
  | .s i,v=>σ[i]?=some (some v)∧∃xs,e[i]?=some (some (.l xs))
section
variable{K:PySem.W.Frag}{σ:L2.St}{H0 F H F' H':Hp}{e e':En}{r:Rv}{v:V}
theorem bP.ext(h:bP K σ H0 F H e r v)(x:cZ σ F H e F' H' e'):bP K σ H0 F' H' e' r v:=by
  cases r with
  | d y=>exact DA.mono x.sf h
  | l xs=>
    obtain⟨l,vs,e1,h1,h2,h3,h4,h5⟩:=h
    exact⟨l,vs,e1,h1,x.fr l _ h2 h3 h5,x.tmp l _ h3 h5,aH.mono x.sf h4,fun z=>(x.ow l z).elim h5 fun z=>by rw [h3] at z;cases z⟩
  | s i=>exact⟨h.1,(x.shp i).mpr h.2⟩
theorem bP.weak{H1:Hp}(h:bP K σ H1 F H e r v)(d:∀a,H1 a=none→H0 a=none):bP K σ H0 F H e r v:=by
  cases r with
  | d y=>exact h
  | l xs=>
    obtain⟨l,vs,e1,h1,r⟩:=h
    exact⟨l,vs,e1,d l h1,r⟩
  | s i=>exact h
theorem a7.ownH(R:a7 K F H σ e)(a:Addr)(h:c_ σ e H a):H a≠none:=by
  obtain⟨i,h⟩:=h
  obtain⟨_,vs,h2⟩:=R.fpAt h
  rw [h2];simp
theorem a7.freeF(R:a7 K F H σ e){p:Addr}(hp:H p=none):F p=none:=R.sm.free hp
theorem u7(R:a7 K F H σ e)(h:∀l bs,H l=some (.lst bs)→c_ σ e H l→H' l=some (.lst bs)){i:Nat}{a:Addr}:Fp σ e H' i a↔ Fp σ e H i a:=by
  have key:∀xss l,e[i]?=some (some (.n xss))→σ[i]?=some (some (.ref l))→H' l=H l:=fun xss l h1 h2=>by
    obtain⟨l',bs,g1,g2,g3,_⟩:=R.nst i xss h1
    rw [h2] at g1;cases g1
    rw [g3]
    exact h l _ g3 ⟨i,.inr ⟨xss,l,bs,h1,h2,g3,.inl rfl⟩⟩
  constructor
  · rintro(h1 | ⟨xss,l,bs,h1,h2,h3,h4⟩)
    · exact .inl h1
    · exact .inr ⟨xss,l,bs,h1,h2,by rw [←key xss l h1 h2];exact h3,h4⟩
  · rintro(h1 | ⟨xss,l,bs,h1,h2,h3,h4⟩)
    · exact .inl h1
    · exact .inr ⟨xss,l,bs,h1,h2,by rw [key xss l h1 h2];exact h3,h4⟩
theorem a7.keep(R:a7 K F H σ e)(sF:av F F')(sm:av F' H')(hf:∀a,c_ σ e H a→F' a=none)(hh:∀a o,c_ σ e H a→H a=some o→H' a=some o):a7 K F' H' σ e∧∀a,c_ σ e H' a↔ c_ σ e H a:=by
  have fs:∀{i a},Fp σ e H' i a↔ Fp σ e H i a:=fun{i a}=>u7 R fun l bs h1 h2=>hh l _ h2 h1
  refine⟨⟨sm,R.len,fun i x h=>let ⟨v,h1,h2⟩:=R.dat i x h;⟨v,h1,DA.mono sF h2⟩,fun i xs h=>?_,fun i xss h=>?_,fun i j a h1 h2=>R.fp i j a (fs.mp h1) (fs.mp h2)⟩,fun a=>⟨fun⟨i,h⟩=>⟨i,fs.mp h⟩,fun⟨i,h⟩=>⟨i,fs.mpr h⟩⟩⟩
  · obtain⟨l,vs,h1,h2,h3,h4⟩:=R.own i xs h
    have o:c_ σ e H l:=⟨i,.inl ⟨xs,h,h1⟩⟩
    exact⟨l,vs,h1,hf l o,hh l _ o h3,h4.mono sF⟩
  · obtain⟨l,bs,h1,h2,h3,h4,h5,h6,h7⟩:=R.nst i xss h
    have o:c_ σ e H l:=⟨i,.inr ⟨xss,l,bs,h,h1,h3,.inl rfl⟩⟩
    refine⟨l,bs,h1,hf l o,hh l _ o h3,h4,h5,h6,fun k b ys g1 g2=>?_⟩
    obtain⟨c1,us,c2,c3⟩:=h7 k b ys g1 g2
    have ob:c_ σ e H b:=⟨i,.inr ⟨xss,l,bs,h,h1,h3,.inr (List.mem_of_getElem? g1)⟩⟩
    exact⟨hf b ob,us,hh b _ ob c2,c3.mono sF⟩
theorem a7.same(R:a7 K F H σ e)(s:av H H'):a7 K F H' σ e∧cZ σ F H e F H' e:=by
  obtain⟨R',o'⟩:=R.keep (av.refl F) (R.sm.trans s) (fun a ⟨i,h⟩=>(R.fpAt h).1) fun a o _ h=>s a o h
  exact⟨R',⟨av.refl _,fun a h=>s.free h,fun _ _ h _ _=>h,fun a vs h=>⟨vs,s _ _ h⟩,fun a o h _=>s a o h,fun _=>Iff.rfl,fun a h=>.inl ((o' a).mp h)⟩⟩
theorem a7.freeze(R:a7 K F H σ e){p:Addr}{o:HO}(hF:F p=none)(hp:H p=some o)(hn:¬c_ σ e H p):a7 K (aY F p o) H σ e∧av F (aY F p o):=by
  have sF:av F (aY F p o):=av.new hF
  refine⟨(R.keep sF (fun b u q=>?_) (fun a ha=>?_) fun _ _ _ h=>h).1,sF⟩
  · by_cases z:b=p
    · subst z;rw [ar] at q;cases q;exact hp
    · rw [aE z] at q;exact R.sm _ _ q
  · obtain⟨i,hi⟩:=ha
    have z:a≠p:=fun z=>hn ⟨i,by rw [←z];exact hi⟩
    rw [aE z];exact(R.fpAt hi).1
theorem a7.notOwn(R:a7 K F H σ e){p:Addr}{o:HO}(hp:H p=some o)(hl:∀vs,o≠.lst vs):¬c_ σ e H p:=fun⟨i,h⟩=>by
  obtain⟨_,vs,g⟩:=R.fpAt h
  rw [hp] at g;cases g
  exact hl _ rfl
theorem a7.newT(R:a7 K F H σ e){p:Addr}{vs:List V}(hp:H p=none):a7 K (aY F p (.tup vs)) (aY H p (.tup vs)) σ e∧cZ σ F H e (aY F p (.tup vs)) (aY H p (.tup vs)) e:=by
  have hF:=R.freeF hp
  obtain⟨R1,X1⟩:=R.same (av.new hp (o:=.tup vs))
  obtain⟨R2,s2⟩:=R1.freeze (p:=p) hF ar (R1.notOwn ar (fun _ z=>nomatch z))
  refine⟨R2,⟨s2,X1.dom,fun a ws h n _=>?_,X1.lst,X1.tmp,X1.shp,X1.ow⟩⟩
  have z:a≠p:=fun z=>by rw [z,hp] at n;cases n
  rw [aE z];exact h
theorem a7.sameOwn(R:a7 K F H σ e)(s:av H H')(a:Addr):c_ σ e H' a↔ c_ σ e H a:=(R.keep (av.refl F) (R.sm.trans s) (fun a ⟨i,h⟩=>(R.fpAt h).1) fun a o _ h=>s a o h).2 a
theorem a7.newL(R:a7 K F H σ e){p:Addr}{vs:List V}(hp:H p=none):a7 K F (aY H p (.lst vs)) σ e∧cZ σ F H e F (aY H p (.lst vs)) e∧F p=none∧¬c_ σ e (aY H p (.lst vs)) p:=
  ⟨(R.same (av.new hp)).1,(R.same (av.new hp)).2,R.freeF hp,fun z=>R.ownH p ((R.sameOwn (av.new hp) p).mp z) hp⟩
theorem a7.growT(R:a7 K F H σ e){p:Addr}{xs:List V}(s:av H H')(hp:bK K H' p xs):∃F',a7 K F' H' σ e∧cZ σ F H e F' H' e∧bK K F' p xs:=by
  obtain⟨R1,X1⟩:=R.same s
  rcases hp with hp | hp
  · have key:∀o,H' p=some o→(∀vs,o≠.lst vs)→(∀G:Hp,G p=some o→Rd G p (.tup xs))→∃F',a7 K F' H' σ e∧cZ σ F H e F' H' e∧bK K F' p xs:=by
      intro o ho hl hr
      cases q:F p with
      | some u=>
        have:=R1.sm _ _ q
        rw [ho] at this;cases this
        exact⟨F,R1,X1,.inl (hr F q)⟩
      | none=>
        obtain⟨R2,s2⟩:=R1.freeze q ho (R1.notOwn ho hl)
        refine⟨_,R2,⟨s2,X1.dom,fun a ws h n _=>?_,X1.lst,X1.tmp,X1.shp,X1.ow⟩,.inl (hr _ ar)⟩
        have z:a≠p:=fun z=>by rw [z] at n;rw [s _ _ n] at ho;cases ho;exact hl _ rfl
        rw [aE z];exact h
    rcases hp with hp | ⟨ob,hp⟩
    · exact key _ hp (fun _ z=>nomatch z) fun G g=>.inl g
    · exact key _ hp (fun _ z=>nomatch z) fun G g=>.inr ⟨ob,g⟩
  · exact⟨F,R1,X1,.inr hp⟩
theorem bP.frozen(R:a7 K F H σ e){xs:List PyData}(h:bP K σ H0 F H e (.l xs) v):∃F',a7 K F' H σ e∧av F F'∧DA K F' (.list xs) v∧(∀a,F a=none→H0 a≠none→F' a=none):=by
  obtain⟨l,vs,rfl,h1,h2,h3,h4,h5⟩:=h
  obtain⟨R2,s2⟩:=R.freeze h2 h3 h5
  refine⟨_,R2,s2,?_,fun a ha hn=>?_⟩
  · rw [cN]
    exact⟨l,vs,rfl,.inl (.inl ar),aH.mono s2 h4⟩
  · have z:a≠l:=fun z=>hn (by rw [z];exact h1)
    rw [aE z];exact ha
def bS(e:En):Rv→Option (Bool × List PyData)
  | .d (.tuple xs)=>some (false,xs)
  | .d (.list xs)=>some (true,xs)
  | .l xs=>some (true,xs)
  | .s i=>match e[i]? with
    | some (some (.l xs))=>some (true,xs)
    | _=>none
  | _=>none
theorem bF(R:a7 K F H σ e)(h:bP K σ H0 F H e r v){b:Bool}{xs:List PyData}(q:bS e r=some (b,xs)):
    ∃p vs,v=.ref p∧aH K F xs vs∧(if b=true then ce K H p vs else bK K H p vs):=by
  cases r with
  | d x=>
    cases x with
    | tuple ds=>
      cases q
      obtain⟨a,ys,e1,e2,e3⟩:=cF.mp h
      exact⟨a,ys,e1,e3,R.sm.tup e2⟩
    | list ds=>
      cases q
      obtain⟨a,ys,e1,e2,e3⟩:=cN.mp h
      exact⟨a,ys,e1,e3,R.sm.seq e2⟩
    | _=>cases q
  | l ys=>
    cases q
    obtain⟨l,vs,e1,h1,h2,h3,h4,_⟩:=h
    exact⟨l,vs,e1,h4,.inl (.inl h3)⟩
  | s i=>
    obtain⟨h1,ys,h2⟩:=h
    simp only [bS,h2] at q
    cases q
    obtain⟨l,vs,e1,e2,e3,e4⟩:=R.own i _ h2
    rw [h1] at e1;cases e1
    exact⟨l,vs,rfl,e4,.inl (.inl e3)⟩
end
end L2
namespace L2
open PySem PySem.Spec PyProof.Rows
abbrev FE:=En→Option (Rv × En)
abbrev FT:=En→Option (Bool × En)
abbrev FA:=En→Option (List Rv × En)
def cK(K:PySem.W.Frag)(σ:L2.St)(H0 F H:Hp)(e:En):List Rv→List V→Prop
  | [],vs=>vs=[]
  | r::rs,vs=>∃v ws,vs=v::ws∧bP K σ H0 F H e r v∧cK K σ H0 F H e rs ws
def fE(K:PySem.W.Frag)(f:FE):TE:=fun σ H Q=>∃F e r e',a7 K F H σ e∧f e=some (r,e')∧∀F' H' v,cZ σ F H e F' H' e'→a7 K F' H' σ e'→bP K σ H F' H' e' r v→Q v H'
def fT(K:PySem.W.Frag)(f:FT):TT:=fun σ H Q=>∃F e b e',a7 K F H σ e∧f e=some (b,e')∧∀F' H',cZ σ F H e F' H' e'→a7 K F' H' σ e'→Q b H'
def fA(K:PySem.W.Frag)(f:FA):TA:=fun σ H Q=>∃F e rs e',a7 K F H σ e∧f e=some (rs,e')∧∀F' H' vs,cZ σ F H e F' H' e'→a7 K F' H' σ e'→cK K σ H F' H' e' rs vs→Q vs H'
theorem PE.mono{X:Cx}{e:Expr}{t t':TE}(h:PE X e t)(m:∀σ H Q,t' σ H Q→t σ H Q):PE X e t':=fun pins s σ H Q I q=>h pins s σ H Q I (m σ H Q q)
theorem PT.mono{X:Cx}{e:Expr}{t t':TT}(h:PT X e t)(m:∀σ H Q,t' σ H Q→t σ H Q):PT X e t':=fun pins s σ H Q I q=>h pins s σ H Q I (m σ H Q q)
theorem PW.mono{X:Cx}{e:Expr}{t t':TT}(h:PW X e t)(m:∀σ H Q,t' σ H Q→t σ H Q):PW X e t':=fun wh pins s σ H Q I q=>h wh pins s σ H Q I (m σ H Q q)
theorem PA.mono{X:Cx}{es:List Expr}{t t':TA}(h:PA X es t)(m:∀σ H Q,t' σ H Q→t σ H Q):PA X es t':=fun pos pins s σ H Q I q=>h pos pins s σ H Q I (m σ H Q q)
section
variable{K:PySem.W.Frag}{σ:L2.St}{H0 F H F' H':Hp}{e e':En}
theorem cK.weak{H1:Hp}(d:∀a,H1 a=none→H0 a=none):∀{rs:List Rv} {vs:List V},cK K σ H1 F H e rs vs→cK K σ H0 F H e rs vs
  | [],_,h=>h
  | r::rs,_,h=>by
    obtain⟨v,ws,rfl,h1,h2⟩:=h
    exact⟨v,ws,rfl,h1.weak d,cK.weak d h2⟩
theorem cZ.frz{F'':Hp}(x:cZ σ F H e F' H' e')(s:av F' F'')(h:∀a,F' a=none→H a≠none→F'' a=none):cZ σ F H e F'' H' e':=
  ⟨x.sf.trans s,x.dom,fun a vs h1 h2 h3=>h a (x.fr a vs h1 h2 h3) (by rw [h2];simp),x.lst,x.tmp,x.shp,x.ow⟩
def il:List Rv→Option (List PyData)
  | []=>some []
  | .d x::rs=>(il rs).map (x::·)
  | .l xs::rs=>(il rs).map (.list xs::·)
  | .s _::_=>none
theorem cK.frozen:∀{rs:List Rv} {vs:List V} {ds:List PyData} {F:Hp},a7 K F H σ e→cK K σ H0 F H e rs vs→il rs=some ds→
    ∃F',a7 K F' H σ e∧av F F'∧aH K F' ds vs∧(∀a,F a=none→H0 a≠none→F' a=none)
  | [],_,_,F,R,h,q=>by
    cases q
    have h':_=[]:=h
    subst h'
    exact⟨F,R,av.refl _,aH.nil,fun _ h _=>h⟩
  | .d x::rs,_,ds,F,R,h,q=>by
    obtain⟨v,ws,rfl,h1,h2⟩:=h
    obtain⟨ds',q1,rfl⟩:=Option.map_eq_some_iff.mp q
    obtain⟨F',R',s',d',f'⟩:=cK.frozen R h2 q1
    exact⟨F',R',s',.cons (DA.mono s' h1) d',f'⟩
  | .l xs::rs,_,ds,F,R,h,q=>by
    obtain⟨v,ws,rfl,h1,h2⟩:=h
    obtain⟨ds',q1,rfl⟩:=Option.map_eq_some_iff.mp q
    obtain⟨F',R',s',d',f'⟩:=cK.frozen R h2 q1
    obtain⟨l,us,rfl,g1,g2,g3,g4,g5⟩:=h1
    cases hl:F' l with
    | none=>
      have h1':bP K σ H0 F' H e (.l xs) (.ref l):=⟨l,us,rfl,g1,hl,g3,aH.mono s' g4,g5⟩
      obtain⟨F2,R2,s2,d2,f2⟩:=h1'.frozen R'
      exact⟨F2,R2,s'.trans s2,.cons d2 (aH.mono s2 d'),fun a ha hn=>f2 a (f' a ha hn) hn⟩
    | some o=>
      have:=R'.sm _ _ hl
      rw [g3] at this;cases this
      exact⟨F',R',s',.cons (cN.mpr ⟨l,us,rfl,.inl (.inl hl),aH.mono s' g4⟩) d',f'⟩
end
section
variable{X:Cx}{K:PySem.W.Frag}{a b c:Expr}{fa fb:FE}{ft fu:FT}{pos:Pos}{es:List Expr}{fs:FA}
def ae(i:Nat):FE:=fun e=>match e[i]? with
  | some (some (.d x))=>some (.d x,e)
  | some (some (.l _))=>some (.s i,e)
  | _=>none
def vC(x:PyData):FE:=fun e=>some (.d x,e)
theorem wL{i:Nat}{σ:L2.St}{H:Hp}{Q:VK}(h:fE K (ae i) σ H Q):Cf i σ H Q:=by
  obtain⟨F,e,r,e',R,hf,q⟩:=h
  unfold ae at hf
  match h1:e[i]?,hf with
  | some (some (.d x)),hf=>
    cases hf
    obtain⟨v,h2,h3⟩:=R.dat i x h1
    exact⟨v,h2,q F H v (cZ.refl _ _ _ _) R h3⟩
  | some (some (.n _)),hf=>cases hf
  | some (some (.l xs)),hf=>
    cases hf
    obtain⟨l,vs,h2,h3⟩:=R.own i xs h1
    exact⟨_,h2,q F H _ (cZ.refl _ _ _ _) R ⟨h2,xs,h1⟩⟩
  | some none,hf=>cases hf
  | none,hf=>cases hf
theorem qv(i:Nat){x:Str}{pos:Pos}(hN:X.N[i]?=some x)(hv:AJ X.env.scope x)(hd:(x==("__debug__":Str))=false)(hcd:(x==("__classdict__":Str))=false):PE X (.Name x pos) (fE K (ae i)):=(zc hN hv hd hcd).mono fun _ _ _ h=>wL h
theorem nF{x:PyData}{v:V}{σ:L2.St}{H:Hp}{Q:VK}(hx:∀F,DA K F x v)(h:fE K (vC x) σ H Q):tC v σ H Q:=by
  obtain⟨F,e,r,e',R,hf,q⟩:=h
  cases hf
  exact q F H v (cZ.refl _ _ _ _) R (hx F)
theorem ac{i j pos}:PE X (.Constant (.int i) j pos) (fE K (vC (.int i))):=ot.mono fun _ _ _ h=>nF (fun _=>cx.mpr rfl) h
theorem dJ{b j pos}:PE X (.Constant (.bool b) j pos) (fE K (vC (.bool b))):=BE.mono fun _ _ _ h=>nF (fun _=>cn.mpr rfl) h
theorem oA{j pos}:PE X (.Constant .none j pos) (fE K (vC .none)):=y8.mono fun _ _ _ h=>nF (fun _=>gw.mpr rfl) h
theorem j6{x j pos}:PE X (.Constant (.str x) j pos) (fE K (vC (.str x))):=za.mono fun _ _ _ h=>nF (fun _=>nY.mpr rfl) h
theorem wm{x:Str}{v:V}{u:Value}{pos:Pos}{y:PyData}(hg:Gl X x)(hm:X.mg x=some u)(r:bh v u)(hy:∀F,DA K F y v)(hd:(x==("__debug__":Str))=false):PE X (.Name x pos) (fE K (vC y)):=(vQ hg hm r hd).mono fun _ _ _ h=>nF hy h
def en(K:PySem.W.Frag)(r:R2)(g:En→Rv→Rv→Option Rv):Prop:=
  ∀(σ:L2.St) (H0 F H:Hp) (e:En) (x y z:Rv) (v u:V) (Q:VK),a7 K F H σ e→bP K σ H0 F H e x v→bP K σ H0 F H e y u→g e x y=some z→
    (∀F' H' w,cZ σ F H e F' H' e→a7 K F' H' σ e→bP K σ H F' H' e z w→Q w H')→r v u H Q
def au(g:En→Rv→Rv→Option Rv)(fa fb:FE):FE:=fun e=>(fa e).bind fun p=>(fb p.2).bind fun q=>(g q.2 p.1 q.1).map fun z=>(z,q.2)
theorem l_{r:R2}{g:En→Rv→Rv→Option Rv}(ho:en K r g){σ:L2.St}{H:Hp}{Q:VK}(h:fE K (au g fa fb) σ H Q):Cc r (fE K fa) (fE K fb) σ H Q:=by
  obtain⟨F,e,z,e2,R,hf,q⟩:=h
  unfold au at hf
  obtain⟨⟨x,e1⟩,h1,hf⟩:=Option.bind_eq_some_iff.mp hf
  obtain⟨⟨y,e2'⟩,h2,hf⟩:=Option.bind_eq_some_iff.mp hf
  obtain⟨z',h3,hf⟩:=Option.map_eq_some_iff.mp hf
  cases hf
  refine⟨F,e,x,e1,R,h1,fun F1 H1 v X1 R1 A1=>⟨F1,e1,y,_,R1,h2,fun F2 H2 u X2 R2 A2=>?_⟩⟩
  have X12:=X1.trans X2
  refine ho σ H F2 H2 _ x y _ v u Q R2 (A1.ext X2) (A2.weak X1.dom) h3 fun F3 H3 w X3 R3 A3=>?_
  exact q F3 H3 w (X12.trans X3) R3 (A3.weak X12.dom)
theorem lg{op:Operator}{r:R2}{g:En→Rv→Rv→Option Rv}(hr:dC X (binaryOp op) r)(ho:en K r g)(ha:PE X a (fE K fa))(hb:PE X b (fE K fb)):PE X (.BinOp a op b pos) (fE K (au g fa fb)):=(BH hr ha hb).mono fun _ _ _ h=>l_ ho h
theorem zD{op:CmpOp}{r:R2}{g:En→Rv→Rv→Option Rv}(hr:dC X (compareOp op) r)(ho:en K r g)(ha:PE X a (fE K fa))(hb:PE X b (fE K fb))(hm:behindInMarks op b=false):PE X (.Compare a [op] [b] pos) (fE K (au g fa fb)):=(vN hr ha hb hm).mono fun _ _ _ h=>l_ ho h
theorem BO{r:R2}{g:En→Rv→Rv→Option Rv}(hr:uP X r)(ho:en K r g)(ha:PE X a (fE K fa))(hb:PE X b (fE K fb))(hs:lA b):PE X (.Subscript a b pos) (fE K (au g fa fb)):=(BG hr ha hb hs).mono fun _ _ _ h=>l_ ho h
def md(g:En→Rv→Option Rv)(fa:FE):FE:=fun e=>(fa e).bind fun p=>(g p.2 p.1).map fun z=>(z,p.2)
def Ar(K:PySem.W.Frag)(r:V→Hp→VK→Prop)(g:En→Rv→Option Rv):Prop:=
  ∀(σ:L2.St) (H0 F H:Hp) (e:En) (x z:Rv) (v:V) (Q:VK),a7 K F H σ e→bP K σ H0 F H e x v→g e x=some z→
    (∀F' H' w,cZ σ F H e F' H' e→a7 K F' H' σ e→bP K σ H F' H' e z w→Q w H')→r v H Q
theorem oR{r:V→Hp→VK→Prop}{g:En→Rv→Option Rv}(ho:Ar K r g){σ:L2.St}{H:Hp}{Q:VK}(h:fE K (md g fa) σ H Q):DK r (fE K fa) σ H Q:=by
  obtain⟨F,e,z,e2,R,hf,q⟩:=h
  unfold md at hf
  obtain⟨⟨x,e1⟩,h1,hf⟩:=Option.bind_eq_some_iff.mp hf
  obtain⟨z',h3,hf⟩:=Option.map_eq_some_iff.mp hf
  cases hf
  refine⟨F,e,x,_,R,h1,fun F1 H1 v X1 R1 A1=>?_⟩
  refine ho σ H F1 H1 _ x _ v Q R1 A1 h3 fun F3 H3 w X3 R3 A3=>?_
  exact q F3 H3 w (X1.trans X3) R3 (A3.weak X1.dom)
theorem BQ{op:UnaryOp}{r:V→Hp→VK→Prop}{g:En→Rv→Option Rv}(hr:Cs X (unaryOp op) r)(ho:Ar K r g)(ha:PE X a (fE K fa)):PE X (.UnaryOp op a pos) (fE K (md g fa)):=(BJ hr ha).mono fun _ _ _ h=>oR ho h
def ef:Rv→Option Bool
  | .d (.bool b)=>some b
  | _=>none
theorem dX{σ:L2.St}{H0 F H:Hp}{e:En}{r:Rv}{v:V}{b:Bool}(h:bP K σ H0 F H e r v)(q:ef r=some b):v=.bl b:=by
  unfold ef at q
  split at q
  · cases q;exact cn.mp (show DA K F (.bool _) v from h)
  · cases q
theorem cT{σ:L2.St}{H0 F H:Hp}{e:En}{b:Bool}:bP K σ H0 F H e (.d (.bool b)) (.bl b):=(cn (K:=K) (F:=F)).mpr rfl
def aR(f:FE):FT:=fun e=>(f e).bind fun p=>(ef p.1).map fun b=>(b,p.2)
theorem kj{σ:L2.St}{H:Hp}{Q:Bool→Hp→Prop}(h:fT K (aR fa) σ H Q):fE K fa σ H fun x H'=>∃k,x=.bl k∧Q k H':=by
  obtain⟨F,e,b,e1,R,hf,q⟩:=h
  unfold aR at hf
  obtain⟨⟨x,e1'⟩,h1,hf⟩:=Option.bind_eq_some_iff.mp hf
  obtain⟨b',h3,hf⟩:=Option.map_eq_some_iff.mp hf
  cases hf
  exact⟨F,e,x,_,R,h1,fun F1 H1 v X1 R1 A1=>⟨_,dX A1 h3,q F1 H1 X1 R1⟩⟩
theorem zH{op:CmpOp}{r:R2}{g:En→Rv→Rv→Option Rv}(hr:dC X (compareOp op) r)(ho:en K r g)(ha:PE X a (fE K fa))(hb:PE X b (fE K fb))(hm:behindInMarks op b=false):PT X (.Compare a [op] [b] pos) (fT K (aR (au g fa fb))):=
  (wd hr ha hb hm).mono fun σ H Q h=>by
    obtain⟨F,e,z,e2,R,hf,q⟩:=kj h
    exact l_ ho ⟨F,e,z,e2,R,hf,q⟩
theorem gb{e:Expr}(h:PE X e (fE K fa))(he:∀whole,isTrue e X.env whole=(do let v ←whole;standAt e.pos;holding [v] (truthy v))):PT X e (fT K (aR fa)):=(zw h he).mono fun _ _ _ h=>kj h
def qT(f g:FT):FT:=fun e=>(f e).bind fun p=>if p.1=true then g p.2 else some (false,p.2)
def q_(f g:FT):FT:=fun e=>(f e).bind fun p=>if p.1=true then some (true,p.2) else g p.2
def jw(f:FT):FT:=fun e=>(f e).map fun p=>(!p.1,p.2)
theorem wJ{σ:L2.St}{H:Hp}{Q:Bool→Hp→Prop}(h:fT K (qT ft fu) σ H Q):B7 (fT K ft) (fT K fu) σ H Q:=by
  obtain⟨F,e,b,e1,R,hf,q⟩:=h
  unfold qT at hf
  obtain⟨⟨x,e1'⟩,h1,hf⟩:=Option.bind_eq_some_iff.mp hf
  refine⟨F,e,x,e1',R,h1,fun F1 H1 X1 R1=>?_⟩
  cases x with
  | true=>exact⟨F1,e1',b,e1,R1,hf,fun F2 H2 X2 R2=>q F2 H2 (X1.trans X2) R2⟩
  | false=>cases hf;exact q F1 H1 X1 R1
theorem Ak{σ:L2.St}{H:Hp}{Q:Bool→Hp→Prop}(h:fT K (q_ ft fu) σ H Q):DG (fT K ft) (fT K fu) σ H Q:=by
  obtain⟨F,e,b,e1,R,hf,q⟩:=h
  unfold q_ at hf
  obtain⟨⟨x,e1'⟩,h1,hf⟩:=Option.bind_eq_some_iff.mp hf
  refine⟨F,e,x,e1',R,h1,fun F1 H1 X1 R1=>?_⟩
  cases x with
  | false=>exact⟨F1,e1',b,e1,R1,hf,fun F2 H2 X2 R2=>q F2 H2 (X1.trans X2) R2⟩
  | true=>cases hf;exact q F1 H1 X1 R1
theorem wK{σ:L2.St}{H:Hp}{Q:Bool→Hp→Prop}(h:fT K (jw ft) σ H Q):Ca (fT K ft) σ H Q:=by
  obtain⟨F,e,b,e1,R,hf,q⟩:=h
  unfold jw at hf
  obtain⟨⟨x,e1'⟩,h1,hf⟩:=Option.map_eq_some_iff.mp hf
  cases hf
  exact⟨F,e,x,_,R,h1,fun F1 H1 X1 R1=>q F1 H1 X1 R1⟩
variable{cV:List Expr}
theorem wn(ha:PT X a (fT K ft)):PW X (.BoolOp .And [a] pos) (fT K ft):=wj ha
theorem l0(ha:PT X a (fT K ft)):PW X (.BoolOp .Or [a] pos) (fT K ft):=zy ha
theorem zI(ha:PT X a (fT K ft))(hb:PW X (.BoolOp .And (b::cV) pos) (fT K fu)):PW X (.BoolOp .And (a::b::cV) pos) (fT K (qT ft fu)):=(zx ha hb).mono fun _ _ _ h=>wJ h
theorem j9(ha:PT X a (fT K ft))(hb:PW X (.BoolOp .Or (b::cV) pos) (fT K fu)):PW X (.BoolOp .Or (a::b::cV) pos) (fT K (q_ ft fu)):=(BM ha hb).mono fun _ _ _ h=>Ak h
theorem gY(ha:PT X a (fT K ft)):PT X (.UnaryOp .Not a pos) (fT K (jw ft)):=(zv ha).mono fun _ _ _ h=>wK h
theorem tY{e:Expr}(h:PW X e (fT K ft)):PT X e (fT K ft):=h.pt
def kh(f g:FE):FE:=fun e=>(f e).bind fun p=>(ef p.1).bind fun b=>if b=true then g p.2 else some (.d (.bool false),p.2)
def Cn(f g:FE):FE:=fun e=>(f e).bind fun p=>(ef p.1).bind fun b=>if b=true then some (.d (.bool true),p.2) else g p.2
def nI(f:FE):FE:=fun e=>(f e).bind fun p=>(ef p.1).map fun b=>(.d (.bool (!b)),p.2)
theorem oz(ha:PE X a (fE K fa))(hb:PE X (.BoolOp .And (b::cV) pos) (fE K fb)):PE X (.BoolOp .And (a::b::cV) pos) (fE K (kh fa fb)):=(y4 ha hb).mono fun σ H Q h=>by
  obtain⟨F,e,z,e2,R,hf,q⟩:=h
  unfold kh at hf
  obtain⟨⟨x,e1⟩,h1,hf⟩:=Option.bind_eq_some_iff.mp hf
  obtain⟨b,h2,hf⟩:=Option.bind_eq_some_iff.mp hf
  refine⟨F,e,x,e1,R,h1,fun F1 H1 v X1 R1 A1=>⟨b,dX A1 h2,?_⟩⟩
  cases b with
  | true=>exact⟨F1,e1,z,e2,R1,hf,fun F2 H2 w X2 R2 A2=>q F2 H2 w (X1.trans X2) R2 (A2.weak X1.dom)⟩
  | false=>cases hf;exact q F1 H1 _ X1 R1 cT
theorem oB{op}(h:PE X a (fE K fa)):PE X (.BoolOp op [a] pos) (fE K fa):=y_ h
theorem zE(ha:PE X a (fE K fa)):PE X (.UnaryOp .Not a pos) (fE K (nI fa)):=(y9 ha).mono fun σ H Q h=>by
  obtain⟨F,e,z,e2,R,hf,q⟩:=h
  unfold nI at hf
  obtain⟨⟨x,e1⟩,h1,hf⟩:=Option.bind_eq_some_iff.mp hf
  obtain⟨b,h2,hf⟩:=Option.map_eq_some_iff.mp hf
  cases hf
  exact⟨F,e,x,_,R,h1,fun F1 H1 v X1 R1 A1=>⟨b,dX A1 h2,q F1 H1 _ X1 R1 cT⟩⟩
def DM(t:FT)(f g:FE):FE:=fun e=>(t e).bind fun p=>if p.1=true then f p.2 else g p.2
def dm(g g':En→Rv→Rv→Option Rv)(fa fb fc:FE):FE:=fun e=>(fa e).bind fun p=>(fb p.2).bind fun q=>(g q.2 p.1 q.1).bind fun z=>(ef z).bind fun k=>if k=true then(fc q.2).bind fun w=>(g' w.2 q.1 w.1).map fun z'=>(z',w.2) else some (.d (.bool false),q.2)
theorem ls{r r':R2}{g g':En→Rv→Rv→Option Rv}{fc:FE}(ho:en K r g)(ho':en K r' g'){σ:L2.St}{H:Hp}{Q:VK}(h:fE K (dm g g' fa fb fc) σ H Q):oE r r' (fE K fa) (fE K fb) (fE K fc) σ H Q:=by
  obtain⟨F,e,z,e4,R,hf,q⟩:=h
  unfold dm at hf
  obtain⟨⟨x,e1⟩,h1,hf⟩:=Option.bind_eq_some_iff.mp hf
  obtain⟨⟨y,e2⟩,h2,hf⟩:=Option.bind_eq_some_iff.mp hf
  obtain⟨z',h3,hf⟩:=Option.bind_eq_some_iff.mp hf
  obtain⟨k,h4,hf⟩:=Option.bind_eq_some_iff.mp hf
  refine⟨F,e,x,e1,R,h1,fun F1 H1 v X1 R1 A1=>⟨F1,e1,y,e2,R1,h2,fun F2 H2 u X2 R2 A2=>?_⟩⟩
  have X12:=X1.trans X2
  refine ho σ H F2 H2 e2 x y z' v u _ R2 (A1.ext X2) (A2.weak X1.dom) h3 fun F3 H3 w X3 R3 A3=>⟨k,dX A3 h4,?_⟩
  have X13:=X12.trans X3
  cases k with
  | false=>
    cases hf
    exact q F3 H3 _ X13 R3 cT
  | true=>
    obtain⟨⟨w',e3⟩,h5,hf⟩:=Option.bind_eq_some_iff.mp hf
    obtain⟨z2,h6,hf⟩:=Option.map_eq_some_iff.mp hf
    cases hf
    refine⟨F3,_,w',_,R3,h5,fun F4 H4 u4 X4 R4 A4=>?_⟩
    have X14:=X13.trans X4
    refine ho' σ H F4 H4 _ y w' _ u u4 Q R4 (((A2.weak X1.dom).ext X3).ext X4) (A4.weak X13.dom) h6 fun F5 H5 w5 X5 R5 A5=>?_
    exact q F5 H5 w5 (X14.trans X5) R5 (A5.weak X14.dom)
theorem tT{op op':CmpOp}{r r':R2}{g g':En→Rv→Rv→Option Rv}{fc:FE}(hr:dC X (compareOp op) r)(ho:en K r g)(hr':dC X (compareOp op') r')(ho':en K r' g')(ha:PE X a (fE K fa))(hb:PE X b (fE K fb))(hc:PE X c (fE K fc))
    (hm:lastMarks [op,op'] [b,c]=false):PE X (.Compare a [op,op'] [b,c] pos) (fE K (dm g g' fa fb fc)):=(sQ hr hr' ha hb hc hm).mono fun _ _ _ h=>ls ho ho' h
theorem tX{op op':CmpOp}{r r':R2}{g g':En→Rv→Rv→Option Rv}{fc:FE}(hr:dC X (compareOp op) r)(ho:en K r g)(hr':dC X (compareOp op') r')(ho':en K r' g')(ha:PE X a (fE K fa))(hb:PE X b (fE K fb))(hc:PE X c (fE K fc))
    (hm:lastMarks [op,op'] [b,c]=false):PT X (.Compare a [op,op'] [b,c] pos) (fT K (aR (dm g g' fa fb fc))):=(tK hr hr' ha hb hc hm).mono fun σ H Q h=>by
  obtain⟨F,e,z,e2,R,hf,q⟩:=kj h
  exact ls ho ho' ⟨F,e,z,e2,R,hf,q⟩
def ag:FA:=fun e=>some ([],e)
def aa(fa:FE)(fs:FA):FA:=fun e=>(fa e).bind fun p=>(fs p.2).map fun q=>(p.1::q.1,q.2)
theorem ab:PA X [] (fA K ag):=j2.mono fun σ H Q h=>by
  obtain⟨F,e,r,e',R,hf,q⟩:=h
  cases hf
  exact q F H [] (cZ.refl _ _ _ _) R rfl
theorem Da(ha:PE X a (fE K fa))(hr:PA X es (fA K fs))(h:PySem.W.isStarred a=false):PA X (a::es) (fA K (aa fa fs)):=(C9 ha hr h).mono fun σ H Q h=>by
  obtain⟨F,e,z,e2,R,hf,q⟩:=h
  unfold aa at hf
  obtain⟨⟨x,e1⟩,h1,hf⟩:=Option.bind_eq_some_iff.mp hf
  obtain⟨⟨xs,e2'⟩,h2,hf⟩:=Option.map_eq_some_iff.mp hf
  cases hf
  refine⟨F,e,x,e1,R,h1,fun F1 H1 v X1 R1 A1=>⟨F1,e1,xs,_,R1,h2,fun F2 H2 vs X2 R2 A2=>?_⟩⟩
  exact q F2 H2 (v::vs) (X1.trans X2) R2 ⟨v,vs,rfl,A1.ext X2,A2.weak X1.dom⟩
def a'(fs:FA):FE:=fun e=>(fs e).bind fun p=>(il p.1).bind fun ds=>if ds.length≤1000 then some (.d (.tuple ds),p.2) else none
def cv(fs:FA):FE:=fun e=>(fs e).bind fun p=>(il p.1).bind fun ds=>if ds.length≤1000 then some (.l ds,p.2) else none
theorem az{x1}(h:PA X es (fA K fs)):PE X (.Tuple es x1 pos) (fE K (a' fs)):=(zb h).mono fun σ H Q h=>by
  obtain⟨F,e,z,e2,R,hf,q⟩:=h
  unfold a' at hf
  obtain⟨⟨rs,e1⟩,h1,hf⟩:=Option.bind_eq_some_iff.mp hf
  obtain⟨ds,h2,hf⟩:=Option.bind_eq_some_iff.mp hf
  split at hf
  case isFalse=>cases hf
  case isTrue hl=>
  cases hf
  refine⟨F,e,rs,_,R,h1,fun F1 H1 vs X1 R1 A1=>?_⟩
  obtain⟨F2,R2,s2,d2,f2⟩:=cK.frozen R1 A1 h2
  have hlen:=d2.len
  refine⟨Nat.le_of_lt (lm (by lia)),fun p hp=>?_⟩
  obtain⟨R3,X3⟩:=R2.newT (vs:=vs) hp
  exact q _ _ _ ((X1.frz s2 f2).trans X3) R3 (cF.mpr ⟨p,vs,rfl,.inl (.inl ar),aH.mono X3.sf d2⟩)
theorem aX(h:PA X es (fA K fs)):PE X (.List es pos) (fE K (cv fs)):=(y6 h).mono fun σ H Q h=>by
  obtain⟨F,e,z,e2,R,hf,q⟩:=h
  unfold cv at hf
  obtain⟨⟨rs,e1⟩,h1,hf⟩:=Option.bind_eq_some_iff.mp hf
  obtain⟨ds,h2,hf⟩:=Option.bind_eq_some_iff.mp hf
  split at hf
  case isFalse=>cases hf
  case isTrue hl=>
  cases hf
  refine⟨F,e,rs,_,R,h1,fun F1 H1 vs X1 R1 A1=>?_⟩
  obtain⟨F2,R2,s2,d2,f2⟩:=cK.frozen R1 A1 h2
  have hlen:=d2.len
  refine⟨Nat.le_of_lt (lm (by lia)),fun p hp=>?_⟩
  obtain⟨R3,X3,hF,no⟩:=R2.newL (vs:=vs) hp
  exact q _ _ _ ((X1.frz s2 f2).trans X3) R3 ⟨p,vs,rfl,X1.dom p hp,hF,ar,d2,no⟩
def dr(K:PySem.W.Frag)(r:List V→Hp→VK→Prop)(g:En→List Rv→Option Rv):Prop:=
  ∀(σ:L2.St) (H0 F H:Hp) (e:En) (xs:List Rv) (z:Rv) (vs:List V) (Q:VK),a7 K F H σ e→cK K σ H0 F H e xs vs→g e xs=some z→
    (∀F' H' w,cZ σ F H e F' H' e→a7 K F' H' σ e→bP K σ H F' H' e z w→Q w H')→r vs H Q
def aL(g:En→List Rv→Option Rv)(fs:FA):FE:=fun e=>(fs e).bind fun p=>(g p.2 p.1).map fun z=>(z,p.2)
theorem nG{r:List V→Hp→VK→Prop}{g:En→List Rv→Option Rv}(ho:dr K r g){σ:L2.St}{H:Hp}{Q:VK}(h:fE K (aL g fs) σ H Q):Df r (fA K fs) σ H Q:=by
  obtain⟨F,e,z,e2,R,hf,q⟩:=h
  unfold aL at hf
  obtain⟨⟨x,e1⟩,h1,hf⟩:=Option.bind_eq_some_iff.mp hf
  obtain⟨z',h3,hf⟩:=Option.map_eq_some_iff.mp hf
  cases hf
  refine⟨F,e,x,_,R,h1,fun F1 H1 vs X1 R1 A1=>?_⟩
  refine ho σ H F1 H1 _ x _ vs Q R1 A1 h3 fun F3 H3 w X3 R3 A3=>?_
  exact q F3 H3 w (X1.trans X3) R3 (A3.weak X1.dom)
theorem tS{x:Str}{p pos:Pos}{id:String}{r:List V→Hp→VK→Prop}{g:En→List Rv→Option Rv}(hc:cW X (.builtin id) r)(ho:dr K r g)(hg:Gl X x)(hm:X.mg x=none)(hv:bootBuiltins x=some (.builtin id))(ha:PA X (a::es) (fA K fs))(hn:x≠"__name__")(hdb:(x==("__debug__":Str))=false)
    (he:starEach (a::es) X.env=(false,eval a X.env)::starEach es X.env)(hpl:(backTo pos (starEach es X.env)).any (·.1)=false):PE X (.Call (.Name x p) (a::es) [] pos) (fE K (aL g fs)):=(j3 hc hg hm hv ha hn hdb he hpl).mono fun _ _ _ h=>nG ho h
theorem qF{x:Str}{p pos:Pos}{T:String}{r:List V→Hp→VK→Prop}{g:En→List Rv→Option Rv}(hc:cW X (.type T) r)(ho:dr K r g)(hg:Gl X x)(hm:X.mg x=none)(hv:bootBuiltins x=some (.type T))(ha:PA X (a::es) (fA K fs))(hn:x≠"__name__")(hdb:(x==("__debug__":Str))=false)
    (he:starEach (a::es) X.env=(false,eval a X.env)::starEach es X.env)(hpl:(backTo pos (starEach es X.env)).any (·.1)=false):PE X (.Call (.Name x p) (a::es) [] pos) (fE K (aL g fs)):=(k_ hc hg hm hv ha hn hdb he hpl).mono fun _ _ _ h=>nG ho h
end
end L2
namespace L2
open PySem PySem.Spec PyProof.Rows
mutual
theorem DA.reads{X:Cx}{pins:List (Addr × Obj)}{σ:L2.St}{H:Hp}{s:Shared}(I:aw X pins σ H s):∀{d:PyData} {v:V} {u:Value},d.canLay0=true→DA X.K H d v→bh v u→∃as,Reads s.heap u d as
  | .none,_,_,_,q,r=>by
    simp only [DA] at q;subst q;cases r;exact⟨_,.none⟩
  | .bool b,_,_,_,q,r=>by
    simp only [DA] at q;subst q;cases r;exact⟨_,.bool b⟩
  | .int i,_,_,_,q,r=>by
    simp only [DA] at q;subst q;obtain⟨t,rfl⟩:=r;exact⟨_,.int i t⟩
  | .str x,_,_,_,q,r=>by
    simp only [DA] at q;subst q;obtain⟨t,rfl⟩:=r;exact⟨_,.str x t⟩
  | .tuple ds,_,_,c,q,r=>by
    simp only [DA] at q
    obtain⟨a,xs,e,hs,rr⟩:=q
    subst e;cases r
    obtain⟨its,rv,⟨o,ho,hc,n,hd⟩,hz⟩:=I.tuple hs
    obtain⟨as,q⟩:=aH.reads I (by simpa [PyData.canLay0] using c) rr rv
    exact⟨_,.tuple ho hc hd q⟩
  | .list ds,_,_,c,q,r=>by
    simp only [DA] at q
    obtain⟨a,xs,e,hs,rr⟩:=q
    subst e;cases r
    obtain⟨its,rv,ht,hz⟩:=I.list hs
    obtain⟨o,ho,hc,n,hd⟩:=ht.isList
    obtain⟨as,q⟩:=aH.reads I (by simpa [PyData.canLay0] using c) rr rv
    exact⟨_,.list ho hc hd q⟩
  | .dict _,_,_,c,_,_=>by simp [PyData.canLay0] at c
theorem aH.reads{X:Cx}{pins:List (Addr × Obj)}{σ:L2.St}{H:Hp}{s:Shared}(I:aw X pins σ H s):∀{ds:List PyData} {xs:List V} {us:List Value},PyData.canLayAll0 ds=true→aH X.K H ds xs→aI xs us→∃as,ReadsAll s.heap us ds as
  | [],_,_,_,q,r=>by
    simp only [aH] at q;subst q;cases r;exact⟨_,.nil⟩
  | d::ds,_,_,c,q,r=>by
    simp only [aH] at q
    simp only [PyData.canLayAll0,Bool.and_eq_true] at c
    obtain⟨x,rr,e,a,b⟩:=q
    subst e
    cases r with
    | cons p p'=>
      obtain⟨as,q1⟩:=DA.reads I c.1 a p
      obtain⟨bs,q2⟩:=aH.reads I c.2 b p'
      exact⟨_,.cons q1 q2⟩
end
def fL(e:En):Rv→Option PyData
  | .d x=>some x
  | .l xs=>some (.list xs)
  | .s i=>match e[i]? with
    | some (some (.l xs))=>some (.list xs)
    | _=>none
theorem ik{K:PySem.W.Frag}{σ:L2.St}{H0 F H:Hp}{e:En}{r:Rv}{v:V}{d:PyData}(R:a7 K F H σ e)(h:bP K σ H0 F H e r v)(q:fL e r=some d):DA K H d v:=by
  cases r with
  | d x=>cases q;exact DA.mono R.sm h
  | l xs=>
    cases q
    obtain⟨l,vs,rfl,h1,h2,h3,h4,_⟩:=h
    exact cN.mpr ⟨l,vs,rfl,.inl (.inl h3),aH.mono R.sm h4⟩
  | s i=>
    obtain⟨h1,ys,h2⟩:=h
    simp only [fL,h2] at q
    cases q
    obtain⟨l,vs,e1,e2,e3,e4⟩:=R.own i _ h2
    rw [h1] at e1;cases e1
    exact cN.mpr ⟨l,vs,rfl,.inl (.inl e3),aH.mono R.sm e4⟩
section
variable{X:Cx}{K:PySem.W.Frag}
def bL:Rv→Option Int
  | .d (.int i)=>some i
  | _=>none
theorem bQ{σ:L2.St}{H0 F H:Hp}{e:En}{r:Rv}{v:V}{i:Int}(h:bP K σ H0 F H e r v)(q:bL r=some i):v=.int i:=by
  unfold bL at q
  split at q
  · cases q;exact cx.mp (show DA K F (.int _) v from h)
  · cases q
theorem g9{σ:L2.St}{H0 F H:Hp}{e:En}{i:Int}:bP K σ H0 F H e (.d (.int i)) (.int i):=(cx (K:=K) (F:=F)).mpr rfl
def gI(C:Int→Int→Bool)(f:Int→Int→PyData):En→Rv→Rv→Option Rv:=fun _ x y=>(bL x).bind fun i=>(bL y).bind fun j=>if C i j=true then some (.d (f i j)) else none
theorem mY{C:Int→Int→Prop}{c:Int→Int→Bool}{g:Int→Int→V}{f:Int→Int→PyData}(hc:∀i j,c i j=true→C i j)(hf:∀F i j,DA K F (f i j) (g i j)):en K (rI C g) (gI c f):=by
  intro σ H0 F H e x y z v u Q R A B hg q
  unfold gI at hg
  obtain⟨i,h1,hg⟩:=Option.bind_eq_some_iff.mp hg
  obtain⟨j,h2,hg⟩:=Option.bind_eq_some_iff.mp hg
  split at hg
  case isFalse=>cases hg
  case isTrue hh=>
  cases hg
  exact⟨i,j,bQ A h1,bQ B h2,hc i j hh,q F H _ (cZ.refl _ _ _ _) R (hf F i j)⟩
theorem f9{g:Int→Int→V}{f:Int→Int→PyData}(hf:∀F i j,DA K F (f i j) (g i j)):en K (oC g) (gI (fun _ _=>true) f):=by
  intro σ H0 F H e x y z v u Q R A B hg q
  obtain⟨i,j,h1,h2,h3,h4⟩:=mY (K:=K) (C:=fun _ _=>True) (c:=fun _ _=>true) (g:=g) (f:=f) (fun _ _ _=>trivial) hf σ H0 F H e x y z v u Q R A B hg q
  exact⟨i,j,h1,h2,h4⟩
def rV(g g':En→Rv→Rv→Option Rv):En→Rv→Rv→Option Rv:=fun e x y=>(g e x y).or (g' e x y)
theorem en.or{r r':R2}{g g':En→Rv→Rv→Option Rv}(h:en K r g)(h':en K r' g'):en K (fun x y H Q=>r x y H Q∨r' x y H Q) (rV g g'):=by
  intro σ H0 F H e x y z v u Q R A B hg q
  unfold rV at hg
  cases e1:g e x y with
  | some w=>
    rw [e1] at hg
    cases hg
    exact .inl (h σ H0 F H e x y _ v u Q R A B e1 q)
  | none=>
    rw [e1] at hg
    exact .inr (h' σ H0 F H e x y _ v u Q R A B hg q)
def rM:=gI (fun _ _=>true) fun i j=>.int (i+j)
def dD:=gI (fun _ _=>true) fun i j=>.int (i - j)
def e6(i:Int):Bool:=decide (-(2 ^ 64) < i)&&decide (i < 2 ^ 64)
def AR(n:Nat)(i:Int):Bool:=decide (i.natAbs < 2 ^ n)
theorem ic{n:Nat}{i:Int}:AR n i=true↔ Bt n i:=by unfold AR Bt;exact decide_eq_true_iff
def i9(i j:Int):Bool:=e6 i || e6 j || (AR 4000 i&&AR 4000 j)
def mG:=gI i9 fun i j=>.int (i*j)
def du:=gI (fun _ j=>j != 0&&AR 8000 j) fun i j=>.int (i.fdiv j)
def aB:=gI (fun _ j=>j != 0) fun i j=>.int (i.fmod j)
def tG(i j:Int):Bool:=decide (0≤j)&&decide (j≤1000000)&&e6 i
def lP:=gI tG fun i j=>.int (i ^ j.toNat)
theorem hG{i:Int}(h:e6 i=true): -(2 ^ 64) < i∧i < 2 ^ 64:=by
  unfold e6 at h
  rw [Bool.and_eq_true,decide_eq_true_iff,decide_eq_true_iff] at h
  exact h
theorem v0{i j:Int}(h:tG i j=true):xU i j:=by
  unfold tG at h
  rw [Bool.and_eq_true,Bool.and_eq_true,decide_eq_true_iff,decide_eq_true_iff] at h
  have:=hG h.2
  exact⟨h.1.1,h.1.2,by lia⟩
def oX(i j:Int):Prop:=uM i j∨wU i j
theorem vJ:dC X (binaryOp .Mult) (rI oX fun i j=>.int (i*j)):=by
  intro pins s σ H x y v u Q I rx ry h
  obtain⟨i,j,e1,e2,h1,q⟩:=h
  rcases h1 with h1 | h1
  · exact yW pins s σ H x y v u Q I rx ry ⟨i,j,e1,e2,h1,q⟩
  · exact vK pins s σ H x y v u Q I rx ry ⟨i,j,e1,e2,h1,q⟩
theorem vw{i j:Int}(h:i9 i j=true):oX i j:=by
  unfold i9 at h
  rw [Bool.or_eq_true,Bool.or_eq_true,Bool.and_eq_true] at h
  rcases h with (h | h) | h
  · exact .inl (.inl (hG h))
  · exact .inl (.inr (hG h))
  · exact .inr ⟨ic.mp h.1,ic.mp h.2⟩
theorem yE:en K (rI oX fun i j=>.int (i*j)) mG:=mY (fun _ _ h=>vw h) fun _ _ _=>cx.mpr rfl
theorem B6:en K (oC fun i j=>.int (i - j)) dD:=f9 fun _ _ _=>cx.mpr rfl
theorem ya:en K (rI wR fun i j=>.int (i.fdiv j)) du:=mY (fun i j h=>by
  rw [Bool.and_eq_true] at h
  exact⟨by simpa using h.1,ic.mp h.2⟩) fun _ _ _=>cx.mpr rfl
theorem Bu:en K (rI (fun _ j=>j≠0) fun i j=>.int (i.fmod j)) aB:=mY (fun i j h=>by simpa using h) fun _ _ _=>cx.mpr rfl
theorem BK:en K (rI xU fun i j=>.int (i ^ j.toNat)) lP:=mY (fun _ _ h=>v0 h) fun _ _ _=>cx.mpr rfl
def mB:En→Rv→Rv→Option Rv:=fun e x y=>match bS e x,bS e y with
  | some (false,xs),some (false,ys)=>if xs.length+ys.length≤1000000 then some (.d (.tuple (xs++ys))) else none
  | _,_=>none
theorem x5:en K (tZ K) mB:=by
  intro σ H0 F H e x y z v u Q R A B hg q
  unfold mB at hg
  match h1:bS e x,h2:bS e y,hg with
  | some (false,xs),some (false,ys),hg=>
    obtain⟨p,vs,rfl,d1,s1⟩:=bF R A h1
    obtain⟨p',us,rfl,d2,s2⟩:=bF R B h2
    dsimp only at hg
    split at hg
    case isFalse=>cases hg
    case isTrue hl=>
    cases hg
    have l1:=d1.len
    have l2:=d2.len
    have sl:sizeLine=16777216:=sizeLine_eq
    refine⟨p,p',vs,us,rfl,rfl,s1,s2,by lia,fun t H' sm hT=>?_⟩
    obtain⟨F',R',X',hF⟩:=R.growT sm hT
    exact q F' H' _ X' R' (cF.mpr ⟨t,_,rfl,hF,(d1.append d2).mono X'.sf⟩)
def qo(e:En):Rv→Option (List PyData)
  | .l xs=>some xs
  | .s i=>match e[i]? with
    | some (some (.l xs))=>some xs
    | _=>none
  | _=>none
theorem lU{σ:L2.St}{H0 F H:Hp}{e:En}{r:Rv}{v:V}(R:a7 K F H σ e)(h:bP K σ H0 F H e r v){xs:List PyData}(q:qo e r=some xs):∃p vs,v=.ref p∧F p=none∧H p=some (.lst vs)∧aH K F xs vs:=by
  cases r with
  | d x=>cases q
  | l ys=>
    cases q
    obtain⟨l,vs,e1,h1,h2,h3,h4,_⟩:=h
    exact⟨l,vs,e1,h2,h3,h4⟩
  | s i=>
    obtain⟨h1,ys,h2⟩:=h
    simp only [qo,h2] at q
    cases q
    obtain⟨l,vs,e1,e2,e3,e4⟩:=R.own i _ h2
    rw [h1] at e1;cases e1
    exact⟨l,vs,rfl,e2,e3,e4⟩
def pk:En→Rv→Rv→Option Rv:=fun e x y=>(qo e x).bind fun xs=>(qo e y).bind fun ys=>if xs.length+ys.length≤1000000 then some (.l (xs++ys)) else none
theorem x4:en K zJ pk:=by
  intro σ H0 F H e x y z v u Q R A B hg q
  unfold pk at hg
  obtain⟨xs,h1,hg⟩:=Option.bind_eq_some_iff.mp hg
  obtain⟨ys,h2,hg⟩:=Option.bind_eq_some_iff.mp hg
  split at hg
  case isFalse=>cases hg
  case isTrue hl=>
  cases hg
  obtain⟨p,vs,rfl,f1,s1,d1⟩:=lU R A h1
  obtain⟨p',us,rfl,f2,s2,d2⟩:=lU R B h2
  have l1:=d1.len
  have l2:=d2.len
  have sl:sizeLine=16777216:=sizeLine_eq
  refine⟨p,p',vs,us,rfl,rfl,s1,s2,by lia,fun t ht=>?_⟩
  obtain⟨R3,X3,hF,no⟩:=R.newL (vs:=vs++us) ht
  exact q _ _ _ X3 R3 ⟨t,_,rfl,ht,hF,ar,d1.append d2,no⟩
def aU:En→Rv→Rv→Option Rv:=rV rM (rV mB pk)
def xJ(K:PySem.W.Frag):R2:=fun x y H Q=>oC (fun i j=>.int (i+j)) x y H Q∨(tZ K x y H Q∨zJ x y H Q)
theorem vE:dC X (binaryOp .Add) (xJ X.K):=yN.or (vF.or yO)
theorem AL:en K (xJ K) aU:=en.or (f9 fun _ _ _=>cx.mpr rfl) (en.or x5 x4)
def mI:En→Rv→Rv→Option Rv:=fun e x y=>match bS e x,bL y with
  | some (false,[d]),some k=>if 0≤k∧k≤100000 then some (.d (.tuple (List.replicate k.toNat d))) else none
  | _,_=>none
theorem aH.rep{F:Hp}{d:PyData}{v:V}(h:DA K F d v):∀n,aH K F (List.replicate n d) (List.replicate n v)
  | 0=>aH.nil
  | n+1=>aH.cons h (aH.rep h n)
theorem zP:en K (ua K) mI:=by
  intro σ H0 F H e x y z v u Q R A B hg q
  unfold mI at hg
  match h1:bS e x,h2:bL y,hg with
  | some (false,[d]),some k,hg=>
    obtain⟨p,vs,rfl,d1,s1⟩:=bF R A h1
    dsimp only at hg
    split at hg
    case isFalse=>cases hg
    case isTrue hl=>
    cases hg
    have hd:=d1
    simp only [aH] at hd
    obtain⟨w,r,e1,hw,e2⟩:=hd
    subst e2 e1
    refine⟨p,k,w,rfl,bQ B h2,s1,hl.1,hl.2,fun t H' sm hT=>?_⟩
    obtain⟨F',R',X',hF⟩:=R.growT sm hT
    exact q F' H' _ X' R' (cF.mpr ⟨t,_,rfl,hF,(aH.rep hw _).mono X'.sf⟩)
def rW:En→Rv→Rv→Option Rv:=fun e x y=>(qo e x).bind fun xs=>(bL y).bind fun k=>if -100000≤k∧k≤100000∧xs.length*k.toNat≤1000000 then some (.l (List.replicate k.toNat xs).flatten) else none
theorem aH.reps{F:Hp}{ds:List PyData}{vs:List V}(h:aH K F ds vs):∀n,aH K F (List.replicate n ds).flatten (List.replicate n vs).flatten
  | 0=>aH.nil
  | n+1=>by simpa [List.replicate_succ] using aH.append h (aH.reps h n)
theorem zO:en K zN rW:=by
  intro σ H0 F H e x y z v u Q R A B hg q
  unfold rW at hg
  obtain⟨xs,h1,hg⟩:=Option.bind_eq_some_iff.mp hg
  obtain⟨k,h2,hg⟩:=Option.bind_eq_some_iff.mp hg
  split at hg
  case isFalse=>cases hg
  case isTrue hl=>
  cases hg
  obtain⟨p,vs,rfl,f1,s1,d1⟩:=lU R A h1
  have l1:=d1.len
  have sl:sizeLine=16777216:=sizeLine_eq
  refine⟨p,k,vs,rfl,bQ B h2,s1,by lia,by lia,by rw [←l1];lia,fun t ht=>?_⟩
  obtain⟨R3,X3,hF,no⟩:=R.newL (vs:=(List.replicate k.toNat vs).flatten) ht
  exact q _ _ _ X3 R3 ⟨t,_,rfl,ht,hF,ar,aH.reps d1 _,no⟩
def gQ:En→Rv→Rv→Option Rv:=rV mG (rV mI rW)
def xK(K:PySem.W.Frag):R2:=fun x y H Q=>rI oX (fun i j=>.int (i*j)) x y H Q∨(ua K x y H Q∨zN x y H Q)
theorem vI:dC X (binaryOp .Mult) (xK X.K):=vJ.or (vL.or y0)
theorem Bv:en K (xK K) gQ:=en.or yE (en.or zP zO)
def va:=gI (fun _ _=>true) fun i j=>.bool (decide (i < j))
def Au:=gI (fun _ _=>true) fun i j=>.bool (decide (i≤j))
def As:=gI (fun _ _=>true) fun i j=>.bool (decide (j < i))
def A9:=gI (fun _ _=>true) fun i j=>.bool (decide (j≤i))
theorem C8:en K (oC fun i j=>.bl (decide (i < j))) va:=f9 fun _ _ _=>cn.mpr rfl
theorem C7:en K (oC fun i j=>.bl (decide (i≤j))) Au:=f9 fun _ _ _=>cn.mpr rfl
theorem CV:en K (oC fun i j=>.bl (decide (j < i))) As:=f9 fun _ _ _=>cn.mpr rfl
theorem CU:en K (oC fun i j=>.bl (decide (j≤i))) A9:=f9 fun _ _ _=>cn.mpr rfl
def zK(K:PySem.W.Frag)(neg:Bool):R2:=fun x y H Q=>∃a b,DA K H a x∧DA K H b y∧SeqAt.shaped a=true∧SeqAt.shaped b=true∧Q (.bl (if neg then !PyData.eqv a b else PyData.eqv a b)) H
theorem yP{k:Nat}(hr:b_ k X.A):dC X (compareOp .Eq) (zK X.K false):=by
  intro pins s σ H x y v u Q I rx ry h
  obtain⟨a,b,ha,hb,s1,s2,q⟩:=h
  obtain⟨as,ra⟩:=DA.reads I (SeqAt.canLay_of_shaped s1) ha rx
  obtain⟨bs,rb⟩:=DA.reads I (SeqAt.canLay_of_shaped s2) hb ry
  exact SeqAt.compareEq_shaped ra rb s1 s2 hr.units ⟨.bl _,H,I,rfl,q⟩
theorem yX{k:Nat}(hr:b_ k X.A):dC X (compareOp .NotEq) (zK X.K true):=by
  intro pins s σ H x y v u Q I rx ry h
  obtain⟨a,b,ha,hb,s1,s2,q⟩:=h
  obtain⟨as,ra⟩:=DA.reads I (SeqAt.canLay_of_shaped s1) ha rx
  obtain⟨bs,rb⟩:=DA.reads I (SeqAt.canLay_of_shaped s2) hb ry
  exact SeqAt.compareNe_shaped ra rb s1 s2 hr.units ⟨.bl _,H,I,rfl,q⟩
def cQ(neg:Bool):En→Rv→Rv→Option Rv:=fun e x y=>(fL e x).bind fun a=>(fL e y).bind fun b=>if (SeqAt.shaped a&&SeqAt.shaped b)=true then some (.d (.bool (if neg then !PyData.eqv a b else PyData.eqv a b))) else none
theorem xj{neg:Bool}:en K (zK K neg) (cQ neg):=by
  intro σ H0 F H e x y z v u Q R A B hg q
  unfold cQ at hg
  obtain⟨a,h1,hg⟩:=Option.bind_eq_some_iff.mp hg
  obtain⟨b,h2,hg⟩:=Option.bind_eq_some_iff.mp hg
  split at hg
  case isFalse=>cases hg
  case isTrue hl=>
  cases hg
  rw [Bool.and_eq_true] at hl
  exact⟨a,b,ik R A h1,ik R B h2,hl.1,hl.2,q F H _ (cZ.refl _ _ _ _) R cT⟩
def zM(K:PySem.W.Frag)(neg:Bool):R2:=fun x y H Q=>∃a xs,DA K H a x∧(DA K H (.list xs) y∨DA K H (.tuple xs) y)∧a.canLay0=true∧a.depth≤60∧PyData.canLayAll0 xs=true∧Q (.bl (if neg then !(xs.any fun y=>PyData.eqv y a) else xs.any fun y=>PyData.eqv y a)) H
theorem yS{k:Nat}(hr:b_ k X.A):dC X (compareOp .In) (zM X.K false):=by
  intro pins s σ H x y v u Q I rx ry h
  obtain⟨a,xs,ha,hb,s1,s2,s3,q⟩:=h
  obtain⟨as,ra⟩:=DA.reads I s1 ha rx
  have hu:=hr.units
  rcases hb with hb | hb
  · obtain⟨bs,rb⟩:=DA.reads I (by simpa [PyData.canLay0] using s3) hb ry
    exact PySem.SeqAt.in_list_reads rb ra s3 s1 (by lia) ⟨.bl _,H,I,rfl,q⟩
  · obtain⟨bs,rb⟩:=DA.reads I (by simpa [PyData.canLay0] using s3) hb ry
    exact PySem.SeqAt.in_tuple_reads rb ra s3 s1 (by lia) ⟨.bl _,H,I,rfl,q⟩
theorem qz{k:Nat}(hr:b_ k X.A):dC X (compareOp .NotIn) (zM X.K true):=by
  intro pins s σ H x y v u Q I rx ry h
  obtain⟨a,xs,ha,hb,s1,s2,s3,q⟩:=h
  obtain⟨as,ra⟩:=DA.reads I s1 ha rx
  have hu:=hr.units
  rcases hb with hb | hb
  · obtain⟨bs,rb⟩:=DA.reads I (by simpa [PyData.canLay0] using s3) hb ry
    exact PySem.SeqAt.notIn_list_reads rb ra s3 s1 (by lia) ⟨.bl _,H,I,rfl,q⟩
  · obtain⟨bs,rb⟩:=DA.reads I (by simpa [PyData.canLay0] using s3) hb ry
    exact PySem.SeqAt.notIn_tuple_reads rb ra s3 s1 (by lia) ⟨.bl _,H,I,rfl,q⟩
def kW(neg:Bool):En→Rv→Rv→Option Rv:=fun e x y=>(fL e x).bind fun a=>(bS e y).bind fun p=>if (a.canLay0&&decide (a.depth≤60)&&PyData.canLayAll0 p.2)=true then some (.d (.bool (if neg then !(p.2.any fun y=>PyData.eqv y a) else p.2.any fun y=>PyData.eqv y a))) else none
theorem Be{neg:Bool}:en K (zM K neg) (kW neg):=by
  intro σ H0 F H e x y z v u Q R A B hg q
  unfold kW at hg
  obtain⟨a,h1,hg⟩:=Option.bind_eq_some_iff.mp hg
  obtain⟨⟨b,xs⟩,h2,hg⟩:=Option.bind_eq_some_iff.mp hg
  split at hg
  case isFalse=>cases hg
  case isTrue hl=>
  cases hg
  rw [Bool.and_eq_true,Bool.and_eq_true,decide_eq_true_iff] at hl
  obtain⟨p,vs,rfl,d1,s1⟩:=bF R B h2
  refine⟨a,xs,ik R A h1,?_,hl.1.1,hl.1.2,hl.2,q F H _ (cZ.refl _ _ _ _) R cT⟩
  cases b with
  | true=>exact .inl (cN.mpr ⟨p,vs,rfl,s1,d1.mono R.sm⟩)
  | false=>exact .inr (cF.mpr ⟨p,vs,rfl,s1,d1.mono R.sm⟩)
def lT:PyData→Bool
  | .none=>true
  | _=>false
theorem qb{F:Hp}{d:PyData}{v:V}(h:DA K F d v):decide (v=.non)=lT d:=by
  cases d with
  | none=>rw [gw.mp h];rfl
  | bool b=>rw [cn.mp h];rfl
  | int b=>rw [cx.mp h];rfl
  | str b=>rw [nY.mp h];rfl
  | tuple b=>obtain⟨a,_,e,_⟩:=cF.mp h;rw [e];rfl
  | list b=>obtain⟨a,_,e,_⟩:=cN.mp h;rw [e];rfl
  | dict b=>simp only [DA] at h;obtain⟨a,m,rfl,_⟩:=h;rfl
def yg(neg:Bool):En→Rv→Rv→Option Rv:=fun e x y=>(fL e x).bind fun a=>match y with
  | .d .none=>some (.d (.bool (if neg then !lT a else lT a)))
  | _=>none
def yf(neg:Bool):En→Rv→Rv→Option Rv:=fun e x y=>(ef x).bind fun a=>(ef y).bind fun b=>some (.d (.bool (if neg then !(a==b) else a==b)))
theorem Bi:en K (fun x y H Q=>y=.non∧Q (.bl (decide (x=.non))) H) (yg false):=by
  intro σ H0 F H e x y z v u Q R A B hg q
  unfold yg at hg
  obtain⟨a,h1,hg⟩:=Option.bind_eq_some_iff.mp hg
  split at hg
  · cases hg
    refine⟨gw.mp (show DA K F .none u from B),?_⟩
    rw [qb (ik R A h1)]
    exact q F H _ (cZ.refl _ _ _ _) R cT
  · cases hg
theorem Bg:en K (fun x y H Q=>∃b c,x=.bl b∧y=.bl c∧Q (.bl (b==c)) H) (yf false):=by
  intro σ H0 F H e x y z v u Q R A B hg q
  unfold yf at hg
  obtain⟨a,h1,hg⟩:=Option.bind_eq_some_iff.mp hg
  obtain⟨b,h2,hg⟩:=Option.bind_eq_some_iff.mp hg
  cases hg
  exact⟨a,b,dX A h1,dX B h2,q F H _ (cZ.refl _ _ _ _) R cT⟩
def A_:En→Rv→Rv→Option Rv:=rV (yg false) (yf false)
def BS:R2:=fun x y H Q=>(y=.non∧Q (.bl (decide (x=.non))) H)∨∃b c,x=.bl b∧y=.bl c∧Q (.bl (b==c)) H
theorem yT:dC X (compareOp .Is) BS:=yV.or yU
theorem C3:en K BS A_:=en.or Bi Bg
def fP:En→Rv→Rv→Option Rv:=fun e x y=>(bS e x).bind fun p=>(bL y).bind fun i=>(atI p.2 i).map .d
def BU(K:PySem.W.Frag):R2:=fun x y H Q=>BV K x y H Q∨BW K x y H Q
theorem C4:uP X (BU X.K):=vf.or yt
theorem aH.atI{F:Hp}{ds:List PyData}{vs:List V}(h:aH K F ds vs){i:Int}{d:PyData}(q:atI ds i=some d):∃v,L2.atI vs i=some v∧DA K F d v:=by
  unfold L2.atI at q ⊢
  obtain⟨j,h1,h2⟩:=Option.bind_eq_some_iff.mp q
  obtain⟨v,h3,h4⟩:=h.get h2
  exact⟨v,by rw [←h.len,h1];exact h3,h4⟩
theorem C5:en K (BU K) fP:=by
  intro σ H0 F H e x y z v u Q R A B hg q
  unfold fP at hg
  obtain⟨⟨b,xs⟩,h1,hg⟩:=Option.bind_eq_some_iff.mp hg
  obtain⟨i,h2,hg⟩:=Option.bind_eq_some_iff.mp hg
  obtain⟨d,h3,hg⟩:=Option.map_eq_some_iff.mp hg
  cases hg
  obtain⟨p,vs,rfl,d1,s1⟩:=bF R A h1
  obtain⟨w,h4,h5⟩:=d1.atI h3
  have fin:=q F H w (cZ.refl _ _ _ _) R h5
  cases b with
  | true=>exact .inl ⟨p,vs,i,w,rfl,bQ B h2,s1,h4,fin⟩
  | false=>exact .inr ⟨p,vs,i,w,rfl,bQ B h2,s1,h4,fin⟩
end
end L2
namespace HT
open PySem PySem.Spec PyProof.Rows
section
variable{prog:Program}{w:World}{A:Around}{E:Value→Shared→Prop}{s:Shared}
theorem getItem_tuple_all{t sl:Addr}{items:Array Value}{vl vu:Value}{lo hi:Option Int}{Q:Value→Shared→Prop}(ht:IsTup s.heap t items)(hs:s.heap.IsSliceOf sl vl vu .none)(pl:IsPart vl lo)(pu:IsPart vu hi)
    (hw:sIx items.size 0 lo=0∧sIx items.size items.size hi=items.size)
    (h:Q (.ref t) s):wpAny (model prog w) A (getItem (.ref t) (.ref sl)) Q E s:=by
  obtain⟨os,hos,hcs,hds⟩:=id hs
  have hTs:s.TypeIs (.ref sl) "slice":=⟨os,hos,hcs⟩
  unfold getItem
  try with_reducible refine wpAny_holding ?_
  first | refine wpAny_bind (wpAny_pure ?_) | skip
  refine wpAny_bind (wpAny_sequenceKey ht.typeIs (by decide) ?_)
  refine wpAny_bind (wpAny_callSpecial?_slot (name:=Str.ofString "__getitem__") ht.typeIs PyProof.Rows.slot_tuple_getitem
    (wpAny_call_entry PyProof.Rows.slot_tuple_getitem ht.typeIs entry_tuple_getitem ?_ (args_tuple_getitem _ _)))
  show wpAny _ _ (Builtin.Tuple.tupleItemsOf (.ref t) >>= _) _ _ s
  refine wpAny_bind (tupleItemsOf_ ht ?_)
  refine wpAny_bind (wpAny_typeOf hTs ?_)
  rw [if_pos (by decide)]
  refine wpAny_bind (eR hs pl pu ?_)
  have hno:(((sIx items.size 0 lo:Nat):Int)==0&&(1:Int)==1&&(sIx items.size items.size hi - sIx items.size 0 lo)==items.size)=true:=by
    rw [hw.1,hw.2];simp
  show wpAny _ _ (if (((sIx items.size 0 lo:Nat):Int)==0&&(1:Int)==1&&(sIx items.size items.size hi - sIx items.size 0 lo)==items.size)=true then _ else _) _ _ s
  rw [if_pos hno]
  unfold Builtin.Tuple.tupleIsExact
  refine wpAny_bind (wpAny_bind (wpAny_typeOf ht.typeIs (wpAny_pure ?_)))
  rw [if_pos (by decide)]
  exact wpAny_bind (wpAny_rule (wpAny_pure ⟨_,rfl,wpAny_pure h⟩))
end
end HT
namespace L2
open PySem PySem.Spec PyProof.Rows
section
variable{X:Cx}{K:PySem.W.Frag}{a:Expr}{fa:FE}{lo hi:Option Expr}{pos p2:Pos}
def cutD(xs:List PyData)(lo hi:Option Int):List PyData:=(xs.drop (HT.sIx xs.length 0 lo)).take (HT.sIx xs.length xs.length hi - HT.sIx xs.length 0 lo)
def B0(K:PySem.W.Frag):V→Option Int→Option Int→Hp→VK→Prop:=fun x lo hi H Q=>∃a xs,x=.ref a∧bK K H a xs∧
  (HT.sIx xs.length 0 lo=0∧HT.sIx xs.length xs.length hi=xs.length)∧Q (.ref a) H
theorem wz:uQ X (B0 X.K):=by
  intro pins s σ H x v vl vu lo hi sl Q I rx hs pl pu h
  obtain⟨a,xs,rfl,hx,hw,q⟩:=h
  cases rx
  obtain⟨its,r,ht,hz⟩:=I.tuple hx
  have hlen:its.toArray.size=xs.length:=by rw [List.size_toArray];exact r.length.symm
  refine⟨"tuple",_,PyProof.Rows.slot_tuple_getitem.lookup,ht.typeIs,?_⟩
  exact HT.getItem_tuple_all ht hs pl pu (by rw [hlen];exact hw) ⟨.ref a,H,I,rfl,q⟩
def Dd(K:PySem.W.Frag):V→Option Int→Option Int→Hp→VK→Prop:=fun x lo hi H Q=>BZ K x lo hi H Q∨(B0 K x lo hi H Q∨BY K x lo hi H Q)
theorem De:uQ X (Dd X.K):=zV.or (wz.or wy)
abbrev FO:=En→Option (Option Int × En)
def fO(K:PySem.W.Frag)(f:FO):TO:=fun σ H Q=>∃F e o e',a7 K F H σ e∧f e=some (o,e')∧∀F' H',cZ σ F H e F' H' e'→a7 K F' H' σ e'→Q o H'
theorem PO.mono{e:Option Expr}{t t':TO}(h:PO X e t)(m:∀σ H Q,t' σ H Q→t σ H Q):PO X e t':=fun pins s σ H Q I q=>h pins s σ H Q I (m σ H Q q)
def ck:FO:=fun e=>some (none,e)
def bY(f:FE):FO:=fun e=>(f e).bind fun p=>(bL p.1).map fun i=>(some i,p.2)
theorem be:PO X none (fO K ck):=vX.mono fun σ H Q h=>by
  obtain⟨F,e,o,e',R,hf,q⟩:=h
  cases hf
  exact q F H (cZ.refl _ _ _ _) R
theorem bf(h:PE X a (fE K fa)):PO X (some a) (fO K (bY fa)):=(vY h).mono fun σ H Q h=>by
  obtain⟨F,e,o,e',R,hf,q⟩:=h
  unfold bY at hf
  obtain⟨⟨x,e1⟩,h1,hf⟩:=Option.bind_eq_some_iff.mp hf
  obtain⟨i,h2,hf⟩:=Option.map_eq_some_iff.mp hf
  cases hf
  exact⟨F,e,x,_,R,h1,fun F1 H1 v X1 R1 A1=>⟨i,bQ A1 h2,q F1 H1 X1 R1⟩⟩
def Ba(e:En)(x:Rv)(lo hi:Option Int):Option Rv:=(bS e x).map fun p=>if p.1=true then .l (cutD p.2 lo hi) else .d (.tuple (cutD p.2 lo hi))
def jx(fa:FE)(fl fh:FO):FE:=fun e=>(fa e).bind fun p=>(fl p.2).bind fun l=>(fh l.2).bind fun h=>(Ba h.2 p.1 l.1 h.1).map fun z=>(z,h.2)
theorem rF{F:Hp}{ds:List PyData}{vs:List V}(h:aH K F ds vs)(lo hi:Option Int):aH K F (cutD ds lo hi) (ko vs lo hi):=by
  unfold cutD ko
  rw [h.len]
  exact(h.drop _).take _
theorem uT{α:Type}{xs:List α}{lo hi:Option Int}(h:HT.sIx xs.length 0 lo=0∧HT.sIx xs.length xs.length hi=xs.length):(xs.drop (HT.sIx xs.length 0 lo)).take (HT.sIx xs.length xs.length hi - HT.sIx xs.length 0 lo)=xs:=by
  rw [h.1,h.2];simp
theorem tV{fl fh:FO}(he:PE X a (fE X.K fa))(hl:PO X lo (fO X.K fl))(hh:PO X hi (fO X.K fh)):PE X (.Subscript a (.Slice lo hi none p2) pos) (fE X.K (jx fa fl fh)):=(sT De he hl hh).mono fun σ H Q h=>by
  obtain⟨F,e,z,e',R,hf,q⟩:=h
  unfold jx at hf
  obtain⟨⟨x,e1⟩,h1,hf⟩:=Option.bind_eq_some_iff.mp hf
  obtain⟨⟨l,e2⟩,h2,hf⟩:=Option.bind_eq_some_iff.mp hf
  obtain⟨⟨u,e3⟩,h3,hf⟩:=Option.bind_eq_some_iff.mp hf
  obtain⟨z',h4,hf⟩:=Option.map_eq_some_iff.mp hf
  cases hf
  refine⟨F,e,x,e1,R,h1,fun F1 H1 v X1 R1 A1=>⟨F1,e1,l,e2,R1,h2,fun F2 H2 X2 R2=>⟨F2,e2,u,_,R2,h3,fun F3 H3 X3 R3=>?_⟩⟩⟩
  have X12:=X1.trans X2
  have X13:=X12.trans X3
  have A3:=(A1.ext X2).ext X3
  unfold Ba at h4
  obtain⟨⟨b,xs⟩,h5,h4⟩:=Option.map_eq_some_iff.mp h4
  obtain⟨p,vs,rfl,d1,s1⟩:=bF R3 A3 h5
  cases b with
  | true=>
    rw [if_pos rfl] at h4;cases h4
    refine .inr (.inr ⟨p,vs,rfl,s1,fun t ht=>?_⟩)
    obtain⟨R4,X4,hF,no⟩:=R3.newL (vs:=ko vs l u) ht
    exact q _ _ _ (X13.trans X4) R4 ⟨t,_,rfl,X13.dom _ ht,hF,ar,rF d1 l u,no⟩
  | false=>
    rw [if_neg (by simp)] at h4;cases h4
    by_cases hw:HT.sIx vs.length 0 l=0∧HT.sIx vs.length vs.length u=vs.length
    · refine .inr (.inl ⟨p,vs,rfl,s1,hw,?_⟩)
      have e5:cutD xs l u=xs:=by unfold cutD;exact uT (by rw [d1.len];exact hw)
      rw [e5] at q
      obtain⟨F4,R4,X4,hF⟩:=R3.growT (av.refl _) s1
      exact q _ _ _ (X13.trans X4) R4 (cF.mpr ⟨p,vs,rfl,hF,d1.mono X4.sf⟩)
    · refine .inl ⟨p,vs,rfl,s1,hw,fun t ht=>?_⟩
      obtain⟨R4,X4⟩:=R3.newT (vs:=ko vs l u) ht
      exact q _ _ _ (X13.trans X4) R4 (cF.mpr ⟨t,_,rfl,.inl (.inl ar),(rF d1 l u).mono X4.sf⟩)
end
section
variable{X:Cx}{K:PySem.W.Frag}
theorem jC{σ:L2.St}{H0 F H:Hp}{e:En}{x:Rv}{vs:List V}(h:cK K σ H0 F H e [x] vs):∃v,vs=[v]∧bP K σ H0 F H e x v:=by
  obtain⟨v,ws,rfl,h1,h2⟩:=h
  have h2':ws=[]:=h2
  subst h2'
  exact⟨v,rfl,h1⟩
theorem l4{σ:L2.St}{H0 F H:Hp}{e:En}{x y:Rv}{vs:List V}(h:cK K σ H0 F H e [x,y] vs):∃v u,vs=[v,u]∧bP K σ H0 F H e x v∧bP K σ H0 F H e y u:=by
  obtain⟨v,ws,rfl,h1,h2⟩:=h
  obtain⟨u,rfl,h3⟩:=jC h2
  exact⟨v,u,rfl,h1,h3⟩
def g1(g:En→Rv→Option Rv):En→List Rv→Option Rv:=fun e xs=>match xs with
  | [x]=>g e x
  | _=>none
def g2(g:En→Rv→Rv→Option Rv):En→List Rv→Option Rv:=fun e xs=>match xs with
  | [x,y]=>g e x y
  | _=>none
theorem gu{r:List V→Hp→VK→Prop}{g:En→Rv→Option Rv}(h:Ar K (fun v H Q=>r [v] H Q) g):dr K r (g1 g):=by
  intro σ H0 F H e xs z vs Q R A hg q
  unfold g1 at hg
  match xs,hg with
  | [x],hg=>
    obtain⟨v,rfl,h1⟩:=jC A
    exact h σ H0 F H e x z v Q R h1 hg q
theorem pe{r:List V→Hp→VK→Prop}{g:En→Rv→Rv→Option Rv}(h:en K (fun v u H Q=>r [v,u] H Q) g):dr K r (g2 g):=by
  intro σ H0 F H e xs z vs Q R A hg q
  unfold g2 at hg
  match xs,hg with
  | [x,y],hg=>
    obtain⟨v,u,rfl,h1,h2⟩:=l4 A
    exact h σ H0 F H e x y z v u Q R h1 h2 hg q
def eE:En→Rv→Option Rv:=fun e x=>(bS e x).map fun p=>.d (.int p.2.length)
theorem Bn:dr K (fun xs H Q=>∃p ys,xs=[.ref p]∧(ce K H p ys∨bK K H p ys)∧Q (.int ys.length) H) (g1 eE):=gu fun σ H0 F H e x z v Q R A hg q=>by
  obtain⟨⟨b,xs⟩,h5,h4⟩:=Option.map_eq_some_iff.mp hg
  obtain⟨p,vs,rfl,d1,s1⟩:=bF R A h5
  cases h4
  refine⟨p,vs,rfl,?_,?_⟩
  · cases b with
    | true=>exact .inl s1
    | false=>exact .inr s1
  · rw [←d1.len]
    exact q F H _ (cZ.refl _ _ _ _) R g9
def qd:En→Rv→Option Rv:=fun _ x=>(bL x).map fun i=>.d (.int (if i < 0 then -i else i))
theorem AK:dr K (fun xs H Q=>∃i,xs=[.int i]∧Q (.int (if i < 0 then -i else i)) H) (g1 qd):=gu fun σ H0 F H e x z v Q R A hg q=>by
  obtain⟨i,h5,h4⟩:=Option.map_eq_some_iff.mp hg
  cases h4
  exact⟨i,by rw [bQ A h5],q F H _ (cZ.refl _ _ _ _) R g9⟩
def qe:En→Rv→Option Rv:=fun _ x=>match x with
  | .d (.int i)=>some (.d (.int i))
  | .d (.bool k)=>some (.d (.int (if k then 1 else 0)))
  | _=>none
theorem Bf:dr K (fun xs H Q=>(∃i,xs=[.int i]∧Q (.int i) H)∨∃k,xs=[.bl k]∧Q (.int (if k then 1 else 0)) H) (g1 qe):=gu fun σ H0 F H e x z v Q R A hg q=>by
  unfold qe at hg
  split at hg
  · cases hg
    exact .inl ⟨_,by rw [cx.mp (show DA K F (.int _) v from A)],q F H _ (cZ.refl _ _ _ _) R g9⟩
  · cases hg
    exact .inr ⟨_,by rw [cn.mp (show DA K F (.bool _) v from A)],q F H _ (cZ.refl _ _ _ _) R g9⟩
  · cases hg
def lO:=gI (fun _ _=>true) fun i j=>.int (if j < i then j else i)
def iZ:=gI (fun _ _=>true) fun i j=>.int (if j > i then j else i)
theorem Bs:dr K (fun xs H Q=>∃i j,xs=[.int i,.int j]∧Q (.int (if j < i then j else i)) H) (g2 lO):=pe fun σ H0 F H e x y z v u Q R A B hg q=>by
  obtain⟨i,j,h1,h2,h3⟩:=f9 (K:=K) (g:=fun i j=>.int (if j < i then j else i)) (fun _ _ _=>cx.mpr rfl) σ H0 F H e x y z v u Q R A B hg q
  exact⟨i,j,by rw [h1,h2],h3⟩
theorem Br:dr K (fun xs H Q=>∃i j,xs=[.int i,.int j]∧Q (.int (if j > i then j else i)) H) (g2 iZ):=pe fun σ H0 F H e x y z v u Q R A B hg q=>by
  obtain⟨i,j,h1,h2,h3⟩:=f9 (K:=K) (g:=fun i j=>.int (if j > i then j else i)) (fun _ _ _=>cx.mpr rfl) σ H0 F H e x y z v u Q R A B hg q
  exact⟨i,j,by rw [h1,h2],h3⟩
def df:En→Rv→Option Rv:=fun e x=>(bS e x).map fun p=>.d (.tuple p.2)
theorem wG:dr K (fun xs H Q=>∃p ys,xs=[.ref p]∧((ce K H p ys∧∀l,H l=none→Q (.ref l) (aY H l (.tup ys)))∨(bK K H p ys∧Q (.ref p) H))) (g1 df):=gu fun σ H0 F H e x z v Q R A hg q=>by
  obtain⟨⟨b,xs⟩,h5,h4⟩:=Option.map_eq_some_iff.mp hg
  obtain⟨p,vs,rfl,d1,s1⟩:=bF R A h5
  cases h4
  refine⟨p,vs,rfl,?_⟩
  cases b with
  | true=>
    refine .inl ⟨s1,fun t ht=>?_⟩
    obtain⟨R4,X4⟩:=R.newT (vs:=vs) ht
    exact q _ _ _ X4 R4 (cF.mpr ⟨t,_,rfl,.inl (.inl ar),d1.mono X4.sf⟩)
  | false=>
    obtain⟨F4,R4,X4,hF⟩:=R.growT (av.refl _) s1
    exact .inr ⟨s1,q _ _ _ X4 R4 (cF.mpr ⟨p,vs,rfl,hF,d1.mono X4.sf⟩)⟩
def pC:En→Rv→Option Rv:=fun e x=>(bS e x).map fun p=>.l p.2
theorem yB:dr K (fun xs H Q=>∃p ys,xs=[.ref p]∧(ce K H p ys∨bK K H p ys)∧∀l,H l=none→Q (.ref l) (aY H l (.lst ys))) (g1 pC):=gu fun σ H0 F H e x z v Q R A hg q=>by
  obtain⟨⟨b,xs⟩,h5,h4⟩:=Option.map_eq_some_iff.mp hg
  obtain⟨p,vs,rfl,d1,s1⟩:=bF R A h5
  cases h4
  refine⟨p,vs,rfl,?_,fun t ht=>?_⟩
  · cases b with
    | true=>exact .inl s1
    | false=>exact .inr s1
  · obtain⟨R4,X4,hF,no⟩:=R.newL (vs:=vs) ht
    exact q _ _ _ X4 R4 ⟨t,_,rfl,ht,hF,ar,d1,no⟩
def jU:List PyData→Option (List Int)
  | []=>some []
  | .int i::r=>(jU r).map (i::·)
  | _=>none
theorem jV:∀{ds:List PyData} {ns:List Int},jU ds=some ns→ds=ns.map .int
  | [],_,h=>by cases h;rfl
  | .int i::r,_,h=>by
    obtain⟨ns,h1,rfl⟩:=Option.map_eq_some_iff.mp h
    rw [jV h1];rfl
theorem dZ:∀(ns:List Int),jU (ns.map .int)=some ns
  | []=>rfl
  | i::r=>by simp [jU,dZ r]
def iU:List PyData→Option (List Bool)
  | []=>some []
  | .bool i::r=>(iU r).map (i::·)
  | _=>none
theorem iV:∀{ds:List PyData} {ns:List Bool},iU ds=some ns→ds=ns.map .bool
  | [],_,h=>by cases h;rfl
  | .bool i::r,_,h=>by
    obtain⟨ns,h1,rfl⟩:=Option.map_eq_some_iff.mp h
    rw [iV h1];rfl
def eL(g:List PyData→Option PyData):En→Rv→Option Rv:=fun e x=>match bS e x with
  | some (true,xs)=>(g xs).map .d
  | _=>none
theorem uq{r:List V→Hp→VK→Prop}{g:List PyData→Option PyData}(h:∀(F H:Hp) (p:Addr) (xs:List PyData) (vs:List V) (d:PyData) (Q:VK),aH K F xs vs→ce K H p vs→g xs=some d→(∀v,(∀F,DA K F d v)→Q v H)→r [.ref p] H Q):dr K r (g1 (eL g)):=gu fun σ H0 F H e x z v Q R A hg q=>by
  unfold eL at hg
  split at hg
  case h_2=>cases hg
  case h_1 xs h5=>
  obtain⟨p,vs,rfl,d1,s1⟩:=bF R A h5
  obtain⟨d,h6,hg⟩:=Option.map_eq_some_iff.mp hg
  cases hg
  exact h F H p xs vs d Q d1 s1 h6 fun v hv=>q F H v (cZ.refl _ _ _ _) R (hv F)
def kU:List PyData→Option PyData:=fun xs=>(iU xs).map fun ns=>.bool (ns.all id)
def mz:List PyData→Option PyData:=fun xs=>(iU xs).map fun ns=>.bool (ns.any id)
theorem AM:dr K (fun xs H Q=>∃(l:Addr) (bs:List Bool),xs=[.ref l]∧ce K H l (bs.map V.bl)∧Q (.bl (bs.all id)) H) (g1 (eL kU)):=uq fun F H p xs vs d Q d1 s1 hg q=>by
  obtain⟨ns,h1,h2⟩:=Option.map_eq_some_iff.mp hg
  cases h2
  rw [iV h1] at d1
  rw [aH.bools.mp d1] at s1
  exact⟨p,ns,rfl,s1,q _ fun _=>cn.mpr rfl⟩
theorem AN:dr K (fun xs H Q=>∃(l:Addr) (bs:List Bool),xs=[.ref l]∧ce K H l (bs.map V.bl)∧Q (.bl (bs.any id)) H) (g1 (eL mz)):=uq fun F H p xs vs d Q d1 s1 hg q=>by
  obtain⟨ns,h1,h2⟩:=Option.map_eq_some_iff.mp hg
  cases h2
  rw [iV h1] at d1
  rw [aH.bools.mp d1] at s1
  exact⟨p,ns,rfl,s1,q _ fun _=>cn.mpr rfl⟩
mutual
def xw:PyData→Bool
  | .tuple ds=>pj ds
  | .list _=>false
  | .dict _=>false
  | _=>true
def pj:List PyData→Bool
  | []=>true
  | d::r=>xw d&&pj r
end
end
end L2
namespace L2
open PySem PySem.Spec PyProof.Rows
section
variable{K:PySem.W.Frag}{σ:L2.St}{H0 F H F' H':Hp}{e e':En}
theorem a7.upd1(R:a7 K F H σ e){σ':L2.St}(i:Nat)(hl:σ'.length=e'.length)(hσ:∀j,j≠i→σ'[j]?=σ[j]?)(he:∀j,j≠i→e'[j]?=e[j]?)(sF:av F F')(sm:av F' H')(hf:∀j a,j≠i→Fp σ e H j a→F' a=none)
    (hh:∀j a o,j≠i→Fp σ e H j a→H a=some o→H' a=some o)(hd:∀x,e'[i]?=some (some (.d x))→∃v,σ'[i]?=some (some v)∧DA K F' x v)
    (ho:∀xs,e'[i]?=some (some (.l xs))→∃l vs,σ'[i]?=some (some (.ref l))∧F' l=none∧H' l=some (.lst vs)∧aH K F' xs vs)
    (hn:∀xss,e'[i]?=some (some (.n xss))→∃(l:Addr) (bs:List Addr),σ'[i]?=some (some (.ref l))∧F' l=none∧H' l=some (.lst (bs.map V.ref))∧bs.length=xss.length∧bs.Nodup∧l∉bs∧
      ∀(k:Nat) (b:Addr) (ys:List PyData),bs[k]?=some b→xss[k]?=some ys→F' b=none∧∃us,H' b=some (.lst us)∧aH K F' ys us)
    (hi:∀a j,j≠i→Fp σ' e' H' i a→¬Fp σ e H j a):a7 K F' H' σ' e'∧∀j a,j≠i→(Fp σ' e' H' j a↔ Fp σ e H j a):=by
  have fs:∀j a,j≠i→(Fp σ' e' H' j a↔ Fp σ e H j a):=by
    intro j a hj
    have key:∀xss l,e[j]?=some (some (.n xss))→σ[j]?=some (some (.ref l))→H' l=H l:=fun xss l h1 h2=>by
      obtain⟨l',bs,g1,g2,g3,_⟩:=R.nst j xss h1
      rw [h2] at g1;cases g1
      rw [g3]
      exact hh j l _ hj (.inr ⟨xss,l,bs,h1,h2,g3,.inl rfl⟩) g3
    unfold Fp
    rw [he j hj,hσ j hj]
    constructor
    · rintro(h1 | ⟨xss,l,bs,h1,h2,h3,h4⟩)
      · exact .inl h1
      · exact .inr ⟨xss,l,bs,h1,h2,by rw [←key xss l h1 h2];exact h3,h4⟩
    · rintro(h1 | ⟨xss,l,bs,h1,h2,h3,h4⟩)
      · exact .inl h1
      · exact .inr ⟨xss,l,bs,h1,h2,by rw [key xss l h1 h2];exact h3,h4⟩
  refine⟨⟨sm,hl,fun j x q=>?_,fun j xs q=>?_,fun j xss q=>?_,fun j k a q1 q2=>?_⟩,fs⟩
  · by_cases z:j=i
    · subst z;exact hd x q
    · rw [he j z] at q
      obtain⟨v,h1,h2⟩:=R.dat j x q
      exact⟨v,by rw [hσ j z];exact h1,DA.mono sF h2⟩
  · by_cases z:j=i
    · subst z;exact ho xs q
    · rw [he j z] at q
      obtain⟨l,vs,h1,h2,h3,h4⟩:=R.own j xs q
      have o:Fp σ e H j l:=.inl ⟨xs,q,h1⟩
      exact⟨l,vs,by rw [hσ j z];exact h1,hf j l z o,hh j l _ z o h3,h4.mono sF⟩
  · by_cases z:j=i
    · subst z;exact hn xss q
    · rw [he j z] at q
      obtain⟨l,bs,h1,h2,h3,h4,h5,h6,h7⟩:=R.nst j xss q
      have o:Fp σ e H j l:=.inr ⟨xss,l,bs,q,h1,h3,.inl rfl⟩
      refine⟨l,bs,by rw [hσ j z];exact h1,hf j l z o,hh j l _ z o h3,h4,h5,h6,fun k b ys g1 g2=>?_⟩
      obtain⟨c1,us,c2,c3⟩:=h7 k b ys g1 g2
      have ob:Fp σ e H j b:=.inr ⟨xss,l,bs,q,h1,h3,.inr (List.mem_of_getElem? g1)⟩
      exact⟨hf j b z ob,us,hh j b _ z ob c2,c3.mono sF⟩
  · by_cases zj:j=i
    · subst zj
      by_cases zk:k=j
      · exact zk.symm
      · exact absurd ((fs k a zk).mp q2) (hi a k zk q1)
    · by_cases zk:k=i
      · subst zk
        exact absurd ((fs j a zj).mp q1) (hi a j zj q2)
      · exact R.fp j k a ((fs j a zj).mp q1) ((fs k a zk).mp q2)
theorem a7.putL(R:a7 K F H σ e){i:Nat}{xs ys:List PyData}{l:Addr}{vs:List V}(hi:e[i]?=some (some (.l xs)))(hl:σ[i]?=some (some (.ref l)))(hd:aH K F ys vs):
    a7 K F (aY H l (.lst vs)) σ (e.set i (some (.l ys)))∧cZ σ F H e F (aY H l (.lst vs)) (e.set i (some (.l ys))):=by
  obtain⟨l',vs',h1,h2,h3,h4⟩:=R.own i xs hi
  rw [hl] at h1;cases h1
  have hlt:i < e.length:=(List.getElem?_eq_some_iff.mp hi).1
  have fi:Fp σ e H i l:=.inl ⟨xs,hi,hl⟩
  have gi:(e.set i (some (Sv.l ys)))[i]?=some (some (.l ys)):=List.getElem?_set_self hlt
  obtain⟨R',fs⟩:=R.upd1 (F':=F) (H':=aY H l (.lst vs)) (e':=e.set i (some (.l ys))) i (by rw [List.length_set];exact R.len) (fun _ _=>rfl) (fun j hj=>List.getElem?_set_ne (Ne.symm hj)) (av.refl F)
    (fun b o q=>by
      have z:b≠l:=fun z=>by rw [z,h2] at q;cases q
      rw [aE z];exact R.sm b o q)
    (fun j a _ q=>(R.fpAt q).1)
    (fun j a o hj q ha=>by
      have z:a≠l:=fun z=>hj (R.fp j i a q (by rw [z];exact fi))
      rw [aE z];exact ha)
    (fun x q=>by rw [gi] at q;cases q) (fun zs q=>by rw [gi] at q;cases q;exact⟨l,vs,hl,h2,ar,hd⟩) (fun xss q=>by rw [gi] at q;cases q)
    (fun a j hj q q2=>by
      rcases q with ⟨zs,_,q⟩ | ⟨xss,_,_,q,_⟩
      · rw [hl] at q;cases q
        exact hj (R.fp j i _ q2 fi)
      · rw [gi] at q;cases q)
  refine⟨R',⟨av.refl _,fun a q=>?_,fun _ _ q _ _=>q,fun a ws q=>?_,fun a o q n=>?_,fun j=>?_,fun a ⟨j,q⟩=>?_⟩⟩
  · by_cases z:a=l
    · rw [z,ar] at q;cases q
    · rw [aE z] at q;exact q
  · by_cases z:a=l
    · rw [z];exact⟨vs,ar⟩
    · rw [aE z];exact⟨ws,q⟩
  · have z:a≠l:=fun z=>n ⟨i,by rw [z];exact fi⟩
    rw [aE z];exact q
  · by_cases z:j=i
    · subst z;rw [gi];exact⟨fun _=>⟨xs,hi⟩,fun _=>⟨ys,rfl⟩⟩
    · rw [List.getElem?_set_ne (Ne.symm z)]
  · by_cases z:j=i
    · subst z
      rcases q with ⟨zs,_,q⟩ | ⟨xss,_,_,q,_⟩
      · rw [hl] at q;cases q;exact .inl ⟨j,fi⟩
      · rw [gi] at q;cases q
    · exact .inl ⟨j,(fs j a z).mp q⟩
theorem a7.setD(R:a7 K F H σ e)(i:Nat){x:PyData}{v:V}(h:DA K F x v):a7 K F H (σ.set i (some v)) (e.set i (some (.d x)))∧∀a,c_ (σ.set i (some v)) (e.set i (some (.d x))) H a→c_ σ e H a:=by
  have gi:∀s,(e.set i (some (Sv.d x)))[i]?=some (some s)→s=.d x∧i < e.length:=fun s q=>by
    have hlt:i < e.length:=by have:=(List.getElem?_eq_some_iff.mp q).1;simpa using this
    rw [List.getElem?_set_self hlt] at q
    exact⟨(Option.some.inj (Option.some.inj q)).symm,hlt⟩
  have nofp:∀a,¬Fp (σ.set i (some v)) (e.set i (some (.d x))) H i a:=fun a q=>by
    rcases q with ⟨zs,q,_⟩ | ⟨xss,_,_,q,_⟩
    · cases (gi _ q).1
    · cases (gi _ q).1
  obtain⟨R',fs⟩:=R.upd1 (F':=F) (H':=H) (σ':=σ.set i (some v)) (e':=e.set i (some (.d x))) i (by rw [List.length_set,List.length_set];exact R.len) (fun j hj=>List.getElem?_set_ne (Ne.symm hj)) (fun j hj=>List.getElem?_set_ne (Ne.symm hj)) (av.refl F) R.sm
    (fun j a _ q=>(R.fpAt q).1) (fun j a o _ _ ha=>ha)
    (fun y q=>by
      obtain⟨z,hlt⟩:=gi _ q
      cases z
      exact⟨v,List.getElem?_set_self (by rw [R.len];exact hlt),h⟩)
    (fun zs q=>by cases (gi _ q).1) (fun xss q=>by cases (gi _ q).1) (fun a j hj q=>absurd q (nofp a))
  refine⟨R',fun a ⟨j,q⟩=>?_⟩
  by_cases z:j=i
  · subst z;exact absurd q (nofp a)
  · exact⟨j,(fs j a z).mp q⟩
theorem a7.setL(R:a7 K F H σ e)(i:Nat){xs:List PyData}{l:Addr}{vs:List V}(h1:F l=none)(h2:H l=some (.lst vs))(h3:aH K F xs vs)(h4:¬c_ σ e H l):a7 K F H (σ.set i (some (.ref l))) (e.set i (some (.l xs)))∧∀a,c_ (σ.set i (some (.ref l))) (e.set i (some (.l xs))) H a→c_ σ e H a∨a=l:=by
  have gi:∀s,(e.set i (some (Sv.l xs)))[i]?=some (some s)→s=.l xs∧i < e.length:=fun s q=>by
    have hlt:i < e.length:=by have:=(List.getElem?_eq_some_iff.mp q).1;simpa using this
    rw [List.getElem?_set_self hlt] at q
    exact⟨(Option.some.inj (Option.some.inj q)).symm,hlt⟩
  have onefp:∀a,Fp (σ.set i (some (.ref l))) (e.set i (some (.l xs))) H i a→a=l:=fun a q=>by
    rcases q with ⟨zs,q,q2⟩ | ⟨xss,_,_,q,_⟩
    · obtain⟨_,hlt⟩:=gi _ q
      rw [List.getElem?_set_self (by rw [R.len];exact hlt)] at q2
      cases q2;rfl
    · cases (gi _ q).1
  obtain⟨R',fs⟩:=R.upd1 (F':=F) (H':=H) (σ':=σ.set i (some (.ref l))) (e':=e.set i (some (.l xs))) i (by rw [List.length_set,List.length_set];exact R.len) (fun j hj=>List.getElem?_set_ne (Ne.symm hj)) (fun j hj=>List.getElem?_set_ne (Ne.symm hj)) (av.refl F) R.sm
    (fun j a _ q=>(R.fpAt q).1) (fun j a o _ _ ha=>ha) (fun y q=>by cases (gi _ q).1)
    (fun zs q=>by
      obtain⟨z,hlt⟩:=gi _ q
      cases z
      exact⟨l,vs,List.getElem?_set_self (by rw [R.len];exact hlt),h1,h2,h3⟩)
    (fun xss q=>by cases (gi _ q).1) (fun a j hj q q2=>h4 ⟨j,by rw [onefp a q] at q2;exact q2⟩)
  refine⟨R',fun a ⟨j,q⟩=>?_⟩
  by_cases z:j=i
  · subst z;exact .inr (onefp a q)
  · exact .inl ⟨j,(fs j a z).mp q⟩
end
section
variable{X:Cx}{K:PySem.W.Frag}{o a:Expr}{es:List Expr}{fo:FE}{fs:FA}{name:Str}{apos cpos:Pos}{id:String}
def oY(K:PySem.W.Frag)(r:V→List V→Hp→VK→Prop)(g:List PyData→List PyData→Option (PyData × List PyData)):Prop:=
  ∀(F H:Hp) (l:Addr) (xs ys ds:List PyData) (z:PyData) (vs us:List V) (Q:VK),F l=none→av F H→H l=some (.lst vs)→aH K F xs vs→aH K F ds us→g xs ds=some (z,ys)→
    (∀w ws,DA K F z w→aH K F ys ws→Q w (aY H l (.lst ws)))→r (.ref l) us H Q
def bZ(g:List PyData→List PyData→Option (PyData × List PyData))(fo:FE)(fs:FA):FE:=fun e=>(fo e).bind fun p=>match p.1 with
  | .s i=>(fs p.2).bind fun q=>(il q.1).bind fun ds=>match q.2[i]? with
    | some (some (.l xs))=>(g xs ds).map fun z=>(.d z.1,q.2.set i (some (.l z.2)))
    | _=>none
  | _=>none
theorem uE{r:V→List V→Hp→VK→Prop}{g:List PyData→List PyData→Option (PyData × List PyData)}(hm:oY K r g){σ:L2.St}{H:Hp}{Q:VK}(h:fE K (bZ g fo fs) σ H Q):DF K "list" r (fE K fo) (fA K fs) σ H Q:=by
  obtain⟨F,e,z,e',R,hf,q⟩:=h
  unfold bZ at hf
  obtain⟨⟨x,e1⟩,h1,hf⟩:=Option.bind_eq_some_iff.mp hf
  match x,h1,hf with
  | .s i,h1,hf=>
  dsimp only at hf
  obtain⟨⟨rs,e2⟩,h2,hf⟩:=Option.bind_eq_some_iff.mp hf
  obtain⟨ds,h3,hf⟩:=Option.bind_eq_some_iff.mp hf
  refine⟨F,e,_,e1,R,h1,fun F1 H1 v X1 R1 A1=>?_⟩
  obtain⟨g1,zs,g2⟩:=A1
  obtain⟨l,vs,c1,c2,c3,c4⟩:=R1.own i zs g2
  rw [g1] at c1;cases c1
  refine⟨.inl ⟨rfl,vs,.inl (.inl c3)⟩,F1,e1,rs,e2,R1,h2,fun F2 H2 us X2 R2 A2=>?_⟩
  match h4:e2[i]?,hf with
  | some (some (.l xs)),hf=>
  dsimp only at hf
  obtain⟨⟨zd,ys⟩,h5,hf⟩:=Option.map_eq_some_iff.mp hf
  cases hf
  obtain⟨F3,R3,s3,d3,f3⟩:=cK.frozen R2 A2 h3
  obtain⟨l',vs',k1,k2,k3,k4⟩:=R3.own i xs h4
  rw [g1] at k1;cases k1
  refine hm F3 H2 l xs ys ds zd vs' us Q k2 R3.sm k3 k4 d3 h5 fun w ws hw hws=>?_
  obtain⟨R4,X4⟩:=R3.putL h4 g1 hws
  exact q _ _ _ ((X1.trans (X2.frz s3 f3)).trans X4) R4 hw
theorem xI{r:V→List V→Hp→VK→Prop}{g:List PyData→List PyData→Option (PyData × List PyData)}(slot:Slot "list" name id)(hty:typeOf (.builtin id)=pure (.type "method_descriptor"))(hm:Aq X id r)(hf:oY X.K r g)(ho:PE X o (fE X.K fo))(ha:PA X (a::es) (fA X.K fs))
    (hbase:attributeBase o name X.env (eval o X.env)=eval o X.env)
    (hfew:((backTo cpos (starEach (a::es) X.env)).all (fun x=> !x.1)&&(backToKw cpos (keywordEach [] X.env)).all (fun x=>x.1.isSome)
      &&decide ((a::es).length+([]:List Keyword).length+(if ([]:List Keyword).isEmpty then 0 else 1) < 30))=true)
    (hline:(apos.endLine==cpos.line)=true)(hs:starEach (a::es) X.env=(false,eval a X.env)::starEach es X.env)(hplain:(backTo cpos (starEach es X.env)).any (·.1)=false):
    PE X (.Call (.Attribute o name apos) (a::es) [] cpos) (fE X.K (bZ g fo fs)):=(BF PySem.F.plainAttrs_list slot hty hm ho ha hbase hfew hline hs hplain).mono fun _ _ _ h=>uE hf h
def ba:List PyData→List PyData→Option (PyData × List PyData):=fun xs ds=>match ds with
  | [d]=>if xs.length < 1000000 then some (.none,xs++[d]) else none
  | _=>none
theorem rh:oY K pL ba:=by
  intro F H l xs ys ds z vs us Q hF sm hl d1 d2 hg q
  unfold ba at hg
  match ds,hg,d2 with
  | [d],hg,d2=>
    simp only [aH] at d2
    obtain⟨w,r,rfl,hw,rfl⟩:=d2
    dsimp only at hg
    split at hg
    case isFalse=>cases hg
    case isTrue hlt=>
    cases hg
    have:=d1.len
    have sl:sizeLine=16777216:=sizeLine_eq
    exact⟨l,vs,w,rfl,rfl,hl,by lia,q _ _ (gw.mpr rfl) (d1.append (aH.one hw))⟩
def Bq:List PyData→List PyData→Option (PyData × List PyData):=fun xs ds=>match ds with
  | []=>(xs[xs.length - 1]?).map fun d=>(d,xs.dropLast)
  | _=>none
def gS:List PyData→List PyData→Option (PyData × List PyData):=fun xs ds=>match ds with
  | [.int i]=>if 0≤i∧i < 1000000000 then(xs[i.toNat]?).map fun d=>(d,xs.eraseIdx i.toNat) else none
  | _=>none
theorem vZ:oY K t_ gS:=by
  intro F H l xs ys ds z vs us Q hF sm hl d1 d2 hg q
  unfold gS at hg
  match ds,hg,d2 with
  | [.int i],hg,d2=>
    simp only [aH,DA] at d2
    obtain⟨w,r,rfl,rfl,rfl⟩:=d2
    dsimp only at hg
    split at hg
    case isFalse=>cases hg
    case isTrue hlt=>
    obtain⟨d,h1,h2⟩:=Option.map_eq_some_iff.mp hg
    cases h2
    obtain⟨v,g1,g2⟩:=d1.get h1
    have hlt2:i.toNat < vs.length:=(List.getElem?_eq_some_iff.mp g1).1
    exact⟨l,vs,i,i.toNat,v,rfl,rfl,hl,by lia,by lia,seqIndex_of hlt.1 (by lia),g1,q _ _ g2 (d1.erase _)⟩
end
end L2
namespace L2
open PySem PySem.Spec PyProof.Rows
inductive Fl where
  | nx (e:En)
  | bk (e:En)
  | ct (e:En)
  | rt (r:Rv) (e:En)
abbrev FS:=En→Option Fl
structure cU (W:List Nat) (σ:L2.St) (F H:Hp) (e:En) (σ':L2.St) (F' H':Hp) (e':En):Prop where
  sf:av F F'
  dom:∀a,H' a=none→H a=none
  fr:∀a vs,F a=none→H a=some (.lst vs)→¬c_ σ e H a→F' a=none
  lst:∀a vs,H a=some (.lst vs)→∃vs',H' a=some (.lst vs')
  tmp:∀a o,H a=some o→¬c_ σ e H a→H' a=some o
  own:∀a,c_ σ' e' H' a→c_ σ e H a∨H a=none
  wr:∀j,j∉W→σ'[j]?=σ[j]?
section
variable{K:PySem.W.Frag}{W W1 W2:List Nat}{σ σ1 σ2 σ':L2.St}{H0 F H F1 H1 F2 H2 F' H':Hp}{e e1 e2 e':En}
theorem cU.refl:cU W σ F H e σ F H e:=⟨av.refl _,fun _ h=>h,fun _ _ h _ _=>h,fun _ vs h=>⟨vs,h⟩,fun _ _ h _=>h,fun _ h=>.inl h,fun _ _=>rfl⟩
theorem cZ.s(x:cZ σ F H e F' H' e'):cU W σ F H e σ F' H' e':=⟨x.sf,x.dom,x.fr,x.lst,x.tmp,x.ow,fun _ _=>rfl⟩
theorem cU.trans(x:cU W σ F H e σ1 F1 H1 e1)(y:cU W σ1 F1 H1 e1 σ2 F2 H2 e2):cU W σ F H e σ2 F2 H2 e2:=
  ⟨x.sf.trans y.sf,fun a h=>x.dom a (y.dom a h),fun a vs h n no=>let ⟨vs',q⟩:=x.lst a vs n;y.fr a vs' (x.fr a vs h n no) q (fun z=>(x.own a z).elim no fun z=>by rw [n] at z;cases z),fun a vs h=>let ⟨vs',q⟩:=x.lst a vs h;y.lst a vs' q,
    fun a o h n=>y.tmp a o (x.tmp a o h n) (fun z=>(x.own a z).elim n fun z=>by rw [h] at z;cases z),
    fun a h=>(y.own a h).elim (x.own a) (fun z=>.inr (x.dom a z)),
    fun j h=>(y.wr j h).trans (x.wr j h)⟩
theorem cU.mono(x:cU W1 σ F H e σ' F' H' e')(h:∀j,j∈W1→j∈W):cU W σ F H e σ' F' H' e':=⟨x.sf,x.dom,x.fr,x.lst,x.tmp,x.own,fun j n=>x.wr j fun z=>n (h j z)⟩
end
def jO(K:PySem.W.Frag)(W:List Nat)(σ:L2.St)(F H:Hp)(e:En)(D:nM):Fl→Prop
  | .nx e'=>∀F' H' σ',cU W σ F H e σ' F' H' e'→a7 K F' H' σ' e'→D.nx σ' H'
  | .bk e'=>∀F' H' σ',cU W σ F H e σ' F' H' e'→a7 K F' H' σ' e'→D.bk σ' H'
  | .ct e'=>∀F' H' σ',cU W σ F H e σ' F' H' e'→a7 K F' H' σ' e'→D.ct σ' H'
  | .rt r e'=>∀F' H' σ' v,cU W σ F H e σ' F' H' e'→a7 K F' H' σ' e'→bP K σ' H F' H' e' r v→D.rt v H'
def fS(K:PySem.W.Frag)(f:FS)(W:List Nat):TS:=fun D σ H=>∃F e fl,a7 K F H σ e∧f e=some fl∧jO K W σ F H e D fl
theorem PS.mono{X:Cx}{st:Stmt}{t t':TS}(h:PS X st t)(m:∀D σ H,t' D σ H→t D σ H):PS X st t':=fun pins s σ H D I q=>h pins s σ H D I (m D σ H q)
theorem jr.mono{X:Cx}{st:List Stmt}{t t':TS}(h:jr X st t)(m:∀D σ H,t' D σ H→t D σ H):jr X st t':=fun pins s σ H D I q=>h pins s σ H D I (m D σ H q)
theorem jO.later{K:PySem.W.Frag}{W W1 W2:List Nat}{σ σ1:L2.St}{F H F1 H1:Hp}{e e1:En}{D:nM}{fl:Fl}(h:jO K W σ F H e D fl)(x:cU W1 σ F H e σ1 F1 H1 e1)(h1:∀j,j∈W1→j∈W)(h2:∀j,j∈W2→j∈W):jO K W2 σ1 F1 H1 e1 D fl:=by
  cases fl with
  | nx e'=>exact fun F' H' σ' y R=>h F' H' σ' ((x.mono h1).trans (y.mono h2)) R
  | bk e'=>exact fun F' H' σ' y R=>h F' H' σ' ((x.mono h1).trans (y.mono h2)) R
  | ct e'=>exact fun F' H' σ' y R=>h F' H' σ' ((x.mono h1).trans (y.mono h2)) R
  | rt r e'=>exact fun F' H' σ' v y R A=>h F' H' σ' v ((x.mono h1).trans (y.mono h2)) R (A.weak x.dom)
section
variable{X:Cx}{K:PySem.W.Frag}{W W1 W2:List Nat}{st:Stmt}{cV:List Stmt}{f g:FS}{a b:Expr}{fa:FE}{ft:FT}{pos:Pos}
def dz:FS:=fun e=>some (.nx e)
def aA(f g:FS):FS:=fun e=>(f e).bind fun fl=>match fl with
  | .nx e1=>g e1
  | fl=>some fl
theorem a8:jr X [] (fS K dz []):=wb.mono fun D σ H h=>by
  obtain⟨F,e,fl,R,hf,q⟩:=h
  cases hf
  exact q F H σ cU.refl R
theorem af(h1:PS X st (fS K f W1))(h2:jr X cV (fS K g W2)):jr X (st::cV) (fS K (aA f g) (W1++W2)):=(tJ h1 h2).mono fun D σ H h=>by
  obtain⟨F,e,fl,R,hf,q⟩:=h
  unfold aA at hf
  obtain⟨fl1,h1,hf⟩:=Option.bind_eq_some_iff.mp hf
  have s1:∀j,j∈W1→j∈W1++W2:=fun j h=>List.mem_append.mpr (.inl h)
  have s2:∀j,j∈W2→j∈W1++W2:=fun j h=>List.mem_append.mpr (.inr h)
  refine⟨F,e,fl1,R,h1,?_⟩
  cases fl1 with
  | nx e1=>exact fun F' H' σ' x R'=>⟨F',e1,fl,R',hf,q.later x s1 s2⟩
  | bk e1=>cases hf;exact fun F' H' σ' x R'=>q F' H' σ' (x.mono s1) R'
  | ct e1=>cases hf;exact fun F' H' σ' x R'=>q F' H' σ' (x.mono s1) R'
  | rt r e1=>cases hf;exact fun F' H' σ' v x R' A=>q F' H' σ' v (x.mono s1) R' A
theorem aj(h1:PS X st (fS K f W)):jr X [st] (fS K f W):=wc h1
def c8(fa:FE):FS:=fun e=>(fa e).map fun p=>.nx p.2
theorem bN(he:PE X a (fE K fa))(hs:swapsWith a none pos.line X.env=pure false):PS X (.Expr a pos) (fS K (c8 fa) []):=(wa he hs).mono fun D σ H h=>by
  obtain⟨F,e,fl,R,hf,q⟩:=h
  obtain⟨⟨x,e1⟩,h1,hf⟩:=Option.map_eq_some_iff.mp hf
  cases hf
  exact⟨F,e,x,e1,R,h1,fun F1 H1 v X1 R1 A1=>q F1 H1 σ X1.s R1⟩
def bJ(fa:FE):FS:=fun e=>(fa e).map fun p=>.rt p.1 p.2
theorem aJ(he:PE X a (fE K fa)):PS X (.Return (some a) pos) (fS K (bJ fa) []):=(zt he).mono fun D σ H h=>by
  obtain⟨F,e,fl,R,hf,q⟩:=h
  obtain⟨⟨x,e1⟩,h1,hf⟩:=Option.map_eq_some_iff.mp hf
  cases hf
  exact⟨F,e,x,e1,R,h1,fun F1 H1 v X1 R1 A1=>q F1 H1 σ v X1.s R1 A1⟩
def g_(ft:FT)(f g:FS):FS:=fun e=>(ft e).bind fun p=>if p.1=true then f p.2 else g p.2
theorem cw{c:Expr}{bs cs:List Stmt}(hc:PT X c (fT K ft))(ha:jr X bs (fS K f W1))(hb:jr X cs (fS K g W2)):PS X (.If c bs cs pos) (fS K (g_ ft f g) (W1++W2)):=(BL hc ha hb).mono fun D σ H h=>by
  obtain⟨F,e,fl,R,hf,q⟩:=h
  unfold g_ at hf
  obtain⟨⟨x,e1⟩,h1,hf⟩:=Option.bind_eq_some_iff.mp hf
  refine⟨F,e,x,e1,R,h1,fun F1 H1 X1 R1=>?_⟩
  cases x with
  | true=>exact⟨F1,e1,fl,R1,hf,q.later (W1:=[]) X1.s (fun j h=>by cases h) fun j h=>List.mem_append.mpr (.inl h)⟩
  | false=>exact⟨F1,e1,fl,R1,hf,q.later (W1:=[]) X1.s (fun j h=>by cases h) fun j h=>List.mem_append.mpr (.inr h)⟩
def wg(i:Nat)(r:Rv)(e:En):Option En:=match r with
  | .d x=>some (e.set i (some (.d x)))
  | .l xs=>some (e.set i (some (.l xs)))
  | .s _=>none
theorem tM{σ:L2.St}{H F H1 F1:Hp}{e e1 e2:En}{i:Nat}{r:Rv}{v:V}(R:a7 K F H σ e)(X1:cZ σ F H e F1 H1 e1)(R1:a7 K F1 H1 σ e1)(A1:bP K σ H F1 H1 e1 r v)(h:wg i r e1=some e2):
    cU [i] σ F H e (σ.set i (some v)) F1 H1 e2∧a7 K F1 H1 (σ.set i (some v)) e2:=by
  have wr:∀j,j∉[i]→(σ.set i (some v))[j]?=σ[j]?:=fun j n=>List.getElem?_set_ne (fun z=>n (by simp [z]))
  cases r with
  | d x=>
    cases h
    obtain⟨R2,o2⟩:=R1.setD i A1
    exact⟨⟨X1.sf,X1.dom,X1.fr,X1.lst,X1.tmp,fun a h=>X1.ow a (o2 a h),wr⟩,R2⟩
  | l xs=>
    cases h
    obtain⟨l,vs,rfl,h1,h2,h3,h4,h5⟩:=A1
    obtain⟨R2,o2⟩:=R1.setL i h2 h3 h4 h5
    refine⟨⟨X1.sf,X1.dom,X1.fr,X1.lst,X1.tmp,fun a h=>?_,wr⟩,R2⟩
    rcases o2 a h with z | z
    · exact X1.ow a z
    · exact .inr (by rw [z];exact h1)
  | s j=>cases h
def aT(i:Nat)(fa:FE):FS:=fun e=>(fa e).bind fun p=>(wg i p.1 p.2).map .nx
theorem ap{i:Nat}{x:Str}{pos':Pos}(hN:X.N.Nodup)(hi:X.N[i]?=some x)(hx:Ap X.env.scope x)(he:PE X a (fE K fa))(hs:swapsWith a (some (.Name x pos')) pos.line X.env=pure false)(hf:X.fn x=true∨X.env.scope.names.lookup x=some .local):
    PS X (.Assign [.Name x pos'] a pos) (fS K (aT i fa) [i]):=(zu hN hi hx he hs hf).mono fun D σ H h=>by
  obtain⟨F,e,fl,R,hf,q⟩:=h
  unfold aT at hf
  obtain⟨⟨r,e1⟩,h1,hf⟩:=Option.bind_eq_some_iff.mp hf
  obtain⟨e2,h2,hf⟩:=Option.map_eq_some_iff.mp hf
  cases hf
  refine⟨F,e,r,e1,R,h1,fun F1 H1 v X1 R1 A1=>?_⟩
  obtain⟨x,R2⟩:=tM R X1 R1 A1 h2
  exact q F1 H1 _ x R2
abbrev FG:=PyData→En→Option En
def fG(K:PySem.W.Frag)(g:FG)(W:List Nat):TG:=fun v σ H Q=>∃F e x e',a7 K F H σ e∧DA K F x v∧g x e=some e'∧∀σ',cU W σ F H e σ' F H e'→a7 K F H σ' e'→Q σ' H
abbrev wV:=List PyData→En→Option En
def Cw(K:PySem.W.Frag)(g:wV)(W:List Nat):uI:=fun vs σ H Q=>∃F e xs e',a7 K F H σ e∧aH K F xs vs∧g xs e=some e'∧∀σ',cU W σ F H e σ' F H e'→a7 K F H σ' e'→Q σ' H
theorem PG.mono{tg:Expr}{t t':TG}(h:PG X tg t)(m:∀v σ H Q,t' v σ H Q→t v σ H Q):PG X tg t':=fun pins s σ H v u Q I r q=>h pins s σ H v u Q I r (m v σ H Q q)
theorem qX.mono{tg:List Expr}{t t':uI}(h:qX X tg t)(m:∀v σ H Q,t' v σ H Q→t v σ H Q):qX X tg t':=fun pins s σ H v u Q I r q=>h pins s σ H v u Q I r (m v σ H Q q)
def ah(i:Nat):FG:=fun x e=>some (e.set i (some (.d x)))
def c7:wV:=fun xs e=>match xs with
  | []=>some e
  | _=>none
def aC(g:FG)(gs:wV):wV:=fun xs e=>match xs with
  | x::r=>(g x e).bind fun e1=>gs r e1
  | _=>none
def dI(gs:wV):FG:=fun x e=>match x with
  | .tuple xs=>gs xs e
  | _=>none
theorem aF{i:Nat}{x:Str}(hN:X.N.Nodup)(hi:X.N[i]?=some x)(hx:Ap X.env.scope x)(hf:X.fn x=true∨X.env.scope.names.lookup x=some .local):PG X (.Name x pos) (fG K (ah i) [i]):=(vR hN hi hx hf).mono fun v σ H Q h=>by
  obtain⟨F,e,x,e',R,hx,hg,q⟩:=h
  cases hg
  obtain⟨R2,o2⟩:=R.setD i hx
  exact q _ ⟨av.refl _,fun _ h=>h,fun _ _ h _ _=>h,fun _ vs h=>⟨vs,h⟩,fun _ _ h _=>h,fun a h=>.inl (o2 a h),fun j n=>List.getElem?_set_ne (fun z=>n (by simp [z]))⟩ R2
theorem iD:qX X [] (Cw K c7 []):=vT.mono fun v σ H Q h=>by
  obtain⟨F,e,x,e',R,hx,hg,q⟩:=h
  unfold c7 at hg
  split at hg
  · cases hg
    simp only [aH] at hx
    exact⟨hx,q σ cU.refl R⟩
  · cases hg
theorem bE{es:List Expr}{g1:FG}{gs:wV}(h1:PG X a (fG K g1 W1))(h2:qX X es (Cw K gs W2))
    (hs:(assignEach (a::es) X.env).map (·.2)=assign a X.env::(assignEach es X.env).map (·.2)):qX X (a::es) (Cw K (aC g1 gs) (W1++W2)):=(sX h1 h2 hs).mono fun v σ H Q h=>by
  obtain⟨F,e,xs,e',R,hx,hg,q⟩:=h
  unfold aC at hg
  match xs,hg,hx with
  | x::r,hg,hx=>
    simp only [aH] at hx
    obtain⟨w,ws,e1,hw,hr⟩:=hx
    dsimp only at hg
    obtain⟨e1',h3,h4⟩:=Option.bind_eq_some_iff.mp hg
    refine⟨w,ws,e1,F,e,x,e1',R,hw,h3,fun σ1 x1 R1=>⟨F,e1',r,e',R1,hr,h4,fun σ2 x2 R2=>?_⟩⟩
    exact q σ2 ((x1.mono fun j h=>List.mem_append.mpr (.inl h)).trans (x2.mono fun j h=>List.mem_append.mpr (.inr h))) R2
theorem j7{es:List Expr}{k n:Nat}{gs:wV}(hK:X.K=K)(hc:X.calm=true)(h:qX X es (Cw K gs W))(hl:∀xs e e',gs xs e=some e'→xs.length=n)(hn:(assignEach es X.env).length=n)(hst:(assignEach es X.env).findIdx? (·.1)=none):PG X (.Tuple es k pos) (fG K (dI gs) W):=(vS hK hc h hn hst).mono fun v σ H Q h=>by
  obtain⟨F,e,x,e',R,hx,hg,q⟩:=h
  unfold dI at hg
  match x,hg,hx with
  | .tuple xs,hg,hx=>
    obtain⟨p,vs,e1,e2,e3⟩:=cF.mp hx
    exact⟨p,vs,e1,R.sm.tup e2,by rw [←e3.len];exact hl xs e e' hg,F,e,xs,e',R,e3,hg,q⟩
theorem jR(xs:List PyData)(e e':En)(h:c7 xs e=some e'):xs.length=0:=by
  unfold c7 at h
  split at h
  · rfl
  · cases h
theorem bX{g:FG}{gs:wV}{n:Nat}(hl:∀xs e e',gs xs e=some e'→xs.length=n)(xs:List PyData)(e e':En)(h:aC g gs xs e=some e'):xs.length=n+1:=by
  unfold aC at h
  match xs,h with
  | x::r,h=>
    obtain⟨e1,h3,h4⟩:=Option.bind_eq_some_iff.mp h
    simp [hl r e1 e' h4]
def qG(fa:FE)(g:FG):FS:=fun e=>(fa e).bind fun p=>match p.1 with
  | .d x=>(g x p.2).map .nx
  | _=>none
theorem tW{tg:Expr}{g:FG}(he:PE X a (fE K fa))(hg:PG X tg (fG K g W))(hs:swapsWithSole [tg] a pos.line X.env=pure false)(hw:swappedStores [tg] a X.env=pure none)
    (h1:(assignEach [tg] X.env).map (·.2)=[assign tg X.env]):PS X (.Assign [tg] a pos) (fS K (qG fa g) W):=(zo he hg hs hw h1).mono fun D σ H h=>by
  obtain⟨F,e,fl,R,hf,q⟩:=h
  unfold qG at hf
  obtain⟨⟨r,e1⟩,h1,hf⟩:=Option.bind_eq_some_iff.mp hf
  match r,h1,hf with
  | .d x,h1,hf=>
    obtain⟨e2,h2,hf⟩:=Option.map_eq_some_iff.mp hf
    cases hf
    exact⟨F,e,_,e1,R,h1,fun F1 H1 v X1 R1 A1=>⟨F1,e1,x,e2,R1,A1,h2,fun σ' x2 R2=>q F1 H1 σ' (X1.s.trans x2) R2⟩⟩
def ui(i j:Nat)(fs:FA):FS:=fun e=>(fs e).bind fun p=>match p.1 with
  | [.d x,.d y]=>some (.nx ((p.2.set i (some (.d x))).set j (some (.d y))))
  | _=>none
theorem zG{i j:Nat}{x y:Str}{fs:FA}{px py pt:Pos}{kt k2 pt2}(hc:X.calm=true)(hN:X.N.Nodup)(hi:X.N[i]?=some x)(hj:X.N[j]?=some y)(hij:i≠j)
    (hx:X.env.scope.names.lookup x=some .local)(hy:X.env.scope.names.lookup y=some .local)(ha:PA X [a,b] (fA K fs))
    (hw:swappedStores [.Tuple [.Name x px,.Name y py] kt pt] (.Tuple [a,b] k2 pt2) X.env=pure (some [x,y]))
    (hs:swapsWithSole [.Tuple [.Name x px,.Name y py] kt pt] (.Tuple [a,b] k2 pt2) pos.line X.env=pure false):
    PS X (.Assign [.Tuple [.Name x px,.Name y py] kt pt] (.Tuple [a,b] k2 pt2) pos) (fS K (ui i j fs) [i,j]):=(zr hc hN hi hj hij hx hy ha hw hs).mono fun D σ H h=>by
  obtain⟨F,e,fl,R,hf,q⟩:=h
  unfold ui at hf
  obtain⟨⟨rs,e1⟩,h1,hf⟩:=Option.bind_eq_some_iff.mp hf
  refine⟨F,e,rs,e1,R,h1,fun F1 H1 vs X1 R1 A1=>?_⟩
  match rs,hf,A1 with
  | [.d x,.d y],hf,A1=>
    cases hf
    obtain⟨v,u,rfl,a1,a2⟩:=l4 A1
    obtain⟨R2,o2⟩:=R1.setD i a1
    obtain⟨R3,o3⟩:=R2.setD j a2
    refine⟨v,u,rfl,q F1 H1 _ ⟨X1.sf,X1.dom,X1.fr,X1.lst,X1.tmp,fun a h=>X1.ow a (o2 a (o3 a h)),fun m n=>?_⟩ R3⟩
    rw [List.getElem?_set_ne (fun z=>n (by simp [z])),List.getElem?_set_ne (fun z=>n (by simp [z]))]
def nZ:Rv→Option PyData
  | .d x=>some x
  | .l xs=>some (.list xs)
  | .s _=>none
theorem qc{r:Rv}{d:PyData}(h:nZ r=some d):il [r]=some [d]:=by
  cases r with
  | d x=>cases h;rfl
  | l xs=>cases h;rfl
  | s i=>cases h
def e_(ft:FT)(f:FS):Nat→FS
  | 0,_=>none
  | n+1,e=>(ft e).bind fun p=>if p.1=true then(f p.2).bind fun fl=>match fl with
      | .nx e1=>e_ ft f n e1
      | .ct e1=>e_ ft f n e1
      | .bk e1=>some (.nx e1)
      | .rt r e1=>some (.rt r e1)
    else some (.nx p.2)
def hE(n:Nat)(ft:FT)(f:FS):FS:=e_ ft f n
theorem j8{n:Nat}{c:Expr}{body:List Stmt}(hp:PassesOwn (model X.prog X.w) X.A X.env X.xe)(hc:PT X c (fT K ft))(hb:jr X body (fS K f W)):PS X (.While c body [] pos) (fS K (hE n ft f) W):=(tI hp hc hb).mono fun D σ H h=>by
  refine⟨fun m σ H=>∃F e fl,a7 K F H σ e∧e_ ft f m e=some fl∧jO K W σ F H e D fl,⟨n,h⟩,?_⟩
  rintro m σ H ⟨F,e,fl,R,hf,q⟩
  cases m with
  | zero=>cases hf
  | succ m=>
    unfold e_ at hf
    obtain⟨⟨x,e1⟩,h1,hf⟩:=Option.bind_eq_some_iff.mp hf
    refine⟨F,e,x,e1,R,h1,fun F1 H1 X1 R1=>?_⟩
    have sub:∀j,j∈([]:List Nat)→j∈W:=fun j h=>by cases h
    cases x with
    | false=>
      rw [if_neg (by simp)] at hf
      cases hf
      exact Bk (q F1 H1 σ X1.s R1)
    | true=>
      rw [if_pos rfl] at hf
      refine Bl ?_
      obtain⟨fl1,h2,hf⟩:=Option.bind_eq_some_iff.mp hf
      have q1:jO K W σ F1 H1 e1 D fl:=q.later (W1:=[]) X1.s sub fun j h=>h
      refine⟨fun σ' H'=>∃F' e',a7 K F' H' σ' e'∧e_ ft f m e'=some fl∧jO K W σ' F' H' e' D fl,fun σ' H' ⟨F',e',r1,r2,r3⟩=>⟨m,Nat.lt_succ_self m,F',e',fl,r1,r2,r3⟩,F1,e1,fl1,R1,h2,?_⟩
      cases fl1 with
      | nx e2=>exact fun F2 H2 σ2 x R2=>⟨F2,e2,R2,hf,q1.later x (fun j h=>h) fun j h=>h⟩
      | ct e2=>exact fun F2 H2 σ2 x R2=>⟨F2,e2,R2,hf,q1.later x (fun j h=>h) fun j h=>h⟩
      | bk e2=>cases hf;exact fun F2 H2 σ2 x R2=>q1 F2 H2 σ2 x R2
      | rt r e2=>cases hf;exact fun F2 H2 σ2 v x R2 A=>q1 F2 H2 σ2 v x R2 A
end
end L2
namespace L2
open PySem PySem.Spec PyProof.Rows
theorem PI.mono{X:Cx}{tg iter:Expr}{t t':TI}(h:PI X tg iter t)(m:∀σ H R,t' σ H R→t σ H R):PI X tg iter t':=fun pins s σ H R I q=>h pins s σ H R I (m σ H R q)
theorem PI.or{X:Cx}{tg iter:Expr}{t t':TI}(h:PI X tg iter t)(h':PI X tg iter t'):PI X tg iter (fun σ H R=>t σ H R∨t' σ H R):=fun pins s σ H R I q=>by
  rcases q with q | q
  · exact h pins s σ H R I q
  · exact h' pins s σ H R I q
abbrev fm:=List (Nat × List PyData)
def rc(K:PySem.W.Frag)(σ:L2.St)(F H:Hp)(own:fm):Prop:=∀p∈own,∃l vs,σ[p.1]?=some (some (.ref l))∧H l=some (.lst vs)∧aH K F p.2 vs
def rf(K:PySem.W.Frag)(σ:L2.St)(J:It)(items:List PyData)(own:fm)(F0:Hp):Prop:=∀F H,av F0 F→av F H→rc K σ F H own→
  (∀i,i < items.length→J.go i H)∧(∀i,items.length≤i→J.stop i H)∧∀i d x H',items[i]?=some d→J.yld i H x H'→∃F',av H H'∧av F F'∧av F' H'∧(∀a,F a=none→H a≠none→F' a=none)∧DA K F' d x
abbrev FI:=En→Option (List PyData × fm × En)
def keeps(own:fm)(e:En):Prop:=∀p∈own,e[p.1]?=some (some (.l p.2))
def fI(K:PySem.W.Frag)(f:FI):TI:=fun σ H R=>∃F e items own e',a7 K F H σ e∧f e=some (items,own,e')∧∀J F' H',cZ σ F H e F' H' e'→a7 K F' H' σ e'→keeps own e'→rf K σ J items own F'→R J H'
section
variable{K:PySem.W.Frag}{σ:L2.St}{H0 F H F' H':Hp}{e e':En}
theorem a7.held(R:a7 K F H σ e){own:fm}(h:keeps own e):rc K σ F H own:=fun p hp=>by
  obtain⟨l,vs,h1,h2,h3,h4⟩:=R.own p.1 p.2 (h p hp)
  exact⟨l,vs,h1,h3,h4⟩
theorem a7.step(R:a7 K F H σ e)(s:av H H')(sF:av F F')(sm:av F' H')(fz:∀a,F a=none→H a≠none→F' a=none):a7 K F' H' σ e∧cZ σ F H e F' H' e:=by
  obtain⟨R',o'⟩:=R.keep sF sm (fun a ⟨i,h⟩=>by
    obtain⟨h1,vs,h2⟩:=R.fpAt h
    exact fz a h1 (by rw [h2];simp)) fun a o _ h=>s a o h
  exact⟨R',⟨sF,fun a h=>s.free h,fun a vs h1 h2 _=>fz a h1 (by rw [h2];simp),fun a vs h=>⟨vs,s _ _ h⟩,fun a o h _=>s a o h,fun _=>Iff.rfl,fun a h=>.inl ((o' a).mp h)⟩⟩
inductive me (K:PySem.W.Frag) (σ:L2.St) (F:Hp) (p:Addr):Bool→List PyData→fm→Prop
  | tup {xs vs}:bK K F p vs→aH K F xs vs→me K σ F p false xs []
  | lst {xs vs}:ce K F p vs→aH K F xs vs→me K σ F p true xs []
  | own {i xs}:σ[i]?=some (some (.ref p))→me K σ F p true xs [(i,xs)]
theorem me.at{p:Addr}{b:Bool}{xs:List PyData}{own:fm}{F0:Hp}(h:me K σ F0 p b xs own)(s0:av F0 F)(s1:av F H){own':fm}(hh:rc K σ F H own')(hs:∀q∈own,q∈own'):∃vs,aH K F xs vs∧(if b=true then ce K H p vs else bK K H p vs):=by
  cases h with
  | tup h1 h2=>exact⟨_,h2.mono s0,(s0.trans s1).tup h1⟩
  | lst h1 h2=>exact⟨_,h2.mono s0,(s0.trans s1).seq h1⟩
  | @own i xs h1=>
    obtain⟨l,vs,g1,g2,g3⟩:=hh (i,xs) (hs (i,xs) (by simp))
    dsimp only at g1 g3
    rw [h1] at g1;cases g1
    exact⟨vs,g3,.inl (.inl g2)⟩
def qJ(e:En):Rv→Option (Bool × List PyData × fm)
  | .d (.tuple xs)=>some (false,xs,[])
  | .d (.list xs)=>some (true,xs,[])
  | .l xs=>some (true,xs,[])
  | .s i=>match e[i]? with
    | some (some (.l xs))=>some (true,xs,[(i,xs)])
    | _=>none
  | _=>none
theorem jE{r:Rv}{v:V}{b:Bool}{xs:List PyData}{own:fm}(R:a7 K F H σ e)(A:bP K σ H0 F H e r v)(h:qJ e r=some (b,xs,own)):
    ∃F' p,a7 K F' H σ e∧av F F'∧(∀a,F a=none→H0 a≠none→F' a=none)∧v=.ref p∧me K σ F' p b xs own∧keeps own e:=by
  cases r with
  | d x=>
    cases x with
    | tuple ds=>
      cases h
      obtain⟨a,ys,e1,e2,e3⟩:=cF.mp A
      exact⟨F,a,R,av.refl _,fun _ h _=>h,e1,.tup e2 e3,fun p hp=>by cases hp⟩
    | list ds=>
      cases h
      obtain⟨a,ys,e1,e2,e3⟩:=cN.mp A
      exact⟨F,a,R,av.refl _,fun _ h _=>h,e1,.lst e2 e3,fun p hp=>by cases hp⟩
    | _=>cases h
  | l ys=>
    cases h
    obtain⟨F',R',s',d',f'⟩:=A.frozen R
    obtain⟨a,ys,e1,e2,e3⟩:=cN.mp d'
    exact⟨F',a,R',s',f',e1,.lst e2 e3,fun p hp=>by cases hp⟩
  | s i=>
    obtain⟨h1,ys,h2⟩:=A
    simp only [qJ,h2] at h
    cases h
    obtain⟨l,vs,e1,e2,e3,e4⟩:=R.own i _ h2
    rw [h1] at e1;cases e1
    exact⟨F,l,R,av.refl _,fun _ h _=>h,rfl,.own h1,fun p hp=>by simp only [List.mem_singleton] at hp;subst hp;exact h2⟩
theorem qj{p:Addr}{xs:List PyData}{own:fm}{F0:Hp}(h:me K σ F0 p true xs own):rf K σ (CF K p) xs own F0:=by
  intro F H s0 s1 hh
  obtain⟨vs,d,q⟩:=h.at s0 s1 hh fun _ h=>h
  have q:ce K H p vs:=q
  refine⟨fun i hi=>⟨vs,vs[i]'(by rw [←d.len];exact hi),q,List.getElem?_eq_getElem _⟩,fun i hi=>⟨vs,q,by rw [←d.len];exact hi⟩,fun i x v H' hx hy=>?_⟩
  obtain⟨rfl,hy⟩:=hy
  obtain⟨w,g1,g2⟩:=d.get hx
  have e:=hy vs q
  rw [g1] at e;cases e
  exact⟨F,av.refl _,av.refl _,s1,fun _ h _=>h,g2⟩
theorem r9{p:Addr}{xs:List PyData}{own:fm}{F0:Hp}(h:me K σ F0 p false xs own):rf K σ (CG K p) xs own F0:=by
  intro F H s0 s1 hh
  obtain⟨vs,d,q⟩:=h.at s0 s1 hh fun _ h=>h
  have q:bK K H p vs:=q
  refine⟨fun i hi=>⟨vs,vs[i]'(by rw [←d.len];exact hi),q,List.getElem?_eq_getElem _⟩,fun i hi=>⟨vs,q,by rw [←d.len];exact hi⟩,fun i x v H' hx hy=>?_⟩
  obtain⟨rfl,hy⟩:=hy
  obtain⟨w,g1,g2⟩:=d.get hx
  have e:=hy vs q
  rw [g1] at e;cases e
  exact⟨F,av.refl _,av.refl _,s1,fun _ h _=>h,g2⟩
theorem sC{p:Addr}{x y:V}{a b:PyData}(s1:av F H)(hp:H p=none)(hx:DA K F a x)(hy:DA K F b y):∃F',av H (aY H p (.tup [x,y]))∧av F F'∧av F' (aY H p (.tup [x,y]))∧(∀c,F c=none→H c≠none→F' c=none)∧DA K F' (.tuple [a,b]) (.ref p):=by
  have hF:F p=none:=s1.free hp
  have sF:av F (aY F p (.tup [x,y])):=av.new hF
  refine⟨aY F p (.tup [x,y]),av.new hp,sF,fun b o q=>?_,fun c h n=>?_,cF.mpr ⟨p,_,rfl,.inl (.inl ar),.cons (DA.mono sF hx) (.one (DA.mono sF hy))⟩⟩
  · by_cases z:b=p
    · subst z;rw [ar] at q ⊢;exact q
    · rw [aE z] at q ⊢;exact s1 _ _ q
  · have z:c≠p:=fun z=>n (by rw [z];exact hp)
    rw [aE z];exact h
def fw:List PyData→List PyData→List PyData
  | x::r,y::s=>.tuple [x,y]::fw r s
  | _,_=>[]
theorem kl:∀{xs ys:List PyData} {i:Nat} {d:PyData},(fw xs ys)[i]?=some d→∃x y,xs[i]?=some x∧ys[i]?=some y∧d=.tuple [x,y]
  | [],ys,i,d,h=>by simp [fw] at h
  | x::r,[],i,d,h=>by simp [fw] at h
  | x::r,y::s,0,d,h=>by
    simp only [fw,List.getElem?_cons_zero] at h
    cases h;exact⟨x,y,rfl,rfl,rfl⟩
  | x::r,y::s,i+1,d,h=>by
    simp only [fw,List.getElem?_cons_succ] at h
    obtain⟨a,b,h1,h2,h3⟩:=kl h
    exact⟨a,b,by simpa using h1,by simpa using h2,h3⟩
theorem zipD_len:∀(xs ys:List PyData),(fw xs ys).length=min xs.length ys.length
  | [],ys=>by simp [fw]
  | x::r,[]=>by simp [fw]
  | x::r,y::s=>by simp [fw,zipD_len r s]
theorem iv{P Q:Hp→Addr→List V→Prop}{J:It}{l1 l2:Addr}{b1 b2:Bool}{xs ys:List PyData}{own1 own2:fm}{F0:Hp}(h1:me K σ F0 l1 b1 xs own1)(h2:me K σ F0 l2 b2 ys own2)
    (hP:∀H vs,(if b1=true then ce K H l1 vs else bK K H l1 vs)→P H l1 vs)(hQ:∀H vs,(if b2=true then ce K H l2 vs else bK K H l2 vs)→Q H l2 vs)
    (go:∀i H vs us x y,P H l1 vs→Q H l2 us→vs[i]?=some x→us[i]?=some y→J.go i H)(stop:∀i H vs us,P H l1 vs→Q H l2 us→(vs.length≤i∨us.length≤i)→J.stop i H)
    (yld:∀i H v H',J.yld i H v H'→∃p x y,v=.ref p∧H p=none∧H'=aY H p (.tup [x,y])∧∀xs ys,P H l1 xs→Q H l2 ys→xs[i]?=some x∧ys[i]?=some y):
    rf K σ J (fw xs ys) (own1++own2) F0:=by
  intro F H s0 s1 hh
  obtain⟨vs,d1,q1⟩:=h1.at s0 s1 hh fun _ h=>List.mem_append.mpr (.inl h)
  obtain⟨us,d2,q2⟩:=h2.at s0 s1 hh fun _ h=>List.mem_append.mpr (.inr h)
  have q1:=hP H vs q1
  have q2:=hQ H us q2
  have l1':=d1.len
  have l2':=d2.len
  rw [zipD_len]
  refine⟨fun i hi=>go i H vs us (vs[i]'(by lia)) (us[i]'(by lia)) q1 q2 (List.getElem?_eq_getElem _) (List.getElem?_eq_getElem _),fun i hi=>stop i H vs us q1 q2 (by lia),fun i x v H' hx hy=>?_⟩
  obtain⟨t,a,b,rfl,ht,rfl,hy3⟩:=yld i H v H' hy
  obtain⟨x',y',hx2,hy',rfl⟩:=kl hx
  obtain⟨w,g1,g2⟩:=d1.get hx2
  obtain⟨w',g3,g4⟩:=d2.get hy'
  obtain⟨e1,e2⟩:=hy3 vs us q1 q2
  rw [g1] at e1;cases e1
  rw [g3] at e2;cases e2
  exact sC s1 ht g2 g4
def aK(lo:Int)(n:Nat):List PyData:=(List.range n).map fun(i:Nat)=>.int (lo+(i:Int))
theorem oi{lo:Int}{n:Nat}{F0:Hp}:rf K σ (Co lo n) (aK lo n) [] F0:=by
  intro F H s0 s1 hh
  unfold aK
  rw [List.length_map,List.length_range]
  refine⟨fun i hi=>hi,fun i hi=>hi,fun i x v H' hx hy=>?_⟩
  obtain⟨rfl,rfl⟩:=hy
  rw [List.getElem?_map] at hx
  obtain⟨k,h1,rfl⟩:=Option.map_eq_some_iff.mp hx
  have h2:=(List.getElem?_eq_some_iff.mp h1).2
  simp at h2
  subst h2
  exact⟨F,av.refl _,av.refl _,s1,fun _ h _=>h,cx.mpr rfl⟩
end
inductive CD (K:PySem.W.Frag) (own:fm) (σ0:L2.St) (F1:Hp) (P:En→Prop) (G:L2.St→Hp→Hp→En→Prop) (σ:L2.St) (H:Hp):Prop
  | mk {F:Hp} {e:En} (R:a7 K F H σ e) (kp:keeps own e) (hσ:∀p∈own,σ[p.1]?=σ0[p.1]?) (sF:av F1 F) (hf:P e) (q:G σ F H e):CD K own σ0 F1 P G σ H
section
variable{X:Cx}{K:PySem.W.Frag}{tg a b:Expr}{es:List Expr}{fa:FE}{fs:FA}{pos p tp:Pos}{k0:Nat}
def iq(fa:FE):FI:=fun e=>(fa e).bind fun p=>(qJ p.2 p.1).map fun s=>(s.2.1,s.2.2,p.2)
theorem f_(hK:X.K=K)(h:PE X a (fE K fa)):PI X tg a (fI K (iq fa)):=((sY (tg:=tg) hK h).or (vV (tg:=tg) hK h)).mono fun σ H R hh=>by
  obtain⟨F,e,items,own,e',R0,hf,q⟩:=hh
  unfold iq at hf
  obtain⟨⟨r,e1⟩,h1,hf⟩:=Option.bind_eq_some_iff.mp hf
  obtain⟨⟨b,xs,ow⟩,h2,hf⟩:=Option.map_eq_some_iff.mp hf
  cases hf
  cases b with
  | true=>
    refine .inl ⟨F,e,r,e1,R0,h1,fun F1 H1 v X1 R1 A1=>?_⟩
    obtain⟨F2,p,R2,s2,f2,rfl,sc,kp⟩:=jE R1 A1 h2
    obtain⟨vs,_,c⟩:=sc.at (av.refl _) R2.sm (R2.held kp) fun _ h=>h
    exact⟨p,rfl,⟨vs,c⟩,q _ F2 H1 (X1.frz s2 f2) R2 kp (qj sc)⟩
  | false=>
    refine .inr ⟨F,e,r,e1,R0,h1,fun F1 H1 v X1 R1 A1=>?_⟩
    obtain⟨F2,p,R2,s2,f2,rfl,sc,kp⟩:=jE R1 A1 h2
    obtain⟨vs,_,c⟩:=sc.at (av.refl _) R2.sm (R2.held kp) fun _ h=>h
    exact⟨p,rfl,⟨vs,c⟩,q _ F2 H1 (X1.frz s2 f2) R2 kp (r9 sc)⟩
def pF(fs:FA):FI:=fun e=>(fs e).bind fun p=>match p.1 with
  | [r,t]=>(qJ p.2 r).bind fun s=>(qJ p.2 t).map fun u=>(fw s.2.1 u.2.1,s.2.2++u.2.2,p.2)
  | _=>none
theorem me.mono{σ:L2.St}{F F':Hp}{p:Addr}{b:Bool}{xs:List PyData}{own:fm}(h:me K σ F p b xs own)(s:av F F'):me K σ F' p b xs own:=by
  cases h with
  | tup h1 h2=>exact .tup (s.tup h1) (h2.mono s)
  | lst h1 h2=>exact .lst (s.seq h1) (h2.mono s)
  | own h1=>exact .own h1
theorem zF(hK:X.K=K)(hg:Gl X "zip")(hm:X.mg "zip"=none)(ha:PA X [a,b] (fA K fs))(hs:starEach [a,b] X.env=[(false,eval a X.env),(false,eval b X.env)])(hs2:starEach [b] X.env=[(false,eval b X.env)]):PI X (.Tuple es k0 tp) (.Call (.Name "zip" p) [a,b] [] pos) (fI K (pF fs)):=
    (((zh (es:=es) (k0:=k0) (tp:=tp) hK hg hm ha hs hs2).or (s_ (es:=es) (k0:=k0) (tp:=tp) hK hg hm ha hs hs2)).or ((tf (es:=es) (k0:=k0) (tp:=tp) hK hg hm ha hs hs2).or (sZ (es:=es) (k0:=k0) (tp:=tp) hK hg hm ha hs hs2))).mono fun σ H R hh=>by
  obtain⟨F,e,items,own,e',R0,hf,q⟩:=hh
  unfold pF at hf
  obtain⟨⟨rs,e1⟩,h1,hf⟩:=Option.bind_eq_some_iff.mp hf
  match rs,h1,hf with
  | [r,t],h1,hf=>
  obtain⟨⟨b,xs,ow⟩,h2,hf⟩:=Option.bind_eq_some_iff.mp hf
  obtain⟨⟨b',ys,ow'⟩,h3,hf⟩:=Option.map_eq_some_iff.mp hf
  cases hf
  have key:∀F1 H1 vs,cZ σ F H e F1 H1 e1→a7 K F1 H1 σ e1→cK K σ H F1 H1 e1 [r,t] vs→∃p p' F2,vs=[.ref p,.ref p']∧cZ σ F H e F2 H1 e1∧a7 K F2 H1 σ e1∧me K σ F2 p b xs ow∧me K σ F2 p' b' ys ow'∧keeps (ow++ow') e1:=by
    intro F1 H1 vs X1 R1 A1
    obtain⟨v,u,rfl,a1,a2⟩:=l4 A1
    obtain⟨F2,p,R2,s2,f2,rfl,sc,kp⟩:=jE R1 a1 h2
    have X2:=X1.frz s2 f2
    have a2':bP K σ H F2 H1 e1 t u∨∃zs,t=.l zs∧DA K F2 (.list zs) u:=by
      cases t with
      | d x=>exact .inl (DA.mono s2 a2)
      | s i=>exact .inl a2
      | l zs=>
        obtain⟨l,ws,rfl,g1,g2,g3,g4,g5⟩:=a2
        cases hl:F2 l with
        | none=>exact .inl ⟨l,ws,rfl,g1,hl,g3,aH.mono s2 g4,g5⟩
        | some o=>
          have:=R2.sm _ _ hl
          rw [g3] at this;cases this
          exact .inr ⟨zs,rfl,cN.mpr ⟨l,ws,rfl,.inl (.inl hl),aH.mono s2 g4⟩⟩
    rcases a2' with a2' | ⟨zs,rfl,d2⟩
    · obtain⟨F3,p',R3,s3,f3,rfl,sc',kp'⟩:=jE R2 a2' h3
      exact⟨p,p',F3,rfl,X2.frz s3 f3,R3,sc.mono s3,sc',fun z hz=>(List.mem_append.mp hz).elim (kp z) (kp' z)⟩
    · cases h3
      obtain⟨p',ws,rfl,g1,g2⟩:=cN.mp d2
      exact⟨p,p',F2,rfl,X2,R2,sc,.lst g1 g2,fun z hz=>(List.mem_append.mp hz).elim (kp z) fun h=>by cases h⟩
  have fin:∀{F2 H1:Hp} {p p':Addr},a7 K F2 H1 σ e1→me K σ F2 p b xs ow→me K σ F2 p' b' ys ow'→keeps (ow++ow') e1→(∃vs,if b=true then ce K H1 p vs else bK K H1 p vs)∧(∃vs,if b'=true then ce K H1 p' vs else bK K H1 p' vs):=by
    intro F2 H1 p p' R2 s1 s2 kp
    obtain⟨vs,_,c⟩:=s1.at (av.refl _) R2.sm (R2.held kp) fun _ h=>List.mem_append.mpr (.inl h)
    obtain⟨us,_,c'⟩:=s2.at (av.refl _) R2.sm (R2.held kp) fun _ h=>List.mem_append.mpr (.inr h)
    exact⟨⟨vs,c⟩,⟨us,c'⟩⟩
  cases b with
  | false=>cases b' with
    | false=>
      refine .inl (.inl ⟨F,e,_,e1,R0,h1,fun F1 H1 vs X1 R1 A1=>?_⟩)
      obtain⟨p,p',F2,rfl,X2,R2,s1,s2,kp⟩:=key F1 H1 vs X1 R1 A1
      obtain⟨c1,c2⟩:=fin R2 s1 s2 kp
      exact⟨p,p',rfl,c1,c2,q _ F2 H1 X2 R2 kp (iv (P:=bK K) (Q:=bK K) s1 s2 (fun _ _ h=>h) (fun _ _ h=>h) (fun i H vs us x y h1 h2 h3 h4=>⟨vs,us,x,y,h1,h2,h3,h4⟩) (fun i H vs us h1 h2 h3=>⟨vs,us,h1,h2,h3⟩) fun i H v H' h=>h)⟩
    | true=>
      refine .inr (.inl ⟨F,e,_,e1,R0,h1,fun F1 H1 vs X1 R1 A1=>?_⟩)
      obtain⟨p,p',F2,rfl,X2,R2,s1,s2,kp⟩:=key F1 H1 vs X1 R1 A1
      obtain⟨c1,c2⟩:=fin R2 s1 s2 kp
      exact⟨p,p',rfl,c1,c2,q _ F2 H1 X2 R2 kp (iv (P:=bK K) (Q:=ce K) s1 s2 (fun _ _ h=>h) (fun _ _ h=>h) (fun i H vs us x y h1 h2 h3 h4=>⟨vs,us,x,y,h1,h2,h3,h4⟩) (fun i H vs us h1 h2 h3=>⟨vs,us,h1,h2,h3⟩) fun i H v H' h=>h)⟩
  | true=>cases b' with
    | false=>
      refine .inl (.inr ⟨F,e,_,e1,R0,h1,fun F1 H1 vs X1 R1 A1=>?_⟩)
      obtain⟨p,p',F2,rfl,X2,R2,s1,s2,kp⟩:=key F1 H1 vs X1 R1 A1
      obtain⟨c1,c2⟩:=fin R2 s1 s2 kp
      exact⟨p,p',rfl,c1,c2,q _ F2 H1 X2 R2 kp (iv (P:=ce K) (Q:=bK K) s1 s2 (fun _ _ h=>h) (fun _ _ h=>h) (fun i H vs us x y h1 h2 h3 h4=>⟨vs,us,x,y,h1,h2,h3,h4⟩) (fun i H vs us h1 h2 h3=>⟨vs,us,h1,h2,h3⟩) fun i H v H' h=>h)⟩
    | true=>
      refine .inr (.inr ⟨F,e,_,e1,R0,h1,fun F1 H1 vs X1 R1 A1=>?_⟩)
      obtain⟨p,p',F2,rfl,X2,R2,s1,s2,kp⟩:=key F1 H1 vs X1 R1 A1
      obtain⟨c1,c2⟩:=fin R2 s1 s2 kp
      exact⟨p,p',rfl,c1,c2,q _ F2 H1 X2 R2 kp (iv (P:=ce K) (Q:=ce K) s1 s2 (fun _ _ h=>h) (fun _ _ h=>h) (fun i H vs us x y h1 h2 h3 h4=>⟨vs,us,x,y,h1,h2,h3,h4⟩) (fun i H vs us h1 h2 h3=>⟨vs,us,h1,h2,h3⟩) fun i H v H' h=>h)⟩
def ug(j:Int):Bool:=decide (-1000000≤j)&&decide (j≤1000000)
theorem uh{j:Int}(h:ug j=true): -1000000≤j∧j≤1000000:=by
  unfold ug at h
  rw [Bool.and_eq_true,decide_eq_true_iff,decide_eq_true_iff] at h
  exact h
def bI(fs:FA):FI:=fun e=>(fs e).bind fun p=>match p.1 with
  | [r]=>(bL r).bind fun j=>if ug j=true then some (aK 0 j.toNat,[],p.2) else none
  | _=>none
theorem bx(hg:Gl X "range")(hm:X.mg "range"=none)(ha:PA X [a] (fA K fs))(hs:starEach [a] X.env=[(false,eval a X.env)]):PI X tg (.Call (.Name "range" p) [a] [] pos) (fI K (bI fs)):=(qA hg hm ha hs).mono fun σ H R hh=>by
  obtain⟨F,e,items,own,e',R0,hf,q⟩:=hh
  unfold bI at hf
  obtain⟨⟨rs,e1⟩,h1,hf⟩:=Option.bind_eq_some_iff.mp hf
  match rs,h1,hf with
  | [r],h1,hf=>
  obtain⟨j,h2,hf⟩:=Option.bind_eq_some_iff.mp hf
  split at hf
  case isFalse=>cases hf
  case isTrue hj=>
  cases hf
  refine⟨F,e,_,e1,R0,h1,fun F1 H1 vs X1 R1 A1=>?_⟩
  obtain⟨v,rfl,A2⟩:=jC A1
  have:=uh hj
  exact⟨j,by rw [bQ A2 h2],by lia,by lia,q _ F1 H1 X1 R1 (fun _ h=>by cases h) oi⟩
open Classical in
noncomputable def kr(own:fm)(g:FG)(f:FS):List PyData→FS
  | [],e=>some (.nx e)
  | x::r,e=>(g x e).bind fun e1=>(f e1).bind fun fl=>match fl with
    | .nx e2=>if keeps own e2 then kr own g f r e2 else none
    | .ct e2=>if keeps own e2 then kr own g f r e2 else none
    | .bk e2=>some (.nx e2)
    | .rt v e2=>some (.rt v e2)
noncomputable def cG(W:List Nat)(fi:FI)(g:FG)(f:FS):FS:=fun e=>(fi e).bind fun p=>if (p.2.1.all fun q=> !W.contains q.1)=true then kr p.2.1 g f p.1 p.2.2 else none
theorem di{W1 W2:List Nat}{iter:Expr}{body:List Stmt}{fi:FI}{g:FG}{f:FS}(hp:PassesOwn (model X.prog X.w) X.A X.env X.xe)(hc:X.calm=true)(hi:PI X tg iter (fI K fi))(hg:PG X tg (fG K g W1))(hb:jr X body (fS K f W2))(hs:∀x,foldedSetIterable iter X.env x=pure x):
    PS X (.For tg iter body [] pos) (fS K (cG (W1++W2) fi g f) (W1++W2)):=(zq hp hc hi hg hb hs).mono fun D σ0 H0 hh=>by
  obtain⟨F0,e0,fl,R0,hf,q0⟩:=hh
  unfold cG at hf
  obtain⟨⟨items,own,e1⟩,h1,hf⟩:=Option.bind_eq_some_iff.mp hf
  dsimp only at hf
  split at hf
  case isFalse=>cases hf
  case isTrue hW=>
  have hW':∀p∈own,p.1∉W1++W2:=fun p hp=>by
    have:=List.all_eq_true.mp hW p hp
    simpa using this
  refine⟨F0,e0,items,own,e1,R0,h1,fun J F1 H1 X1 R1 kp ok=>?_⟩
  have s1:∀j,j∈W1→j∈W1++W2:=fun j h=>List.mem_append.mpr (.inl h)
  have s2:∀j,j∈W2→j∈W1++W2:=fun j h=>List.mem_append.mpr (.inr h)
  have q1:jO K (W1++W2) σ0 F1 H1 e1 D fl:=q0.later (W1:=[]) X1.s (fun j h=>by cases h) fun j h=>h
  refine⟨fun i m σ H=>m=items.length - i∧i≤items.length∧CD K own σ0 F1 (fun e=>kr own g f (items.drop i) e=some fl) (fun σ F H e=>jO K (W1++W2) σ F H e D fl) σ H,
    ⟨items.length,by simp,Nat.zero_le _,.mk R1 kp (fun _ _=>rfl) (av.refl _) hf q1⟩,?_⟩
  rintro i m σ H ⟨rfl,hi,⟨R,kp,hσ,sF,hf,q⟩⟩
  rename_i F e
  have held:rc K σ0 F H own:=fun p hp=>by
    obtain⟨l,vs,g1,g2⟩:=R.held kp p hp
    exact⟨l,vs,by rw [←hσ p hp];exact g1,g2⟩
  obtain⟨go,stop,yld⟩:=ok F H sF R.sm held
  by_cases hlt:i < items.length
  · have hd:items.drop i=items[i]::items.drop (i+1):=List.drop_eq_getElem_cons hlt
    rw [hd] at hf
    unfold kr at hf
    obtain⟨e2,h2,hf⟩:=Option.bind_eq_some_iff.mp hf
    obtain⟨fl2,h3,hf⟩:=Option.bind_eq_some_iff.mp hf
    refine .inr ⟨go i hlt,CD K own σ0 F1 (fun e=>kr own g f (items.drop (i+1)) e=some fl) (fun σ F H e=>jO K (W1++W2) σ F H e D fl),
      fun σ' H' r=>⟨items.length - (i+1),by lia,rfl,hlt,r⟩,fun x H' hy=>?_⟩
    obtain⟨F',sH,sF',sm',fz,hx⟩:=yld i items[i] x H' (List.getElem?_eq_getElem hlt) hy
    obtain⟨R',X'⟩:=R.step sH sF' sm' fz
    refine⟨F',e,items[i],e2,R',hx,h2,fun σ2 x2 R2=>⟨F',e2,fl2,R2,h3,?_⟩⟩
    have q2:jO K (W1++W2) σ2 F' H' e2 D fl:=(q.later (W1:=[]) (W2:=W1++W2) X'.s (fun j h=>by cases h) fun j h=>h).later x2 s1 fun j h=>h
    have w2:∀p∈own,σ2[p.1]?=σ0[p.1]?:=fun p hp=>(x2.wr p.1 fun z=>hW' p hp (s1 _ z)).trans (hσ p hp)
    cases fl2 with
    | nx e3=>
      intro F3 H3 σ3 x3 R3
      dsimp only at hf
      split at hf
      case isFalse=>cases hf
      case isTrue kp3=>
      exact .mk R3 kp3 (fun p hp=>(x3.wr p.1 fun z=>hW' p hp (s2 _ z)).trans (w2 p hp)) (sF.trans (sF'.trans x3.sf)) hf (q2.later x3 s2 fun j h=>h)
    | ct e3=>
      intro F3 H3 σ3 x3 R3
      dsimp only at hf
      split at hf
      case isFalse=>cases hf
      case isTrue kp3=>
      exact .mk R3 kp3 (fun p hp=>(x3.wr p.1 fun z=>hW' p hp (s2 _ z)).trans (w2 p hp)) (sF.trans (sF'.trans x3.sf)) hf (q2.later x3 s2 fun j h=>h)
    | bk e3=>
      cases hf
      exact fun F3 H3 σ3 x3 R3=>q2 F3 H3 σ3 (x3.mono s2) R3
    | rt r e3=>
      cases hf
      exact fun F3 H3 σ3 v x3 R3 A3=>q2 F3 H3 σ3 v (x3.mono s2) R3 A3
  · have hd:items.drop i=[]:=List.drop_eq_nil_of_le (by lia)
    rw [hd] at hf
    cases hf
    exact .inl ⟨stop i (by lia),q F H σ cU.refl R⟩
end
end L2
namespace L2
open PySem PySem.Spec PyProof.Rows
def uJ:Option (Option Sv)→Bool
  | some (some (.l _))=>true
  | _=>false
theorem vc{s:Option (Option Sv)}:uJ s=true↔ ∃xs,s=some (some (.l xs)):=by
  unfold uJ
  split
  · simp
  · rename_i h
    constructor
    · intro z;cases z
    · rintro⟨xs,rfl⟩;exact absurd rfl (h xs)
def iO(pos:Nat→Option Nat)(ei e:En):En:=e.mapIdx fun i s=>match s with
  | some (.l xs)=>match pos i with
    | some k=>(ei[k]?).join
    | none=>some (.l xs)
  | s=>s
theorem bT{pos:Nat→Option Nat}{ei e:En}{i:Nat}:(iO pos ei e)[i]?=(e[i]?).map fun s=>match s with
  | some (.l xs)=>match pos i with
    | some k=>(ei[k]?).join
    | none=>some (.l xs)
  | s=>s:=by unfold iO;rw [List.getElem?_mapIdx]
structure mf (σ:L2.St) (e:En) (σi:L2.St) (ei:En) (pos:Nat→Option Nat):Prop where
  a:∀(i k:Nat) (xs:List PyData),e[i]?=some (some (.l xs))→pos i=some k→σi[k]?=σ[i]?
  b:∀(k:Nat) (ys:List PyData),ei[k]?=some (some (.l ys))→∃(i:Nat) (xs:List PyData),e[i]?=some (some (.l xs))∧pos i=some k∧σi[k]?=σ[i]?
section
variable{K:PySem.W.Frag}{σ σi σi':L2.St}{F H F' H':Hp}{e ei ei':En}{pos:Nat→Option Nat}
def Ax(e:En):Prop:=∀(i:Nat) (xss:List (List PyData)),e[i]?≠some (some (.n xss))
theorem mf.own(s:mf σ e σi ei pos)(hn:Ax ei){a:Addr}{H H':Hp}(h:c_ σi ei H a):∃(i k:Nat) (xs:List PyData),e[i]?=some (some (.l xs))∧pos i=some k∧σ[i]?=some (some (.ref a)):=by
  obtain⟨k,⟨ys,h1,h2⟩ | ⟨xss,_,_,h1,_⟩⟩:=h
  · obtain⟨i,xs,g1,g2,g3⟩:=s.b k ys h1
    exact⟨i,k,xs,g1,g2,by rw [←g3];exact h2⟩
  · exact absurd h1 (hn k xss)
theorem nA(R:a7 K F H σ e)(s:mf σ e σi ei pos)(hnn:Ax ei)(sf:av F F')(dom:∀a,H' a=none→H a=none)(fr:∀a vs,F a=none→H a=some (.lst vs)→¬c_ σi ei H a→F' a=none)(lst:∀a vs,H a=some (.lst vs)→∃vs',H' a=some (.lst vs'))
    (tmp:∀a o,H a=some o→¬c_ σi ei H a→H' a=some o)(R':a7 K F' H' σi' ei')(hσ:∀(i k:Nat) (xs:List PyData),e[i]?=some (some (.l xs))→pos i=some k→σi'[k]?=σi[k]?)(hsh:∀(i k:Nat) (xs:List PyData),e[i]?=some (some (.l xs))→pos i=some k→∃ys,ei'[k]?=some (some (.l ys))):
    a7 K F' H' σ (iO pos ei' e)∧cZ σ F H e F' H' (iO pos ei' e)∧∀a,c_ σ (iO pos ei' e) H' a→c_ σ e H a:=by
  have shp:∀i:Nat,(∃xs,(iO pos ei' e)[i]?=some (some (.l xs)))↔ (∃xs,e[i]?=some (some (.l xs))):=by
    intro i
    rw [bT]
    match h:e[i]? with
    | none=>simp
    | some none=>simp
    | some (some (.d x))=>simp
    | some (some (.n x))=>simp
    | some (some (.l xs))=>
      simp only [Option.map_some]
      constructor
      · intro _;exact⟨xs,rfl⟩
      · intro _
        match hp:pos i with
        | none=>exact⟨xs,rfl⟩
        | some k=>
          obtain⟨ys,g⟩:=hsh i k xs h hp
          exact⟨ys,by show some ((ei'[k]?).join)=_;rw [g];rfl⟩
  have oth:∀(i:Nat) (s:Sv),(∀xs,s≠.l xs)→((iO pos ei' e)[i]?=some (some s)↔ e[i]?=some (some s)):=by
    intro i s hs
    constructor
    · intro h
      rw [bT] at h
      match h1:e[i]?,h with
      | some (some (.d y)),h=>exact h
      | some (some (.n y)),h=>exact h
      | some (some (.l ys)),h=>
        simp only [Option.map_some,Option.some.injEq] at h
        match hp:pos i,h with
        | none,h=>cases h;exact absurd rfl (hs _)
        | some k,h=>
          obtain⟨zs,g⟩:=hsh i k ys h1 hp
          change (ei'[k]?).join=_ at h
          rw [g] at h;cases h;exact absurd rfl (hs _)
      | some none,h=>simp at h
      | none,h=>simp at h
    · intro h
      rw [bT,h]
      cases s with
      | d y=>rfl
      | n y=>rfl
      | l y=>exact absurd rfl (hs y)
  have out:∀i a,Fp σ e H i a→(∀k xs,e[i]?=some (some (.l xs))→pos i≠some k)→¬c_ σi ei H a:=by
    intro i a hi hp z
    obtain⟨j,k,ws,d1,d2,d3⟩:=s.own hnn (H':=H') z
    have:i=j:=R.fp i j a hi (.inl ⟨ws,d1,d3⟩)
    subst this
    exact hp k ws d1 d2
  have keep:∀i a o,Fp σ e H i a→(∀k xs,e[i]?=some (some (.l xs))→pos i≠some k)→H a=some o→H' a=some o:=fun i a o hi hp ha=>tmp a o ha (out i a hi hp)
  have sown:∀a,c_ σi ei H a→c_ σ e H a:=fun a z=>by
    obtain⟨j,k,ws,d1,d2,d3⟩:=s.own hnn (H':=H') z
    exact⟨j,.inl ⟨ws,d1,d3⟩⟩
  have fs:∀i a,Fp σ (iO pos ei' e) H' i a↔ Fp σ e H i a:=by
    intro i a
    have key:∀xss l,e[i]?=some (some (.n xss))→σ[i]?=some (some (.ref l))→H' l=H l:=fun xss l h1 h2=>by
      obtain⟨l',bs,g1,g2,g3,_⟩:=R.nst i xss h1
      rw [h2] at g1;cases g1
      rw [g3]
      exact keep i l _ (.inr ⟨xss,l,bs,h1,h2,g3,.inl rfl⟩) (fun k xs z=>by rw [h1] at z;cases z) g3
    constructor
    · rintro(⟨xs,h1,h2⟩ | ⟨xss,l,bs,h1,h2,h3,h4⟩)
      · obtain⟨ys,h⟩:=(shp i).mp ⟨xs,h1⟩
        exact .inl ⟨ys,h,h2⟩
      · have h1':=(oth i (.n xss) (fun _ z=>nomatch z)).mp h1
        exact .inr ⟨xss,l,bs,h1',h2,by rw [←key xss l h1' h2];exact h3,h4⟩
    · rintro(⟨xs,h1,h2⟩ | ⟨xss,l,bs,h1,h2,h3,h4⟩)
      · obtain⟨ys,h⟩:=(shp i).mpr ⟨xs,h1⟩
        exact .inl ⟨ys,h,h2⟩
      · exact .inr ⟨xss,l,bs,(oth i (.n xss) (fun _ z=>nomatch z)).mpr h1,h2,by rw [key xss l h1 h2];exact h3,h4⟩
  refine⟨⟨R'.sm,?_,fun i x h=>?_,fun i xs h=>?_,fun i xss h=>?_,fun i j a h1 h2=>R.fp i j a ((fs i a).mp h1) ((fs j a).mp h2)⟩,⟨sf,dom,fun a vs h1 h2 n=>fr a vs h1 h2 fun z=>n (sown a z),lst,fun a o h n=>tmp a o h fun z=>n (sown a z),shp,fun a ⟨i,h⟩=>.inl ⟨i,(fs i a).mp h⟩⟩,fun a ⟨i,h⟩=>⟨i,(fs i a).mp h⟩⟩
  · unfold iO;rw [List.length_mapIdx];exact R.len
  · obtain⟨v,g1,g2⟩:=R.dat i x ((oth i (.d x) (fun _ z=>nomatch z)).mp h)
    exact⟨v,g1,DA.mono sf g2⟩
  · obtain⟨ys,h1⟩:=(shp i).mp ⟨xs,h⟩
    obtain⟨l,vs,g1,g2,g3,g4⟩:=R.own i ys h1
    rw [bT,h1] at h
    simp only [Option.map_some,Option.some.injEq] at h
    match hp:pos i,h with
    | none,h=>
      cases h
      have np:∀k xs,e[i]?=some (some (Sv.l xs))→pos i≠some k:=fun k xs _ z=>by rw [hp] at z;cases z
      have fi:Fp σ e H i l:=.inl ⟨_,h1,g1⟩
      exact⟨l,vs,g1,fr l vs g2 g3 (out i l fi np),keep i l _ fi np g3,g4.mono sf⟩
    | some k,h=>
      obtain⟨zs,c1⟩:=hsh i k ys h1 hp
      change (ei'[k]?).join=_ at h
      rw [c1] at h;cases h
      obtain⟨l',vs',d1,d2,d3,d4⟩:=R'.own k _ c1
      rw [hσ i k ys h1 hp,s.a i k ys h1 hp] at d1
      exact⟨l',vs',d1,d2,d3,d4⟩
  · have h1:=(oth i (.n xss) (fun _ z=>nomatch z)).mp h
    obtain⟨l,bs,g1,g2,g3,g4,g5,g6,g7⟩:=R.nst i xss h1
    have np:∀k xs,e[i]?=some (some (Sv.l xs))→pos i≠some k:=fun k xs z=>by rw [h1] at z;cases z
    have fi:Fp σ e H i l:=.inr ⟨xss,l,bs,h1,g1,g3,.inl rfl⟩
    refine⟨l,bs,g1,fr l _ g2 g3 (out i l fi np),keep i l _ fi np g3,g4,g5,g6,fun k b ys q1 q2=>?_⟩
    obtain⟨c1,us,c2,c3⟩:=g7 k b ys q1 q2
    have fb:Fp σ e H i b:=.inr ⟨xss,l,bs,h1,g1,g3,.inr (List.mem_of_getElem? q1)⟩
    exact⟨fr b _ c1 c2 (out i b fb np),us,keep i b _ fb np c2,c3.mono sf⟩
end
def cL(e:En):List Rv→Option (List Sv)
  | []=>some []
  | .d x::r=>(cL e r).map (.d x::·)
  | .l xs::r=>(cL e r).map (.d (.list xs)::·)
  | .s i::r=>match e[i]? with
    | some (some (.l xs))=>(cL e r).map (.l xs::·)
    | _=>none
def aM:List Rv→List Nat
  | []=>[]
  | .s i::r=>i::aM r
  | .d _::r=>aM r
  | .l _::r=>aM r
def gU(rs:List Rv)(i:Nat):Option Nat:=rs.findIdx? fun r=>match r with
  | .s j=>j==i
  | _=>false
def noS:Rv→Prop
  | .s _=>False
  | _=>True
abbrev FM:=List Sv→Option (Rv × List Sv)
def cf(K:PySem.W.Frag)(n:Nat)(m:FM):Sp:=fun vs H Q _=>vs.length=n∧∃F as r as',a7 K F H (vs.map some) (as.map some)∧Ax (as.map some)∧m as=some (r,as')∧noS r∧
  ∀F' H' v,cZ (vs.map some) F H (as.map some) F' H' (as'.map some)→a7 K F' H' (vs.map some) (as'.map some)→bP K (vs.map some) H F' H' (as'.map some) r v→Q v H'
def bi:List Rv→List Sv→Bool
  | [],[]=>true
  | .s _::r,.l _::s=>bi r s
  | .d _::r,_::s=>bi r s
  | .l _::r,_::s=>bi r s
  | _,_=>false
def yG:Rv→Bool
  | .s _=>false
  | _=>true
def et:List Rv→List Sv→En→En
  | .s i::r,.l ys::s,e=>et r s (e.set i (some (.l ys)))
  | .d _::r,_::s,e=>et r s e
  | .l _::r,_::s,e=>et r s e
  | _,_,e=>e
def cm(n:Nat)(m:FM)(fs:FA):FE:=fun e=>(fs e).bind fun p=>(cL p.2 p.1).bind fun as=>(m as).bind fun z=>if p.1.length=n∧(aM p.1).Nodup∧bi p.1 z.2=true∧yG z.1=true then some (z.1,et p.1 z.2 p.2) else none
theorem eX:∀{rs:List Rv} {as:List Sv},bi rs as=true→∀(k i:Nat),rs[k]?=some (.s i)→∃ys,as[k]?=some (.l ys)
  | [],[],_,k,i,h=>by simp at h
  | .s j::r,.l ys::s,h,k,i,hk=>by
    cases k with
    | zero=>exact⟨ys,rfl⟩
    | succ k=>simpa using eX (rs:=r) (as:=s) (by simpa [bi] using h) k i (by simpa using hk)
  | .d x::r,y::s,h,k,i,hk=>by
    cases k with
    | zero=>simp at hk
    | succ k=>simpa using eX (rs:=r) (as:=s) (by simpa [bi] using h) k i (by simpa using hk)
  | .l x::r,y::s,h,k,i,hk=>by
    cases k with
    | zero=>simp at hk
    | succ k=>simpa using eX (rs:=r) (as:=s) (by simpa [bi] using h) k i (by simpa using hk)
  | .s _::_,.d _::_,h,_,_,_=>by simp [bi] at h
  | .s _::_,[],h,_,_,_=>by simp [bi] at h
  | .d _::_,[],h,_,_,_=>by simp [bi] at h
  | .l _::_,[],h,_,_,_=>by simp [bi] at h
theorem jb{r0:Rv}{rs:List Rv}{i:Nat}:gU (r0::rs) i=if (match r0 with | .s j=>j==i | _=>false)=true then some 0 else(gU rs i).map (· +1):=by
  unfold gU;rw [List.findIdx?_cons]
theorem jc{rs:List Rv}{i k:Nat}(h:gU rs i=some k):rs[k]?=some (.s i):=by
  unfold gU at h
  rw [List.findIdx?_eq_some_iff_getElem] at h
  obtain⟨hk,h1,_⟩:=h
  rw [List.getElem?_eq_getElem hk]
  split at h1
  · rename_i heq
    rw [heq]
    have:=eq_of_beq h1
    rw [this]
  · cases h1
theorem d_:∀{rs:List Rv} {i:Nat},i∈aM rs↔ Rv.s i∈rs
  | [],i=>by simp [aM]
  | .s j::r,i=>by simp [aM,d_ (rs:=r)]
  | .d x::r,i=>by simp [aM,d_ (rs:=r)]
  | .l x::r,i=>by simp [aM,d_ (rs:=r)]
theorem em:∀{rs:List Rv} {i k j:Nat},(aM rs).Nodup→rs[k]?=some (.s i)→rs[j]?=some (.s i)→k=j
  | [],i,k,j,_,h,_=>by simp at h
  | .s m::r,i,k,j,hn,h1,h2=>by
    simp only [aM,List.nodup_cons] at hn
    cases k with
    | zero=>
      simp at h1;subst h1
      cases j with
      | zero=>rfl
      | succ j=>exact absurd (d_.mpr (List.mem_of_getElem? (by simpa using h2))) hn.1
    | succ k=>
      cases j with
      | zero=>
        simp at h2;subst h2
        exact absurd (d_.mpr (List.mem_of_getElem? (by simpa using h1))) hn.1
      | succ j=>
        have:=em (rs:=r) (i:=i) (k:=k) (j:=j) hn.2 (by simpa using h1) (by simpa using h2)
        lia
  | .d x::r,i,k,j,hn,h1,h2=>by
    cases k with
    | zero=>simp at h1
    | succ k=>
      cases j with
      | zero=>simp at h2
      | succ j=>
        have:=em (rs:=r) (i:=i) (k:=k) (j:=j) (by simpa [aM] using hn) (by simpa using h1) (by simpa using h2)
        lia
  | .l x::r,i,k,j,hn,h1,h2=>by
    cases k with
    | zero=>simp at h1
    | succ k=>
      cases j with
      | zero=>simp at h2
      | succ j=>
        have:=em (rs:=r) (i:=i) (k:=k) (j:=j) (by simpa [aM] using hn) (by simpa using h1) (by simpa using h2)
        lia
theorem tF{rs:List Rv}{i:Nat}(h:i∉aM rs):gU rs i=none:=by
  unfold gU
  rw [List.findIdx?_eq_none_iff]
  intro r hr
  cases r with
  | d x=>rfl
  | l x=>rfl
  | s j=>
    have:j≠i:=fun z=>h (by rw [←z];exact d_.mpr hr)
    simpa using this
theorem jB:∀{rs:List Rv} {as:List Sv} {e:En},(aM rs).Nodup→bi rs as=true→(∀j∈aM rs,∃xs,e[j]?=some (some (.l xs)))→et rs as e=iO (gU rs) (as.map some) e
  | [],[],e,_,_,_=>by
    refine List.ext_getElem? fun i=>?_
    rw [bT]
    have:gU [] i=none:=rfl
    rw [this]
    simp only [et]
    match e[i]? with
    | none=>rfl
    | some none=>rfl
    | some (some (.d x))=>rfl
    | some (some (.l x))=>rfl
    | some (some (.n x))=>rfl
  | .d x::r,y::s,e,hn,hl,hs=>by
    rw [show et (.d x::r) (y::s) e=et r s e from rfl,jB (by simpa [aM] using hn) (by simpa [bi] using hl) (fun j hj=>hs j (by simpa [aM] using hj))]
    refine List.ext_getElem? fun i=>?_
    rw [bT,bT,jb]
    cases gU r i<;>simp
  | .l x::r,y::s,e,hn,hl,hs=>by
    rw [show et (.l x::r) (y::s) e=et r s e from rfl,jB (by simpa [aM] using hn) (by simpa [bi] using hl) (fun j hj=>hs j (by simpa [aM] using hj))]
    refine List.ext_getElem? fun i=>?_
    rw [bT,bT,jb]
    cases gU r i<;>simp
  | .s k::r,.l ys::s,e,hn,hl,hs=>by
    simp only [aM,List.nodup_cons] at hn
    obtain⟨xs,hk⟩:=hs k (by simp [aM])
    have hlt:k < e.length:=(List.getElem?_eq_some_iff.mp hk).1
    rw [show et (.s k::r) (.l ys::s) e=et r s (e.set k (some (.l ys))) from rfl,jB hn.2 (by simpa [bi] using hl) (fun j hj=>by
      have z:k≠j:=fun z=>hn.1 (by rw [z];exact hj)
      rw [List.getElem?_set_ne z]
      exact hs j (by simp [aM,hj]))]
    refine List.ext_getElem? fun i=>?_
    rw [bT,bT,jb]
    by_cases z:k=i
    · subst z
      rw [List.getElem?_set_self hlt,hk,tF hn.1]
      simp
    · rw [List.getElem?_set_ne z]
      have:((match (Rv.s k) with | .s j=>j==i | _=>false)=true)=False:=by simp [z]
      simp only [this,if_false]
      cases gU r i<;>simp
  | .s _::_,.d _::_,_,_,h,_=>by simp [bi] at h
  | .s _::_,.n _::_,_,_,h,_=>by simp [bi] at h
  | .s _::_,[],_,_,h,_=>by simp [bi] at h
  | .d _::_,[],_,_,h,_=>by simp [bi] at h
  | .l _::_,[],_,_,h,_=>by simp [bi] at h
  | [],_::_,_,_,h,_=>by simp [bi] at h
theorem dO{e:En}:∀{rs:List Rv} {as:List Sv},cL e rs=some as→∀j∈aM rs,∃xs,e[j]?=some (some (.l xs))
  | [],_,_,j,h=>by simp [aM] at h
  | .d x::rs,as,q,j,h=>by
    obtain⟨as',q1,rfl⟩:=Option.map_eq_some_iff.mp q
    exact dO q1 j (by simpa [aM] using h)
  | .l x::rs,as,q,j,h=>by
    obtain⟨as',q1,rfl⟩:=Option.map_eq_some_iff.mp q
    exact dO q1 j (by simpa [aM] using h)
  | .s k::rs,as,q,j,h=>by
    unfold cL at q
    match he:e[k]?,q with
    | some (some (.l xs)),q=>
      obtain⟨as',q1,rfl⟩:=Option.map_eq_some_iff.mp q
      simp only [aM,List.mem_cons] at h
      rcases h with rfl | h
      · exact⟨xs,he⟩
      · exact dO q1 j h
theorem h_{e:En}:∀{rs:List Rv} {as:List Sv} {k i:Nat},cL e rs=some as→rs[k]?=some (.s i)→∃xs,as[k]?=some (.l xs)
  | [],_,k,i,_,h=>by simp at h
  | .d x::rs,as,k,i,q,h=>by
    obtain⟨as',q1,rfl⟩:=Option.map_eq_some_iff.mp q
    cases k with
    | zero=>simp at h
    | succ k=>simpa using h_ (k:=k) (i:=i) q1 (by simpa using h)
  | .l x::rs,as,k,i,q,h=>by
    obtain⟨as',q1,rfl⟩:=Option.map_eq_some_iff.mp q
    cases k with
    | zero=>simp at h
    | succ k=>simpa using h_ (k:=k) (i:=i) q1 (by simpa using h)
  | .s j::rs,as,k,i,q,h=>by
    unfold cL at q
    match he:e[j]?,q with
    | some (some (.l xs)),q=>
      obtain⟨as',q1,rfl⟩:=Option.map_eq_some_iff.mp q
      cases k with
      | zero=>exact⟨xs,rfl⟩
      | succ k=>simpa using h_ (k:=k) (i:=i) q1 (by simpa using h)
section
variable{X:Cx}{K:PySem.W.Frag}{σ:L2.St}{H0 H:Hp}{e:En}
theorem jy:∀{rs:List Rv} {vs:List V} {as:List Sv} {F:Hp},a7 K F H σ e→cK K σ H0 F H e rs vs→cL e rs=some as→
    ∃F',a7 K F' H σ e∧av F F'∧(∀a,F a=none→H0 a≠none→F' a=none)∧vs.length=as.length∧rs.length=as.length∧
      (∀(k:Nat) (x:PyData),as[k]?=some (.d x)→∃v,vs[k]?=some v∧DA K F' x v)∧∀(k:Nat) (xs:List PyData),as[k]?=some (.l xs)→∃i,rs[k]?=some (.s i)∧e[i]?=some (some (.l xs))∧∃v,vs[k]?=some v∧σ[i]?=some (some v)
  | [],vs,as,F,R,h,q=>by
    cases q
    have h':vs=[]:=h
    subst h'
    exact⟨F,R,av.refl _,fun _ h _=>h,rfl,rfl,fun k x h=>by simp at h,fun k x h=>by simp at h⟩
  | .d x::rs,_,as,F,R,h,q=>by
    obtain⟨v,ws,rfl,h1,h2⟩:=h
    obtain⟨as',q1,rfl⟩:=Option.map_eq_some_iff.mp q
    obtain⟨F',R',s',f',l1,l2,d',o'⟩:=jy R h2 q1
    refine⟨F',R',s',f',by simp [l1],by simp [l2],fun k y hk=>?_,fun k ys hk=>?_⟩
    · cases k with
      | zero=>simp at hk;subst hk;exact⟨v,rfl,DA.mono s' h1⟩
      | succ k=>simpa using d' k y (by simpa using hk)
    · cases k with
      | zero=>simp at hk
      | succ k=>simpa using o' k ys (by simpa using hk)
  | .l xs::rs,_,as,F,R,h,q=>by
    obtain⟨v,ws,rfl,h1,h2⟩:=h
    obtain⟨as',q1,rfl⟩:=Option.map_eq_some_iff.mp q
    obtain⟨F',R',s',f',l1,l2,d',o'⟩:=jy R h2 q1
    have key:∃F2,a7 K F2 H σ e∧av F' F2∧(∀a,F' a=none→H0 a≠none→F2 a=none)∧DA K F2 (.list xs) v:=by
      obtain⟨l,us,rfl,g1,g2,g3,g4,g5⟩:=h1
      cases hl:F' l with
      | none=>
        have h1':bP K σ H0 F' H e (.l xs) (.ref l):=⟨l,us,rfl,g1,hl,g3,aH.mono s' g4,g5⟩
        obtain⟨F2,R2,s2,d2,f2⟩:=h1'.frozen R'
        exact⟨F2,R2,s2,f2,d2⟩
      | some o=>
        have:=R'.sm _ _ hl
        rw [g3] at this;cases this
        exact⟨F',R',av.refl _,fun _ h _=>h,cN.mpr ⟨l,us,rfl,.inl (.inl hl),aH.mono s' g4⟩⟩
    obtain⟨F2,R2,s2,f2,d2⟩:=key
    refine⟨F2,R2,s'.trans s2,fun a ha hn=>f2 a (f' a ha hn) hn,by simp [l1],by simp [l2],fun k y hk=>?_,fun k ys hk=>?_⟩
    · cases k with
      | zero=>simp at hk;subst hk;exact⟨v,rfl,d2⟩
      | succ k=>
        obtain⟨u,c1,c2⟩:=d' k y (by simpa using hk)
        exact⟨u,by simpa using c1,DA.mono s2 c2⟩
    · cases k with
      | zero=>simp at hk
      | succ k=>simpa using o' k ys (by simpa using hk)
  | .s i::rs,_,as,F,R,h,q=>by
    obtain⟨v,ws,rfl,h1,h2⟩:=h
    unfold cL at q
    match he:e[i]?,q with
    | some (some (.l xs)),q=>
      obtain⟨as',q1,rfl⟩:=Option.map_eq_some_iff.mp q
      obtain⟨F',R',s',f',l1,l2,d',o'⟩:=jy R h2 q1
      refine⟨F',R',s',f',by simp [l1],by simp [l2],fun k y hk=>?_,fun k ys hk=>?_⟩
      · cases k with
        | zero=>simp at hk
        | succ k=>simpa using d' k y (by simpa using hk)
      · cases k with
        | zero=>simp at hk;subst hk;exact⟨i,rfl,he,v,rfl,h1.1⟩
        | succ k=>simpa using o' k ys (by simpa using hk)
theorem dQ{α:Type}{l:List α}{k:Nat}{x:α}:(l.map some)[k]?=some (some x)↔ l[k]?=some x:=by
  rw [List.getElem?_map]
  cases l[k]?<;>simp
theorem bP.noS{σ':L2.St}{e':En}{F H:Hp}{r:Rv}{v:V}(h:bP K σ' H0 F H e' r v)(n:L2.noS r)(ho:∀a,c_ σ e H a→H0 a≠none):bP K σ H0 F H e r v:=by
  cases r with
  | d x=>exact h
  | l xs=>
    obtain⟨l,vs,e1,h1,h2,h3,h4,_⟩:=h
    exact⟨l,vs,e1,h1,h2,h3,h4,fun z=>ho l z h1⟩
  | s i=>exact absurd n (by simp [L2.noS])
theorem eU:∀{rs:List Rv} {as:List Sv},cL e rs=some as→Ax (as.map some)
  | [],_,q=>by cases q;intro i xss h;simp at h
  | .d x::rs,as,q=>by
    obtain⟨as',q1,rfl⟩:=Option.map_eq_some_iff.mp q
    have ih:=eU q1
    intro i xss h
    cases i with
    | zero=>simp at h
    | succ i=>exact ih i xss (by simpa using h)
  | .l x::rs,as,q=>by
    obtain⟨as',q1,rfl⟩:=Option.map_eq_some_iff.mp q
    have ih:=eU q1
    intro i xss h
    cases i with
    | zero=>simp at h
    | succ i=>exact ih i xss (by simpa using h)
  | .s j::rs,as,q=>by
    unfold cL at q
    match he:e[j]?,q with
    | some (some (.l xs)),q=>
      obtain⟨as',q1,rfl⟩:=Option.map_eq_some_iff.mp q
      have ih:=eU q1
      intro i xss h
      cases i with
      | zero=>simp at h
      | succ i=>exact ih i xss (by simpa using h)
theorem Aj{n:Nat}{m:FM}{fs:FA}{Q:VK}{E:XK}(h:fE K (cm n m fs) σ H Q):ut (cf K n m) [] E (fA K fs) σ H Q:=by
  obtain⟨F,e,z,e',R,hf,q⟩:=h
  unfold cm at hf
  obtain⟨⟨rs,e1⟩,h1,hf⟩:=Option.bind_eq_some_iff.mp hf
  obtain⟨as,h2,hf⟩:=Option.bind_eq_some_iff.mp hf
  obtain⟨⟨r,as'⟩,h3,hf⟩:=Option.bind_eq_some_iff.mp hf
  split at hf
  case isFalse=>cases hf
  case isTrue hc=>
  obtain⟨c1,c2,c3,c4⟩:=hc
  cases hf
  refine⟨F,e,rs,e1,R,h1,fun F1 H1 vs X1 R1 A1=>?_⟩
  obtain⟨F2,R2,s2,f2,l1,l2,d2,o2⟩:=jy R1 A1 h2
  have X2:=X1.frz s2 f2
  rw [List.append_nil]
  have hn:L2.noS r:=by
    cases r with
    | d x=>trivial
    | l x=>trivial
    | s i=>cases c4
  have nN:=eU h2
  have RA:a7 K F2 H1 (vs.map some) (as.map some):=by
    refine⟨R2.sm,by simp [l1],fun k x hk=>?_,fun k xs hk=>?_,fun k xss hk=>absurd hk (nN k xss),fun k j l f1 f2=>?_⟩
    · obtain⟨v,g1,g2⟩:=d2 k x (dQ.mp hk)
      exact⟨v,dQ.mpr g1,g2⟩
    · obtain⟨i,g1,g2,v,g3,g4⟩:=o2 k xs (dQ.mp hk)
      obtain⟨l,us,k1,k2,k3,k4⟩:=R2.own i xs g2
      rw [g4] at k1;cases k1
      exact⟨l,us,dQ.mpr g3,k2,k3,k4⟩
    · obtain⟨xs,g1,g3⟩:=f1.resolve_right fun⟨xss,_,_,z,_⟩=>nN k xss z
      obtain⟨ys,g2,g4⟩:=f2.resolve_right fun⟨xss,_,_,z,_⟩=>nN j xss z
      obtain⟨i1,a1,a2,v1,a3,a4⟩:=o2 k xs (dQ.mp g1)
      obtain⟨i2,b1,b2,v2,b3,b4⟩:=o2 j ys (dQ.mp g2)
      have e1:=dQ.mp g3
      have e2:=dQ.mp g4
      rw [a3] at e1;cases e1
      rw [b3] at e2;cases e2
      have:i1=i2:=R2.inj i1 i2 xs ys l a2 b2 a4 b4
      subst this
      exact em c2 a1 b1
  have sub:mf σ e1 (vs.map some) (as.map some) (gU rs):=by
    refine⟨fun i k xs g1 g2=>?_,fun k ys g1=>?_⟩
    · have g3:=jc g2
      obtain⟨zs,hs⟩:=h_ h2 g3
      obtain⟨i',a1,a2,v,a3,a4⟩:=o2 k zs hs
      rw [g3] at a1;cases a1
      rw [dQ.mpr a3,a4]
    · obtain⟨i,a1,a2,v,a3,a4⟩:=o2 k ys (dQ.mp g1)
      refine⟨i,ys,a2,?_,by rw [dQ.mpr a3,a4]⟩
      cases hp:gU rs i with
      | none=>
        unfold gU at hp
        rw [List.findIdx?_eq_none_iff] at hp
        have:=hp _ (List.mem_of_getElem? a1)
        simp at this
      | some j=>rw [em c2 (jc hp) a1]
  refine⟨by rw [l1,←l2];exact c1,F2,as,r,as',RA,nN,h3,hn,fun F' H' v X3 R3 A3=>?_⟩
  obtain⟨R4,X4,o4⟩:=nA R2 sub nN X3.sf X3.dom X3.fr X3.lst X3.tmp R3 (fun _ _ _ _ _=>rfl) fun i k xs g1 g2=>by
    obtain⟨ys,g3⟩:=eX c3 k i (jc g2)
    exact⟨ys,dQ.mpr g3⟩
  have hb:=jB (e:=e1) c2 c3 (dO h2)
  rw [←hb] at R4 X4 o4
  exact q F' H' v (X2.trans X4) R4 ((A3.noS hn fun a z=>R2.ownH a (o4 a z)).weak X2.dom)
theorem aS{x:Str}{st:Stmt}{f:Addr}{fd:FuncData}{ps:List Str}{k n:Nat}{m:FM}{a:Expr}{es:List Expr}{fs:FA}{p pos:Pos}(h:bj X.K X.mg x st f fd ps)(G:aN X.prog X.w X.K X.mg X.base bV k f fd ps (cf K n m))(hr:b_ k X.A)(ha:PA X (a::es) (fA K fs))
    (hg:Gl X x)(hdb:(x==("__debug__":Str))=false)(he:starEach (a::es) X.env=(false,eval a X.env)::starEach es X.env)(hpl:(backTo pos (starEach es X.env)).any (·.1)=false):
    PE X (.Call (.Name x p) (a::es) [] pos) (fE K (cm n m fs)):=(C_ h G hr ha hg hdb he hpl).mono fun _ _ _ h=>Aj h
def qS:List Sv→En→Option (List Sv)
  | [],_=>some []
  | .d x::r,e=>(qS r e.tail).map (.d x::·)
  | .l _::r,e=>match e.head? with
    | some (some (.l ys))=>(qS r e.tail).map (.l ys::·)
    | _=>none
  | .n _::_,_=>none
def uZ(n:Nat)(e:En):Rv→Option Rv
  | .s i=>if n≤i then match e[i]? with
      | some (some (.l xs))=>some (.l xs)
      | _=>none
    else none
  | r=>some r
def mS(W:List Nat)(as:List Sv):Bool:=W.all fun j=>match as[j]? with
  | some (.l _)=>false
  | _=>true
def iz(n k:Nat)(W:List Nat)(f:FS):FM:=fun as=>if as.length=n∧mS W as=true then(f (as.map some++List.replicate k none)).bind fun fl=>match fl with
    | .rt r e=>(uZ n e r).bind fun r'=>(qS as e).map fun as'=>(r',as')
    | .nx e=>(qS as e).map fun as'=>(.d .none,as')
    | _=>none
  else none
theorem jF:∀{as as':List Sv} {e:En},qS as e=some as'→as'.length=as.length∧(∀(j:Nat) (x:PyData),as'[j]?=some (.d x)↔ as[j]?=some (.d x))∧(∀(j:Nat) (ys:List PyData),as'[j]?=some (.l ys)→(∃xs,as[j]?=some (.l xs))∧e[j]?=some (some (.l ys)))∧∀(j:Nat) (xs:List PyData),as[j]?=some (.l xs)→∃ys,as'[j]?=some (.l ys)
  | [],_,e,h=>by cases h;simp
  | .d x::r,_,e,h=>by
    obtain⟨s,h1,rfl⟩:=Option.map_eq_some_iff.mp h
    obtain⟨g1,g2,g3,g4⟩:=jF h1
    refine⟨by simp [g1],fun j y=>?_,fun j ys hj=>?_,fun j xs hj=>?_⟩
    · cases j with
      | zero=>simp
      | succ j=>simpa using g2 j y
    · cases j with
      | zero=>simp at hj
      | succ j=>
        obtain⟨c1,c2⟩:=g3 j ys (by simpa using hj)
        refine⟨by simpa using c1,?_⟩
        rw [List.getElem?_tail] at c2
        exact c2
    · cases j with
      | zero=>simp at hj
      | succ j=>simpa using g4 j xs (by simpa using hj)
  | .l xs::r,_,e,h=>by
    unfold qS at h
    match he:e.head?,h with
    | some (some (.l ys)),h=>
      obtain⟨s,h1,rfl⟩:=Option.map_eq_some_iff.mp h
      obtain⟨g1,g2,g3,g4⟩:=jF h1
      refine⟨by simp [g1],fun j y=>?_,fun j zs hj=>?_,fun j zs hj=>?_⟩
      · cases j with
        | zero=>simp
        | succ j=>simpa using g2 j y
      · cases j with
        | zero=>
          simp at hj;subst hj
          exact⟨⟨xs,rfl⟩,by rw [List.head?_eq_getElem?] at he;exact he⟩
        | succ j=>
          obtain⟨c1,c2⟩:=g3 j zs (by simpa using hj)
          refine⟨by simpa using c1,?_⟩
          rw [List.getElem?_tail] at c2
          exact c2
      · cases j with
        | zero=>exact⟨ys,rfl⟩
        | succ j=>simpa using g4 j zs (by simpa using hj)
  | .n x::r,_,e,h=>by simp [qS] at h
end
end L2
namespace L2
open PySem PySem.Spec PyProof.Rows
theorem dn{α:Type}{l:List (Option α)}{k i:Nat}{x:α}(h:(l++List.replicate k none)[i]?=some (some x)):l[i]?=some (some x):=by
  rw [List.getElem?_append] at h
  split at h
  · exact h
  · rw [List.getElem?_replicate] at h
    split at h<;>simp at h
theorem dw{α:Type}{l:List (Option α)}{k i:Nat}{x:α}(h:l[i]?=some (some x)):(l++List.replicate k none)[i]?=some (some x):=by
  have hi:i < l.length:=(List.getElem?_eq_some_iff.mp h).1
  rw [List.getElem?_append_left hi];exact h
section
variable{K:PySem.W.Frag}{F H:Hp}{σ:L2.St}{e:En}{k:Nat}
theorem lK{i:Nat}{a:Addr}:Fp (σ++List.replicate k none) (e++List.replicate k none) H i a↔ Fp σ e H i a:=by
  constructor
  · rintro(⟨xs,h1,h2⟩ | ⟨xss,l,bs,h1,h2,h3⟩)
    · exact .inl ⟨xs,dn h1,dn h2⟩
    · exact .inr ⟨xss,l,bs,dn h1,dn h2,h3⟩
  · rintro(⟨xs,h1,h2⟩ | ⟨xss,l,bs,h1,h2,h3⟩)
    · exact .inl ⟨xs,dw h1,dw h2⟩
    · exact .inr ⟨xss,l,bs,dw h1,dw h2,h3⟩
theorem lX{a:Addr}:c_ (σ++List.replicate k none) (e++List.replicate k none) H a↔ c_ σ e H a:=⟨fun⟨i,h⟩=>⟨i,lK.mp h⟩,fun⟨i,h⟩=>⟨i,lK.mpr h⟩⟩
theorem a7.pad(R:a7 K F H σ e):a7 K F H (σ++List.replicate k none) (e++List.replicate k none):=by
  refine⟨R.sm,by simp [R.len],fun i x h=>?_,fun i xs h=>?_,fun i xss h=>?_,fun i j a h1 h2=>R.fp i j a (lK.mp h1) (lK.mp h2)⟩
  · obtain⟨v,g1,g2⟩:=R.dat i x (dn h)
    exact⟨v,dw g1,g2⟩
  · obtain⟨l,vs,g1,g2⟩:=R.own i xs (dn h)
    exact⟨l,vs,dw g1,g2⟩
  · obtain⟨l,bs,g1,g2⟩:=R.nst i xss (dn h)
    exact⟨l,bs,dw g1,g2⟩
end
theorem l9:∀{as as':List Sv} {e:En},qS as e=some as'→Ax (as'.map some)
  | [],_,e,h=>by cases h;intro i xss z;simp at z
  | .d x::r,_,e,h=>by
    obtain⟨s,h1,rfl⟩:=Option.map_eq_some_iff.mp h
    have ih:=l9 h1
    intro i xss z
    cases i with
    | zero=>simp at z
    | succ i=>exact ih i xss (by simpa using z)
  | .l xs::r,_,e,h=>by
    unfold qS at h
    match he:e.head?,h with
    | some (some (.l ys)),h=>
      obtain⟨s,h1,rfl⟩:=Option.map_eq_some_iff.mp h
      have ih:=l9 h1
      intro i xss z
      cases i with
      | zero=>simp at z
      | succ i=>exact ih i xss (by simpa using z)
  | .n x::r,_,e,h=>by simp [qS] at h
theorem mT{W:List Nat}{as:List Sv}(h:mS W as=true){j:Nat}{xs:List PyData}(hj:as[j]?=some (.l xs)):j∉W:=fun z=>by
  unfold mS at h
  have:=List.all_eq_true.mp h j z
  rw [hj] at this
  cases this
section
variable{P:Program}{w:World}{K:PySem.W.Frag}{mg:Str→Option Value}{base:Heap}
theorem bj.fn{x:Str}{st:Stmt}{f:Addr}{fd:FuncData}{N ps:List Str}{k n k0:Nat}{W:List Nat}{fb:FS}(h:bj K mg x st f fd ps)(S:aO N ps (am st))(hn:ps.length=n)(hN:N.length=n+k0)
    (hb:∀(cdv:Value) (A:Around) (outer:List Env) (s:Shared) (H:Hp) (E:XK),b_ k (A.deeper (envOfC x (am st) s.heap.objs.size f cdv))→jr (nX bV P w K mg base N x (am st) f cdv A outer s H E).nox (cq st) (fS K fb W)):
    aN P w K mg base bV (k+1) f fd ps (cf K n (iz n k0 W fb)):=by
  refine h.F.ok S (fun vs H Q E q=>?_) fun cdv A outer s H vs Q E hr hsp=>⟨_,hb cdv A outer s H E hr,?_⟩
  · rw [hn];exact q.1
  · obtain⟨hl,F,as,r,as',R,nN,hm,nr,q⟩:=hsp
    unfold iz at hm
    split at hm
    case isFalse=>cases hm
    case isTrue hc=>
    obtain⟨la,nl⟩:=hc
    obtain⟨fl,h1,hm⟩:=Option.bind_eq_some_iff.mp hm
    have hst:start N vs=vs.map some++List.replicate k0 none:=by unfold start;rw [hN,hl];congr 2;lia
    rw [hst]
    have key:∀{as':List Sv} {e':En},qS as e'=some as'→∀F' H' σ',cU W (vs.map some++List.replicate k0 none) F H (as.map some++List.replicate k0 none) σ' F' H' e'→a7 K F' H' σ' e'→
        cZ (vs.map some) F H (as.map some) F' H' (as'.map some)∧a7 K F' H' (vs.map some) (as'.map some)∧∀a,c_ (vs.map some) (as'.map some) H' a→c_ (vs.map some) (as.map some) H a:=by
      intro as' e' hu F' H' σ' X' R'
      obtain⟨u1,u2,u3,u4⟩:=jF hu
      have uN:=l9 hu
      have ow:∀a,c_ (vs.map some) (as'.map some) H' a→c_ (vs.map some) (as.map some) H a:=by
        rintro a ⟨j,⟨ys,c1,c2⟩ | ⟨xss,_,_,z,_⟩⟩
        · obtain⟨⟨xs,c3⟩,_⟩:=u3 j ys (dQ.mp c1)
          exact⟨j,.inl ⟨xs,dQ.mpr c3,c2⟩⟩
        · exact absurd z (uN j xss)
      have sg:∀(j:Nat) (xs:List PyData),as[j]?=some (.l xs)→σ'[j]?=(vs.map some)[j]?:=fun j xs hj=>by
        rw [X'.wr j (mT nl hj)]
        have hj2:j < (vs.map some).length:=by rw [List.length_map,hl,←la];exact(List.getElem?_eq_some_iff.mp hj).1
        rw [List.getElem?_append_left hj2]
      refine⟨⟨X'.sf,X'.dom,fun a vs h1 h2 hn=>X'.fr a vs h1 h2 fun z=>hn (lX.mp z),X'.lst,fun a o ha hn=>X'.tmp a o ha fun z=>hn (lX.mp z),fun j=>?_,fun a z=>.inl (ow a z)⟩,⟨R'.sm,?_,fun j y hj=>?_,fun j ys hj=>?_,fun j xss hj=>absurd hj (uN j xss),fun j i l f1 f2=>?_⟩,ow⟩
      · constructor
        · rintro⟨ys,hj⟩
          obtain⟨⟨xs,c⟩,_⟩:=u3 j ys (dQ.mp hj)
          exact⟨xs,dQ.mpr c⟩
        · rintro⟨xs,hj⟩
          obtain⟨ys,c⟩:=u4 j xs (dQ.mp hj)
          exact⟨ys,dQ.mpr c⟩
      · simp [u1,hl,la]
      · obtain⟨v,c1,c2⟩:=R.dat j y (dQ.mpr ((u2 j y).mp (dQ.mp hj)))
        exact⟨v,c1,DA.mono X'.sf c2⟩
      · obtain⟨⟨xs,c1⟩,c2⟩:=u3 j ys (dQ.mp hj)
        obtain⟨l,us,d1,d2⟩:=R'.own j ys c2
        exact⟨l,us,by rw [←sg j xs c1];exact d1,d2⟩
      · obtain⟨xs,g1,g3⟩:=f1.resolve_right fun⟨xss,_,_,z,_⟩=>uN j xss z
        obtain⟨ys,g2,g4⟩:=f2.resolve_right fun⟨xss,_,_,z,_⟩=>uN i xss z
        obtain⟨⟨zs,c1⟩,c2⟩:=u3 j xs (dQ.mp g1)
        obtain⟨⟨ws,c3⟩,c4⟩:=u3 i ys (dQ.mp g2)
        exact R'.inj j i xs ys l c2 c4 (by rw [sg j zs c1];exact g3) (by rw [sg i ws c3];exact g4)
    refine⟨F,as.map some++List.replicate k0 none,fl,R.pad,h1,?_⟩
    cases fl with
    | bk e'=>cases hm
    | ct e'=>cases hm
    | nx e'=>
      obtain⟨as2,h2,hm⟩:=Option.map_eq_some_iff.mp hm
      cases hm
      intro F' H' σ' X' R'
      obtain⟨X2,R2,_⟩:=key h2 F' H' σ' X' R'
      exact q F' H' .non X2 R2 ((gw (K:=K) (F:=F')).mpr rfl)
    | rt r0 e'=>
      obtain⟨r1,h2,hm⟩:=Option.bind_eq_some_iff.mp hm
      obtain⟨as2,h3,hm⟩:=Option.map_eq_some_iff.mp hm
      cases hm
      intro F' H' σ' v X' R' A'
      obtain⟨X2,R2,ow2⟩:=key h3 F' H' σ' X' R'
      have noo:∀l,H l=none→¬c_ (vs.map some) (as'.map some) H' l:=fun l hl z=>R.ownH l (ow2 l z) hl
      refine q F' H' v X2 R2 ?_
      cases r0 with
      | d y=>cases h2;exact A'
      | l ys=>
        cases h2
        obtain⟨l,us,d0,d1,d2,d3,d4,_⟩:=A'
        exact⟨l,us,d0,d1,d2,d3,d4,noo l d1⟩
      | s i=>
        simp only [uZ] at h2
        split at h2
        case isFalse=>cases h2
        case isTrue hi=>
        obtain⟨a1,xs,a2⟩:=A'
        rw [a2] at h2
        cases h2
        obtain⟨l,us,d1,d2,d3,d4⟩:=R'.own i _ a2
        rw [a1] at d1;cases d1
        suffices hl0:H l=none from⟨l,us,rfl,hl0,d2,d3,d4,noo l hl0⟩
        rcases X'.own l ⟨i,.inl ⟨_,a2,a1⟩⟩ with z | z
        · obtain⟨j,zf⟩:=lX.mp z
          obtain⟨ys,z1,z2⟩:=zf.resolve_right fun⟨xss,_,_,z,_⟩=>nN j xss z
          have z1':=dQ.mp z1
          obtain⟨u1,u2,u3,u4⟩:=jF h3
          obtain⟨ws,w1⟩:=u4 j ys z1'
          obtain⟨_,w2⟩:=u3 j ws w1
          have hj2:j < vs.length:=by rw [hl,←la];exact(List.getElem?_eq_some_iff.mp z1').1
          have e3:σ'[j]?=some (some (.ref l)):=by
            rw [X'.wr j (mT nl z1'),List.getElem?_append_left (by simpa using hj2)]
            exact z2
          have:=R'.inj i j _ ws l a2 w2 a1 e3
          lia
        · exact z
end
def Bo:Option Sv→Option Sv
  | some (.n _)=>none
  | s=>s
def nK(cp:List (Nat × Str))(nT:Nat)(e:En):En:=cp.map (fun p=>Bo (e[p.1]?).join)++List.replicate nT none
def iA(cp:List (Nat × Str))(i:Nat):Option Nat:=cp.findIdx? fun p=>p.1==i
def dH(g:FG)(ft:FT)(fe:FE):List PyData→En→List PyData→Option (List PyData × En)
  | [],e,acc=>some (acc,e)
  | x::r,e,acc=>(g x e).bind fun e1=>(ft e1).bind fun b=>if b.1=true then(fe b.2).bind fun v=>(nZ v.1).bind fun d=>if acc.length < 1000000 then dH g ft fe r v.2 (acc++[d]) else none else dH g ft fe r b.2 acc
def jI(cp:List (Nat × Str))(ei e:En):Bool:=cp.all fun p=> !uJ e[p.1]? || uJ ei[(iA cp p.1).getD 0]?
def c9(cp:List (Nat × Str))(nT:Nat)(fi:FI)(g:FG)(ft:FT)(fe:FE):FE:=fun e=>(fi e).bind fun p=>if (p.2.1.all fun q=> !(cp.any fun c=>c.1==q.1))=true then(dH g ft fe p.1 (nK cp nT p.2.2) []).bind fun z=>if jI cp z.2 p.2.2=true then some (.l z.1,iO (iA cp) z.2 p.2.2) else none else none
section
variable{K:PySem.W.Frag}{F H:Hp}{σ:L2.St}{e:En}{cp:List (Nat × Str)}{nT:Nat}
theorem eO{i k:Nat}(h:iA cp i=some k):∃s,cp[k]?=some (i,s):=by
  unfold iA at h
  rw [List.findIdx?_eq_some_iff_getElem] at h
  obtain⟨hk,h1,_⟩:=h
  refine⟨cp[k].2,?_⟩
  rw [List.getElem?_eq_getElem hk]
  have:=eq_of_beq h1
  rw [←this]
theorem gB{k:Nat}{x:Sv}(h:(nK cp nT e)[k]?=some (some x)):∃i s,cp[k]?=some (i,s)∧e[i]?=some (some x):=by
  unfold nK at h
  have h:=dn h
  rw [List.getElem?_map] at h
  obtain⟨p,h1,h2⟩:=Option.map_eq_some_iff.mp h
  refine⟨p.1,p.2,h1,?_⟩
  cases q:e[p.1]? with
  | none=>rw [q] at h2;cases h2
  | some y=>
    rw [q] at h2
    match y,h2 with
    | some (.d z),h2=>exact congrArg some h2
    | some (.l z),h2=>exact congrArg some h2
    | some (.n z),h2=>cases h2
    | none,h2=>cases h2
theorem iu:Ax (nK cp nT e):=by
  intro k xss h
  unfold nK at h
  have h:=dn h
  rw [List.getElem?_map] at h
  obtain⟨p,h1,h2⟩:=Option.map_eq_some_iff.mp h
  match (e[p.1]?).join,h2 with
  | some (.d z),h2=>cases h2
  | some (.l z),h2=>cases h2
  | some (.n z),h2=>cases h2
  | none,h2=>cases h2
theorem jD{k i:Nat}{s:Str}{v:V}(h:cp[k]?=some (i,s))(hv:σ[i]?=some (some v)):(eQ cp nT σ)[k]?=some (some v):=by
  unfold eQ
  refine dw ?_
  rw [List.getElem?_map,h]
  simp [hv]
theorem kd{k i:Nat}{s:Str}{v:V}(h:cp[k]?=some (i,s))(hv:(eQ cp nT σ)[k]?=some (some v)):σ[i]?=some (some v):=by
  unfold eQ at hv
  have hv:=dn hv
  rw [List.getElem?_map,h] at hv
  simp only [Option.map_some,Option.some.injEq] at hv
  cases q:σ[i]? with
  | none=>rw [q] at hv;cases hv
  | some y=>rw [q] at hv;exact congrArg some hv
theorem lG:∀{cp:List (Nat × Str)} {k j i:Nat} {s t:Str},(cp.map (·.1)).Nodup→cp[k]?=some (i,s)→cp[j]?=some (i,t)→k=j
  | [],k,j,i,s,t,_,h,_=>by simp at h
  | p::r,k,j,i,s,t,hn,h1,h2=>by
    simp only [List.map_cons,List.nodup_cons] at hn
    cases k with
    | zero=>
      simp at h1;subst h1
      cases j with
      | zero=>rfl
      | succ j=>
        have hm:(i,t)∈r:=List.mem_of_getElem? (i:=j) (by simpa using h2)
        exact absurd (List.mem_map.mpr ⟨(i,t),hm,rfl⟩) hn.1
    | succ k=>
      cases j with
      | zero=>
        simp at h2;subst h2
        have hm:(i,s)∈r:=List.mem_of_getElem? (i:=k) (by simpa using h1)
        exact absurd (List.mem_map.mpr ⟨(i,s),hm,rfl⟩) hn.1
      | succ j=>
        have:=lG (cp:=r) (k:=k) (j:=j) hn.2 (by simpa using h1) (by simpa using h2)
        lia
theorem a7.inn(R:a7 K F H σ e)(hn:(cp.map (·.1)).Nodup):a7 K F H (eQ cp nT σ) (nK cp nT e)∧mf σ e (eQ cp nT σ) (nK cp nT e) (iA cp):=by
  refine⟨⟨R.sm,by simp [eQ,nK],fun k x h=>?_,fun k xs h=>?_,fun k xss h=>absurd h (iu k xss),fun k j l f1 f2=>?_⟩,⟨fun i k xs h1 h2=>?_,fun k ys h=>?_⟩⟩
  · obtain⟨i,s,h1,h2⟩:=gB h
    obtain⟨v,g1,g2⟩:=R.dat i x h2
    exact⟨v,jD h1 g1,g2⟩
  · obtain⟨i,s,h1,h2⟩:=gB h
    obtain⟨l,vs,g1,g2⟩:=R.own i xs h2
    exact⟨l,vs,jD h1 g1,g2⟩
  · obtain⟨xs,h1,h3⟩:=f1.resolve_right fun⟨xss,_,_,z,_⟩=>iu k xss z
    obtain⟨ys,h2,h4⟩:=f2.resolve_right fun⟨xss,_,_,z,_⟩=>iu j xss z
    obtain⟨i,s,a1,a2⟩:=gB h1
    obtain⟨i',s',b1,b2⟩:=gB h2
    have:i=i':=R.inj i i' xs ys l a2 b2 (kd a1 h3) (kd b1 h4)
    subst this
    exact lG hn a1 b1
  · obtain⟨s,g⟩:=eO h2
    obtain⟨l,vs,g1,_⟩:=R.own i xs h1
    rw [g1];exact jD g g1
  · obtain⟨i,s,h1,h2⟩:=gB h
    obtain⟨l,vs,g1,_⟩:=R.own i ys h2
    refine⟨i,ys,h2,?_,by rw [g1];exact jD h1 g1⟩
    cases hp:iA cp i with
    | none=>
      unfold iA at hp
      rw [List.findIdx?_eq_none_iff] at hp
      have:=hp _ (List.mem_of_getElem? h1)
      simp at this
    | some j=>
      obtain⟨t,g⟩:=eO hp
      rw [lG hn g h1]
theorem a7.putT(R:a7 K F H σ e){l:Addr}{ws:List V}(h1:F l=none)(h2:¬c_ σ e H l):a7 K F (aY H l (.lst ws)) σ e∧∀a,c_ σ e (aY H l (.lst ws)) a↔ c_ σ e H a:=
  R.keep (av.refl F) (fun b o q=>by
    have z:b≠l:=fun z=>by rw [z,h1] at q;cases q
    rw [aE z];exact R.sm b o q) (fun a ⟨i,h⟩=>(R.fpAt h).1) fun a o ha q=>by
      have z:a≠l:=fun z=>h2 (by rw [←z];exact ha)
      rw [aE z];exact q
theorem cU.putT{W:List Nat}{σ':L2.St}{F' H':Hp}{e':En}(x:cU W σ F H e σ' F' H' e'){l:Addr}{o:HO}(h:H l=none)(ho:∀a,c_ σ' e' (aY H' l o) a↔ c_ σ' e' H' a):cU W σ F H e σ' F' (aY H' l o) e':=by
  refine⟨x.sf,fun a q=>?_,x.fr,fun a vs q=>?_,fun a u q n=>?_,fun a q=>x.own a ((ho a).mp q),x.wr⟩
  · by_cases z:a=l
    · rw [z];exact h
    · rw [aE z] at q;exact x.dom a q
  · have z:a≠l:=fun z=>by rw [z,h] at q;cases q
    rw [aE z];exact x.lst a vs q
  · have z:a≠l:=fun z=>by rw [z,h] at q;cases q
    rw [aE z];exact x.tmp a u q n
inductive CI (K:PySem.W.Frag) (W:List Nat) (σ0:L2.St) (F1 H1:Hp) (e0:En) (l:Addr) (P:Hp→En→List PyData→Prop) (σ':L2.St) (H':Hp):Prop
  | mk {F':Hp} {ei:En} {acc:List PyData} {vs:List V} (R:a7 K F' H' σ' ei) (X:cU W σ0 F1 H1 e0 σ' F' H' ei) (fl:F' l=none) (no:¬c_ σ' ei H' l) (hl:H' l=some (.lst vs)) (da:aH K F' acc vs) (hc:P F' ei acc):CI K W σ0 F1 H1 e0 l P σ' H'
theorem nH{Q:VK}{fi:FI}{g:FG}{W:List Nat}{ft:FT}{fe:FE}(hn:(cp.map (·.1)).Nodup)(hW:∀j∈W,cp.length≤j)(h:fE K (c9 cp nT fi g ft fe) σ H Q):pR cp nT (fI K fi) (fG K g W) (fT K ft) (fE K fe) σ H Q:=by
  obtain⟨F0,e0,z,e',R0,hf,q⟩:=h
  unfold c9 at hf
  obtain⟨⟨items,own,e1⟩,h1,hf⟩:=Option.bind_eq_some_iff.mp hf
  dsimp only at hf
  split at hf
  case isFalse=>cases hf
  case isTrue hO=>
  obtain⟨⟨out,eo⟩,h2,hf⟩:=Option.bind_eq_some_iff.mp hf
  dsimp only at hf
  split at hf
  case isFalse=>cases hf
  case isTrue hB=>
  cases hf
  refine⟨⟨F0,e0,items,own,e1,R0,h1,fun J F1 H1 X1 R1 kp ok=>?_⟩⟩
  intro l hl
  obtain⟨Ri,sub⟩:=R1.inn (nT:=nT) hn
  have hFl:F1 l=none:=R1.freeF hl
  let Iv:Nat→L2.St→Hp→Prop:=fun i=>CI K W (eQ cp nT σ) F1 H1 (nK cp nT e1) l fun _ ei acc=>dH g ft fe (items.drop i) ei acc=some (out,eo)
  have notown:∀p∈own,∀a,σ[p.1]?=some (some (.ref a))→¬c_ (eQ cp nT σ) (nK cp nT e1) H1 a:=by
    rintro p hp a ha ⟨k,zf⟩
    obtain⟨xs,c1,c2⟩:=zf.resolve_right fun⟨xss,_,_,z,_⟩=>iu k xss z
    obtain⟨i,s,d1,d2⟩:=gB c1
    have e2:=kd d1 c2
    have:p.1=i:=R1.inj p.1 i p.2 xs a (kp p hp) d2 ha e2
    have hh:=List.all_eq_true.mp hO p hp
    simp only [Bool.not_eq_true',List.any_eq_false,beq_iff_eq] at hh
    exact hh (i,s) (List.mem_of_getElem? d1) this.symm
  refine⟨fun i m σ' H'=>m=items.length - i∧i≤items.length∧Iv i σ' H',⟨items.length,by simp,Nat.zero_le _,.mk (Ri.putT hFl (fun z=>(Ri.ownH l z) hl)).1 (cU.refl.putT hl (Ri.putT hFl (fun z=>(Ri.ownH l z) hl)).2) hFl (fun z=>(Ri.ownH l (((Ri.putT hFl (fun z=>(Ri.ownH l z) hl)).2 l).mp z)) hl) ar aH.nil h2⟩,?_⟩
  rintro i m σ' H' ⟨rfl,hi,⟨R',X',fl,no,hl',da,hc⟩⟩
  rename_i F' ei acc vs
  have held:rc K σ F' H' own:=fun p hp=>by
    obtain⟨a,us,c1,c2,c3,c4⟩:=R1.own p.1 p.2 (kp p hp)
    exact⟨a,us,c1,X'.tmp a _ c3 (notown p hp a c1),c4.mono X'.sf⟩
  obtain⟨go,stop,yld⟩:=ok F' H' X'.sf R'.sm held
  by_cases hlt:i < items.length
  · have hd:items.drop i=items[i]::items.drop (i+1):=List.drop_eq_getElem_cons hlt
    rw [hd] at hc
    unfold dH at hc
    obtain⟨e2,c2,hc⟩:=Option.bind_eq_some_iff.mp hc
    obtain⟨⟨b,e3⟩,c3,hc⟩:=Option.bind_eq_some_iff.mp hc
    refine .inr ⟨go i hlt,Iv (i+1),fun σ2 H2 r=>⟨items.length - (i+1),by lia,rfl,hlt,r⟩,fun x H2 hy=>?_⟩
    obtain⟨F2,sH,sF2,sm2,fz,hx⟩:=yld i items[i] x H2 (List.getElem?_eq_getElem hlt) hy
    obtain⟨R2,X2⟩:=R'.step sH sF2 sm2 fz
    refine⟨F2,ei,items[i],e2,R2,hx,c2,fun σ3 X3 R3=>⟨F2,e2,b,e3,R3,c3,fun F4 H4 X4 R4=>?_⟩⟩
    have hlH2:H2 l=some (.lst vs):=sH _ _ hl'
    have no2:¬c_ σ' ei H2 l:=fun z=>by
      rcases X2.ow l z with z | z
      · exact no z
      · rw [hl'] at z;cases z
    have no3:¬c_ σ3 e2 H2 l:=fun z=>by
      rcases X3.own l z with z | z
      · exact no2 z
      · rw [hlH2] at z;cases z
    have fl2:F2 l=none:=fz l fl (by rw [hl'];simp)
    have hlH4:H4 l=some (.lst vs):=X4.tmp l _ hlH2 no3
    have fl4:F4 l=none:=X4.fr l vs fl2 hlH2 no3
    have no4:¬c_ σ3 e3 H4 l:=fun z=>by
      rcases X4.ow l z with z | z
      · exact no3 z
      · rw [hlH2] at z;cases z
    have E4:cU W (eQ cp nT σ) F1 H1 (nK cp nT e1) σ3 F4 H4 e3:=((X'.trans X2.s).trans X3).trans X4.s
    cases b with
    | false=>
      rw [if_neg (by simp)] at hc
      exact Bk (.mk R4 E4 fl4 no4 hlH4 (da.mono (sF2.trans X4.sf)) hc)
    | true=>
      rw [if_pos rfl] at hc
      obtain⟨⟨r,e5⟩,c5,hc⟩:=Option.bind_eq_some_iff.mp hc
      obtain⟨d,c6,hc⟩:=Option.bind_eq_some_iff.mp hc
      split at hc
      case isFalse=>cases hc
      case isTrue hlen=>
      refine Bl ⟨F4,e3,r,e5,R4,c5,fun F5 H5 v X5 R5 A5=>?_⟩
      have hlH5:H5 l=some (.lst vs):=X5.tmp l _ hlH4 no4
      have fl5:F5 l=none:=X5.fr l vs fl4 hlH4 no4
      have no5:¬c_ σ3 e5 H5 l:=fun z=>by
        rcases X5.ow l z with z | z
        · exact no4 z
        · rw [hlH4] at z;cases z
      obtain⟨F6,R6,s6,d6,f6⟩:=cK.frozen R5 (rs:=[r]) (vs:=[v]) ⟨v,[],rfl,A5,rfl⟩ (qc c6)
      have fl6:F6 l=none:=f6 l fl5 (by rw [hlH4];simp)
      have X6:=X5.frz s6 f6
      have ll:=da.len
      have sl:sizeLine=16777216:=sizeLine_eq
      have dv:DA K F6 d v:=by
        simp only [aH] at d6
        obtain⟨v',r',e',hv,_⟩:=d6
        cases e';exact hv
      obtain⟨R7,o7⟩:=R6.putT (ws:=vs++[v]) fl6 no5
      exact⟨vs,hlH5,by lia,.mk R7 ((E4.trans X6.s).putT hl o7) fl6 (fun z=>no5 ((o7 l).mp z)) ar ((da.mono (sF2.trans (X4.sf.trans (X5.sf.trans s6)))).append (aH.one dv)) hc⟩
  · have hd:items.drop i=[]:=List.drop_eq_nil_of_le (by lia)
    rw [hd] at hc
    cases hc
    refine .inl ⟨stop i (by lia),?_⟩
    obtain⟨R9,X9,o9⟩:=nA R1 sub iu X'.sf X'.dom X'.fr X'.lst X'.tmp R' (fun i k xs g1 g2=>X'.wr k fun z=>by
      obtain⟨s,g⟩:=eO g2
      have:=(List.getElem?_eq_some_iff.mp g).1
      have:=hW k z
      lia) fun i k xs g1 g2=>by
        obtain⟨s,g⟩:=eO g2
        unfold jI at hB
        have hb:=List.all_eq_true.mp hB _ (List.mem_of_getElem? g)
        simp only [g1,g2,Option.getD_some,uJ,Bool.not_true,Bool.false_or] at hb
        exact vc.mp hb
    exact q F' H' (.ref l) (X1.trans X9) R9 ⟨l,vs,rfl,X1.dom l hl,fl,hl',da,fun z=>R1.ownH l (o9 l z) hl⟩
end
end L2
namespace L2
open PySem PySem.Spec PyProof.Rows
section
variable{X:Cx}{K:PySem.W.Frag}{a b:Expr}{es:List Expr}{fa fb:FE}{fs:FA}{pos p p2 p3:Pos}{lo hi:Option Expr}
def qf:En→Rv→Option Rv:=fun _ x=>(bL x).map fun i=>.d (.int (-i))
theorem Bw:Ar K (rU fun i=>.int (-i)) qf:=by
  intro σ H0 F H e x z v Q R A hg q
  obtain⟨i,h5,h4⟩:=Option.map_eq_some_iff.mp hg
  cases h4
  exact⟨i,bQ A h5,q F H _ (cZ.refl _ _ _ _) R g9⟩
theorem tP(ha:PE X a (fE K fa)):PE X (.UnaryOp .USub a pos) (fE K (md qf fa)):=BQ Ai Bw ha
theorem aQ(hK:X.K=K)(ha:PE X a (fE K fa))(hb:PE X b (fE K fb)):PE X (.BinOp a .Add b pos) (fE K (au aU fa fb)):=lg (hK ▸ vE) AL ha hb
theorem iC(ha:PE X a (fE K fa))(hb:PE X b (fE K fb)):PE X (.BinOp a .Sub b pos) (fE K (au dD fa fb)):=lg y3 B6 ha hb
theorem j5(hK:X.K=K)(ha:PE X a (fE K fa))(hb:PE X b (fE K fb)):PE X (.BinOp a .Mult b pos) (fE K (au gQ fa fb)):=lg (hK ▸ vI) Bv ha hb
theorem eG(ha:PE X a (fE K fa))(hb:PE X b (fE K fb)):PE X (.BinOp a .FloorDiv b pos) (fE K (au du fa fb)):=lg sP ya ha hb
theorem aD(ha:PE X a (fE K fa))(hb:PE X b (fE K fb)):PE X (.BinOp a .Mod b pos) (fE K (au aB fa fb)):=lg vH Bu ha hb
theorem tQ(ha:PE X a (fE K fa))(hb:PE X b (fE K fb)):PE X (.BinOp a .Pow b pos) (fE K (au lP fa fb)):=lg yZ BK ha hb
theorem dU(hK:X.K=K)(ha:PE X a (fE K fa))(hb:PE X b (fE K fb))(hs:lA b):PE X (.Subscript a b pos) (fE K (au fP fa fb)):=BO (hK ▸ C4) C5 ha hb hs
theorem bc{fl fh:FO}(hK:X.K=K)(he:PE X a (fE K fa))(hl:PO X lo (fO K fl))(hh:PO X hi (fO K fh)):PE X (.Subscript a (.Slice lo hi none p2) pos) (fE K (jx fa fl fh)):=by subst hK;exact tV he hl hh
structure fy (X:Cx) (K:PySem.W.Frag) (op:CmpOp) (g:En→Rv→Rv→Option Rv):Prop where
  ex:∃r,dC X (compareOp op) r∧en K r g
theorem rq:fy X K .Lt va:=⟨_,BC,C8⟩
theorem xZ:fy X K .LtE Au:=⟨_,BB,C7⟩
theorem AV:fy X K .Gt As:=⟨_,BA,CV⟩
theorem AU:fy X K .GtE A9:=⟨_,Bz,CU⟩
theorem ig{k:Nat}(hK:X.K=K)(hr:b_ k X.A):fy X K .Eq (cQ false):=⟨_,hK ▸ yP hr,xj⟩
theorem AY{k:Nat}(hK:X.K=K)(hr:b_ k X.A):fy X K .NotEq (cQ true):=⟨_,hK ▸ yX hr,xj⟩
theorem xY{k:Nat}(hK:X.K=K)(hr:b_ k X.A):fy X K .In (kW false):=⟨_,hK ▸ yS hr,Be⟩
theorem pd{k:Nat}(hK:X.K=K)(hr:b_ k X.A):fy X K .NotIn (kW true):=⟨_,hK ▸ qz hr,Be⟩
theorem AW:fy X K .Is A_:=⟨_,yT,C3⟩
theorem j4{op:CmpOp}{g:En→Rv→Rv→Option Rv}(h:fy X K op g)(ha:PE X a (fE K fa))(hb:PE X b (fE K fb))(hm:behindInMarks op b=false):PE X (.Compare a [op] [b] pos) (fE K (au g fa fb)):=by
  obtain⟨r,h1,h2⟩:=h.ex;exact zD h1 h2 ha hb hm
theorem a_{op:CmpOp}{g:En→Rv→Rv→Option Rv}(h:fy X K op g)(ha:PE X a (fE K fa))(hb:PE X b (fE K fb))(hm:behindInMarks op b=false):PT X (.Compare a [op] [b] pos) (fT K (aR (au g fa fb))):=by
  obtain⟨r,h1,h2⟩:=h.ex;exact zH h1 h2 ha hb hm
theorem wk{op op':CmpOp}{g g':En→Rv→Rv→Option Rv}{c:Expr}{fc:FE}(h:fy X K op g)(h':fy X K op' g')(ha:PE X a (fE K fa))(hb:PE X b (fE K fb))(hc:PE X c (fE K fc))(hm:lastMarks [op,op'] [b,c]=false):PE X (.Compare a [op,op'] [b,c] pos) (fE K (dm g g' fa fb fc)):=by
  obtain⟨r,h1,h2⟩:=h.ex;obtain⟨r',h3,h4⟩:=h'.ex;exact tT h1 h2 h3 h4 ha hb hc hm
theorem tR{op op':CmpOp}{g g':En→Rv→Rv→Option Rv}{c:Expr}{fc:FE}(h:fy X K op g)(h':fy X K op' g')(ha:PE X a (fE K fa))(hb:PE X b (fE K fb))(hc:PE X c (fE K fc))(hm:lastMarks [op,op'] [b,c]=false):PT X (.Compare a [op,op'] [b,c] pos) (fT K (aR (dm g g' fa fb fc))):=by
  obtain⟨r,h1,h2⟩:=h.ex;obtain⟨r',h3,h4⟩:=h'.ex;exact tX h1 h2 h3 h4 ha hb hc hm
structure km (X:Cx) (K:PySem.W.Frag) (x:Str) (g:En→List Rv→Option Rv):Prop where
  ex:(∃id r,cW X (.builtin id) r∧dr K r g∧bootBuiltins x=some (.builtin id))∨∃T r,cW X (.type T) r∧dr K r g∧bootBuiltins x=some (.type T)
theorem aV{x:Str}{g:En→List Rv→Option Rv}(h:km X K x g)(hg:Gl X x)(hm:X.mg x=none)(ha:PA X (a::es) (fA K fs))(hn:x≠"__name__")(hdb:(x==("__debug__":Str))=false)
    (he:starEach (a::es) X.env=(false,eval a X.env)::starEach es X.env)(hpl:(backTo pos (starEach es X.env)).any (·.1)=false):PE X (.Call (.Name x p) (a::es) [] pos) (fE K (aL g fs)):=by
  rcases h.ex with ⟨id,r,h1,h2,h3⟩ | ⟨T,r,h1,h2,h3⟩
  · exact tS h1 h2 hg hm h3 ha hn hdb he hpl
  · exact qF h1 h2 hg hm h3 ha hn hdb he hpl
theorem b_len(hK:X.K=K):km X K "len" (g1 eE):=⟨.inl ⟨_,_,hK ▸ lD,Bn,PySem.boot_len⟩⟩
theorem b_abs:km X K "abs" (g1 qd):=⟨.inl ⟨_,_,rA,AK,PyProof.Rows.boot_abs⟩⟩
theorem b_min(hc:X.calm=true):km X K "min" (g2 lO):=⟨.inl ⟨_,_,p_ hc,Bs,PyProof.Rows.boot_min⟩⟩
theorem b_max(hc:X.calm=true):km X K "max" (g2 iZ):=⟨.inl ⟨_,_,p9 hc,Br,PyProof.Rows.boot_max⟩⟩
theorem b_int:km X K "int" (g1 qe):=⟨.inr ⟨_,_,p7,Bf,PyProof.Rows.boot_int⟩⟩
theorem b_tuple(hK:X.K=K):km X K "tuple" (g1 df):=⟨.inr ⟨_,_,hK ▸ kn,wG,PyProof.Rows.boot_tuple⟩⟩
theorem b_list(hK:X.K=K):km X K "list" (g1 pC):=⟨.inr ⟨_,_,hK ▸ lE,yB,PyProof.Rows.boot_list⟩⟩
theorem b_all{k:Nat}(hK:X.K=K)(hr:b_ k X.A):km X K "all" (g1 (eL kU)):=⟨.inl ⟨_,_,rB hr hK,AM,ro⟩⟩
theorem b_any{k:Nat}(hK:X.K=K)(hr:b_ k X.A):km X K "any" (g1 (eL mz)):=⟨.inl ⟨_,_,rC hr hK,AN,rp⟩⟩
def iP(fs:FA):FE:=fun e=>(fs e).bind fun p=>match p.1 with
  | [r]=>(bL r).bind fun j=>if 0≤j∧j≤100000 then some (.l ((gZ j.toNat).map .int),p.2) else none
  | _=>none
theorem m5(hc:X.calm=true)(hgl:Gl X "list")(hml:X.mg "list"=none)(hg:Gl X "range")(hm:X.mg "range"=none)(ha:PA X [a] (fA K fs))(hs:starEach [a] X.env=[(false,eval a X.env)])
    (he:starEach [.Call (.Name "range" p2) [a] [] p3] X.env=[(false,eval (.Call (.Name "range" p2) [a] [] p3) X.env)]):PE X (.Call (.Name "list" p) [.Call (.Name "range" p2) [a] [] p3] [] pos) (fE K (iP fs)):=(lY hc hgl hml hg hm ha hs he).mono fun σ H Q h=>by
  obtain⟨F,e,z,e',R,hf,q⟩:=h
  unfold iP at hf
  obtain⟨⟨rs,e1⟩,h1,hf⟩:=Option.bind_eq_some_iff.mp hf
  match rs,h1,hf with
  | [r],h1,hf=>
  obtain⟨j,h2,hf⟩:=Option.bind_eq_some_iff.mp hf
  split at hf
  case isFalse=>cases hf
  case isTrue hj=>
  cases hf
  refine⟨F,e,_,e1,R,h1,fun F1 H1 vs X1 R1 A1=>?_⟩
  obtain⟨v,rfl,A2⟩:=jC A1
  refine⟨j,by rw [bQ A2 h2],hj.1,hj.2,fun t ht=>?_⟩
  obtain⟨R3,X3,hF,no⟩:=R1.newL (vs:=(gZ j.toNat).map V.int) ht
  exact q _ _ _ (X1.trans X3) R3 ⟨t,_,rfl,X1.dom _ ht,hF,ar,aH.ints.mpr rfl,no⟩
abbrev dN:FT:=fun e=>some (true,e)
theorem rg.mono{ifs:List Expr}{t t':TT}(h:rg X ifs t)(m:∀σ H Q,t' σ H Q→t σ H Q):rg X ifs t':=fun pins s σ H Q I q=>h pins s σ H Q I (m σ H Q q)
theorem iE:rg X [] (fT K dN):=we.mono fun σ H Q h=>by
  obtain⟨F,e,b,e',R,hf,q⟩:=h
  cases hf
  exact q F H (cZ.refl _ _ _ _) R
theorem lZ{c:Expr}{ft:FT}(h:PT X c (fT K ft)):rg X [c] (fT K ft):=wf h
theorem gW{elt iter tg:Expr}{ifs:List Expr}{scope:Scope}{fi:FI}{g:FG}{ft:FT}{fe:FE}{W:List Nat}(sc0:Scope)(N0:List Str)(cp:List (Nat × Str))(tgN:List Str)
    (hc:X.calm=true)(hsc:X.env.scope=sc0)(hN0:X.N=N0)(hi:PI X tg iter (fI K fi))
    (hg:∀C s0 H0 fp,PG (aP X scope cp tgN C s0 H0 fp) tg (fG K g W))
    (ht:∀C s0 H0 fp,rg (aP X scope cp tgN C s0 H0 fp) ifs (fT K ft))
    (he:∀C s0 H0 fp,PE (aP X scope cp tgN C s0 H0 fp) elt (fE K fe))
    (hk:scope.kind=.function)(hcell:∀y∈scope.names,y.2≠.cell)(hnames:∀y∈scope.names,y.2=.local→scope.names.lookup y.1=some .local)
    (hfr:∀y∈scope.names,y.2=.free→scope.names.lookup y.1=some .free∧sc0.names.lookup y.1=some .cell)
    (hcp:∀p∈cp,N0[p.1]?=some p.2)(hcq:∀p∈cp,sc0.names.lookup p.2=some .cell∧scope.names.lookup p.2=some .free)(hnd:(cp.map (·.1)).Nodup)(hW:∀j∈W,cp.length≤j)
    (hs:∀x,foldedSetIterable iter X.env x=pure x):
    PE X (.ListComp elt [⟨tg,iter,ifs,0⟩] scope pos) (fE K (c9 cp tgN.length fi g ft fe)):=(vO sc0 N0 cp tgN hc hsc hN0 hi hg ht he hk hcell hnames hfr hcp hcq hs).mono fun _ _ _ h=>nH hnd hW h
theorem qE{ix:Nat}{nm:Str}{posn poss:Pos}{elt iter tg:Expr}{ifs:List Expr}{scope:Scope}{fi:FI}{g:FG}{ft:FT}{fe:FE}{W:List Nat}(sc0:Scope)(N0:List Str)(cp:List (Nat × Str))(tgN:List Str)
    (hc:X.calm=true)(hsc:X.env.scope=sc0)(hN0:X.N=N0)(hi:PI X tg iter (fI K fi))
    (hg:∀C s0 H0 fp,PG (aP X scope cp tgN C s0 H0 fp) tg (fG K g W))
    (ht:∀C s0 H0 fp,rg (aP X scope cp tgN C s0 H0 fp) ifs (fT K ft))
    (he:∀C s0 H0 fp,PE (aP X scope cp tgN C s0 H0 fp) elt (fE K fe))
    (hk:scope.kind=.function)(hcell:∀y∈scope.names,y.2≠.cell)(hnames:∀y∈scope.names,y.2=.local→scope.names.lookup y.1=some .local)
    (hfr:∀y∈scope.names,y.2=.free→scope.names.lookup y.1=some .free∧sc0.names.lookup y.1=some .cell)
    (hcp:∀p∈cp,N0[p.1]?=some p.2)(hcq:∀p∈cp,sc0.names.lookup p.2=some .cell∧scope.names.lookup p.2=some .free)(hnd:(cp.map (·.1)).Nodup)(hW:∀j∈W,cp.length≤j)
    (hNd:X.N.Nodup)(hix:X.N[ix]?=some nm)(hlc:X.env.scope.names.lookup nm=some .local)(hsw:swapsWith (.ListComp elt [⟨tg,iter,ifs,0⟩] scope pos) (some (.Name nm posn)) poss.line X.env=pure true)
    (hs:∀x,foldedSetIterable iter X.env x=pure x):
    PS X (.Assign [.Name nm posn] (.ListComp elt [⟨tg,iter,ifs,0⟩] scope pos) poss) (fS K (aT ix (c9 cp tgN.length fi g ft fe)) [ix]):=(oy sc0 N0 cp tgN hc hsc hN0 hi hg ht he hk hcell hnames hfr hcp hcq hNd hix hlc hsw hs).mono fun D σ H h=>by
  obtain⟨F,e,fl,R,hf,q⟩:=h
  unfold aT at hf
  obtain⟨⟨r,e1⟩,h1,hf⟩:=Option.bind_eq_some_iff.mp hf
  obtain⟨e2,h2,hf⟩:=Option.map_eq_some_iff.mp hf
  cases hf
  refine nH hnd hW ⟨F,e,r,e1,R,h1,fun F1 H1 v X1 R1 A1=>?_⟩
  obtain⟨x,R2⟩:=tM R X1 R1 A1 h2
  exact q F1 H1 _ x R2
variable{o:Expr}{fo:FE}{apos cpos:Pos}
theorem br(hK:X.K=K)(ho:PE X o (fE K fo))(ha:PA X (a::es) (fA K fs))(hbase:attributeBase o "append" X.env (eval o X.env)=eval o X.env)
    (hfew:((backTo cpos (starEach (a::es) X.env)).all (fun x=> !x.1)&&(backToKw cpos (keywordEach [] X.env)).all (fun x=>x.1.isSome)
      &&decide ((a::es).length+([]:List Keyword).length+(if ([]:List Keyword).isEmpty then 0 else 1) < 30))=true)
    (hline:(apos.endLine==cpos.line)=true)(hs:starEach (a::es) X.env=(false,eval a X.env)::starEach es X.env)(hplain:(backTo cpos (starEach es X.env)).any (·.1)=false):
    PE X (.Call (.Attribute o "append" apos) (a::es) [] cpos) (fE K (bZ ba fo fs)):=by
  subst hK;exact xI PySem.F.slot_list_append PySem.F.type_list_append i8 rh ho ha hbase hfew hline hs hplain
theorem pK(hK:X.K=K)(ho:PE X o (fE K fo))(ha:PA X (a::es) (fA K fs))(hbase:attributeBase o "pop" X.env (eval o X.env)=eval o X.env)
    (hfew:((backTo cpos (starEach (a::es) X.env)).all (fun x=> !x.1)&&(backToKw cpos (keywordEach [] X.env)).all (fun x=>x.1.isSome)
      &&decide ((a::es).length+([]:List Keyword).length+(if ([]:List Keyword).isEmpty then 0 else 1) < 30))=true)
    (hline:(apos.endLine==cpos.line)=true)(hs:starEach (a::es) X.env=(false,eval a X.env)::starEach es X.env)(hplain:(backTo cpos (starEach es X.env)).any (·.1)=false):
    PE X (.Call (.Attribute o "pop" apos) (a::es) [] cpos) (fE K (bZ gS fo fs)):=by
  subst hK;exact xI PySem.F.slot_list_pop PySem.F.type_list_pop su vZ ho ha hbase hfew hline hs hplain
end
end L2
namespace L2
open PySem PySem.Spec PyProof.Rows
theorem oD{K:PySem.W.Frag}{H:Hp}{a:Addr}{ns:List Int}{m:FM}{as':List Sv}{Q:VK}{E:XK}(hS:ce K H a (ns.map V.int))(hm:m [.d (.list (ns.map .int))]=some (.d (.bool true),as'))(q:∀H',Q (.bl true) H'):cf K 1 m [.ref a] H Q E:=by
  refine⟨rfl,H,[.d (.list (ns.map .int))],_,as',?_,?_,hm,trivial,fun F' H' v X' R' A'=>?_⟩
  · refine⟨av.refl _,rfl,fun i x h=>?_,fun i xs h=>?_,fun i xss h=>?_,fun i j l f1 _=>?_⟩
    · match i,h with
      | 0,h=>
        simp at h;subst h
        exact⟨.ref a,rfl,cN.mpr ⟨a,_,rfl,hS,aH.ints.mpr rfl⟩⟩
      | i+1,h=>simp at h
    · match i,h with
      | 0,h=>simp at h
      | i+1,h=>simp at h
    · match i,h with
      | 0,h=>simp at h
      | i+1,h=>simp at h
    · rcases f1 with ⟨_,h,_⟩ | ⟨_,_,_,h,_⟩
      · match i,h with
        | 0,h=>simp at h
        | i+1,h=>simp at h
      · match i,h with
        | 0,h=>simp at h
        | i+1,h=>simp at h
  · intro i xss h
    match i,h with
    | 0,h=>simp at h
    | i+1,h=>simp at h
  · rw [cn.mp (show DA K F' (.bool true) v from A')];exact q H'
end L2
namespace L2
open PySem PySem.Spec PyProof.Rows
section
variable{K:PySem.W.Frag}{σ:L2.St}{H0 F H F' H':Hp}{e e':En}
end
section
variable{X:Cx}{K:PySem.W.Frag}{a b:Expr}{es:List Expr}{fa fb:FE}{fs:FA}{pos p p2 p3 pos':Pos}{x:Str}{i:Nat}
def nC(k:Int):En→Option Int:=fun _=>some k
end
end L2
namespace L2
open PySem PySem.Spec PyProof.Rows
theorem iY{C:Int→Int→Bool}{f:Int→Int→PyData}{e:En}{i j:Int}(h:C i j=true):gI C f e (.d (.int i)) (.d (.int j))=some (.d (f i j)):=by simp [gI,bL,h]
theorem bB{e:En}{i j:Int}:aU e (.d (.int i)) (.d (.int j))=some (.d (.int (i+j))):=rfl
theorem jP{e:En}{i j:Int}:dD e (.d (.int i)) (.d (.int j))=some (.d (.int (i - j))):=rfl
theorem jQ{e:En}{i j:Int}(h:i9 i j=true):gQ e (.d (.int i)) (.d (.int j))=some (.d (.int (i*j))):=by
  unfold gQ rV mG;rw [iY h];rfl
theorem sv{i j:Int}(h1: -(2 ^ 64) < i)(h2:i < 2 ^ 64):i9 i j=true:=by
  have:e6 i=true:=by unfold e6;rw [decide_eq_true h1,decide_eq_true h2];rfl
  unfold i9;rw [this];simp
theorem lV{i j:Int}(h1: -(2 ^ 64) < j)(h2:j < 2 ^ 64):i9 i j=true:=by
  have:e6 j=true:=by unfold e6;rw [decide_eq_true h1,decide_eq_true h2];rfl
  unfold i9;rw [this];simp
theorem ao{e:En}{i j:Int}(h:0 < j):aB e (.d (.int i)) (.d (.int j))=some (.d (.int (i % j))):=by
  unfold aB;rw [iY (by simp;lia)]
  rw [Int.fmod_eq_emod_of_nonneg i (by lia)]
theorem cH{e:En}{i j:Int}(h:0 < j)(h2:Bt 8000 j):du e (.d (.int i)) (.d (.int j))=some (.d (.int (i / j))):=by
  unfold du;rw [iY (by simp [ic.mpr h2];lia)]
  rw [Int.fdiv_eq_ediv_of_nonneg i (by lia)]
theorem io{e:En}{i j:Int}{neg:Bool}:cQ neg e (.d (.int i)) (.d (.int j))=some (.d (.bool (if neg then !(i==j) else i==j))):=by
  unfold cQ;simp [fL,SeqAt.shaped,PyData.canLay0,PyData.depth,PyData.eqv]
theorem pD{e:En}{i j:Int}:va e (.d (.int i)) (.d (.int j))=some (.d (.bool (decide (i < j)))):=rfl
theorem pA{e:En}{i j:Int}:Au e (.d (.int i)) (.d (.int j))=some (.d (.bool (decide (i≤j)))):=rfl
theorem pw{e:En}{i j:Int}:As e (.d (.int i)) (.d (.int j))=some (.d (.bool (decide (j < i)))):=rfl
theorem pv{e:En}{i j:Int}:A9 e (.d (.int i)) (.d (.int j))=some (.d (.bool (decide (j≤i)))):=rfl
theorem mF{e:En}{i j:Int}:g2 lO e [.d (.int i),.d (.int j)]=some (.d (.int (min i j))):=by
  show some (Rv.d (.int (if j < i then j else i)))=_
  congr 3
  split<;>lia
theorem mD{e:En}{i j:Int}:g2 iZ e [.d (.int i),.d (.int j)]=some (.d (.int (max i j))):=by
  show some (Rv.d (.int (if j > i then j else i)))=_
  congr 3
  split<;>lia
theorem mH{e:En}{i:Int}:qf e (.d (.int i))=some (.d (.int (-i))):=rfl
theorem kX{e:En}{b:Bool}:g1 qe e [.d (.bool b)]=some (.d (.int (if b then 1 else 0))):=rfl
theorem mx{e:En}{i:Int}:g1 qd e [.d (.int i)]=some (.d (.int i.natAbs)):=by
  show some (Rv.d (.int (if i < 0 then -i else i)))=_
  congr 3
  split<;>lia
theorem fH{j:Int}(h1:0 < j)(h2:j < 2 ^ 64):Bt 8000 j:=Bt.mono (m:=64) (by unfold Bt;lia) (by decide)
theorem gL{α:Type}{xs:List α}{i:Int}(h0:0≤i)(h:i < xs.length):atI xs i=xs[i.toNat]?:=by
  unfold atI Av
  rw [if_pos h0,if_pos h];rfl
theorem mC{e:En}{i:Nat}{xs:List PyData}{neg:Bool}(h:e[i]?=some (some (.l xs)))(hs:SeqAt.shaped (.list xs)=true):cQ neg e (.s i) (.l [])=some (.d (.bool (if neg then !xs.isEmpty else xs.isEmpty))):=by
  unfold cQ
  simp only [fL,h,Option.bind_some,hs]
  have h0:SeqAt.shaped (.list [])=true:=by simp [SeqAt.shaped,PyData.canLay0,PyData.canLayAll0,PyData.depth,PyData.depthAll]
  rw [h0]
  cases xs<;>simp [PyData.eqv,PyData.eqvAll]
theorem jp(ns:List Int):SeqAt.shaped (.list (ns.map .int))=true∧SeqAt.shaped (.tuple (ns.map .int))=true:=by
  have h1:PyData.canLayAll0 (ns.map PyData.int)=true:=by
    induction ns with
    | nil=>rfl
    | cons n r ih=>simp [PyData.canLayAll0,PyData.canLay0,ih]
  have h2:PyData.depthAll (ns.map PyData.int)=0:=by
    clear h1
    induction ns with
    | nil=>rfl
    | cons n r ih=>simp [PyData.depthAll,PyData.depth,ih]
  constructor<;>simp [SeqAt.shaped,PyData.canLay0,PyData.depth,h1,h2]
theorem bA{own:fm}{g:FG}{f:FS}(P:Nat→En→Prop):∀(items:List PyData) (k:Nat) (e:En),(∀i x e,items[i]?=some x→P (k+i) e→∃e1 e2,g x e=some e1∧f e1=some (.nx e2)∧keeps own e2∧P (k+i+1) e2)→P k e→∃e',kr own g f items e=some (.nx e')∧P (k+items.length) e'
  | [],k,e,_,h=>⟨e,rfl,h⟩
  | x::r,k,e,hs,h=>by
    obtain⟨e1,e2,h1,h2,h3,h4⟩:=hs 0 x e rfl h
    obtain⟨e',h5,h6⟩:=bA P r (k+1) e2 (fun i y e hy hp=>by
      have:=hs (i+1) y e (by simpa using hy) (by rw [show k+(i+1)=k+1+i by lia];exact hp)
      rw [show k+(i+1)+1=k+1+i+1 by lia] at this
      exact this) h4
    refine⟨e',?_,by rw [List.length_cons,show k+(r.length+1)=k+1+r.length by lia];exact h6⟩
    unfold kr
    simp only [h1,h2,Option.bind_some,if_pos h3]
    exact h5
theorem bw{e:En}:keeps [] e:=fun _ h=>by cases h
theorem cE{W:List Nat}{fi:FI}{g:FG}{f:FS}{e e1:En}{items:List PyData}(h:fi e=some (items,[],e1)):cG W fi g f e=kr [] g f items e1:=by
  unfold cG;rw [h];rfl
theorem bO{lo:Int}{n i:Nat}{x:PyData}(h:(aK lo n)[i]?=some x):x=.int (lo+i)∧i < n:=by
  unfold aK at h
  rw [List.getElem?_map] at h
  obtain⟨k,h1,rfl⟩:=Option.map_eq_some_iff.mp h
  obtain⟨h2,h3⟩:=List.getElem?_eq_some_iff.mp h1
  simp at h2 h3
  subst h3
  exact⟨rfl,h2⟩
theorem bt{lo:Int}{n:Nat}:(aK lo n).length=n:=by simp [aK]
theorem bG{fs:FA}{e e1:En}{n:Int}(h:fs e=some ([.d (.int n)],e1))(h1: -1000000≤n)(h2:n≤1000000):bI fs e=some (aK 0 n.toNat,[],e1):=by
  unfold bI;rw [h]
  have:ug n=true:=by unfold ug;rw [decide_eq_true h1,decide_eq_true h2];rfl
  simp [bL,this]
theorem hU{ft:FT}{f:FS}(P:En→Prop)(μ:En→Nat)(hs:∀e,P e→(∃e1,ft e=some (false,e1)∧True)∨∃e1 e2,ft e=some (true,e1)∧f e1=some (.nx e2)∧P e2∧μ e2 < μ e):
    ∀(n:Nat) (e:En),P e→μ e < n→∃e0 e',e_ ft f n e=some (.nx e')∧P e0∧ft e0=some (false,e'):=by
  intro n
  induction n with
  | zero=>intro e _ h;lia
  | succ n ih=>
    intro e hp hm
    rcases hs e hp with ⟨e1,h1,_⟩ | ⟨e1,e2,h1,h2,h3,h4⟩
    · exact⟨e,e1,by unfold e_;rw [h1];rfl,hp,h1⟩
    · obtain⟨e0,e',g1,g2⟩:=ih e2 h3 (by lia)
      exact⟨e0,e',by unfold e_;rw [h1];simp only [Option.bind_some,if_true,h2];exact g1,g2⟩
theorem gv{cs:En}{ft:FT}{fe:FE}{b:PyData→Bool}{y:PyData→PyData}:∀(items:List PyData) (t:Option Sv) (acc:List PyData),(∀x∈items,ft (cs++[some (.d x)])=some (b x,cs++[some (.d x)]))→(∀x∈items,b x=true→fe (cs++[some (.d x)])=some (.d (y x),cs++[some (.d x)]))→
    acc.length+items.length≤1000000→∃t',dH (ah cs.length) ft fe items (cs++[t]) acc=some (acc++(items.filter b).map y,cs++[t'])
  | [],t,acc,_,_,_=>⟨t,by simp [dH]⟩
  | x::r,t,acc,h1,h2,hl=>by
    have hg:ah cs.length x (cs++[t])=some (cs++[some (.d x)]):=by simp [ah]
    have h1x:=h1 x (by simp)
    unfold dH
    rw [hg]
    simp only [Option.bind_some,h1x]
    cases hb:b x with
    | true=>
      simp only [if_true,h2 x (by simp) hb,Option.bind_some,nZ]
      rw [if_pos (by simp at hl;lia)]
      obtain⟨t',ih⟩:=gv (b:=b) (y:=y) r (some (.d x)) (acc++[y x]) (fun z hz=>h1 z (by simp [hz])) (fun z hz=>h2 z (by simp [hz])) (by simp at hl ⊢;lia)
      exact⟨t',by rw [ih];simp [hb]⟩
    | false=>
      simp only [Bool.false_eq_true,if_false]
      obtain⟨t',ih⟩:=gv (b:=b) (y:=y) r (some (.d x)) acc (fun z hz=>h1 z (by simp [hz])) (fun z hz=>h2 z (by simp [hz])) (by simp at hl;lia)
      exact⟨t',by rw [ih];simp [hb]⟩
theorem oh{fa:FE}{e e1:En}{xs:List PyData}(h:fa e=some (.d (.tuple xs),e1)):iq fa e=some (xs,[],e1):=by
  unfold iq;rw [h];rfl
theorem yl{fa:FE}{e e1:En}{xs:List PyData}(h:fa e=some (.l xs,e1)):iq fa e=some (xs,[],e1):=by
  unfold iq;rw [h];rfl
theorem eS{cp:List (Nat × Str)}{nT:Nat}{fi:FI}{g:FG}{ft:FT}{fe:FE}{e e1 cs:En}{t t':En}{items out:List PyData}(h1:fi e=some (items,[],e1))(hc:nK cp nT e1=cs++t)(hl:cs.length=cp.length)(h3:dH g ft fe items (nK cp nT e1) []=some (out,cs++t')):c9 cp nT fi g ft fe e=some (.l out,e1):=by
  have key:∀i x,e1[i]?=some (some (.l x))→∀k,iA cp i=some k→(cs++t')[k]?=some (some (.l x)):=by
    intro i x hi k hk
    obtain⟨s,hs⟩:=eO hk
    have hk2:k < cp.length:=(List.getElem?_eq_some_iff.mp hs).1
    have:(nK cp nT e1)[k]?=some (some (.l x)):=by
      unfold nK
      rw [List.getElem?_append_left (by simpa using hk2),List.getElem?_map,hs]
      simp [hi,Bo]
    rw [hc,List.getElem?_append_left (by lia)] at this
    rw [List.getElem?_append_left (by lia)]
    exact this
  unfold c9
  rw [h1]
  simp only [Option.bind_some,List.all_nil,if_true,h3]
  have hb:jI cp (cs++t') e1=true:=by
    unfold jI
    rw [List.all_eq_true]
    intro p hp
    match hi:e1[p.1]? with
    | none=>simp [uJ]
    | some none=>simp [uJ]
    | some (some (.d x))=>simp [uJ]
    | some (some (.n x))=>simp [uJ]
    | some (some (.l x))=>
      cases hq:iA cp p.1 with
      | none=>
        unfold iA at hq
        rw [List.findIdx?_eq_none_iff] at hq
        have:=hq p hp
        simp at this
      | some k=>simp [key p.1 x hi k hq,uJ]
  rw [if_pos hb]
  congr 2
  refine List.ext_getElem? fun i=>?_
  rw [bT]
  match hi:e1[i]? with
  | none=>rfl
  | some none=>rfl
  | some (some (.d x))=>rfl
  | some (some (.n x))=>rfl
  | some (some (.l x))=>
    cases hp:iA cp i with
    | none=>simp [hp]
    | some k=>simp [hp,key i x hi k hp]
theorem fB{α:Type}{xs:List α}{i:Int}(h0:0≤i)(h1:i < xs.length):∃x∈xs,atI xs i=some x:=by
  rw [gL h0 h1]
  exact⟨xs[i.toNat]'(by lia),List.getElem_mem _,List.getElem?_eq_getElem _⟩
theorem xA{e:En}{xs:List PyData}{i:Int}:fP e (.l xs) (.d (.int i))=(atI xs i).map .d:=rfl
theorem pz{e:En}{xs:List PyData}{i:Int}:fP e (.d (.tuple xs)) (.d (.int i))=(atI xs i).map .d:=rfl
theorem rP{e:En}{xs:List PyData}{i:Int}:fP e (.d (.list xs)) (.d (.int i))=(atI xs i).map .d:=rfl
theorem xB{e:En}{j:Nat}{xs:List PyData}{i:Int}(h:e[j]?=some (some (.l xs))):fP e (.s j) (.d (.int i))=(atI xs i).map .d:=by
  simp [fP,bS,h,bL]
theorem rS{e:En}{xs:List PyData}:g1 eE e [.d (.tuple xs)]=some (.d (.int xs.length)):=rfl
theorem pB{e:En}{xs:List PyData}:g1 eE e [.d (.list xs)]=some (.d (.int xs.length)):=rfl
theorem rQ{e:En}{xs:List PyData}:g1 eE e [.l xs]=some (.d (.int xs.length)):=rfl
theorem rR{e:En}{j:Nat}{xs:List PyData}(h:e[j]?=some (some (.l xs))):g1 eE e [.s j]=some (.d (.int xs.length)):=by
  simp [g1,eE,bS,h]
theorem mK{e:En}{j:Nat}{xs:List PyData}(h:e[j]?=some (some (.l xs))):g1 df e [.s j]=some (.d (.tuple xs)):=by
  simp [g1,df,bS,h]
theorem mJ{e:En}{xs:List PyData}:g1 df e [.l xs]=some (.d (.tuple xs)):=rfl
theorem kY{e:En}{xs:List PyData}:g1 df e [.d (.list xs)]=some (.d (.tuple xs)):=rfl
theorem mL{e:En}{xs:List PyData}:g1 df e [.d (.tuple xs)]=some (.d (.tuple xs)):=rfl
theorem xC{e:En}{xs:List PyData}{lo hi:Option Int}:Ba e (.d (.tuple xs)) lo hi=some (.d (.tuple (cutD xs lo hi))):=rfl
theorem fN{e:En}{xs ys:List PyData}(h:xs.length+ys.length≤1000000):aU e (.d (.tuple xs)) (.d (.tuple ys))=some (.d (.tuple (xs++ys))):=by
  simp [aU,rV,rM,gI,bL,mB,bS,h]
theorem yh{e:En}{i j:Int}(h:j≠0):aB e (.d (.int i)) (.d (.int j))=some (.d (.int (i.fmod j))):=by
  unfold aB;rw [iY (by simpa using h)]
theorem u_{e:En}{i j:Int}(h:j≠0)(h2:Bt 8000 j):du e (.d (.int i)) (.d (.int j))=some (.d (.int (i.fdiv j))):=by
  unfold du;rw [iY (by simp [ic.mpr h2,h])]
theorem fQ{e:En}{i j:Int}(h:tG i j=true):lP e (.d (.int i)) (.d (.int j))=some (.d (.int (i ^ j.toNat))):=by
  unfold lP;rw [iY h]
theorem iB:tG 10 18=true:=by decide
theorem gG{f g:FS}{e e1:En}(h:f e=some (.nx e1)):aA f g e=g e1:=by unfold aA;rw [h];rfl
theorem B4{ft:FT}{f g:FS}{e e1:En}(h:ft e=some (true,e1)):g_ ft f g e=f e1:=by unfold g_;rw [h];rfl
theorem B3{ft:FT}{f g:FS}{e e1:En}(h:ft e=some (false,e1)):g_ ft f g e=g e1:=by unfold g_;rw [h];rfl
def xF(i:Nat)(e:En):Nat:=match e[i]? with
  | some (some (.l xs))=>xs.length
  | _=>0
def sx(i:Nat)(e:En):Nat:=match e[i]? with
  | some (some (.d (.int k)))=>k.natAbs
  | _=>0
theorem pH{n m:Nat}(h:n < 2 ^ m)(hm:m≤4200):n < 2 ^ 4200:=Nat.lt_of_lt_of_le h (Nat.pow_le_pow_right (by decide) hm)
theorem nQ{α:Type}{a:α}{r:List α}:atI (a::r) 0=some a:=by
  rw [gL (by decide) (by simp)];rfl
theorem nR{α:Type}{a b:α}{r:List α}:atI (a::b::r) 1=some b:=by
  rw [gL (by decide) (by simp;lia)];rfl
theorem ri{α:Type}{a b c:α}{r:List α}:atI (a::b::c::r) 2=some c:=by
  rw [gL (by decide) (by simp;lia)];rfl
theorem rj{α:Type}{a b c d:α}{r:List α}:atI (a::b::c::d::r) 3=some d:=by
  rw [gL (by decide) (by simp;lia)];rfl
theorem fD{ns:List Int}{k:Int}(h0:0≤k)(h1:k < (ns.length:Int)):atI (ns.map PyData.int) k=some (.int (ns.getD k.toNat 0)):=by
  rw [gL h0 (by rw [List.length_map];exact h1),List.getElem?_map]
  have:k.toNat < ns.length:=by lia
  simp [this]
theorem xh{a b c d:PyData}:cutD [a,b,c,d] none (some 2)=[a,b]:=rfl
theorem kP{a b c d:PyData}:cutD [a,b,c,d] (some 2) none=[c,d]:=rfl
theorem kO{a b c:PyData}:cutD [a,b,c] (some 1) none=[b,c]:=rfl
theorem mn(ns:List Int):PyData.canLayAll0 (ns.map PyData.int)=true:=by
  induction ns with
  | nil=>rfl
  | cons n r ih=>simp [PyData.canLayAll0,PyData.canLay0,ih]
theorem mi{x:Int}:∀(ns:List Int),((ns.map PyData.int).any fun y=>PyData.eqv y (.int x))=ns.contains x
  | []=>rfl
  | n::r=>by
    rw [List.map_cons,List.any_cons,mi r,List.contains_cons]
    show(n==x || _)=_
    rw [show(n==x)=(x==n) by rw [Bool.eq_iff_iff];simp;exact eq_comm]
theorem eK{e:En}{x:Int}{ns:List Int}{neg:Bool}:kW neg e (.d (.int x)) (.d (.tuple (ns.map .int)))=some (.d (.bool (if neg then !ns.contains x else ns.contains x))):=by
  unfold kW
  simp only [fL,bS,Option.bind_some,mn,mi]
  simp [PyData.canLay0,PyData.depth]
theorem lM{e:En}{x a b:Int}{neg:Bool}:kW neg e (.d (.int x)) (.d (.tuple [.int a,.int b]))=some (.d (.bool (if neg then !(a==x || b==x) else(a==x || b==x)))):=by
  have h:=eK (e:=e) (x:=x) (ns:=[a,b]) (neg:=neg)
  simp only [List.map_cons,List.map_nil] at h
  rw [h]
  have:[a,b].contains x=(a==x || b==x):=by
    simp only [List.contains_cons,List.contains_nil,Bool.or_false]
    rw [show(x==a)=(a==x) by rw [Bool.eq_iff_iff];simp;exact eq_comm,show(x==b)=(b==x) by rw [Bool.eq_iff_iff];simp;exact eq_comm]
  rw [this]
theorem fK(W:bv):a9 W=.tuple [.int W.things,.tuple (W.ties.map aG),.tuple (W.pat.map .int),.int W.asks]:=rfl
end L2
namespace L2
open PySem PySem.Spec PyProof.Rows
theorem mV:∀(n:Nat) (l:List Int),l.Nodup→(∀k∈l,0≤k∧k < (n:Int))→l.length≤n
  | 0,l,_,h=>by
    cases l with
    | nil=>simp
    | cons a r=>have:=h a (by simp);lia
  | n+1,l,hd,h=>by
    have ih:=mV n (l.erase (n:Int)) (hd.erase _) fun k hk=>by
      obtain⟨h1,h2⟩:=hd.mem_erase_iff.mp hk
      have:=h k h2
      lia
    by_cases c:(n:Int)∈l
    · rw [List.length_erase_of_mem c] at ih;lia
    · rw [List.erase_of_not_mem c] at ih;lia
abbrev Std:=List Int × List Int
structure AH (W:bv) (s:Std):Prop where
  inw:∀k∈s.1,rd W k
  nd:s.1.Nodup
  tk:s.2.length≤2*s.1.length
  th:∀t∈s.2,0≤t∧t < W.things
def nxt(W:bv)(s:Std)(k:Int)(b:Bool):Std:=(bv.askd s.1 k,W.took s.2 k b)
structure Nd where
  tie:Int
  yes:Int
  no:Int
def AE(W:bv)(n:Nat)(S:Nat→Std)(i:Nat)(k:Int)(b:Bool)(l:Int):Prop:=l= -1∨(0≤l∧l < (n:Int)∧S l.toNat=nxt W (S i) k b)
structure CK (W:bv) (n:Nat) (S:Nat→Std) (i:Nat) (x:Nd):Prop where
  tie:rd W x.tie
  st:AH W (S i)
  may:W.may (S i).1 (S i).2 x.tie=true
  yes:AE W n S i x.tie true x.yes
  no:AE W n S i x.tie false x.no
def CL(W:bv)(T:List Nd)(S:Nat→Std):Prop:=∀(i:Nat) (x:Nd),T[i]?=some x→CK W T.length S i x
structure Wt where
  st:Std
  par:Int
  side:Int
def qZ(S:Nat→Std)(n:Nat)(s:Std):Nat→Std:=fun i=>if i=n then s else S i
structure DQ (W:bv) (T:List Nd) (S:Nat→Std) (ws:List Wt):Prop where
  tr:CL W T S
  wt:∀w∈ws,AH W w.st∧(w.par= -1∨∃(p:Nat) (x:Nd),w.par=(p:Int)∧T[p]?=some x∧((w.side=0∧w.st=L2.nxt W (S p) x.tie true)∨(w.side=1∧w.st=L2.nxt W (S p) x.tie false)))
  side:∀w∈ws,w.side=0∨w.side=1
end L2
namespace L2
open PySem PySem.Spec PyProof.Rows
theorem p6{α:Type}{xs:List α}{x:α}:atI (xs++[x]) (-1)=some x:=by
  unfold atI Av
  rw [if_neg (by decide),if_pos (by simp;lia)]
  simp
  rw [show(-1+((xs.length:Int)+1)).toNat=xs.length by lia]
  simp
def nm(nums:List Int)(l:Int):Int:=(atI nums l).getD (-1)
structure Ds (order:List Int) (n:Nat) (nums:List Int):Prop where
  len:nums.length=n+1
  top:nums[n]?=some (-1)
  at':∀(j:Nat) (v:Int),j < n→nums[j]?=some v→v= -1∨∃p:Nat,v=(p:Int)∧order[p]?=some (j:Int)
def sA(T:List Nd)(w:Int):Nd:=T.getD w.toNat ⟨0,0,0⟩
theorem kR{α β:Type}{f:α→β}:∀{xs:List α} {i:Nat},(xs.map f).eraseIdx i=(xs.eraseIdx i).map f
  | [],_=>by simp
  | x::r,0=>by simp
  | x::r,i+1=>by simp [kR (xs:=r) (i:=i)]
end L2
namespace L2
open PySem PySem.Spec PyProof.Rows
structure DY (S:Nat→Std) (n:Nat) (ss:List Std):Prop where
  len:ss.length=n
  at':∀(j:Nat) (s:Std),ss[j]?=some s→s.1.length≤(S j).1.length∧s.2.length≤2*s.1.length∧(∀k∈s.1,0≤k∧k < 16)∧∀t∈s.2,0≤t∧t < 12
end L2
namespace L2
open PySem PySem.Spec PyProof.Rows
structure Sz (n dep:Nat) (d:PyData):Prop where
  fl:xw d=true
  sh:d.showable=true
  dp:d.depth≤dep
  ln:d.shown.length≤n
  so:PyData.strOk d.shown=true
end L2
namespace L2
open PySem PySem.Spec PyProof.Rows
theorem pq{e:En}{i:Nat}{xs ys:List PyData}(h:e[i]?=some (some (.l xs)))(hl:xs.length+ys.length≤1000000):aU e (.s i) (.l ys)=some (.l (xs++ys)):=by
  simp [aU,rV,rM,gI,bL,mB,bS,pk,qo,h,hl]
theorem yi{e:En}{d:PyData}{n:Int}(h0:0≤n)(h1:n≤100000):gQ e (.d (.tuple [d])) (.d (.int n))=some (.d (.tuple (List.replicate n.toNat d))):=by
  have a:mI e (.d (.tuple [d])) (.d (.int n))=some (.d (.tuple (List.replicate n.toNat d))):=by
    simp [mI,bS,bL,h0,h1]
  have b:mG e (.d (.tuple [d])) (.d (.int n))=none:=by simp [mG,gI,bL]
  unfold gQ rV
  rw [b,a]
  rfl
theorem uV{xs:List PyData}:cutD xs none (some 1)=xs.take 1:=by
  unfold cutD
  rw [HT.sIx_none,show(some (1:Int))=some ((1:Nat):Int) from rfl,HT.sIx_nat,List.drop_zero,Nat.sub_zero]
  cases xs with
  | nil=>rfl
  | cons x r=>simp
def rn(T:List Nd)(ans:List Bool):Nat→Int→List (Int × Bool)
  | 0,_=>[]
  | f+1,at'=>if at' < 0 then [] else((sA T at').tie,ans.getD (sA T at').tie.toNat false)::rn T ans f (if ans.getD (sA T at').tie.toNat false=true then(sA T at').yes else(sA T at').no)
def rt(T:List Nd):Int:=if T.length=0 then -1 else 0
structure Dw (W:bv) (T:List Nd) (S:Nat→Std) (ans:List Bool) (r:List (Int × Bool)) (a:Int):Prop where
  at':a= -1∨(0≤a∧a < (T.length:Int)∧r.length≤(S a.toNat).1.length)
  eq:r++rn T ans (17 - r.length) a=rn T ans 17 (rt T)
  len:r.length≤16
  inw:∀p∈r,rd W p.1
end L2
namespace L2
open PySem PySem.Spec PyProof.Rows
abbrev Fr:=Int × Int
def tm(a b:Fr):Fr:=dF (a.1*b.1) (a.2*b.2)
def pl(a b:Fr):Fr:=dF (a.1*b.2+b.1*a.2) (a.2*b.2)
structure DU (M:Int) (f:Fr):Prop where
  pos:0 < f.2
  lo:0≤f.1
  hi:f.1≤f.2
  dv:f.2 ∣ M
structure Cr (M i:Int) (f:Fr):Prop where
  pos:0 < f.2
  lo:0≤f.1
  hi:f.1≤i*f.2
  dv:f.2 ∣ M
def bp(W:bv):List Int→Int
  | []=>1
  | k::r=>(W.tie k).bot*bp W r
def AQ(W:bv):Int:=bp W W.rng
def ch(W:bv)(k:Int)(b:Bool):Fr:=if b then((W.tie k).top,(W.tie k).bot) else((W.tie k).bot - (W.tie k).top,(W.tie k).bot)
structure DX (W:bv) (S:Nat→Std) (n:Nat) (rs:List Fr):Prop where
  len:rs.length=n
  at':∀(j:Nat) (f:Fr),rs[j]?=some f→DU (bp W (S j).1) f
structure DR (W:bv) (i:Nat) (ss:List Fr):Prop where
  len:ss.length=W.ties.length
  at':∀(j:Nat) (f:Fr),ss[j]?=some f→Cr (AQ W) (i:Int) f
end L2
namespace L2
open PySem PySem.Spec PyProof.Rows
def Al(sc:Scope)(x:Str):Bool:=match sc.names.lookup x with
  | some .local=>true
  | some .cell=>true
  | some .free=>true
  | _=>false
theorem wM{sc:Scope}{x:Str}(h:Al sc x=true):AJ sc x:=by
  unfold Al at h
  unfold AJ
  split at h
  · rename_i e;exact .inl e
  · rename_i e;exact .inr (.inl e)
  · rename_i e;exact .inr (.inr e)
  · cases h
section
variable{X:Cx}{K:PySem.W.Frag}
theorem qw(i:Nat){x:Str}{pos:Pos}(hN:X.N[i]?=some x)(hv:Al X.env.scope x=true)(hd:((x==("__debug__":Str)) || (x==("__classdict__":Str)))=false):PE X (.Name x pos) (fE K (ae i)):=qv i hN (wM hv) (Bool.or_eq_false_iff.mp hd).1 (Bool.or_eq_false_iff.mp hd).2
end
end L2
namespace L2
open PySem PySem.Spec PyProof.Rows
section
variable{X:Cx}{tg a b c:Expr}{ta:TA}{p pos p2 pos2:Pos}
end
section
variable{K:PySem.W.Frag}{σ:L2.St}
end
section
variable{X:Cx}{K:PySem.W.Frag}{tg a b c:Expr}{fs:FA}{pos p p2 pos2:Pos}
end
end L2
namespace L2
open PySem PySem.Spec PyProof.Rows
end L2
namespace L2
open PySem PySem.Spec PyProof.Rows
section
variable(P:Program)(w:World)
end
section
variable{P:Program}{w:World}{H H':Hp}{h h':Heap}{a:Addr}{o:HO}
end
section
variable{P:Program}{w:World}{H:Hp}{h h':Heap}{x e:Addr}{o':HO}
end
section
variable{fs fs' ex ex':List Addr}{H H1 H2:Hp}{h h1 h2 h':Heap}{a x e:Addr}{o:HO}
end
end L2
namespace L2
open PySem PySem.Spec PyProof.Rows
section
variable{X:Cx}{pins:List (Addr × Obj)}{σ:List (Option V)}{H H':Hp}{s:Shared}{h':Heap}
end
end L2
namespace L2
open PySem PySem.Spec PyProof.Rows
section
variable{X:Cx}
variable{a b:Expr}{ta tb:TE}{pos:Pos}
variable{tA tB':TT}{cV:List Expr}
end
end L2
namespace L2
open PySem PySem.Spec PyProof.Rows
section
variable{X:Cx}{pins:List (Addr × Obj)}{σ:St}{H:Hp}{s:Shared}{a:Addr}{xs ys:List V}
end
section
variable{X:Cx}{pins:List (Addr × Obj)}{σ:St}{H:Hp}{s:Shared}{E:Value→Shared→Prop}
end
section
variable{X:Cx}{st:Stmt}{cV:List Stmt}{t u:TS}{e:Expr}{te:TE}{pos:Pos}
end
section
variable{X:Cx}{pos:Pos}
end
section
variable{X:Cx}{pos:Pos}
end
end L2
namespace L2
open PySem PySem.Spec PyProof.Rows
section
variable{X:Cx}{tg:Expr}
end
end L2
namespace L2
open PySem PySem.Spec PyProof.Rows
section
variable{X:Cx}{a b c:Expr}{ta tb tc:TE}{pos:Pos}
end
section
variable{X:Cx}{a b c:Expr}{ta tb tc:TE}{pos:Pos}
end
end L2
namespace L2
open PySem PySem.Spec PyProof.Rows
section
variable{prog:Program}{w:World}{A:Around}{E:Value→Shared→Prop}{s:Shared}{K:PySem.W.Frag}{x dx C f:Addr}{mA:Str→Option Value}{name:Str}{v:Value}
end
section
variable{P:Program}{w:World}{H H':Hp}{h h':Heap}{a C dx:Addr}{fs fs':List (Str × V)}
end
section
variable{X:Cx}{pins:List (Addr × Obj)}{σ:St}{H:Hp}{s:Shared}{a C dx:Addr}{fs:List (Str × V)}{f:Str}{v:V}{A:Around}{E:Value→Shared→Prop}
end
section
variable{X:Cx}{o e value:Expr}{f:Str}{pos pos' tpos:Pos}{ta tv:TE}
end
section
variable{X:Cx}{pins:List (Addr × Obj)}{σ:St}{H:Hp}{s:Shared}{A:Around}{E:Value→Shared→Prop}{Q:Value→Shared→Prop}{c:Value}{b:Bool}
end
end L2
namespace L2
open PySem PySem.Spec PyProof.Rows
section
variable{X:Cx}{e:Expr}{es:List Expr}{te:TE}{t:TA}{pos:Pos}
end
section
variable{X:Cx}{pins:List (Addr × Obj)}{σ:St}{H:Hp}{s s':Shared}
end
section
variable{X:Cx}{CX:p5}{k:Nat}{f C:Addr}{fd:FuncData}{ps:List Str}{sp:Sp}{dvs:List V}{ds:List Value}{E:XK}{x m:Str}{p pos apos:Pos}{e o:Expr}{es:List Expr}{ta:TE}{t:TA}
end
section
variable{X:Cx}{CX:p5}{k:Nat}{f C:Addr}{fd:FuncData}{ps ks:List Str}{sp:Sp}{E:XK}{x m:Str}{p pos apos kpos:Pos}{e o:Expr}{es:List Expr}{kws:List Keyword}{te ta:TE}{t tk:TA}{nm:Option Str}
variable{g:List Value→List Value→List Value}{gV:List V→List V→List V}
end
end L2
namespace L2
open PySem PySem.Spec PyProof.Rows
section
variable{X:Cx}{x:Str}{p pos:Pos}{e:Expr}{es:List Expr}{t:TA}{id T:String}{r:List V→Hp→VK→Prop}
end
end L2
namespace L2
open PySem PySem.Spec PyProof.Rows
section
variable{κ:Type}[DecidableEq κ]
def m4(kvs:List (κ × V))(k:κ)(v:V):List (κ × V):=
  if (kvs.any fun kv=>decide (kv.1=k))=true then kvs.map (fun kv=>if kv.1=k then(kv.1,v) else kv) else kvs++[(k,v)]
theorem mM(kvs:List (κ × V))(k:κ)(v:V):(m4 kvs k v).length≤kvs.length+1:=by
  unfold m4
  split
  · rw [List.length_map];lia
  · rw [List.length_append,List.length_cons,List.length_nil];lia
theorem KV.any{kvs:List (κ × V)}{vs:List (κ × Value)}(r:KV kvs vs)(k:κ):(kvs.any fun kv=>decide (kv.1=k))=vs.any fun kv=>decide (kv.1=k):=by
  unfold KV at r
  induction r with
  | nil=>rfl
  | cons h t ih=>rw [List.any_cons,List.any_cons,ih,h.1]
theorem KV.repl{kvs:List (κ × V)}{vs:List (κ × Value)}(r:KV kvs vs)(k:κ){y:V}{u:Value}(ry:bh y u):
    KV (kvs.map fun kv=>if kv.1=k then(kv.1,y) else kv) (vs.map fun kv=>if kv.1=k then(kv.1,u) else kv):=by
  unfold KV at r ⊢
  induction r with
  | nil=>exact .nil
  | @cons p q ps qs h t ih=>
    rw [List.map_cons,List.map_cons]
    refine .cons ?_ ih
    obtain⟨h1,h2⟩:=h
    by_cases e:p.1=k
    · rw [if_pos e,if_pos (h1.symm.trans e)];exact⟨h1,ry⟩
    · rw [if_neg e,if_neg (fun z=>e (h1.trans z))];exact⟨h1,h2⟩
theorem KV.put{kvs:List (κ × V)}{vs:List (κ × Value)}(r:KV kvs vs)(k:κ){y:V}{u:Value}(ry:bh y u):KV (m4 kvs k y) (stored vs k u):=by
  unfold m4 stored
  rw [r.any k]
  by_cases e:(vs.any fun kv=>decide (kv.1=k))=true
  · rw [if_pos e,if_pos e];exact r.repl k ry
  · rw [if_neg e,if_neg e];exact Paired.snoc r ⟨rfl,ry⟩
end
theorem Bm{P:Program}{w:World}{k:eT}{u:Value}(r:bh (kV k) u):(dq P w).is k u=true:=by
  cases k with
  | inl i=>obtain⟨t,e⟩:=(show ∃t,u=Value.int i t from r);subst e;exact mQ P w i t
  | inr x=>obtain⟨t,e⟩:=(show ∃t,u=Value.str x t from r);subst e;exact mR P w x t
section
variable{P:Program}{w:World}{H:Hp}{h:Heap}{a:Addr}
theorem B1{u:HO}(ok:jf P w H h)(e:Rd H a u):cz P w H h a u:=e.ok ok
theorem A0{kvs:List (eT × V)}(ok:jf P w H h)(e:Rd H a (.dK kvs)):kvs.length≤sizeLine∧(a==sysModules)=false∧∃vs,KV kvs vs∧h.DictOf (dq P w) a vs:=
  show cz P w H h a (.dK kvs) from B1 ok e
theorem AZ{kvs:List (eT × V)}(ok:jf P w H h)(e:H a=some (.dK kvs)):kvs.length≤sizeLine∧(a==sysModules)=false∧∃vs,KV kvs vs∧h.DictOf (dq P w) a vs:=A0 ok (.inl e)
end
section
variable{X:Cx}{pins:List (Addr × Obj)}{σ:St}{H:Hp}{s:Shared}{a:Addr}{y v:V}{u r:Value}{o:Option V}{A:Around}{E:Value→Shared→Prop}
theorem aw.big(I:aw X pins σ H s):sysModules < s.heap.objs.size:=by
  have h:mainGlobals < s.heap.objs.size:=(I.mod.glob.keeps I.bk).lt
  exact Nat.lt_trans (by decide) h
theorem uW{h':Heap}{t':Nat}{ob:HO}(I:aw X pins σ H s)(mu:AF (H a))(hs:Heap.SameBut a s.heap h')(he:∃q,h'.get? a=some q)(new:cz X.prog X.w (aY H a ob) h' a ob):
    aw X pins σ (aY H a ob) {s with heap:=h',toks:=t'}:=
  I.write (x:=a) (e:=a) mu (.inl rfl) (fun b q hb z=>(hs.2 b hb).trans z) he new
theorem x_{P:Program}{w:World}{H':Hp}{h':Heap}{kvs:List (eT × V)}{vs:List (eT × Value)}(z:kvs.length≤sizeLine)(hd:(a==sysModules)=false)(rel:KV kvs vs)(dd:h'.DictOf (dq P w) a vs):
    cz P w H' h' a (.dK kvs):=⟨z,hd,vs,rel,dd⟩
end
section
variable{X:Cx}{pins:List (Addr × Obj)}{σ:St}{H:Hp}{s:Shared}{a:Addr}{kvs:List (eT × V)}{k:eT}{u:Value}{A:Around}{E:Value→Shared→Prop}
end
section
variable{X:Cx}{o i e value:Expr}{pos pos' tpos:Pos}{td ty tv:TE}
end
theorem mv{P:Program}{w:World}{H:Hp}(h:Heap)(hb:sysModules < h.objs.size):cz P w H (h.push {cls:=.type "dict",data:=.dict #[]}) h.objs.size (.dK []):=
  ⟨Nat.zero_le _,beq_eq_false_iff_ne.mpr (Ne.symm (Nat.ne_of_lt hb)),[],.nil,Heap.DictOf.new h⟩
def zY:TE:=fun _ H Q=>∀p,H p=none→Q (.ref p) (aY H p (.dK []))
section
variable{X:Cx}{pos:Pos}
theorem sS:PE X (.Dict [] [] pos) zY:=fun pins s σ H Q I h=>
  wpAny_Dict_empty ⟨.ref s.heap.objs.size,_,I.laid (a:=s.heap.objs.size) (o:=.dK []) (t':=s.toks) (fun _ _ q=>Heap.get?_push_of_some _ q) (Nat.le_refl _) (mv s.heap I.big),rfl,h _ (I.hok.fresh (Nat.le_refl _))⟩
end
def l6:List (TE × TE)→St→Hp→(List (V × V)→Hp→Prop)→Prop
  | [],_,H,Q=>Q [] H
  | (tk,tv)::r,σ,H,Q=>tk σ H fun x H1=>tv σ H1 fun y H2=>l6 r σ H2 fun ps H3=>Q ((x,y)::ps) H3
abbrev VV:List (V × V)→List (Value × Value)→Prop:=Paired fun p q=>bh p.1 q.1∧bh p.2 q.2
def Cp(X:Cx)(pos:Pos)(keys:List (Option Expr))(values:List Expr)(trs:List (TE × TE)):Prop:=
  ∀(pins:List (Addr × Obj)) (s:Shared) (σ:St) (H:Hp) (Q:List (V × V)→Hp→Prop),aw X pins σ H s→l6 trs σ H Q→
    wpAny (model X.prog X.w) X.A (evalPairs (pairTrees keys values X.env pos)) (fun vs s'=>∃ps H',aw X pins σ H' s'∧VV ps vs∧Q ps H') X.xe s
theorem v_{X:Cx}{pos:Pos}:Cp X pos [] [] []:=fun pins s σ H Q I h=>pairTrees_nil_walk ⟨[],H,I,.nil,h⟩
theorem tH{X:Cx}{pos:Pos}{k v:Expr}{ks:List (Option Expr)}{vs:List Expr}{tk tv:TE}{trs:List (TE × TE)}(hk:PE X k tk)(hv:PE X v tv)(hr:Cp X pos ks vs trs):
    Cp X pos (some k::ks) (v::vs) ((tk,tv)::trs):=fun pins s σ H Q I h=>
  pairTrees_cons_walk (bH (hk pins s σ H _ I h) fun u s1 ⟨x,H1,I1,rx,q1⟩=>bH (hv pins s1 σ H1 _ I1 q1) fun w2 s2 ⟨y,H2,I2,ry,q2⟩=>
    bH (hr pins s2 σ H2 _ I2 q2) fun ws s3 ⟨ps,H3,I3,rel,q3⟩=>⟨(x,y)::ps,H3,I3,.cons ⟨rx,ry⟩ rel,q3⟩)
def fY(kvs more:List (eT × V)):List (eT × V):=more.foldl (fun acc kv=>m4 acc kv.1 kv.2) kvs
theorem KV.merge:∀{more:List (eT × V)} {rs:List (eT × Value)} {kvs:List (eT × V)} {vs:List (eT × Value)},KV more rs→KV kvs vs→KV (fY kvs more) (merged vs rs):=by
  intro more rs kvs vs r
  unfold KV at r
  induction r generalizing kvs vs with
  | nil=>intro q;exact q
  | @cons p q ps qs h t ih=>
    intro r0
    have e:KV (m4 kvs p.1 p.2) (stored vs q.1 q.2):=by
      have:=r0.put p.1 h.2
      rw [←h.1];exact this
    exact ih e
theorem gJ:∀(more kvs:List (eT × V)),(fY kvs more).length≤kvs.length+more.length
  | [],kvs=>by show kvs.length≤kvs.length+0;lia
  | p::r,kvs=>by
    have h1:=gJ r (m4 kvs p.1 p.2)
    have h2:=mM kvs p.1 p.2
    show(fY (m4 kvs p.1 p.2) r).length≤_
    rw [List.length_cons];lia
theorem jJ{P:Program}{w:World}:∀{kvs:List (eT × V)} {ws:List (Value × Value)},VV (kvs.map fun kv=>(kV kv.1,kv.2)) ws→∃rs,Carries (dq P w) ws rs∧KV kvs rs
  | [],_,r=>by rw [List.map_nil] at r;cases r;exact⟨[],True.intro,.nil⟩
  | p::kvs,_,r=>by
    rw [List.map_cons] at r
    cases r with
    | @cons a b as bs h t=>
      obtain⟨rs,c,q⟩:=jJ (P:=P) (w:=w) t
      obtain⟨b1,b2⟩:=b
      exact⟨(p.1,b2)::rs,⟨Bm h.1,rfl,c⟩,.cons ⟨rfl,h.2⟩ q⟩
def B9(trs:List (TE × TE)):TE:=fun σ H Q=>∀p,H p=none→l6 trs σ (aY H p (.dK [])) fun ps H2=>H2 p=some (.dK [])∧∃kvs:List (eT × V),ps=kvs.map (fun kv=>(kV kv.1,kv.2))∧kvs.length≤15∧Q (.ref p) (aY H2 p (.dK (fY [] kvs)))
theorem vP{X:Cx}{pos:Pos}{keys:List (Option Expr)}{values:List Expr}{trs:List (TE × TE)}(h:Cp X pos keys values trs)(hall:keys.all (·.isSome)=true)(hl:keys.length=values.length)(h0:keys≠[])
    (h15:keys.length≤15):PE X (.Dict keys values pos) (B9 trs):=by
  intro pins s σ H Q I q
  have hn:=I.hok.fresh (Nat.le_refl s.heap.objs.size)
  have I1:=I.laid (a:=s.heap.objs.size) (o:=.dK []) (h':=s.heap.push {cls:=.type "dict",data:=.dict #[]}) (t':=s.toks) (fun _ _ q=>Heap.get?_push_of_some _ q) (Nat.le_refl _) (mv s.heap I.big)
  refine wpAny_Dict_walk (knd:=dq X.prog X.w) hall hl h0 h15 (bH (h pins _ σ _ _ I1 (q _ hn)) fun ws s2 ⟨ps,H2,I2,rel,e,kvs,ep,lk,q2⟩=>?_)
  subst ep
  obtain⟨rs,c,rk⟩:=jJ (P:=X.prog) (w:=X.w) rel
  obtain⟨z,hd,vs0,r0,dd⟩:=AZ I2.hok e
  cases r0
  refine⟨rs,c,dd,fun h' dd' hs=>⟨.ref s.heap.objs.size,_,?_,rfl,q2⟩⟩
  have hz:(fY [] kvs).length≤sizeLine:=by
    have h1:=gJ kvs []
    rw [List.length_nil] at h1
    rw [sizeLine_eq];lia
  have he:∃q,h'.get? s.heap.objs.size=some q:=let ⟨q,_,_,hq,_⟩:=dd';⟨q,hq⟩
  exact uW I2 (by rw [e];exact True.intro) hs he (x_ hz hd (rk.merge .nil) dd')
section
variable{X:Cx}{pins:List (Addr × Obj)}{σ:St}{H:Hp}{s:Shared}{a:Addr}{y d:V}{u r:Value}{o:Option V}{A:Around}{E:Value→Shared→Prop}
end
section
variable{X:Cx}{o e f:Expr}{apos cpos:Pos}{td ty tx:TE}
end
section
variable{X:Cx}{pins:List (Addr × Obj)}{σ:St}{H:Hp}{s:Shared}{a:Addr}{kvs:List (eT × V)}{A:Around}{E:Value→Shared→Prop}
end
section
variable{X:Cx}{pins:List (Addr × Obj)}{σ:St}{H:Hp}{s:Shared}{a:Addr}{y:V}{u:Value}{A:Around}{E:Value→Shared→Prop}
end
end L2
namespace Att
open PySem PySem.W PySem.Calls PyProof.Rows
section
variable{prog:Program}{w:World}{A:Around}{E:Value→Shared→Prop}{s:Shared}{K:Frag}
end
end Att
namespace L2
open PySem PySem.Spec PyProof.Rows
end L2
namespace L2
open PySem PySem.Spec PyProof.Rows
end L2
namespace L2
open PySem PySem.Spec PyProof.Rows
section
variable{P:Program}{w:World}{K:PySem.W.Frag}{mg:Str→Option Value}{base:Heap}
end
section
variable{X:Cx}
end
section
variable{κ:Type}[DecidableEq κ]
end
end L2
namespace L2
open PySem PySem.Spec PyProof.Rows
def xQ:PyData→String
  | .none=>"NoneType"
  | .bool _=>"bool"
  | .int _=>"int"
  | .str _=>"str"
  | .tuple _=>"tuple"
  | .list _=>"list"
  | .dict _=>"dict"
def qM(t T:String):Bool:=t==T || (t=="bool"&&T=="int")
def r8(T:String)(d:PyData):Bool:=qM (xQ d) T
def gP(T:String):En→Rv→Option Rv:=fun _ r=>match r with
  | .d x=>some (.d (.bool (r8 T x)))
  | _=>some (.d (.bool (r8 T (.list []))))
section
variable{X:Cx}{K:PySem.W.Frag}{a:Expr}{fa:FE}{pos p p2:Pos}
def CM(K:PySem.W.Frag)(H:Hp):V→String→Prop
  | .non,t=>t="NoneType"
  | .bl _,t=>t="bool"
  | .int _,t=>t="int"
  | .str _,t=>t="str"
  | .ref a,t=>(t="tuple"∧∃xs,bK K H a xs)∨(t="list"∧∃xs,ce K H a xs)∨(t="dict"∧∃m,H a=some (.dK m))
  | _,_=>False
theorem rD{T:String}:cW X (.builtin "isinstance") (fun xs H Q=>∃x t b,xs=[x,.ty T]∧CM X.K H x t∧PySem.W.kitOne X.K (.type t) (.type T)=some b∧Q (.bl b) H):=by
  intro pins s σ H xs us Q I r h
  obtain⟨x,t,b,rfl,ht,hk,q⟩:=h
  obtain⟨u1,u2,rfl,r1,r2⟩:∃u1 u2,us=[u1,u2]∧bh x u1∧bh (.ty T) u2:=by
    cases r with
    | cons p q=>cases q with
      | cons p' q'=>cases q';exact⟨_,_,rfl,p,p'⟩
  cases r2
  have q':∀tk,EP X pins σ Q (.bool b) {s with toks:=tk}:=fun tk=>⟨.bl b,H,I.tok _,rfl,q⟩
  cases x with
  | non=>cases (show u1=Value.none from r1);cases (show t=_ from ht);exact PySem.W.kia_one PySem.W.kitx_none I.kIn True.intro hk (fun z=>nomatch z) q'
  | bl y=>cases (show u1=Value.bool y from r1);cases (show t=_ from ht);exact PySem.W.kia_one PySem.W.kitx_bool I.kIn True.intro hk (fun z=>nomatch z) q'
  | int i=>obtain⟨tt,rfl⟩:=r1;cases (show t=_ from ht);exact PySem.W.kia_one PySem.W.kitx_int I.kIn True.intro hk (fun z=>nomatch z) q'
  | str y=>obtain⟨tt,rfl⟩:=r1;cases (show t=_ from ht);exact PySem.W.kia_one PySem.W.kitx_str I.kIn True.intro hk (fun z=>nomatch z) q'
  | ref a=>
    cases (show u1=Value.ref a from r1)
    rcases ht with ⟨rfl,xs,hs⟩ | ⟨rfl,xs,hs⟩ | ⟨rfl,m,hs⟩
    · obtain⟨its,rv,pl,hz⟩:=I.tuple hs
      obtain⟨o,h1,h2⟩:=pl.typeIs
      exact PySem.W.kia_one PySem.W.kitx_tuple I.kIn ⟨o,h1,h2⟩ hk (fun z=>nomatch z) q'
    · obtain⟨its,rv,pl,hz⟩:=I.list hs
      obtain⟨o,h1,h2⟩:=pl.isList.typeIs
      exact PySem.W.kia_one PySem.W.kitx_list I.kIn ⟨o,h1,h2⟩ hk (fun z=>nomatch z) q'
    · obtain⟨_,_,vs,_,pp⟩:=(show cz X.prog X.w H s.heap a (.dK m) from I.hok a _ hs)
      obtain⟨o,es,ep,h1,h2,_⟩:=pp
      exact PySem.W.kia_one PySem.W.kitx_dict I.kIn ⟨o,h1,h2.1⟩ hk (fun z=>nomatch z) q'
  | _=>exact False.elim ht
theorem sV{x:Str}{T:String}(hg:Gl X x)(hm:X.mg x=none)(hv:bootBuiltins x=some (.type T))(hn:x≠"__name__")(hd:(x==("__debug__":Str))=false):PE X (.Name x pos) (tC (.ty T)):=fun pins s σ H Q I h=>
  eF I hg hm hv ⟨.ty T,H,I,rfl,h⟩ hn hd
theorem yy{t T:String}(ht:t∈["NoneType","bool","int","str","tuple","list","dict"])(hT:T∈["int","bool","tuple","str"]):PySem.W.kitOne K (.type t) (.type T)=some (qM t T):=by
  simp only [List.mem_cons,List.not_mem_nil,or_false] at ht hT
  rcases ht with rfl | rfl | rfl | rfl | rfl | rfl | rfl<;>rcases hT with rfl | rfl | rfl | rfl<;>rfl
theorem wH(d:PyData):xQ d∈["NoneType","bool","int","str","tuple","list","dict"]:=by cases d<;>simp [xQ]
theorem Ah{F H:Hp}{d:PyData}{v:V}(h:DA K F d v)(s:av F H):CM K H v (xQ d):=by
  have h:=DA.mono s h
  cases d with
  | none=>rw [gw.mp h];rfl
  | bool b=>rw [cn.mp h];rfl
  | int b=>rw [cx.mp h];rfl
  | str b=>rw [nY.mp h];rfl
  | tuple ds=>obtain⟨a,xs,rfl,h1,_⟩:=cF.mp h;exact .inl ⟨rfl,xs,h1⟩
  | list ds=>obtain⟨a,xs,rfl,h1,_⟩:=cN.mp h;exact .inr (.inl ⟨rfl,xs,h1⟩)
  | dict m=>simp only [DA] at h;obtain⟨a,m,rfl,h1,_⟩:=h;exact .inr (.inr ⟨rfl,_,h1⟩)
theorem ph{f:FE}{σ:L2.St}{H:Hp}{Q Q':VK}(h:fE K f σ H Q)(m:∀v H1,Q v H1→Q' v H1):fE K f σ H Q':=by
  obtain⟨F,e,r,e',R,hf,q⟩:=h
  exact⟨F,e,r,e',R,hf,fun F' H' v x R' A=>m _ _ (q F' H' v x R' A)⟩
theorem Bj{T:String}:Ar K (fun v H Q=>∃t,t∈["NoneType","bool","int","str","tuple","list","dict"]∧CM K H v t∧Q (.bl (qM t T)) H) (gP T):=by
  intro σ H0 F H e x z v Q R A hg q
  unfold gP at hg
  cases x with
  | d d=>
    cases hg
    exact⟨xQ d,wH d,Ah A R.sm,q F H _ (cZ.refl _ _ _ _) R cT⟩
  | l xs=>
    cases hg
    obtain⟨l,vs,rfl,h1,h2,h3,h4⟩:=A
    exact⟨"list",by simp,.inr (.inl ⟨rfl,vs,ce.of h3⟩),q F H _ (cZ.refl _ _ _ _) R cT⟩
  | s i=>
    cases hg
    obtain⟨h1,xs,h2⟩:=A
    obtain⟨l,vs,h3,h4,h5,h6⟩:=R.own i xs h2
    rw [h1] at h3;cases h3
    exact⟨"list",by simp,.inr (.inl ⟨rfl,vs,ce.of h5⟩),q F H _ (cZ.refl _ _ _ _) R cT⟩
theorem lc{x:Str}{T:String}(hK:X.K=K)(hT:T∈["int","bool","tuple","str"])(hg:Gl X "isinstance")(hm:X.mg "isinstance"=none)(hgT:Gl X x)(hmT:X.mg x=none)(DB:bootBuiltins x=some (.type T))(hn:x≠"__name__")(hd:(x==("__debug__":Str))=false)
    (ha:PE X a (fE K fa))(he:starEach [a,.Name x p2] X.env=(false,eval a X.env)::starEach [.Name x p2] X.env)(hpl:(backTo pos (starEach [.Name x p2] X.env)).any (·.1)=false):
    PE X (.Call (.Name "isinstance" p) [a,.Name x p2] [] pos) (fE K (md (gP T) fa)):=
  (j3 (rD (T:=T)) hg hm boot_isinstance (gE ha (gE (sV hgT hmT DB hn hd) j2) he) (by decide) (by decide) he hpl).mono fun σ H Q h=>by
    subst hK
    have h1:=oR (Bj (T:=T)) h
    refine ph h1 fun v H1 ⟨t,ht,k,q⟩=>?_
    exact⟨v,t,_,rfl,k,yy ht hT,q⟩
end
end L2
namespace L2
open PySem PySem.Spec PyProof.Rows
section
variable{X:Cx}{K:PySem.W.Frag}
end
end L2
namespace L2
open PySem PySem.Spec PyProof.Rows
section
variable{X:Cx}{K:PySem.W.Frag}{σ:L2.St}{F H:Hp}{e:En}{pos p1 p2:Pos}
theorem a7.newD(R:a7 K F H σ e){p:Addr}{m:List (eT × V)}(hp:H p=none):a7 K (aY F p (.dK m)) (aY H p (.dK m)) σ e∧cZ σ F H e (aY F p (.dK m)) (aY H p (.dK m)) e:=by
  have hF:=R.freeF hp
  obtain⟨R1,X1⟩:=R.same (av.new hp (o:=.dK m))
  obtain⟨R2,s2⟩:=R1.freeze (p:=p) hF ar (R1.notOwn ar (fun _ z=>nomatch z))
  refine⟨R2,⟨s2,X1.dom,fun a ws h n _=>?_,X1.lst,X1.tmp,X1.shp,X1.ow⟩⟩
  have z:a≠p:=fun z=>by rw [z,hp] at n;cases n
  rw [aE z];exact h
def ki(m:List (Int × Int)):FE:=fun e=>some (.d (.dict (m.map fun p=>(PyData.int p.1,PyData.int p.2))),e)
theorem tU:PE X (.Dict [] [] pos) (fE K (ki [])):=sS.mono fun σ H Q h=>by
  obtain⟨F,e,z,e2,R,hf,q⟩:=h
  cases hf
  intro p hp
  obtain⟨R3,X3⟩:=R.newD (m:=[]) hp
  exact q _ _ _ X3 R3 (by simp only [bP,DA];exact⟨p,[],rfl,ar,rfl⟩)
theorem m6{i j:Int}{k1 k2}:PE X (.Dict [some (.Constant (.int i) k1 p1)] [.Constant (.int j) k2 p2] pos) (fE K (ki [(i,j)])):=
  (vP (tH (@ot X i k1 p1) (@ot X j k2 p2) v_) rfl rfl (by simp) (by simp)).mono fun σ H Q h=>by
  obtain⟨F,e,z,e2,R,hf,q⟩:=h
  cases hf
  intro p hp
  refine⟨ar,[(Sum.inl i,.int j)],rfl,by simp,?_⟩
  have e1:aY (aY H p (.dK [])) p (.dK (fY [] [((Sum.inl i:eT),V.int j)]))=aY H p (.dK (fY [] [((Sum.inl i:eT),V.int j)])):=by
    funext a;by_cases h:a=p
    · subst h;rw [ar,ar]
    · rw [aE h,aE h,aE h]
  rw [e1]
  obtain⟨R3,X3⟩:=R.newD (m:=fY [] [((Sum.inl i:eT),V.int j)]) hp
  exact q _ _ _ X3 R3 (by simp only [bP,DA];exact⟨p,[(i,j)],rfl,ar,rfl⟩)
end
end L2
namespace L2
open PySem PySem.Spec PyProof.Rows
section
variable{X:Cx}{K:PySem.W.Frag}{a b c d:Expr}{ta tb tc td:TE}{fa fb fc fd:FE}{pos:Pos}
end
end L2
namespace L2
open PySem PySem.Spec PyProof.Rows
section
variable{X:Cx}{K:PySem.W.Frag}{a b:Expr}{es:List Expr}{fa fb:FE}{fs:FA}{pos p apos:Pos}
end
end L2
namespace L2
open PySem PySem.Spec PyProof.Rows
section
variable{X:Cx}{K:PySem.W.Frag}{a b:Expr}{fa fb:FE}{fs:FA}{pos p p2 p3:Pos}
end
end L2
namespace L2
open PySem PySem.Spec PyProof.Rows
def bq(W:bv)(as:List Int):Int:=bp W (W.rng.filter fun k=> !as.contains k)
def wI(l:Nat):Int:=1000*(2 ^ (16 - l) - 1)
structure DO (W:bv) (k:Int) (as:List Int) (y n:Fr):Prop where
  y:Cr (bq W (bv.askd as k)) (wI (as.length+1)) y
  n:Cr (bq W (bv.askd as k)) (wI (as.length+1)) n
  len:as.length≤15
  inw:rd W k
  new:k∉as
def lk(ws:List Fr)(l:Int):Fr:=if l= -1 then(0,1) else ws.getD l.toNat (0,1)
structure DZ (W:bv) (S:Nat→Std) (n:Nat) (ws:List Fr):Prop where
  len:ws.length=n
  at':∀(j:Nat) (f:Fr),ws[j]?=some f→Cr (bq W (S j).1) (wI (S j).1.length) f
end L2
namespace L2
open PySem PySem.Spec PyProof.Rows
theorem de{cs:En}{g:FG}{ft:FT}{fe:FE}{b:PyData→Bool}{y:PyData→PyData}{u:PyData→En}(n:Nat):∀(items:List PyData) (t:En) (acc:List PyData),t.length=n→(∀x∈items,∀t:En,t.length=n→g x (cs++t)=some (cs++u x))→(∀x∈items,(u x).length=n)→
    (∀x∈items,ft (cs++u x)=some (b x,cs++u x))→(∀x∈items,b x=true→fe (cs++u x)=some (.d (y x),cs++u x))→acc.length+items.length≤1000000→
    ∃t',t'.length=n∧dH g ft fe items (cs++t) acc=some (acc++(items.filter b).map y,cs++t')
  | [],t,acc,h,_,_,_,_,_=>⟨t,h,by simp [dH]⟩
  | x::r,t,acc,h,hg,hu,h1,h2,hl=>by
    have h1x:=h1 x (by simp)
    unfold dH
    rw [hg x (by simp) t h]
    simp only [Option.bind_some,h1x]
    cases hb:b x with
    | true=>
      simp only [if_true,h2 x (by simp) hb,Option.bind_some,nZ]
      rw [if_pos (by simp at hl;lia)]
      obtain⟨t',e1,ih⟩:=de (b:=b) (y:=y) (u:=u) n r (u x) (acc++[y x]) (hu x (by simp)) (fun z hz=>hg z (by simp [hz])) (fun z hz=>hu z (by simp [hz])) (fun z hz=>h1 z (by simp [hz])) (fun z hz=>h2 z (by simp [hz])) (by simp at hl ⊢;lia)
      exact⟨t',e1,by rw [ih];simp [hb]⟩
    | false=>
      simp only [Bool.false_eq_true,if_false]
      obtain⟨t',e1,ih⟩:=de (b:=b) (y:=y) (u:=u) n r (u x) acc (hu x (by simp)) (fun z hz=>hg z (by simp [hz])) (fun z hz=>hu z (by simp [hz])) (fun z hz=>h1 z (by simp [hz])) (fun z hz=>h2 z (by simp [hz])) (by simp at hl;lia)
      exact⟨t',e1,by rw [ih];simp [hb]⟩
end L2
namespace L2
open PySem PySem.Spec PyProof.Rows
section
variable{X:Cx}{K:PySem.W.Frag}{a:Expr}{fa:FE}{pos p pos2 p2:Pos}
def qY(ns:List Int):List Int:=ns.foldl step_dedup []
theorem fM(ns:List Int):firstMet (fun i=>ns.getD i 0) ns.length=qY ns:=by
  unfold firstMet qY
  congr 1
  refine List.ext_getElem (by simp) fun i h1 h2=>?_
  simp at h1
  simp [h1]
theorem nB:isSubtype (.type "tuple") (.type "set")=pure false:=by rw [isSubtype_type];kernel_rfl
theorem kf:isSubtype (.type "tuple") (.type "frozenset")=pure false:=by rw [isSubtype_type];kernel_rfl
theorem lF{prog:Program}{w:World}{A:Around}{E:Value→Shared→Prop}{s:Shared}{l:Addr}{items:Array Value}{ns:List Int}{Q:Value→Shared→Prop}(hh:A.handled=none)(hl:s.heap.IsTuple l items)(hi:IntsAre items.toList ns)(hb:items.size+1 < scanBound)
    (h:∀(h':Heap) (tk:Nat),h'.SetOf (intKind prog w) s.heap.objs.size (fun k'=>(firstMet (fun i=>ns.getD i 0) items.size).any (· ==k')) (firstMet (fun i=>ns.getD i 0) items.size).length→(∀b o,b < s.heap.objs.size→s.heap.get? b=some o→h'.get? b=some o)→Q (.ref s.heap.objs.size) {s with heap:=h',toks:=tk}):
    wpAny (model prog w) A (call (.type "set") [.ref l]) Q E s:=by
  obtain⟨c,tl,hmro⟩:=F.called_set.mro;have hmade:=F.called_set.made;have hsub:=F.called_set.sub
  refine wpAny_call (codeAny_of_tree ?_);show wpAny _ _ (callAny (.type "set") _) _ _ _
  refine wpAny_pure ⟨Code.quiet_builtin _ (by decide+kernel),codeAny_builtin F.entry_type_call ?_⟩;rw [Around.under_plain (weight_type_call_type "set" [.ref l] []) rfl]
  have h1:=F.called_set.notType;have h2:=F.called_set.canCreate;have hct:=F.typeCall_set_1 (.ref l);repeat (any_goals (first | assumption | wp_step))
  let nw:Bool→Obj:=fun led=>{cls:=.type "set",dict:=none,data:=.set #[] 0 (.fresh 0 0 led)}
  refine codeAny_mono (code_set_new_1 (.ref l) (E:=E) (Q₁:=fun obj s₁=>∃led:Bool,obj=.ref s.heap.objs.size∧s₁={s with heap:=s.heap.push (nw led)}) fun led=>⟨led,rfl,rfl⟩) fun r s₁ hr=>?_
  cases r with
  | error e=>exact hr
  | ok fl=>
    cases fl with
    | ret obj=>
      obtain⟨led,rfl,rfl⟩:=hr;have hS:(s.heap.push (nw led)).get? s.heap.objs.size=some (nw led):=Heap.get?_push_size _ rfl
      have hT:Shared.TypeIs {s with heap:=s.heap.push (nw led)} (.ref s.heap.objs.size) "set":=⟨_,hS,rfl⟩
      have hli:=F.called_set.init.lookup;have hbi:=F.called_set.init.bind (.ref s.heap.objs.size);repeat (any_goals (first | assumption | wp_step))
      refine codeAny_mono (codeAny_call_builtin (R:=wants (fun r s₂=>r=.none∧∃h' tk,s₂={s with heap:=h',toks:=tk}∧h'.SetOf (intKind prog w) s.heap.objs.size (fun k'=>(firstMet (fun i=>ns.getD i 0) items.size).any (· ==k')) (firstMet (fun i=>ns.getD i 0) items.size).length∧(∀b o,b < s.heap.objs.size→s.heap.get? b=some o→h'.get? b=some o)) E) F.called_set.init.plain F.entry_set_init (check_set_init_1 hT ?_)) fun r₂ s₂ hr₂=>?_
      · obtain⟨ol,hol,hcl,nl,hdl⟩:=hl;obtain⟨ocls,odict,odata,oslots⟩:=ol;simp only at hcl hdl;subst hcl;subst hdl
        have hol':(s.heap.push (nw led)).get? l=some {cls:=.type "tuple",dict:=odict,data:=.seq items nl,slots:=oslots}:=Heap.get?_push_of_some _ hol
        have hsls:=nB;have hslf:=kf;have hne:(Value.type "tuple"==Value.type "dict")=false:=by decide
        have hl1:(s.heap.push (nw led)).IsTuple l items:=⟨_,hol',rfl,nl,rfl⟩
        unfold Builtin.«set.__init__» noKeywords Builtin.Frozenset.updateFrom;generalize hPI:pyIter=PI
        wp_walk
        subst hPI
        refine wpAny_pyIter_tuple hl1 ?_;refine wpAny_bind (wpAny_runValue ?_);have hlS:l < s.heap.objs.size:=Heap.lt_size hol
        have hh3:A.in1.in1.in1.handled=none:=by simp [hh]
        have hneI:l≠(s.heap.push (nw led)).objs.size:=by rw [Heap.size_push];exact Nat.ne_of_lt (Nat.lt_succ_of_lt hlS)
        have hSf:s.heap.objs.size∉[(s.heap.push (nw led)).objs.size,l]:=by
          rw [Heap.size_push];simp only [List.mem_cons,List.mem_singleton,List.not_mem_nil,or_false,not_or];exact⟨Nat.ne_of_lt (Nat.lt_succ_self _),Nat.ne_of_gt hlS⟩
        have hval:∀(i:Nat) (v:Value),items[i]?=some v→∃t,v=.int ((fun i=>ns.getD i 0) i) t:=fun i v hv=>IntsAre.int_at hi i v (by rw [Array.getElem?_toList];exact hv)
        refine codeAny_set_update_loopS ((Walks.tuple hh3 _ l hneI items).toS) s.heap.objs.size hSf (fun i=>ns.getD i 0) hval hb (items.size - 0) 0 _ (by lia) (Nat.zero_le _) ⟨⟨_,Heap.get?_push_size _ rfl,rfl,rfl⟩,(hl1.at fun o e=>Heap.get?_push_of_some _ e)⟩ ?hS0 ?hR
        case hS0=>exact SetOf_congr ((setObjOf_fresh (knd:=intKind prog w) led).setOf (Heap.get?_push_of_some _ hS) (by unfold scanBound;lia)) (fun _=>rfl) rfl
        case hR=>
          intro s' hm hS';obtain⟨h',g',d',tk',os'⟩:=s';have eg:g'=s.gens:=hm.gens;have ed:d'=s.drawn:=hm.drawn;have eo:os'=s.os:=hm.os
          subst eg;subst ed;subst eo;show wpAny _ _ _ _ _ _
          refine wpAny_pure ?_;show wpAny _ _ (ret Value.none) _ _ _;refine wpAny_pure ⟨rfl,h',tk',rfl,hS',fun b o hb e=>?_⟩
          have hb1:b≠s.heap.objs.size:=Nat.ne_of_lt hb;have hb2:b≠(s.heap.push (nw led)).objs.size:=by rw [Heap.size_push];exact Nat.ne_of_lt (Nat.lt_succ_of_lt hb)
          exact hm.heap b o (by simp only [List.mem_cons,List.mem_singleton,List.not_mem_nil,or_false,not_or];exact⟨hb1,hb2⟩) (Heap.get?_push_of_some _ (Heap.get?_push_of_some _ e))
      · cases r₂ with
        | error e=>exact hr₂
        | ok fl₂=>
          cases fl₂ with
          | ret r=>obtain⟨rfl,h',tk,rfl,hS',hk'⟩:=hr₂;(repeat (any_goals (first | assumption | wp_step)));exact h _ _ hS' hk'
          | next=>exact hr₂.elim
          | brk=>exact hr₂.elim
          | cont=>exact hr₂.elim
    | next=>exact hr.elim
    | brk=>exact hr.elim
    | cont=>exact hr.elim
def BX(K:PySem.W.Frag):List V→Hp→VK→Prop:=fun xs H Q=>∃(l:Addr) (ns:List Int),xs=[.ref l]∧(ce K H l (ns.map V.int)∨bK K H l (ns.map V.int))∧ns.length≤1000∧∀q S,H q=none→Q (.ref q) (aY H q (.set S (qY ns).length))
theorem qa(hc:X.calm=true):cW X (.type "set") (BX X.K):=by
  intro pins s σ H xs us Q I r h
  obtain⟨l,ns,rfl,hs,hn,q⟩:=h
  obtain⟨u,rfl,ru⟩:=fZ r
  cases ru
  have hf:H s.heap.objs.size=none:=I.hok.fresh (Nat.le_refl _)
  rcases hs with hs | hs
  · obtain⟨its,rv,pl,hz⟩:=I.list hs
    have hl:=rv.length
    rw [List.length_map] at hl
    have e1:its.toArray.size=ns.length:=by simp [hl]
    refine call_set_list (ns:=ns) (I.ok.hd hc) pl.isList (eh rv) (by rw [e1];unfold scanBound;lia) fun h' tk hS hk=>?_
    rw [e1,fM] at hS
    exact⟨.ref s.heap.objs.size,_,I.laid (o:=.set _ _) (fun b o e=>hk b o (Heap.lt_size e) e) (Nat.le_refl _) hS,rfl,q _ _ hf⟩
  · obtain⟨its,rv,pl,hz⟩:=I.tuple hs
    have hl:=rv.length
    rw [List.length_map] at hl
    have e1:its.toArray.size=ns.length:=by simp [hl]
    refine lF (ns:=ns) (I.ok.hd hc) pl (eh rv) (by rw [e1];unfold scanBound;lia) fun h' tk hS hk=>?_
    rw [e1,fM] at hS
    exact⟨.ref s.heap.objs.size,_,I.laid (o:=.set _ _) (fun b o e=>hk b o (Heap.lt_size e) e) (Nat.le_refl _) hS,rfl,q _ _ hf⟩
theorem p8:cW X (.builtin "len") (fun xs H Q=>∃q S n,xs=[.ref q]∧H q=some (.set S n)∧n≤1000∧Q (.int n) H):=by
  intro pins s σ H xs us Q I r h
  obtain⟨p,S,n,rfl,hs,hn,q⟩:=h
  obtain⟨u,rfl,ru⟩:=fZ r
  cases ru
  obtain⟨o,es,ep,t,ho,hex,hd,_,_,_,hfit,rfl⟩:=(show cz X.prog X.w H s.heap p (.set S n) from I.hok p _ hs)
  exact call_len_set ho hex hd hfit (by lia) ⟨.int es.size,H,I.tok _,⟨_,rfl⟩,q⟩
def gy:En→Rv→Option Rv:=fun e x=>(bS e x).bind fun z=>(jU z.2).bind fun ns=>if ns.length≤1000 then some (.d (.int (qY ns).length)) else none
theorem n_(ns:List Int):(qY ns).length≤ns.length:=by
  have:=firstMet_length_le (fun i=>ns.getD i 0) ns.length
  rw [fM] at this
  exact this
theorem se:Ar K (fun v H Q=>BX K [v] H fun w H1=>∃q S n,w=.ref q∧H1 q=some (.set S n)∧n≤1000∧Q (.int n) H1) gy:=by
  intro σ H0 F H e x z v Q R A hg q
  unfold gy at hg
  obtain⟨⟨b,ds⟩,h1,hg⟩:=Option.bind_eq_some_iff.mp hg
  obtain⟨ns,h2,hg⟩:=Option.bind_eq_some_iff.mp hg
  split at hg
  case isFalse=>cases hg
  case isTrue hl=>
  cases hg
  obtain⟨l,ws,rfl,d1,s1⟩:=bF R A h1
  have e1:ds=ns.map .int:=jV h2
  subst e1
  have e2:=aH.ints.mp d1
  subst e2
  refine⟨l,ns,rfl,?_,hl,fun p S hp=>?_⟩
  · cases b with
    | true=>exact .inl s1
    | false=>exact .inr s1
  · obtain⟨R1,X1⟩:=R.same (av.new hp (o:=.set S (qY ns).length))
    exact⟨p,S,_,rfl,ar,Nat.le_trans (n_ ns) hl,q F _ _ X1 R1 g9⟩
theorem tO(hc:X.calm=true)(hK:X.K=K)(hg:Gl X "len")(hm:X.mg "len"=none)(hgs:Gl X "set")(hms:X.mg "set"=none)(ha:PE X a (fE K fa))(hs:starEach [a] X.env=(false,eval a X.env)::starEach [] X.env)(hpl:(backTo pos2 (starEach [] X.env)).any (·.1)=false)
    (hs2:starEach [.Call (.Name "set" p2) [a] [] pos2] X.env=(false,eval (.Call (.Name "set" p2) [a] [] pos2) X.env)::starEach [] X.env)(hpl2:(backTo pos (starEach [] X.env)).any (·.1)=false):
    PE X (.Call (.Name "len" p) [.Call (.Name "set" p2) [a] [] pos2] [] pos) (fE K (md gy fa)):=
  (j3 p8 hg hm PySem.boot_len (gE (k_ (qa hc) hgs hms PyProof.Rows.boot_set (gE ha j2 hs) (by decide) (by decide) hs hpl) j2 hs2) (by decide) (by decide) hs2 hpl2).mono fun σ H Q h=>by
    subst hK
    refine ph (oR se h) fun v H1 ⟨l,ns,e,h1,h2,h3⟩=>?_
    refine⟨l,ns,e,h1,h2,fun q S hq=>?_⟩
    obtain⟨q',S',n,e1,e2,e3,e4⟩:=h3 q S hq
    exact⟨q',S',n,by rw [e1],e2,e3,e4⟩
end
end L2
namespace L2
open PySem PySem.Spec PyProof.Rows
section
variable{X:Cx}{K:PySem.W.Frag}{a:Expr}{fa:FE}
end
end L2
namespace L2
open PySem PySem.Spec PyProof.Rows
abbrev Rn:=List (Int × Bool)
def u9(R:Rn):List Int:=R.map (·.1)
def xi(W:bv)(R:Rn):List Int:=(R.filter (·.2)).flatMap fun r=>[(W.tie r.1).one,(W.tie r.1).other]
structure DV (W:bv) (R:Rn) (asked taken:List Int):Prop where
  pa:asked.Perm (u9 R)
  pt:taken.Perm (xi W R)
  inw:∀k∈u9 R,rd W k
  nd:(u9 R).Nodup
  nk:(xi W R).Nodup
  bd:∀t:Int,0≤t→t < W.things→W.many (u9 R) t≤W.pat.getD t.toNat 0
  ak:(R.length:Int)≤W.asks
  sa:asked.Pairwise (· ≤·)
  st:taken.Pairwise (· ≤·)
theorem kQ:∀(ns acc:List Int),ns.Nodup→(∀x∈ns,x∉acc)→(ns.foldl step_dedup acc).length=acc.length+ns.length
  | [],acc,_,_=>by simp
  | x::r,acc,h1,h2=>by
    have c:acc.any (· ==x)=false:=by
      rw [List.any_eq_false]
      intro y hy z
      have:y=x:=by simpa using z
      exact h2 x (by simp) (this ▸ hy)
    simp only [List.foldl_cons]
    rw [show step_dedup acc x=acc++[x] by unfold step_dedup;rw [c];rfl,kQ r (acc++[x]) (List.nodup_cons.mp h1).2 fun y hy z=>?_]
    · simp;lia
    · rcases List.mem_append.mp z with z | z
      · exact h2 y (by simp [hy]) z
      · simp at z;exact(List.nodup_cons.mp h1).1 (z ▸ hy)
theorem uY{ns:List Int}(h:ns.Nodup):(qY ns).length=ns.length:=by
  have:=kQ ns [] h (fun x _ z=>by cases z)
  simpa [qY] using this
theorem ye{e:En}{i:Nat}{x:Int}{ns:List Int}{neg:Bool}(h:e[i]?=some (some (.l (ns.map .int)))):kW neg e (.d (.int x)) (.s i)=some (.d (.bool (if neg then !ns.contains x else ns.contains x))):=by
  have:=eK (e:=e) (x:=x) (ns:=ns) (neg:=neg)
  unfold kW at this ⊢
  simp only [fL,bS,h,Option.bind_some] at this ⊢
  exact this
end L2
namespace L2
open PySem PySem.Spec PyProof.Rows
section
variable{prog:Program}{w:World}{A:Around}{R:Result→Shared→Prop}
end
def zZ(l:Addr)(wi:TI)(g:TG)(tc:TT)(te:TE)(σ:L2.St)(H:Hp)(N:L2.St→Hp→Prop):Prop:=
  wi σ H fun J H1=>∃W:Nat→Nat→L2.St→Hp→Prop,(∃m,W 0 m σ H1)∧∀i m σ' H',W i m σ' H'→
    (J.stop i H'∧N σ' H')∨(J.go i H'∧∃N2:L2.St→Hp→Prop,(∀σ2 H2,N2 σ2 H2→∃m',m' < m∧W (i+1) m' σ2 H2)∧
      ∀x H2,J.yld i H' x H2→g x σ' H2 fun σ2 H3=>tc σ2 H3 fun b H4=>if b=true then te σ2 H4 fun v H5=>∃ys,H5 l=some (.lst ys)∧ys.length < sizeLine∧N2 σ2 (aY H5 l (.lst (ys++[v]))) else N2 σ2 H4)
structure Dg (cp:List (Nat × Str)) (nT:Nat) (wi:TI) (g:TG) (tc:TT) (wi2:TI) (g2:TG) (tc2:TT) (te:TE) (σ:L2.St) (H:Hp) (Q:VK):Prop where
  go:wi σ H fun J H1=>∀l,H1 l=none→
  ∃W:Nat→Nat→L2.St→Hp→Prop,(∃m,W 0 m (eQ cp nT σ) (aY H1 l (.lst [])))∧∀i m σ' H',W i m σ' H'→
    (J.stop i H'∧Q (.ref l) H')∨(J.go i H'∧∃N:L2.St→Hp→Prop,(∀σ2 H2,N σ2 H2→∃m',m' < m∧W (i+1) m' σ2 H2)∧
      ∀x H2,J.yld i H' x H2→g x σ' H2 fun σ2 H3=>tc σ2 H3 fun b H4=>if b=true then zZ l wi2 g2 tc2 te σ2 H4 N else N σ2 H4)
section
variable{K:PySem.W.Frag}{F H:Hp}{σ:L2.St}{e:En}{cp:List (Nat × Str)}{nT:Nat}
end
section
variable{X:Cx}{K:PySem.W.Frag}{pos:Pos}
end
section
variable{X:Cx}{K:PySem.W.Frag}{pos:Pos}
variable{o:Expr}{fo:FE}{apos cpos:Pos}
end
end L2
namespace L2
open PySem PySem.Spec PyProof.Rows
section
variable{X:Cx}{K:PySem.W.Frag}
def D2:List Int→Int
  | []=>0
  | x::r=>r.foldl max x
end
end L2
namespace L2
open PySem PySem.Spec PyProof.Rows
structure Eb (f:Fr):Prop where
  pos:0 < f.2
  cop:Int.gcd f.1 f.2=1
abbrev Pg:=List Int × Int
def D3(t:fx)(p:Pg):Bool:= !p.1.contains t.one&& !p.1.contains t.other
def CQ(t:fx)(p:Pg):Pg:=(p.1++[t.one,t.other],p.2+t.worth)
def D5(ps:List Pg)(t:fx):List Pg:=ps++(ps.filter (D3 t)).map (CQ t)
def D4(ts:List fx):List Pg:=ts.foldl D5 [([],0)]
structure Du (k:Nat) (ps:List Pg):Prop where
  ne:ps≠[]
  len:ps.length≤2 ^ k
  pt:∀p∈ps,p.1.length≤2*k∧0≤p.2∧p.2≤1000*(k:Int)
def DB(ts:List fx):Int:=D2 ((D4 ts).map (·.2))
end L2
namespace L2
open PySem PySem.Spec PyProof.Rows
end L2
namespace L2
open PySem PySem.Spec PyProof.Rows
section
variable{prog:Program}{w:World}{A:Around}{E:Value→Shared→Prop}{s:Shared}
end
section
variable{X:Cx}{a:Expr}{ta:TA}{p p2 pos pos2:Pos}
variable{K:PySem.W.Frag}{fs:FA}{p3:Pos}
end
end L2
namespace L2
open PySem PySem.Spec PyProof.Rows
def Bh:PyData→Bool
  | .int _=>true
  | _=>false
def bo(lo hi:Int):PyData→Bool
  | .int i=>decide (lo≤i)&&decide (i≤hi)
  | _=>false
theorem eW{lo hi:Int}:∀{ds:List PyData},ds.all (bo lo hi)=true→∃ns:List Int,ds=ns.map .int∧∀x∈ns,lo≤x∧x≤hi
  | [],_=>⟨[],rfl,fun _ h=>by cases h⟩
  | d::r,h=>by
    rw [List.all_cons,Bool.and_eq_true] at h
    obtain⟨ns,rfl,hn⟩:=eW h.2
    cases d with
    | int i=>
      have h1:=h.1
      simp only [bo,Bool.and_eq_true,decide_eq_true_eq] at h1
      refine⟨i::ns,rfl,fun x hx=>?_⟩
      rcases List.mem_cons.mp hx with rfl | hx
      · exact h1
      · exact hn x hx
    | _=>simp [bo] at h
theorem iS{lo hi:Int}:∀(ns:List Int),(ns.map PyData.int).all (bo lo hi)=ns.all fun i=>decide (lo≤i)&&decide (i≤hi)
  | []=>rfl
  | x::r=>by simp only [List.map_cons,List.all_cons,iS r,bo]
theorem rH:∀(ns acc:List Int),(ns.foldl step_dedup acc).length≤acc.length+ns.length
  | [],acc=>by simp
  | x::r,acc=>by
    have:=rH r (step_dedup acc x)
    have h2:(step_dedup acc x).length≤acc.length+1:=by unfold step_dedup;split<;>simp
    simp only [List.foldl_cons,List.length_cons]
    lia
theorem mr:∀(ns acc:List Int),(ns.foldl step_dedup acc).length=acc.length+ns.length→ns.Nodup∧∀x∈ns,x∉acc
  | [],acc,_=>⟨List.nodup_nil,fun x h=>by cases h⟩
  | x::r,acc,h=>by
    simp only [List.foldl_cons,List.length_cons] at h
    have hl:=rH r (step_dedup acc x)
    by_cases c:(acc.any fun y=>y==x)=true
    · have:step_dedup acc x=acc:=by unfold step_dedup;rw [if_pos c]
      rw [this] at h hl
      lia
    · have e:step_dedup acc x=acc++[x]:=by unfold step_dedup;rw [if_neg c]
      rw [e] at h
      obtain⟨h1,h2⟩:=mr r (acc++[x]) (by rw [h];simp;lia)
      have hx:x∉r:=fun z=>h2 x z (by simp)
      refine⟨List.nodup_cons.mpr ⟨hx,h1⟩,fun y hy=>?_⟩
      rcases List.mem_cons.mp hy with rfl | hy
      · simpa using c
      · exact fun z=>h2 y hy (by simp [z])
theorem uX{ns:List Int}:(qY ns).length=ns.length↔ ns.Nodup:=⟨fun h=>(mr ns [] (by simpa [qY] using h)).1,uY⟩
def fv(many:Int):List Int→List PyData→Bool
  | _,[]=>true
  | pre,.int i::r=>bo 0 (many - 1) (.int i)&&(!pre.contains i&&fv many (pre++[i]) r)
  | _,_::_=>false
theorem l8{many:Int}:∀(ns pre:List Int),fv many pre (ns.map .int)=((ns.all fun i=>decide (0≤i)&&decide (i≤many - 1))&&decide (ns.Nodup∧∀x∈ns,x∉pre))
  | [],pre=>by simp [fv]
  | x::r,pre=>by
    simp only [List.map_cons,fv,l8 r,List.all_cons,bo]
    rw [Bool.eq_iff_iff]
    simp only [Bool.and_eq_true,decide_eq_true_eq,List.nodup_cons,List.mem_append,List.mem_singleton,not_or,Bool.not_eq_true',List.contains_eq_mem,decide_eq_false_iff_not,List.mem_cons,forall_eq_or_imp]
    constructor
    · rintro⟨a,b,c,d,e⟩
      exact⟨⟨a,c⟩,⟨fun h=>(e x h).2.1 rfl,d⟩,b,fun y hy=>(e y hy).1⟩
    · rintro⟨⟨a,c⟩,⟨d1,d2⟩,b,e⟩
      exact⟨a,b,c,d2,fun y hy=>⟨e y hy,fun z=>d1 (z ▸ hy),by simp⟩⟩
theorem iN{many:Int}:∀{ds:List PyData} {pre:List Int},fv many pre ds=true→ds.all (bo 0 (many - 1))=true
  | [],_,_=>rfl
  | .int i::r,pre,h=>by
    simp only [fv,Bool.and_eq_true] at h
    rw [List.all_cons,h.1,iN h.2.2];rfl
  | .none::_,_,h=>by simp [fv] at h
  | .bool _::_,_,h=>by simp [fv] at h
  | .str _::_,_,h=>by simp [fv] at h
  | .list _::_,_,h=>by simp [fv] at h
  | .tuple _::_,_,h=>by simp [fv] at h
  | .dict _::_,_,h=>by simp [fv] at h
def uL(many:Int):PyData→Bool
  | .tuple ds=>fv many [] ds
  | _=>false
theorem iW{α:Type}(p:α→Bool):∀(ds:List α),iU (ds.map fun d=>PyData.bool (p d))=some (ds.map p)
  | []=>rfl
  | d::r=>by simp [iU,iW p r]
theorem my{α:Type}{e:En}(p:α→Bool)(ds:List α):g1 (eL kU) e [.l (ds.map fun d=>.bool (p d))]=some (.d (.bool (ds.all p))):=by
  simp [g1,eL,bS,kU,iW p,List.all_map]
theorem rO{α:Type}{e:En}(p:α→Bool)(ds:List α):g1 (eL mz) e [.l (ds.map fun d=>.bool (p d))]=some (.d (.bool (ds.any p))):=by
  simp [g1,eL,bS,mz,iW p,List.any_map]
theorem lN{e:En}{ns:List Int}(h:ns.length≤1000):gy e (.d (.tuple (ns.map .int)))=some (.d (.int (qY ns).length)):=by
  simp [gy,bS,dZ,h]
theorem jM{α:Type}:∀(l:List α) (i:Nat) (h:i < l.length),(l[i]::l.eraseIdx i).Perm l
  | x::r,0,_=>.refl _
  | x::r,i+1,h=>(List.Perm.swap x _ _).trans ((jM r i (by simpa using h)).cons x)
  | [],_,h=>by simp at h
theorem cut_len{xs:List PyData}{lo hi:Option Int}:(cutD xs lo hi).length≤xs.length:=by
  unfold cutD
  rw [List.length_take,List.length_drop]
  lia
theorem iX{g:FG}{ft:FT}{fe:FE}(P:Nat→En→Prop)(R:PyData→Prop):∀(items:List PyData) (k:Nat) (e:En) (acc:List PyData),(∀i x e,items[i]?=some x→P (k+i) e→∃e1 r d e2,g x e=some e1∧ft e1=some (true,e1)∧fe e1=some (r,e2)∧nZ r=some d∧R d∧P (k+i+1) e2)→P k e→acc.length+items.length≤1000000→
    ∃out e',dH g ft fe items e acc=some (acc++out,e')∧out.length=items.length∧(∀d∈out,R d)∧P (k+items.length) e'
  | [],k,e,acc,_,h,_=>⟨[],e,by simp [dH],rfl,(fun _ h=>by cases h),h⟩
  | x::r,k,e,acc,hs,h,hl=>by
    obtain⟨e1,v,d,e2,h1,h2,h3,h3',h4,h5⟩:=hs 0 x e rfl h
    simp only [List.length_cons] at hl
    obtain⟨out,e',h6,h7,h8,h9⟩:=iX P R r (k+1) e2 (acc++[d]) (fun i y e hy hp=>by
      have:=hs (i+1) y e (by simpa using hy) (by rw [show k+(i+1)=k+1+i by lia];exact hp)
      rw [show k+(i+1)+1=k+1+i+1 by lia] at this
      exact this) (by simpa using h5) (by simp;lia)
    refine⟨d::out,e',?_,by simp [h7],fun y hy=>?_,by rw [List.length_cons,show k+(r.length+1)=k+1+r.length by lia];exact h9⟩
    · unfold dH
      simp only [h1,h2,h3,h3',Option.bind_some,if_true]
      rw [if_pos (by lia),h6]
      simp
    · rcases List.mem_cons.mp hy with rfl | hy
      · exact h4
      · exact h8 y hy
theorem lw{cp:List (Nat × Str)}{nT:Nat}{fi:FI}{g:FG}{ft:FT}{fe:FE}{e e1 eo:En}{items out:List PyData}(h1:fi e=some (items,[],e1))(h3:dH g ft fe items (nK cp nT e1) []=some (out,eo))(hb:jI cp eo e1=true):c9 cp nT fi g ft fe e=some (.l out,iO (iA cp) eo e1):=by
  unfold c9
  rw [h1]
  simp only [Option.bind_some,List.all_nil,if_true,h3]
  rw [if_pos hb]
end L2
namespace L2
open PySem PySem.Spec PyProof.Rows
mutual
def wt:PyData→Nat
  | .list xs=>uG xs+1
  | .tuple xs=>uG xs+1
  | .dict _=>1
  | .none=>1
  | .bool _=>1
  | .int _=>1
  | .str _=>1
def uG:List PyData→Nat
  | []=>0
  | x::r=>wt x+uG r
end
structure D_ (d:PyData) (k:Nat):Prop where
  lay:d.canLay0=true
  sh:d.showable=true
  dp:d.depth≤k
  ln:d.shown.length+2≤104*wt d
  so:PyData.strOk d.shown=true
end L2
namespace L2
open PySem PySem.Spec PyProof.Rows
section
variable{X:Cx}{K:PySem.W.Frag}
variable{a b:Expr}{fa fb:FE}{pos:Pos}
end
end L2
namespace L2
open PySem PySem.Spec PyProof.Rows
def tx(s:Str):List Nat:=s.cps.toList
end L2
namespace L2
open PySem PySem.Spec PyProof.Rows
end L2
namespace L2
open PySem PySem.Spec PyProof.Rows
end L2
namespace L2
open PySem PySem.Spec PyProof.Rows
section
variable{X:Cx}{K:PySem.W.Frag}{es:List Expr}{k0:Nat}{tp:Pos}{a b:Expr}{fs:FA}{p pos:Pos}
end
end L2
namespace L2
open PySem PySem.Spec PyProof.Rows
def D1(x:Nd)(b:Bool):Int:=if b=true then x.yes else x.no
def xG(T:List Nd)(i:Nat)(b:Bool):Int:=match T[i]? with
  | some x=>D1 x b
  | none=> -1
def CN(T:List Nd):Prop:=∀(i j:Nat) (a b:Bool),xG T i a=xG T j b→xG T i a≠ -1→i=j∧a=b
def Dp(w:Wt):Int × Int:=(w.par,w.side)
structure Ea (T:List Nd) (ws:List Wt):Prop where
  unq:CN T
  rng:∀i a,xG T i a= -1∨(0 < xG T i a∧xG T i a < (T.length:Int))
  free:∀w∈ws,w.par= -1∨(0≤w.par∧w.par < (T.length:Int)∧xG T w.par.toNat (w.side==0)= -1)
  dst:(ws.map Dp).Nodup
  side:∀w∈ws,w.side=0∨w.side=1
structure Ec (T:List Nd) (w0 ws order:List Int):Prop where
  nd:(order++ws).Nodup
  par:∀v∈order++ws,v=0∨∃u∈order,∃b,xG T u.toNat b=v∧v≠ -1
  fst:(order=[]∧ws=w0)∨order[0]?=some 0
end L2
namespace L2
open PySem PySem.Spec PyProof.Rows
section
variable{prog:Program}{w:World}{A:Around}{E:Value→Shared→Prop}{s:Shared}
end
section
variable{X:Cx}{tg a:Expr}{ta:TA}{p pos:Pos}
end
section
variable{X:Cx}{K:PySem.W.Frag}{σ:L2.St}{tg a:Expr}{fs:FA}{p pos:Pos}
end
end L2
namespace L2
open PySem PySem.Spec PyProof.Rows
section
variable{X:Cx}{a k:Expr}{p2 pos:Pos}{fa fk:FE}{K:PySem.W.Frag}
theorem ox(n:Nat):Builtin.Slice.slicePlaces ((n:Int) - 1) (-1) (-1)=n:=by
  unfold Builtin.Slice.slicePlaces
  rw [if_neg (by decide),show(- -1:Int)=1 from rfl]
  split<;>lia
theorem mw{α β:Type}{f g:α→Option β}:∀{l:List α},(∀x∈l,f x=g x)→l.filterMap f=l.filterMap g
  | [],_=>rfl
  | x::r,h=>by rw [List.filterMap_cons,List.filterMap_cons,h x (by simp),mw fun y hy=>h y (by simp [hy])]
theorem tD(xs:Array Value):((List.range xs.size).filterMap fun(m:Nat)=>xs[((xs.size:Int) - 1+(m:Int)*(-1)).toNat]?).toArray=xs.toList.reverse.toArray:=by
  have e:(List.range xs.size).filterMap (fun(m:Nat)=>xs[((xs.size:Int) - 1+(m:Int)*(-1)).toNat]?)=((List.range xs.size).map fun k=>xs.size - 1 - k).filterMap (xs[·]?):=by
    rw [List.filterMap_map]
    refine mw fun m hm=>?_
    have:=List.mem_range.mp hm
    show xs[_]?=xs[xs.size - 1 - m]?
    congr 1
    lia
  rw [e,PySem.W.krv_range,List.filterMap_reverse,PySem.W.krv_all]
section
variable{prog:Program}{w:World}{A:Around}{E:Value→Shared→Prop}{s:Shared}
theorem je{sl:Addr}{t:Tok}{n:Nat}{Q:Int × Int × Nat→Shared→Prop}(hs:s.heap.IsSliceOf sl .none .none (.int (-1) t))(h:Q ((n:Int) - 1, -1,n) s):wpAny (model prog w) A (Builtin.Slice.sliceApplied (.ref sl) (pure (n:Int))) Q E s:=by
  obtain⟨os,hos,hcs,hds⟩:=id hs
  unfold Builtin.Slice.sliceApplied Builtin.Slice.sliceFields
  refine wpAny_bind (wpAny_bind (wpAny_field hos hds (x:=.none) rfl (wpAny_bind (wpAny_field hos hds (x:=.none) rfl (wpAny_bind (wpAny_field hos hds (x:=.int (-1) t) rfl (wpAny_pure ?_)))))))
  refine wpAny_bind (HT.slicePart_ (.int (-1) t) ?_)
  show wpAny _ _ (if ((-1:Int)==0)=true then _ else _) _ _ s
  rw [if_neg (by decide)]
  refine wpAny_bind (HT.slicePart_ .none (wpAny_bind (HT.slicePart_ .none (wpAny_bind (wpAny_pure ?_)))))
  show wpAny _ _ (pure ((n:Int) - 1,(-1:Int),Builtin.Slice.slicePlaces ((n:Int) - 1) (-1) (-1))) _ _ s
  rw [ox]
  exact wpAny_pure h
theorem ip{t sl:Addr}{items:Array Value}{tk:Tok}{Q:Value→Shared→Prop}(ht:IsTup s.heap t items)(hs:s.heap.IsSliceOf sl .none .none (.int (-1) tk))
    (h:Q (.ref s.heap.objs.size) {s with heap:=s.heap.push {cls:=.type "tuple",data:=.seq items.toList.reverse.toArray}})(hsz:items.size≤sizeLine):wpAny (model prog w) A (getItem (.ref t) (.ref sl)) Q E s:=by
  have htake:sizeOk (.seq items.toList.reverse.toArray):=by
    show items.toList.reverse.toArray.size≤sizeLine
    rw [List.size_toArray,List.length_reverse,Array.length_toList]
    exact hsz
  obtain⟨os,hos,hcs,hds⟩:=id hs
  have hTs:s.TypeIs (.ref sl) "slice":=⟨os,hos,hcs⟩
  unfold getItem
  try with_reducible refine wpAny_holding ?_
  first | refine wpAny_bind (wpAny_pure ?_) | skip
  refine wpAny_bind (wpAny_sequenceKey ht.typeIs (by decide) ?_)
  refine wpAny_bind (wpAny_callSpecial?_slot (name:=Str.ofString "__getitem__") ht.typeIs PyProof.Rows.slot_tuple_getitem
    (wpAny_call_entry PyProof.Rows.slot_tuple_getitem ht.typeIs entry_tuple_getitem ?_ (args_tuple_getitem _ _)))
  show wpAny _ _ (Builtin.Tuple.tupleItemsOf (.ref t) >>= _) _ _ s
  refine wpAny_bind (tupleItemsOf_ ht ?_)
  refine wpAny_bind (wpAny_typeOf hTs ?_)
  rw [if_pos (by decide)]
  refine wpAny_bind (je hs ?_)
  have hno:¬((((items.size:Int) - 1)==0&&(-1:Int)==1&&items.size==items.size)=true):=by
    intro q
    rw [Bool.and_eq_true,Bool.and_eq_true] at q
    have q1:((-1:Int)==1)=true:=q.1.2
    exact absurd q1 (by decide)
  show wpAny _ _ (if (((items.size:Int) - 1)==0&&(-1:Int)==1&&items.size==items.size)=true then _ else _) _ _ s
  rw [if_neg hno,tD]
  first
    | exact wpAny_bind (m:=Builtin.Tuple.tupleExact _) (wpAny_newObj_type (wpAny_pure ⟨_,rfl,wpAny_pure h⟩) htake)
    | exact wpAny_bind (m:=Builtin.Tuple.tupleExact _) (wpAny_newObj_type (wpAny_bind (wpAny_pure (wpAny_pure ⟨_,rfl,wpAny_pure h⟩))) htake)
    | exact wpAny_bind (wpAny_bind (m:=Builtin.Tuple.tupleExact _) (wpAny_newObj_type (wpAny_pure (wpAny_pure ⟨_,rfl,wpAny_pure h⟩)) htake))
    | exact wpAny_bind (wpAny_bind (m:=Builtin.Tuple.tupleExact _) (wpAny_newObj_type (wpAny_pure ⟨_,rfl,wpAny_pure h⟩) htake))
end
def D7(K:PySem.W.Frag)(te tk:TE):TE:=fun σ H Q=>te σ H fun x H1=>tk σ H1 fun y H2=>y=.int (-1)∧((∃a xs,x=.ref a∧ce K H2 a xs∧∀p,H2 p=none→Q (.ref p) (aY H2 p (.lst xs.reverse)))∨∃a xs,x=.ref a∧bK K H2 a xs∧∀p,H2 p=none→Q (.ref p) (aY H2 p (.tup xs.reverse)))
theorem BI{te tk:TE}(he:PE X a te)(hk:PE X k tk):PE X (.Subscript a (.Slice none none (some k) p2) pos) (D7 X.K te tk):=by
  intro pins s σ H Q I h
  refine Subscript_ (bH (he pins s σ H _ I h) fun v s1 ⟨x,H1,I1,r1,q1⟩=>?_)
  refine wpAny_Slice ?_
  rw [evalPart_none]
  refine wpAny_pure (wpAny_pure ?_)
  refine bH (hk pins s1 σ H1 _ I1 q1) fun vk s3 ⟨y,H3,I3,rk,e,q⟩=>?_
  subst e
  obtain⟨t,rfl⟩:∃t,vk=.int (-1) t:=rk
  have I4:aw X pins σ H3 {s3 with heap:=s3.heap.push {cls:=.type "slice",data:=.fields #[.none,.none,.int (-1) t]}}:=I3.kept (t':=s3.toks) fun b ob q=>Heap.get?_push_of_some _ q
  rcases q with ⟨b,xs,ex,hx,q⟩ | ⟨b,xs,ex,hx,q⟩
  · subst ex
    cases r1
    obtain⟨its,r,ht,hz⟩:=I4.list hx
    have hlen:=r.length
    show wpAny (model X.prog X.w) X.A (subscriptTail a (.Slice none none (some k) p2) (.ref b) (.ref s3.heap.objs.size)) (EP X pins σ Q) X.xe {s3 with heap:=s3.heap.push {cls:=.type "slice",data:=.fields #[.none,.none,.int (-1) t]}}
    refine tail_any (T:="list") ht.isList.typeIs slot_list_getitem.lookup ?_ (by with_unfolding_all rfl)
    refine wpAny_getItem_list_slice ht.isList (Heap.IsSliceOf.new ..) .none .none (.int (-1) t) (by decide) ?_ (by rw [List.size_toArray]<;>lia)
    rw [PySem.W.krv_pick]
    refine⟨.ref _,_,I4.laid (t':=s3.toks) (o:=.lst xs.reverse) (fun b ob q=>Heap.get?_push_of_some _ q) (Nat.le_refl _) ?_,rfl,q _ (I4.hok.fresh (Nat.le_refl _))⟩
    exact⟨by rw [List.length_reverse];exact hz,_,0,r.reverse,Heap.get?_push_size _ rfl⟩
  · subst ex
    cases r1
    obtain⟨its,r,ht,hz⟩:=I4.tuple hx
    have hlen:=r.length
    show wpAny (model X.prog X.w) X.A (subscriptTail a (.Slice none none (some k) p2) (.ref b) (.ref s3.heap.objs.size)) (EP X pins σ Q) X.xe {s3 with heap:=s3.heap.push {cls:=.type "slice",data:=.fields #[.none,.none,.int (-1) t]}}
    refine tail_any (T:="tuple") ht.typeIs slot_tuple_getitem.lookup ?_ (by with_unfolding_all rfl)
    refine ip ht (Heap.IsSliceOf.new ..) ?_ (by rw [List.size_toArray]<;>lia)
    refine⟨.ref _,_,I4.laid (t':=s3.toks) (o:=.tup xs.reverse) (fun b ob q=>Heap.get?_push_of_some _ q) (Nat.le_refl _) ?_,rfl,q _ (I4.hok.fresh (Nat.le_refl _))⟩
    exact⟨by rw [List.length_reverse];exact hz,_,r.reverse,hV.new _ _⟩
def CT(e:En)(x y:Rv):Option Rv:=match y with
  | .d (.int i)=>if i= -1 then(bS e x).bind fun p=>some (if p.1=true then .l p.2.reverse else .d (.tuple p.2.reverse)) else none
  | _=>none
def AD(fa fk:FE):FE:=fun e=>(fa e).bind fun p=>(fk p.2).bind fun k=>(CT k.2 p.1 k.1).map fun z=>(z,k.2)
theorem lI:∀{F:Hp} {ds:List PyData} {vs:List V},aH K F ds vs→aH K F ds.reverse vs.reverse
  | F,[],vs,h=>by simp only [aH] at h;subst h;exact aH.nil
  | F,d::ds,vs,h=>by
    simp only [aH] at h
    obtain⟨v,ws,rfl,h1,h2⟩:=h
    rw [List.reverse_cons,List.reverse_cons]
    exact(lI h2).append (aH.one h1)
theorem BP(he:PE X a (fE X.K fa))(hk:PE X k (fE X.K fk)):PE X (.Subscript a (.Slice none none (some k) p2) pos) (fE X.K (AD fa fk)):=(BI he hk).mono fun σ H Q h=>by
  obtain⟨F,e,z,e',R,hf,q⟩:=h
  unfold AD at hf
  obtain⟨⟨x,e1⟩,h1,hf⟩:=Option.bind_eq_some_iff.mp hf
  obtain⟨⟨y,e2⟩,h2,hf⟩:=Option.bind_eq_some_iff.mp hf
  obtain⟨z',h4,hf⟩:=Option.map_eq_some_iff.mp hf
  cases hf
  refine⟨F,e,x,e1,R,h1,fun F1 H1 v X1 R1 A1=>⟨F1,e1,y,_,R1,h2,fun F2 H2 u X2 R2 A2=>?_⟩⟩
  unfold CT at h4
  split at h4
  · rename_i i hy
    have hy:y=.d (.int i):=hy
    subst hy
    by_cases hi:i= -1
    case neg=>rw [if_neg hi] at h4;cases h4
    rw [if_pos hi] at h4
    subst hi
    obtain⟨⟨b,xs⟩,h5,h4⟩:=Option.bind_eq_some_iff.mp h4
    cases b with
    | false=>
      cases h4
      obtain⟨p,vs,rfl,d1,s1⟩:=bF R2 (A1.ext X2) h5
      refine⟨by first | exact A2 | cases A2;rfl,.inr ⟨p,vs,rfl,s1,fun t ht=>?_⟩⟩
      obtain⟨R4,X4⟩:=R2.newT (vs:=vs.reverse) ht
      exact q _ _ _ ((X1.trans X2).trans X4) R4 (cF.mpr ⟨t,_,rfl,.inl (.inl ar),(lI d1).mono X4.sf⟩)
    | true=>
      cases h4
      obtain⟨p,vs,rfl,d1,s1⟩:=bF R2 (A1.ext X2) h5
      refine⟨by first | exact A2 | cases A2;rfl,.inl ⟨p,vs,rfl,s1,fun t ht=>?_⟩⟩
      obtain⟨R4,X4,hF,no⟩:=R2.newL (vs:=vs.reverse) ht
      exact q _ _ _ ((X1.trans X2).trans X4) R4 ⟨t,_,rfl,(X1.trans X2).dom _ ht,hF,ar,lI d1,no⟩
  · cases h4
theorem C'(hK:X.K=K)(he:PE X a (fE K fa))(hk:PE X k (fE K fk)):PE X (.Subscript a (.Slice none none (some k) p2) pos) (fE K (AD fa fk)):=by subst hK;exact BP he hk
end
end L2
namespace L2
open PySem PySem.Spec PyProof.Rows
section
variable{X:Cx}{a b:Expr}{ta:TA}{p p2 pos pos2:Pos}{K:PySem.W.Frag}{fs:FA}
end
section
variable{X:Cx}{o i e:Expr}{fo fi:FE}{tpos pos:Pos}{K:PySem.W.Frag}
end
end L2
namespace L2
open PySem PySem.Spec PyProof.Rows
section
variable{X:Cx}{K:PySem.W.Frag}
def zL(K:PySem.W.Frag)(neg:Bool):R2:=fun x y H Q=>∃a b xs,x=.ref a∧y=.ref b∧ce K H a xs∧ce K H b []∧Q (.bl (if neg then !xs.isEmpty else xs.isEmpty)) H
theorem yR(hu:X.A.units < cLine):dC X (compareOp .Eq) (zL X.K false):=by
  intro pins s σ H x y v u Q I rx ry h
  exact yQ hu pins s σ H x y v u Q I rx ry h
theorem yY(hu:X.A.units < cLine):dC X (compareOp .NotEq) (zL X.K true):=by
  intro pins s σ H x y v u Q I rx ry h
  obtain⟨a,b,xs,rfl,rfl,ha,hb,q⟩:=h
  cases rx
  cases ry
  obtain⟨its,r,p,hz⟩:=I.list ha
  obtain⟨its2,r2,p2,hz2⟩:=I.list hb
  cases r2
  cases r with
  | nil=>
    refine SeqAt.RcNeAt.lists (e:=fun _=>true) p.isList p2.isList rfl hu (fun j h1 h2=>by simp at h1) X.prog X.w X.xe _ ?_
    exact⟨.bl false,H,I,rfl,q⟩
  | cons r rr=>
    refine SeqAt.RcNeAt.lists_lengths p.isList p2.isList (by simp) hu X.prog X.w X.xe _ ?_
    exact⟨.bl true,H,I,rfl,q⟩
def lL(neg:Bool):En→Rv→Rv→Option Rv:=fun e x y=>(bS e x).bind fun a=>(bS e y).bind fun b=>if a.1=true∧b.1=true∧b.2.isEmpty=true then some (.d (.bool (if neg then !a.2.isEmpty else a.2.isEmpty))) else none
theorem xk{neg:Bool}:en K (zL K neg) (lL neg):=by
  intro σ H0 F H e x y z v u Q R A B hg q
  unfold lL at hg
  obtain⟨⟨b1,xs⟩,h1,hg⟩:=Option.bind_eq_some_iff.mp hg
  obtain⟨⟨b2,ys⟩,h2,hg⟩:=Option.bind_eq_some_iff.mp hg
  split at hg
  case isFalse=>cases hg
  case isTrue hl=>
  cases hg
  obtain⟨z1,z2,z3⟩:=hl
  dsimp only at z1 z2 z3
  subst z1 z2
  have z4:ys=[]:=List.isEmpty_iff.mp z3
  subst z4
  obtain⟨p,vs,rfl,d1,s1⟩:=bF R A h1
  obtain⟨p',vs',rfl,d2,s2⟩:=bF R B h2
  have e2:vs'=[]:=by simpa only [aH] using d2
  subst e2
  rw [if_pos rfl] at s1 s2
  refine⟨p,p',vs,rfl,rfl,s1,s2,?_⟩
  have e1:vs.isEmpty=xs.isEmpty:=by
    have:=d1.len
    cases xs with
    | nil=>cases vs with
      | nil=>rfl
      | cons=>simp at this
    | cons=>cases vs with
      | nil=>simp at this
      | cons=>rfl
  rw [e1]
  exact q F H _ (cZ.refl _ _ _ _) R cT
theorem AS{k:Nat}(hK:X.K=K)(hr:b_ k X.A):fy X K .Eq (lL false):=⟨_,hK ▸ yR hr.units0,xk⟩
theorem xg{k:Nat}(hK:X.K=K)(hr:b_ k X.A):fy X K .NotEq (lL true):=⟨_,hK ▸ yY hr.units0,xk⟩
theorem og{e:En}{xs:List PyData}{neg:Bool}:lL neg e (.l xs) (.l [])=some (.d (.bool (if neg then !xs.isEmpty else xs.isEmpty))):=by
  simp [lL,bS]
end
end L2
namespace L2
open PySem PySem.Spec PyProof.Rows
section
open PySem.MeetsSeq2 PySem.AutoSeq1 PySem.SeqAt
theorem lJ{M:Model}{A:Around}{E:Value→Shared→Prop}{s:Shared}{β:Type}(f:Nat→β→Sem (ForInStep β))(I:List Nat→β→Shared→Prop)(Q:β→Shared→Prop)
    (turn:∀x cV b s,I (x::cV) b s→wpAny M A (f x b) (fun r s'=>match r with | .yield b'=>I cV b' s' | .done b'=>Q b' s') E s)
    (fin:∀b s,I [] b s→Q b s)(n:Nat)(b:β)(h:I (List.range n) b s):wpAny M A (forIn [0:n] b f) Q E s:=by
  rw [Std.Legacy.Range.forIn_eq_forIn_range']
  have e:List.range' (Std.Legacy.Range.start [0:n]) (Std.Legacy.Range.size [0:n]) (Std.Legacy.Range.step [0:n])=List.range n:=by
    simp [Std.Legacy.Range.size,List.range_eq_range']
  rw [e]
  exact wpAny_forIn_list f I Q turn fin _ b h
theorem kB(l:Addr)(items:Array Value)(n:Nat)(dd:Option Addr)(sl:Array (Option Value))(x:Value)(e:Value→Bool)(j:Nat)(hj:j < items.size)
    (hit:e items[j]=true)(hno:∀m (hm:m < items.size),m < j→e items[m]=false):
    Meets (Builtin.«tuple.index» ⟨[.ref l,x],[]⟩)
      (fun A R s=>s.heap.get? l=some {cls:=.type "tuple",dict:=dd,data:=.seq items n,slots:=sl}∧(∀y,y∈items→EqAt A.in1 s y x (e y))∧R (.ok (.ret (.int j s.toks))) {s with toks:=s.toks+1}):=
  .of_wp fun prog w A R s h=>by
    obtain⟨hp,g,d,tk,os⟩:=s;obtain⟨hl,he,h⟩:=h
    have e0:List.range (min items.size items.size)=List.range' 0 (items.size - 0):=by rw [Nat.min_self,List.range_eq_range',Nat.sub_zero]
    wp_walk using wpAny_loadPart' hl,lJ _ (fun cV b s'=>b.1=none∧s'=⟨hp,g,d,tk,os⟩∧∃m,cV=List.range' m (items.size - m)∧m≤j) _
    case turn=>
      rintro i cV b s' ⟨hb,rfl,m,hr,hm⟩
      have hms:m < items.size:=by lia
      have e1:items.size - m=items.size - (m+1)+1:=by lia
      rw [e1,List.range'_succ] at hr
      obtain⟨rfl,rfl⟩:=List.cons.inj hr
      have e2:items[i]?=some items[i]:=Array.getElem?_eq_getElem hms
      simp only [e2]
      refine wpAny_bind (he _ (Array.getElem_mem hms) prog w _ _ ?_)
      by_cases hij:i=j
      · subst hij
        rw [hit]
        wp_walk
        exact⟨_,rfl,h⟩
      · rw [hno i hms (by lia)]
        wp_walk
        exact⟨rfl,rfl,i+1,rfl,by lia⟩
    case fin=>
      rintro b s' ⟨hb,rfl,m,hr,hm⟩
      have:=congrArg List.length hr
      rw [List.length_range',List.length_nil] at this
      lia
    case h=>
      exact⟨rfl,rfl,0,e0,Nat.zero_le _⟩
end
section
variable{X:Cx}{K:PySem.W.Frag}{o a:Expr}{to te:TE}{name:Str}{apos cpos:Pos}{T id:String}{r:V→List V→Hp→VK→Prop}{fo fa:FE}
def DD(K:PySem.W.Frag)(H:Hp)(b:Bool)(x:V):Prop:=∃p xs,x=.ref p∧(if b=true then ce K H p xs else bK K H p xs)
theorem yq{pins:List (Addr × Obj)}{σ:L2.St}{H:Hp}{s:Shared}{x:V}{v:Value}{b:Bool}(hT:T=if b=true then "list" else "tuple")(I:aw X pins σ H s)(r:bh x v)(ty:DD X.K H b x):
    s.TypeIs v T∧∀a,v=.ref a→∃ob,s.heap.get? a=some ob∧ob.dict=none:=by
  obtain⟨p,xs,rfl,hq⟩:=ty
  cases b with
  | true=>subst hT;exact uD I r (.inl ⟨rfl,xs,hq⟩)
  | false=>
    subst hT
    cases r
    obtain⟨its,_,pl,_⟩:=I.tuple hq
    exact⟨pl.typeIs,fun a e=>by cases e;exact I.tupD hq⟩
def DH(K:PySem.W.Frag)(b:Bool)(r:V→List V→Hp→VK→Prop)(to te:TE):TE:=fun σ H Q=>to σ H fun x H1=>DD K H1 b x∧te σ H1 fun y H2=>r x [y] H2 Q
theorem sU{b:Bool}(hT:T=if b=true then "list" else "tuple")(pa:PlainAttrs T)(slot:Slot T name id)(hty:typeOf (.builtin id)=pure (.type "method_descriptor"))(hm:Aq X id r)(ho:PE X o to)(ha:PE X a te)
    (hbase:attributeBase o name X.env (eval o X.env)=eval o X.env)
    (hfew:((backTo cpos (starEach [a] X.env)).all (fun x=> !x.1)&&(backToKw cpos (keywordEach [] X.env)).all (fun x=>x.1.isSome)
      &&decide (([a]:List Expr).length+([]:List Keyword).length+(if ([]:List Keyword).isEmpty then 0 else 1) < 30))=true)
    (hline:(apos.endLine==cpos.line)=true)(hs:starEach [a] X.env=(false,eval a X.env)::starEach [] X.env)(hplain:(backTo cpos (starEach [] X.env)).any (·.1)=false):
    PE X (.Call (.Attribute o name apos) [a] [] cpos) (DH X.K b r to te):=by
  intro pins s σ H Q I h
  refine wpAny_Call_method_late hbase hfew hline rfl (bH (ho pins s σ H _ I h) fun v s1 ⟨x,H1,I1,r1,ty,q1⟩=>?_)
  obtain⟨h1,h2⟩:=yq hT I1 r1 ty
  refine⟨T,id,pa,slot,hty,h1,h2,?_⟩
  have hA:=(gE ha j2 hs) cpos pins s1 σ H1 (fun xs H2=>r x xs H2 Q) I1 q1
  rw [hs] at hA ⊢
  refine Calls.callWith_builtin (by show(false || (backTo cpos (starEach [] X.env)).any (·.1))=false;rw [hplain]<;>rfl) (Calls.evalArgs_plain ?_)
  exact bH hA fun us s2 ⟨vs,H2,I2,r2,q2⟩=>hm pins s2 σ H2 x vs v us Q I2 r1 r2 q2
def CB(K:PySem.W.Frag)(b:Bool)(g:List Int→Int→Option Nat):V→List V→Hp→VK→Prop:=fun x vs H Q=>∃p ns k i,x=.ref p∧vs=[.int k]∧(if b=true then ce K H p (ns.map V.int) else bK K H p (ns.map V.int))∧g ns k=some i∧Q (.int (i:Nat)) H
def gC(ns:List Int)(k:Int):Option Nat:=some (ns.count k)
def gX(ns:List Int)(k:Int):Option Nat:=if k∈ns then some (ns.idxOf k) else none
def zW(b:Bool)(e:En)(x:Rv):Option (List PyData):=(bS e x).bind fun z=>if z.1=b then some z.2 else none
theorem ur{b:Bool}{e:En}{x:Rv}{ds:List PyData}(h:zW b e x=some ds):bS e x=some (b,ds):=by
  unfold zW at h
  obtain⟨⟨c,zs⟩,h1,h2⟩:=Option.bind_eq_some_iff.mp h
  by_cases hb:c=b
  · subst hb;rw [if_pos rfl] at h2;cases h2;exact h1
  · rw [if_neg hb] at h2;cases h2
def oP(b:Bool)(g:List Int→Int→Option Nat)(fo fa:FE):FE:=fun e=>(fo e).bind fun p=>(zW b p.2 p.1).bind fun _=>(fa p.2).bind fun q=>(zW b q.2 p.1).bind fun ds=>
  (jU ds).bind fun ns=>(bL q.1).bind fun k=>(g ns k).map fun i=>(.d (.int (i:Nat)),q.2)
theorem oQ{b:Bool}{g:List Int→Int→Option Nat}{σ:L2.St}{H:Hp}{Q:VK}(h:fE K (oP b g fo fa) σ H Q):DH K b (CB K b g) (fE K fo) (fE K fa) σ H Q:=by
  obtain⟨F,e,z,e2,R,hf,q⟩:=h
  unfold oP at hf
  obtain⟨⟨x,e1⟩,h1,hf⟩:=Option.bind_eq_some_iff.mp hf
  obtain⟨ds,h3,hf⟩:=Option.bind_eq_some_iff.mp hf
  obtain⟨⟨y,e2'⟩,h2,hf⟩:=Option.bind_eq_some_iff.mp hf
  obtain⟨ds',h4,hf⟩:=Option.bind_eq_some_iff.mp hf
  obtain⟨ns,h5,hf⟩:=Option.bind_eq_some_iff.mp hf
  obtain⟨k,h6,hf⟩:=Option.bind_eq_some_iff.mp hf
  obtain⟨i,h7,hf⟩:=Option.map_eq_some_iff.mp hf
  cases hf
  refine⟨F,e,x,e1,R,h1,fun F1 H1 v X1 R1 A1=>?_⟩
  obtain⟨p,vs,rfl,d1,s1⟩:=bF R1 A1 (ur h3)
  refine⟨⟨p,vs,rfl,s1⟩,F1,e1,y,_,R1,h2,fun F2 H2 u X2 R2 A2=>?_⟩
  obtain⟨p',vs',e3,d2,s2⟩:=bF R2 (A1.ext X2) (ur h4)
  cases e3
  have e4:ds'=ns.map .int:=jV h5
  subst e4
  have e5:=aH.ints.mp d2
  subst e5
  exact⟨p,ns,k,i,rfl,by rw [bQ A2 h6],s2,h7,q F2 H2 _ (X1.trans X2) R2 g9⟩
theorem vj:Aq X "tuple.count" (CB X.K false gC):=by
  intro pins s σ H x vs v us Q I rx rv h
  obtain⟨p,ns,k,i,rfl,rfl,hs,hg,q⟩:=h
  cases hg
  cases rx
  obtain⟨u,rfl,⟨t,rfl⟩⟩:=fZ rv
  obtain⟨its,r,pl,hz⟩:=I.tuple hs
  have hi:=eh r
  obtain⟨⟨cls,dd,data,sl⟩,ho,hc,n,hd⟩:=id pl
  simp only at hc hd
  subst hc hd
  refine call_meets PySem.F.slot_tuple_count ⟨_,ho,rfl⟩ PySem.F.entry_tuple_count (PySem.F.args_tuple_count_2 _ _) (PySem.SeqAt.tuple_countAt p its.toArray n dd sl (.int k t) (isInt k)) ⟨ho,fun y hy=>(eq_isInt k t hi y (by simpa using hy)).at _ _,?_⟩
  rw [show its.toArray.toList=its from rfl,countP_isInt k hi]
  exact⟨.int _,H,I.tok _,⟨_,rfl⟩,q⟩
theorem vm:Aq X "list.index" (CB X.K true gX):=by
  intro pins s σ H x vs v us Q I rx rv h
  obtain⟨p,ns,k,i,rfl,rfl,hs,hg,q⟩:=h
  unfold gX at hg
  split at hg
  case isFalse=>cases hg
  case isTrue hk=>
  cases hg
  cases rx
  obtain⟨u,rfl,⟨t,rfl⟩⟩:=fZ rv
  obtain⟨its,r,pl,hz⟩:=I.list hs
  have hi:=eh r
  have hlen:=hi.length
  have hsl:sizeLine=16777216:=sizeLine_eq
  have hj:ns.idxOf k < ns.length:=List.idxOf_lt_length_iff.mpr hk
  rw [List.length_map] at hz
  obtain⟨⟨cls,dd,data,sl⟩,ho,hc,n,hd⟩:=id pl.isList
  simp only at hc hd
  subst hc hd
  refine call_meets PySem.F.slot_list_index ⟨_,ho,rfl⟩ PySem.F.entry_list_index (PySem.F.args_list_index_2 _ _)
    (PySem.SeqAt.list_indexAt p its.toArray n dd sl (.int k t) (isInt k) (ns.idxOf k) (by simpa [hlen] using hj) (by lia) ?_ ?_) ⟨ho,fun y hy=>(eq_isInt k t hi y (by simpa using hy)).at _ _,⟨.int _,H,I.tok _,⟨_,rfl⟩,q⟩⟩
  · show isInt k its[ns.idxOf k]=true
    rw [isInt_at k hi _ (by lia) hj]
    simpa using List.getElem_idxOf hj
  · intro j hjs hlt
    show isInt k its[j]=false
    rw [isInt_at k hi j (by simpa using hjs) (by lia)]
    exact ne_of_lt_idxOf hlt _
theorem vn:Aq X "tuple.index" (CB X.K false gX):=by
  intro pins s σ H x vs v us Q I rx rv h
  obtain⟨p,ns,k,i,rfl,rfl,hs,hg,q⟩:=h
  unfold gX at hg
  split at hg
  case isFalse=>cases hg
  case isTrue hk=>
  cases hg
  cases rx
  obtain⟨u,rfl,⟨t,rfl⟩⟩:=fZ rv
  obtain⟨its,r,pl,hz⟩:=I.tuple hs
  have hi:=eh r
  have hlen:=hi.length
  have hj:ns.idxOf k < ns.length:=List.idxOf_lt_length_iff.mpr hk
  obtain⟨⟨cls,dd,data,sl⟩,ho,hc,n,hd⟩:=id pl
  simp only at hc hd
  subst hc hd
  refine call_meets PySem.F.slot_tuple_index ⟨_,ho,rfl⟩ PySem.F.entry_tuple_index (PySem.F.args_tuple_index_2 _ _)
    (kB p its.toArray n dd sl (.int k t) (isInt k) (ns.idxOf k) (by simpa [hlen] using hj) ?_ ?_) ⟨ho,fun y hy=>(eq_isInt k t hi y (by simpa using hy)).at _ _,⟨.int _,H,I.tok _,⟨_,rfl⟩,q⟩⟩
  · show isInt k its[ns.idxOf k]=true
    rw [isInt_at k hi _ (by lia) hj]
    simpa using List.getElem_idxOf hj
  · intro j hjs hlt
    show isInt k its[j]=false
    rw [isInt_at k hi j (by simpa using hjs) (by lia)]
    exact ne_of_lt_idxOf hlt _
theorem zB(hK:X.K=K)(ho:PE X o (fE K fo))(ha:PE X a (fE K fa))(hbase:attributeBase o "count" X.env (eval o X.env)=eval o X.env)
    (hfew:((backTo cpos (starEach [a] X.env)).all (fun x=> !x.1)&&(backToKw cpos (keywordEach [] X.env)).all (fun x=>x.1.isSome)
      &&decide (([a]:List Expr).length+([]:List Keyword).length+(if ([]:List Keyword).isEmpty then 0 else 1) < 30))=true)
    (hline:(apos.endLine==cpos.line)=true)(hs:starEach [a] X.env=(false,eval a X.env)::starEach [] X.env)(hplain:(backTo cpos (starEach [] X.env)).any (·.1)=false):
    PE X (.Call (.Attribute o "count" apos) [a] [] cpos) (fE K (oP false gC fo fa)):=by
  subst hK
  exact(sU (b:=false) rfl PySem.F.plainAttrs_tuple PySem.F.slot_tuple_count PySem.F.type_tuple_count vj ho ha hbase hfew hline hs hplain).mono fun σ H Q h=>oQ h
theorem zC(hK:X.K=K)(ho:PE X o (fE K fo))(ha:PE X a (fE K fa))(hbase:attributeBase o "index" X.env (eval o X.env)=eval o X.env)
    (hfew:((backTo cpos (starEach [a] X.env)).all (fun x=> !x.1)&&(backToKw cpos (keywordEach [] X.env)).all (fun x=>x.1.isSome)
      &&decide (([a]:List Expr).length+([]:List Keyword).length+(if ([]:List Keyword).isEmpty then 0 else 1) < 30))=true)
    (hline:(apos.endLine==cpos.line)=true)(hs:starEach [a] X.env=(false,eval a X.env)::starEach [] X.env)(hplain:(backTo cpos (starEach [] X.env)).any (·.1)=false):
    PE X (.Call (.Attribute o "index" apos) [a] [] cpos) (fE K (oP true gX fo fa)):=by
  subst hK
  exact(sU (b:=true) rfl PySem.F.plainAttrs_list PySem.F.slot_list_index PySem.F.type_list_index vm ho ha hbase hfew hline hs hplain).mono fun σ H Q h=>oQ h
theorem tN(hK:X.K=K)(ho:PE X o (fE K fo))(ha:PE X a (fE K fa))(hbase:attributeBase o "index" X.env (eval o X.env)=eval o X.env)
    (hfew:((backTo cpos (starEach [a] X.env)).all (fun x=> !x.1)&&(backToKw cpos (keywordEach [] X.env)).all (fun x=>x.1.isSome)
      &&decide (([a]:List Expr).length+([]:List Keyword).length+(if ([]:List Keyword).isEmpty then 0 else 1) < 30))=true)
    (hline:(apos.endLine==cpos.line)=true)(hs:starEach [a] X.env=(false,eval a X.env)::starEach [] X.env)(hplain:(backTo cpos (starEach [] X.env)).any (·.1)=false):
    PE X (.Call (.Attribute o "index" apos) [a] [] cpos) (fE K (oP false gX fo fa)):=by
  subst hK
  exact(sU (b:=false) rfl PySem.F.plainAttrs_tuple PySem.F.slot_tuple_index PySem.F.type_tuple_index vn ho ha hbase hfew hline hs hplain).mono fun σ H Q h=>oQ h
end
end L2
namespace V62
open PySem PySem.Spec PyProof.Rows L2
variable{P:Program}{w:World}{K:W.Frag}{mg:Str→Option Value}{base:Heap}{f:Addr}{fd:FuncData}
local macro_rules|`(tactic|trivial)=>`(tactic|first|exact .inl rfl|exact .inr rfl|assumption)
local macro_rules|`(¬$n:num)=>`(@qw _ _ $n _ _ (by rfl) (by rfl) (by decide))
local macro_rules|`($a∘$b)=>`(@Da _ _ _ _ _ _ $a $b (by rfl))
def top(i:Nat):Stmt:=PySem.Challenge.pw_askedpairs_k62_rings_of_anything.main.body.getD i (.Pass ⟨0,0,0,0⟩)
theorem xt{α:Type u}{β:Type v}{f:α→β}:List.map f []=[]:=rfl
theorem xr{α:Type u}{β:Type v}{f:α→β}{a:α}{l:List α}:List.map f (a::l)=f a::List.map f l:=rfl
theorem xm{α:Type u}{l:List α}:[]++l=l:=rfl
theorem xl{α:Type u}{a:α}{l m:List α}:(a::l)++m=a::(l++m):=rfl
theorem xo{α:Type u}{a:α}{l:List α}:(a::l)[0]?=some a:=rfl
theorem xq{α:Type u}{a:α}{l:List α}{i:Nat}:(a::l)[i+1]?=l[i]?:=rfl
theorem xn{α:Type u}{β:Type v}{a:α}{f:α→Option β}:Option.bind (some a) f=f a:=rfl
theorem xu{α:Type u}{β:Type v}{a:α}{f:α→β}:Option.map f (some a)=some (f a):=rfl
abbrev dA:Stmt:=top 1
abbrev bu:Stmt:=top 2
abbrev bz:Stmt:=top 3
abbrev dk:Stmt:=top 6
abbrev cu:Stmt:=top 7
abbrev iH:Stmt:=top 9
abbrev iG:Stmt:=top 10
abbrev dj:Stmt:=top 11
abbrev m7:Stmt:=top 12
abbrev m9:Stmt:=top 13
abbrev j':Stmt:=top 14
abbrev ek:Stmt:=top 15
abbrev eZ:Stmt:=top 16
abbrev jd:Stmt:=top 17
abbrev ng:Stmt:=top 18
abbrev m_:Stmt:=top 19
abbrev gF:Stmt:=top 21
abbrev cJ:Stmt:=top 23
abbrev gf:Stmt:=top 24
abbrev ec:Stmt:=top 25
abbrev iI:Stmt:=top 26
abbrev el:Stmt:=top 27
abbrev ka:Stmt:=top 28
abbrev j_:Stmt:=top 29
abbrev iJ:Stmt:=top 30
structure jh (mg:Str→Option Value):Prop where
  b_abs:mg "abs"=none
  b_len:mg "len"=none
  b_min:mg "min"=none
  b_max:mg "max"=none
  b_range:mg "range"=none
  b_tuple:mg "tuple"=none
  b_int:mg "int"=none
  b_zip:mg "zip"=none
  b_isinstance:mg "isinstance"=none
  b_bool:mg "bool"=none
  b_set:mg "set"=none
  b_any:mg "any"=none
  b_all:mg "all"=none
  b_list:mg "list"=none
noncomputable def ji:FS:=(bJ (kh (md (gP "int") (ae 0)) (nI (md (gP "bool") (ae 0)))))
noncomputable def dy:FM:=iz 1 0 [] ji
theorem iK:aO ["thing"] ["thing"] (am dA):=⟨rfl,rfl,rfl,by decide+kernel,rfl,by decide+kernel,by decide+kernel⟩
theorem lW(h:bj K mg "is_number" dA f fd ["thing"])(T:jh mg):aN P w K mg base bV 1 f fd ["thing"] (cf K 1 dy):=by
  have nd:=iK.nd
  exact h.fn iK rfl rfl (fun cdv A outer s H E hr=>(@aj _ _ _ _ _ (@aJ _ _ _ _ _ (@oz _ _ _ _ _ _ _ _ (@lc _ _ _ _ _ _ _ _ "int" rfl (by decide) rfl T.b_isinstance rfl T.b_int PyProof.Rows.boot_int (by decide) (by decide) (¬0) (by rfl) (by rfl)) (@oB _ _ _ _ _ _ (@zE _ _ _ _ _ (@lc _ _ _ _ _ _ _ _ "bool" rfl (by decide) rfl T.b_isinstance rfl T.b_bool PyProof.Rows.boot_bool (by decide) (by decide) (¬0) (by rfl) (by rfl))))))))
noncomputable def bM:FS:=(bJ (kh (cm 1 dy (aa (ae 0) ag)) (dm Au Au (ae 1) (ae 0) (ae 2))))
noncomputable def aW:FM:=iz 3 0 [] bM
theorem dM:aO ["thing","low","high"] ["thing","low","high"] (am bu):=⟨rfl,rfl,rfl,by decide+kernel,rfl,by decide+kernel,by decide+kernel⟩
theorem gH(h:bj K mg "is_number_within" bu f fd ["thing","low","high"])(T:jh mg){f_is_number:Addr}{e_is_number:FuncData}(h_is_number:bj K mg "is_number" dA f_is_number e_is_number ["thing"])(G_is_number:aN P w K mg base bV 1 f_is_number e_is_number ["thing"] (cf K 1 dy)):aN P w K mg base bV 2 f fd ["thing","low","high"] (cf K 3 aW):=by
  have nd:=dM.nd
  exact h.fn dM rfl rfl (fun cdv A outer s H E hr=>(@aj _ _ _ _ _ (@aJ _ _ _ _ _ (@oz _ _ _ _ _ _ _ _ (@aS _ _ _ _ _ _ _ _ _ _ _ _ _ _ _ h_is_number G_is_number (hr.mono (by decide)) ((¬0)∘ab) (by rfl) (by decide) (by rfl) (by rfl)) (@oB _ _ _ _ _ _ (@wk _ _ _ _ _ _ _ _ _ _ _ _ _ (@xZ _ _) (@xZ _ _) (¬1) (¬0) (¬2) (by with_unfolding_all rfl)))))))
noncomputable def eC:FI:=(iq (ae 0))
noncomputable def bW:FE:=(cm 3 aW (aa (ae 1) (aa (vC (.int 0)) (aa (au dD (ae 0) (vC (.int 1))) ag))))
noncomputable def cD:FS:=(aA (g_ (q_ (jw (aR (md (gP "tuple") (ae 0)))) (jw (aR (aL (g1 (eL kU)) (aa (c9 [(1,"many")] 1 eC (ah 1) dN bW) ag)))))
    (bJ (vC (.bool false)))
    dz)
    (bJ (au (cQ false) (md gy (ae 0)) (aL (g1 eE) (aa (ae 0) ag)))))
noncomputable def bg:FM:=iz 2 0 (([]++[])++[]) cD
theorem eP:aO ["thing","many"] ["thing","many"] (am bz):=⟨rfl,rfl,rfl,by decide+kernel,rfl,by decide+kernel,by decide+kernel⟩
theorem i_(h:bj K mg "is_unlike_row" bz f fd ["thing","many"])(T:jh mg){f_is_number_within:Addr}{e_is_number_within:FuncData}(h_is_number_within:bj K mg "is_number_within" bu f_is_number_within e_is_number_within ["thing","low","high"])(G_is_number_within:aN P w K mg base bV 2 f_is_number_within e_is_number_within ["thing","low","high"] (cf K 3 aW)):aN P w K mg base bV 3 f fd ["thing","many"] (cf K 2 bg):=by
  have nd:=eP.nd
  exact h.fn eP rfl rfl (fun cdv A outer s H E hr=>(@af _ _ _ _ _ _ _ _ (@cw _ _ _ _ _ _ _ _ _ _ _ (@tY _ _ _ _ (@j9 _ _ _ _ _ _ _ _ (@gY _ _ _ _ _ (@gb _ _ _ _ (@lc _ _ _ _ _ _ _ _ "tuple" rfl (by decide) rfl T.b_isinstance rfl T.b_tuple PyProof.Rows.boot_tuple (by decide) (by decide) (¬0) (by rfl) (by rfl)) (by intro _;rfl))) (@l0 _ _ _ _ _ (@gY _ _ _ _ _ (@gb _ _ _ _ (@aV _ _ _ _ _ _ _ _ _ (@b_all _ _ _ rfl hr) (by rfl) T.b_all ((@gW _ _ _ _ _ _ _ _ _ _ _ _ _ (am bz) ["thing","many"] [(1,"many")] ["part"] rfl rfl rfl (@f_ _ _ _ _ _ rfl (¬0))
        (fun C s0 H0 fp=>(@aF _ _ _ 1 _ (show List.Nodup (["many","part"]:List Str) by decide+kernel) rfl (Or.inl rfl) (by trivial))) (fun C s0 H0 fp=>(@iE _ _))
        (fun C s0 H0 fp=>(@aS _ _ _ _ _ _ _ _ _ _ _ _ _ _ _ h_is_number_within G_is_number_within (hr.mono (by decide)) ((¬1)∘(ac∘((@iC _ _ _ _ _ _ _ (¬0) ac)∘ab))) (by rfl) (by decide) (by rfl) (by rfl))) rfl (by decide+kernel) (by decide+kernel) (by decide+kernel) (by decide+kernel) (by decide+kernel) (by decide+kernel) (by decide+kernel) (by intro _;rfl))∘ab) (by decide) (by decide) (by rfl) (by rfl)) (by intro _;rfl))))))
      (@aj _ _ _ _ _ (@aJ _ _ _ _ _ (@dJ _ _ _ _ _)))
      (@a8 _ _))
      (@aj _ _ _ _ _ (@aJ _ _ _ _ _ (@j4 _ _ _ _ _ _ _ _ _ (@ig _ _ _ rfl hr) (@tO _ _ _ _ _ _ _ _ rfl rfl rfl T.b_len rfl T.b_set (¬0) (by rfl) (by rfl) (by rfl) (by rfl)) (@aV _ _ _ _ _ _ _ _ _ (@b_len _ _ rfl) (by rfl) T.b_len ((¬0)∘ab) (by decide) (by decide) (by rfl) (by rfl)) (aZ _))))))
noncomputable def ir:FI:=(iq (au fP (ae 0) (vC (.int 1))))
noncomputable def dP:FE:=(kh (au (kW false) (ae 0) (jx (ae 2) ck (bY (vC (.int 2))))) (au (kW false) (ae 1) (jx (ae 2) ck (bY (vC (.int 2))))))
noncomputable def jH:FS:=(bJ (aL (g1 (eL mz)) (aa (c9 [(1,"one"),(2,"other")] 1 ir (ah 2) dN dP) ag)))
noncomputable def ej:FM:=iz 3 0 [] jH
theorem jo:aO ["web","one","other"] ["web","one","other"] (am dk):=⟨rfl,rfl,rfl,by decide+kernel,rfl,by decide+kernel,by decide+kernel⟩
theorem mX(h:bj K mg "are_tied" dk f fd ["web","one","other"])(T:jh mg):aN P w K mg base bV 1 f fd ["web","one","other"] (cf K 3 ej):=by
  have nd:=jo.nd
  exact h.fn jo rfl rfl (fun cdv A outer s H E hr=>(@aj _ _ _ _ _ (@aJ _ _ _ _ _ (@aV _ _ _ _ _ _ _ _ _ (@b_any _ _ _ rfl hr) (by rfl) T.b_any ((@gW _ _ _ _ _ _ _ _ _ _ _ _ _ (am dk) ["web","one","other"] [(1,"one"),(2,"other")] ["tie"] rfl rfl rfl (@f_ _ _ _ _ _ rfl (@dU _ _ _ _ _ _ _ rfl (¬0) ac (fun _ _=>rfl)))
        (fun C s0 H0 fp=>(@aF _ _ _ 2 _ (show List.Nodup (["one","other","tie"]:List Str) by decide+kernel) rfl (Or.inl rfl) (by trivial))) (fun C s0 H0 fp=>(@iE _ _))
        (fun C s0 H0 fp=>(@oz _ _ _ _ _ _ _ _ (@j4 _ _ _ _ _ _ _ _ _ (@xY _ _ _ rfl hr) (¬0) (@bc _ _ _ _ _ _ _ _ _ _ rfl (¬2) (@be _ _) (@bf _ _ _ _ ac)) (by with_unfolding_all rfl)) (@oB _ _ _ _ _ _ (@j4 _ _ _ _ _ _ _ _ _ (@xY _ _ _ rfl hr) (¬1) (@bc _ _ _ _ _ _ _ _ _ _ rfl (¬2) (@be _ _) (@bf _ _ _ _ ac)) (by with_unfolding_all rfl))))) rfl (by decide+kernel) (by decide+kernel) (by decide+kernel) (by decide+kernel) (by decide+kernel) (by decide+kernel) (by decide+kernel) (by intro _;rfl))∘ab) (by decide) (by decide) (by rfl) (by rfl)))))
noncomputable def cR:FI:=(pF (aa (ae 1) (aa (au aU (jx (ae 1) (bY (vC (.int 1))) ck) (jx (ae 1) ck (bY (vC (.int 1))))) ag)))
noncomputable def ci:FE:=(cm 3 ej (aa (ae 0) (aa (ae 1) (aa (ae 2) ag))))
noncomputable def cM:FS:=(aA (g_ (q_ (jw (aR (cm 2 bg (aa (ae 1) (aa (au fP (ae 0) (vC (.int 0))) ag))))) (q_ (aR (au va (aL (g1 eE) (aa (ae 1) ag)) (vC (.int (3))))) (aR (au (cQ false) (au aB (aL (g1 eE) (aa (ae 1) ag)) (vC (.int 2))) (vC (.int 0))))))
    (bJ (vC (.bool false)))
    dz)
    (bJ (aL (g1 (eL kU)) (aa (c9 [(0,"web")] 2 cR (dI (aC (ah 1) (aC (ah 2) c7))) dN ci) ag))))
noncomputable def bD:FM:=iz 2 0 (([]++[])++[]) cM
theorem gK:aO ["web","thing"] ["web","thing"] (am cu):=⟨rfl,rfl,rfl,by decide+kernel,rfl,by decide+kernel,by decide+kernel⟩
theorem kx(h:bj K mg "ring_holds" cu f fd ["web","thing"])(T:jh mg){f_is_unlike_row:Addr}{e_is_unlike_row:FuncData}(h_is_unlike_row:bj K mg "is_unlike_row" bz f_is_unlike_row e_is_unlike_row ["thing","many"])(G_is_unlike_row:aN P w K mg base bV 3 f_is_unlike_row e_is_unlike_row ["thing","many"] (cf K 2 bg)){f_are_tied:Addr}{e_are_tied:FuncData}(h_are_tied:bj K mg "are_tied" dk f_are_tied e_are_tied ["web","one","other"])(G_are_tied:aN P w K mg base bV 1 f_are_tied e_are_tied ["web","one","other"] (cf K 3 ej)){t_LEAST_OF_RING:Tok}(m_LEAST_OF_RING:mg "LEAST_OF_RING"=some (.int (3) t_LEAST_OF_RING)):aN P w K mg base bV 4 f fd ["web","thing"] (cf K 2 bD):=by
  have nd:=gK.nd
  exact h.fn gK rfl rfl (fun cdv A outer s H E hr=>(@af _ _ _ _ _ _ _ _ (@cw _ _ _ _ _ _ _ _ _ _ _ (@tY _ _ _ _ (@j9 _ _ _ _ _ _ _ _ (@gY _ _ _ _ _ (@gb _ _ _ _ (@aS _ _ _ _ _ _ _ _ _ _ _ _ _ _ _ h_is_unlike_row G_is_unlike_row (hr.mono (by decide)) ((¬1)∘((@dU _ _ _ _ _ _ _ rfl (¬0) ac (fun _ _=>rfl))∘ab)) (by rfl) (by decide) (by rfl) (by rfl)) (by intro _;rfl))) (@j9 _ _ _ _ _ _ _ _ (@a_ _ _ _ _ _ _ _ _ _ (@rq _ _) (@aV _ _ _ _ _ _ _ _ _ (@b_len _ _ rfl) (by rfl) T.b_len ((¬1)∘ab) (by decide) (by decide) (by rfl) (by rfl)) (@wm _ _ _ (V.int (3)) _ _ (PyData.int (3)) rfl m_LEAST_OF_RING ⟨_,rfl⟩ (fun _=>cx.mpr rfl) (by decide)) (aZ _)) (@l0 _ _ _ _ _ (@a_ _ _ _ _ _ _ _ _ _ (@ig _ _ _ rfl hr) (@aD _ _ _ _ _ _ _ (@aV _ _ _ _ _ _ _ _ _ (@b_len _ _ rfl) (by rfl) T.b_len ((¬1)∘ab) (by decide) (by decide) (by rfl) (by rfl)) ac) ac (aZ _))))))
      (@aj _ _ _ _ _ (@aJ _ _ _ _ _ (@dJ _ _ _ _ _)))
      (@a8 _ _))
      (@aj _ _ _ _ _ (@aJ _ _ _ _ _ (@aV _ _ _ _ _ _ _ _ _ (@b_all _ _ _ rfl hr) (by rfl) T.b_all ((@gW _ _ _ _ _ _ _ _ _ _ _ _ _ (am cu) ["web","thing"] [(0,"web")] ["one","other"] rfl rfl rfl (@zF _ _ _ _ _ _ _ _ _ _ rfl rfl T.b_zip ((¬1)∘((@aQ _ _ _ _ _ _ _ rfl (@bc _ _ _ _ _ _ _ _ _ _ rfl (¬1) (@bf _ _ _ _ ac) (@be _ _)) (@bc _ _ _ _ _ _ _ _ _ _ rfl (¬1) (@be _ _) (@bf _ _ _ _ ac)))∘ab)) (by rfl) (by rfl))
        (fun C s0 H0 fp=>(@j7 _ _ _ _ _ _ _ _ rfl rfl (@bE _ _ _ _ _ _ _ _ (@aF _ _ _ 1 _ (show List.Nodup (["web","one","other"]:List Str) by decide+kernel) rfl (Or.inl rfl) (by trivial)) (@bE _ _ _ _ _ _ _ _ (@aF _ _ _ 2 _ (show List.Nodup (["web","one","other"]:List Str) by decide+kernel) rfl (Or.inl rfl) (by trivial)) (@iD _ _) (by rfl)) (by rfl)) (bX (bX jR)) (by rfl) (by rfl))) (fun C s0 H0 fp=>(@iE _ _))
        (fun C s0 H0 fp=>(@aS _ _ _ _ _ _ _ _ _ _ _ _ _ _ _ h_are_tied G_are_tied (hr.mono (by decide)) ((¬0)∘((¬1)∘((¬2)∘ab))) (by rfl) (by decide) (by rfl) (by rfl))) rfl (by decide+kernel) (by decide+kernel) (by decide+kernel) (by decide+kernel) (by decide+kernel) (by decide+kernel) (by decide+kernel) (by intro _;rfl))∘ab) (by decide) (by decide) (by rfl) (by rfl))))))
noncomputable def o8:FS:=(aA (aT 2 (au aB (au aU (au aU (au gQ (au aB (ae 0) (vC (.int 2147483647))) (vC (.int 48271))) (au gQ (au gQ (vC (.int 7919)) (ae 1)) (ae 1))) (vC (.int 104729))) (vC (.int 2147483647))))
    (bJ (au aB (au gQ (ae 2) (ae 2)) (vC (.int 2147483629)))))
noncomputable def gD:FM:=iz 2 1 ([2]++[]) o8
theorem nq:aO ["_law_cell","_law_k","_law_number"] ["_law_cell","_law_k"] (am iH):=⟨rfl,rfl,rfl,by decide+kernel,rfl,by decide+kernel,by decide+kernel⟩
theorem sM(h:bj K mg "_law_mixed" iH f fd ["_law_cell","_law_k"])(T:jh mg):aN P w K mg base bV 1 f fd ["_law_cell","_law_k"] (cf K 2 gD):=by
  have nd:=nq.nd
  exact h.fn nq rfl rfl (fun cdv A outer s H E hr=>(@af _ _ _ _ _ _ _ _ (@ap _ _ _ _ _ 2 _ _ nd rfl (Or.inl rfl) (@aD _ _ _ _ _ _ _ (@aQ _ _ _ _ _ _ _ rfl (@aQ _ _ _ _ _ _ _ rfl (@j5 _ _ _ _ _ _ _ rfl (@aD _ _ _ _ _ _ _ (¬0) ac) ac) (@j5 _ _ _ _ _ _ _ rfl (@j5 _ _ _ _ _ _ _ rfl ac (¬1)) (¬1))) ac) ac) (by rfl) (by trivial))
      (@aj _ _ _ _ _ (@aJ _ _ _ _ _ (@aD _ _ _ _ _ _ _ (@j5 _ _ _ _ _ _ _ rfl (¬2) (¬2)) ac)))))
noncomputable def dY:FT:=(qT (aR (au A9 (ae 3) (au lP (vC (.int 10)) (vC (.int 18))))) (aR (au va (aL (g1 eE) (aa (ae 1) ag)) (vC (.int 900)))))
noncomputable def gh:FS:=(aA (c8 (bZ ba (ae 1) (aa (au aB (ae 3) (vC (.int 2147483629))) ag)))
    (aT 3 (au du (ae 3) (vC (.int 2147483629)))))
noncomputable def gA:FI:=(bI (aa (vC (.int 12)) ag))
noncomputable def eH:FS:=(c8 (bZ ba (ae 1) (aa (cm 2 gD (aa (cm 2 gD (aa (ae 3) (aa (au aU (au gQ (vC (.int 3)) (ae 4)) (vC (.int 1))) ag))) (aa (au aU (au aU (ae 4) (ae 2)) (vC (.int 2))) ag))) ag)))
noncomputable def i0:FI:=(bI (aa (aL (g2 lO) (aa (aL (g1 eE) (aa (ae 0) ag)) (aa (vC (.int 63)) ag))) ag))
noncomputable def dW:FS:=(aA (aT 3 (aL (g1 qd) (aa (au fP (ae 0) (ae 2)) ag)))
    (aA (g_ (aR (au va (ae 3) (au lP (vC (.int 10)) (vC (.int 18)))))
    (cG ([4]++[]) gA (ah 4) eH)
    dz)
    (aA (hE (2 ^ 4200) dY gh)
    (g_ (aR (au A9 (ae 3) (vC (.int 2147483629))))
    (c8 (bZ ba (ae 1) (aa (au aB (ae 3) (vC (.int 2147483629))) ag)))
    dz))))
noncomputable def o5:FS:=(aA (aT 1 (cv ag))
    (aA (cG ([2]++([3]++((([4]++[])++[])++(([]++[3])++([]++[]))))) i0 (ah 2) dW)
    (bJ (ae 1))))
noncomputable def iw:FM:=iz 1 4 ([1]++(([2]++([3]++((([4]++[])++[])++(([]++[3])++([]++[])))))++[])) o5
theorem nh:aO ["_law_script","_law_drawn","_law_k","_law_cell","_law_j"] ["_law_script"] (am iG):=⟨rfl,rfl,rfl,by decide+kernel,rfl,by decide+kernel,by decide+kernel⟩
theorem sJ(h:bj K mg "_law_draws" iG f fd ["_law_script"])(T:jh mg){fLmixed:Addr}{eLmixed:FuncData}(hLmixed:bj K mg "_law_mixed" iH fLmixed eLmixed ["_law_cell","_law_k"])(GLmixed:aN P w K mg base bV 1 fLmixed eLmixed ["_law_cell","_law_k"] (cf K 2 gD)):aN P w K mg base bV 2 f fd ["_law_script"] (cf K 1 iw):=by
  have nd:=nh.nd
  exact h.fn nh rfl rfl (fun cdv A outer s H E hr=>(@af _ _ _ _ _ _ _ _ (@ap _ _ _ _ _ 1 _ _ nd rfl (Or.inl rfl) (@aX _ _ _ _ _ ab) (by rfl) (by trivial))
      (@af _ _ _ _ _ _ _ _ (@di _ _ _ _ _ _ _ _ _ _ _ PassesOwn.never rfl (@bx _ _ _ _ _ _ _ rfl T.b_range ((@aV _ _ _ _ _ _ _ _ _ (@b_min _ _ rfl) (by rfl) T.b_min ((@aV _ _ _ _ _ _ _ _ _ (@b_len _ _ rfl) (by rfl) T.b_len ((¬0)∘ab) (by decide) (by decide) (by rfl) (by rfl))∘(ac∘ab)) (by decide) (by decide) (by rfl) (by rfl))∘ab) (by rfl)) (@aF _ _ _ 2 _ nd rfl (Or.inl rfl) (by trivial))
      (@af _ _ _ _ _ _ _ _ (@ap _ _ _ _ _ 3 _ _ nd rfl (Or.inl rfl) (@aV _ _ _ _ _ _ _ _ _ (@b_abs _ _) (by rfl) T.b_abs ((@dU _ _ _ _ _ _ _ rfl (¬0) (¬2) (fun _ _=>rfl))∘ab) (by decide) (by decide) (by rfl) (by rfl)) (by rfl) (by trivial))
      (@af _ _ _ _ _ _ _ _ (@cw _ _ _ _ _ _ _ _ _ _ _ (@a_ _ _ _ _ _ _ _ _ _ (@rq _ _) (¬3) (@tQ _ _ _ _ _ _ _ ac ac) (aZ _))
      (@aj _ _ _ _ _ (@di _ _ _ _ _ _ _ _ _ _ _ PassesOwn.never rfl (@bx _ _ _ _ _ _ _ rfl T.b_range (ac∘ab) (by rfl)) (@aF _ _ _ 4 _ nd rfl (Or.inl rfl) (by trivial))
      (@aj _ _ _ _ _ (@bN _ _ _ _ _ (@br _ _ _ _ _ _ _ _ _ rfl (¬1) ((@aS _ _ _ _ _ _ _ _ _ _ _ _ _ _ _ hLmixed GLmixed (hr.mono (by decide)) ((@aS _ _ _ _ _ _ _ _ _ _ _ _ _ _ _ hLmixed GLmixed (hr.mono (by decide)) ((¬3)∘((@aQ _ _ _ _ _ _ _ rfl (@j5 _ _ _ _ _ _ _ rfl ac (¬4)) ac)∘ab)) (by rfl) (by decide) (by rfl) (by rfl))∘((@aQ _ _ _ _ _ _ _ rfl (@aQ _ _ _ _ _ _ _ rfl (¬4) (¬2)) ac)∘ab)) (by rfl) (by decide) (by rfl) (by rfl))∘ab) (by rfl) (by rfl) (by rfl) (by rfl) (by rfl)) (by rfl))) (by intro _;rfl)))
      (@a8 _ _))
      (@af _ _ _ _ _ _ _ _ (@j8 _ _ _ _ _ _ _ _ _ PassesOwn.never (@tY _ _ _ _ (@zI _ _ _ _ _ _ _ _ (@a_ _ _ _ _ _ _ _ _ _ (@AU _ _) (¬3) (@tQ _ _ _ _ _ _ _ ac ac) (aZ _)) (@wn _ _ _ _ _ (@a_ _ _ _ _ _ _ _ _ _ (@rq _ _) (@aV _ _ _ _ _ _ _ _ _ (@b_len _ _ rfl) (by rfl) T.b_len ((¬1)∘ab) (by decide) (by decide) (by rfl) (by rfl)) ac (aZ _)))))
      (@af _ _ _ _ _ _ _ _ (@bN _ _ _ _ _ (@br _ _ _ _ _ _ _ _ _ rfl (¬1) ((@aD _ _ _ _ _ _ _ (¬3) ac)∘ab) (by rfl) (by rfl) (by rfl) (by rfl) (by rfl)) (by rfl))
      (@aj _ _ _ _ _ (@ap _ _ _ _ _ 3 _ _ nd rfl (Or.inl rfl) (@eG _ _ _ _ _ _ _ (¬3) ac) (by rfl) (by trivial)))))
      (@aj _ _ _ _ _ (@cw _ _ _ _ _ _ _ _ _ _ _ (@a_ _ _ _ _ _ _ _ _ _ (@AU _ _) (¬3) ac (aZ _))
      (@aj _ _ _ _ _ (@bN _ _ _ _ _ (@br _ _ _ _ _ _ _ _ _ rfl (¬1) ((@aD _ _ _ _ _ _ _ (¬3) ac)∘ab) (by rfl) (by rfl) (by rfl) (by rfl) (by rfl)) (by rfl)))
      (@a8 _ _)))))) (by intro _;rfl))
      (@aj _ _ _ _ _ (@aJ _ _ _ _ _ (¬1))))))
noncomputable def nS:FS:=(aA (g_ (aR (au (cQ false) (ae 0) (cv ag)))
    (bJ (vC (.int 0)))
    dz)
    (bJ (bZ gS (ae 0) (aa (vC (.int 0)) ag))))
noncomputable def ax:FM:=iz 1 0 (([]++[])++[]) nS
theorem pM:aO ["_law_drawn"] ["_law_drawn"] (am dj):=⟨rfl,rfl,rfl,by decide+kernel,rfl,by decide+kernel,by decide+kernel⟩
theorem vx(h:bj K mg "_law_next" dj f fd ["_law_drawn"])(T:jh mg):aN P w K mg base bV 1 f fd ["_law_drawn"] (cf K 1 ax):=by
  have nd:=pM.nd
  exact h.fn pM rfl rfl (fun cdv A outer s H E hr=>(@af _ _ _ _ _ _ _ _ (@cw _ _ _ _ _ _ _ _ _ _ _ (@a_ _ _ _ _ _ _ _ _ _ (@ig _ _ _ rfl hr) (¬0) (@aX _ _ _ _ _ ab) (aZ _))
      (@aj _ _ _ _ _ (@aJ _ _ _ _ _ ac))
      (@a8 _ _))
      (@aj _ _ _ _ _ (@aJ _ _ _ _ _ (@pK _ _ _ _ _ _ _ _ _ rfl (¬0) (ac∘ab) (by rfl) (by rfl) (by rfl) (by rfl) (by rfl))))))
noncomputable def ie:FT:=(aR (au (cQ true) (ae 1) (vC (.int 0))))
noncomputable def jz:FS:=(ui 0 1 (aa (ae 1) (aa (au aB (ae 0) (ae 1)) ag)))
noncomputable def wZ:FS:=(aA (hE (2 ^ 4200) ie jz)
    (bJ (aL (g1 qd) (aa (ae 0) ag))))
noncomputable def mN:FM:=iz 2 0 ([0,1]++[]) wZ
theorem uj:aO ["_law_one","_law_other"] ["_law_one","_law_other"] (am m7):=⟨rfl,rfl,rfl,by decide+kernel,rfl,by decide+kernel,by decide+kernel⟩
theorem yI(h:bj K mg "_law_gcd" m7 f fd ["_law_one","_law_other"])(T:jh mg):aN P w K mg base bV 1 f fd ["_law_one","_law_other"] (cf K 2 mN):=by
  have nd:=uj.nd
  exact h.fn uj rfl rfl (fun cdv A outer s H E hr=>(@af _ _ _ _ _ _ _ _ (@j8 _ _ _ _ _ _ _ _ _ PassesOwn.never (@a_ _ _ _ _ _ _ _ _ _ (@AY _ _ _ rfl hr) (¬1) ac (aZ _))
      (@aj _ _ _ _ _ (@zG _ _ _ _ _ 0 1 _ _ _ _ _ _ _ _ _ rfl nd rfl rfl (by decide) rfl rfl ((¬1)∘((@aD _ _ _ _ _ _ _ (¬0) (¬1))∘ab)) (by rfl) (by rfl))))
      (@aj _ _ _ _ _ (@aJ _ _ _ _ _ (@aV _ _ _ _ _ _ _ _ _ (@b_abs _ _) (by rfl) T.b_abs ((¬0)∘ab) (by decide) (by decide) (by rfl) (by rfl))))))
noncomputable def w_:FS:=(aA (aT 2 (cm 2 mN (aa (ae 0) (aa (ae 1) ag))))
    (bJ (a' (aa (au du (ae 0) (ae 2)) (aa (au du (ae 1) (ae 2)) ag)))))
noncomputable def k9:FM:=iz 2 1 ([2]++[]) w_
theorem uk:aO ["_law_top","_law_bottom","_law_common"] ["_law_top","_law_bottom"] (am m9):=⟨rfl,rfl,rfl,by decide+kernel,rfl,by decide+kernel,by decide+kernel⟩
theorem yJ(h:bj K mg "_law_low" m9 f fd ["_law_top","_law_bottom"])(T:jh mg){fLgcd:Addr}{eLgcd:FuncData}(hLgcd:bj K mg "_law_gcd" m7 fLgcd eLgcd ["_law_one","_law_other"])(GLgcd:aN P w K mg base bV 1 fLgcd eLgcd ["_law_one","_law_other"] (cf K 2 mN)):aN P w K mg base bV 2 f fd ["_law_top","_law_bottom"] (cf K 2 k9):=by
  have nd:=uk.nd
  exact h.fn uk rfl rfl (fun cdv A outer s H E hr=>(@af _ _ _ _ _ _ _ _ (@ap _ _ _ _ _ 2 _ _ nd rfl (Or.inl rfl) (@aS _ _ _ _ _ _ _ _ _ _ _ _ _ _ _ hLgcd GLgcd (hr.mono (by decide)) ((¬0)∘((¬1)∘ab)) (by rfl) (by decide) (by rfl) (by rfl)) (by rfl) (by trivial))
      (@aj _ _ _ _ _ (@aJ _ _ _ _ _ (@az _ _ _ _ _ _ ((@eG _ _ _ _ _ _ _ (¬0) (¬2))∘((@eG _ _ _ _ _ _ _ (¬1) (¬2))∘ab)))))))
noncomputable def rl:FS:=(aA (g_ (aR (ae 1))
    (bJ (au A_ (ae 0) (vC (.bool true))))
    dz)
    (bJ (au A_ (ae 0) (vC (.bool false)))))
noncomputable def jW:FM:=iz 2 0 (([]++[])++[]) rl
theorem pO:aO ["_law_found","_law_due"] ["_law_found","_law_due"] (am j'):=⟨rfl,rfl,rfl,by decide+kernel,rfl,by decide+kernel,by decide+kernel⟩
theorem vz(h:bj K mg "_law_says" j' f fd ["_law_found","_law_due"])(T:jh mg):aN P w K mg base bV 1 f fd ["_law_found","_law_due"] (cf K 2 jW):=by
  have nd:=pO.nd
  exact h.fn pO rfl rfl (fun cdv A outer s H E hr=>(@af _ _ _ _ _ _ _ _ (@cw _ _ _ _ _ _ _ _ _ _ _ (@gb _ _ _ _ (¬1) (by intro _;rfl))
      (@aj _ _ _ _ _ (@aJ _ _ _ _ _ (@j4 _ _ _ _ _ _ _ _ _ (@AW _ _) (¬0) (@dJ _ _ _ _ _) (aZ _))))
      (@a8 _ _))
      (@aj _ _ _ _ _ (@aJ _ _ _ _ _ (@j4 _ _ _ _ _ _ _ _ _ (@AW _ _) (¬0) (@dJ _ _ _ _ _) (aZ _))))))
noncomputable def fF:FS:=(aA (g_ (aR (au (cQ false) (ae 1) (vC (.int 0))))
    (bJ (au fP (cv (aa (a' (aa (vC (.int 1)) (aa (vC (.int 2)) ag))) (aa (a' (aa (vC (.int 1)) (aa (vC (.int 3)) ag))) (aa (a' (aa (vC (.int 2)) (aa (vC (.int 3)) ag))) (aa (a' (aa (vC (.int 1)) (aa (vC (.int 1)) ag))) (aa (a' (aa (vC (.int 0)) (aa (vC (.int 1)) ag))) (aa (a' (aa (vC (.int 3)) (aa (vC (.int 4)) ag))) ag))))))) (au aB (ae 0) (vC (.int 6)))))
    dz)
    (aA (g_ (aR (au (cQ false) (ae 1) (vC (.int 1))))
    (aA (aT 2 (au aU (vC (.int 2)) (au aB (ae 0) (vC (.int 9)))))
    (bJ (cm 2 k9 (aa (au aU (vC (.int 1)) (au aB (au du (ae 0) (vC (.int 9))) (au dD (ae 2) (vC (.int 1))))) (aa (ae 2) ag)))))
    dz)
    (aA (g_ (aR (au (cQ false) (ae 1) (vC (.int 2))))
    (aA (aT 2 (au aU (vC (.int 1)) (au aB (ae 0) (vC (.int 100)))))
    (bJ (cm 2 k9 (aa (au aB (au du (ae 0) (vC (.int 100))) (au aU (ae 2) (vC (.int 1)))) (aa (ae 2) ag)))))
    dz)
    (bJ (a' (aa (vC (.int 1)) (aa (vC (.int 1)) ag)))))))
noncomputable def bR:FM:=iz 2 1 (([]++[])++((([2]++[])++[])++((([2]++[])++[])++[]))) fF
theorem li:aO ["_law_number","_law_kind","_law_bottom"] ["_law_number","_law_kind"] (am ek):=⟨rfl,rfl,rfl,by decide+kernel,rfl,by decide+kernel,by decide+kernel⟩
theorem qu(h:bj K mg "_law_chance" ek f fd ["_law_number","_law_kind"])(T:jh mg){fLlow:Addr}{eLlow:FuncData}(hLlow:bj K mg "_law_low" m9 fLlow eLlow ["_law_top","_law_bottom"])(GLlow:aN P w K mg base bV 2 fLlow eLlow ["_law_top","_law_bottom"] (cf K 2 k9)):aN P w K mg base bV 3 f fd ["_law_number","_law_kind"] (cf K 2 bR):=by
  have nd:=li.nd
  exact h.fn li rfl rfl (fun cdv A outer s H E hr=>(@af _ _ _ _ _ _ _ _ (@cw _ _ _ _ _ _ _ _ _ _ _ (@a_ _ _ _ _ _ _ _ _ _ (@ig _ _ _ rfl hr) (¬1) ac (aZ _))
      (@aj _ _ _ _ _ (@aJ _ _ _ _ _ (@dU _ _ _ _ _ _ _ rfl (@aX _ _ _ _ _ ((@az _ _ _ _ _ _ (ac∘(ac∘ab)))∘((@az _ _ _ _ _ _ (ac∘(ac∘ab)))∘((@az _ _ _ _ _ _ (ac∘(ac∘ab)))∘((@az _ _ _ _ _ _ (ac∘(ac∘ab)))∘((@az _ _ _ _ _ _ (ac∘(ac∘ab)))∘((@az _ _ _ _ _ _ (ac∘(ac∘ab)))∘ab))))))) (@aD _ _ _ _ _ _ _ (¬0) ac) (fun _ _=>rfl))))
      (@a8 _ _))
      (@af _ _ _ _ _ _ _ _ (@cw _ _ _ _ _ _ _ _ _ _ _ (@a_ _ _ _ _ _ _ _ _ _ (@ig _ _ _ rfl hr) (¬1) ac (aZ _))
      (@af _ _ _ _ _ _ _ _ (@ap _ _ _ _ _ 2 _ _ nd rfl (Or.inl rfl) (@aQ _ _ _ _ _ _ _ rfl ac (@aD _ _ _ _ _ _ _ (¬0) ac)) (by rfl) (by trivial))
      (@aj _ _ _ _ _ (@aJ _ _ _ _ _ (@aS _ _ _ _ _ _ _ _ _ _ _ _ _ _ _ hLlow GLlow (hr.mono (by decide)) ((@aQ _ _ _ _ _ _ _ rfl ac (@aD _ _ _ _ _ _ _ (@eG _ _ _ _ _ _ _ (¬0) ac) (@iC _ _ _ _ _ _ _ (¬2) ac)))∘((¬2)∘ab)) (by rfl) (by decide) (by rfl) (by rfl)))))
      (@a8 _ _))
      (@af _ _ _ _ _ _ _ _ (@cw _ _ _ _ _ _ _ _ _ _ _ (@a_ _ _ _ _ _ _ _ _ _ (@ig _ _ _ rfl hr) (¬1) ac (aZ _))
      (@af _ _ _ _ _ _ _ _ (@ap _ _ _ _ _ 2 _ _ nd rfl (Or.inl rfl) (@aQ _ _ _ _ _ _ _ rfl ac (@aD _ _ _ _ _ _ _ (¬0) ac)) (by rfl) (by trivial))
      (@aj _ _ _ _ _ (@aJ _ _ _ _ _ (@aS _ _ _ _ _ _ _ _ _ _ _ _ _ _ _ hLlow GLlow (hr.mono (by decide)) ((@aD _ _ _ _ _ _ _ (@eG _ _ _ _ _ _ _ (¬0) ac) (@aQ _ _ _ _ _ _ _ rfl (¬2) ac))∘((¬2)∘ab)) (by rfl) (by decide) (by rfl) (by rfl)))))
      (@a8 _ _))
      (@aj _ _ _ _ _ (@aJ _ _ _ _ _ (@az _ _ _ _ _ _ (ac∘(ac∘ab)))))))))
noncomputable def pb:FS:=(bJ (au fP (cv (aa (au aB (ae 0) (vC (.int 7))) (aa (au aU (vC (.int 5)) (au aB (ae 0) (vC (.int 2)))) (aa (au aB (ae 0) (vC (.int 1001))) (aa (au dD (vC (.int 1000)) (au aB (ae 0) (vC (.int 3)))) ag))))) (au aB (ae 1) (vC (.int 4)))))
noncomputable def dS:FM:=iz 2 0 [] pb
theorem nv:aO ["_law_number","_law_kind"] ["_law_number","_law_kind"] (am eZ):=⟨rfl,rfl,rfl,by decide+kernel,rfl,by decide+kernel,by decide+kernel⟩
theorem sO(h:bj K mg "_law_worth" eZ f fd ["_law_number","_law_kind"])(T:jh mg):aN P w K mg base bV 1 f fd ["_law_number","_law_kind"] (cf K 2 dS):=by
  have nd:=nv.nd
  exact h.fn nv rfl rfl (fun cdv A outer s H E hr=>(@aj _ _ _ _ _ (@aJ _ _ _ _ _ (@dU _ _ _ _ _ _ _ rfl (@aX _ _ _ _ _ ((@aD _ _ _ _ _ _ _ (¬0) ac)∘((@aQ _ _ _ _ _ _ _ rfl ac (@aD _ _ _ _ _ _ _ (¬0) ac))∘((@aD _ _ _ _ _ _ _ (¬0) ac)∘((@iC _ _ _ _ _ _ _ ac (@aD _ _ _ _ _ _ _ (¬0) ac))∘ab))))) (@aD _ _ _ _ _ _ _ (¬1) ac) (fun _ _=>rfl)))))
noncomputable def jT:FI:=(bI (aa (ae 2) ag))
noncomputable def eI:FS:=(aA (aT 8 (cm 1 ax (aa (ae 0) ag)))
    (aA (aT 9 (au fP (cv (aa (au aB (ae 8) (ae 1)) (aa (vC (.int 0)) (aa (au aB (ae 7) (ae 1)) (aa (au aB (ae 8) (ae 1)) (aa (au aB (ae 8) (vC (.int 2))) (aa (au aB (ae 8) (ae 1)) ag))))))) (ae 3)))
    (aA (aT 10 (au aB (au aU (au aU (ae 9) (vC (.int 1))) (au aB (au du (ae 8) (vC (.int 12))) (au dD (ae 1) (vC (.int 1))))) (ae 1)))
    (aA (g_ (aR (au (cQ false) (ae 3) (vC (.int 4))))
    (qG (a' (aa (vC (.int 0)) (aa (vC (.int 1)) ag))) (dI (aC (ah 9) (aC (ah 10) c7))))
    dz)
    (aA (aT 11 (cm 1 ax (aa (ae 0) ag)))
    (aA (aT 12 (a' (aa (aL (g2 lO) (aa (ae 9) (aa (ae 10) ag))) (aa (aL (g2 iZ) (aa (ae 9) (aa (ae 10) ag))) ag))))
    (c8 (bZ ba (ae 6) (aa (au aU (ae 12) (a' (aa (cm 2 bR (aa (ae 11) (aa (ae 4) ag))) (aa (cm 2 dS (aa (au du (ae 11) (vC (.int 10007))) (aa (ae 5) ag))) ag)))) ag)))))))))
noncomputable def rm:FS:=(aA (aT 3 (au aB (cm 1 ax (aa (ae 0) ag)) (vC (.int 6))))
    (aA (aT 4 (au aB (cm 1 ax (aa (ae 0) ag)) (vC (.int 4))))
    (aA (aT 5 (au aB (cm 1 ax (aa (ae 0) ag)) (vC (.int 4))))
    (aA (aT 6 (cv ag))
    (aA (cG ([7]++([8]++([9]++([10]++((([9]++([10]++[]))++[])++([11]++([12]++[]))))))) jT (ah 7) eI)
    (bJ (aL (g1 df) (aa (ae 6) ag))))))))
noncomputable def fX:FM:=iz 3 10 ([3]++([4]++([5]++([6]++(([7]++([8]++([9]++([10]++((([9]++([10]++[]))++[])++([11]++([12]++[])))))))++[]))))) rm
theorem pP:aO ["_law_drawn","_law_things","_law_many","_law_shape","_law_odds","_law_worths","_law_found","_law_k","_law_number","_law_one","_law_other","_law_cell","_law_ends"] ["_law_drawn","_law_things","_law_many"] (am jd):=⟨rfl,rfl,rfl,by decide+kernel,rfl,by decide+kernel,by decide+kernel⟩
theorem vA(h:bj K mg "_law_ties" jd f fd ["_law_drawn","_law_things","_law_many"])(T:jh mg){fLnext:Addr}{eLnext:FuncData}(hLnext:bj K mg "_law_next" dj fLnext eLnext ["_law_drawn"])(GLnext:aN P w K mg base bV 1 fLnext eLnext ["_law_drawn"] (cf K 1 ax)){fLchance:Addr}{eLchance:FuncData}(hLchance:bj K mg "_law_chance" ek fLchance eLchance ["_law_number","_law_kind"])(GLchance:aN P w K mg base bV 3 fLchance eLchance ["_law_number","_law_kind"] (cf K 2 bR)){fLworth:Addr}{eLworth:FuncData}(hLworth:bj K mg "_law_worth" eZ fLworth eLworth ["_law_number","_law_kind"])(GLworth:aN P w K mg base bV 1 fLworth eLworth ["_law_number","_law_kind"] (cf K 2 dS)):aN P w K mg base bV 4 f fd ["_law_drawn","_law_things","_law_many"] (cf K 3 fX):=by
  have nd:=pP.nd
  exact h.fn pP rfl rfl (fun cdv A outer s H E hr=>(@af _ _ _ _ _ _ _ _ (@ap _ _ _ _ _ 3 _ _ nd rfl (Or.inl rfl) (@aD _ _ _ _ _ _ _ (@aS _ _ _ _ _ _ _ _ _ _ _ _ _ _ _ hLnext GLnext (hr.mono (by decide)) ((¬0)∘ab) (by rfl) (by decide) (by rfl) (by rfl)) ac) (by rfl) (by trivial))
      (@af _ _ _ _ _ _ _ _ (@ap _ _ _ _ _ 4 _ _ nd rfl (Or.inl rfl) (@aD _ _ _ _ _ _ _ (@aS _ _ _ _ _ _ _ _ _ _ _ _ _ _ _ hLnext GLnext (hr.mono (by decide)) ((¬0)∘ab) (by rfl) (by decide) (by rfl) (by rfl)) ac) (by rfl) (by trivial))
      (@af _ _ _ _ _ _ _ _ (@ap _ _ _ _ _ 5 _ _ nd rfl (Or.inl rfl) (@aD _ _ _ _ _ _ _ (@aS _ _ _ _ _ _ _ _ _ _ _ _ _ _ _ hLnext GLnext (hr.mono (by decide)) ((¬0)∘ab) (by rfl) (by decide) (by rfl) (by rfl)) ac) (by rfl) (by trivial))
      (@af _ _ _ _ _ _ _ _ (@ap _ _ _ _ _ 6 _ _ nd rfl (Or.inl rfl) (@aX _ _ _ _ _ ab) (by rfl) (by trivial))
      (@af _ _ _ _ _ _ _ _ (@di _ _ _ _ _ _ _ _ _ _ _ PassesOwn.never rfl (@bx _ _ _ _ _ _ _ rfl T.b_range ((¬2)∘ab) (by rfl)) (@aF _ _ _ 7 _ nd rfl (Or.inl rfl) (by trivial))
      (@af _ _ _ _ _ _ _ _ (@ap _ _ _ _ _ 8 _ _ nd rfl (Or.inl rfl) (@aS _ _ _ _ _ _ _ _ _ _ _ _ _ _ _ hLnext GLnext (hr.mono (by decide)) ((¬0)∘ab) (by rfl) (by decide) (by rfl) (by rfl)) (by rfl) (by trivial))
      (@af _ _ _ _ _ _ _ _ (@ap _ _ _ _ _ 9 _ _ nd rfl (Or.inl rfl) (@dU _ _ _ _ _ _ _ rfl (@aX _ _ _ _ _ ((@aD _ _ _ _ _ _ _ (¬8) (¬1))∘(ac∘((@aD _ _ _ _ _ _ _ (¬7) (¬1))∘((@aD _ _ _ _ _ _ _ (¬8) (¬1))∘((@aD _ _ _ _ _ _ _ (¬8) ac)∘((@aD _ _ _ _ _ _ _ (¬8) (¬1))∘ab))))))) (¬3) (fun _ _=>rfl)) (by rfl) (by trivial))
      (@af _ _ _ _ _ _ _ _ (@ap _ _ _ _ _ 10 _ _ nd rfl (Or.inl rfl) (@aD _ _ _ _ _ _ _ (@aQ _ _ _ _ _ _ _ rfl (@aQ _ _ _ _ _ _ _ rfl (¬9) ac) (@aD _ _ _ _ _ _ _ (@eG _ _ _ _ _ _ _ (¬8) ac) (@iC _ _ _ _ _ _ _ (¬1) ac))) (¬1)) (by rfl) (by trivial))
      (@af _ _ _ _ _ _ _ _ (@cw _ _ _ _ _ _ _ _ _ _ _ (@a_ _ _ _ _ _ _ _ _ _ (@ig _ _ _ rfl hr) (¬3) ac (aZ _))
      (@aj _ _ _ _ _ (@tW _ _ _ _ _ _ _ _ (@az _ _ _ _ _ _ (ac∘(ac∘ab))) (@j7 _ _ _ _ _ _ _ _ rfl rfl (@bE _ _ _ _ _ _ _ _ (@aF _ _ _ 9 _ nd rfl (Or.inl rfl) (by trivial)) (@bE _ _ _ _ _ _ _ _ (@aF _ _ _ 10 _ nd rfl (Or.inl rfl) (by trivial)) (@iD _ _) (by rfl)) (by rfl)) (bX (bX jR)) (by rfl) (by rfl)) (by rfl) (by rfl) (by rfl)))
      (@a8 _ _))
      (@af _ _ _ _ _ _ _ _ (@ap _ _ _ _ _ 11 _ _ nd rfl (Or.inl rfl) (@aS _ _ _ _ _ _ _ _ _ _ _ _ _ _ _ hLnext GLnext (hr.mono (by decide)) ((¬0)∘ab) (by rfl) (by decide) (by rfl) (by rfl)) (by rfl) (by trivial))
      (@af _ _ _ _ _ _ _ _ (@ap _ _ _ _ _ 12 _ _ nd rfl (Or.inl rfl) (@az _ _ _ _ _ _ ((@aV _ _ _ _ _ _ _ _ _ (@b_min _ _ rfl) (by rfl) T.b_min ((¬9)∘((¬10)∘ab)) (by decide) (by decide) (by rfl) (by rfl))∘((@aV _ _ _ _ _ _ _ _ _ (@b_max _ _ rfl) (by rfl) T.b_max ((¬9)∘((¬10)∘ab)) (by decide) (by decide) (by rfl) (by rfl))∘ab))) (by rfl) (by trivial))
      (@aj _ _ _ _ _ (@bN _ _ _ _ _ (@br _ _ _ _ _ _ _ _ _ rfl (¬6) ((@aQ _ _ _ _ _ _ _ rfl (¬12) (@az _ _ _ _ _ _ ((@aS _ _ _ _ _ _ _ _ _ _ _ _ _ _ _ hLchance GLchance (hr.mono (by decide)) ((¬11)∘((¬4)∘ab)) (by rfl) (by decide) (by rfl) (by rfl))∘((@aS _ _ _ _ _ _ _ _ _ _ _ _ _ _ _ hLworth GLworth (hr.mono (by decide)) ((@eG _ _ _ _ _ _ _ (¬11) ac)∘((¬5)∘ab)) (by rfl) (by decide) (by rfl) (by rfl))∘ab))))∘ab) (by rfl) (by rfl) (by rfl) (by rfl) (by rfl)) (by rfl))))))))) (by intro _;rfl))
      (@aj _ _ _ _ _ (@aJ _ _ _ _ _ (@aV _ _ _ _ _ _ _ _ _ (@b_tuple _ _ rfl) (by rfl) T.b_tuple ((¬6)∘ab) (by decide) (by decide) (by rfl) (by rfl))))))))))
noncomputable def lS:FI:=(bI (aa (ae 3) ag))
noncomputable def jA:FS:=(c8 (bZ ba (ae 7) (aa (au fP (cv (aa (vC (.int 20)) (aa (au aU (vC (.int 1)) (au aB (cm 1 ax (aa (ae 0) ag)) (vC (.int 3)))) (aa (au aB (cm 1 ax (aa (ae 0) ag)) (vC (.int 21))) ag)))) (ae 6)) ag)))
noncomputable def xb:FS:=(aA (aT 3 (au aB (cm 1 ax (aa (ae 0) ag)) (au aU (ae 1) (vC (.int 1)))))
    (aA (aT 4 (au gQ (au aB (cm 1 ax (aa (ae 0) ag)) (au aU (ae 2) (vC (.int 1)))) (aL (g1 qe) (aa (au As (ae 3) (vC (.int 1))) ag))))
    (aA (aT 5 (cm 3 fX (aa (ae 0) (aa (aL (g2 iZ) (aa (vC (.int 2)) (aa (ae 3) ag))) (aa (ae 4) ag)))))
    (aA (aT 6 (au aB (cm 1 ax (aa (ae 0) ag)) (vC (.int 3))))
    (aA (aT 7 (cv ag))
    (aA (cG ([8]++[]) lS (ah 8) jA)
    (aA (aT 9 (au fP (cv (aa (vC (.int 40)) (aa (au aU (vC (.int 1)) (au aB (cm 1 ax (aa (ae 0) ag)) (aL (g2 iZ) (aa (vC (.int 1)) (aa (ae 4) ag))))) (aa (au aB (cm 1 ax (aa (ae 0) ag)) (vC (.int 41))) ag)))) (au aB (cm 1 ax (aa (ae 0) ag)) (vC (.int 3)))))
    (bJ (a' (aa (ae 3) (aa (ae 5) (aa (aL (g1 df) (aa (ae 7) ag)) (aa (ae 9) ag)))))))))))))
noncomputable def mP:FM:=iz 3 7 ([3]++([4]++([5]++([6]++([7]++(([8]++[])++([9]++[]))))))) xb
theorem um:aO ["_law_drawn","_law_most","_law_ties_here","_law_things","_law_many","_law_rows_here","_law_way","_law_patience","_law_k","_law_asks"] ["_law_drawn","_law_most","_law_ties_here"] (am ng):=⟨rfl,rfl,rfl,by decide+kernel,rfl,by decide+kernel,by decide+kernel⟩
theorem yL(h:bj K mg "_law_web" ng f fd ["_law_drawn","_law_most","_law_ties_here"])(T:jh mg){fLties:Addr}{eLties:FuncData}(hLties:bj K mg "_law_ties" jd fLties eLties ["_law_drawn","_law_things","_law_many"])(GLties:aN P w K mg base bV 4 fLties eLties ["_law_drawn","_law_things","_law_many"] (cf K 3 fX)){fLnext:Addr}{eLnext:FuncData}(hLnext:bj K mg "_law_next" dj fLnext eLnext ["_law_drawn"])(GLnext:aN P w K mg base bV 1 fLnext eLnext ["_law_drawn"] (cf K 1 ax)):aN P w K mg base bV 5 f fd ["_law_drawn","_law_most","_law_ties_here"] (cf K 3 mP):=by
  have nd:=um.nd
  exact h.fn um rfl rfl (fun cdv A outer s H E hr=>(@af _ _ _ _ _ _ _ _ (@ap _ _ _ _ _ 3 _ _ nd rfl (Or.inl rfl) (@aD _ _ _ _ _ _ _ (@aS _ _ _ _ _ _ _ _ _ _ _ _ _ _ _ hLnext GLnext (hr.mono (by decide)) ((¬0)∘ab) (by rfl) (by decide) (by rfl) (by rfl)) (@aQ _ _ _ _ _ _ _ rfl (¬1) ac)) (by rfl) (by trivial))
      (@af _ _ _ _ _ _ _ _ (@ap _ _ _ _ _ 4 _ _ nd rfl (Or.inl rfl) (@j5 _ _ _ _ _ _ _ rfl (@aD _ _ _ _ _ _ _ (@aS _ _ _ _ _ _ _ _ _ _ _ _ _ _ _ hLnext GLnext (hr.mono (by decide)) ((¬0)∘ab) (by rfl) (by decide) (by rfl) (by rfl)) (@aQ _ _ _ _ _ _ _ rfl (¬2) ac)) (@aV _ _ _ _ _ _ _ _ _ (@b_int _ _) (by rfl) T.b_int ((@j4 _ _ _ _ _ _ _ _ _ (@AV _ _) (¬3) ac (aZ _))∘ab) (by decide) (by decide) (by rfl) (by rfl))) (by rfl) (by trivial))
      (@af _ _ _ _ _ _ _ _ (@ap _ _ _ _ _ 5 _ _ nd rfl (Or.inl rfl) (@aS _ _ _ _ _ _ _ _ _ _ _ _ _ _ _ hLties GLties (hr.mono (by decide)) ((¬0)∘((@aV _ _ _ _ _ _ _ _ _ (@b_max _ _ rfl) (by rfl) T.b_max (ac∘((¬3)∘ab)) (by decide) (by decide) (by rfl) (by rfl))∘((¬4)∘ab))) (by rfl) (by decide) (by rfl) (by rfl)) (by rfl) (by trivial))
      (@af _ _ _ _ _ _ _ _ (@ap _ _ _ _ _ 6 _ _ nd rfl (Or.inl rfl) (@aD _ _ _ _ _ _ _ (@aS _ _ _ _ _ _ _ _ _ _ _ _ _ _ _ hLnext GLnext (hr.mono (by decide)) ((¬0)∘ab) (by rfl) (by decide) (by rfl) (by rfl)) ac) (by rfl) (by trivial))
      (@af _ _ _ _ _ _ _ _ (@ap _ _ _ _ _ 7 _ _ nd rfl (Or.inl rfl) (@aX _ _ _ _ _ ab) (by rfl) (by trivial))
      (@af _ _ _ _ _ _ _ _ (@di _ _ _ _ _ _ _ _ _ _ _ PassesOwn.never rfl (@bx _ _ _ _ _ _ _ rfl T.b_range ((¬3)∘ab) (by rfl)) (@aF _ _ _ 8 _ nd rfl (Or.inl rfl) (by trivial))
      (@aj _ _ _ _ _ (@bN _ _ _ _ _ (@br _ _ _ _ _ _ _ _ _ rfl (¬7) ((@dU _ _ _ _ _ _ _ rfl (@aX _ _ _ _ _ (ac∘((@aQ _ _ _ _ _ _ _ rfl ac (@aD _ _ _ _ _ _ _ (@aS _ _ _ _ _ _ _ _ _ _ _ _ _ _ _ hLnext GLnext (hr.mono (by decide)) ((¬0)∘ab) (by rfl) (by decide) (by rfl) (by rfl)) ac))∘((@aD _ _ _ _ _ _ _ (@aS _ _ _ _ _ _ _ _ _ _ _ _ _ _ _ hLnext GLnext (hr.mono (by decide)) ((¬0)∘ab) (by rfl) (by decide) (by rfl) (by rfl)) ac)∘ab)))) (¬6) (fun _ _=>rfl))∘ab) (by rfl) (by rfl) (by rfl) (by rfl) (by rfl)) (by rfl))) (by intro _;rfl))
      (@af _ _ _ _ _ _ _ _ (@ap _ _ _ _ _ 9 _ _ nd rfl (Or.inl rfl) (@dU _ _ _ _ _ _ _ rfl (@aX _ _ _ _ _ (ac∘((@aQ _ _ _ _ _ _ _ rfl ac (@aD _ _ _ _ _ _ _ (@aS _ _ _ _ _ _ _ _ _ _ _ _ _ _ _ hLnext GLnext (hr.mono (by decide)) ((¬0)∘ab) (by rfl) (by decide) (by rfl) (by rfl)) (@aV _ _ _ _ _ _ _ _ _ (@b_max _ _ rfl) (by rfl) T.b_max (ac∘((¬4)∘ab)) (by decide) (by decide) (by rfl) (by rfl))))∘((@aD _ _ _ _ _ _ _ (@aS _ _ _ _ _ _ _ _ _ _ _ _ _ _ _ hLnext GLnext (hr.mono (by decide)) ((¬0)∘ab) (by rfl) (by decide) (by rfl) (by rfl)) ac)∘ab)))) (@aD _ _ _ _ _ _ _ (@aS _ _ _ _ _ _ _ _ _ _ _ _ _ _ _ hLnext GLnext (hr.mono (by decide)) ((¬0)∘ab) (by rfl) (by decide) (by rfl) (by rfl)) ac) (fun _ _=>rfl)) (by rfl) (by trivial))
      (@aj _ _ _ _ _ (@aJ _ _ _ _ _ (@az _ _ _ _ _ _ ((¬3)∘((¬5)∘((@aV _ _ _ _ _ _ _ _ _ (@b_tuple _ _ rfl) (by rfl) T.b_tuple ((¬7)∘ab) (by decide) (by decide) (by rfl) (by rfl))∘((¬9)∘ab)))))))))))))))
noncomputable def xa:FS:=(aA (aT 1 (cv (aa (vC .none) (aa (vC (.bool true)) (aa (vC (.bool false)) (aa (vC (.int 0)) (aa (vC (.int 1)) (aa (md qf (vC (.int 1))) (aa (vC (.int 5)) (aa (vC (.str ("":Str))) (aa (vC (.str ("a":Str))) (aa (vC (.str ("0":Str))) (aa (a' ag) (aa (a' (aa (vC (.int 0)) ag)) (aa (a' (aa (vC (.int 0)) (aa (vC (.int 1)) ag))) (aa (a' (aa (a' ag) (aa (a' ag) ag))) (aa (cv ag) (aa (cv (aa (vC (.int 0)) ag)) (aa (ki []) (aa (ki [(0,1)]) ag))))))))))))))))))))
    (aA (aT 1 (au aU (ae 1) (cv (aa (a' (aa (vC .none) ag)) (aa (a' (aa (a' ag) ag)) (aa (cv (aa (a' ag) ag)) (aa (a' (aa (vC (.bool true)) (aa (vC (.bool false)) ag))) (aa (a' (aa (a' (aa (vC (.int 0)) (aa (vC (.int 1)) ag))) (aa (a' (aa (vC (.int 1)) (aa (vC (.int 2)) ag))) ag))) (aa (a' (aa (a' (aa (a' ag) (aa (a' ag) ag))) ag)) (aa (a' (aa (vC (.str ("a":Str))) (aa (vC (.int 1)) ag))) (aa (a' (aa (a' (aa (vC (.int 0)) (aa (vC (.int 1)) ag))) ag)) (aa (au lP (vC (.int 10)) (vC (.int 30))) ag))))))))))))
    (bJ (au fP (ae 1) (au aB (ae 0) (aL (g1 eE) (aa (ae 1) ag)))))))
noncomputable def mO:FM:=iz 1 1 ([1]++([1]++[])) xa
theorem ul:aO ["_law_number","_law_odd_here"] ["_law_number"] (am m_):=⟨rfl,rfl,rfl,by decide+kernel,rfl,by decide+kernel,by decide+kernel⟩
theorem yK(h:bj K mg "_law_odd" m_ f fd ["_law_number"])(T:jh mg):aN P w K mg base bV 1 f fd ["_law_number"] (cf K 1 mO):=by
  have nd:=ul.nd
  exact h.fn ul rfl rfl (fun cdv A outer s H E hr=>(@af _ _ _ _ _ _ _ _ (@ap _ _ _ _ _ 1 _ _ nd rfl (Or.inl rfl) (@aX _ _ _ _ _ ((@oA _ _ _ _)∘((@dJ _ _ _ _ _)∘((@dJ _ _ _ _ _)∘(ac∘(ac∘((@tP _ _ _ _ _ ac)∘(ac∘((@j6 _ _ _ _ _)∘((@j6 _ _ _ _ _)∘((@j6 _ _ _ _ _)∘((@az _ _ _ _ _ _ ab)∘((@az _ _ _ _ _ _ (ac∘ab))∘((@az _ _ _ _ _ _ (ac∘(ac∘ab)))∘((@az _ _ _ _ _ _ ((@az _ _ _ _ _ _ ab)∘((@az _ _ _ _ _ _ ab)∘ab)))∘((@aX _ _ _ _ _ ab)∘((@aX _ _ _ _ _ (ac∘ab))∘((@tU _ _ _)∘((@m6 _ _ _ _ _ _ _ _ _)∘ab))))))))))))))))))) (by rfl) (by trivial))
      (@af _ _ _ _ _ _ _ _ (@ap _ _ _ _ _ 1 _ _ nd rfl (Or.inl rfl) (@aQ _ _ _ _ _ _ _ rfl (¬1) (@aX _ _ _ _ _ ((@az _ _ _ _ _ _ ((@oA _ _ _ _)∘ab))∘((@az _ _ _ _ _ _ ((@az _ _ _ _ _ _ ab)∘ab))∘((@aX _ _ _ _ _ ((@az _ _ _ _ _ _ ab)∘ab))∘((@az _ _ _ _ _ _ ((@dJ _ _ _ _ _)∘((@dJ _ _ _ _ _)∘ab)))∘((@az _ _ _ _ _ _ ((@az _ _ _ _ _ _ (ac∘(ac∘ab)))∘((@az _ _ _ _ _ _ (ac∘(ac∘ab)))∘ab)))∘((@az _ _ _ _ _ _ ((@az _ _ _ _ _ _ ((@az _ _ _ _ _ _ ab)∘((@az _ _ _ _ _ _ ab)∘ab)))∘ab))∘((@az _ _ _ _ _ _ ((@j6 _ _ _ _ _)∘(ac∘ab)))∘((@az _ _ _ _ _ _ ((@az _ _ _ _ _ _ (ac∘(ac∘ab)))∘ab))∘((@tQ _ _ _ _ _ _ _ ac ac)∘ab))))))))))) (by rfl) (by trivial))
      (@aj _ _ _ _ _ (@aJ _ _ _ _ _ (@dU _ _ _ _ _ _ _ rfl (¬1) (@aD _ _ _ _ _ _ _ (¬0) (@aV _ _ _ _ _ _ _ _ _ (@b_len _ _ rfl) (by rfl) T.b_len ((¬1)∘ab) (by decide) (by decide) (by rfl) (by rfl))) (fun _ _=>rfl)))))))
noncomputable def i4:FI:=(iq (au fP (ae 0) (vC (.int 1))))
noncomputable def gj:FS:=(aA (g_ (aR (au (cQ false) (ae 1) (ae 3)))
    (c8 (bZ ba (ae 2) (aa (ae 4) ag)))
    dz)
    (g_ (aR (au (cQ false) (ae 1) (ae 4)))
    (c8 (bZ ba (ae 2) (aa (ae 3) ag)))
    dz))
noncomputable def o6:FS:=(aA (aT 2 (cv ag))
    (aA (cG (([3]++([4]++([5]++([6]++[]))))++(([]++[])++([]++[]))) i4 (dI (aC (ah 3) (aC (ah 4) (aC (ah 5) (aC (ah 6) c7))))) gj)
    (bJ (ae 2))))
noncomputable def eY:FM:=iz 2 5 ([2]++((([3]++([4]++([5]++([6]++[]))))++(([]++[])++([]++[])))++[])) o6
theorem ni:aO ["_law_web_here","_law_thing","_law_found","_law_one","_law_other","_law_chance_here","_law_worth_here"] ["_law_web_here","_law_thing"] (am gF):=⟨rfl,rfl,rfl,by decide+kernel,rfl,by decide+kernel,by decide+kernel⟩
theorem sL(h:bj K mg "_law_mates" gF f fd ["_law_web_here","_law_thing"])(T:jh mg):aN P w K mg base bV 1 f fd ["_law_web_here","_law_thing"] (cf K 2 eY):=by
  have nd:=ni.nd
  exact h.fn ni rfl rfl (fun cdv A outer s H E hr=>(@af _ _ _ _ _ _ _ _ (@ap _ _ _ _ _ 2 _ _ nd rfl (Or.inl rfl) (@aX _ _ _ _ _ ab) (by rfl) (by trivial))
      (@af _ _ _ _ _ _ _ _ (@di _ _ _ _ _ _ _ _ _ _ _ PassesOwn.never rfl (@f_ _ _ _ _ _ rfl (@dU _ _ _ _ _ _ _ rfl (¬0) ac (fun _ _=>rfl))) (@j7 _ _ _ _ _ _ _ _ rfl rfl (@bE _ _ _ _ _ _ _ _ (@aF _ _ _ 3 _ nd rfl (Or.inl rfl) (by trivial)) (@bE _ _ _ _ _ _ _ _ (@aF _ _ _ 4 _ nd rfl (Or.inl rfl) (by trivial)) (@bE _ _ _ _ _ _ _ _ (@aF _ _ _ 5 _ nd rfl (Or.inl rfl) (by trivial)) (@bE _ _ _ _ _ _ _ _ (@aF _ _ _ 6 _ nd rfl (Or.inl rfl) (by trivial)) (@iD _ _) (by rfl)) (by rfl)) (by rfl)) (by rfl)) (bX (bX (bX (bX jR)))) (by rfl) (by rfl))
      (@af _ _ _ _ _ _ _ _ (@cw _ _ _ _ _ _ _ _ _ _ _ (@a_ _ _ _ _ _ _ _ _ _ (@ig _ _ _ rfl hr) (¬1) (¬3) (aZ _))
      (@aj _ _ _ _ _ (@bN _ _ _ _ _ (@br _ _ _ _ _ _ _ _ _ rfl (¬2) ((¬4)∘ab) (by rfl) (by rfl) (by rfl) (by rfl) (by rfl)) (by rfl)))
      (@a8 _ _))
      (@aj _ _ _ _ _ (@cw _ _ _ _ _ _ _ _ _ _ _ (@a_ _ _ _ _ _ _ _ _ _ (@ig _ _ _ rfl hr) (¬1) (¬4) (aZ _))
      (@aj _ _ _ _ _ (@bN _ _ _ _ _ (@br _ _ _ _ _ _ _ _ _ rfl (¬2) ((¬3)∘ab) (by rfl) (by rfl) (by rfl) (by rfl) (by rfl)) (by rfl)))
      (@a8 _ _)))) (by intro _;rfl))
      (@aj _ _ _ _ _ (@aJ _ _ _ _ _ (¬2))))))
noncomputable def fR:FI:=(bI (aa (aL (g1 eE) (aa (ae 1) ag)) ag))
noncomputable def eu:FT:=(aR (au (kW true) (au fP (ae 0) (ae 2)) (cm 2 eY (aa (ae 1) (aa (au fP (ae 0) (au dD (ae 2) (vC (.int 1)))) ag)))))
noncomputable def ez:FE:=(ae 2)
noncomputable def jl:FI:=(iq (ae 1))
noncomputable def ey:FT:=(aR (au As (oP false gC (ae 0) (ae 1)) (vC (.int 1))))
noncomputable def eA:FE:=(ae 1)
noncomputable def jm:FI:=(iq (ae 1))
noncomputable def cg:FT:=(q_ (jw (aR (md (gP "int") (ae 1)))) (q_ (aR (md (gP "bool") (ae 1))) (jw (aR (dm Au va (vC (.int 0)) (ae 1) (au fP (ae 0) (vC (.int 0))))))))
noncomputable def eB:FE:=(ae 1)
noncomputable def dc:FS:=(aA (g_ (q_ (jw (aR (md (gP "tuple") (ae 1)))) (q_ (aR (au va (aL (g1 eE) (aa (ae 1) ag)) (vC (.int 3)))) (aR (au (cQ false) (au aB (aL (g1 eE) (aa (ae 1) ag)) (vC (.int 2))) (vC (.int 0))))))
    (bJ (vC (.bool false)))
    dz)
    (aA (g_ (aR (au (lL true) (c9 [(0,"_law_web_here")] 1 jm (ah 1) cg eB) (cv ag)))
    (bJ (vC (.bool false)))
    dz)
    (aA (g_ (aR (au (lL true) (c9 [(1,"_law_thing")] 1 jl (ah 1) ey eA) (cv ag)))
    (bJ (vC (.bool false)))
    dz)
    (bJ (au (lL false) (c9 [(1,"_law_thing"),(0,"_law_web_here")] 1 fR (ah 2) eu ez) (cv ag))))))
noncomputable def bU:FM:=iz 2 0 (([]++[])++(([]++[])++(([]++[])++[]))) dc
theorem kb:aO ["_law_web_here","_law_thing"] ["_law_web_here","_law_thing"] (am cJ):=⟨rfl,rfl,rfl,by decide+kernel,rfl,by decide+kernel,by decide+kernel⟩
theorem oo(h:bj K mg "_law_is_ring" cJ f fd ["_law_web_here","_law_thing"])(T:jh mg){fLmates:Addr}{eLmates:FuncData}(hLmates:bj K mg "_law_mates" gF fLmates eLmates ["_law_web_here","_law_thing"])(GLmates:aN P w K mg base bV 1 fLmates eLmates ["_law_web_here","_law_thing"] (cf K 2 eY)):aN P w K mg base bV 2 f fd ["_law_web_here","_law_thing"] (cf K 2 bU):=by
  have nd:=kb.nd
  exact h.fn kb rfl rfl (fun cdv A outer s H E hr=>(@af _ _ _ _ _ _ _ _ (@cw _ _ _ _ _ _ _ _ _ _ _ (@tY _ _ _ _ (@j9 _ _ _ _ _ _ _ _ (@gY _ _ _ _ _ (@gb _ _ _ _ (@lc _ _ _ _ _ _ _ _ "tuple" rfl (by decide) rfl T.b_isinstance rfl T.b_tuple PyProof.Rows.boot_tuple (by decide) (by decide) (¬1) (by rfl) (by rfl)) (by intro _;rfl))) (@j9 _ _ _ _ _ _ _ _ (@a_ _ _ _ _ _ _ _ _ _ (@rq _ _) (@aV _ _ _ _ _ _ _ _ _ (@b_len _ _ rfl) (by rfl) T.b_len ((¬1)∘ab) (by decide) (by decide) (by rfl) (by rfl)) ac (aZ _)) (@l0 _ _ _ _ _ (@a_ _ _ _ _ _ _ _ _ _ (@ig _ _ _ rfl hr) (@aD _ _ _ _ _ _ _ (@aV _ _ _ _ _ _ _ _ _ (@b_len _ _ rfl) (by rfl) T.b_len ((¬1)∘ab) (by decide) (by decide) (by rfl) (by rfl)) ac) ac (aZ _))))))
      (@aj _ _ _ _ _ (@aJ _ _ _ _ _ (@dJ _ _ _ _ _)))
      (@a8 _ _))
      (@af _ _ _ _ _ _ _ _ (@cw _ _ _ _ _ _ _ _ _ _ _ (@a_ _ _ _ _ _ _ _ _ _ (@xg _ _ _ rfl hr) (@gW _ _ _ _ _ _ _ _ _ _ _ _ _ (am cJ) ["_law_web_here","_law_thing"] [(0,"_law_web_here")] ["_law_one"] rfl rfl rfl (@f_ _ _ _ _ _ rfl (¬1))
        (fun C s0 H0 fp=>(@aF _ _ _ 1 _ (show List.Nodup (["_law_web_here","_law_one"]:List Str) by decide+kernel) rfl (Or.inl rfl) (by trivial))) (fun C s0 H0 fp=>(@lZ _ _ _ _ (@tY _ _ _ _ (@j9 _ _ _ _ _ _ _ _ (@gY _ _ _ _ _ (@gb _ _ _ _ (@lc _ _ _ _ _ _ _ _ "int" rfl (by decide) rfl T.b_isinstance rfl T.b_int PyProof.Rows.boot_int (by decide) (by decide) (¬1) (by rfl) (by rfl)) (by intro _;rfl))) (@j9 _ _ _ _ _ _ _ _ (@gb _ _ _ _ (@lc _ _ _ _ _ _ _ _ "bool" rfl (by decide) rfl T.b_isinstance rfl T.b_bool PyProof.Rows.boot_bool (by decide) (by decide) (¬1) (by rfl) (by rfl)) (by intro _;rfl)) (@l0 _ _ _ _ _ (@gY _ _ _ _ _ (@tR _ _ _ _ _ _ _ _ _ _ _ _ _ (@xZ _ _) (@rq _ _) ac (¬1) (@dU _ _ _ _ _ _ _ rfl (¬0) ac (fun _ _=>rfl)) (by with_unfolding_all rfl)))))))))
        (fun C s0 H0 fp=>(¬1)) rfl (by decide+kernel) (by decide+kernel) (by decide+kernel) (by decide+kernel) (by decide+kernel) (by decide+kernel) (by decide+kernel) (by intro _;rfl)) (@aX _ _ _ _ _ ab) (aZ _))
      (@aj _ _ _ _ _ (@aJ _ _ _ _ _ (@dJ _ _ _ _ _)))
      (@a8 _ _))
      (@af _ _ _ _ _ _ _ _ (@cw _ _ _ _ _ _ _ _ _ _ _ (@a_ _ _ _ _ _ _ _ _ _ (@xg _ _ _ rfl hr) (@gW _ _ _ _ _ _ _ _ _ _ _ _ _ (am cJ) ["_law_web_here","_law_thing"] [(1,"_law_thing")] ["_law_one"] rfl rfl rfl (@f_ _ _ _ _ _ rfl (¬1))
        (fun C s0 H0 fp=>(@aF _ _ _ 1 _ (show List.Nodup (["_law_thing","_law_one"]:List Str) by decide+kernel) rfl (Or.inl rfl) (by trivial))) (fun C s0 H0 fp=>(@lZ _ _ _ _ (@a_ _ _ _ _ _ _ _ _ _ (@AV _ _) (@zB _ _ _ _ _ _ _ _ rfl (¬0) (¬1) (by rfl) (by rfl) (by rfl) (by rfl) (by rfl)) ac (aZ _))))
        (fun C s0 H0 fp=>(¬1)) rfl (by decide+kernel) (by decide+kernel) (by decide+kernel) (by decide+kernel) (by decide+kernel) (by decide+kernel) (by decide+kernel) (by intro _;rfl)) (@aX _ _ _ _ _ ab) (aZ _))
      (@aj _ _ _ _ _ (@aJ _ _ _ _ _ (@dJ _ _ _ _ _)))
      (@a8 _ _))
      (@aj _ _ _ _ _ (@aJ _ _ _ _ _ (@j4 _ _ _ _ _ _ _ _ _ (@AS _ _ _ rfl hr) (@gW _ _ _ _ _ _ _ _ _ _ _ _ _ (am cJ) ["_law_web_here","_law_thing"] [(1,"_law_thing"),(0,"_law_web_here")] ["_law_k"] rfl rfl rfl (@bx _ _ _ _ _ _ _ rfl T.b_range ((@aV _ _ _ _ _ _ _ _ _ (@b_len _ _ rfl) (by rfl) T.b_len ((¬1)∘ab) (by decide) (by decide) (by rfl) (by rfl))∘ab) (by rfl))
        (fun C s0 H0 fp=>(@aF _ _ _ 2 _ (show List.Nodup (["_law_thing","_law_web_here","_law_k"]:List Str) by decide+kernel) rfl (Or.inl rfl) (by trivial))) (fun C s0 H0 fp=>(@lZ _ _ _ _ (@a_ _ _ _ _ _ _ _ _ _ (@pd _ _ _ rfl hr) (@dU _ _ _ _ _ _ _ rfl (¬0) (¬2) (fun _ _=>rfl)) (@aS _ _ _ _ _ _ _ _ _ _ _ _ _ _ _ hLmates GLmates (hr.mono (by decide)) ((¬1)∘((@dU _ _ _ _ _ _ _ rfl (¬0) (@iC _ _ _ _ _ _ _ (¬2) ac) (fun _ _=>rfl))∘ab)) (by rfl) (by decide) (by rfl) (by rfl)) (by with_unfolding_all rfl))))
        (fun C s0 H0 fp=>(¬2)) rfl (by decide+kernel) (by decide+kernel) (by decide+kernel) (by decide+kernel) (by decide+kernel) (by decide+kernel) (by decide+kernel) (by intro _;rfl)) (@aX _ _ _ _ _ ab) (aZ _))))))))
noncomputable def gR:FI:=(bI (aa (ae 2) ag))
noncomputable def eV:FS:=(aA (aT 8 (cm 1 ax (aa (ae 0) ag)))
    (aA (aT 9 (cm 1 ax (aa (ae 0) ag)))
    (aA (aT 10 (a' (aa (au aB (ae 8) (ae 3)) (aa (au aU (ae 3) (au aB (au du (ae 8) (ae 3)) (au dD (ae 1) (ae 3)))) ag))))
    (c8 (bZ ba (ae 6) (aa (au aU (ae 10) (a' (aa (cm 2 bR (aa (ae 9) (aa (ae 4) ag))) (aa (cm 2 dS (aa (au du (ae 9) (vC (.int 10007))) (aa (ae 5) ag))) ag)))) ag))))))
noncomputable def mj:FS:=(aA (aT 3 (au aU (vC (.int 1)) (au aB (cm 1 ax (aa (ae 0) ag)) (au dD (ae 1) (vC (.int 1))))))
    (aA (aT 4 (au aB (cm 1 ax (aa (ae 0) ag)) (vC (.int 4))))
    (aA (aT 5 (au aB (cm 1 ax (aa (ae 0) ag)) (vC (.int 4))))
    (aA (aT 6 (cv ag))
    (aA (cG ([7]++([8]++([9]++([10]++[])))) gR (ah 7) eV)
    (bJ (aL (g1 df) (aa (ae 6) ag))))))))
noncomputable def fW:FM:=iz 3 8 ([3]++([4]++([5]++([6]++(([7]++([8]++([9]++([10]++[]))))++[]))))) mj
theorem lh:aO ["_law_numbers","_law_things","_law_many","_law_cut","_law_odds","_law_worths","_law_found","_law_k","_law_number","_law_cell","_law_ends"] ["_law_numbers","_law_things","_law_many"] (am gf):=⟨rfl,rfl,rfl,by decide+kernel,rfl,by decide+kernel,by decide+kernel⟩
theorem qt(h:bj K mg "_law_across" gf f fd ["_law_numbers","_law_things","_law_many"])(T:jh mg){fLnext:Addr}{eLnext:FuncData}(hLnext:bj K mg "_law_next" dj fLnext eLnext ["_law_drawn"])(GLnext:aN P w K mg base bV 1 fLnext eLnext ["_law_drawn"] (cf K 1 ax)){fLchance:Addr}{eLchance:FuncData}(hLchance:bj K mg "_law_chance" ek fLchance eLchance ["_law_number","_law_kind"])(GLchance:aN P w K mg base bV 3 fLchance eLchance ["_law_number","_law_kind"] (cf K 2 bR)){fLworth:Addr}{eLworth:FuncData}(hLworth:bj K mg "_law_worth" eZ fLworth eLworth ["_law_number","_law_kind"])(GLworth:aN P w K mg base bV 1 fLworth eLworth ["_law_number","_law_kind"] (cf K 2 dS)):aN P w K mg base bV 4 f fd ["_law_numbers","_law_things","_law_many"] (cf K 3 fW):=by
  have nd:=lh.nd
  exact h.fn lh rfl rfl (fun cdv A outer s H E hr=>(@af _ _ _ _ _ _ _ _ (@ap _ _ _ _ _ 3 _ _ nd rfl (Or.inl rfl) (@aQ _ _ _ _ _ _ _ rfl ac (@aD _ _ _ _ _ _ _ (@aS _ _ _ _ _ _ _ _ _ _ _ _ _ _ _ hLnext GLnext (hr.mono (by decide)) ((¬0)∘ab) (by rfl) (by decide) (by rfl) (by rfl)) (@iC _ _ _ _ _ _ _ (¬1) ac))) (by rfl) (by trivial))
      (@af _ _ _ _ _ _ _ _ (@ap _ _ _ _ _ 4 _ _ nd rfl (Or.inl rfl) (@aD _ _ _ _ _ _ _ (@aS _ _ _ _ _ _ _ _ _ _ _ _ _ _ _ hLnext GLnext (hr.mono (by decide)) ((¬0)∘ab) (by rfl) (by decide) (by rfl) (by rfl)) ac) (by rfl) (by trivial))
      (@af _ _ _ _ _ _ _ _ (@ap _ _ _ _ _ 5 _ _ nd rfl (Or.inl rfl) (@aD _ _ _ _ _ _ _ (@aS _ _ _ _ _ _ _ _ _ _ _ _ _ _ _ hLnext GLnext (hr.mono (by decide)) ((¬0)∘ab) (by rfl) (by decide) (by rfl) (by rfl)) ac) (by rfl) (by trivial))
      (@af _ _ _ _ _ _ _ _ (@ap _ _ _ _ _ 6 _ _ nd rfl (Or.inl rfl) (@aX _ _ _ _ _ ab) (by rfl) (by trivial))
      (@af _ _ _ _ _ _ _ _ (@di _ _ _ _ _ _ _ _ _ _ _ PassesOwn.never rfl (@bx _ _ _ _ _ _ _ rfl T.b_range ((¬2)∘ab) (by rfl)) (@aF _ _ _ 7 _ nd rfl (Or.inl rfl) (by trivial))
      (@af _ _ _ _ _ _ _ _ (@ap _ _ _ _ _ 8 _ _ nd rfl (Or.inl rfl) (@aS _ _ _ _ _ _ _ _ _ _ _ _ _ _ _ hLnext GLnext (hr.mono (by decide)) ((¬0)∘ab) (by rfl) (by decide) (by rfl) (by rfl)) (by rfl) (by trivial))
      (@af _ _ _ _ _ _ _ _ (@ap _ _ _ _ _ 9 _ _ nd rfl (Or.inl rfl) (@aS _ _ _ _ _ _ _ _ _ _ _ _ _ _ _ hLnext GLnext (hr.mono (by decide)) ((¬0)∘ab) (by rfl) (by decide) (by rfl) (by rfl)) (by rfl) (by trivial))
      (@af _ _ _ _ _ _ _ _ (@ap _ _ _ _ _ 10 _ _ nd rfl (Or.inl rfl) (@az _ _ _ _ _ _ ((@aD _ _ _ _ _ _ _ (¬8) (¬3))∘((@aQ _ _ _ _ _ _ _ rfl (¬3) (@aD _ _ _ _ _ _ _ (@eG _ _ _ _ _ _ _ (¬8) (¬3)) (@iC _ _ _ _ _ _ _ (¬1) (¬3))))∘ab))) (by rfl) (by trivial))
      (@aj _ _ _ _ _ (@bN _ _ _ _ _ (@br _ _ _ _ _ _ _ _ _ rfl (¬6) ((@aQ _ _ _ _ _ _ _ rfl (¬10) (@az _ _ _ _ _ _ ((@aS _ _ _ _ _ _ _ _ _ _ _ _ _ _ _ hLchance GLchance (hr.mono (by decide)) ((¬9)∘((¬4)∘ab)) (by rfl) (by decide) (by rfl) (by rfl))∘((@aS _ _ _ _ _ _ _ _ _ _ _ _ _ _ _ hLworth GLworth (hr.mono (by decide)) ((@eG _ _ _ _ _ _ _ (¬9) ac)∘((¬5)∘ab)) (by rfl) (by decide) (by rfl) (by rfl))∘ab))))∘ab) (by rfl) (by rfl) (by rfl) (by rfl) (by rfl)) (by rfl)))))) (by intro _;rfl))
      (@aj _ _ _ _ _ (@aJ _ _ _ _ _ (@aV _ _ _ _ _ _ _ _ _ (@b_tuple _ _ rfl) (by rfl) T.b_tuple ((¬6)∘ab) (by decide) (by decide) (by rfl) (by rfl))))))))))
noncomputable def fU:FI:=(iq (ae 2))
noncomputable def dt:FS:=(c8 (bZ ba (ae 6) (aa (a' (aa (aL (g2 lO) (aa (au fP (ae 4) (ae 7)) (aa (au fP (ae 4) (ae 8)) ag))) (aa (aL (g2 iZ) (aa (au fP (ae 4) (ae 7)) (aa (au fP (ae 4) (ae 8)) ag))) (aa (ae 9) (aa (ae 10) ag))))) ag)))
noncomputable def fV:FI:=(bI (aa (ae 1) ag))
noncomputable def er:FS:=(c8 (bZ ba (ae 4) (aa (bZ gS (ae 3) (aa (au aB (cm 1 ax (aa (ae 0) ag)) (aL (g1 eE) (aa (ae 3) ag))) ag)) ag)))
noncomputable def iT:FS:=(aA (aT 3 (iP (aa (ae 1) ag)))
    (aA (aT 4 (cv ag))
    (aA (cG ([5]++[]) fV (ah 5) er)
    (aA (aT 6 (cv ag))
    (aA (cG (([7]++([8]++([9]++([10]++[]))))++[]) fU (dI (aC (ah 7) (aC (ah 8) (aC (ah 9) (aC (ah 10) c7))))) dt)
    (bJ (aL (g1 df) (aa (ae 6) ag))))))))
noncomputable def cI:FM:=iz 3 8 ([3]++([4]++(([5]++[])++([6]++((([7]++([8]++([9]++([10]++[]))))++[])++[]))))) iT
theorem kc:aO ["_law_numbers","_law_things","_law_ties_here","_law_left","_law_names","_law_k","_law_found","_law_one","_law_other","_law_chance_here","_law_worth_here"] ["_law_numbers","_law_things","_law_ties_here"] (am ec):=⟨rfl,rfl,rfl,by decide+kernel,rfl,by decide+kernel,by decide+kernel⟩
theorem oq(h:bj K mg "_law_renamed" ec f fd ["_law_numbers","_law_things","_law_ties_here"])(T:jh mg){fLnext:Addr}{eLnext:FuncData}(hLnext:bj K mg "_law_next" dj fLnext eLnext ["_law_drawn"])(GLnext:aN P w K mg base bV 1 fLnext eLnext ["_law_drawn"] (cf K 1 ax)):aN P w K mg base bV 2 f fd ["_law_numbers","_law_things","_law_ties_here"] (cf K 3 cI):=by
  have nd:=kc.nd
  exact h.fn kc rfl rfl (fun cdv A outer s H E hr=>(@af _ _ _ _ _ _ _ _ (@ap _ _ _ _ _ 3 _ _ nd rfl (Or.inl rfl) (@m5 _ _ _ _ _ _ _ _ rfl rfl T.b_list rfl T.b_range ((¬1)∘ab) (by rfl) (by rfl)) (by rfl) (by trivial))
      (@af _ _ _ _ _ _ _ _ (@ap _ _ _ _ _ 4 _ _ nd rfl (Or.inl rfl) (@aX _ _ _ _ _ ab) (by rfl) (by trivial))
      (@af _ _ _ _ _ _ _ _ (@di _ _ _ _ _ _ _ _ _ _ _ PassesOwn.never rfl (@bx _ _ _ _ _ _ _ rfl T.b_range ((¬1)∘ab) (by rfl)) (@aF _ _ _ 5 _ nd rfl (Or.inl rfl) (by trivial))
      (@aj _ _ _ _ _ (@bN _ _ _ _ _ (@br _ _ _ _ _ _ _ _ _ rfl (¬4) ((@pK _ _ _ _ _ _ _ _ _ rfl (¬3) ((@aD _ _ _ _ _ _ _ (@aS _ _ _ _ _ _ _ _ _ _ _ _ _ _ _ hLnext GLnext (hr.mono (by decide)) ((¬0)∘ab) (by rfl) (by decide) (by rfl) (by rfl)) (@aV _ _ _ _ _ _ _ _ _ (@b_len _ _ rfl) (by rfl) T.b_len ((¬3)∘ab) (by decide) (by decide) (by rfl) (by rfl)))∘ab) (by rfl) (by rfl) (by rfl) (by rfl) (by rfl))∘ab) (by rfl) (by rfl) (by rfl) (by rfl) (by rfl)) (by rfl))) (by intro _;rfl))
      (@af _ _ _ _ _ _ _ _ (@ap _ _ _ _ _ 6 _ _ nd rfl (Or.inl rfl) (@aX _ _ _ _ _ ab) (by rfl) (by trivial))
      (@af _ _ _ _ _ _ _ _ (@di _ _ _ _ _ _ _ _ _ _ _ PassesOwn.never rfl (@f_ _ _ _ _ _ rfl (¬2)) (@j7 _ _ _ _ _ _ _ _ rfl rfl (@bE _ _ _ _ _ _ _ _ (@aF _ _ _ 7 _ nd rfl (Or.inl rfl) (by trivial)) (@bE _ _ _ _ _ _ _ _ (@aF _ _ _ 8 _ nd rfl (Or.inl rfl) (by trivial)) (@bE _ _ _ _ _ _ _ _ (@aF _ _ _ 9 _ nd rfl (Or.inl rfl) (by trivial)) (@bE _ _ _ _ _ _ _ _ (@aF _ _ _ 10 _ nd rfl (Or.inl rfl) (by trivial)) (@iD _ _) (by rfl)) (by rfl)) (by rfl)) (by rfl)) (bX (bX (bX (bX jR)))) (by rfl) (by rfl))
      (@aj _ _ _ _ _ (@bN _ _ _ _ _ (@br _ _ _ _ _ _ _ _ _ rfl (¬6) ((@az _ _ _ _ _ _ ((@aV _ _ _ _ _ _ _ _ _ (@b_min _ _ rfl) (by rfl) T.b_min ((@dU _ _ _ _ _ _ _ rfl (¬4) (¬7) (fun _ _=>rfl))∘((@dU _ _ _ _ _ _ _ rfl (¬4) (¬8) (fun _ _=>rfl))∘ab)) (by decide) (by decide) (by rfl) (by rfl))∘((@aV _ _ _ _ _ _ _ _ _ (@b_max _ _ rfl) (by rfl) T.b_max ((@dU _ _ _ _ _ _ _ rfl (¬4) (¬7) (fun _ _=>rfl))∘((@dU _ _ _ _ _ _ _ rfl (¬4) (¬8) (fun _ _=>rfl))∘ab)) (by decide) (by decide) (by rfl) (by rfl))∘((¬9)∘((¬10)∘ab)))))∘ab) (by rfl) (by rfl) (by rfl) (by rfl) (by rfl)) (by rfl))) (by intro _;rfl))
      (@aj _ _ _ _ _ (@aJ _ _ _ _ _ (@aV _ _ _ _ _ _ _ _ _ (@b_tuple _ _ rfl) (by rfl) T.b_tuple ((¬6)∘ab) (by decide) (by decide) (by rfl) (by rfl))))))))))
noncomputable def i5:FI:=(bI (aa (ae 2) ag))
noncomputable def gq:FS:=(aA (aT 5 (cm 1 ax (aa (ae 0) ag)))
    (aA (aT 6 (a' (aa (aL (g2 lO) (aa (ae 4) (aa (au aB (au aU (ae 4) (vC (.int 1))) (ae 2)) ag))) (aa (aL (g2 iZ) (aa (ae 4) (aa (au aB (au aU (ae 4) (vC (.int 1))) (ae 2)) ag))) ag))))
    (c8 (bZ ba (ae 3) (aa (au aU (ae 6) (a' (aa (cm 2 bR (aa (ae 5) (aa (vC (.int 1)) ag))) (aa (cm 2 dS (aa (au du (ae 5) (vC (.int 10007))) (aa (vC (.int 2)) ag))) ag)))) ag)))))
noncomputable def o_:FS:=(aA (aT 3 (cv ag))
    (aA (cG ([4]++([5]++([6]++[]))) i5 (ah 4) gq)
    (bJ (cm 3 cI (aa (ae 0) (aa (ae 1) (aa (ae 3) ag)))))))
noncomputable def iy:FM:=iz 3 4 ([3]++(([4]++([5]++([6]++[])))++[])) o_
theorem nu:aO ["_law_numbers","_law_things","_law_size","_law_found","_law_k","_law_cell","_law_ends"] ["_law_numbers","_law_things","_law_size"] (am iI):=⟨rfl,rfl,rfl,by decide+kernel,rfl,by decide+kernel,by decide+kernel⟩
theorem sN(h:bj K mg "_law_round" iI f fd ["_law_numbers","_law_things","_law_size"])(T:jh mg){fLrenamed:Addr}{eLrenamed:FuncData}(hLrenamed:bj K mg "_law_renamed" ec fLrenamed eLrenamed ["_law_numbers","_law_things","_law_ties_here"])(GLrenamed:aN P w K mg base bV 2 fLrenamed eLrenamed ["_law_numbers","_law_things","_law_ties_here"] (cf K 3 cI)){fLnext:Addr}{eLnext:FuncData}(hLnext:bj K mg "_law_next" dj fLnext eLnext ["_law_drawn"])(GLnext:aN P w K mg base bV 1 fLnext eLnext ["_law_drawn"] (cf K 1 ax)){fLchance:Addr}{eLchance:FuncData}(hLchance:bj K mg "_law_chance" ek fLchance eLchance ["_law_number","_law_kind"])(GLchance:aN P w K mg base bV 3 fLchance eLchance ["_law_number","_law_kind"] (cf K 2 bR)){fLworth:Addr}{eLworth:FuncData}(hLworth:bj K mg "_law_worth" eZ fLworth eLworth ["_law_number","_law_kind"])(GLworth:aN P w K mg base bV 1 fLworth eLworth ["_law_number","_law_kind"] (cf K 2 dS)):aN P w K mg base bV 4 f fd ["_law_numbers","_law_things","_law_size"] (cf K 3 iy):=by
  have nd:=nu.nd
  exact h.fn nu rfl rfl (fun cdv A outer s H E hr=>(@af _ _ _ _ _ _ _ _ (@ap _ _ _ _ _ 3 _ _ nd rfl (Or.inl rfl) (@aX _ _ _ _ _ ab) (by rfl) (by trivial))
      (@af _ _ _ _ _ _ _ _ (@di _ _ _ _ _ _ _ _ _ _ _ PassesOwn.never rfl (@bx _ _ _ _ _ _ _ rfl T.b_range ((¬2)∘ab) (by rfl)) (@aF _ _ _ 4 _ nd rfl (Or.inl rfl) (by trivial))
      (@af _ _ _ _ _ _ _ _ (@ap _ _ _ _ _ 5 _ _ nd rfl (Or.inl rfl) (@aS _ _ _ _ _ _ _ _ _ _ _ _ _ _ _ hLnext GLnext (hr.mono (by decide)) ((¬0)∘ab) (by rfl) (by decide) (by rfl) (by rfl)) (by rfl) (by trivial))
      (@af _ _ _ _ _ _ _ _ (@ap _ _ _ _ _ 6 _ _ nd rfl (Or.inl rfl) (@az _ _ _ _ _ _ ((@aV _ _ _ _ _ _ _ _ _ (@b_min _ _ rfl) (by rfl) T.b_min ((¬4)∘((@aD _ _ _ _ _ _ _ (@aQ _ _ _ _ _ _ _ rfl (¬4) ac) (¬2))∘ab)) (by decide) (by decide) (by rfl) (by rfl))∘((@aV _ _ _ _ _ _ _ _ _ (@b_max _ _ rfl) (by rfl) T.b_max ((¬4)∘((@aD _ _ _ _ _ _ _ (@aQ _ _ _ _ _ _ _ rfl (¬4) ac) (¬2))∘ab)) (by decide) (by decide) (by rfl) (by rfl))∘ab))) (by rfl) (by trivial))
      (@aj _ _ _ _ _ (@bN _ _ _ _ _ (@br _ _ _ _ _ _ _ _ _ rfl (¬3) ((@aQ _ _ _ _ _ _ _ rfl (¬6) (@az _ _ _ _ _ _ ((@aS _ _ _ _ _ _ _ _ _ _ _ _ _ _ _ hLchance GLchance (hr.mono (by decide)) ((¬5)∘(ac∘ab)) (by rfl) (by decide) (by rfl) (by rfl))∘((@aS _ _ _ _ _ _ _ _ _ _ _ _ _ _ _ hLworth GLworth (hr.mono (by decide)) ((@eG _ _ _ _ _ _ _ (¬5) ac)∘(ac∘ab)) (by rfl) (by decide) (by rfl) (by rfl))∘ab))))∘ab) (by rfl) (by rfl) (by rfl) (by rfl) (by rfl)) (by rfl))))) (by intro _;rfl))
      (@aj _ _ _ _ _ (@aJ _ _ _ _ _ (@aS _ _ _ _ _ _ _ _ _ _ _ _ _ _ _ hLrenamed GLrenamed (hr.mono (by decide)) ((¬0)∘((¬1)∘((¬3)∘ab))) (by rfl) (by decide) (by rfl) (by rfl)))))))
noncomputable def ee:FS:=(aA (aT 3 (au aU (vC (.int 2)) (au aB (cm 1 ax (aa (ae 0) ag)) (au dD (ae 1) (vC (.int 1))))))
    (aA (aT 4 (au aB (cm 1 ax (aa (ae 0) ag)) (vC (.int 4))))
    (aA (g_ (aR (au (cQ false) (ae 4) (vC (.int 0))))
    (bJ (cm 3 mP (aa (ae 0) (aa (ae 1) (aa (ae 2) ag)))))
    dz)
    (aA (aT 5 (cm 3 cI (aa (ae 0) (aa (ae 3) (aa (cm 3 fW (aa (ae 0) (aa (ae 3) (aa (au aB (cm 1 ax (aa (ae 0) ag)) (au aU (ae 2) (vC (.int 1)))) ag)))) ag)))))
    (aA (g_ (aR (au (cQ false) (ae 4) (vC (.int 1))))
    (aA (aT 6 (au aU (vC (.int 3)) (au aB (cm 1 ax (aa (ae 0) ag)) (aL (g2 iZ) (aa (vC (.int 1)) (aa (au dD (ae 3) (vC (.int 2))) ag))))))
    (aA (aT 5 (cm 3 iy (aa (ae 0) (aa (aL (g2 iZ) (aa (ae 3) (aa (vC (.int 3)) ag))) (aa (aL (g2 lO) (aa (ae 6) (aa (aL (g2 iZ) (aa (ae 3) (aa (vC (.int 3)) ag))) ag))) ag)))))
    (aA (aT 3 (aL (g2 iZ) (aa (ae 3) (aa (vC (.int 3)) ag))))
    (aT 5 (jx (au aU (ae 5) (cm 3 fX (aa (ae 0) (aa (ae 3) (aa (au aB (cm 1 ax (aa (ae 0) ag)) (vC (.int 4))) ag))))) ck (bY (ae 2)))))))
    dz)
    (aA (g_ (aR (au (cQ false) (ae 4) (vC (.int 2))))
    (aT 5 (jx (au aU (ae 5) (cm 3 fX (aa (ae 0) (aa (ae 3) (aa (vC (.int 1)) ag))))) ck (bY (ae 2))))
    dz)
    (bJ (a' (aa (ae 3) (aa (ae 5) (aa (au gQ (a' (aa (au aU (vC (.int 1)) (au aB (cm 1 ax (aa (ae 0) ag)) (vC (.int 20)))) ag)) (ae 3)) (aa (au aB (cm 1 ax (aa (ae 0) ag)) (vC (.int 41))) ag))))))))))))
noncomputable def cj:FM:=iz 3 4 ([3]++([4]++(([]++[])++([5]++((([6]++([5]++([3]++[5])))++[])++(([5]++[])++[])))))) ee
theorem jn:aO ["_law_numbers","_law_most","_law_many","_law_things","_law_sort","_law_ties_here","_law_size"] ["_law_numbers","_law_most","_law_many"] (am el):=⟨rfl,rfl,rfl,by decide+kernel,rfl,by decide+kernel,by decide+kernel⟩
theorem mW(h:bj K mg "_law_side_web" el f fd ["_law_numbers","_law_most","_law_many"])(T:jh mg){fLrenamed:Addr}{eLrenamed:FuncData}(hLrenamed:bj K mg "_law_renamed" ec fLrenamed eLrenamed ["_law_numbers","_law_things","_law_ties_here"])(GLrenamed:aN P w K mg base bV 2 fLrenamed eLrenamed ["_law_numbers","_law_things","_law_ties_here"] (cf K 3 cI)){fLnext:Addr}{eLnext:FuncData}(hLnext:bj K mg "_law_next" dj fLnext eLnext ["_law_drawn"])(GLnext:aN P w K mg base bV 1 fLnext eLnext ["_law_drawn"] (cf K 1 ax)){fLweb:Addr}{eLweb:FuncData}(hLweb:bj K mg "_law_web" ng fLweb eLweb ["_law_drawn","_law_most","_law_ties_here"])(GLweb:aN P w K mg base bV 5 fLweb eLweb ["_law_drawn","_law_most","_law_ties_here"] (cf K 3 mP)){fLacross:Addr}{eLacross:FuncData}(hLacross:bj K mg "_law_across" gf fLacross eLacross ["_law_numbers","_law_things","_law_many"])(GLacross:aN P w K mg base bV 4 fLacross eLacross ["_law_numbers","_law_things","_law_many"] (cf K 3 fW)){fLround:Addr}{eLround:FuncData}(hLround:bj K mg "_law_round" iI fLround eLround ["_law_numbers","_law_things","_law_size"])(GLround:aN P w K mg base bV 4 fLround eLround ["_law_numbers","_law_things","_law_size"] (cf K 3 iy)){fLties:Addr}{eLties:FuncData}(hLties:bj K mg "_law_ties" jd fLties eLties ["_law_drawn","_law_things","_law_many"])(GLties:aN P w K mg base bV 4 fLties eLties ["_law_drawn","_law_things","_law_many"] (cf K 3 fX)):aN P w K mg base bV 6 f fd ["_law_numbers","_law_most","_law_many"] (cf K 3 cj):=by
  have nd:=jn.nd
  exact h.fn jn rfl rfl (fun cdv A outer s H E hr=>(@af _ _ _ _ _ _ _ _ (@ap _ _ _ _ _ 3 _ _ nd rfl (Or.inl rfl) (@aQ _ _ _ _ _ _ _ rfl ac (@aD _ _ _ _ _ _ _ (@aS _ _ _ _ _ _ _ _ _ _ _ _ _ _ _ hLnext GLnext (hr.mono (by decide)) ((¬0)∘ab) (by rfl) (by decide) (by rfl) (by rfl)) (@iC _ _ _ _ _ _ _ (¬1) ac))) (by rfl) (by trivial))
      (@af _ _ _ _ _ _ _ _ (@ap _ _ _ _ _ 4 _ _ nd rfl (Or.inl rfl) (@aD _ _ _ _ _ _ _ (@aS _ _ _ _ _ _ _ _ _ _ _ _ _ _ _ hLnext GLnext (hr.mono (by decide)) ((¬0)∘ab) (by rfl) (by decide) (by rfl) (by rfl)) ac) (by rfl) (by trivial))
      (@af _ _ _ _ _ _ _ _ (@cw _ _ _ _ _ _ _ _ _ _ _ (@a_ _ _ _ _ _ _ _ _ _ (@ig _ _ _ rfl hr) (¬4) ac (aZ _))
      (@aj _ _ _ _ _ (@aJ _ _ _ _ _ (@aS _ _ _ _ _ _ _ _ _ _ _ _ _ _ _ hLweb GLweb (hr.mono (by decide)) ((¬0)∘((¬1)∘((¬2)∘ab))) (by rfl) (by decide) (by rfl) (by rfl))))
      (@a8 _ _))
      (@af _ _ _ _ _ _ _ _ (@ap _ _ _ _ _ 5 _ _ nd rfl (Or.inl rfl) (@aS _ _ _ _ _ _ _ _ _ _ _ _ _ _ _ hLrenamed GLrenamed (hr.mono (by decide)) ((¬0)∘((¬3)∘((@aS _ _ _ _ _ _ _ _ _ _ _ _ _ _ _ hLacross GLacross (hr.mono (by decide)) ((¬0)∘((¬3)∘((@aD _ _ _ _ _ _ _ (@aS _ _ _ _ _ _ _ _ _ _ _ _ _ _ _ hLnext GLnext (hr.mono (by decide)) ((¬0)∘ab) (by rfl) (by decide) (by rfl) (by rfl)) (@aQ _ _ _ _ _ _ _ rfl (¬2) ac))∘ab))) (by rfl) (by decide) (by rfl) (by rfl))∘ab))) (by rfl) (by decide) (by rfl) (by rfl)) (by rfl) (by trivial))
      (@af _ _ _ _ _ _ _ _ (@cw _ _ _ _ _ _ _ _ _ _ _ (@a_ _ _ _ _ _ _ _ _ _ (@ig _ _ _ rfl hr) (¬4) ac (aZ _))
      (@af _ _ _ _ _ _ _ _ (@ap _ _ _ _ _ 6 _ _ nd rfl (Or.inl rfl) (@aQ _ _ _ _ _ _ _ rfl ac (@aD _ _ _ _ _ _ _ (@aS _ _ _ _ _ _ _ _ _ _ _ _ _ _ _ hLnext GLnext (hr.mono (by decide)) ((¬0)∘ab) (by rfl) (by decide) (by rfl) (by rfl)) (@aV _ _ _ _ _ _ _ _ _ (@b_max _ _ rfl) (by rfl) T.b_max (ac∘((@iC _ _ _ _ _ _ _ (¬3) ac)∘ab)) (by decide) (by decide) (by rfl) (by rfl)))) (by rfl) (by trivial))
      (@af _ _ _ _ _ _ _ _ (@ap _ _ _ _ _ 5 _ _ nd rfl (Or.inl rfl) (@aS _ _ _ _ _ _ _ _ _ _ _ _ _ _ _ hLround GLround (hr.mono (by decide)) ((¬0)∘((@aV _ _ _ _ _ _ _ _ _ (@b_max _ _ rfl) (by rfl) T.b_max ((¬3)∘(ac∘ab)) (by decide) (by decide) (by rfl) (by rfl))∘((@aV _ _ _ _ _ _ _ _ _ (@b_min _ _ rfl) (by rfl) T.b_min ((¬6)∘((@aV _ _ _ _ _ _ _ _ _ (@b_max _ _ rfl) (by rfl) T.b_max ((¬3)∘(ac∘ab)) (by decide) (by decide) (by rfl) (by rfl))∘ab)) (by decide) (by decide) (by rfl) (by rfl))∘ab))) (by rfl) (by decide) (by rfl) (by rfl)) (by rfl) (by trivial))
      (@af _ _ _ _ _ _ _ _ (@ap _ _ _ _ _ 3 _ _ nd rfl (Or.inl rfl) (@aV _ _ _ _ _ _ _ _ _ (@b_max _ _ rfl) (by rfl) T.b_max ((¬3)∘(ac∘ab)) (by decide) (by decide) (by rfl) (by rfl)) (by rfl) (by trivial))
      (@aj _ _ _ _ _ (@ap _ _ _ _ _ 5 _ _ nd rfl (Or.inl rfl) (@bc _ _ _ _ _ _ _ _ _ _ rfl (@aQ _ _ _ _ _ _ _ rfl (¬5) (@aS _ _ _ _ _ _ _ _ _ _ _ _ _ _ _ hLties GLties (hr.mono (by decide)) ((¬0)∘((¬3)∘((@aD _ _ _ _ _ _ _ (@aS _ _ _ _ _ _ _ _ _ _ _ _ _ _ _ hLnext GLnext (hr.mono (by decide)) ((¬0)∘ab) (by rfl) (by decide) (by rfl) (by rfl)) ac)∘ab))) (by rfl) (by decide) (by rfl) (by rfl))) (@be _ _) (@bf _ _ _ _ (¬2))) (by rfl) (by trivial))))))
      (@a8 _ _))
      (@af _ _ _ _ _ _ _ _ (@cw _ _ _ _ _ _ _ _ _ _ _ (@a_ _ _ _ _ _ _ _ _ _ (@ig _ _ _ rfl hr) (¬4) ac (aZ _))
      (@aj _ _ _ _ _ (@ap _ _ _ _ _ 5 _ _ nd rfl (Or.inl rfl) (@bc _ _ _ _ _ _ _ _ _ _ rfl (@aQ _ _ _ _ _ _ _ rfl (¬5) (@aS _ _ _ _ _ _ _ _ _ _ _ _ _ _ _ hLties GLties (hr.mono (by decide)) ((¬0)∘((¬3)∘(ac∘ab))) (by rfl) (by decide) (by rfl) (by rfl))) (@be _ _) (@bf _ _ _ _ (¬2))) (by rfl) (by trivial)))
      (@a8 _ _))
      (@aj _ _ _ _ _ (@aJ _ _ _ _ _ (@az _ _ _ _ _ _ ((¬3)∘((¬5)∘((@j5 _ _ _ _ _ _ _ rfl (@az _ _ _ _ _ _ ((@aQ _ _ _ _ _ _ _ rfl ac (@aD _ _ _ _ _ _ _ (@aS _ _ _ _ _ _ _ _ _ _ _ _ _ _ _ hLnext GLnext (hr.mono (by decide)) ((¬0)∘ab) (by rfl) (by decide) (by rfl) (by rfl)) ac))∘ab)) (¬3))∘((@aD _ _ _ _ _ _ _ (@aS _ _ _ _ _ _ _ _ _ _ _ _ _ _ _ hLnext GLnext (hr.mono (by decide)) ((¬0)∘ab) (by rfl) (by decide) (by rfl) (by rfl)) ac)∘ab))))))))))))))
noncomputable def fJ:FT:=(aR (au (kW true) (ae 2) (ae 3)))
noncomputable def eJ:FS:=(aA (c8 (bZ ba (ae 3) (aa (ae 2) ag)))
    (aA (aT 4 (cm 2 eY (aa (ae 1) (aa (ae 2) ag))))
    (g_ (aR (au (cQ true) (ae 4) (cv ag)))
    (aT 2 (au fP (ae 4) (au aB (cm 1 ax (aa (ae 0) ag)) (aL (g1 eE) (aa (ae 4) ag)))))
    dz)))
noncomputable def nV:FS:=(aA (g_ (aR (au (cQ false) (au fP (ae 1) (vC (.int 0))) (vC (.int 0))))
    (bJ (a' ag))
    dz)
    (aA (aT 2 (au aB (cm 1 ax (aa (ae 0) ag)) (au fP (ae 1) (vC (.int 0)))))
    (aA (aT 3 (cv ag))
    (aA (hE (2 ^ 4200) fJ eJ)
    (bJ (aL (g1 df) (aa (jx (ae 3) (bY (oP true gX (ae 3) (ae 2))) ck) ag)))))))
noncomputable def i7:FM:=iz 2 3 (([]++[])++([2]++([3]++(([]++([4]++([2]++[])))++[])))) nV
theorem pQ:aO ["_law_numbers","_law_web_here","_law_here","_law_found","_law_mates_here"] ["_law_numbers","_law_web_here"] (am ka):=⟨rfl,rfl,rfl,by decide+kernel,rfl,by decide+kernel,by decide+kernel⟩
theorem vB(h:bj K mg "_law_walk" ka f fd ["_law_numbers","_law_web_here"])(T:jh mg){fLnext:Addr}{eLnext:FuncData}(hLnext:bj K mg "_law_next" dj fLnext eLnext ["_law_drawn"])(GLnext:aN P w K mg base bV 1 fLnext eLnext ["_law_drawn"] (cf K 1 ax)){fLmates:Addr}{eLmates:FuncData}(hLmates:bj K mg "_law_mates" gF fLmates eLmates ["_law_web_here","_law_thing"])(GLmates:aN P w K mg base bV 1 fLmates eLmates ["_law_web_here","_law_thing"] (cf K 2 eY)):aN P w K mg base bV 2 f fd ["_law_numbers","_law_web_here"] (cf K 2 i7):=by
  have nd:=pQ.nd
  exact h.fn pQ rfl rfl (fun cdv A outer s H E hr=>(@af _ _ _ _ _ _ _ _ (@cw _ _ _ _ _ _ _ _ _ _ _ (@a_ _ _ _ _ _ _ _ _ _ (@ig _ _ _ rfl hr) (@dU _ _ _ _ _ _ _ rfl (¬1) ac (fun _ _=>rfl)) ac (aZ _))
      (@aj _ _ _ _ _ (@aJ _ _ _ _ _ (@az _ _ _ _ _ _ ab)))
      (@a8 _ _))
      (@af _ _ _ _ _ _ _ _ (@ap _ _ _ _ _ 2 _ _ nd rfl (Or.inl rfl) (@aD _ _ _ _ _ _ _ (@aS _ _ _ _ _ _ _ _ _ _ _ _ _ _ _ hLnext GLnext (hr.mono (by decide)) ((¬0)∘ab) (by rfl) (by decide) (by rfl) (by rfl)) (@dU _ _ _ _ _ _ _ rfl (¬1) ac (fun _ _=>rfl))) (by rfl) (by trivial))
      (@af _ _ _ _ _ _ _ _ (@ap _ _ _ _ _ 3 _ _ nd rfl (Or.inl rfl) (@aX _ _ _ _ _ ab) (by rfl) (by trivial))
      (@af _ _ _ _ _ _ _ _ (@j8 _ _ _ _ _ _ _ _ _ PassesOwn.never (@a_ _ _ _ _ _ _ _ _ _ (@pd _ _ _ rfl hr) (¬2) (¬3) (by with_unfolding_all rfl))
      (@af _ _ _ _ _ _ _ _ (@bN _ _ _ _ _ (@br _ _ _ _ _ _ _ _ _ rfl (¬3) ((¬2)∘ab) (by rfl) (by rfl) (by rfl) (by rfl) (by rfl)) (by rfl))
      (@af _ _ _ _ _ _ _ _ (@ap _ _ _ _ _ 4 _ _ nd rfl (Or.inl rfl) (@aS _ _ _ _ _ _ _ _ _ _ _ _ _ _ _ hLmates GLmates (hr.mono (by decide)) ((¬1)∘((¬2)∘ab)) (by rfl) (by decide) (by rfl) (by rfl)) (by rfl) (by trivial))
      (@aj _ _ _ _ _ (@cw _ _ _ _ _ _ _ _ _ _ _ (@a_ _ _ _ _ _ _ _ _ _ (@AY _ _ _ rfl hr) (¬4) (@aX _ _ _ _ _ ab) (aZ _))
      (@aj _ _ _ _ _ (@ap _ _ _ _ _ 2 _ _ nd rfl (Or.inl rfl) (@dU _ _ _ _ _ _ _ rfl (¬4) (@aD _ _ _ _ _ _ _ (@aS _ _ _ _ _ _ _ _ _ _ _ _ _ _ _ hLnext GLnext (hr.mono (by decide)) ((¬0)∘ab) (by rfl) (by decide) (by rfl) (by rfl)) (@aV _ _ _ _ _ _ _ _ _ (@b_len _ _ rfl) (by rfl) T.b_len ((¬4)∘ab) (by decide) (by decide) (by rfl) (by rfl))) (fun _ _=>rfl)) (by rfl) (by trivial)))
      (@a8 _ _))))))
      (@aj _ _ _ _ _ (@aJ _ _ _ _ _ (@aV _ _ _ _ _ _ _ _ _ (@b_tuple _ _ rfl) (by rfl) T.b_tuple ((@bc _ _ _ _ _ _ _ _ _ _ rfl (¬3) (@bf _ _ _ _ (@zC _ _ _ _ _ _ _ _ rfl (¬3) (¬2) (by rfl) (by rfl) (by rfl) (by rfl) (by rfl))) (@be _ _))∘ab) (by decide) (by decide) (by rfl) (by rfl)))))))))
noncomputable def jS:FI:=(iq (cv (aa (ae 3) (aa (au fP (ae 1) (vC (.int 0))) (aa (md qf (vC (.int 1))) (aa (vC (.bool true)) (aa (vC (.bool false)) (aa (vC .none) (aa (vC (.str ("1":Str))) (aa (a' (aa (vC (.int 1)) ag)) (aa (cv (aa (vC (.int 0)) ag)) (aa (ki [(0,1)]) ag))))))))))))
noncomputable def ia:FS:=(aA (c8 (bZ ba (ae 4) (aa (au aU (au aU (jx (ae 2) ck (bY (ae 3))) (a' (aa (ae 5) ag))) (jx (ae 2) (bY (au aU (ae 3) (vC (.int 1)))) ck)) ag)))
    (c8 (bZ ba (ae 4) (aa (au aU (au aU (jx (ae 2) ck (bY (ae 3))) (a' (aa (ae 5) ag))) (jx (ae 2) (bY (ae 3)) ck)) ag))))
noncomputable def nU:FS:=(aA (aT 3 (au aB (cm 1 ax (aa (ae 0) ag)) (au aU (aL (g1 eE) (aa (ae 2) ag)) (vC (.int 1)))))
    (aA (aT 4 (cv (aa (ae 2) (aa (au aU (jx (ae 2) (bY (vC (.int 1))) ck) (jx (ae 2) ck (bY (vC (.int 1))))) (aa (AD (ae 2) (md qf (vC (.int 1)))) (aa (au aU (ae 2) (jx (ae 2) ck (bY (vC (.int 1))))) (aa (au aU (jx (ae 2) ck (bY (ae 3))) (jx (ae 2) (bY (au aU (ae 3) (vC (.int 1)))) ck)) (aa (jx (ae 2) (bY (vC (.int 1))) ck) (aa (au aU (ae 2) (ae 2)) (aa (aL (g1 pC) (aa (ae 2) ag)) ag))))))))))
    (aA (cG ([5]++([]++[])) jS (ah 5) ia)
    (aA (g_ (aR (au (kW false) (vC (.int 1)) (ae 2)))
    (c8 (bZ ba (ae 4) (aa (au aU (au aU (jx (ae 2) ck (bY (oP false gX (ae 2) (vC (.int 1))))) (a' (aa (vC (.bool true)) ag))) (jx (ae 2) (bY (au aU (oP false gX (ae 2) (vC (.int 1))) (vC (.int 1)))) ck)) ag)))
    dz)
    (bJ (ae 4))))))
noncomputable def i6:FM:=iz 3 3 ([3]++([4]++(([5]++([]++[]))++(([]++[])++[])))) nU
theorem pN:aO ["_law_numbers","_law_web_here","_law_row","_law_at","_law_found","_law_odd_here"] ["_law_numbers","_law_web_here","_law_row"] (am j_):=⟨rfl,rfl,rfl,by decide+kernel,rfl,by decide+kernel,by decide+kernel⟩
theorem vy(h:bj K mg "_law_rows" j_ f fd ["_law_numbers","_law_web_here","_law_row"])(T:jh mg){fLnext:Addr}{eLnext:FuncData}(hLnext:bj K mg "_law_next" dj fLnext eLnext ["_law_drawn"])(GLnext:aN P w K mg base bV 1 fLnext eLnext ["_law_drawn"] (cf K 1 ax)):aN P w K mg base bV 2 f fd ["_law_numbers","_law_web_here","_law_row"] (cf K 3 i6):=by
  have nd:=pN.nd
  exact h.fn pN rfl rfl (fun cdv A outer s H E hr=>(@af _ _ _ _ _ _ _ _ (@ap _ _ _ _ _ 3 _ _ nd rfl (Or.inl rfl) (@aD _ _ _ _ _ _ _ (@aS _ _ _ _ _ _ _ _ _ _ _ _ _ _ _ hLnext GLnext (hr.mono (by decide)) ((¬0)∘ab) (by rfl) (by decide) (by rfl) (by rfl)) (@aQ _ _ _ _ _ _ _ rfl (@aV _ _ _ _ _ _ _ _ _ (@b_len _ _ rfl) (by rfl) T.b_len ((¬2)∘ab) (by decide) (by decide) (by rfl) (by rfl)) ac)) (by rfl) (by trivial))
      (@af _ _ _ _ _ _ _ _ (@ap _ _ _ _ _ 4 _ _ nd rfl (Or.inl rfl) (@aX _ _ _ _ _ ((¬2)∘((@aQ _ _ _ _ _ _ _ rfl (@bc _ _ _ _ _ _ _ _ _ _ rfl (¬2) (@bf _ _ _ _ ac) (@be _ _)) (@bc _ _ _ _ _ _ _ _ _ _ rfl (¬2) (@be _ _) (@bf _ _ _ _ ac)))∘((@C' _ _ _ _ _ _ _ _ rfl (¬2) (@tP _ _ _ _ _ ac))∘((@aQ _ _ _ _ _ _ _ rfl (¬2) (@bc _ _ _ _ _ _ _ _ _ _ rfl (¬2) (@be _ _) (@bf _ _ _ _ ac)))∘((@aQ _ _ _ _ _ _ _ rfl (@bc _ _ _ _ _ _ _ _ _ _ rfl (¬2) (@be _ _) (@bf _ _ _ _ (¬3))) (@bc _ _ _ _ _ _ _ _ _ _ rfl (¬2) (@bf _ _ _ _ (@aQ _ _ _ _ _ _ _ rfl (¬3) ac)) (@be _ _)))∘((@bc _ _ _ _ _ _ _ _ _ _ rfl (¬2) (@bf _ _ _ _ ac) (@be _ _))∘((@aQ _ _ _ _ _ _ _ rfl (¬2) (¬2))∘((@aV _ _ _ _ _ _ _ _ _ (@b_list _ _ rfl) (by rfl) T.b_list ((¬2)∘ab) (by decide) (by decide) (by rfl) (by rfl))∘ab))))))))) (by rfl) (by trivial))
      (@af _ _ _ _ _ _ _ _ (@di _ _ _ _ _ _ _ _ _ _ _ PassesOwn.never rfl (@f_ _ _ _ _ _ rfl (@aX _ _ _ _ _ ((¬3)∘((@dU _ _ _ _ _ _ _ rfl (¬1) ac (fun _ _=>rfl))∘((@tP _ _ _ _ _ ac)∘((@dJ _ _ _ _ _)∘((@dJ _ _ _ _ _)∘((@oA _ _ _ _)∘((@j6 _ _ _ _ _)∘((@az _ _ _ _ _ _ (ac∘ab))∘((@aX _ _ _ _ _ (ac∘ab))∘((@m6 _ _ _ _ _ _ _ _ _)∘ab)))))))))))) (@aF _ _ _ 5 _ nd rfl (Or.inl rfl) (by trivial))
      (@af _ _ _ _ _ _ _ _ (@bN _ _ _ _ _ (@br _ _ _ _ _ _ _ _ _ rfl (¬4) ((@aQ _ _ _ _ _ _ _ rfl (@aQ _ _ _ _ _ _ _ rfl (@bc _ _ _ _ _ _ _ _ _ _ rfl (¬2) (@be _ _) (@bf _ _ _ _ (¬3))) (@az _ _ _ _ _ _ ((¬5)∘ab))) (@bc _ _ _ _ _ _ _ _ _ _ rfl (¬2) (@bf _ _ _ _ (@aQ _ _ _ _ _ _ _ rfl (¬3) ac)) (@be _ _)))∘ab) (by rfl) (by rfl) (by rfl) (by rfl) (by rfl)) (by rfl))
      (@aj _ _ _ _ _ (@bN _ _ _ _ _ (@br _ _ _ _ _ _ _ _ _ rfl (¬4) ((@aQ _ _ _ _ _ _ _ rfl (@aQ _ _ _ _ _ _ _ rfl (@bc _ _ _ _ _ _ _ _ _ _ rfl (¬2) (@be _ _) (@bf _ _ _ _ (¬3))) (@az _ _ _ _ _ _ ((¬5)∘ab))) (@bc _ _ _ _ _ _ _ _ _ _ rfl (¬2) (@bf _ _ _ _ (¬3)) (@be _ _)))∘ab) (by rfl) (by rfl) (by rfl) (by rfl) (by rfl)) (by rfl)))) (by intro _;rfl))
      (@af _ _ _ _ _ _ _ _ (@cw _ _ _ _ _ _ _ _ _ _ _ (@a_ _ _ _ _ _ _ _ _ _ (@xY _ _ _ rfl hr) ac (¬2) (by with_unfolding_all rfl))
      (@aj _ _ _ _ _ (@bN _ _ _ _ _ (@br _ _ _ _ _ _ _ _ _ rfl (¬4) ((@aQ _ _ _ _ _ _ _ rfl (@aQ _ _ _ _ _ _ _ rfl (@bc _ _ _ _ _ _ _ _ _ _ rfl (¬2) (@be _ _) (@bf _ _ _ _ (@tN _ _ _ _ _ _ _ _ rfl (¬2) ac (by rfl) (by rfl) (by rfl) (by rfl) (by rfl)))) (@az _ _ _ _ _ _ ((@dJ _ _ _ _ _)∘ab))) (@bc _ _ _ _ _ _ _ _ _ _ rfl (¬2) (@bf _ _ _ _ (@aQ _ _ _ _ _ _ _ rfl (@tN _ _ _ _ _ _ _ _ rfl (¬2) ac (by rfl) (by rfl) (by rfl) (by rfl) (by rfl)) ac)) (@be _ _)))∘ab) (by rfl) (by rfl) (by rfl) (by rfl) (by rfl)) (by rfl)))
      (@a8 _ _))
      (@aj _ _ _ _ _ (@aJ _ _ _ _ _ (¬4))))))))
noncomputable def CW:FI:=(iq (ae 6))
noncomputable def Ct:FS:=(g_ (jw (aR (cm 2 jW (aa (cm 2 bD (aa (ae 5) (aa (ae 10) ag))) (aa (cm 2 bU (aa (ae 5) (aa (ae 10) ag))) ag)))))
    (bJ (vC (.bool false)))
    dz)
noncomputable def Cy:FI:=(bI (aa (ae 8) ag))
noncomputable def Cu:FE:=(au aB (cm 1 ax (aa (ae 0) ag)) (aL (g2 iZ) (aa (vC (.int 1)) (aa (au fP (ae 1) (vC (.int 0))) ag))))
noncomputable def CY:FI:=(bI (aa (vC (.int 3)) ag))
noncomputable def AO:FS:=(aA (aT 6 (au aU (ae 6) (cm 3 i6 (aa (ae 1) (aa (ae 5) (aa (cm 2 i7 (aa (ae 1) (aa (ae 5) ag))) ag))))))
    (aA (aT 8 (au fP (cv (aa (vC (.int 3)) (aa (vC (.int 5)) (aa (vC (.int 3)) ag)))) (ae 7)))
    (aA (aT 9 (aL (g1 df) (aa (c9 [(1,"_law_numbers"),(5,"_law_web_here")] 1 Cy (ah 2) dN Cu) ag)))
    (aT 6 (au aU (ae 6) (cv (aa (ae 9) (aa (jx (ae 9) ck (bY (vC (.int 2)))) (aa (a' ag) ag)))))))))
noncomputable def CZ:FI:=(bI (aa (vC (.int 4)) ag))
noncomputable def Cv:FE:=(cm 1 mO (aa (cm 1 ax (aa (ae 0) ag)) ag))
noncomputable def DC:FI:=(bI (aa (au aU (vC (.int 2)) (aL (g2 lO) (aa (vC (.int 5)) (aa (aL (g1 eE) (aa (ae 0) ag)) ag)))) ag))
noncomputable def uS:FS:=(aA (qG (au fP (cv (aa (a' (aa (vC (.int 8)) (aa (vC (.int 10)) ag))) (aa (a' (aa (vC (.int 12)) (aa (vC (.int 16)) ag))) ag))) (au aB (cm 1 ax (aa (ae 1) ag)) (vC (.int 2)))) (dI (aC (ah 3) (aC (ah 4) c7))))
    (aA (aT 5 (cm 3 cj (aa (ae 1) (aa (ae 3) (aa (ae 4) ag)))))
    (aA (aT 6 (c9 [(1,"_law_numbers")] 1 CZ (ah 1) dN Cv))
    (aA (cG ([7]++([6]++([8]++([9]++[6])))) CY (ah 7) AO)
    (cG ([10]++([]++[])) CW (ah 10) Ct)))))
noncomputable def xc:FS:=(aA (aT 1 (cm 1 iw (aa (ae 0) ag)))
    (aA (cG ([2]++(([3]++([4]++[]))++([5]++([6]++(([7]++([6]++([8]++([9]++[6]))))++([10]++([]++[]))))))) DC (ah 2) uS)
    (bJ (vC (.bool true)))))
noncomputable def jX:FM:=iz 1 10 ([1]++(([2]++(([3]++([4]++[]))++([5]++([6]++(([7]++([6]++([8]++([9]++[6]))))++([10]++([]++[])))))))++[])) xc
theorem uo:aO ["_law_script","_law_numbers","_law_turn","_law_most","_law_many","_law_web_here","_law_things","_law_k","_law_size","_law_drawn_row","_law_thing"] ["_law_script"] (am iJ):=⟨rfl,rfl,rfl,by decide+kernel,rfl,by decide+kernel,by decide+kernel⟩
theorem yM(h:bj K mg "law" iJ f fd ["_law_script"])(T:jh mg){fLdraws:Addr}{eLdraws:FuncData}(hLdraws:bj K mg "_law_draws" iG fLdraws eLdraws ["_law_script"])(GLdraws:aN P w K mg base bV 2 fLdraws eLdraws ["_law_script"] (cf K 1 iw)){fLside_web:Addr}{eLside_web:FuncData}(hLside_web:bj K mg "_law_side_web" el fLside_web eLside_web ["_law_numbers","_law_most","_law_many"])(GLside_web:aN P w K mg base bV 6 fLside_web eLside_web ["_law_numbers","_law_most","_law_many"] (cf K 3 cj)){fLodd:Addr}{eLodd:FuncData}(hLodd:bj K mg "_law_odd" m_ fLodd eLodd ["_law_number"])(GLodd:aN P w K mg base bV 1 fLodd eLodd ["_law_number"] (cf K 1 mO)){fLnext:Addr}{eLnext:FuncData}(hLnext:bj K mg "_law_next" dj fLnext eLnext ["_law_drawn"])(GLnext:aN P w K mg base bV 1 fLnext eLnext ["_law_drawn"] (cf K 1 ax)){fLrows:Addr}{eLrows:FuncData}(hLrows:bj K mg "_law_rows" j_ fLrows eLrows ["_law_numbers","_law_web_here","_law_row"])(GLrows:aN P w K mg base bV 2 fLrows eLrows ["_law_numbers","_law_web_here","_law_row"] (cf K 3 i6)){fLsays:Addr}{eLsays:FuncData}(hLsays:bj K mg "_law_says" j' fLsays eLsays ["_law_found","_law_due"])(GLsays:aN P w K mg base bV 1 fLsays eLsays ["_law_found","_law_due"] (cf K 2 jW)){fLwalk:Addr}{eLwalk:FuncData}(hLwalk:bj K mg "_law_walk" ka fLwalk eLwalk ["_law_numbers","_law_web_here"])(GLwalk:aN P w K mg base bV 2 fLwalk eLwalk ["_law_numbers","_law_web_here"] (cf K 2 i7)){f_ring_holds:Addr}{e_ring_holds:FuncData}(h_ring_holds:bj K mg "ring_holds" cu f_ring_holds e_ring_holds ["web","thing"])(G_ring_holds:aN P w K mg base bV 4 f_ring_holds e_ring_holds ["web","thing"] (cf K 2 bD)){fLis_ring:Addr}{eLis_ring:FuncData}(hLis_ring:bj K mg "_law_is_ring" cJ fLis_ring eLis_ring ["_law_web_here","_law_thing"])(GLis_ring:aN P w K mg base bV 2 fLis_ring eLis_ring ["_law_web_here","_law_thing"] (cf K 2 bU)):aN P w K mg base bV 7 f fd ["_law_script"] (cf K 1 jX):=by
  have nd:=uo.nd
  exact h.fn uo rfl rfl (fun cdv A outer s H E hr=>(@af _ _ _ _ _ _ _ _ (@ap _ _ _ _ _ 1 _ _ nd rfl (Or.inr rfl) (@aS _ _ _ _ _ _ _ _ _ _ _ _ _ _ _ hLdraws GLdraws (hr.mono (by decide)) ((¬0)∘ab) (by rfl) (by decide) (by rfl) (by rfl)) (by rfl) (by trivial))
      (@af _ _ _ _ _ _ _ _ (@di _ _ _ _ _ _ _ _ _ _ _ PassesOwn.never rfl (@bx _ _ _ _ _ _ _ rfl T.b_range ((@aQ _ _ _ _ _ _ _ rfl ac (@aV _ _ _ _ _ _ _ _ _ (@b_min _ _ rfl) (by rfl) T.b_min (ac∘((@aV _ _ _ _ _ _ _ _ _ (@b_len _ _ rfl) (by rfl) T.b_len ((¬0)∘ab) (by decide) (by decide) (by rfl) (by rfl))∘ab)) (by decide) (by decide) (by rfl) (by rfl)))∘ab) (by rfl)) (@aF _ _ _ 2 _ nd rfl (Or.inl rfl) (by trivial))
      (@af _ _ _ _ _ _ _ _ (@tW _ _ _ _ _ _ _ _ (@dU _ _ _ _ _ _ _ rfl (@aX _ _ _ _ _ ((@az _ _ _ _ _ _ (ac∘(ac∘ab)))∘((@az _ _ _ _ _ _ (ac∘(ac∘ab)))∘ab))) (@aD _ _ _ _ _ _ _ (@aS _ _ _ _ _ _ _ _ _ _ _ _ _ _ _ hLnext GLnext (hr.mono (by decide)) ((¬1)∘ab) (by rfl) (by decide) (by rfl) (by rfl)) ac) (fun _ _=>rfl)) (@j7 _ _ _ _ _ _ _ _ rfl rfl (@bE _ _ _ _ _ _ _ _ (@aF _ _ _ 3 _ nd rfl (Or.inl rfl) (by trivial)) (@bE _ _ _ _ _ _ _ _ (@aF _ _ _ 4 _ nd rfl (Or.inl rfl) (by trivial)) (@iD _ _) (by rfl)) (by rfl)) (bX (bX jR)) (by rfl) (by rfl)) (by rfl) (by rfl) (by rfl))
      (@af _ _ _ _ _ _ _ _ (@ap _ _ _ _ _ 5 _ _ nd rfl (Or.inr rfl) (@aS _ _ _ _ _ _ _ _ _ _ _ _ _ _ _ hLside_web GLside_web (hr.mono (by decide)) ((¬1)∘((¬3)∘((¬4)∘ab))) (by rfl) (by decide) (by rfl) (by rfl)) (by rfl) (by trivial))
      (@af _ _ _ _ _ _ _ _ (@qE _ _ _ (6) _ _ _ _ _ _ _ _ _ _ _ _ _ (am iJ) ["_law_script","_law_numbers","_law_turn","_law_most","_law_many","_law_web_here","_law_things","_law_k","_law_size","_law_drawn_row","_law_thing"] [(1,"_law_numbers")] ["_law_k"] rfl rfl rfl (@bx _ _ _ _ _ _ _ rfl T.b_range (ac∘ab) (by rfl))
        (fun C s0 H0 fp=>(@aF _ _ _ 1 _ (show List.Nodup (["_law_numbers","_law_k"]:List Str) by decide+kernel) rfl (Or.inl rfl) (by trivial))) (fun C s0 H0 fp=>(@iE _ _))
        (fun C s0 H0 fp=>(@aS _ _ _ _ _ _ _ _ _ _ _ _ _ _ _ hLodd GLodd (hr.mono (by decide)) ((@aS _ _ _ _ _ _ _ _ _ _ _ _ _ _ _ hLnext GLnext (hr.mono (by decide)) ((¬0)∘ab) (by rfl) (by decide) (by rfl) (by rfl))∘ab) (by rfl) (by decide) (by rfl) (by rfl))) rfl (by decide+kernel) (by decide+kernel) (by decide+kernel) (by decide+kernel) (by decide+kernel) (by decide+kernel) (by decide+kernel) nd rfl rfl (by rfl) (by intro _;rfl))
      (@af _ _ _ _ _ _ _ _ (@di _ _ _ _ _ _ _ _ _ _ _ PassesOwn.never rfl (@bx _ _ _ _ _ _ _ rfl T.b_range (ac∘ab) (by rfl)) (@aF _ _ _ 7 _ nd rfl (Or.inl rfl) (by trivial))
      (@af _ _ _ _ _ _ _ _ (@ap _ _ _ _ _ 6 _ _ nd rfl (Or.inl rfl) (@aQ _ _ _ _ _ _ _ rfl (¬6) (@aS _ _ _ _ _ _ _ _ _ _ _ _ _ _ _ hLrows GLrows (hr.mono (by decide)) ((¬1)∘((¬5)∘((@aS _ _ _ _ _ _ _ _ _ _ _ _ _ _ _ hLwalk GLwalk (hr.mono (by decide)) ((¬1)∘((¬5)∘ab)) (by rfl) (by decide) (by rfl) (by rfl))∘ab))) (by rfl) (by decide) (by rfl) (by rfl))) (by rfl) (by trivial))
      (@af _ _ _ _ _ _ _ _ (@ap _ _ _ _ _ 8 _ _ nd rfl (Or.inl rfl) (@dU _ _ _ _ _ _ _ rfl (@aX _ _ _ _ _ (ac∘(ac∘(ac∘ab)))) (¬7) (fun _ _=>rfl)) (by rfl) (by trivial))
      (@af _ _ _ _ _ _ _ _ (@ap _ _ _ _ _ 9 _ _ nd rfl (Or.inl rfl) (@aV _ _ _ _ _ _ _ _ _ (@b_tuple _ _ rfl) (by rfl) T.b_tuple ((@gW _ _ _ _ _ _ _ _ _ _ _ _ _ (am iJ) ["_law_script","_law_numbers","_law_turn","_law_most","_law_many","_law_web_here","_law_things","_law_k","_law_size","_law_drawn_row","_law_thing"] [(1,"_law_numbers"),(5,"_law_web_here")] ["_law_j"] rfl rfl rfl (@bx _ _ _ _ _ _ _ rfl T.b_range ((¬8)∘ab) (by rfl))
        (fun C s0 H0 fp=>(@aF _ _ _ 2 _ (show List.Nodup (["_law_numbers","_law_web_here","_law_j"]:List Str) by decide+kernel) rfl (Or.inl rfl) (by trivial))) (fun C s0 H0 fp=>(@iE _ _))
        (fun C s0 H0 fp=>(@aD _ _ _ _ _ _ _ (@aS _ _ _ _ _ _ _ _ _ _ _ _ _ _ _ hLnext GLnext (hr.mono (by decide)) ((¬0)∘ab) (by rfl) (by decide) (by rfl) (by rfl)) (@aV _ _ _ _ _ _ _ _ _ (@b_max _ _ rfl) (by rfl) T.b_max (ac∘((@dU _ _ _ _ _ _ _ rfl (¬1) ac (fun _ _=>rfl))∘ab)) (by decide) (by decide) (by rfl) (by rfl)))) rfl (by decide+kernel) (by decide+kernel) (by decide+kernel) (by decide+kernel) (by decide+kernel) (by decide+kernel) (by decide+kernel) (by intro _;rfl))∘ab) (by decide) (by decide) (by rfl) (by rfl)) (by rfl) (by trivial))
      (@aj _ _ _ _ _ (@ap _ _ _ _ _ 6 _ _ nd rfl (Or.inl rfl) (@aQ _ _ _ _ _ _ _ rfl (¬6) (@aX _ _ _ _ _ ((¬9)∘((@bc _ _ _ _ _ _ _ _ _ _ rfl (¬9) (@be _ _) (@bf _ _ _ _ ac))∘((@az _ _ _ _ _ _ ab)∘ab))))) (by rfl) (by trivial)))))) (by intro _;rfl))
      (@aj _ _ _ _ _ (@di _ _ _ _ _ _ _ _ _ _ _ PassesOwn.never rfl (@f_ _ _ _ _ _ rfl (¬6)) (@aF _ _ _ 10 _ nd rfl (Or.inl rfl) (by trivial))
      (@aj _ _ _ _ _ (@cw _ _ _ _ _ _ _ _ _ _ _ (@gY _ _ _ _ _ (@gb _ _ _ _ (@aS _ _ _ _ _ _ _ _ _ _ _ _ _ _ _ hLsays GLsays (hr.mono (by decide)) ((@aS _ _ _ _ _ _ _ _ _ _ _ _ _ _ _ h_ring_holds G_ring_holds (hr.mono (by decide)) ((¬5)∘((¬10)∘ab)) (by rfl) (by decide) (by rfl) (by rfl))∘((@aS _ _ _ _ _ _ _ _ _ _ _ _ _ _ _ hLis_ring GLis_ring (hr.mono (by decide)) ((¬5)∘((¬10)∘ab)) (by rfl) (by decide) (by rfl) (by rfl))∘ab)) (by rfl) (by decide) (by rfl) (by rfl)) (by intro _;rfl)))
      (@aj _ _ _ _ _ (@aJ _ _ _ _ _ (@dJ _ _ _ _ _)))
      (@a8 _ _))) (by intro _;rfl))))))) (by intro _;rfl))
      (@aj _ _ _ _ _ (@aJ _ _ _ _ _ (@dJ _ _ _ _ _))))))
local macro_rules | `(tactic| simp? [$ts,*]) => `(tactic| simp [$ts,*, iz, mS, aA, g_, bJ, dz, aT, c8, qG, ui, wg, aR, au, md, ae, vC, cv, ag, aa, a', aL, cm, qT, q_, jw, DM, kh, Cn, nI, jx, ck, bY, bZ, ba, Bq, gS, il, nZ, ef, bL, uZ, qS, dI, aC, ah, c7, cL, aM, bi, yG, et, bB, jP, io, pD, pA, pw, pv, mF, mD, mH, kX, mx, xA, pz, rP, xB, rS, pB, rQ, rR, mK, mJ, kY, mL, xC, nQ, nR, ri, rj, xh, kP, kO, eK, lM, List.replicate, -List.map_nil, -List.map_cons, -List.nil_append, -List.cons_append, -Option.bind_some, -Option.map_some, -getElem?_pos, -List.append_nil, xt, xr, xm, xl, xo, xq, xn, xu])
theorem js{n k:Int}(h:0 < k):0≤n % k:=Int.emod_nonneg _ (Int.ne_of_gt h)
theorem jt{n k:Int}(h:0 < k):n % k < k:=Int.emod_lt_of_pos _ h
def nx:List Int→Int
  | []=>0
  | d::_=>d
def dB(ds:List Int):Prop:=∀d∈ds,0≤d∧d < 2147483648
theorem xH{ds:List Int}(h:dB ds):0≤nx ds∧nx ds < 2147483648:=by
  cases ds with
  | nil=>exact⟨Int.le_refl 0,by show(0:Int) < 2147483648;decide⟩
  | cons d r=>exact h d (by simp)
theorem Cm{ds:List Int}(h:dB ds):dB ds.tail:=fun d hd=>h d (List.mem_of_mem_tail hd)
theorem Aa(ds:List Int):ax [.l (ds.map .int)]=some (.d (.int (nx ds)),[.l (ds.tail.map .int)]):=by
  have hq:∀e:En,e[0]?=some (some (.l (ds.map .int)))→cQ false e (.s 0) (.l [])=some (.d (.bool (ds.map PyData.int).isEmpty)):=fun e he=>mC he (jp ds).1
  cases ds with
  | nil=>simp? [ax,nS,hq,nx]
  | cons d r=>simp? [ax,nS,hq,nx]
theorem cy{ds:List Int}(hd:dB ds):∃(n:Int) (ds':List Int),ax [.l (ds.map .int)]=some (.d (.int n),[.l (ds'.map .int)])∧0≤n∧n < 2147483648∧dB ds':=⟨nx ds,ds.tail,Aa ds,(xH hd).1,(xH hd).2,Cm hd⟩
theorem pU(cell k:Int)(h0:0≤k)(h1:k≤1000):∃r,gD [.d (.int cell),.d (.int k)]=some (.d (.int r),[.d (.int cell),.d (.int k)])∧0≤r∧r < 2147483648:=by
  have a1:i9 (cell % 2147483647) 48271=true:=lV (by decide) (by decide)
  have a2:i9 7919 k=true:=sv (by decide) (by decide)
  have a3:i9 (7919*k) k=true:=lV (by lia) (by lia)
  have a4:i9 ((cell % 2147483647*48271+7919*k*k+104729) % 2147483647) ((cell % 2147483647*48271+7919*k*k+104729) % 2147483647)=true:=lV (by lia) (by lia)
  refine⟨_,by simp? [gD,o8,ao,jQ,a1,a2,a3,a4];rfl,?_,?_⟩
  · lia
  · lia
theorem lH{ds:List Int}(h:dB ds){r:Int}(h0:0≤r)(h1:r < 2147483648):dB (ds++[r]):=fun d hd=>by
  rcases List.mem_append.mp hd with hd | hd
  · exact h d hd
  · simp at hd;subst hd;exact⟨h0,h1⟩
abbrev dE(ns ds:List Int)(v2 v3 v4:Option Sv):En:=[some (.d (.list (ns.map .int))),some (.l (ds.map .int)),v2,v3,v4]
inductive DI (ns:List Int) (i:Nat):En→Prop
  | mk {ds v2 v3 v4} (hd:dB ds) (hl:ds.length≤1000*i):DI ns i (dE ns ds v2 v3 v4)
inductive DJ (ns:List Int) (k cell:Int) (n i:Nat):En→Prop
  | mk {ds v4} (hd:dB ds) (hl:ds.length=n+i):DJ ns k cell n i (dE ns ds (some (.d (.int k))) (some (.d (.int cell))) v4)
inductive DW (ns:List Int) (k:Int) (v4:Option Sv) (n:Nat):En→Prop
  | mk {cell ds} (hc:0≤cell) (hd:dB ds) (hl:ds.length≤max n 900):DW ns k v4 n (dE ns ds (some (.d (.int k))) (some (.d (.int cell))) v4)
theorem wB(ns:List Int)(hn:ns.length≤63):∃ds,iw [.d (.list (ns.map .int))]=some (.l (ds.map .int),[.d (.list (ns.map .int))])∧dB ds:=by
  have inner:∀(cell k:Int) (ds:List Int) (v4:Option Sv),0≤k→k≤63→dB ds→ds.length≤63000→∃ds' v4',(∀W,cG W gA (ah 4) eH (dE ns ds (some (.d (.int k))) (some (.d (.int cell))) v4)=some (.nx (dE ns ds' (some (.d (.int k))) (some (.d (.int cell))) v4')))∧dB ds'∧ds'.length=ds.length+12:=by
    intro cell k ds v4 k0 k1 hd hl
    obtain⟨e',h1,h2⟩:=bA (own:=[]) (g:=ah 4) (f:=eH) (DJ ns k cell ds.length) (aK 0 12) 0 (dE ns ds (some (.d (.int k))) (some (.d (.int cell))) v4) (fun i x e hx hI=>by
      obtain⟨rfl,hi⟩:=bO hx
      obtain⟨hd',hl'⟩:=hI
      rename_i ds' v4'
      obtain⟨r1,c1,_,_⟩:=pU cell (3*(0+(i:Int))+1) (by lia) (by lia)
      obtain⟨r2,c2,c3,c4⟩:=pU r1 (0+(i:Int)+k+2) (by lia) (by lia)
      have a1:i9 3 (0+(i:Int))=true:=sv (by decide) (by decide)
      refine⟨_,dE ns (ds'++[r2]) (some (.d (.int k))) (some (.d (.int cell))) (some (.d (.int (0+(i:Int))))),rfl,?_,bw,.mk (lH hd' c3 c4) (by simp;lia)⟩
      have hlen:ds'.length < 1000000:=by lia
      simp only [Int.zero_add] at a1 c1 c2
      simp? [dE,eH,c1,c2,jQ,a1,hlen]) (.mk hd rfl)
    obtain⟨hd',hl'⟩:=h2
    rename_i ds' v4'
    rw [bt] at hl'
    refine⟨ds',v4',fun W=>?_,hd',by lia⟩
    rw [cE (show gA _=some (aK 0 12,[],_) from bG (n:=12) rfl (by decide) (by decide))]
    exact h1
  have wh:∀(cell k:Int) (ds:List Int) (v4:Option Sv),0≤cell→dB ds→ds.length≤63100→∃cell' ds',hE (2 ^ 4200) dY gh (dE ns ds (some (.d (.int k))) (some (.d (.int cell))) v4)=some (.nx (dE ns ds' (some (.d (.int k))) (some (.d (.int cell'))) v4))∧0≤cell'∧dB ds'∧ds'.length≤max ds.length 900:=by
    intro cell k ds v4 hc hd hl
    have tst:∀(cell:Int) (ds:List Int),dY (dE ns ds (some (.d (.int k))) (some (.d (.int cell))) v4)=some (decide (1000000000000000000≤cell)&&decide ((ds.length:Int) < 900),dE ns ds (some (.d (.int k))) (some (.d (.int cell))) v4):=by
      intro cell ds
      by_cases h:(1000000000000000000:Int)≤cell
      · simp? [dE,dY,fQ,iB,h]
      · simp? [dE,dY,fQ,iB,h]
    obtain⟨e0,e',h1,hI,h3⟩:=hU (ft:=dY) (f:=gh) (DW ns k v4 ds.length)
      (fun e=>1000000 - xF 1 e) (fun e hI=>by
        obtain⟨hc',hd',hl'⟩:=hI
        rename_i cell' ds'
        rw [tst]
        by_cases c1:(1000000000000000000:Int)≤cell'
        · by_cases c2:(ds'.length:Int) < 900
          · refine .inr ⟨_,dE ns (ds'++[cell' % 2147483629]) (some (.d (.int k))) (some (.d (.int (cell' / 2147483629)))) v4,by rw [decide_eq_true c1,decide_eq_true c2];rfl,?_,.mk (by lia) (lH hd' (by lia) (by lia)) (by simp;lia),?_⟩
            · have hlen:ds'.length < 1000000:=by lia
              have b8:Bt 8000 2147483629:=fH (by decide) (by decide)
              simp? [dE,gh,ao,cH,b8,hlen]
            · simp [xF,dE];lia
          · exact .inl ⟨_,by rw [decide_eq_true c1,decide_eq_false c2];rfl,trivial⟩
        · exact .inl ⟨_,by rw [decide_eq_false c1];rfl,trivial⟩) (2 ^ 4200) _ (.mk hc hd (by lia)) (pH (m:=20) (Nat.lt_of_le_of_lt (Nat.sub_le _ _) (by decide)) (by decide))
    obtain⟨hc',hd',hl'⟩:=hI
    rename_i cell' ds'
    rw [tst] at h3
    have h4:=(Prod.mk.inj (Option.some.inj h3)).2
    subst h4
    exact⟨cell',ds',h1,hc',hd',hl'⟩
  have turn:∀(i:Nat) (ds:List Int) (v3 v4:Option Sv) (hi:i < ns.length),dB ds→ds.length≤1000*i→∃ds2 v3' v4',dW (dE ns ds (some (.d (.int (i:Int)))) v3 v4)=some (.nx (dE ns ds2 (some (.d (.int (i:Int)))) v3' v4'))∧dB ds2∧ds2.length≤1000*(i+1):=by
    intro i ds v3 v4 hi hd hl
    have hcell:atI (ns.map PyData.int) (i:Int)=some (.int ns[i]):=by
      rw [gL (by lia) (by rw [List.length_map];lia)]
      simp [hi]
    have c0:(0:Int)≤(ns[i].natAbs:Int):=by lia
    have st:aT 3 (aL (g1 qd) (aa (au fP (ae 0) (ae 2)) ag)) (dE ns ds (some (.d (.int (i:Int)))) v3 v4)=some (.nx (dE ns ds (some (.d (.int (i:Int)))) (some (.d (.int (ns[i].natAbs:Int)))) v4)):=by
      simp? [dE,hcell]
    generalize (ns[i].natAbs:Int)=cell at c0 st
    have mid:∃ds1 v4',g_ (aR (au va (ae 3) (au lP (vC (.int 10)) (vC (.int 18))))) (cG ([4]++[]) gA (ah 4) eH) dz (dE ns ds (some (.d (.int (i:Int)))) (some (.d (.int cell))) v4)=some (.nx (dE ns ds1 (some (.d (.int (i:Int)))) (some (.d (.int cell))) v4'))∧dB ds1∧ds1.length≤ds.length+12:=by
      by_cases cb:cell < 1000000000000000000
      · obtain⟨ds1,v4',f1,f2,f3⟩:=inner cell (i:Int) ds v4 (by lia) (by lia) hd (by lia)
        refine⟨ds1,v4',?_,f2,by lia⟩
        rw [B4 (e1:=dE ns ds (some (.d (.int (i:Int)))) (some (.d (.int cell))) v4) (by simp? [dE,fQ,iB,cb])]
        exact f1 _
      · refine⟨ds,v4,?_,hd,by lia⟩
        rw [B3 (e1:=dE ns ds (some (.d (.int (i:Int)))) (some (.d (.int cell))) v4) (by simp? [dE,fQ,iB,cb])]
        rfl
    obtain⟨ds1,v4',m1,m2,m3⟩:=mid
    obtain⟨cell2,ds2,w1,w2,w3,w4⟩:=wh cell (i:Int) ds1 v4' c0 m2 (by lia)
    by_cases c2:(2147483629:Int)≤cell2
    · refine⟨ds2++[cell2 % 2147483629],some (.d (.int cell2)),v4',?_,lH w3 (by lia) (by lia),by simp;lia⟩
      have hlen:ds2.length < 1000000:=by lia
      unfold dW
      rw [gG st,gG m1,gG w1]
      simp? [dE,c2,ao,hlen]
    · refine⟨ds2,some (.d (.int cell2)),v4',?_,w3,by lia⟩
      unfold dW
      rw [gG st,gG m1,gG w1]
      simp? [dE,c2]
  obtain⟨e',h1,hI⟩:=bA (own:=[]) (g:=ah 2) (f:=dW) (DI ns) (aK 0 (min (ns.length:Int) 63).toNat) 0 (dE ns [] none none none) (fun i x e hx hI=>by
    obtain⟨rfl,hi⟩:=bO hx
    obtain⟨hd,hl⟩:=hI
    rename_i ds v2 v3 v4
    rw [Nat.zero_add] at hl ⊢
    obtain⟨ds2,v3',v4',t1,t2,t3⟩:=turn i ds v3 v4 (by lia) hd hl
    exact⟨dE ns ds (some (.d (.int (i:Int)))) v3 v4,_,by simp [ah,dE],t1,bw,.mk t2 t3⟩) (.mk (fun d hd=>by cases hd) (by simp))
  obtain⟨hd,hl⟩:=hI
  rename_i ds v2 v3 v4
  refine⟨ds,?_,hd⟩
  have hf:∀W,cG W i0 (ah 2) dW (dE ns [] none none none)=some (.nx (dE ns ds v2 v3 v4)):=fun W=>by
    rw [cE (show i0 _=some (aK 0 (min (ns.length:Int) 63).toNat,[],dE ns [] none none none) from bG (n:=min (ns.length:Int) 63) (by simp? [dE]) (by lia) (by lia))]
    exact h1
  unfold dE at hf
  simp only [List.map_nil] at hf
  simp? [iw,o5,hf]
theorem Cg(a b:Int)(hb:Bt 4000 b):mN [.d (.int a),.d (.int b)]=some (.d (.int (Int.gcd a b)),[.d (.int a),.d (.int b)]):=by
  have tst:∀x y:Int,ie [some (.d (.int x)),some (.d (.int y))]=some (!(y==0),[some (.d (.int x)),some (.d (.int y))]):=fun x y=>by simp? [ie]
  obtain⟨e0,e',h1,⟨x,y,he,hg,hy⟩,h3⟩:=hU (ft:=ie) (f:=jz) (fun e=>∃x y,e=[some (.d (.int x)),some (.d (.int y))]∧Int.gcd x y=Int.gcd a b∧Bt 4000 y) (sx 1) (fun e ⟨x,y,he,hg,hy⟩=>by
    subst he
    rw [tst]
    by_cases c:y=0
    · subst c;exact .inl ⟨_,rfl,trivial⟩
    · refine .inr ⟨_,[some (.d (.int y)),some (.d (.int (x.fmod y)))],by rw [beq_false_of_ne c];rfl,by simp? [jz,yh c],⟨y,x.fmod y,rfl,by rw [rX,hg],?_⟩,?_⟩
      · have:=jk x c
        exact Bt.of_le hy (by lia)
      · have:=jk x c
        simpa [sx] using this) (2 ^ 4200) _ ⟨a,b,rfl,rfl,hb⟩ (pH (m:=4000) (by simpa [sx,Bt] using hb) (by decide))
  subst he
  rw [tst] at h3
  have h4:=Prod.mk.inj (Option.some.inj h3)
  have hy0:y=0:=by simpa using h4.1
  subst hy0
  have h5:=h4.2
  subst h5
  have hs:hE (2 ^ 4200) ie jz [some (.d (.int a)),some (.d (.int b))]=some (.nx [some (.d (.int x)),some (.d (.int 0))]):=h1
  have hg':(x.natAbs:Int)=(Int.gcd a b:Int):=by rw [←hg];simp
  simp only [mN,wZ,iz,mS,aA,g_,bJ,dz,aT,c8,qG,ui,wg,aR,au,md,ae,vC,cv,ag,aa,a',aL,cm,qT,q_,jw,DM,kh,Cn,nI,jx,ck,bY,bZ,ba,Bq,gS,il,nZ,ef,bL,uZ,qS,dI,aC,ah,c7,cL,aM,bi,yG,et,bB,jP,io,pD,pA,pw,pv,mF,mD,mH,kX,mx,xA,pz,rP,xB,rS,pB,rQ,rR,mK,mJ,kY,mL,xC,nQ,nR,ri,rj,xh,kP,kO,eK,lM,List.replicate, -List.map_nil, -List.map_cons, -List.nil_append, -List.cons_append, -Option.bind_some, -Option.map_some, -getElem?_pos, -List.append_nil,xt,xr,xm,xl,xo,xq,xn,xu]
  simp? [hs,hg']
theorem xP(t b:Int)(hb:0 < b)(h:Bt 4000 b):k9 [.d (.int t),.d (.int b)]=some (.d (.tuple [.int (dF t b).1,.int (dF t b).2]),[.d (.int t),.d (.int b)]):=by
  have g0:=pE (t:=t) (b:=b) (by lia)
  have g1:(Int.gcd t b:Int)≠0:=by lia
  have g8:Bt 8000 (Int.gcd t b:Int):=(yj (t:=t) (by lia) h).mono (by decide)
  have e:dF t b=(t.fdiv (Int.gcd t b:Int),b.fdiv (Int.gcd t b:Int)):=by unfold dF;rw [if_neg (by lia)]
  rw [e]
  simp? [k9,w_,Cg t b h,u_ g1 g8]
theorem xf{i:Int}{n:Nat}(h1: -2147483648 < i)(h2:i < 2147483648)(hn:31≤n):Bt n i:=Bt.mono (m:=31) (by unfold Bt;lia) hn
def rE(t b:Int):Prop:=0≤t∧t≤b∧1≤b∧b≤100∧Int.gcd t b=1
theorem kg(n k:Int)(hn:0≤n):∃t b,bR [.d (.int n),.d (.int k)]=some (.d (.tuple [.int t,.int b]),[.d (.int n),.d (.int k)])∧rE t b:=by
  have b9:Bt 8000 9:=fH (by decide) (by decide)
  have b100:Bt 8000 100:=fH (by decide) (by decide)
  have low:∀t b:Int,0 < b→0≤t→t≤b→b≤100→rE (dF t b).1 (dF t b).2:=fun t b hb h0 h1 h2=>by
    obtain⟨r1,r2,r3,r4⟩:=om hb h0 h1 h2
    exact⟨r1,r2,r3,r4,sj (by lia)⟩
  by_cases c0:k=0
  · subst c0
    obtain⟨x,hx,ha⟩:=fB (xs:=[PyData.tuple [.int 1,.int 2],.tuple [.int 1,.int 3],.tuple [.int 2,.int 3],.tuple [.int 1,.int 1],.tuple [.int 0,.int 1],.tuple [.int 3,.int 4]]) (i:=n % 6) (by lia) (by simp;lia)
    obtain⟨t,b,rfl,hc⟩:∃t b,x=.tuple [.int t,.int b]∧rE t b:=by
      simp only [List.mem_cons,List.not_mem_nil,or_false] at hx
      rcases hx with rfl | rfl | rfl | rfl | rfl | rfl<;>exact⟨_,_,rfl,by unfold rE;decide⟩
    exact⟨t,b,by simp? [bR,fF,ao,ha],hc⟩
  · by_cases c1:k=1
    · subst c1
      have hm:(n / 9) % (2+n % 9 - 1) < 2+n % 9 - 1:=Int.emod_lt_of_pos _ (by lia)
      have hm0:0≤(n / 9) % (2+n % 9 - 1):=Int.emod_nonneg _ (by lia)
      refine⟨_,_,?_,low (1+(n / 9) % (2+n % 9 - 1)) (2+n % 9) (by lia) (by lia) (by lia) (by lia)⟩
      have hpos:∀e:En,aB e (.d (.int (n / 9))) (.d (.int (2+n % 9 - 1)))=_:=fun e=>ao (by lia)
      have hl:=xP (1+(n / 9) % (2+n % 9 - 1)) (2+n % 9) (by lia) (xf (by lia) (by lia) (by decide))
      simp? [bR,fF,ao,cH,b9,hpos,hl]
    · by_cases c2:k=2
      · subst c2
        have hm:(n / 100) % (1+n % 100+1) < 1+n % 100+1:=Int.emod_lt_of_pos _ (by lia)
        have hm0:0≤(n / 100) % (1+n % 100+1):=Int.emod_nonneg _ (by lia)
        refine⟨_,_,?_,low ((n / 100) % (1+n % 100+1)) (1+n % 100) (by lia) (by lia) (by lia) (by lia)⟩
        have hpos:∀e:En,aB e (.d (.int (n / 100))) (.d (.int (1+n % 100+1)))=_:=fun e=>ao (by lia)
        have hl:=xP ((n / 100) % (1+n % 100+1)) (1+n % 100) (by lia) (xf (by lia) (by lia) (by decide))
        simp? [bR,fF,ao,cH,b100,hpos,hl]
      · refine⟨1,1,?_,by unfold rE;decide⟩
        simp? [bR,fF,c0,c1,c2]
theorem l7(n k:Int):∃r,dS [.d (.int n),.d (.int k)]=some (.d (.int r),[.d (.int n),.d (.int k)])∧0≤r∧r≤1000:=by
  obtain⟨x,hx,ha⟩:=fB (xs:=[PyData.int (n % 7),.int (5+n % 2),.int (n % 1001),.int (1000 - n % 3)]) (i:=k % 4) (by lia) (by simp;lia)
  obtain⟨r,rfl,hr⟩:∃r,x=.int r∧0≤r∧r≤1000:=by
    simp only [List.mem_cons,List.not_mem_nil,or_false] at hx
    rcases hx with rfl | rfl | rfl | rfl<;>exact⟨_,rfl,by lia,by lia⟩
  exact⟨r,by simp? [dS,pb,ao,ha],hr⟩
abbrev tE(ds:List Int)(things many shape odds ws:Int)(ts:List fx)(v7 v8 v9 v10 v11 v12:Option Sv):En:=[some (.l (ds.map .int)),some (.d (.int things)),some (.d (.int many)),some (.d (.int shape)),some (.d (.int odds)),some (.d (.int ws)),some (.l (ts.map aG)),v7,v8,v9,v10,v11,v12]
inductive TR (things many shape odds ws:Int) (ts:List fx) (k:Option Sv):En→Prop
  | mk {t ds w8 w9 w10 w11 w12} (hd:dB ds) (ht:t.Ok things):TR things many shape odds ws ts k (tE ds things many shape odds ws (ts++[t]) k w8 w9 w10 w11 w12)
inductive TI (things many a b c:Int) (i:Nat):En→Prop
  | mk {ts ds w7 w8 w9 w10 w11 w12} (hd:dB ds) (hl:ts.length=i) (ht:∀t∈ts,t.Ok things):TI things many a b c i (tE ds things many a b c ts w7 w8 w9 w10 w11 w12)
theorem Cj(ds:List Int)(things many shape odds ws:Int)(ts:List fx)(k:Int)(v8 v9 v10 v11 v12:Option Sv)(hd:dB ds)(h2:2≤things)(h12:things≤100)(s0:0≤shape)(s1:shape < 6)(k0:0≤k)(hl:ts.length≤1000):
    ∃e',eI (tE ds things many shape odds ws ts (some (.d (.int k))) v8 v9 v10 v11 v12)=some (.nx e')∧TR things many shape odds ws ts (some (.d (.int k))) e':=by
  obtain⟨n,d1,tn, -, -,hd1⟩:=cy hd
  obtain⟨m,d2,tm,m0, -,hd2⟩:=cy hd1
  obtain⟨x,hx,ha⟩:=fB (xs:=[PyData.int (n % things),.int 0,.int (k % things),.int (n % things),.int (n % 2),.int (n % things)]) (i:=shape) s0 (by simp;lia)
  have tp:0 < things:=Int.lt_of_lt_of_le (by decide) h2
  have tq:0 < things - 1:=Int.sub_pos_of_lt (Int.lt_of_lt_of_le (by decide) h2)
  have nt:0≤n % things∧n % things < things:=⟨js tp,jt tp⟩
  have kt:0≤k % things∧k % things < things:=⟨js tp,jt tp⟩
  obtain⟨one,rfl,o0,o1⟩:∃r,x=.int r∧0≤r∧r < things:=by
    simp only [List.mem_cons,List.not_mem_nil,or_false] at hx
    rcases hx with rfl | rfl | rfl | rfl | rfl | rfl<;>exact⟨_,rfl,by lia,by lia⟩
  have r0:0≤(n / 12) % (things - 1):=js tq
  have r1:(n / 12) % (things - 1) < things - 1:=jt tq
  have q0:0≤(one+1+(n / 12) % (things - 1)) % things:=js tp
  have q1:(one+1+(n / 12) % (things - 1)) % things < things:=jt tp
  have qn:(one+1+(n / 12) % (things - 1)) % things≠one:=fun z=>by
    by_cases c:one+1+(n / 12) % (things - 1) < things
    · rw [Int.emod_eq_of_lt (by lia) c] at z;lia
    · have e:(one+1+(n / 12) % (things - 1)) % things=(one+1+(n / 12) % (things - 1) - things) % things:=by rw [Int.sub_emod_right]
      rw [e,Int.emod_eq_of_lt (by lia) (by lia)] at z;lia
  obtain⟨t,b,c1,c2,c3,c4,c5,c6⟩:=kg m odds m0
  obtain⟨w,w1,w2,w3⟩:=l7 (m / 10007) ws
  have b12:Bt 8000 12:=fH (by decide) (by decide)
  have b107:Bt 8000 10007:=fH (by decide) (by decide)
  have g1:∀(e:En) (i:Int),aB e (.d (.int i)) (.d (.int things))=some (.d (.int (i % things))):=fun e i=>ao tp
  have g2:∀(e:En) (i:Int),aB e (.d (.int i)) (.d (.int (things - 1)))=some (.d (.int (i % (things - 1)))):=fun e i=>ao tq
  have hlen:ts.length < 1000000:=by lia
  by_cases c:shape=4
  · subst c
    refine⟨tE d2 things many 4 odds ws (ts++[⟨0,1,t,b,w⟩]) (some (.d (.int k))) (some (.d (.int n))) (some (.d (.int 0))) (some (.d (.int 1))) (some (.d (.int m))) (some (.d (.tuple [.int 0,.int 1]))),?_,.mk hd2 ⟨by show(0:Int)≤0;decide,by show(0:Int) < 1;decide,by show(1:Int) < things;lia,c2,c3,c4,c5,w2,w3,c6⟩⟩
    simp? [tE,eI,tn,tm,ao,g1,g2,cH,b12,b107,ha,c1,w1,fN,aG,hlen]
    decide
  · refine⟨tE d2 things many shape odds ws (ts++[⟨min one ((one+1+(n / 12) % (things - 1)) % things),max one ((one+1+(n / 12) % (things - 1)) % things),t,b,w⟩]) (some (.d (.int k))) (some (.d (.int n))) (some (.d (.int one))) (some (.d (.int ((one+1+(n / 12) % (things - 1)) % things)))) (some (.d (.int m))) (some (.d (.tuple [.int (min one ((one+1+(n / 12) % (things - 1)) % things)),.int (max one ((one+1+(n / 12) % (things - 1)) % things))]))),?_,.mk hd2 ⟨by show 0≤min _ _;lia,by show min _ _ < max _ _;lia,by show max _ _ < _;lia,c2,c3,c4,c5,w2,w3,c6⟩⟩
    simp? [tE,eI,tn,tm,ao,g1,g2,cH,b12,b107,ha,c1,w1,fN,aG,hlen,c]
theorem oG(ds:List Int)(things many:Int)(hd:dB ds)(h2:2≤things)(h12:things≤100)(m0:0≤many)(m1:many≤1000):∃(ts:List fx) (ds':List Int),fX [.l (ds.map .int),.d (.int things),.d (.int many)]=some (.d (.tuple (ts.map aG)),[.l (ds'.map .int),.d (.int things),.d (.int many)])∧dB ds'∧(ts.length:Int)=many∧∀t∈ts,t.Ok things:=by
  obtain⟨n0,d1,t0, -, -,hd1⟩:=cy hd
  obtain⟨n1,d2,t1, -, -,hd2⟩:=cy hd1
  obtain⟨n2,d3,t2, -, -,hd3⟩:=cy hd2
  obtain⟨e',h1,hI⟩:=bA (own:=[]) (g:=ah 7) (f:=eI) (TI things many (n0 % 6) (n1 % 4) (n2 % 4)) (aK 0 many.toNat) 0 (tE d3 things many (n0 % 6) (n1 % 4) (n2 % 4) [] none none none none none none) (fun i x e hx hI=>by
    obtain⟨rfl,hi⟩:=bO hx
    obtain⟨hd',hl,ht⟩:=hI
    rename_i ts ds' w7 w8 w9 w10 w11 w12
    obtain⟨e9,s1,⟨s2,s3⟩⟩:=Cj ds' things many (n0 % 6) (n1 % 4) (n2 % 4) ts (0+(i:Int)) w8 w9 w10 w11 w12 hd' h2 h12 (js (by decide)) (jt (by decide)) (by lia) (by lia)
    exact⟨_,_,rfl,s1,bw,.mk s2 (by simp;lia) fun z hz=>by
      rcases List.mem_append.mp hz with hz | hz
      · exact ht z hz
      · simp at hz;subst hz;exact s3⟩) (.mk hd3 rfl fun t ht=>by cases ht)
  obtain⟨hd',hl,ht⟩:=hI
  rename_i ts ds' w7 w8 w9 w10 w11 w12
  refine⟨ts,ds',?_,hd',by rw [hl,bt];lia,ht⟩
  have hf:∀W,cG W jT (ah 7) eI (tE d3 things many (n0 % 6) (n1 % 4) (n2 % 4) [] none none none none none none)=some (.nx (tE ds' things many (n0 % 6) (n1 % 4) (n2 % 4) ts w7 w8 w9 w10 w11 w12)):=fun W=>by
    rw [cE (show jT _=some (aK 0 many.toNat,[],tE d3 things many (n0 % 6) (n1 % 4) (n2 % 4) [] none none none none none none) from bG (n:=many) (by simp? [tE]) (by lia) (by lia))]
    exact h1
  unfold tE at hf
  simp only [List.map_nil] at hf
  simp? [fX,rm,t0,t1,t2,ao,hf]
abbrev wE(ds:List Int)(most tn things many:Int)(ts:List fx)(way:Int)(ps:List Int)(v8 v9:Option Sv):En:=[some (.l (ds.map .int)),some (.d (.int most)),some (.d (.int tn)),some (.d (.int things)),some (.d (.int many)),some (.d (.tuple (ts.map aG))),some (.d (.int way)),some (.l (ps.map .int)),v8,v9]
inductive WI (most tn things many:Int) (ts:List fx) (way:Int) (i:Nat):En→Prop
  | mk {ps ds w8} (hd:dB ds) (hpl:ps.length=i) (hps:∀p∈ps,0≤p∧p≤20):WI most tn things many ts way i (wE ds most tn things many ts way ps w8 none)
theorem Ck(ds:List Int)(most tn:Int)(hd:dB ds)(m0:0≤most)(m1:most≤12)(k0:0≤tn)(k1:tn≤16):∃(W:bv) (ds':List Int),mP [.l (ds.map .int),.d (.int most),.d (.int tn)]=some (.d (a9 W),[.l (ds'.map .int),.d (.int most),.d (.int tn)])∧dB ds'∧W.Ok∧W.things≤most∧(W.ties.length:Int)≤tn:=by
  obtain⟨n0,d1,t0, -, -,hd1⟩:=cy hd
  obtain⟨n1,d2,t1, -, -,hd2⟩:=cy hd1
  have mp:0 < most+1:=Int.lt_add_one_of_le m0
  have kp:0 < tn+1:=Int.lt_add_one_of_le k0
  have g0:∀(e:En),aB e (.d (.int n0)) (.d (.int (most+1)))=some (.d (.int (n0 % (most+1)))):=fun e=>ao mp
  have g1':∀(e:En),aB e (.d (.int n1)) (.d (.int (tn+1)))=some (.d (.int (n1 % (tn+1)))):=fun e=>ao kp
  have th0:0≤n0 % (most+1):=js mp
  have th1:n0 % (most+1) < most+1:=jt mp
  have ti0:0≤n1 % (tn+1):=js kp
  have ti1:n1 % (tn+1) < tn+1:=jt kp
  clear mp kp
  generalize n0 % (most+1)=things at th0 th1 g0
  generalize n1 % (tn+1)=tm at ti0 ti1 g1'
  obtain⟨many,hmany,mm,m00,m01⟩:∃many:Int,many=tm*(if decide (1 < things)=true then 1 else 0)∧(1 < things∨many=0)∧0≤many∧many≤tn:=by
    by_cases c:1 < things
    · exact⟨tm,by simp [c],.inl c,ti0,by lia⟩
    · exact⟨0,by simp [c],.inr rfl,by lia,by lia⟩
  have gm:∀e:En,gQ e (.d (.int tm)) (.d (.int (if decide (1 < things)=true then 1 else 0)))=some (.d (.int many)):=fun e=>by
    rw [jQ (lV (by split<;>decide) (by split<;>decide)),hmany]
  have gi:∀e:En,g1 qe e [.d (.bool (decide (1 < things)))]=some (.d (.int (if decide (1 < things)=true then 1 else 0))):=fun e=>rfl
  generalize (if decide (1 < things)=true then 1 else 0:Int)=one at gm gi
  obtain⟨ts,d3,t3,hd3,hlen,hts⟩:=oG d2 (max 2 things) many hd2 (by lia) (by lia) m00 (by lia)
  obtain⟨n4,d4,t4, -, -,hd4⟩:=cy hd3
  obtain⟨e',h1,hI⟩:=bA (own:=[]) (g:=ah 8) (f:=jA) (WI most tn things many ts (n4 % 3)) (aK 0 things.toNat) 0 (wE d4 most tn things many ts (n4 % 3) [] none none) (fun i x e hx hI=>by
    obtain⟨rfl,hi⟩:=bO hx
    obtain⟨hd5,hpl,hps⟩:=hI
    rename_i ps d5 w8
    obtain⟨p1,d6,t6, -, -,hd6⟩:=cy hd5
    obtain⟨p2,d7,t7, -, -,hd7⟩:=cy hd6
    obtain⟨z,hz,ha⟩:=fB (xs:=[PyData.int 20,.int (1+p1 % 3),.int (p2 % 21)]) (i:=n4 % 3) (js (by decide)) (jt (k:=3) (by decide))
    obtain⟨p,rfl,hp⟩:∃r,z=.int r∧0≤r∧r≤20:=by
      simp only [List.mem_cons,List.not_mem_nil,or_false] at hz
      rcases hz with rfl | rfl | rfl<;>exact⟨_,rfl,by lia,by lia⟩
    refine⟨wE d5 most tn things many ts (n4 % 3) ps (some (.d (.int (0+(i:Int))))) none,wE d7 most tn things many ts (n4 % 3) (ps++[p]) (some (.d (.int (0+(i:Int))))) none,rfl,?_,bw,.mk hd7 (by simp;lia) fun q hq=>by
      rcases List.mem_append.mp hq with hq | hq
      · exact hps q hq
      · simp at hq;subst hq;exact hp⟩
    have hlen:ps.length < 1000000:=by lia
    simp? [wE,jA,t6,t7,ao,ha,hlen]) (.mk hd4 rfl fun p hp=>by cases hp)
  obtain⟨hd5,hpl,hps⟩:=hI
  rename_i ps d5 w8
  have hf:∀W,cG W lS (ah 8) jA (wE d4 most tn things many ts (n4 % 3) [] none none)=some (.nx (wE d5 most tn things many ts (n4 % 3) ps w8 none)):=fun W=>by
    rw [cE (show lS _=some (aK 0 things.toNat,[],wE d4 most tn things many ts (n4 % 3) [] none none) from bG (n:=things) (by simp? [wE]) (by lia) (by lia))]
    exact h1
  obtain⟨p1,d6,t6, -, -,hd6⟩:=cy hd5
  obtain⟨p2,d7,t7, -, -,hd7⟩:=cy hd6
  obtain⟨p3,d8,t8, -, -,hd8⟩:=cy hd7
  have xp:0 < max 1 many:=Int.lt_of_lt_of_le Int.zero_lt_one (Int.le_max_left _ _)
  have gx:∀(e:En),aB e (.d (.int p1)) (.d (.int (max 1 many)))=some (.d (.int (p1 % max 1 many))):=fun e=>ao xp
  have x0:0≤p1 % max 1 many:=js xp
  have x1:p1 % max 1 many < max 1 many:=jt xp
  obtain⟨z,hz,ha⟩:=fB (xs:=[PyData.int 40,.int (1+p1 % max 1 many),.int (p2 % 41)]) (i:=p3 % 3) (js (by decide)) (jt (k:=3) (by decide))
  obtain⟨asks,rfl,hasks⟩:∃r,z=.int r∧0≤r∧r≤40:=by
    simp only [List.mem_cons,List.not_mem_nil,or_false] at hz
    rcases hz with rfl | rfl | rfl<;>exact⟨_,rfl,by lia,by lia⟩
  rw [bt] at hpl
  refine⟨⟨things,ts,ps,asks⟩,d8,?_,hd8,⟨th0,by show things≤12;lia,fun t ht=>?_,by show ts.length≤16;lia,by show(ps.length:Int)=things;lia,hps,hasks.1,hasks.2⟩,by show things≤most;lia,by show(ts.length:Int)≤tn;lia⟩
  · unfold wE at hf
    simp only [List.map_nil] at hf
    simp? [mP,xb,t0,t1,g0,g1',gm,gi,t3,t4,ao,hf,t6,t7,t8,gx,ha,a9]
  · rcases mm with c | c
    · have:=hts t ht
      rw [show max 2 things=things by lia] at this
      exact this
    · have:ts=[]:=List.length_eq_zero_iff.mp (by lia)
      subst this;cases ht
def qi:PyData→Bool
  | .int _=>true
  | .bool _=>true
  | _=>false
def r6:PyData→Bool
  | .bool _=>true
  | _=>false
def yr:PyData→Bool
  | .tuple _=>true
  | _=>false
theorem xx{e:En}{d:PyData}:gP "int" e (.d d)=some (.d (.bool (qi d))):=by cases d<;>rfl
theorem A7{e:En}{d:PyData}:gP "bool" e (.d d)=some (.d (.bool (r6 d))):=by cases d<;>rfl
theorem vb{e:En}{d:PyData}:gP "tuple" e (.d d)=some (.d (.bool (yr d))):=by cases d<;>rfl
theorem vd{d:PyData}(h:yr d=true):∃ds,d=.tuple ds:=by cases d<;>first | exact⟨_,rfl⟩ | cases h
theorem yp(d:PyData):Bh d=(qi d&& !r6 d):=by cases d<;>rfl
theorem Ab(d:PyData):dy [.d d]=some (.d (.bool (Bh d)),[.d d]):=by
  rw [yp]
  have g1:=fun e=>xx (e:=e) (d:=d)
  have g2:=fun e=>A7 (e:=e) (d:=d)
  generalize qi d=a at*
  generalize r6 d=b at*
  cases a<;>simp? [dy,ji,g1,g2]
def sI:List PyData:=[.none,.bool true,.bool false,.int 0,.int 1,.int (-1),.int 5,.str "",.str "a",.str "0",.tuple [],.tuple [.int 0],.tuple [.int 0,.int 1],.tuple [.tuple [],.tuple []],.list [],.list [.int 0],.dict [],.dict [(.int 0,.int 1)],.tuple [.none],.tuple [.tuple []],.list [.tuple []],.tuple [.bool true,.bool false],.tuple [.tuple [.int 0,.int 1],.tuple [.int 1,.int 2]],.tuple [.tuple [.tuple [],.tuple []]],.tuple [.str "a",.int 1],.tuple [.tuple [.int 0,.int 1]],.int (10 ^ 30)]
theorem Ci(n:Int):∃d∈sI,mO [.d (.int n)]=some (.d d,[.d (.int n)]):=by
  have m0:0≤n % 27:=Int.emod_nonneg _ (by decide)
  have m1:n % 27 < 27:=Int.emod_lt_of_pos _ (by decide)
  obtain⟨d,hd,ha⟩:=fB (xs:=sI) m0 (by show n % 27 < 27;exact m1)
  have gm:∀e,aB e (.d (.int n)) (.d (.int 27))=some (.d (.int (n % 27))):=fun e=>ao (by decide)
  have gp:∀e,lP e (.d (.int 10)) (.d (.int 30))=some (.d (.int (10 ^ 30))):=fun e=>fQ (i:=10) (j:=30) (by decide)
  refine⟨d,hd,?_⟩
  generalize n % 27=k at*
  generalize hb:(10 ^ 30:Int)=big at*
  rw [show sI=[.none,.bool true,.bool false,.int 0,.int 1,.int (-1),.int 5,.str "",.str "a",.str "0",.tuple [],.tuple [.int 0],.tuple [.int 0,.int 1],.tuple [.tuple [],.tuple []],.list [],.list [.int 0],.dict [],.dict [(.int 0,.int 1)],.tuple [.none],.tuple [.tuple []],.list [.tuple []],.tuple [.bool true,.bool false],.tuple [.tuple [.int 0,.int 1],.tuple [.int 1,.int 2]],.tuple [.tuple [.tuple [],.tuple []]],.tuple [.str "a",.int 1],.tuple [.tuple [.int 0,.int 1]],.int big] by rw [←hb];rfl] at ha
  have gc:∀(e:En) (xs ys:List PyData),e[1]?=some (some (.l xs))→xs.length+ys.length≤1000000→aU e (.s 1) (.l ys)=some (.l (xs++ys)):=fun e xs ys he h=>pq he h
  simp? [mO,xa,gm,gp,gc,ha,ki]
theorem Ae(a b:Bool):jW [.d (.bool a),.d (.bool b)]=some (.d (.bool (a==b)),[.d (.bool a),.d (.bool b)]):=by
  have gi:∀(e:En) (x y:Bool),A_ e (.d (.bool x)) (.d (.bool y))=some (.d (.bool (x==y))):=fun e x y=>rfl
  cases a<;>cases b<;>simp? [jW,rl,gi]
def mZ(R:Int→Int→Bool):Int→List Int→Int→Bool
  | x,[],z=>R x z
  | x,y::r,z=>R x y&&mZ R y r z
def lst:Int→List Int→Int
  | x,[]=>x
  | _,y::r=>lst y r
theorem sk:∀(r:List Int) (x:Int),∃i:List Int,x::r=i++[lst x r]
  | [],x=>⟨[],rfl⟩
  | y::r,x=>by
    obtain⟨i,h⟩:=sk r y
    exact⟨x::i,congrArg (x::·) h⟩
theorem uR(x:Int)(r:List Int):atI ((x::r).map PyData.int) (-1)=some (.int (lst x r)):=by
  obtain⟨i,h⟩:=sk r x
  rw [h,List.map_append]
  exact p6
theorem pJ(R:Int→Int→Bool):∀(r:List Int) (x z:Int),mZ R x r z=(((List.range r.length).all fun k=>R ((x::r).getD k 0) (r.getD k 0))&&R (lst x r) z)
  | [],x,z=>by simp [mZ,lst]
  | y::r,x,z=>by
    show(R x y&&mZ R y r z)=_
    rw [pJ R r y z,List.length_cons,List.range_succ_eq_map,List.all_cons,List.all_map,Bool.and_assoc]
    rfl
theorem lb{R S:Int→Int→Bool}(h:∀a b,a≠b→R a b=S a b):∀(r:List Int) (x z:Int),(x::r).Nodup→z∉(x::r)→mZ R x r z=mZ S x r z
  | [],x,z,_,hz=>h _ _ fun e=>hz (by simp [e])
  | y::r,x,z,hn,hz=>by
    have hn':=List.nodup_cons.mp hn
    show(R x y&&mZ R y r z)=(S x y&&mZ S y r z)
    rw [h x y fun e=>hn'.1 (by simp [e]),lb h r y z hn'.2 fun e=>hz (List.mem_cons_of_mem _ e)]
theorem tL{R S:Int→Int→Bool}(h:∀a b,a≠b→R a b=S a b){x y:Int}{r:List Int}(hn:(x::y::r).Nodup):mZ R x (y::r) x=mZ S x (y::r) x:=by
  have hn':=List.nodup_cons.mp hn
  show(R x y&&mZ R y r x)=(S x y&&mZ S y r x)
  rw [h x y fun e=>hn'.1 (by simp [e]),lb h r y x hn'.2 hn'.1]
def kz(W:bv)(a b:Int):Bool:=W.ties.any fun t=>(t.one==a || t.other==a)&&(t.one==b || t.other==b)
def qp(k:Int)(t:fx):List Int:=(if (k==t.one)=true then [t.other] else [])++(if (k==t.other)=true then [t.one] else [])
def mt(W:bv)(k:Int):List Int:=W.ties.flatMap (qp k)
theorem vi(k:Int)(t:fx):(qp k t).length≤2:=by
  unfold qp
  cases (k==t.one)<;>cases (k==t.other)<;>simp
theorem oa(k:Int):∀(ts:List fx),(ts.flatMap (qp k)).length≤2*ts.length
  | []=>by simp
  | t::r=>by
    have:=oa k r
    have:=vi k t
    rw [List.flatMap_cons,List.length_append,List.length_cons]
    lia
theorem pI{k b:Int}{t:fx}:b∈qp k t↔ (k=t.one∧b=t.other)∨(k=t.other∧b=t.one):=by
  unfold qp
  by_cases c1:k=t.one
  · by_cases c2:k=t.other
    · rw [if_pos (by simpa using c1),if_pos (by simpa using c2)];simp [←c1,←c2]
    · rw [if_pos (by simpa using c1),if_neg (by simpa using c2)];simp [←c1,c2]
  · by_cases c2:k=t.other
    · rw [if_neg (by simpa using c1),if_pos (by simpa using c2)];simp [←c2,c1]
    · rw [if_neg (by simpa using c1),if_neg (by simpa using c2)];simp [c1,c2]
theorem sr{W:bv}{a b:Int}:b∈mt W a↔ ∃t∈W.ties,(a=t.one∧b=t.other)∨(a=t.other∧b=t.one):=by
  unfold mt
  rw [List.mem_flatMap]
  exact⟨fun⟨t,h,q⟩=>⟨t,h,pI.mp q⟩,fun⟨t,h,q⟩=>⟨t,h,pI.mpr q⟩⟩
theorem wF(W:bv)(a b:Int)(h:a≠b):kz W a b=(mt W a).contains b:=by
  rw [Bool.eq_iff_iff,List.contains_iff_mem,sr]
  unfold kz
  rw [List.any_eq_true]
  constructor
  · rintro⟨t,ht,q⟩
    simp only [Bool.and_eq_true,Bool.or_eq_true,beq_iff_eq] at q
    refine⟨t,ht,?_⟩
    lia
  · rintro⟨t,ht,q⟩
    refine⟨t,ht,?_⟩
    simp only [Bool.and_eq_true,Bool.or_eq_true,beq_iff_eq]
    lia
theorem yD{W:bv}(ok:W.Ok){k m:Int}(h:m∈mt W k):0≤m∧m < W.things:=by
  obtain⟨t,ht,q⟩:=sr.mp h
  have o:=ok.ties t ht
  have:=o.o0;have:=o.o1;have:=o.o2
  lia
theorem yC{W:bv}(ok:W.Ok)(k:Int):(mt W k).length≤32:=by
  have:=oa k W.ties
  have:=ok.len
  unfold mt
  lia
theorem Bb{W:bv}(e:En):fP e (.d (a9 W)) (.d (.int 0))=some (.d (.int W.things)):=by rw [fK,pz,nQ];rfl
theorem Dz{W:bv}(e:En):fP e (.d (a9 W)) (.d (.int 1))=some (.d (.tuple (W.ties.map aG))):=by rw [fK,pz,nR];rfl
theorem wD{W:bv}{x:PyData}(h:x∈W.ties.map aG):∃t∈W.ties,x=aG t:=by
  obtain⟨t,ht,rfl⟩:=List.mem_map.mp h
  exact⟨t,ht,rfl⟩
theorem kS{α:Type}(l:List α):l.filter (fun _=>true)=l:=List.filter_eq_self.mpr fun _ _=>rfl
theorem jN{α:Type}(p:α→Bool)(l:List α):(l.filter fun x=> !p x).isEmpty=l.all p:=by
  rw [Bool.eq_iff_iff]
  simp [List.isEmpty_iff,List.filter_eq_nil_iff,List.all_eq_true]
theorem kN:∀(ns:List Int),(ns.all fun i=> !decide (1 < ns.count i))=decide ns.Nodup
  | []=>by simp
  | x::r=>by
    rw [Bool.eq_iff_iff,List.all_eq_true,decide_eq_true_iff,List.nodup_cons]
    have ih:=kN r
    rw [Bool.eq_iff_iff,List.all_eq_true,decide_eq_true_iff] at ih
    rw [←ih]
    constructor
    · intro h
      refine⟨fun hx=>?_,fun y hy=>?_⟩
      · have:=h x (by simp)
        have c:=List.one_le_count_iff.mpr hx
        rw [List.count_cons_self] at this
        simp only [Bool.not_eq_true',decide_eq_false_iff_not] at this
        lia
      · have:=h y (List.mem_cons_of_mem _ hy)
        rw [List.count_cons] at this
        simp only [Bool.not_eq_true',decide_eq_false_iff_not] at this ⊢
        lia
    · rintro⟨h1,h2⟩ y hy
      simp only [Bool.not_eq_true',decide_eq_false_iff_not]
      rcases List.mem_cons.mp hy with rfl | hy
      · rw [List.count_cons_self,List.count_eq_zero.mpr h1];lia
      · have:=h2 y hy
        simp only [Bool.not_eq_true',decide_eq_false_iff_not] at this
        rw [List.count_cons]
        have:(x==y)=false:=by
          rw [beq_eq_false_iff_ne]
          rintro rfl
          exact h1 hy
        rw [this]
        simpa using ‹¬1 < List.count y r›
theorem qO(d:PyData)(lo hi:Int):aW [.d d,.d (.int lo),.d (.int hi)]=some (.d (.bool (bo lo hi d)),[.d d,.d (.int lo),.d (.int hi)]):=by
  have t:=Ab d
  cases d with
  | int i=>
    by_cases c:lo≤i
    · simp? [aW,bM,t,Bh,bo,dm,c]
    · simp? [aW,bM,t,Bh,bo,dm,c]
  | _=>simp? [aW,bM,t,Bh,bo,dm]
def BN(a b:Int):PyData→Bool
  | .tuple [.int x,.int y,_,_]=>(x==a || y==a)&&(x==b || y==b)
  | _=>false
theorem uw{W:bv}{a b:Int}:(W.ties.map aG).any (BN a b)=kz W a b:=by
  rw [List.any_map];rfl
theorem Af{W:bv}(ok:W.Ok)(a b:Int):ej [.d (a9 W),.d (.int a),.d (.int b)]=some (.d (.bool (kz W a b)),[.d (a9 W),.d (.int a),.d (.int b)]):=by
  have g1':=Dz (W:=W)
  obtain⟨t',hf⟩:=gv (cs:=[some (.d (.int a)),some (.d (.int b))]) (ft:=dN) (fe:=dP) (b:=fun _=>true) (y:=fun x=>.bool (BN a b x)) (W.ties.map aG) none [] (fun x _=>rfl) (fun x hx _=>by
    obtain⟨ti,hti,rfl⟩:=wD hx
    have hc:L2.cutD [PyData.int ti.one,.int ti.other,.tuple [.int ti.top,.int ti.bot],.int ti.worth] none (some 2)=[.int ti.one,.int ti.other]:=rfl
    have i1:∀(e:En) (z:Int),kW false e (.d (.int z)) (.d (.tuple [.int ti.one,.int ti.other]))=some (.d (.bool (ti.one==z || ti.other==z))):=fun e z=>lM
    rw [show BN a b (aG ti)=((ti.one==a || ti.other==a)&&(ti.one==b || ti.other==b)) from rfl]
    unfold aG
    have i2:=fun e=>i1 e a
    have i3:=fun e=>i1 e b
    generalize (ti.one==a || ti.other==a)=p at*
    generalize (ti.one==b || ti.other==b)=q at*
    cases p<;>simp? [dP,hc,i2,i3]) (by have:=ok.len;simp;lia)
  have hv:=eS (cp:=[(1,"one"),(2,"other")]) (nT:=1) (fi:=ir) (g:=ah 2) (ft:=dN) (fe:=dP) (e:=[some (.d (a9 W)),some (.d (.int a)),some (.d (.int b))]) (e1:=[some (.d (a9 W)),some (.d (.int a)),some (.d (.int b))]) (items:=W.ties.map aG) (cs:=[some (.d (.int a)),some (.d (.int b))]) (t:=[none]) (t':=[t']) (oh (by simp? [g1'])) rfl rfl hf
  rw [List.nil_append,kS] at hv
  have ga:=fun e=>rO (e:=e) (BN a b) (W.ties.map aG)
  rw [uw] at ga
  generalize kz W a b=bb at*
  generalize ((W.ties.map aG).map fun x=>PyData.bool (BN a b x))=M at*
  simp? [ej,jH,hv,ga]
abbrev mE(W:bv)(k:Int)(ms:List Int)(v3 v4 v5 v6:Option Sv):En:=[some (.d (a9 W)),some (.d (.int k)),some (.l (ms.map .int)),v3,v4,v5,v6]
inductive MX (W:bv) (k:Int) (i:Nat):En→Prop
  | mk {v3 v4 v5 v6}:MX W k i (mE W k ((W.ties.take i).flatMap (qp k)) v3 v4 v5 v6)
theorem pT{W:bv}(ok:W.Ok)(k:Int):eY [.d (a9 W),.d (.int k)]=some (.l ((mt W k).map .int),[.d (a9 W),.d (.int k)]):=by
  have wl:=ok.len
  obtain⟨e',h1,hI⟩:=bA (own:=[]) (g:=dI (aC (ah 3) (aC (ah 4) (aC (ah 5) (aC (ah 6) c7))))) (f:=gj) (MX W k) (W.ties.map aG) 0 (mE W k [] none none none none) (fun i x e hx hI=>by
    obtain⟨⟩:=hI
    rename_i v3 v4 v5 v6
    rw [List.getElem?_map] at hx
    obtain⟨ti,hti,rfl⟩:=Option.map_eq_some_iff.mp hx
    have ilt:=(List.getElem?_eq_some_iff.mp hti).1
    rw [Nat.zero_add]
    have hl:=oa k (W.ties.take i)
    rw [List.length_take] at hl
    have e2:(W.ties.take (i+1)).flatMap (qp k)=(W.ties.take i).flatMap (qp k)++qp k ti:=by
      rw [List.take_succ,hti,List.flatMap_append]
      simp
    generalize hms:(W.ties.take i).flatMap (qp k)=ms at*
    have ge:∀(e:En) (y:Int),cQ false e (.d (.int k)) (.d (.int y))=some (.d (.bool (k==y))):=fun e y=>by rw [io];rfl
    have lu:ms.length < 1000000:=by lia
    have lu2:ms.length+1 < 1000000:=by lia
    refine⟨mE W k ms (some (.d (.int ti.one))) (some (.d (.int ti.other))) (some (.d (.tuple [.int ti.top,.int ti.bot]))) (some (.d (.int ti.worth))),mE W k (ms++qp k ti) (some (.d (.int ti.one))) (some (.d (.int ti.other))) (some (.d (.tuple [.int ti.top,.int ti.bot]))) (some (.d (.int ti.worth))),?_,?_,bw,by rw [←e2];exact .mk⟩
    · simp only [mE,aG]
      generalize ms.map PyData.int=MM
      simp? [List.replicate]
    · simp only [mE,qp]
      cases c1:(k==ti.one)<;>cases c2:(k==ti.other)<;>simp? [gj,ge,c1,c2,lu,lu2,List.map_append]) (by exact .mk (i:=0))
  obtain⟨⟩:=hI
  rename_i v3 v4 v5 v6
  rw [Nat.zero_add,List.length_map,List.take_length] at h1
  have hf:∀Wl,cG Wl i4 (dI (aC (ah 3) (aC (ah 4) (aC (ah 5) (aC (ah 6) c7))))) gj (mE W k [] none none none none)=some (.nx (mE W k (mt W k) v3 v4 v5 v6)):=fun Wl=>by
    have g1':=Dz (W:=W)
    rw [cE (items:=W.ties.map aG) (e1:=mE W k [] none none none none) (show i4 _=_ from oh (by simp? [mE,g1']))]
    exact h1
  simp only [mE,List.map_nil] at hf
  generalize mt W k=ms at*
  simp? [eY,o6,hf]
theorem uv{d:PyData}{many:Int}(hl:∀ds,d=.tuple ds→ds.length≤1000):bg [.d d,.d (.int many)]=some (.d (.bool (uL many d)),[.d d,.d (.int many)]):=by
  cases d with
  | tuple ds=>
    have hl:=hl ds rfl
    let cs:En:=[some (.d (.int many))]
    obtain⟨t',hf⟩:=gv (cs:=cs) (ft:=dN) (fe:=bW) (b:=fun _=>true) (y:=fun d=>.bool (bo 0 (many - 1) d)) ds none [] (fun x _=>rfl) (fun x _ _=>by
      have t:=qO x 0 (many - 1)
      simp? [cs,bW,t]) (by simp;lia)
    have hv:=eS (cp:=[(1,"many")]) (nT:=1) (fi:=eC) (g:=ah 1) (ft:=dN) (fe:=bW) (e:=[some (.d (.tuple ds)),some (.d (.int many))]) (cs:=cs) (t:=[none]) (t':=[t']) (oh (fa:=ae 0) rfl) rfl rfl hf
    rw [List.nil_append,show List.filter (fun _=>true) ds=ds from List.filter_eq_self.mpr fun _ _=>rfl] at hv
    have ga:=fun e=>my (e:=e) (bo 0 (many - 1)) ds
    cases c:ds.all (bo 0 (many - 1)) with
    | true=>
      rw [c] at ga
      obtain⟨ns,rfl,hn⟩:=eW c
      have gl:=fun e=>lN (e:=e) (ns:=ns) (by simpa using hl)
      have e0:uL many (.tuple (ns.map .int))=(((qY ns).length:Int)==(ns.length:Int)):=by
        show fv many [] (ns.map .int)=_
        rw [l8,←iS,c,Bool.true_and,Bool.eq_iff_iff]
        simp
        rw [←uX]
        constructor<;>intro h<;>lia
      rw [e0]
      have ql:((ns.map PyData.int).length:Int)=(ns.length:Int):=by simp
      generalize ns.map PyData.int=O at*
      simp? [bg,cD,gP,r8,qM,xQ,hv,ga,gl,ql]
    | false=>
      rw [c] at ga
      have e0:uL many (.tuple ds)=false:=by
        cases q:uL many (.tuple ds) with
        | false=>rfl
        | true=>exact absurd (iN (show fv many [] ds=true from q)) (by rw [c];decide)
      rw [e0]
      simp? [bg,cD,gP,r8,qM,xQ,hv,ga]
  | _=>simp? [bg,cD,gP,r8,qM,xQ,uL]
theorem yd{e:En}{x:Int}{ns:List Int}{neg:Bool}:kW neg e (.d (.int x)) (.l (ns.map .int))=some (.d (.bool (if neg then !ns.contains x else ns.contains x))):=by
  have:=eK (e:=e) (x:=x) (ns:=ns) (neg:=neg)
  unfold kW at this ⊢
  simp only [fL,bS,Option.bind_some] at this ⊢
  exact this
theorem x9{x:PyData}{r:List PyData}:L2.cutD (x::r) (some 1) none=r:=by
  unfold L2.cutD
  show((x::r).drop (min 1 (r.length+1))).take ((r.length+1) - min 1 (r.length+1))=r
  rw [show min 1 (r.length+1)=1 by lia]
  simp
theorem x8{x:PyData}{r:List PyData}:L2.cutD (x::r) none (some 1)=[x]:=by
  rw [uV];rfl
def qP(W:bv):PyData→Bool
  | .tuple [.int a,.int b]=>kz W a b
  | _=>false
theorem p4(W:bv):∀(r:List Int) (x z:Int),(fw ((x::r).map .int) ((r++[z]).map .int)).all (qP W)=mZ (kz W) x r z
  | [],x,z=>by simp [fw,qP,mZ]
  | y::r,x,z=>by
    show(qP W (.tuple [.int x,.int y])&&(fw ((y::r).map .int) ((r++[z]).map .int)).all (qP W))=_
    rw [p4 W r y z];rfl
theorem wO{ns ms:List Int}{d:PyData}(h:d∈fw (ns.map .int) (ms.map .int)):∃a b:Int,d=.tuple [.int a,.int b]:=by
  obtain⟨i,hi⟩:=List.getElem?_of_mem h
  obtain⟨x,y,h1,h2,rfl⟩:=kl hi
  rw [List.getElem?_map] at h1 h2
  obtain⟨a,_,rfl⟩:=Option.map_eq_some_iff.mp h1
  obtain⟨b,_,rfl⟩:=Option.map_eq_some_iff.mp h2
  exact⟨a,b,rfl⟩
def B2(W:bv):List Int→Bool
  | x::y::r=>mZ (kz W) x (y::r) x
  | _=>false
def DE(W:bv)(ds:List PyData):Bool:=match jU ds with
  | some ns=>B2 W ns
  | none=>false
def nL(W:bv):PyData→Bool
  | .tuple ds=>decide (3≤ds.length)&&(!decide (ds.length % 2=0)&&(uL W.things (.tuple ds)&&DE W ds))
  | _=>false
theorem xN{W:bv}{ds:List PyData}(h:ds.length < 3):nL W (.tuple ds)=false:=by
  simp only [nL,show decide (3≤ds.length)=false by simpa using h,Bool.false_and]
theorem xM{W:bv}{ds:List PyData}(h:ds.length % 2=0):nL W (.tuple ds)=false:=by
  simp only [nL,show decide (ds.length % 2=0)=true by simpa using h,Bool.not_true,Bool.false_and,Bool.and_false]
theorem ue{W:bv}{d:PyData}(h:uL W.things d=false):nL W d=false:=by
  cases d with
  | tuple ds=>simp only [nL,h,Bool.false_and,Bool.and_false]
  | _=>rfl
theorem zR{W:bv}{ds:List PyData}(h:ds.all (bo 0 (W.things - 1))=false):nL W (.tuple ds)=false:=ue (by
  cases q:uL W.things (.tuple ds) with
  | false=>rfl
  | true=>rw [iN (show fv W.things [] ds=true from q)] at h;cases h)
theorem oO{W:bv}{ns:List Int}(h:(ns.map PyData.int).all (bo 0 (W.things - 1))=true):uL W.things (.tuple (ns.map .int))=decide ns.Nodup:=by
  show fv W.things [] (ns.map .int)=_
  rw [l8,←iS,h,Bool.true_and]
  simp
theorem ud{W:bv}{ns:List Int}(h1:3≤ns.length)(h2:¬ns.length % 2=0)(h3:(ns.map PyData.int).all (bo 0 (W.things - 1))=true)(h4:ns.Nodup):nL W (.tuple (ns.map .int))=B2 W ns:=by
  simp only [nL,oO h3,DE,dZ,List.length_map,decide_eq_true h1,decide_eq_true h4,decide_eq_false h2,Bool.true_and,Bool.not_false]
theorem wq{W:bv}{x:PyData}{YR YX:List PyData}(gc:∀e:En,aU e (.d (.tuple YR)) (.d (.tuple [x]))=some (.d (.tuple YX))):cR [some (.d (a9 W)),some (.d (.tuple (x::YR)))]=some (fw (x::YR) YX,[],[some (.d (a9 W)),some (.d (.tuple (x::YR)))]):=by
  have ct:=x9 (x:=x) (r:=YR)
  have ch:=x8 (x:=x) (r:=YR)
  simp? [cR,pF,qJ,ct,ch,gc]
theorem Ac{W:bv}(ok:W.Ok)(d:PyData)(hs:∀ds,d=.tuple ds→ds.length≤1000):bD [.d (a9 W),.d d]=some (.d (.bool (nL W d)),[.d (a9 W),.d d]):=by
  have tu:=uv (many:=W.things) hs
  have g0:=Bb (W:=W)
  cases c:uL W.things d with
  | false=>
    rw [ue c]
    rw [c] at tu
    simp? [bD,cM,g0,tu]
  | true=>
    rw [c] at tu
    cases d with
    | tuple ds=>
      have hs:=hs ds rfl
      have c2:ds.all (bo 0 (W.things - 1))=true:=iN (show fv W.things [] ds=true from c)
      have gm:∀e:En,aB e (.d (.int (ds.length:Int))) (.d (.int 2))=some (.d (.int ((ds.length:Int) % 2))):=fun e=>ao (by decide)
      by_cases l3:ds.length < 3
      · rw [xN l3]
        have l3':(ds.length:Int) < 3:=by lia
        simp? [bD,cM,g0,tu,l3']
      · have l3':¬(ds.length:Int) < 3:=by lia
        by_cases l2:ds.length % 2=0
        · rw [xM l2]
          have l2':(ds.length:Int) % 2=0:=by lia
          rw [l2'] at gm
          simp? [bD,cM,g0,tu,l3',gm]
        · have l2':(ds.length:Int) % 2=1:=by lia
          rw [l2'] at gm
          obtain⟨ns,rfl,hn⟩:=eW c2
          rw [List.length_map] at hs l3 l2
          have nd:ns.Nodup:=by rw [oO c2] at c;simpa using c
          rw [ud (by lia) l2 c2 nd]
          obtain⟨x,y,r,rfl⟩:∃x y r,ns=x::y::r:=by
            rcases ns with _ | ⟨x,_ | ⟨y,r⟩⟩
            · exact absurd (show _ < 3 by simp) l3
            · exact absurd (show _ < 3 by simp) l3
            · exact⟨x,y,r,rfl⟩
          have gc:∀e:En,aU e (.d (.tuple ((y::r).map .int))) (.d (.tuple [.int x]))=some (.d (.tuple ((y::r++[x]).map .int))):=fun e=>by rw [List.map_append];exact fN (by simp at hs;simp;lia)
          have zp:=p4 W (y::r) x x
          have zl:=L2.zipD_len ((x::y::r).map .int) ((y::r++[x]).map .int)
          have zm:=fun d=>wO (ns:=x::y::r) (ms:=y::r++[x]) (d:=d)
          have hi:=wq (W:=W) (x:=.int x) gc
          rw [←List.map_cons] at hi
          rw [show B2 W (x::y::r)=mZ (kz W) x (y::r) x from rfl,←zp]
          generalize hZ:fw ((x::y::r).map PyData.int) ((y::r++[x]).map .int)=Z at*
          obtain⟨t2,ht2,hf2⟩:=de (cs:=[some (.d (a9 W))]) (g:=dI (aC (ah 1) (aC (ah 2) c7))) (ft:=dN) (fe:=ci) (b:=fun _=>true) (y:=fun x=>.bool (qP W x)) (u:=fun x=>match x with | .tuple [a,b]=>[some (.d a),some (.d b)] | _=>[]) 2 Z [none,none] [] rfl (fun x hx t ht=>by
            obtain⟨a,b,rfl⟩:=zm x hx
            rcases t with _ | ⟨a1,_ | ⟨a2,_ | ⟨a3,r⟩⟩⟩
            · simp at ht
            · simp at ht
            · rfl
            · simp at ht) (fun x hx=>by
            obtain⟨a,b,rfl⟩:=zm x hx
            rfl) (fun x _=>rfl) (fun x hx _=>by
            obtain⟨a,b,rfl⟩:=zm x hx
            have tt:=Af ok a b
            show ci [some (.d (a9 W)),some (.d (.int a)),some (.d (.int b))]=some (.d (.bool (kz W a b)),[some (.d (a9 W)),some (.d (.int a)),some (.d (.int b))])
            simp? [ci,tt]) (by simp at zl hs ⊢;lia)
          have hv:=eS (cp:=[(0,"web")]) (nT:=2) (fi:=cR) (g:=dI (aC (ah 1) (aC (ah 2) c7))) (ft:=dN) (fe:=ci) (cs:=[some (.d (a9 W))]) (t:=[none,none]) (t':=t2) hi rfl rfl hf2
          rw [List.nil_append,kS] at hv
          have ga:=fun e=>my (e:=e) (qP W) Z
          generalize Z.all (qP W)=bb at*
          generalize (Z.map fun x=>PyData.bool (qP W x))=M at*
          generalize (x::y::r).map PyData.int=NN at*
          simp? [bD,cM,g0,tu,l3',gm,hv,ga]
    | _=>cases c
def qD(ns:List Int)(k:Int):Int:=if k=0 then lst (ns.headD 0) ns.tail else ns.getD (k - 1).toNat 0
theorem zi{ns:List Int}{k:Int}(h0:0≤k)(h1:k < (ns.length:Int)):atI (ns.map PyData.int) (k - 1)=some (.int (qD ns k)):=by
  unfold qD
  by_cases c:k=0
  · subst c
    rw [if_pos rfl]
    rcases ns with _ | ⟨x,r⟩
    · simp at h1
    · exact uR x r
  · rw [if_neg c]
    exact fD (by lia) (by lia)
def qK(W:bv)(ns:List Int):PyData→Bool
  | .int k=>(mt W (qD ns k)).contains (ns.getD k.toNat 0)
  | _=>false
theorem zA(W:bv)(x:Int)(r:List Int):(aK 0 (x::r).length).all (qK W (x::r))=mZ (fun a b=>(mt W a).contains b) x r x:=by
  rw [pJ]
  unfold aK
  rw [List.all_map,List.length_cons,List.range_succ_eq_map,List.all_cons,List.all_map,Bool.and_comm]
  congr 1
  refine congrArg (fun f=>List.all (List.range r.length) f) (funext fun k=>?_)
  show(mt W (qD (x::r) (0+((k+1:Nat):Int)))).contains ((x::r).getD (0+((k+1:Nat):Int)).toNat 0)=_
  have e1:qD (x::r) (0+((k+1:Nat):Int))=(x::r).getD k 0:=by
    unfold qD
    rw [if_neg (by lia),show(0+((k+1:Nat):Int) - 1).toNat=k by lia]
  have e2:(0+((k+1:Nat):Int)).toNat=k+1:=by lia
  rw [e1,e2]
  rfl
theorem uf{W:bv}{ns:List Int}(h3:3≤ns.length)(nd:ns.Nodup):(aK 0 ns.length).all (qK W ns)=B2 W ns:=by
  rcases ns with _ | ⟨x,_ | ⟨y,r⟩⟩
  · simp at h3
  · simp at h3
  · rw [zA]
    exact(tL (fun a b h=>wF W a b h) nd).symm
def qC(ns:List Int):PyData→Bool
  | .int i=> !decide (1 < ns.count i)
  | _=>false
theorem zz(ns:List Int):(ns.map PyData.int).all (qC ns)=decide ns.Nodup:=by
  rw [List.all_map,←kN ns]
  rfl
theorem qN{W:bv}(ok:W.Ok)(d:PyData)(hs:∀ds,d=.tuple ds→ds.length≤1000):bU [.d (a9 W),.d d]=some (.d (.bool (nL W d)),[.d (a9 W),.d d]):=by
  have g0:=Bb (W:=W)
  have gt:=fun e=>vb (e:=e) (d:=d)
  cases c0:yr d with
  | false=>
    rw [c0] at gt
    have e:nL W d=false:=by cases d<;>first | rfl | cases c0
    rw [e]
    simp? [bU,dc,gt]
  | true=>
    rw [c0] at gt
    obtain⟨ds,rfl⟩:=vd c0
    have hs:=hs ds rfl
    have gm:∀e:En,aB e (.d (.int (ds.length:Int))) (.d (.int 2))=some (.d (.int ((ds.length:Int) % 2))):=fun e=>ao (by decide)
    by_cases l3:ds.length < 3
    · rw [xN l3]
      have l3':(ds.length:Int) < 3:=by lia
      simp? [bU,dc,gt,l3']
    have l3':¬(ds.length:Int) < 3:=by lia
    by_cases l2:ds.length % 2=0
    · rw [xM l2]
      have l2':(ds.length:Int) % 2=0:=by lia
      rw [l2'] at gm
      simp? [bU,dc,gt,l3',gm]
    have l2':(ds.length:Int) % 2=1:=by lia
    rw [l2'] at gm
    obtain⟨t',ht,hf⟩:=de (cs:=[some (.d (a9 W))]) (g:=ah 1) (ft:=cg) (fe:=eB) (b:=fun x=> !bo 0 (W.things - 1) x) (y:=fun x=>x) (u:=fun x=>[some (.d x)]) 1 ds [none] [] rfl (fun x hx t ht=>by
      rcases t with _ | ⟨t1,_ | ⟨t2,r⟩⟩
      · simp at ht
      · rfl
      · simp at ht) (fun x hx=>rfl) (fun x hx=>by
      have q1:=fun e=>xx (e:=e) (d:=x)
      have q2:=fun e=>A7 (e:=e) (d:=x)
      cases x with
      | int i=>
        rw [show qi (.int i)=true from rfl] at q1
        rw [show r6 (.int i)=false from rfl] at q2
        by_cases k0:0≤i
        · have e:(!(bo 0 (W.things - 1) (.int i)))= !decide (i < W.things):=by
            rw [show bo 0 (W.things - 1) (.int i)=(decide (0≤i)&&decide (i≤W.things - 1)) from rfl,decide_eq_true k0,Bool.true_and]
            congr 1
            rw [decide_eq_decide]
            lia
          rw [e]
          simp? [cg,q1,q2,g0,dm,k0]
        · have e:(!(bo 0 (W.things - 1) (.int i)))=true:=by
            rw [show bo 0 (W.things - 1) (.int i)=(decide (0≤i)&&decide (i≤W.things - 1)) from rfl,decide_eq_false k0]
            rfl
          rw [e]
          simp? [cg,q1,q2,g0,dm,k0]
      | bool b=>
        rw [show qi (.bool b)=true from rfl] at q1
        rw [show r6 (.bool b)=true from rfl] at q2
        simp? [cg,q1,q2,bo]
      | _=>
        simp only [qi] at q1
        simp? [cg,q1,bo]) (fun x hx _=>by
      simp? [eB]) (by simp;lia)
    have hv:=eS (cp:=[(0,"_law_web_here")]) (nT:=1) (fi:=jm) (g:=ah 1) (ft:=cg) (fe:=eB) (e:=[some (.d (a9 W)),some (.d (.tuple ds))]) (cs:=[some (.d (a9 W))]) (t:=[none]) (t':=t') rfl rfl rfl hf
    rw [List.nil_append,List.map_id'] at hv
    have gz:=fun e=>og (e:=e) (xs:=ds.filter fun x=> !bo 0 (W.things - 1) x) (neg:=true)
    simp only [if_true,jN] at gz
    cases c2:ds.all (bo 0 (W.things - 1)) with
    | false=>
      rw [c2] at gz
      rw [zR c2]
      generalize (ds.filter fun x=> !bo 0 (W.things - 1) x)=M at*
      simp? [bU,dc,gt,l3',gm,hv,gz]
    | true=>
      rw [c2] at gz
      obtain⟨ns,rfl,hn⟩:=eW c2
      rw [List.length_map] at hs l3 l2
      obtain⟨t5,ht5,hf5⟩:=de (cs:=[some (.d (.tuple (ns.map .int)))]) (g:=ah 1) (ft:=ey) (fe:=eA) (b:=fun x=> !qC ns x) (y:=fun x=>x) (u:=fun x=>[some (.d x)]) 1 (ns.map .int) [none] [] rfl (fun x hx t ht=>by
        rcases t with _ | ⟨t1,_ | ⟨t2,r⟩⟩
        · simp at ht
        · rfl
        · simp at ht) (fun x hx=>rfl) (fun x hx=>by
        obtain⟨i,_,rfl⟩:=List.mem_map.mp hx
        have ei:=dZ ns
        rw [show(!qC ns (.int i))=decide (1 < ns.count i) by simp [qC]]
        have hc:oP false gC (ae 0) (ae 1) [some (.d (.tuple (ns.map .int))),some (.d (.int i))]=some (.d (.int (ns.count i:Nat)),[some (.d (.tuple (ns.map .int))),some (.d (.int i))]):=by
          generalize ns.map PyData.int=NN at*
          simp? [oP,zW,bS,bL,ei,gC]
        have hg:∀e:En,As e (.d (.int (ns.count i:Nat))) (.d (.int 1))=some (.d (.bool (decide (1 < ns.count i)))):=fun e=>by
          have q:decide ((1:Int) < ((ns.count i:Nat):Int))=decide (1 < ns.count i):=by rw [decide_eq_decide];lia
          rw [←q]
          simp? [List.replicate]
        generalize decide (1 < ns.count i)=bb at*
        generalize ns.count i=cc at*
        generalize ns.map PyData.int=NN at*
        simp? [ey,hc,hg]) (fun x hx _=>by
        generalize ns.map PyData.int=NN at*
        simp? [eA]) (by simp;lia)
      have hv5:=eS (cp:=[(1,"_law_thing")]) (nT:=1) (fi:=jl) (g:=ah 1) (ft:=ey) (fe:=eA) (e:=[some (.d (a9 W)),some (.d (.tuple (ns.map .int)))]) (cs:=[some (.d (.tuple (ns.map .int)))]) (t:=[none]) (t':=t5) rfl rfl rfl hf5
      rw [List.nil_append,List.map_id'] at hv5
      have gz5:=fun e=>og (e:=e) (xs:=(ns.map PyData.int).filter fun x=> !qC ns x) (neg:=true)
      simp only [if_true,jN,zz] at gz5
      by_cases nd:ns.Nodup
      case neg=>
        rw [decide_eq_false nd] at gz5
        have e:nL W (.tuple (ns.map .int))=false:=ue (by rw [oO c2];exact decide_eq_false nd)
        rw [e]
        generalize ((ns.map PyData.int).filter fun x=> !qC ns x)=M5 at*
        generalize ((ns.map PyData.int).filter fun x=> !bo 0 (W.things - 1) x)=M at*
        generalize ns.map PyData.int=NN at*
        simp? [bU,dc,gt,l3',gm,hv,gz,hv5,gz5]
      case pos=>
        rw [decide_eq_true nd] at gz5
        rw [ud (by lia) l2 c2 nd]
        obtain⟨t2,ht2,hf2⟩:=de (cs:=[some (.d (.tuple (ns.map .int))),some (.d (a9 W))]) (g:=ah 2) (ft:=eu) (fe:=ez) (b:=fun x=> !qK W ns x) (y:=fun x=>x) (u:=fun x=>[some (.d x)]) 1 (aK 0 ns.length) [none] [] rfl (fun x hx t ht=>by
          rcases t with _ | ⟨t1,_ | ⟨t2,r⟩⟩
          · simp at ht
          · rfl
          · simp at ht) (fun x hx=>rfl) (fun x hx=>by
          obtain⟨i,hx⟩:=List.getElem?_of_mem hx
          obtain⟨rfl,hi⟩:=bO hx
          obtain⟨k,hk⟩:∃k:Int,k=0+(i:Int):=⟨_,rfl⟩
          rw [←hk]
          have a1:=fD (ns:=ns) (k:=k) (by lia) (by lia)
          have a2:=zi (ns:=ns) (k:=k) (by lia) (by lia)
          have tm:=pT ok (qD ns k)
          have gi:∀e:En,kW true e (.d (.int (ns.getD k.toNat 0))) (.l ((mt W (qD ns k)).map .int))=some (.d (.bool (!(mt W (qD ns k)).contains (ns.getD k.toNat 0)))):=fun e=>yd
          rw [show qK W ns (.int k)=(mt W (qD ns k)).contains (ns.getD k.toNat 0) from rfl]
          generalize (mt W (qD ns k)).contains (ns.getD k.toNat 0)=bb at*
          generalize (mt W (qD ns k)).map PyData.int=MM at*
          generalize qD ns k=y1 at*
          generalize ns.getD k.toNat 0=y2 at*
          generalize ns.map PyData.int=NN at*
          simp? [eu,a1,a2,tm,gi]) (fun x hx _=>by
          generalize ns.map PyData.int=NN at*
          simp? [ez]) (by rw [bt];simp;lia)
        have hi1:fR [some (.d (a9 W)),some (.d (.tuple (ns.map .int)))]=some (aK 0 ns.length,[],[some (.d (a9 W)),some (.d (.tuple (ns.map .int)))]):=by
          have:=bG (fs:=aa (aL (g1 eE) (aa (ae 1) ag)) ag) (e:=[some (.d (a9 W)),some (.d (.tuple (ns.map .int)))]) (e1:=[some (.d (a9 W)),some (.d (.tuple (ns.map .int)))]) (n:=(ns.length:Int)) (by
            have ql:((ns.map PyData.int).length:Int)=(ns.length:Int):=by simp
            generalize ns.map PyData.int=NN at*
            simp? [ql]) (by lia) (by lia)
          exact this
        have hv2:=eS (cp:=[(1,"_law_thing"),(0,"_law_web_here")]) (nT:=1) (fi:=fR) (g:=ah 2) (ft:=eu) (fe:=ez) (e:=[some (.d (a9 W)),some (.d (.tuple (ns.map .int)))]) (cs:=[some (.d (.tuple (ns.map .int))),some (.d (a9 W))]) (t:=[none]) (t':=t2) hi1 rfl rfl hf2
        rw [List.nil_append,List.map_id'] at hv2
        have gz2:=fun e=>og (e:=e) (xs:=(aK 0 ns.length).filter fun x=> !qK W ns x) (neg:=false)
        simp only [Bool.false_eq_true,if_false,jN,uf (by lia:3≤ns.length) nd] at gz2
        generalize B2 W ns=bb at*
        generalize ((aK 0 ns.length).filter fun x=> !qK W ns x)=M2 at*
        generalize ((ns.map PyData.int).filter fun x=> !qC ns x)=M5 at*
        generalize ((ns.map PyData.int).filter fun x=> !bo 0 (W.things - 1) x)=M at*
        generalize ns.map PyData.int=NN at*
        simp? [bU,dc,gt,l3',gm,hv,gz,hv5,gz5,hv2,gz2]
theorem uU{ns:List Int}{lo hi:Option Int}:∃R:List Int,L2.cutD (ns.map PyData.int) lo hi=R.map .int∧R.length≤ns.length:=by
  unfold L2.cutD
  rw [←List.map_drop,←List.map_take]
  exact⟨_,rfl,((List.take_sublist _ _).trans (List.drop_sublist _ _)).length_le⟩
abbrev nJ(ds:List Int)(W:bv)(here:Int)(fd:List Int)(v4:Option Sv):En:=[some (.l (ds.map .int)),some (.d (a9 W)),some (.d (.int here)),some (.l (fd.map .int)),v4]
inductive Dx (W:bv):En→Prop
  | mk {ds here fd v4} (hd:dB ds) (h0:0≤here) (h1:here < W.things) (nd:fd.Nodup) (hr:∀x∈fd,0≤x∧x < W.things):Dx W (nJ ds W here fd v4)
def DN(e:En):Nat:=match e[3]? with
  | some (some (Sv.l xs))=>13 - xs.length
  | _=>0
theorem oS{W:bv}{ds fd:List Int}{here:Int}{v4:Option Sv}:DN (nJ ds W here fd v4)=13 - fd.length:=by
  show 13 - (fd.map PyData.int).length=_
  rw [List.length_map]
theorem uF{W:bv}{ds fd:List Int}{here:Int}{v4:Option Sv}:fJ (nJ ds W here fd v4)=some (!fd.contains here,nJ ds W here fd v4):=by
  have gi:∀e:En,e[3]?=some (some (.l (fd.map .int)))→kW true e (.d (.int here)) (.s 3)=some (.d (.bool (!fd.contains here))):=fun e he=>ye he
  simp only [nJ] at gi ⊢
  generalize fd.contains here=bb at*
  generalize fd.map PyData.int=FF at*
  simp? [fJ,gi]
theorem Am{W:bv}(ok:W.Ok){ds fd:List Int}{here:Int}{v4:Option Sv}(hd:dB ds)(h0:0≤here)(h1:here < W.things)(hl:fd.length≤100):
    ∃ds' here' v4',eJ (nJ ds W here fd v4)=some (.nx (nJ ds' W here' (fd++[here]) v4'))∧dB ds'∧0≤here'∧here' < W.things:=by
  have tm:=pT ok here
  have ml:=yC ok here
  have lf:fd.length < 1000000:=by lia
  have q4:∀(xs:List Int) (e:En),e[4]?=some (some (.l (xs.map .int)))→cQ true e (.s 4) (.l [])=some (.d (.bool (!(xs.map PyData.int).isEmpty))):=fun xs e he=>mC he (jp _).1
  by_cases c:mt W here=[]
  · rw [c] at tm
    have q:=fun e he=>q4 [] e he
    refine⟨ds,here,some (.l []),?_,hd,h0,h1⟩
    simp only [nJ,List.map_append,List.map_nil,List.isEmpty_nil,Bool.not_true] at q tm ⊢
    simp? [eJ,tm,q,lf]
  · obtain⟨n,d1,t1,n0, -,hd1⟩:=cy hd
    have lp:0 < ((mt W here).length:Int):=by
      have:=List.length_pos_iff.mpr c
      lia
    have gm:∀e:En,aB e (.d (.int n)) (.d (.int ((mt W here).length:Int)))=some (.d (.int (n % ((mt W here).length:Int)))):=fun e=>ao lp
    have a0:=js (n:=n) lp;have a1:=jt (n:=n) lp
    have ai:=fD (ns:=mt W here) a0 a1
    have hm:(mt W here).getD (n % ((mt W here).length:Int)).toNat 0∈mt W here:=by
      have:(n % ((mt W here).length:Int)).toNat < (mt W here).length:=by lia
      rw [List.getD_eq_getElem?_getD,List.getElem?_eq_getElem this]
      exact List.getElem_mem _
    obtain⟨r0,r1⟩:=yD ok hm
    have q:=fun e he=>q4 (mt W here) e he
    rw [show((mt W here).map PyData.int).isEmpty=false by
      rcases hh:mt W here with _ | ⟨x,r⟩
      · exact absurd hh c
      · rfl] at q
    refine⟨d1,(mt W here).getD (n % ((mt W here).length:Int)).toNat 0,some (.l ((mt W here).map .int)),?_,hd1,r0,r1⟩
    generalize (mt W here).getD (n % ((mt W here).length:Int)).toNat 0=y at*
    have ql:(((mt W here).map PyData.int).length:Int)=((mt W here).length:Int):=by simp
    generalize n % ((mt W here).length:Int)=z at*
    generalize (mt W here).length=L at*
    generalize (mt W here).map PyData.int=MM at*
    simp only [nJ,List.map_append,List.map_cons,List.map_nil] at q ⊢
    simp? [eJ,tm,q,lf,t1,ql,gm,ai]
theorem Ag{W:bv}(ok:W.Ok){ds:List Int}(hd:dB ds):∃(rs ds':List Int),i7 [.l (ds.map .int),.d (a9 W)]=some (.d (.tuple (rs.map .int)),[.l (ds'.map .int),.d (a9 W)])∧dB ds'∧rs.length≤12:=by
  have g0:=Bb (W:=W)
  have t12:=ok.t1
  have t00:=ok.t0
  by_cases c:W.things=0
  · refine⟨[],ds,?_,hd,by simp⟩
    have ge:∀e:En,cQ false e (.d (.int W.things)) (.d (.int 0))=some (.d (.bool true)):=fun e=>by rw [io];simp [c]
    simp? [i7,nV,g0,ge]
  · have ge:∀e:En,cQ false e (.d (.int W.things)) (.d (.int 0))=some (.d (.bool false)):=fun e=>by rw [io];simp [c]
    obtain⟨n,d1,t1,n0, -,hd1⟩:=cy hd
    have tp:0 < W.things:=by lia
    have gm:∀e:En,aB e (.d (.int n)) (.d (.int W.things))=some (.d (.int (n % W.things))):=fun e=>ao tp
    have a0:=js (n:=n) tp;have a1:=jt (n:=n) tp
    generalize n % W.things=here at*
    have hlen:∀fd:List Int,fd.Nodup→(∀x∈fd,0≤x∧x < W.things)→fd.length≤12:=fun fd nd hr=>by
      have:=mV W.things.toNat fd nd fun k hk=>by have:=hr k hk;lia
      lia
    obtain⟨e0,e',hw,hP,hft⟩:=hU (ft:=fJ) (f:=eJ) (Dx W) DN (fun e hP=>by
      obtain⟨hd,h0,h1,nd,hr⟩:=hP
      rename_i ds here fd v4
      have tt:=uF (W:=W) (ds:=ds) (here:=here) (fd:=fd) (v4:=v4)
      cases hc:fd.contains here with
      | true=>
        rw [hc] at tt
        exact .inl ⟨_,tt,trivial⟩
      | false=>
        rw [hc] at tt
        have hl:=hlen fd nd hr
        obtain⟨ds',here',v4',h2,hd',r0,r1⟩:=Am ok (v4:=v4) hd h0 h1 (by lia:fd.length≤100)
        have hn:here∉fd:=fun h=>by rw [List.contains_iff_mem.mpr h] at hc;cases hc
        have nd2:(fd++[here]).Nodup:=by
          rw [List.nodup_append]
          exact⟨nd,by simp,fun a ha b hb=>by simp at hb;subst hb;exact fun e=>hn (e ▸ ha)⟩
        have hr2:∀x∈fd++[here],0≤x∧x < W.things:=fun x hx=>by
          rcases List.mem_append.mp hx with hx | hx
          · exact hr x hx
          · simp at hx;subst hx;exact⟨h0,h1⟩
        refine .inr ⟨_,_,tt,h2,.mk hd' r0 r1 nd2 hr2,?_⟩
        rw [oS,oS,List.length_append]
        simp only [List.length_cons,List.length_nil]
        lia) (2 ^ 4200) (nJ d1 W here [] none) (.mk hd1 a0 a1 List.nodup_nil fun x hx=>by cases hx) (by
      rw [oS]
      exact Nat.lt_of_le_of_lt (Nat.sub_le _ _) (by decide))
    obtain⟨hd2,h0,h1,nd,hr⟩:=hP
    rename_i ds2 hr2 fd v4
    rw [uF] at hft
    have hl:=hlen fd nd hr
    have hin:hr2∈fd:=by
      cases hc:fd.contains hr2 with
      | true=>exact List.contains_iff_mem.mp hc
      | false=>rw [hc] at hft;cases hft
    have he:e'=nJ ds2 W hr2 fd v4:=(Prod.mk.inj (Option.some.inj hft)).2.symm
    subst he
    have hx:oP true gX (ae 3) (ae 2) (nJ ds2 W hr2 fd v4)=some (.d (.int (fd.idxOf hr2:Nat)),nJ ds2 W hr2 fd v4):=by
      have ei:=dZ fd
      simp only [nJ]
      generalize fd.map PyData.int=FF at*
      simp? [oP,zW,bS,bL,ei,gX,hin]
    obtain⟨R,hR,hRl⟩:=uU (ns:=fd) (lo:=some ((fd.idxOf hr2:Nat):Int)) (hi:=none)
    refine⟨R,ds2,?_,hd2,by lia⟩
    have hw':hE (2 ^ 4200) fJ eJ (nJ d1 W here [] none)=some (.nx (nJ ds2 W hr2 fd v4)):=hw
    simp only [nJ,List.map_nil] at hw' hx
    generalize fd.idxOf hr2=ix at*
    generalize fd.map PyData.int=FF at*
    generalize R.map PyData.int=RR at*
    have gs:∀e:En,e[3]?=some (some (.l FF))→Ba e (.s 3) (some (ix:Int)) none=some (.l RR):=fun e he=>by simp [Ba,bS,he,hR]
    simp? [i7,nV,g0,ge,t1,gm,hw',hx,gs]
def qI:PyData→Bool
  | .tuple ds=>decide (ds.length≤1000)
  | _=>true
theorem zU{d:PyData}(h:qI d=true):∀ds,d=.tuple ds→ds.length≤1000:=fun ds e=>by
  subst e
  simpa [qI] using h
theorem fg{ds:List PyData}(h:ds.length≤1000):qI (.tuple ds)=true:=by simpa [qI] using h
abbrev wo(ds:List Int)(W:bv)(NN:List PyData)(at_:Int)(found:List PyData)(v5:Option Sv):En:=[some (.l (ds.map .int)),some (.d (a9 W)),some (.d (.tuple NN)),some (.d (.int at_)),some (.l found),v5]
inductive Dv (ds:List Int) (W:bv) (NN:List PyData) (at_:Int) (i:Nat):En→Prop
  | mk {found v5} (hl:found.length=8+2*i) (hs:∀d∈found,qI d=true):Dv ds W NN at_ i (wo ds W NN at_ found v5)
def vq(at_ things:Int):List PyData:=[.int at_,.int things,.int (-1),.bool true,.bool false,.none,.str "1",.tuple [.int 1],.list [.int 0],.dict [(.int 0,.int 1)]]
theorem Ad{W:bv}{ds rs:List Int}(hd:dB ds)(hr:rs.length≤12):∃(ds':List Int) (L:List PyData),i6 [.l (ds.map .int),.d (a9 W),.d (.tuple (rs.map .int))]=some (.l L,[.l (ds'.map .int),.d (a9 W),.d (.tuple (rs.map .int))])∧dB ds'∧L.length≤30∧∀d∈L,qI d=true:=by
  have g0:=Bb (W:=W)
  obtain⟨n,d1,t1,n0, -,hd1⟩:=cy hd
  have lp:0 < (rs.length:Int)+1:=by lia
  have gm:∀e:En,aB e (.d (.int n)) (.d (.int ((rs.length:Int)+1)))=some (.d (.int (n % ((rs.length:Int)+1)))):=fun e=>ao lp
  have q0:=js (n:=n) lp;have q1:=jt (n:=n) lp
  generalize n % ((rs.length:Int)+1)=at_ at*
  have lnn:(rs.map PyData.int).length=rs.length:=by simp
  have gi:∀e:En,kW false e (.d (.int 1)) (.d (.tuple (rs.map .int)))=some (.d (.bool (rs.contains 1))):=fun e=>eK
  have hX:(1:Int)∈rs→∀(v3 v4 v5:Option Sv),oP false gX (ae 2) (vC (.int 1)) [some (.l (d1.map .int)),some (.d (a9 W)),some (.d (.tuple (rs.map .int))),v3,v4,v5]=some (.d (.int (rs.idxOf 1:Nat)),[some (.l (d1.map .int)),some (.d (a9 W)),some (.d (.tuple (rs.map .int))),v3,v4,v5]):=fun h1 v3 v4 v5=>by
    have ei:=dZ rs
    generalize rs.map PyData.int=NN at*
    simp? [oP,zW,bS,bL,ei,gX,h1]
  have hc1:rs.contains 1=true→(1:Int)∈rs:=fun h=>List.contains_iff_mem.mp h
  generalize rs.map PyData.int=NN at*
  generalize rs.idxOf 1=ix at*
  generalize rs.contains 1=has at*
  have cA:=L2.cut_len (xs:=NN) (lo:=none) (hi:=some at_)
  have cB:=L2.cut_len (xs:=NN) (lo:=some (at_+1)) (hi:=none)
  have cC:=L2.cut_len (xs:=NN) (lo:=some at_) (hi:=none)
  have c1:=L2.cut_len (xs:=NN) (lo:=some 1) (hi:=none)
  have c2:=L2.cut_len (xs:=NN) (lo:=none) (hi:=some 1)
  have cX:=L2.cut_len (xs:=NN) (lo:=none) (hi:=some (ix:Int))
  have cY:=L2.cut_len (xs:=NN) (lo:=some ((ix:Int)+1)) (hi:=none)
  generalize hA:L2.cutD NN none (some at_)=A at*
  generalize hB:L2.cutD NN (some (at_+1)) none=B at*
  generalize hC:L2.cutD NN (some at_) none=C at*
  generalize hC1:L2.cutD NN (some 1) none=C1 at*
  generalize hC2:L2.cutD NN none (some 1)=C2 at*
  generalize hXX:L2.cutD NN none (some (ix:Int))=XX at*
  generalize hYY:L2.cutD NN (some ((ix:Int)+1)) none=YY at*
  have gc:∀(xs ys:List PyData),xs.length≤100→ys.length≤100→∀e:En,aU e (.d (.tuple xs)) (.d (.tuple ys))=some (.d (.tuple (xs++ys))):=fun xs ys h1 h2 e=>fN (by lia)
  have k1:=gc C1 C2 (by lia) (by lia)
  have k2:=gc NN C2 (by lia) (by lia)
  have k3:=gc A B (by lia) (by lia)
  have k4:=gc NN NN (by lia) (by lia)
  have gr:∀e:En,CT e (.d (.tuple NN)) (.d (.int (-1)))=some (.d (.tuple NN.reverse)):=fun e=>rfl
  have gl:∀e:En,g1 pC e [.d (.tuple NN)]=some (.l NN):=fun e=>rfl
  have s0:∀d∈[PyData.tuple NN,.tuple (C1++C2),.tuple NN.reverse,.tuple (NN++C2),.tuple (A++B),.tuple C1,.tuple (NN++NN),.list NN],qI d=true:=fun d hd=>by
    simp only [List.mem_cons,List.not_mem_nil,or_false] at hd
    rcases hd with rfl | rfl | rfl | rfl | rfl | rfl | rfl | rfl
    · exact fg (by lia)
    · exact fg (by rw [List.length_append];lia)
    · exact fg (by rw [List.length_reverse];lia)
    · exact fg (by rw [List.length_append];lia)
    · exact fg (by rw [List.length_append];lia)
    · exact fg (by lia)
    · exact fg (by rw [List.length_append];lia)
    · rfl
  obtain⟨e3,h3,hK⟩:=bA (own:=[]) (g:=ah 5) (f:=ia) (Dv d1 W NN at_) (vq at_ W.things) 0 (wo d1 W NN at_ [.tuple NN,.tuple (C1++C2),.tuple NN.reverse,.tuple (NN++C2),.tuple (A++B),.tuple C1,.tuple (NN++NN),.list NN] none) (fun i x e hx hK=>by
    obtain⟨hl,hs⟩:=hK
    rename_i fd v5
    have ilt:=(List.getElem?_eq_some_iff.mp hx).1
    have i10:i < 10:=ilt
    have g1:=gc A [x] (by lia) (by simp)
    have g2:=gc (A++[x]) B (by simp;lia) (by lia)
    have g3:=gc (A++[x]) C (by simp;lia) (by lia)
    have lf:fd.length < 1000000:=by lia
    have lf2:fd.length+1 < 1000000:=by lia
    refine⟨wo d1 W NN at_ fd (some (.d x)),wo d1 W NN at_ (fd++[.tuple (A++[x]++B),.tuple (A++[x]++C)]) (some (.d x)),rfl,?_,bw,.mk (by rw [List.length_append];simp only [List.length_cons,List.length_nil];lia) fun d hd=>by
      rcases List.mem_append.mp hd with hd | hd
      · exact hs d hd
      · simp only [List.mem_cons,List.not_mem_nil,or_false] at hd
        rcases hd with rfl | rfl
        · exact fg (by simp;lia)
        · exact fg (by simp;lia)⟩
    generalize hAx:A++[x]=AX at*
    generalize AX++B=AB at*
    generalize AX++C=AC at*
    simp only [wo]
    simp? [ia,hA,hB,hC,g1,g2,g3,lf,lf2, -bB,bB]) (.mk rfl s0)
  obtain⟨hl3,hs3⟩:=hK
  rename_i fd w5
  have l10:(vq at_ W.things).length=10:=rfl
  rw [l10] at hl3
  have hi:∀(found:List PyData) (v5:Option Sv),jS (wo d1 W NN at_ found v5)=some (vq at_ W.things,[],wo d1 W NN at_ found v5):=fun found v5=>by
    unfold jS
    refine yl ?_
    simp? [wo,vq,ki,g0]
  have hg:=fun Wl=>cE (W:=Wl) (g:=ah 5) (f:=ia) (hi [.tuple NN,.tuple (C1++C2),.tuple NN.reverse,.tuple (NN++C2),.tuple (A++B),.tuple C1,.tuple (NN++NN),.list NN] none)
  rw [h3] at hg
  have lf:fd.length < 1000000:=by lia
  simp only [wo] at hg
  generalize hP1:C1++C2=P1 at*
  generalize hP2:NN++C2=P2 at*
  generalize hP3:A++B=P3 at*
  generalize hP4:NN++NN=P4 at*
  generalize NN.reverse=NR at*
  cases has with
  | false=>
    refine⟨d1,fd,?_,hd1,by lia,hs3⟩
    simp? [i6,nU,t1,lnn,gm,hC1,hC2,hA,hB,k1,k2,k3,k4,gr,gl,AD,hg,gi, -bB,bB]
  | true=>
    have hX:=hX (hc1 rfl)
    have g1:=gc XX [.bool true] (by lia) (by simp)
    have g2:=gc (XX++[.bool true]) YY (by simp;lia) (by lia)
    refine⟨d1,fd++[.tuple (XX++[.bool true]++YY)],?_,hd1,by rw [List.length_append];simp only [List.length_cons,List.length_nil];lia,fun d hd=>by
      rcases List.mem_append.mp hd with hd | hd
      · exact hs3 d hd
      · simp only [List.mem_cons,List.not_mem_nil,or_false] at hd
        subst hd
        exact fg (by simp;lia)⟩
    generalize hQ1:XX++[PyData.bool true]=Q1 at*
    generalize Q1++YY=Q2 at*
    simp? [i6,nU,t1,lnn,gm,hC1,hC2,hA,hB,k1,k2,k3,k4,gr,gl,AD,hg,gi,hX,hXX,hYY,g1,g2,lf, -bB,bB]
abbrev xE(ds:List Int)(things many cut odds ws:Int)(ts:List fx)(v7 v8 v9 v10:Option Sv):En:=[some (.l (ds.map .int)),some (.d (.int things)),some (.d (.int many)),some (.d (.int cut)),some (.d (.int odds)),some (.d (.int ws)),some (.l (ts.map aG)),v7,v8,v9,v10]
inductive XI (things many cut a b:Int) (i:Nat):En→Prop
  | mk {ts ds w7 w8 w9 w10} (hd:dB ds) (hl:ts.length=i) (ht:∀t∈ts,t.Ok things):XI things many cut a b i (xE ds things many cut a b ts w7 w8 w9 w10)
theorem uu(ds:List Int)(things many:Int)(hd:dB ds)(h2:2≤things)(h12:things≤100)(m0:0≤many)(m1:many≤1000):∃(ts:List fx) (ds':List Int),fW [.l (ds.map .int),.d (.int things),.d (.int many)]=some (.d (.tuple (ts.map aG)),[.l (ds'.map .int),.d (.int things),.d (.int many)])∧dB ds'∧(ts.length:Int)=many∧∀t∈ts,t.Ok things:=by
  obtain⟨n0,d1,t0, -, -,hd1⟩:=cy hd
  obtain⟨n1,d2,t1, -, -,hd2⟩:=cy hd1
  obtain⟨n2,d3,t2, -, -,hd3⟩:=cy hd2
  have tq:0 < things - 1:=Int.sub_pos_of_lt (Int.lt_of_lt_of_le (by decide) h2)
  have g0:∀e:En,aB e (.d (.int n0)) (.d (.int (things - 1)))=some (.d (.int (n0 % (things - 1)))):=fun e=>ao tq
  have c0:1≤1+n0 % (things - 1):=by have:=js (n:=n0) tq;lia
  have c1:1+n0 % (things - 1) < things:=by have:=jt (n:=n0) tq;lia
  generalize n0 % (things - 1)=nc at*
  obtain⟨cut,hcut⟩:∃cut,cut=1+nc:=⟨_,rfl⟩
  rw [←hcut] at c0 c1
  have gcut:∀e:En,aU e (.d (.int 1)) (.d (.int nc))=some (.d (.int cut)):=fun e=>by rw [bB,hcut]
  obtain⟨e',h1,hI⟩:=bA (own:=[]) (g:=ah 7) (f:=eV) (XI things many cut (n1 % 4) (n2 % 4)) (aK 0 many.toNat) 0 (xE d3 things many cut (n1 % 4) (n2 % 4) [] none none none none) (fun i x e hx hI=>by
    obtain⟨rfl,hi⟩:=bO hx
    obtain⟨hd',hl,ht⟩:=hI
    rename_i ts ds' w7 w8 w9 w10
    obtain⟨n,e1,tn,n0, -,hd1⟩:=cy hd'
    obtain⟨m,e2,tm,m0, -,hd2⟩:=cy hd1
    have cp:0 < cut:=by lia
    have dp:0 < things - cut:=by lia
    have g1:∀e:En,aB e (.d (.int n)) (.d (.int cut))=some (.d (.int (n % cut))):=fun e=>ao cp
    have g2:∀e:En,du e (.d (.int n)) (.d (.int cut))=some (.d (.int (n / cut))):=fun e=>cH cp (fH (by lia) (by lia))
    have g3:∀e:En,aB e (.d (.int (n / cut))) (.d (.int (things - cut)))=some (.d (.int (n / cut % (things - cut)))):=fun e=>ao dp
    have a0:=js (n:=n) cp;have a1:=jt (n:=n) cp
    have b0:=js (n:=n / cut) dp;have b1:=jt (n:=n / cut) dp
    generalize n / cut % (things - cut)=y at*
    generalize n % cut=x at*
    obtain⟨t,b,c1,c2,c3,c4,c5,c6⟩:=kg m (n1 % 4) m0
    obtain⟨w,w1,w2,w3⟩:=l7 (m / 10007) (n2 % 4)
    have b107:Bt 8000 10007:=fH (by decide) (by decide)
    have hlen:ts.length < 1000000:=by lia
    refine⟨xE ds' things many cut (n1 % 4) (n2 % 4) ts (some (.d (.int (0+(i:Int))))) w8 w9 w10,xE e2 things many cut (n1 % 4) (n2 % 4) (ts++[⟨x,cut+y,t,b,w⟩]) (some (.d (.int (0+(i:Int))))) (some (.d (.int n))) (some (.d (.int m))) (some (.d (.tuple [.int x,.int (cut+y)]))),rfl,?_,bw,.mk hd2 (by simp;lia) fun z hz=>by
      rcases List.mem_append.mp hz with hz | hz
      · exact ht z hz
      · simp at hz;subst hz;exact⟨a0,by show x < cut+y;lia,by show cut+y < things;lia,c2,c3,c4,c5,w2,w3,c6⟩⟩
    simp? [xE,eV,tn,tm,g1,g2,g3,cH,b107,c1,w1,fN,aG,hlen]) (.mk hd3 rfl fun t ht=>by cases ht)
  obtain⟨hd',hl,ht⟩:=hI
  rename_i ts ds' w7 w8 w9 w10
  refine⟨ts,ds',?_,hd',by rw [hl,bt];lia,ht⟩
  have hf:∀W,cG W gR (ah 7) eV (xE d3 things many cut (n1 % 4) (n2 % 4) [] none none none none)=some (.nx (xE ds' things many cut (n1 % 4) (n2 % 4) ts w7 w8 w9 w10)):=fun W=>by
    rw [cE (show gR _=some (aK 0 many.toNat,[],xE d3 things many cut (n1 % 4) (n2 % 4) [] none none none none) from bG (n:=many) (by simp? [xE]) (by lia) (by lia))]
    exact h1
  unfold xE at hf
  simp only [List.map_nil] at hf
  simp? [fW,mj,t0,t1,t2,g0,gcut,ao,hf, -bB]
abbrev nE(ds:List Int)(things:Int)(rs:Sv)(left names:List Int)(v5 v6 v7 v8 v9 v10:Option Sv):En:=[some (.l (ds.map .int)),some (.d (.int things)),some rs,some (.l (left.map .int)),some (.l (names.map .int)),v5,v6,v7,v8,v9,v10]
inductive NI (things:Int) (rs:Sv) (i:Nat):En→Prop
  | mk {ds left names v5} (hd:dB ds) (hl:names.length=i) (hp:(names++left).Perm (gZ things.toNat)):NI things rs i (nE ds things rs left names v5 none none none none none)
inductive NJ (ds:List Int) (things:Int) (rs:Sv) (left names:List Int) (v5:Option Sv) (i:Nat):En→Prop
  | mk {ts:List fx} {v7 v8 v9 v10} (hl:ts.length=i) (ht:∀t∈ts,t.Ok things):NJ ds things rs left names v5 i (nE ds things rs left names v5 (some (.l (ts.map aG))) v7 v8 v9 v10)
theorem sW{names:List Int}{n:Nat}(h:names.Perm (gZ n)):names.length=n∧names.Nodup∧∀x∈names,0≤x∧x < (n:Int):=by
  refine⟨by rw [h.length_eq,iF],h.nodup_iff.mpr ?_,fun x hx=>?_⟩
  · unfold gZ
    refine List.Pairwise.map _ (fun a b h=>?_) (List.nodup_range (n:=n))
    intro e
    exact h (by have:(a:Int)=b:=e;lia)
  · have:=h.mem_iff.mp hx
    unfold gZ at this
    obtain⟨k,hk,rfl⟩:=List.mem_map.mp this
    have:=List.mem_range.mp hk
    exact⟨by simp,by simpa using this⟩
theorem sE{names:List Int}(h:names.Nodup){i j:Nat}(hi:i < names.length)(hj:j < names.length)(n:i≠j):names.getD i 0≠names.getD j 0:=by
  rw [List.getD_eq_getElem?_getD,List.getD_eq_getElem?_getD,List.getElem?_eq_getElem hi,List.getElem?_eq_getElem hj]
  have p:=List.pairwise_iff_getElem.mp h
  intro e
  rcases Nat.lt_or_gt_of_ne n with q | q
  · exact p i j hi hj q e
  · exact p j i hj hi q e.symm
theorem lr{ds:List Int}{things:Int}{ts:List fx}{rs:Sv}(hr:rs=.d (.tuple (ts.map aG))∨rs=.l (ts.map aG))(hd:dB ds)(h2:1≤things)(h12:things≤100)(hl:ts.length≤1000)(ht:∀t∈ts,t.Ok things):
    ∃(us:List fx) (ds':List Int),cI [.l (ds.map .int),.d (.int things),rs]=some (.d (.tuple (us.map aG)),[.l (ds'.map .int),.d (.int things),rs])∧dB ds'∧us.length=ts.length∧∀t∈us,t.Ok things:=by
  obtain⟨e',h1,hI⟩:=bA (own:=[]) (g:=ah 5) (f:=er) (NI things rs) (aK 0 things.toNat) 0 (nE ds things rs (gZ things.toNat) [] none none none none none none) (fun i x e hx hI=>by
    obtain⟨rfl,hi⟩:=bO hx
    obtain⟨hd',hln,hp⟩:=hI
    rename_i ds left names v5
    have hle:=hp.length_eq
    rw [List.length_append,iF] at hle
    obtain⟨n,d1,t1,a1,b1,hd1⟩:=cy hd'
    have pos:0 < left.length:=by lia
    have m0:0≤n % (left.length:Int):=Int.emod_nonneg _ (by lia)
    have m1:n % (left.length:Int) < (left.length:Int):=Int.emod_lt_of_pos _ (by lia)
    have gm:∀e,aB e (.d (.int n)) (.d (.int (left.length:Int)))=some (.d (.int (n % (left.length:Int)))):=fun e=>ao (by lia)
    generalize n % (left.length:Int)=k at*
    have hk:k.toNat < left.length:=by lia
    have hx':(left.map PyData.int)[k.toNat]?=some (.int left[k.toNat]):=by rw [List.getElem?_map,List.getElem?_eq_getElem hk];rfl
    have he:(left.map PyData.int).eraseIdx k.toNat=(left.eraseIdx k.toNat).map .int:=by rw [kR]
    refine⟨nE ds things rs left names (some (.d (.int (0+(i:Int))))) none none none none none,nE d1 things rs (left.eraseIdx k.toNat) (names++[left[k.toNat]]) (some (.d (.int (0+(i:Int))))) none none none none none,rfl,?_,bw,.mk hd1 (by simp;lia) (by
      rw [List.append_assoc]
      exact(List.Perm.append_left _ (jM left k.toNat hk)).trans hp)⟩
    have ql:((left.map PyData.int).length:Int)=(left.length:Int):=by simp
    have hb:k < 1000000000:=by lia
    have lf:(names.map PyData.int).length < 1000000:=by simp;lia
    have e1:(names++[left[k.toNat]]).map PyData.int=names.map .int++[.int left[k.toNat]]:=by simp
    simp only [nE,e1,←he]
    generalize left[k.toNat]=z at*
    generalize names.map PyData.int=FF at*
    generalize (left.length:Int)=L at*
    generalize left.map PyData.int=LL at*
    simp? [er,t1,ql,gm,m0,hb,hx',lf]) (.mk hd rfl (by simp))
  obtain⟨hd2,hln,hp⟩:=hI
  rename_i d2 left names v5
  rw [Nat.zero_add,bt] at hln
  have hle:=hp.length_eq
  rw [List.length_append,iF] at hle
  have hleft:left=[]:=List.length_eq_zero_iff.mp (by lia)
  subst hleft
  rw [List.append_nil] at hp
  obtain⟨_,hnd,hrg⟩:=sW hp
  have hf:∀W,cG W fV (ah 5) er (nE ds things rs (gZ things.toNat) [] none none none none none none)=some (.nx (nE d2 things rs [] names v5 none none none none none)):=fun W=>by
    rw [cE (show fV _=some (aK 0 things.toNat,[],nE ds things rs (gZ things.toNat) [] none none none none none none) from bG (n:=things) (by simp? [nE]) (by lia) (by lia))]
    exact h1
  have step:∀(own:fm) (hown:∀e i,NJ d2 things rs [] names v5 i e→keeps own e),∃e',kr own (dI (aC (ah 7) (aC (ah 8) (aC (ah 9) (aC (ah 10) c7))))) dt (ts.map aG) (nE d2 things rs [] names v5 (some (.l [])) none none none none)=some (.nx e')∧NJ d2 things rs [] names v5 (0+(ts.map aG).length) e':=fun own hown=>by
    refine bA (own:=own) (g:=dI (aC (ah 7) (aC (ah 8) (aC (ah 9) (aC (ah 10) c7))))) (f:=dt) (NJ d2 things rs [] names v5) (ts.map aG) 0 (nE d2 things rs [] names v5 (some (.l [])) none none none none) (fun i x e hx hI=>?_) (NJ.mk (ts:=[]) rfl (fun t h=>by cases h))
    obtain⟨hl',ht'⟩:=hI
    rename_i us v7 v8 v9 v10
    rw [List.getElem?_map] at hx
    obtain⟨ti,hti,rfl⟩:=Option.map_eq_some_iff.mp hx
    have o:=ht ti (List.mem_of_getElem? hti)
    have ilt:=(List.getElem?_eq_some_iff.mp hti).1
    have:=o.o0;have:=o.o1;have:=o.o2
    have a1:=fD (ns:=names) (k:=ti.one) (by lia) (by lia)
    have a2:=fD (ns:=names) (k:=ti.other) (by lia) (by lia)
    have ne:=sE hnd (i:=ti.one.toNat) (j:=ti.other.toNat) (by lia) (by lia) (by lia)
    have r1:=hrg (names.getD ti.one.toNat 0) (by
      rw [List.getD_eq_getElem?_getD,List.getElem?_eq_getElem (by lia)]
      exact List.getElem_mem _)
    have r2:=hrg (names.getD ti.other.toNat 0) (by
      rw [List.getD_eq_getElem?_getD,List.getElem?_eq_getElem (by lia)]
      exact List.getElem_mem _)
    generalize names.getD ti.one.toNat 0=y1 at*
    generalize names.getD ti.other.toNat 0=y2 at*
    have nj:NJ d2 things rs [] names v5 (0+i+1) (nE d2 things rs [] names v5 (some (.l ((us++[fx.mk (min y1 y2) (max y1 y2) ti.top ti.bot ti.worth]).map aG))) (some (.d (.int ti.one))) (some (.d (.int ti.other))) (some (.d (.tuple [.int ti.top,.int ti.bot]))) (some (.d (.int ti.worth)))):=.mk (by simp;lia) fun z hz=>by
      rcases List.mem_append.mp hz with hz | hz
      · exact ht' z hz
      · simp at hz;subst hz
        exact⟨by show 0≤min y1 y2;lia,by show min y1 y2 < max y1 y2;lia,by show max y1 y2 < things;lia,o.c0,o.c1,o.b0,o.b1,o.w0,o.w1,o.cop⟩
    refine⟨nE d2 things rs [] names v5 (some (.l (us.map aG))) (some (.d (.int ti.one))) (some (.d (.int ti.other))) (some (.d (.tuple [.int ti.top,.int ti.bot]))) (some (.d (.int ti.worth))),_,?_,?_,hown _ _ nj,nj⟩
    · simp only [nE,aG]
      generalize us.map aG=UU
      generalize names.map PyData.int=NN
      simp? [List.replicate]
    · have lu:(us.map aG).length < 1000000:=by simp;lia
      rw [List.map_append]
      simp only [nE,aG,List.map_cons,List.map_nil]
      generalize us.map aG=UU at*
      generalize names.map PyData.int=NN at*
      simp? [dt,a1,a2,lu]
  have fin:∃(us:List fx) (v7 v8 v9 v10:Option Sv),(∀Wl,(Wl.contains 2=false)→cG Wl fU (dI (aC (ah 7) (aC (ah 8) (aC (ah 9) (aC (ah 10) c7))))) dt (nE d2 things rs [] names v5 (some (.l [])) none none none none)=some (.nx (nE d2 things rs [] names v5 (some (.l (us.map aG))) v7 v8 v9 v10)))∧us.length=ts.length∧∀t∈us,t.Ok things:=by
    rcases hr with rfl | rfl
    · obtain⟨e',h3,hJ⟩:=step [] (fun _ _ _=>bw)
      obtain⟨hl',ht'⟩:=hJ
      rename_i us v7 v8 v9 v10
      refine⟨us,v7,v8,v9,v10,fun Wl _=>?_,by simpa using hl',ht'⟩
      rw [cE (items:=ts.map aG) (e1:=nE d2 things (.d (.tuple (ts.map aG))) [] names v5 (some (.l [])) none none none none) rfl]
      exact h3
    · obtain⟨e',h3,hJ⟩:=step [(2,ts.map aG)] (fun e i hJ=>by
        obtain⟨_,_⟩:=hJ
        intro p hp
        simp at hp;subst hp;rfl)
      obtain⟨hl',ht'⟩:=hJ
      rename_i us v7 v8 v9 v10
      refine⟨us,v7,v8,v9,v10,fun Wl hW=>?_,by simpa using hl',ht'⟩
      unfold cG
      rw [show fU (nE d2 things (.l (ts.map aG)) [] names v5 (some (.l [])) none none none none)=some (ts.map aG,[(2,ts.map aG)],nE d2 things (.l (ts.map aG)) [] names v5 (some (.l [])) none none none none) from rfl]
      simp only [Option.bind_some,List.all_cons,List.all_nil,hW,Bool.not_false,Bool.and_true,if_true]
      exact h3
  obtain⟨us,v7,v8,v9,v10,hf2,hl2,ht2⟩:=fin
  refine⟨us,d2,?_,hd2,hl2,ht2⟩
  have hf2':=fun Wl h=>hf2 Wl h
  simp only [nE,List.map_nil] at hf hf2'
  have th:things≤100000:=by lia
  have th0:0≤things:=by lia
  generalize ts.map aG=TT at*
  rcases hr with rfl | rfl
  · simp? [cI,iT,iP,th,th0,hf,hf2']
  · simp? [cI,iT,iP,th,th0,hf,hf2']
abbrev uK(ds:List Int)(things size:Int)(ts:List fx)(v4 v5 v6:Option Sv):En:=[some (.l (ds.map .int)),some (.d (.int things)),some (.d (.int size)),some (.l (ts.map aG)),v4,v5,v6]
inductive OI (things size:Int) (i:Nat):En→Prop
  | mk {ts ds w4 w5 w6} (hd:dB ds) (hl:ts.length=i) (ht:∀t∈ts,t.Ok things):OI things size i (uK ds things size ts w4 w5 w6)
theorem wC(ds:List Int)(things size:Int)(hd:dB ds)(h2:2≤size)(hs:size≤things)(h12:things≤100):∃(ts:List fx) (ds':List Int),iy [.l (ds.map .int),.d (.int things),.d (.int size)]=some (.d (.tuple (ts.map aG)),[.l (ds'.map .int),.d (.int things),.d (.int size)])∧dB ds'∧(ts.length:Int)=size∧∀t∈ts,t.Ok things:=by
  have sp:0 < size:=by lia
  obtain⟨e',h1,hI⟩:=bA (own:=[]) (g:=ah 4) (f:=gq) (OI things size) (aK 0 size.toNat) 0 (uK ds things size [] none none none) (fun i x e hx hI=>by
    obtain⟨rfl,hi⟩:=bO hx
    obtain⟨hd',hl,ht⟩:=hI
    rename_i ts ds' w4 w5 w6
    obtain⟨k,hk⟩:∃k:Int,k=0+(i:Int):=⟨_,rfl⟩
    rw [←hk]
    obtain⟨m,e2,tm,m0, -,hd2⟩:=cy hd'
    have g1:∀e:En,aB e (.d (.int (k+1))) (.d (.int size))=some (.d (.int ((k+1) % size))):=fun e=>ao sp
    have q0:=js (n:=k+1) sp
    have q1:=jt (n:=k+1) sp
    have qn:(k+1) % size≠k:=fun z=>by
      by_cases c:k+1 < size
      · rw [Int.emod_eq_of_lt (by lia) c] at z;lia
      · have:k+1=size:=by lia
        rw [this,Int.emod_self] at z;lia
    generalize (k+1) % size=y at*
    obtain⟨t,b,c1,c2,c3,c4,c5,c6⟩:=kg m 1 m0
    obtain⟨w,w1,w2,w3⟩:=l7 (m / 10007) 2
    have b107:Bt 8000 10007:=fH (by decide) (by decide)
    have hlen:ts.length < 1000000:=by lia
    refine⟨uK ds' things size ts (some (.d (.int k))) w5 w6,uK e2 things size (ts++[⟨min k y,max k y,t,b,w⟩]) (some (.d (.int k))) (some (.d (.int m))) (some (.d (.tuple [.int (min k y),.int (max k y)]))),rfl,?_,bw,.mk hd2 (by simp;lia) fun z hz=>by
      rcases List.mem_append.mp hz with hz | hz
      · exact ht z hz
      · simp at hz;subst hz;exact⟨by show 0≤min k y;lia,by show min k y < max k y;lia,by show max k y < things;lia,c2,c3,c4,c5,w2,w3,c6⟩⟩
    simp? [uK,gq,tm,g1,cH,b107,c1,w1,fN,aG,hlen]) (.mk hd rfl fun t ht=>by cases ht)
  obtain⟨hd',hl,ht⟩:=hI
  rename_i ts ds' w4 w5 w6
  rw [Nat.zero_add,bt] at hl
  have hf:∀W,cG W i5 (ah 4) gq (uK ds things size [] none none none)=some (.nx (uK ds' things size ts w4 w5 w6)):=fun W=>by
    rw [cE (show i5 _=some (aK 0 size.toNat,[],uK ds things size [] none none none) from bG (n:=size) (by simp? [uK]) (by lia) (by lia))]
    exact h1
  obtain⟨us,d2,t2,hd2,hl2,ht2⟩:=lr (ts:=ts) (.inr rfl) hd' (by lia) h12 (by lia) ht
  refine⟨us,d2,?_,hd2,by lia,ht2⟩
  unfold uK at hf
  simp only [List.map_nil] at hf
  generalize ts.map aG=TT at*
  generalize us.map aG=UU at*
  simp? [iy,o_,hf,t2]
theorem pV{ts:List fx}{n:Int}(h:∀t∈ts,t.Ok n)(k:Nat):∀t∈ts.take k,t.Ok n:=fun t ht=>h t (List.mem_of_mem_take ht)
theorem rG{ts:List fx}{m:Int}(h0:0≤m):L2.cutD (ts.map aG) none (some m)=(ts.take m.toNat).map aG:=by
  unfold L2.cutD
  show((ts.map aG).drop 0).take (HT.sIx (ts.map aG).length (ts.map aG).length (some m) - 0)=_
  have e:HT.sIx (ts.map aG).length (ts.map aG).length (some m)=min m.toNat ts.length:=by
    show(if m < 0 then _ else min m.toNat (ts.map aG).length)=_
    rw [if_neg (by lia),List.length_map]
  rw [e,List.drop_zero,Nat.sub_zero,List.map_take]
  by_cases c:m.toNat≤ts.length
  · rw [Nat.min_eq_left c]
  · rw [Nat.min_eq_right (by lia),List.take_of_length_le (by simp),List.take_of_length_le (by simp;lia)]
theorem Ok.more{t:fx}{n m:Int}(h:t.Ok n)(k:n≤m):t.Ok m:=⟨h.o0,h.o1,by have:=h.o2;lia,h.c0,h.c1,h.b0,h.b1,h.w0,h.w1,h.cop⟩
theorem oT{things asks p:Int}{ts:List fx}(t0:0≤things)(t1:things≤12)(ht:∀t∈ts,t.Ok things)(hl:ts.length≤16)(p0:0≤p)(p1:p≤20)(a0:0≤asks)(a1:asks≤40):(bv.mk things ts (List.replicate things.toNat p) asks).Ok:=
  ⟨t0,t1,ht,hl,by show((List.replicate things.toNat p).length:Int)=things;rw [List.length_replicate];lia,fun q hq=>by have:=(List.mem_replicate.mp hq).2;lia,a0,a1⟩
theorem oF(ds:List Int)(most many:Int)(hd:dB ds)(m0:2≤most)(m1:most≤12)(k0:0≤many)(k1:many≤16):∃(W:bv) (ds':List Int),cj [.l (ds.map .int),.d (.int most),.d (.int many)]=some (.d (a9 W),[.l (ds'.map .int),.d (.int most),.d (.int many)])∧dB ds'∧W.Ok:=by
  obtain⟨n0,d1,t0, -, -,hd1⟩:=cy hd
  obtain⟨n1,d2,t1, -, -,hd2⟩:=cy hd1
  have mp:0 < most - 1:=by lia
  have g0:∀e:En,aB e (.d (.int n0)) (.d (.int (most - 1)))=some (.d (.int (n0 % (most - 1)))):=fun e=>ao mp
  have a0:=js (n:=n0) mp;have a1:=jt (n:=n0) mp
  generalize n0 % (most - 1)=th at*
  have g1:∀e:En,aB e (.d (.int n1)) (.d (.int 4))=some (.d (.int (n1 % 4))):=fun e=>ao (by decide)
  have b0:=js (n:=n1) (k:=4) (by decide);have b1:=jt (n:=n1) (k:=4) (by decide)
  generalize n1 % 4=sort at*
  by_cases c0:sort=0
  · subst c0
    obtain⟨W,d3,tw,hd3,ok,_,_⟩:=Ck d2 most many hd2 (by lia) m1 k0 k1
    refine⟨W,d3,?_,hd3,ok⟩
    simp? [cj,ee,t0,t1,g0,g1,tw]
  obtain⟨things,hth⟩:∃things,things=2+th:=⟨_,rfl⟩
  have gth:∀e:En,aU e (.d (.int 2)) (.d (.int th))=some (.d (.int things)):=fun e=>by rw [bB,hth]
  obtain⟨n2,d3,t2, -, -,hd3⟩:=cy hd2
  have kp:0 < many+1:=by lia
  have g2:∀e:En,aB e (.d (.int n2)) (.d (.int (many+1)))=some (.d (.int (n2 % (many+1)))):=fun e=>ao kp
  have e0:=js (n:=n2) kp;have e1:=jt (n:=n2) kp
  generalize n2 % (many+1)=ma at*
  obtain⟨ts,d4,t3,hd4,hl3,ht3⟩:=uu d3 things ma hd3 (by lia) (by lia) (by lia) (by lia)
  obtain⟨us,d5,t4,hd5,hl4,ht4⟩:=lr (ts:=ts) (.inl rfl) hd4 (things:=things) (by lia) (by lia) (by lia) ht3
  have fin:∀(ds:List Int),dB ds→∃(p a:Int) (d7 d8:List Int),ax [.l (ds.map .int)]=some (.d (.int p),[.l (d7.map .int)])∧ax [.l (d7.map .int)]=some (.d (.int a),[.l (d8.map .int)])∧dB d8∧(∀e:En,aB e (.d (.int p)) (.d (.int 20))=some (.d (.int (p % 20))))∧(∀e:En,aB e (.d (.int a)) (.d (.int 41))=some (.d (.int (a % 41)))):=fun ds hd=>by
    obtain⟨p,d7,t7, -, -,hd7⟩:=cy hd
    obtain⟨a,d8,t8, -, -,hd8⟩:=cy hd7
    exact⟨p,a,d7,d8,t7,t8,hd8,fun e=>ao (by decide),fun e=>ao (by decide)⟩
  have rep:∀(e:En) (x n:Int),0≤n→n≤100→gQ e (.d (.tuple [.int x])) (.d (.int n))=some (.d (.tuple ((List.replicate n.toNat x).map .int))):=fun e x n h0 h1=>by rw [List.map_replicate];exact yi h0 (by lia)
  have p20:∀p:Int,0≤1+p % 20∧1+p % 20≤20:=fun p=>by have:=js (n:=p) (k:=20) (by decide);have:=jt (n:=p) (k:=20) (by decide);lia
  have a41:∀p:Int,0≤p % 41∧p % 41≤40:=fun p=>by have:=js (n:=p) (k:=41) (by decide);have:=jt (n:=p) (k:=41) (by decide);lia
  by_cases c1:sort=1
  · subst c1
    obtain⟨n5,d6,t5, -, -,hd6⟩:=cy hd5
    have xp:0 < max 1 (things - 2):=by lia
    have g5:∀e:En,aB e (.d (.int n5)) (.d (.int (max 1 (things - 2))))=some (.d (.int (n5 % max 1 (things - 2)))):=fun e=>ao xp
    have f0:=js (n:=n5) xp;have f1:=jt (n:=n5) xp
    generalize n5 % max 1 (things - 2)=sz at*
    obtain⟨vs,d7,t6,hd7,hl6,ht6⟩:=wC d6 (max things 3) (min (3+sz) (max things 3)) hd6 (by lia) (by lia) (by lia)
    obtain⟨n8,d8,t8, -, -,hd8⟩:=cy hd7
    have g8:∀e:En,aB e (.d (.int n8)) (.d (.int 4))=some (.d (.int (n8 % 4))):=fun e=>ao (by decide)
    have h0:=js (n:=n8) (k:=4) (by decide);have h1:=jt (n:=n8) (k:=4) (by decide)
    generalize n8 % 4=m8 at*
    obtain⟨xs,d9,t9,hd9,hl9,ht9⟩:=oG d8 (max things 3) m8 hd8 (by lia) (by lia) (by lia) (by lia)
    obtain⟨p,a,d10,d11,tp,ta,hd11,gp,ga⟩:=fin d9 hd9
    have gc:∀e:En,aU e (.d (.tuple (vs.map aG))) (.d (.tuple (xs.map aG)))=some (.d (.tuple ((vs++xs).map aG))):=fun e=>by rw [List.map_append];exact fN (by simp;lia)
    have gs:=rG (ts:=vs++xs) k0
    refine⟨⟨max things 3,(vs++xs).take many.toNat,List.replicate (max things 3).toNat (1+p % 20),a % 41⟩,d11,?_,hd11,oT (by lia) (by lia) (pV (fun t h=>by
      rcases List.mem_append.mp h with h | h
      · exact ht6 t h
      · exact ht9 t h) _) (by have:=List.length_take_le many.toNat (vs++xs);lia) (p20 p).1 (p20 p).2 (a41 a).1 (a41 a).2⟩
    have hrep:=fun e=>rep e (1+p % 20) (max things 3) (by lia) (by lia)
    rw [fK]
    simp only
    generalize (vs++xs).map aG=VX at*
    generalize ((vs++xs).take many.toNat).map aG=VT at*
    generalize (List.replicate (max things 3).toNat (1+p % 20)).map PyData.int=RP at*
    generalize vs.map aG=VV at*
    generalize xs.map aG=XX at*
    generalize us.map aG=UU at*
    generalize ts.map aG=TT at*
    simp? [cj,ee,t0,t1,g0,g1,gth,t2,g2,t3,t4,t5,g5,t6,t8,g8,t9,gc,gs,tp,ta,gp,ga,hrep, -bB]
  · by_cases c2:sort=2
    · subst c2
      obtain⟨xs,d9,t9,hd9,hl9,ht9⟩:=oG d5 things 1 hd5 (by lia) (by lia) (by decide) (by decide)
      obtain⟨p,a,d10,d11,tp,ta,hd11,gp,ga⟩:=fin d9 hd9
      have gc:∀e:En,aU e (.d (.tuple (us.map aG))) (.d (.tuple (xs.map aG)))=some (.d (.tuple ((us++xs).map aG))):=fun e=>by rw [List.map_append];exact fN (by simp;lia)
      have gs:=rG (ts:=us++xs) k0
      refine⟨⟨things,(us++xs).take many.toNat,List.replicate things.toNat (1+p % 20),a % 41⟩,d11,?_,hd11,oT (by lia) (by lia) (pV (fun t h=>by
        rcases List.mem_append.mp h with h | h
        · exact ht4 t h
        · exact ht9 t h) _) (by have:=List.length_take_le many.toNat (us++xs);lia) (p20 p).1 (p20 p).2 (a41 a).1 (a41 a).2⟩
      have hrep:=fun e=>rep e (1+p % 20) things (by lia) (by lia)
      rw [fK]
      simp only
      generalize (us++xs).map aG=VX at*
      generalize ((us++xs).take many.toNat).map aG=VT at*
      generalize (List.replicate things.toNat (1+p % 20)).map PyData.int=RP at*
      generalize xs.map aG=XX at*
      generalize us.map aG=UU at*
      generalize ts.map aG=TT at*
      simp? [cj,ee,t0,t1,g0,g1,gth,t2,g2,t3,t4,t9,gc,gs,tp,ta,gp,ga,hrep, -bB]
    · have c3:sort=3:=by lia
      subst c3
      obtain⟨p,a,d10,d11,tp,ta,hd11,gp,ga⟩:=fin d5 hd5
      refine⟨⟨things,us,List.replicate things.toNat (1+p % 20),a % 41⟩,d11,?_,hd11,oT (by lia) (by lia) ht4 (by lia) (p20 p).1 (p20 p).2 (a41 a).1 (a41 a).2⟩
      have hrep:=fun e=>rep e (1+p % 20) things (by lia) (by lia)
      rw [fK]
      simp only
      generalize (List.replicate things.toNat (1+p % 20)).map PyData.int=RP at*
      generalize us.map aG=UU at*
      generalize ts.map aG=TT at*
      simp? [cj,ee,t0,t1,g0,g1,gth,t2,g2,t3,t4,tp,ta,gp,ga,hrep, -bB]
def qZ(ei:En)(o:Option Nat)(s:Option Sv):Option Sv:=match s with
  | some (.l xs)=>match o with
    | some k=>(ei[k]?).join
    | none=>some (.l xs)
  | s=>s
theorem xR{ei:En}{s:Option Sv}:qZ ei none s=s:=by rcases s with _ | (_ | _ | _)<;>rfl
theorem yH:∀d∈sI,qI d=true:=fun d hd=>by
  have h:sI.all qI=true:=by rfl
  exact List.all_eq_true.mp h d hd
abbrev dR(ns ds:List Int)(v2 v3 v4:Option Sv)(W:bv)(L:List PyData)(v7 v8 v9 v10:Option Sv):En:=[some (.d (.list (ns.map .int))),some (.l (ds.map .int)),v2,v3,v4,some (.d (a9 W)),some (.l L),v7,v8,v9,v10]
inductive LI (ns:List Int):En→Prop
  | mk {ds v2 v3 v4 v5 v6 v7 v8 v9 v10} (hd:dB ds):LI ns [some (.d (.list (ns.map .int))),some (.l (ds.map .int)),v2,v3,v4,v5,v6,v7,v8,v9,v10]
inductive LK (ns:List Int) (v2 v3 v4:Option Sv) (W:bv) (i:Nat):En→Prop
  | mk {ds L v7 v8 v9 v10} (hd:dB ds) (hl:L.length≤4+40*i) (hs:∀d∈L,qI d=true):LK ns v2 v3 v4 W i (dR ns ds v2 v3 v4 W L v7 v8 v9 v10)
theorem yz{ns ds:List Int}{v2 v3 v4:Option Sv}{W:bv}(ok:W.Ok){L:List PyData}{i:Nat}{v8 v9 v10:Option Sv}(hi:i < 3)(hd:dB ds)(hl:L.length≤1000)(hs:∀d∈L,qI d=true):
    ∃ds' L' v8' v9',AO (dR ns ds v2 v3 v4 W L (some (.d (.int (0+(i:Int))))) v8 v9 v10)=some (.nx (dR ns ds' v2 v3 v4 W L' (some (.d (.int (0+(i:Int))))) v8' v9' v10))∧dB ds'∧L'.length≤L.length+40∧∀d∈L',qI d=true:=by
  have g0:=Bb (W:=W)
  have t00:=ok.t0
  obtain⟨rs,d1,tw,hd1,hrs⟩:=Ag ok hd
  obtain⟨d2,R,tr,hd2,lR,sR⟩:=Ad (W:=W) hd1 hrs
  obtain⟨k,hk⟩:∃k:Int,k=0+(i:Int):=⟨_,rfl⟩
  rw [←hk]
  obtain⟨z,hz,ha⟩:=fB (xs:=[PyData.int 3,.int 5,.int 3]) (i:=k) (by lia) (by simp;lia)
  obtain⟨size,rfl,z0,z1⟩:∃s:Int,z=.int s∧0≤s∧s≤5:=by
    simp only [List.mem_cons,List.not_mem_nil,or_false] at hz
    rcases hz with rfl | rfl | rfl<;>exact⟨_,rfl,by decide,by decide⟩
  have mp:0 < max 1 W.things:=by lia
  obtain⟨out,e',c1,c2,_,⟨d4,v,he,hd4⟩⟩:=iX (g:=ah 2) (ft:=dN) (fe:=Cu) (fun i e=>∃ds v,e=[some (.l (ds.map .int)),some (.d (a9 W)),v]∧dB ds) (fun _=>True) (aK 0 size.toNat) 0 [some (.l (d2.map .int)),some (.d (a9 W)),none] [] (fun i x e hx ⟨ds,v,he,hd⟩=>by
    subst he
    obtain⟨n,d2,t1, -, -,hd2⟩:=cy hd
    have gm:∀e:En,aB e (.d (.int n)) (.d (.int (max 1 W.things)))=some (.d (.int (n % max 1 W.things))):=fun e=>ao mp
    refine⟨_,.d (.int (n % max 1 W.things)),.int (n % max 1 W.things),_,rfl,rfl,?_,rfl,trivial,d2,some (.d x),rfl,hd2⟩
    simp? [Cu,t1,g0,gm]) ⟨d2,none,rfl,hd2⟩ (by rw [bt];simp;lia)
  subst he
  rw [List.nil_append] at c1
  rw [bt] at c2
  have hi3:∀(v6 v7 v9 v10:Option Sv),Cy [some (.d (.list (ns.map .int))),some (.l (d2.map .int)),v2,v3,v4,some (.d (a9 W)),v6,v7,some (.d (.int size)),v9,v10]=some (aK 0 size.toNat,[],[some (.d (.list (ns.map .int))),some (.l (d2.map .int)),v2,v3,v4,some (.d (a9 W)),v6,v7,some (.d (.int size)),v9,v10]):=fun v6 v7 v9 v10=>bG (n:=size) (by simp? [List.replicate]) (by lia) (by lia)
  have hv:∀(L:List PyData),c9 [(1,"_law_numbers"),(5,"_law_web_here")] 1 Cy (ah 2) dN Cu (dR ns d2 v2 v3 v4 W L (some (.d (.int k))) (some (.d (.int size))) v9 v10)=some (.l out,dR ns d4 v2 v3 v4 W L (some (.d (.int k))) (some (.d (.int size))) v9 v10):=fun L=>by
    rw [lw (cp:=[(1,"_law_numbers"),(5,"_law_web_here")]) (nT:=1) (fi:=Cy) (e:=dR ns d2 v2 v3 v4 W L (some (.d (.int k))) (some (.d (.int size))) v9 v10) (e1:=dR ns d2 v2 v3 v4 W L (some (.d (.int k))) (some (.d (.int size))) v9 v10) (items:=aK 0 size.toNat) (hi3 _ _ _ _) c1 rfl]
    refine congrArg (fun z=>some (Rv.l out,z)) ?_
    have u:iO (iA [(1,"_law_numbers"),(5,"_law_web_here")]) [some (.l (d4.map .int)),some (.d (a9 W)),v] (dR ns d2 v2 v3 v4 W L (some (.d (.int k))) (some (.d (.int size))) v9 v10)=[some (.d (.list (ns.map .int))),some (.l (d4.map .int)),qZ [] none v2,qZ [] none v3,qZ [] none v4,some (.d (a9 W)),some (.l L),some (.d (.int k)),some (.d (.int size)),qZ [] none v9,qZ [] none v10]:=rfl
    simp only [xR] at u
    exact u
  have ca:∀(e:En) (xs ys:List PyData),e[6]?=some (some (.l xs))→xs.length+ys.length≤1000000→aU e (.s 6) (.l ys)=some (.l (xs++ys)):=fun e xs ys he h=>pq he h
  have l1:L.length+R.length≤1000000:=by lia
  have l2:(L++R).length+3≤1000000:=by rw [List.length_append];lia
  have cO:=L2.cut_len (xs:=out) (lo:=none) (hi:=some 2)
  refine⟨d4,(L++R)++[.tuple out,.tuple (L2.cutD out none (some 2)),.tuple []],some (.d (.int size)),some (.d (.tuple out)),?_,hd4,by rw [List.length_append,List.length_append];simp only [List.length_cons,List.length_nil];lia,fun d hd=>by
    rcases List.mem_append.mp hd with hd | hd
    · rcases List.mem_append.mp hd with hd | hd
      · exact hs d hd
      · exact sR d hd
    · simp only [List.mem_cons,List.not_mem_nil,or_false] at hd
      rcases hd with rfl | rfl | rfl
      · exact fg (by lia)
      · exact fg (by lia)
      · rfl⟩
  have hv:=hv (L++R)
  generalize hC:L2.cutD out none (some 2)=CO at*
  generalize hLR:L++R=LR at*
  simp only [dR] at hv ⊢
  generalize rs.map PyData.int=RS at*
  simp? [AO,tw,tr,ca,l1,hLR,ha,hv,hC,l2]
theorem sd(ns:List Int)(hl:ns.length≤63):∃as',jX [.d (.list (ns.map .int))]=some (.d (.bool true),as'):=by
  obtain⟨ds,td,hd⟩:=wB ns hl
  obtain⟨e2,h1,hI⟩:=bA (own:=[]) (g:=ah 2) (f:=uS) (fun _=>LI ns) (aK 0 (2+min 5 (ns.length:Int)).toNat) 0 [some (.d (.list (ns.map .int))),some (.l (ds.map .int)),none,none,none,none,none,none,none,none,none] (fun i x e hx hI=>by
    obtain⟨hd⟩:=hI
    rename_i ds v2 v3 v4 v5 v6 v7 v8 v9 v10
    obtain⟨n,d1,t1, -, -,hd1⟩:=cy hd
    have gn:∀e:En,aB e (.d (.int n)) (.d (.int 2))=some (.d (.int (n % 2))):=fun e=>ao (by decide)
    have q0:=js (n:=n) (k:=2) (by decide);have q1:=jt (n:=n) (k:=2) (by decide)
    generalize n % 2=r at*
    obtain⟨z,hz,ha⟩:=fB (xs:=[PyData.tuple [.int 8,.int 10],.tuple [.int 12,.int 16]]) (i:=r) q0 (by simpa using q1)
    obtain⟨most,many,rfl,m0,m1,k0,k1⟩:∃a b:Int,z=.tuple [.int a,.int b]∧2≤a∧a≤12∧0≤b∧b≤16:=by
      simp only [List.mem_cons,List.not_mem_nil,or_false] at hz
      rcases hz with rfl | rfl<;>exact⟨_,_,rfl,by decide,by decide,by decide,by decide⟩
    obtain⟨W,d3,tw,hd3,ok⟩:=oF d1 most many hd1 m0 m1 k0 k1
    obtain⟨out,e',c1,c2,c3,⟨d4,v,he,hd4⟩⟩:=iX (g:=ah 1) (ft:=dN) (fe:=Cv) (fun i e=>∃ds v,e=[some (.l (ds.map .int)),v]∧dB ds) (fun d=>qI d=true) (aK 0 4) 0 [some (.l (d3.map .int)),none] [] (fun i x e hx ⟨ds,v,he,hd⟩=>by
      subst he
      obtain⟨n,d2,t1, -, -,hd2⟩:=cy hd
      obtain⟨o,ho,w1⟩:=Ci n
      refine⟨_,.d o,o,_,rfl,rfl,?_,rfl,yH o ho,d2,some (.d x),rfl,hd2⟩
      simp? [Cv,t1,w1]) ⟨d3,none,rfl,hd3⟩ (by rw [bt];simp)
    subst he
    rw [List.nil_append] at c1
    rw [bt] at c2
    have hv:c9 [(1,"_law_numbers")] 1 CZ (ah 1) dN Cv [some (.d (.list (ns.map .int))),some (.l (d3.map .int)),some (.d x),some (.d (.int most)),some (.d (.int many)),some (.d (a9 W)),v6,v7,v8,v9,v10]=some (.l out,[some (.d (.list (ns.map .int))),some (.l (d4.map .int)),some (.d x),some (.d (.int most)),some (.d (.int many)),some (.d (a9 W)),v6,v7,v8,v9,v10]):=by
      rw [lw (cp:=[(1,"_law_numbers")]) (nT:=1) (fi:=CZ) (e:=[some (.d (.list (ns.map .int))),some (.l (d3.map .int)),some (.d x),some (.d (.int most)),some (.d (.int many)),some (.d (a9 W)),v6,v7,v8,v9,v10]) (e1:=[some (.d (.list (ns.map .int))),some (.l (d3.map .int)),some (.d x),some (.d (.int most)),some (.d (.int many)),some (.d (a9 W)),v6,v7,v8,v9,v10]) (items:=aK 0 4) rfl c1 rfl]
      refine congrArg (fun z=>some (Rv.l out,z)) ?_
      have u:iO (iA [(1,"_law_numbers")]) [some (.l (d4.map .int)),v] [some (.d (.list (ns.map .int))),some (.l (d3.map .int)),some (.d x),some (.d (.int most)),some (.d (.int many)),some (.d (a9 W)),v6,v7,v8,v9,v10]=[some (.d (.list (ns.map .int))),some (.l (d4.map .int)),some (.d x),some (.d (.int most)),some (.d (.int many)),some (.d (a9 W)),qZ [] none v6,qZ [] none v7,qZ [] none v8,qZ [] none v9,qZ [] none v10]:=rfl
      simp only [xR] at u
      exact u
    obtain⟨e5,h5,hK⟩:=bA (own:=[]) (g:=ah 7) (f:=AO) (LK ns (some (.d x)) (some (.d (.int most))) (some (.d (.int many))) W) (aK 0 3) 0 (dR ns d4 (some (.d x)) (some (.d (.int most))) (some (.d (.int many))) W out v7 v8 v9 v10) (fun i y e hy hK=>by
      obtain⟨rfl,hi⟩:=bO hy
      obtain⟨hd,hl,hs⟩:=hK
      rename_i ds L w7 w8 w9 w10
      obtain⟨ds',L',v8',v9',h6,hd',hl',hs'⟩:=yz (ns:=ns) (v2:=some (.d x)) (v3:=some (.d (.int most))) (v4:=some (.d (.int many))) ok (v8:=w8) (v9:=w9) (v10:=w10) hi hd (by lia) hs
      exact⟨_,_,rfl,h6,bw,.mk hd' (by lia) hs'⟩) (.mk hd4 (by lia) c3)
    obtain⟨hd5,hl5,hs5⟩:=hK
    rename_i d5 T2 w7 w8 w9 w10
    have hf5:∀Wl,cG Wl CY (ah 7) AO (dR ns d4 (some (.d x)) (some (.d (.int most))) (some (.d (.int many))) W out v7 v8 v9 v10)=some (.nx (dR ns d5 (some (.d x)) (some (.d (.int most))) (some (.d (.int many))) W T2 w7 w8 w9 w10)):=fun Wl=>by
      rw [cE (show CY _=some (aK 0 3,[],dR ns d4 (some (.d x)) (some (.d (.int most))) (some (.d (.int many))) W out v7 v8 v9 v10) from rfl)]
      exact h5
    obtain⟨e3,h3,⟨u10,he3⟩⟩:=bA (own:=[(6,T2)]) (g:=ah 10) (f:=Ct) (fun i e=>∃v10,e=dR ns d5 (some (.d x)) (some (.d (.int most))) (some (.d (.int many))) W T2 w7 w8 w9 v10) T2 0 (dR ns d5 (some (.d x)) (some (.d (.int most))) (some (.d (.int many))) W T2 w7 w8 w9 w10) (fun i y e hy ⟨v10,he⟩=>by
      subst he
      have sy:=zU (hs5 y (List.mem_of_getElem? hy))
      have r1:=Ac ok y sy
      have r2:=qN ok y sy
      have r3:=Ae (nL W y) (nL W y)
      rw [beq_self_eq_true] at r3
      generalize nL W y=b at*
      refine⟨dR ns d5 (some (.d x)) (some (.d (.int most))) (some (.d (.int many))) W T2 w7 w8 w9 (some (.d y)),dR ns d5 (some (.d x)) (some (.d (.int most))) (some (.d (.int many))) W T2 w7 w8 w9 (some (.d y)),rfl,?_,fun p hp=>by simp at hp;subst hp;rfl,_,rfl⟩
      simp only [dR]
      simp? [Ct,r1,r2,r3]) ⟨w10,rfl⟩
    subst he3
    have hf:cG ([10]++([]++[])) CW (ah 10) Ct (dR ns d5 (some (.d x)) (some (.d (.int most))) (some (.d (.int many))) W T2 w7 w8 w9 w10)=some (.nx (dR ns d5 (some (.d x)) (some (.d (.int most))) (some (.d (.int many))) W T2 w7 w8 w9 u10)):=by
      unfold cG
      rw [show CW (dR ns d5 (some (.d x)) (some (.d (.int most))) (some (.d (.int many))) W T2 w7 w8 w9 w10)=some (T2,[(6,T2)],dR ns d5 (some (.d x)) (some (.d (.int most))) (some (.d (.int many))) W T2 w7 w8 w9 w10) from rfl]
      exact h3
    refine⟨[some (.d (.list (ns.map .int))),some (.l (ds.map .int)),some (.d x),v3,v4,v5,v6,v7,v8,v9,v10],dR ns d5 (some (.d x)) (some (.d (.int most))) (some (.d (.int many))) W T2 w7 w8 w9 u10,rfl,?_,bw,.mk hd5⟩
    simp only [dR,List.append_nil] at hf hf5 ⊢
    simp? [uS,t1,gn,ha,tw,hv,hf5,hf]) (.mk hd)
  obtain⟨hd2⟩:=hI
  rename_i ds2 v2 v3 v4 v5 v6 v7 v8 v9 v10
  have hi:DC [some (.d (.list (ns.map .int))),some (.l (ds.map .int)),none,none,none,none,none,none,none,none,none]=some (aK 0 (2+min 5 (ns.length:Int)).toNat,[],[some (.d (.list (ns.map .int))),some (.l (ds.map .int)),none,none,none,none,none,none,none,none,none]):=bG (n:=2+min 5 (ns.length:Int)) (by simp? [List.replicate]) (by lia) (by lia)
  have hfor:=fun Wl=>cE (W:=Wl) (g:=ah 2) (f:=uS) hi
  rw [h1] at hfor
  simp? [jX,xc,td,hfor]
def kE(P:Params)(k:Str)(t:Tok)(v:Value):DictEntry:=⟨PyData.keyHash P k,.str k t,v⟩
def kF(n:Str)(s:Stmt)(doc pm:Value)(c:Addr):Obj:=⟨.type "function",none,.func (W.fnOf n n (cP s) (cq s) (am s) .none .none doc pm none (.ref c) .none),#[]⟩
def kI(n:Int):Value:=.int n 0
def kC(n:Str)(a:Nat)(l:List Value)(z:Nat):Obj:=⟨.type "code",none,.fields (Value.str n a::Value.str n (a+1)::Value.str "/claim/cut.py" (a+2)::l++[Value.str "/claim/cut.py" z]).toArray,#[]⟩
def Aw:Value:=.str "askedpairs.forms" 187
def Cz:Value:=.str "askedpairs.sidepaper" 211
def eM:Value:=.str "law_askedpairs_k62_rings_of_anything" 227
def kK(P:Params):W.Frag:=[(3,⟨.type "dict",none,.dict (List.toArray [kE P "__name__" 165 (.str "law_askedpairs_k62_rings_of_anything" 227),kE P "__doc__" 166 (.none),kE P "__package__" 167 (.none),kE P "__loader__" 168 (.builtin "__main__.__loader__#opaque"),kE P "__spec__" 169 (.none),kE P "__annotations__" 170 (.ref 6),kE P "__builtins__" 171 (.ref 4),kE P "__file__" 173 (.str "/claim/cut.py" 172),kE P "__cached__" 174 (.none),kE P "is_number" 195 (.ref 21),kE P "is_number_within" 204 (.ref 28),kE P "is_unlike_row" 210 (.ref 33),kE P "LEAST_OF_RING" 214 (.int (3) 213),kE P "are_tied" 220 (.ref 38),kE P "ring_holds" 226 (.ref 43),kE P "_law_mixed" 237 (.ref 50),kE P "_law_draws" 248 (.ref 57),kE P "_law_next" 255 (.ref 64),kE P "_law_gcd" 263 (.ref 71),kE P "_law_low" 272 (.ref 78),kE P "_law_says" 280 (.ref 85),kE P "_law_chance" 289 (.ref 92),kE P "_law_worth" 297 (.ref 99),kE P "_law_ties" 316 (.ref 106),kE P "_law_web" 332 (.ref 113),kE P "_law_odd" 340 (.ref 120),kE P "_law_two_sided" 346 (.ref 125),kE P "_law_mates" 359 (.ref 132),kE P "_law_are_sides" 365 (.ref 137),kE P "_law_is_ring" 371 (.ref 142),kE P "_law_across" 388 (.ref 149),kE P "_law_renamed" 405 (.ref 156),kE P "_law_round" 418 (.ref 163),kE P "_law_side_web" 431 (.ref 170),kE P "_law_walk" 442 (.ref 177),kE P "_law_rows" 454 (.ref 184),kE P "law" 460 (.ref 189)]) 37,#[]⟩),
  (21,kF "is_number" dA (.none) Aw 20),
  (20,kC "is_number" 189 [kI 2,kI 1,kI 0,kI 0,kI 3,.ref 15,.bool true,kI 181,.ref 16,.none,.ref 17,.ref 18,.ref 19,kI 193,kI 2] 194),
  (28,kF "is_number_within" bu (.none) Aw 27),
  (27,kC "is_number_within" 196 [kI 4,kI 3,kI 0,kI 0,kI 3,.ref 22,.bool true,kI 181,.ref 23,.none,.ref 24,.ref 25,.ref 26,kI 202,kI 4] 203),
  (33,kF "is_unlike_row" bz (.none) Aw 32),
  (32,kC "is_unlike_row" 205 [kI 6,kI 2,kI 0,kI 0,kI 3,.ref 29,.bool true,kI 181,.ref 30,.none,.none,.none,.ref 31,kI 208,kI 6] 209),
  (38,kF "are_tied" dk (.none) Cz 37),
  (37,kC "are_tied" 215 [kI 12,kI 3,kI 0,kI 0,kI 3,.ref 34,.bool true,kI 181,.ref 35,.none,.none,.none,.ref 36,kI 218,kI 12] 219),
  (43,kF "ring_holds" cu (.none) Cz 42),
  (42,kC "ring_holds" 221 [kI 14,kI 2,kI 0,kI 0,kI 3,.ref 39,.bool true,kI 181,.ref 40,.none,.none,.none,.ref 41,kI 224,kI 14] 225),
  (50,kF "_law_mixed" iH (.none) eM 49),
  (49,kC "_law_mixed" 229 [kI 19,kI 2,kI 0,kI 0,kI 3,.ref 44,.bool true,kI 181,.ref 45,.none,.ref 46,.ref 47,.ref 48,kI 235,kI 19] 236),
  (57,kF "_law_draws" iG (.none) eM 56),
  (56,kC "_law_draws" 238 [kI 22,kI 1,kI 0,kI 0,kI 3,.ref 51,.bool true,kI 181,.ref 52,.none,.ref 53,.ref 54,.ref 55,kI 246,kI 22] 247),
  (64,kF "_law_next" dj (.none) eM 63),
  (63,kC "_law_next" 249 [kI 35,kI 1,kI 0,kI 0,kI 3,.ref 58,.bool true,kI 181,.ref 59,.none,.ref 60,.ref 61,.ref 62,kI 253,kI 35] 254),
  (71,kF "_law_gcd" m7 (.none) eM 70),
  (70,kC "_law_gcd" 256 [kI 39,kI 2,kI 0,kI 0,kI 3,.ref 65,.bool true,kI 181,.ref 66,.none,.ref 67,.ref 68,.ref 69,kI 261,kI 39] 262),
  (78,kF "_law_low" m9 (.none) eM 77),
  (77,kC "_law_low" 264 [kI 43,kI 2,kI 0,kI 0,kI 3,.ref 72,.bool true,kI 181,.ref 73,.none,.ref 74,.ref 75,.ref 76,kI 270,kI 43] 271),
  (85,kF "_law_says" j' (.none) eM 84),
  (84,kC "_law_says" 273 [kI 46,kI 2,kI 0,kI 0,kI 3,.ref 79,.bool true,kI 181,.ref 80,.none,.ref 81,.ref 82,.ref 83,kI 278,kI 46] 279),
  (92,kF "_law_chance" ek (.none) eM 91),
  (91,kC "_law_chance" 281 [kI 50,kI 2,kI 0,kI 0,kI 3,.ref 86,.bool true,kI 181,.ref 87,.none,.ref 88,.ref 89,.ref 90,kI 287,kI 50] 288),
  (99,kF "_law_worth" eZ (.none) eM 98),
  (98,kC "_law_worth" 290 [kI 60,kI 2,kI 0,kI 0,kI 3,.ref 93,.bool true,kI 181,.ref 94,.none,.ref 95,.ref 96,.ref 97,kI 295,kI 60] 296),
  (106,kF "_law_ties" jd (.none) eM 105),
  (105,kC "_law_ties" 298 [kI 62,kI 3,kI 0,kI 0,kI 3,.ref 100,.bool true,kI 181,.ref 101,.none,.ref 102,.ref 103,.ref 104,kI 314,kI 62] 315),
  (113,kF "_law_web" ng (.none) eM 112),
  (112,kC "_law_web" 317 [kI 77,kI 3,kI 0,kI 0,kI 3,.ref 107,.bool true,kI 181,.ref 108,.none,.ref 109,.ref 110,.ref 111,kI 330,kI 77] 331),
  (120,kF "_law_odd" m_ (.none) eM 119),
  (119,kC "_law_odd" 333 [kI 87,kI 1,kI 0,kI 0,kI 3,.ref 114,.bool true,kI 181,.ref 115,.none,.ref 116,.ref 117,.ref 118,kI 338,kI 87] 339),
  (132,kF "_law_mates" gF (.none) eM 131),
  (131,kC "_law_mates" 347 [kI 106,kI 2,kI 0,kI 0,kI 3,.ref 126,.bool true,kI 181,.ref 127,.none,.ref 128,.ref 129,.ref 130,kI 357,kI 106] 358),
  (142,kF "_law_is_ring" cJ (.none) eM 141),
  (141,kC "_law_is_ring" 366 [kI 120,kI 2,kI 0,kI 0,kI 3,.ref 138,.bool true,kI 181,.ref 139,.none,.none,.none,.ref 140,kI 369,kI 120] 370),
  (149,kF "_law_across" gf (.none) eM 148),
  (148,kC "_law_across" 372 [kI 128,kI 3,kI 0,kI 0,kI 3,.ref 143,.bool true,kI 181,.ref 144,.none,.ref 145,.ref 146,.ref 147,kI 386,kI 128] 387),
  (156,kF "_law_renamed" ec (.none) eM 155),
  (155,kC "_law_renamed" 389 [kI 139,kI 3,kI 0,kI 0,kI 3,.ref 150,.bool true,kI 181,.ref 151,.none,.ref 152,.ref 153,.ref 154,kI 403,kI 139] 404),
  (163,kF "_law_round" iI (.none) eM 162),
  (162,kC "_law_round" 406 [kI 148,kI 3,kI 0,kI 0,kI 3,.ref 157,.bool true,kI 181,.ref 158,.none,.ref 159,.ref 160,.ref 161,kI 416,kI 148] 417),
  (170,kF "_law_side_web" el (.none) eM 169),
  (169,kC "_law_side_web" 419 [kI 155,kI 3,kI 0,kI 0,kI 3,.ref 164,.bool true,kI 181,.ref 165,.none,.ref 166,.ref 167,.ref 168,kI 429,kI 155] 430),
  (177,kF "_law_walk" ka (.none) eM 176),
  (176,kC "_law_walk" 432 [kI 169,kI 2,kI 0,kI 0,kI 3,.ref 171,.bool true,kI 181,.ref 172,.none,.ref 173,.ref 174,.ref 175,kI 440,kI 169] 441),
  (184,kF "_law_rows" j_ (.none) eM 183),
  (183,kC "_law_rows" 443 [kI 180,kI 3,kI 0,kI 0,kI 3,.ref 178,.bool true,kI 181,.ref 179,.none,.ref 180,.ref 181,.ref 182,kI 452,kI 180] 453),
  (189,kF "law" iJ (.none) eM 188),
  (188,kC "law" 455 [kI 189,kI 1,kI 0,kI 0,kI 3,.ref 185,.bool true,kI 181,.ref 186,.none,.none,.none,.ref 187,kI 458,kI 189] 459)]
def kA:List Addr:=[3,21,20,28,27,33,32,38,37,43,42,50,49,57,56,64,63,71,70,78,77,85,84,92,91,99,98,106,105,113,112,120,119,132,131,142,141,149,148,156,155,163,162,170,169,177,176,184,183,189,188]
def kq:Program:={PySem.Challenge.pw_askedpairs_k62_rings_of_anything with main:={PySem.Challenge.pw_askedpairs_k62_rings_of_anything.main with body:=[top 1,top 2,top 3,top 5,top 6,top 7,top 9,top 10,top 11,top 12,top 13,top 14,top 15,top 16,top 17,top 18,top 19,top 20,top 21,top 22,top 23,top 24,top 25,top 26,top 27,top 28,top 29,top 30]}}
def kH:W.Hook:=W.kHook kK kA (fun _=>by kernel_rfl)
theorem left:W.LeftO PySem.Challenge.pw_askedpairs_k62_rings_of_anything kq [] (fun s=>W.xlAt kq [] s&&W.recOk (W.RowW.records (W.OpenRow.toRowW (W.OpenLaw.row PySem.Challenge.rw_askedpairs_k62_rings_of_anything))) s) (W.Hook.obs kH) (W.Hook.val kH) 1890:=fun w=>by kernel_rfl
theorem Bp{P:List Value→Prop}(h:∀a0,P [a0]):∀us:List Value,us.length=1→P us:=fun us e=>match us,e with | [a0],_=>h a0
theorem si{P:List Value→Prop}(h:∀a0 a1,P [a0,a1]):∀us:List Value,us.length=2→P us:=fun us e=>match us,e with | [a0,a1],_=>h a0 a1
theorem vh{P:List Value→Prop}(h:∀a0 a1 a2,P [a0,a1,a2]):∀us:List Value,us.length=3→P us:=fun us e=>match us,e with | [a0,a1,a2],_=>h a0 a1 a2
theorem hm{w:World}{h:Heap}{mg:Str→Option Value}{n:Str}{s:Stmt}{a:Addr}{ps:List Str}(c:Addr)(d p:Value)(X:(kK w.params).In h)(G:h.Ns mainGlobals mg)
    (e:(W.nsIn (kK w.params) mainGlobals n,List.lookup a (kK w.params),W.codeIn (kK w.params) (.ref c) n,W.keepIn (kK w.params) (.ref a))=(some (some (.ref a)),some (kF n s d p c),true,true))
    (b:∀(kV doc pm:Value) (an:Option Addr) (cdv ct:Value) (us:List Value),us.length=ps.length→bindArgs (W.fnOf n n (cP s) (cq s) (am s) .none kV doc pm an cdv ct) ⟨us,[]⟩=pure (ps.zip us)):
    bj (kK w.params) mg n s a (W.fnOf n n (cP s) (cq s) (am s) .none .none d p none (.ref c) .none) ps:=yk X G (congrArg (·.1) e) (congrArg (·.2.1) e) (congrArg (·.2.2.1) e) (congrArg (·.2.2.2) e) b
theorem all_mk{l:W.OpenLaw}{w:World}{h:Heap}{mg:Str→Option Value}{fa:Addr}(X:(kK w.params).In h)(G:h.Ns mainGlobals mg)(hfa:mg "law"=some (.ref fa)):
    ∃fd:FuncData,(∀(s:Shared) (v:Value),BindsTo s fd ⟨[v],[]⟩ [("_law_script",v)])∧∀base:Heap,(kK w.params).In base→base.Ns mainGlobals mg→aN l.prog w (kK w.params) mg base bV 7 fa fd ["_law_script"] (cf (kK w.params) 1 jX):=by
  have e:=hfa.symm.trans (W.mg_of X G (show W.nsIn (kK w.params) mainGlobals "law"=some (some (.ref 189)) by kernel_rfl))
  cases e
  have T:jh mg:=⟨W.mg_none_of X G (show W.nsIn (kK w.params) mainGlobals "abs"=some none by kernel_rfl),W.mg_none_of X G (show W.nsIn (kK w.params) mainGlobals "len"=some none by kernel_rfl),W.mg_none_of X G (show W.nsIn (kK w.params) mainGlobals "min"=some none by kernel_rfl),W.mg_none_of X G (show W.nsIn (kK w.params) mainGlobals "max"=some none by kernel_rfl),W.mg_none_of X G (show W.nsIn (kK w.params) mainGlobals "range"=some none by kernel_rfl),W.mg_none_of X G (show W.nsIn (kK w.params) mainGlobals "tuple"=some none by kernel_rfl),W.mg_none_of X G (show W.nsIn (kK w.params) mainGlobals "int"=some none by kernel_rfl),W.mg_none_of X G (show W.nsIn (kK w.params) mainGlobals "zip"=some none by kernel_rfl),W.mg_none_of X G (show W.nsIn (kK w.params) mainGlobals "isinstance"=some none by kernel_rfl),W.mg_none_of X G (show W.nsIn (kK w.params) mainGlobals "bool"=some none by kernel_rfl),W.mg_none_of X G (show W.nsIn (kK w.params) mainGlobals "set"=some none by kernel_rfl),W.mg_none_of X G (show W.nsIn (kK w.params) mainGlobals "any"=some none by kernel_rfl),W.mg_none_of X G (show W.nsIn (kK w.params) mainGlobals "all"=some none by kernel_rfl),W.mg_none_of X G (show W.nsIn (kK w.params) mainGlobals "list"=some none by kernel_rfl)⟩
  have h_is_number:bj (kK w.params) mg "is_number" dA 21 _ ["thing"]:=hm 20 (.none) Aw X G (by kernel_rfl) fun _ _ _ _ _ _=>Bp fun _=>rfl
  have h_is_number_within:bj (kK w.params) mg "is_number_within" bu 28 _ ["thing","low","high"]:=hm 27 (.none) Aw X G (by kernel_rfl) fun _ _ _ _ _ _=>vh fun _ _ _=>rfl
  have h_is_unlike_row:bj (kK w.params) mg "is_unlike_row" bz 33 _ ["thing","many"]:=hm 32 (.none) Aw X G (by kernel_rfl) fun _ _ _ _ _ _=>si fun _ _=>rfl
  have h_are_tied:bj (kK w.params) mg "are_tied" dk 38 _ ["web","one","other"]:=hm 37 (.none) Cz X G (by kernel_rfl) fun _ _ _ _ _ _=>vh fun _ _ _=>rfl
  have h_ring_holds:bj (kK w.params) mg "ring_holds" cu 43 _ ["web","thing"]:=hm 42 (.none) Cz X G (by kernel_rfl) fun _ _ _ _ _ _=>si fun _ _=>rfl
  have hLmixed:bj (kK w.params) mg "_law_mixed" iH 50 _ ["_law_cell","_law_k"]:=hm 49 (.none) eM X G (by kernel_rfl) fun _ _ _ _ _ _=>si fun _ _=>rfl
  have hLdraws:bj (kK w.params) mg "_law_draws" iG 57 _ ["_law_script"]:=hm 56 (.none) eM X G (by kernel_rfl) fun _ _ _ _ _ _=>Bp fun _=>rfl
  have hLnext:bj (kK w.params) mg "_law_next" dj 64 _ ["_law_drawn"]:=hm 63 (.none) eM X G (by kernel_rfl) fun _ _ _ _ _ _=>Bp fun _=>rfl
  have hLgcd:bj (kK w.params) mg "_law_gcd" m7 71 _ ["_law_one","_law_other"]:=hm 70 (.none) eM X G (by kernel_rfl) fun _ _ _ _ _ _=>si fun _ _=>rfl
  have hLlow:bj (kK w.params) mg "_law_low" m9 78 _ ["_law_top","_law_bottom"]:=hm 77 (.none) eM X G (by kernel_rfl) fun _ _ _ _ _ _=>si fun _ _=>rfl
  have hLsays:bj (kK w.params) mg "_law_says" j' 85 _ ["_law_found","_law_due"]:=hm 84 (.none) eM X G (by kernel_rfl) fun _ _ _ _ _ _=>si fun _ _=>rfl
  have hLchance:bj (kK w.params) mg "_law_chance" ek 92 _ ["_law_number","_law_kind"]:=hm 91 (.none) eM X G (by kernel_rfl) fun _ _ _ _ _ _=>si fun _ _=>rfl
  have hLworth:bj (kK w.params) mg "_law_worth" eZ 99 _ ["_law_number","_law_kind"]:=hm 98 (.none) eM X G (by kernel_rfl) fun _ _ _ _ _ _=>si fun _ _=>rfl
  have hLties:bj (kK w.params) mg "_law_ties" jd 106 _ ["_law_drawn","_law_things","_law_many"]:=hm 105 (.none) eM X G (by kernel_rfl) fun _ _ _ _ _ _=>vh fun _ _ _=>rfl
  have hLweb:bj (kK w.params) mg "_law_web" ng 113 _ ["_law_drawn","_law_most","_law_ties_here"]:=hm 112 (.none) eM X G (by kernel_rfl) fun _ _ _ _ _ _=>vh fun _ _ _=>rfl
  have hLodd:bj (kK w.params) mg "_law_odd" m_ 120 _ ["_law_number"]:=hm 119 (.none) eM X G (by kernel_rfl) fun _ _ _ _ _ _=>Bp fun _=>rfl
  have hLmates:bj (kK w.params) mg "_law_mates" gF 132 _ ["_law_web_here","_law_thing"]:=hm 131 (.none) eM X G (by kernel_rfl) fun _ _ _ _ _ _=>si fun _ _=>rfl
  have hLis_ring:bj (kK w.params) mg "_law_is_ring" cJ 142 _ ["_law_web_here","_law_thing"]:=hm 141 (.none) eM X G (by kernel_rfl) fun _ _ _ _ _ _=>si fun _ _=>rfl
  have hLacross:bj (kK w.params) mg "_law_across" gf 149 _ ["_law_numbers","_law_things","_law_many"]:=hm 148 (.none) eM X G (by kernel_rfl) fun _ _ _ _ _ _=>vh fun _ _ _=>rfl
  have hLrenamed:bj (kK w.params) mg "_law_renamed" ec 156 _ ["_law_numbers","_law_things","_law_ties_here"]:=hm 155 (.none) eM X G (by kernel_rfl) fun _ _ _ _ _ _=>vh fun _ _ _=>rfl
  have hLround:bj (kK w.params) mg "_law_round" iI 163 _ ["_law_numbers","_law_things","_law_size"]:=hm 162 (.none) eM X G (by kernel_rfl) fun _ _ _ _ _ _=>vh fun _ _ _=>rfl
  have hLside_web:bj (kK w.params) mg "_law_side_web" el 170 _ ["_law_numbers","_law_most","_law_many"]:=hm 169 (.none) eM X G (by kernel_rfl) fun _ _ _ _ _ _=>vh fun _ _ _=>rfl
  have hLwalk:bj (kK w.params) mg "_law_walk" ka 177 _ ["_law_numbers","_law_web_here"]:=hm 176 (.none) eM X G (by kernel_rfl) fun _ _ _ _ _ _=>si fun _ _=>rfl
  have hLrows:bj (kK w.params) mg "_law_rows" j_ 184 _ ["_law_numbers","_law_web_here","_law_row"]:=hm 183 (.none) eM X G (by kernel_rfl) fun _ _ _ _ _ _=>vh fun _ _ _=>rfl
  have h_law:bj (kK w.params) mg "law" iJ 189 _ ["_law_script"]:=hm 188 (.none) eM X G (by kernel_rfl) fun _ _ _ _ _ _=>Bp fun _=>rfl
  have m_LEAST_OF_RING:=W.mg_of X G (show W.nsIn (kK w.params) mainGlobals "LEAST_OF_RING"=some (some (.int (3) 213)) by kernel_rfl)
  refine⟨W.fnOf "law" "law" (cP iJ) (cq iJ) (am iJ) .none .none (.none) eM none (.ref 188) .none,fun s v=>.of_eq rfl,fun base _ _=>?_⟩
  have G_is_number:=lW (P:=l.prog) (w:=w) (base:=base) h_is_number T
  have G_is_number_within:=gH (P:=l.prog) (w:=w) (base:=base) h_is_number_within T h_is_number G_is_number
  have G_is_unlike_row:=i_ (P:=l.prog) (w:=w) (base:=base) h_is_unlike_row T h_is_number_within G_is_number_within
  have G_are_tied:=mX (P:=l.prog) (w:=w) (base:=base) h_are_tied T
  have G_ring_holds:=kx (P:=l.prog) (w:=w) (base:=base) h_ring_holds T h_is_unlike_row G_is_unlike_row h_are_tied G_are_tied m_LEAST_OF_RING
  have GLmixed:=sM (P:=l.prog) (w:=w) (base:=base) hLmixed T
  have GLdraws:=sJ (P:=l.prog) (w:=w) (base:=base) hLdraws T hLmixed GLmixed
  have GLnext:=vx (P:=l.prog) (w:=w) (base:=base) hLnext T
  have GLgcd:=yI (P:=l.prog) (w:=w) (base:=base) hLgcd T
  have GLlow:=yJ (P:=l.prog) (w:=w) (base:=base) hLlow T hLgcd GLgcd
  have GLsays:=vz (P:=l.prog) (w:=w) (base:=base) hLsays T
  have GLchance:=qu (P:=l.prog) (w:=w) (base:=base) hLchance T hLlow GLlow
  have GLworth:=sO (P:=l.prog) (w:=w) (base:=base) hLworth T
  have GLties:=vA (P:=l.prog) (w:=w) (base:=base) hLties T hLnext GLnext hLchance GLchance hLworth GLworth
  have GLweb:=yL (P:=l.prog) (w:=w) (base:=base) hLweb T hLties GLties hLnext GLnext
  have GLodd:=yK (P:=l.prog) (w:=w) (base:=base) hLodd T
  have GLmates:=sL (P:=l.prog) (w:=w) (base:=base) hLmates T
  have GLis_ring:=oo (P:=l.prog) (w:=w) (base:=base) hLis_ring T hLmates GLmates
  have GLacross:=qt (P:=l.prog) (w:=w) (base:=base) hLacross T hLnext GLnext hLchance GLchance hLworth GLworth
  have GLrenamed:=oq (P:=l.prog) (w:=w) (base:=base) hLrenamed T hLnext GLnext
  have GLround:=sN (P:=l.prog) (w:=w) (base:=base) hLround T hLrenamed GLrenamed hLnext GLnext hLchance GLchance hLworth GLworth
  have GLside_web:=mW (P:=l.prog) (w:=w) (base:=base) hLside_web T hLrenamed GLrenamed hLnext GLnext hLweb GLweb hLacross GLacross hLround GLround hLties GLties
  have GLwalk:=vB (P:=l.prog) (w:=w) (base:=base) hLwalk T hLnext GLnext hLmates GLmates
  have GLrows:=vy (P:=l.prog) (w:=w) (base:=base) hLrows T hLnext GLnext
  have G_law:=yM (P:=l.prog) (w:=w) (base:=base) h_law T hLdraws GLdraws hLside_web GLside_web hLodd GLodd hLnext GLnext hLrows GLrows hLsays GLsays hLwalk GLwalk h_ring_holds G_ring_holds hLis_ring GLis_ring
  exact G_law
def B5(K:W.Frag):Sp:=fun vs H Q _=>∃(a:Addr) (ns:List Int),vs=[.ref a]∧ce K H a (ns.map V.int)∧ns.length≤63∧∀H',Q (.bl true) H'
theorem yA{K:W.Frag}{vs:List V}{H:Hp}{Q:VK}{E:XK}(h:B5 K vs H Q E):cf K 1 jX vs H Q E:=by
  obtain⟨a,ns,rfl,hS,hl,q⟩:=h
  obtain⟨as',hm⟩:=sd ns hl
  exact oD hS hm q
theorem walk{l:W.OpenLaw}{q:Program}{loose:List Str}{XP:(Str→Option Value)→Heap→Prop}{YP:World→Heap→Prop}{d:DefRec}{K:Params→W.Frag}(hn:l.most=some 63)(hdf:d.params.defaults=[])
    (hY:∀(w:World) (h:Heap),YP w h→(K w.params).In h)
    (F:∀(w:World) (mg:Str→Option Value) (fa:Addr) (h:Heap),(K w.params).In h→h.Ns mainGlobals mg→mg d.name=some (.ref fa)→
      ∃fd:FuncData,(∀(s:Shared) (u:Value),BindsTo s fd ⟨[u],[]⟩ [("_law_script",u)])∧∀base:Heap,(K w.params).In base→base.Ns mainGlobals mg→aN l.prog w (K w.params) mg base bV 7 fa fd ["_law_script"] (cf (K w.params) 1 jX)):
    W.WalkO q loose XP YP l.row.toRowW d [] (fun f vs=>PySem.call f vs):=
  L2.walk_of (n:=63) (k:=7) (x:="_law_script") (CX:=fun _=>bV) (sp:=fun w=>cf (K w.params) 1 jX) hn (by decide) hdf ⟨rfl,by decide,by decide,rfl⟩ hY F (fun _ _ a ns hl _ hS=>yA ⟨a,ns,rfl,hS,hl,fun _=>rfl⟩) fun _ _ _ _ _ z=>z
end V62
open PySem PySem.W PyProof.Rows
set_option maxRecDepth 100000 in
set_option maxHeartbeats 0 in
theorem PySem.Challenge.cw_askedpairs_k62_rings_of_anything_holds : PySem.Challenge.rw_askedpairs_k62_rings_of_anything.Holds := by
  w_on;o_law
  refine holds_open (q:=V62.kq) (loose:=[]) (Xt:=fun s=>xlAt V62.kq [] s&&recOk (RowW.records (OpenRow.toRowW (OpenLaw.row PySem.Challenge.rw_askedpairs_k62_rings_of_anything))) s) (XP:=XL V62.kq []) (Yf:=Hook.obs V62.kH) (Ya:=Hook.val V62.kH) (YP:=Hook.says V62.kH) (N:=1890) V62.left (Hook.of V62.kH) (Hook.keeps V62.kH) (fun s e=>xl_of s (Bool.and_eq_true_iff.mp e).1) XL.keeps (by rfl) (by rfl) (by rfl) (fun s e=>recFacts_of (Bool.and_eq_true_iff.mp e).2) (by rfl) (by assumption) (by decide+kernel) ⟨rfl,rfl,rfl,rfl,rfl,by decide+kernel⟩ ?hw ?hc
  case hw=>w_witness2
  case hc=>exact V62.walk (l:=PySem.Challenge.rw_askedpairs_k62_rings_of_anything) rfl rfl (fun w h Y=>kIn_of Y) (fun w mg fa h KX G hmg=>V62.all_mk KX G hmg)
