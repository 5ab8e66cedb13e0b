import PyProof.Rows.All
import Wide.All
import OpenK.AllK
import Wide.FinOn
import Lean
import PyProof.EqAt
import PyProof.EqKinds
import PyProof.TupleCall
import PyProof.ReprRoads
import PyProof.IsInstance
import PyProof.IsInstanceH
import PyProof.FitsBits
import PyProof.CompFree
import PyProof.Rows.SumAny
import PyProof.Rows.SortShell
import PyProof.Rows.TupAdd
import PyProof.NeKinds
import PyProof.ConsumeWalk
import PyProof.ZipIter
import PyProof.TupleIter
import PyProof.LayNew
import PyProof.Draws
import PyProof.EnumFor
import PyProof.EnumMake
import PyProof.ListRange
import PyProof.CollectIter
import KE.KRevIter
import PyProof.ListMulRoad
import PyProof.TupleOps
import PyProof.TupleOfStr
import PyProof.WalksMore
import PyProof.FactsAll.range_iterator
import PyProof.IsRules
import PyProof.CompUse
import PyProof.P3In
import PyProof.EqLayable
import KE.KIsAll
import PyProof.Rows.FactsN_isinstance
import PyProof.CallStr
import PyProof.Rows.StrWeight2
import PyProof.Rows.FStr
import PyProof.StrLawsRepr
import PyProof.Rows.SetFrom
import KE.KIntText
import PySem.Challenge.RW_askedpairs_k18_reaches_right_and_bent
set_option Elab.async false
set_option linter.all false
set_option maxRecDepth 100000
namespace L2
open PySem PySem.Spec PyProof.Rows
abbrev iw:=Sum Int Str
def nO:iw→Value→Bool
  | .inl k,v=>Value.isInt k v
  | .inr x,v=>Value.isStrOf x v
def Ht(w:World):iw→Int
  | .inl k=>hashInt k
  | .inr x=>hashStr w x
theorem bI:∀{k:iw} {v:Value},nO k v=true→(∃i t,k=Sum.inl i∧v=Value.int i t)∨(∃x t,k=Sum.inr x∧v=Value.str x t)
  | .inl i,v,h=>by
    obtain⟨t,e⟩:=Value.isInt_shape (k:=i) (v:=v) h
    exact .inl ⟨i,t,rfl,e⟩
  | .inr x,v,h=>by
    obtain⟨t,e⟩:=Value.isStrOf_shape (x:=x) (v:=v) h
    exact .inr ⟨x,t,rfl,e⟩
theorem wO(i:Int)(t:Tok):nO (.inl i) (.int i t)=true:=by simp [nO,Value.isInt]
theorem wQ(x:Str)(t:Tok):nO (.inr x) (.str x t)=true:=by simp [nO,Value.isStrOf]
theorem DB(a b:Int):decide ((Sum.inl a:iw)=Sum.inl b)=(a==b):=by
  by_cases e:a=b
  · subst e;simp
  · have h:¬(Sum.inl a:iw)=Sum.inl b:=fun q=>e (Sum.inl.inj q)
    rw [decide_eq_false h]
    exact(beq_eq_false_iff_ne.mpr e).symm
theorem DE(a b:Str):decide ((Sum.inr a:iw)=Sum.inr b)=decide (a=b):=by
  by_cases e:a=b
  · subst e;simp
  · have h:¬(Sum.inr a:iw)=Sum.inr b:=fun q=>e (Sum.inr.inj q)
    rw [decide_eq_false h,decide_eq_false e]
theorem DC(a:Int)(b:Str):decide ((Sum.inl a:iw)=Sum.inr b)=false:=decide_eq_false (fun q=>nomatch q)
theorem DD(a:Str)(b:Int):decide ((Sum.inr a:iw)=Sum.inl b)=false:=decide_eq_false (fun q=>nomatch q)
def dW(prog:Program)(w:World):PySem.KeyKind prog w iw where
  is:=nO
  hash:=Ht w
  inj:=fun v a b ha hb=>by
    rcases bI ha with ⟨i,t,rfl,rfl⟩ | ⟨x,t,rfl,rfl⟩
    · rcases bI hb with ⟨j,u,rfl,e⟩ | ⟨y,u,rfl,e⟩
      · injection e with e1 _;rw [e1]
      · exact nomatch e
    · rcases bI hb with ⟨j,u,rfl,e⟩ | ⟨y,u,rfl,e⟩
      · exact nomatch e
      · injection e with e1 _;rw [e1]
  byValue:=fun k v h=>by
    rcases bI h with ⟨i,t,rfl,rfl⟩ | ⟨x,t,rfl,rfl⟩<;>rfl
  pyHash:=fun hv h=>by
    rcases bI hv with ⟨i,t,rfl,rfl⟩ | ⟨x,t,rfl,rfl⟩
    · exact wpAny_pyHash_int h
    · exact wpAny_pyHash_str h
  eqBool:=fun hu hv h=>by
    rcases bI hu with ⟨i,t,rfl,rfl⟩ | ⟨x,t,rfl,rfl⟩
    · rcases bI hv with ⟨j,u,rfl,rfl⟩ | ⟨y,u,rfl,rfl⟩
      · rw [DB] at h;exact wpAny_eqBool_int h
      · rw [DC] at h;exact SeqAt.EqAt.int_str i t y u _ _ _ _ h
    · rcases bI hv with ⟨j,u,rfl,rfl⟩ | ⟨y,u,rfl,rfl⟩
      · rw [DD] at h;exact SeqAt.EqAt.str_int x t j u _ _ _ _ h
      · rw [DE] at h;exact wpAny_eqBool_str h
  «strs»:=fun k x t v h=>by
    rcases bI h with ⟨i,u,rfl,e⟩ | ⟨y,u,rfl,e⟩
    · exact nomatch e
    · injection e with e1 _
      subst e1
      cases v<;>rfl
theorem sP(prog:Program)(w:World)(i:Int)(t:Tok):(dW prog w).is (.inl i) (.int i t)=true:=wO i t
theorem sQ(prog:Program)(w:World)(x:Str)(t:Tok):(dW prog w).is (.inr x) (.str x t)=true:=wQ x t
end L2
namespace L2
open PySem PySem.Spec PyProof.Rows
inductive V where
  | non | bl (b:Bool) | int (i:Int) | str (x:Str) | byt (b:Array UInt8) | flt (b:UInt64) | ref (a:Addr) | ty (n:String)
  deriving DecidableEq
def bA:V→Value→Prop
  | .non,u=>u=Value.none
  | .bl b,u=>u=Value.bool b
  | .int i,u=>∃t,u=Value.int i t
  | .str x,u=>∃t,u=Value.str x t
  | .byt b,u=>∃t,u=Value.bytes b t
  | .flt b,u=>∃t,u=Value.float b t
  | .ref a,u=>u=Value.ref a
  | .ty n,u=>u=Value.type n
abbrev aQ:List V→List Value→Prop:=Paired bA
theorem aQ.length{xs:List V}{us:List Value}(r:aQ xs us):xs.length=us.length:=Paired.length r
theorem aQ.get:∀{xs:List V} {us:List Value} {i:Nat} {x:V},aQ xs us→xs[i]?=some x→∃u,us[i]?=some u∧bA x u
  | _,_,_,_,.nil,e=>by simp at e
  | _,_,0,_,.cons r _,e=>by simp at e;subst e;exact⟨_,rfl,r⟩
  | _,_,i+1,x,.cons _ t,e=>by
    obtain⟨u,h1,h2⟩:=aQ.get (i:=i) (x:=x) t (by simpa using e)
    exact⟨u,by simpa using h1,h2⟩
theorem aQ.set{x:V}{u:Value}(r:bA x u):∀{xs:List V} {us:List Value} (i:Nat),aQ xs us→aQ (xs.set i x) (us.set i u)
  | _,_,_,.nil=>.nil
  | _,_,0,.cons _ t=>.cons r t
  | _,_,i+1,.cons q t=>.cons q (aQ.set r i t)
theorem aQ.append:∀{xs ys:List V} {us ws:List Value},aQ xs us→aQ ys ws→aQ (xs++ys) (us++ws)
  | _,_,_,_,.nil,s=>s
  | _,_,_,_,.cons r t,s=>.cons r (aQ.append t s)
theorem aQ.take:∀{xs:List V} {us:List Value} (n:Nat),aQ xs us→aQ (xs.take n) (us.take n)
  | _,_,0,_=>.nil
  | _,_,_+1,.nil=>.nil
  | _,_,n+1,.cons r t=>.cons r (aQ.take n t)
theorem aQ.drop:∀{xs:List V} {us:List Value} (n:Nat),aQ xs us→aQ (xs.drop n) (us.drop n)
  | _,_,0,r=>r
  | _,_,_+1,.nil=>.nil
  | _,_,n+1,.cons _ t=>aQ.drop n t
def Fg:Option V→Option Value→Prop
  | some v,some u=>bA v u
  | none,none=>True
  | _,_=>False
def KV{κ:Type}:List (κ × V)→List (κ × Value)→Prop:=Paired fun(p:κ × V) (q:κ × Value)=>p.1=q.1∧bA p.2 q.2
def kV:iw→V
  | .inl i=>.int i
  | .inr x=>.str x
inductive HO where
  /-- a list -/
  | lst (xs:List V)
  /-- a tuple (never changes) -/
  | tup (xs:List V)
  /-- a dict whose keys are ints and texts; one whose keys are tuples of ints and texts (the empty one is both) -/
  | dK (kvs:List (iw × V)) | dT (kvs:List (List iw × V))
  /-- a set of ints: its members, its size -/
  | set (S:Int→Bool) (n:Nat)
  /-- an instance of the class at C, its dict at dx, its attributes -/
  | ins (C dx:Addr) (fs:List (Str × V))
  /-- the dict of the instance at x -/
  | own (x:Addr)
  /-- the dict of an exception -/
  | xd (fs:List (Str × V))
  /-- a bound method, f of x -/
  | met (f x:Addr)
  /-- a range object lo, lo + 1, .. below hi -/
  | rng (lo hi:Int)
  /-- a thing that is known to the object (the script; a dict while a loop walks it): read, never written while it is so -/
  | frz (o:Obj) (u:HO)
  /-- a code object's table -/
  | tbl (ps:Array Value)
  /-- any other thing, by what is true of its one object (a def of one's own: SetO a S n := HO.ext fun h => ..) -/
  | ext (φ:Heap→Prop)
abbrev Hp:=Addr→Option HO
def a'(H:Hp)(a:Addr)(o:HO):Hp:=fun b=>if b=a then some o else H b
theorem ar{H:Hp}{a:Addr}{o:HO}:a' H a o a=some o:=by unfold a';rw [if_pos rfl]
theorem aw{H:Hp}{a b:Addr}{o:HO}(h:b≠a):a' H a o b=H b:=by unfold a';rw [if_neg h]
theorem er{H:Hp}{a b:Addr}{o:HO}(h:H a=some o)(h':H b=none):a≠b:=by
  intro e;subst e;rw [h] at h';cases h'
section
variable(P:Program)(w:World)
def cU(H:Hp)(h:Heap)(a:Addr):HO→Prop
  | .lst xs=>xs.length≤sizeLine∧∃(its:List Value) (n:Nat),aQ xs its∧h.get? a=some {cls:=.type "list",data:=.seq its.toArray n}
  | .tup xs=>xs.length≤sizeLine∧∃its:List Value,aQ xs its∧IsTup h a its.toArray
  | .dK kvs=>kvs.length≤sizeLine∧(a==sysModules)=false∧∃vs,KV kvs vs∧h.DictOf (dW P w) a vs
  | .dT kvs=>kvs.length≤sizeLine∧(a==sysModules)=false∧∃xs:List (List iw × Addr × Value),
      Paired (fun(p:List iw × V) (q:List iw × Addr × Value)=>p.1=q.1∧H q.2.1=some (.tup (p.1.map kV))∧bA p.2 q.2.2) kvs xs∧
      ∃o es ep,h.get? a=some o∧o.ExactDict∧o.data=.dict es ep∧es.toList=xs.map (entryOfKey (tupleKind (dW P w)))∧(xs.map (·.1)).Nodup
  | .set S n=>h.SetOf (intKind P w) a S n
  | .ins C dx fs=>H dx=some (.own a)∧fs.length≤1000∧dx≠a∧h.get? a=some (PySem.W.instObj C dx)∧
      ∃mA,h.Ns1 dx mA∧(∀f,Fg (fs.lookup f) (mA f))∧PySem.Within mA (fs.map (·.1))
  | .own _=>∃o,h.get? a=some o
  | .xd fs=>∃mA,h.Ns1 a mA∧∀f,Fg (fs.lookup f) (mA f)
  | .rng lo hi=>∃t u v,h.get? a=some {cls:=.type "range",data:=.fields #[.int lo t,.int hi u,.int 1 v]}
  | .frz o u=>h.get? a=some o∧cU H h a u
  | .tbl ps=>h.get? a=some {cls:=.none,data:=.fields ps}
  | .met f x=>h.get? a=some (PySem.W.methodObj (.ref f) (.ref x))
  | .ext φ=>φ h∧(∃o,h.get? a=some o)∧∀h1 h2:Heap,φ h1→(∀o,h1.get? a=some o→h2.get? a=some o)→φ h2
def me(H:Hp)(h:Heap):Prop:=∀a o,H a=some o→cU P w H h a o
end
section
variable{P:Program}{w:World}{H H':Hp}{h h':Heap}{a:Addr}{o:HO}
theorem cU.lt(x:cU P w H h a o):a < h.objs.size:=by
  cases o with
  | lst xs=>obtain⟨_,_,_,_,e⟩:=x;exact Heap.lt_size e
  | tup xs=>obtain⟨_,_,_,p⟩:=x;exact p.lt
  | dK kvs=>obtain⟨_,_,_,_,o,_,_,e,_⟩:=x;exact Heap.lt_size e
  | dT kvs=>obtain⟨_,_,_,_,o,_,_,e,_⟩:=x;exact Heap.lt_size e
  | set S n=>obtain⟨o,_,_,_,e,_⟩:=x;exact Heap.lt_size e
  | ins C dx fs=>obtain⟨_,_,_,e,_⟩:=x;exact Heap.lt_size e
  | own y=>obtain⟨_,e⟩:=x;exact Heap.lt_size e
  | xd fs=>obtain⟨_,⟨_,_,_,e,_⟩,_⟩:=x;exact Heap.lt_size e
  | rng lo hi=>obtain⟨_,_,_,e⟩:=x;exact Heap.lt_size e
  | frz ob u=>obtain⟨e,_⟩:=x;exact Heap.lt_size e
  | tbl ps=>exact Heap.lt_size (show h.get? a=some _ from x)
  | met f y=>exact Heap.lt_size (show h.get? a=some _ from x)
  | ext φ=>obtain⟨_,⟨_,e⟩,_⟩:=x;exact Heap.lt_size e
theorem Paired.mapP{α β:Type}{F G:α→β→Prop}:∀{l₁:List α} {l₂:List β},Paired F l₁ l₂→(∀a b,F a b→G a b)→Paired G l₁ l₂
  | _,_,.nil,_=>.nil
  | _,_,.cons r t,f=>.cons (f _ _ r) (Paired.mapP t f)
theorem cU.stay(x:cU P w H h a o)(k:∀b u,(b=a∨H b=some (.own a))→h.get? b=some u→h'.get? b=some u)
    (ho:∀b,H b=some (.own a)→H' b=some (.own a))(ht:∀b xs,H b=some (.tup xs)→H' b=some (.tup xs)):cU P w H' h' a o:=by
  induction o with
  | lst xs=>obtain⟨z,its,n,r,e⟩:=x;exact⟨z,its,n,r,k _ _ (.inl rfl) e⟩
  | tup xs=>obtain⟨z,its,r,ob,e,c⟩:=x;exact⟨z,its,r,ob,k _ _ (.inl rfl) e,c⟩
  | dK kvs=>obtain⟨z,y,vs,r,ob,es,ep,e,c⟩:=x;exact⟨z,y,vs,r,ob,es,ep,k _ _ (.inl rfl) e,c⟩
  | dT kvs=>
    obtain⟨z,y,xs,r,ob,es,ep,e,c⟩:=x
    exact⟨z,y,xs,Paired.mapP r fun p q z=>⟨z.1,ht _ _ z.2.1,z.2.2⟩,ob,es,ep,k _ _ (.inl rfl) e,c⟩
  | set S n=>obtain⟨ob,es,ep,t,e,c⟩:=x;exact⟨ob,es,ep,t,k _ _ (.inl rfl) e,c⟩
  | ins C dx fs=>
    obtain⟨d,z,ne,e,mA,⟨od,es,ep,e2,c⟩,r⟩:=x
    exact⟨ho _ d,z,ne,k _ _ (.inl rfl) e,mA,⟨od,es,ep,k _ _ (.inr d) e2,c⟩,r⟩
  | own y=>obtain⟨ob,e⟩:=x;exact⟨ob,k _ _ (.inl rfl) e⟩
  | xd fs=>obtain⟨mA,⟨od,es,ep,e,c⟩,r⟩:=x;exact⟨mA,⟨od,es,ep,k _ _ (.inl rfl) e,c⟩,r⟩
  | rng lo hi=>obtain⟨t,u,v,e⟩:=x;exact⟨t,u,v,k _ _ (.inl rfl) e⟩
  | frz ob u ih=>obtain⟨e,q⟩:=x;exact⟨k _ _ (.inl rfl) e,ih q⟩
  | tbl ps=>
    have e:h.get? a=some {cls:=.none,data:=.fields ps}:=x
    show h'.get? a=some {cls:=.none,data:=.fields ps}
    exact k a _ (.inl rfl) e
  | met f y=>
    have e:h.get? a=some (PySem.W.methodObj (.ref f) (.ref y)):=x
    show h'.get? a=some (PySem.W.methodObj (.ref f) (.ref y))
    exact k a _ (.inl rfl) e
  | ext φ=>obtain⟨p,⟨o,e⟩,st⟩:=x;exact⟨st _ _ p fun o q=>k _ _ (.inl rfl) q,⟨o,k _ _ (.inl rfl) e⟩,st⟩
theorem me.lt(x:me P w H h)(e:H a=some o):a < h.objs.size:=(x a o e).lt
theorem me.fresh(x:me P w H h)(e:h.objs.size≤a):H a=none:=by
  cases q:H a with
  | none=>rfl
  | some u=>exact absurd (Nat.lt_of_lt_of_le (x.lt q) e) (Nat.lt_irrefl _)
theorem me.kept(x:me P w H h)(k:∀b u,h.get? b=some u→h'.get? b=some u):me P w H h':=fun a o e=>
  (x a o e).stay (fun b u _ q=>k b u q) (fun _ q=>q) fun _ _ q=>q
theorem me.laid(x:me P w H h)(k:∀b u,h.get? b=some u→h'.get? b=some u)(hp:h.objs.size≤a)(new:cU P w (a' H a o) h' a o):me P w (a' H a o) h':=fun b u e=>by
  have hn:=x.fresh hp
  by_cases hb:b=a
  · subst hb;rw [ar] at e;cases e;exact new
  · rw [aw hb] at e
    exact(x b u e).stay (fun c v _ q=>k c v q) (fun c q=>by rw [aw (er q hn)];exact q) fun c xs q=>by rw [aw (er q hn)];exact q
end
def Rd(H:Hp)(a:Addr)(u:HO):Prop:=H a=some u∨∃o,H a=some (.frz o u)
theorem Rd.ok{P:Program}{w:World}{H:Hp}{h:Heap}{a:Addr}{u:HO}(r:Rd H a u)(x:me P w H h):cU P w H h a u:=by
  rcases r with r | ⟨o,r⟩
  · exact x a u r
  · obtain⟨_,q⟩:=x a _ r
    exact q
def Fd:Option HO→Prop
  | some (.lst _)=>True
  | some (.dK _)=>True
  | some (.dT _)=>True
  | some (.set _ _)=>True
  | some (.ins _ _ _)=>True
  | some (.ext _)=>True
  | _=>False
section
variable{P:Program}{w:World}{H:Hp}{h h':Heap}{x e:Addr}{o':HO}
theorem me.write(ok:me P w H h)(mu:Fd (H x))(he:e=x∨H e=some (.own x))(k:∀b u,b≠e→h.get? b=some u→h'.get? b=some u)(heo:∃u,h'.get? e=some u)
    (new:cU P w (a' H x o') h' x o'):me P w (a' H x o') h':=fun b u q=>by
  have nown:∀c y,H c=some (.own y)→c≠x:=fun c y r z=>by subst z;rw [r] at mu;exact mu
  have ntup:∀c xs,H c=some (.tup xs)→c≠x:=fun c xs r z=>by subst z;rw [r] at mu;exact mu
  by_cases hb:b=x
  · subst hb;rw [ar] at q;cases q;exact new
  · rw [aw hb] at q
    by_cases hbe:b=e
    · have q':H b=some (.own x):=by
        rcases he with z | z
        · exact absurd (hbe.trans z) hb
        · rw [hbe];exact z
      rw [q] at q';cases q'
      obtain⟨v,hv⟩:=heo
      exact⟨v,by rw [hbe];exact hv⟩
    · refine(ok b u q).stay (fun c v hc r=>k c v ?_ r) (fun c r=>by rw [aw (nown c b r)];exact r) fun c xs r=>by rw [aw (ntup c xs r)];exact r
      rcases hc with rfl | hc
      · exact hbe
      · rintro rfl
        rcases he with z | z
        · exact nown c b hc z
        · rw [hc] at z;cases z;exact hb rfl
end
structure Un (fs ex:List Addr) (H H':Hp) (h h':Heap):Prop where
  keep:∀b o,h.get? b=some o→H b=none→b∉fs→b∉ex→h'.get? b=some o
  slot:∀b o,h.get? b=some o→H b=none→b∈fs→b∉ex→∃sl,h'.get? b=some {o with slots:=sl}
  free:∀b o,h.get? b=some o→H b=none→b∉ex→H' b=none
  there:∀b o,h.get? b=some o→b∉ex→∃o',h'.get? b=some o'
  tups:∀b xs,H b=some (.tup xs)→H' b=some (.tup xs)
  frzs:∀b o u,H b=some (.frz o u)→H' b=some (.frz o u)
  tbls:∀b ps,H b=some (.tbl ps)→∃more,H' b=some (.tbl (ps++more))
section
variable{fs fs' ex ex':List Addr}{H H1 H2:Hp}{h h1 h2 h':Heap}{a x e:Addr}{o:HO}
theorem Un.any(u:Un fs ex H H1 h h1){b:Addr}{ob:Obj}(q:h.get? b=some ob)(n:H b=none)(hx:b∉ex):∃sl,h1.get? b=some {ob with slots:=sl}:=by
  by_cases hb:b∈fs
  · exact u.slot b ob q n hb hx
  · exact⟨ob.slots,u.keep b ob q n hb hx⟩
theorem Un.kept(k:∀b u,h.get? b=some u→h'.get? b=some u):Un fs ex H H h h':=
  ⟨fun b ob q _ _ _=>k b ob q,fun b ob q _ _ _=>⟨ob.slots,k b ob q⟩,fun _ _ _ n _=>n,fun b ob q _=>⟨ob,k b ob q⟩,fun _ _ q=>q,fun _ _ _ q=>q,fun _ ps q=>⟨#[],by rw [q];simp⟩⟩
theorem Un.refl:Un fs ex H H h h:=Un.kept fun _ _ q=>q
theorem Un.laid(k:∀b u,h.get? b=some u→h'.get? b=some u)(hp:h.objs.size≤a)(hn:H a=none):Un fs ex H (a' H a o) h h' where
  keep:=fun b u q _ _ _=>k b u q
  slot:=fun b u q _ _ _=>⟨u.slots,k b u q⟩
  free:=fun b u q n _=>by rw [aw (Nat.ne_of_lt (Nat.lt_of_lt_of_le (Heap.lt_size q) hp))];exact n
  there:=fun b u q _=>⟨u,k b u q⟩
  tups:=fun b xs q=>by rw [aw (er q hn)];exact q
  frzs:=fun b u xs q=>by rw [aw (er q hn)];exact q
  tbls:=fun b ps q=>⟨#[],by rw [aw (er q hn),q];simp⟩
theorem Un.write(mu:Fd (H x))(he:e=x∨H e=some (.own x))(k:∀b u,b≠e→h.get? b=some u→h'.get? b=some u)(heo:∃u,h'.get? e=some u):Un fs ex H (a' H x o) h h':=by
  have hx:∀b,H b=none→b≠x:=fun b n z=>by subst z;rw [n] at mu;exact mu
  have hb:∀b,H b=none→b≠e:=fun b n z=>by
    subst z
    rcases he with r | r
    · exact hx b n r
    · rw [n] at r;cases r
  have hm:∀b u,H b=some u→¬Fd (some u)→b≠x:=fun b u q nm z=>by subst z;rw [q] at mu;exact nm mu
  refine⟨fun b u q n _ _=>k b u (hb b n) q,fun b u q n _ _=>⟨u.slots,k b u (hb b n) q⟩,fun b u q n _=>by rw [aw (hx b n)];exact n,fun b u q _=>?_,
    fun b xs q=>by rw [aw (hm b _ q fun z=>z)];exact q,fun b u xs q=>by rw [aw (hm b _ q fun z=>z)];exact q,fun b ps q=>⟨#[],by rw [aw (hm b _ q fun z=>z),q];simp⟩⟩
  by_cases hbe:b=e
  · subst hbe;exact heo
  · exact⟨u,k b u hbe q⟩
end
def G5(h:Heap)(H:Hp):List Addr:=(List.range h.objs.size).filter fun a=>(H a).isSome
def qR(h:Heap)(H:Hp):Heap:=PySem.W.hideAll h (G5 h H)
theorem wM(h:Heap)(H:Hp):(qR h H).objs.size=h.objs.size:=PySem.W.hideAll_size _ _
theorem yw{h:Heap}{H:Hp}{b:Addr}{o:Obj}(e:h.get? b=some o)(n:H b=none):(qR h H).get? b=some o:=
  PySem.W.hideAll_get _ e fun hm=>by
    have q:(H b).isSome=true:=(List.mem_filter.mp hm).2
    rw [n] at q;simp at q
theorem Bb{h:Heap}{H:Hp}{b:Addr}{o:Obj}(e:(qR h H).get? b=some o):h.get? b=some o∧H b=none:=by
  have e':h.get? b=some o:=PySem.W.of_hideAll (G5 h H) e
  refine⟨e',?_⟩
  cases q:H b with
  | none=>rfl
  | some x=>
    have hm:b∈G5 h H:=List.mem_filter.mpr ⟨List.mem_range.mpr (Heap.lt_size e'),by simp [q]⟩
    have z:(qR h H).get? b=none:=PySem.W.hideAll_none (G5 h H) hm
    rw [z] at e;cases e
def qq(g h:Heap)(L:Addr):List (Addr × Obj):=(List.range h.objs.size).filterMap fun a=>if a=L∨(g.get? a).isSome=true then none else(h.get? a).map fun o=>(a,o)
theorem oa{g h:Heap}{L:Addr}{p:Addr × Obj}(hp:p∈qq g h L):p.1≠L∧g.get? p.1=none∧h.get? p.1=some p.2:=by
  obtain⟨b,_,e⟩:=List.mem_filterMap.mp hp
  split at e
  · cases e
  · rename_i hn
    cases q:h.get? b with
    | none=>rw [q] at e;simp at e
    | some u=>
      rw [q] at e
      simp only [Option.map_some,Option.some.injEq] at e
      subst e
      refine⟨fun z=>hn (.inl z),?_,q⟩
      show g.get? b=none
      cases r:g.get? b with
      | none=>rfl
      | some v=>exact(hn (.inr (by simp [r]))).elim
def gX(g h:Heap)(L d:Addr):List (Addr × Obj):=(qq g h L).filter fun p=>decide (p.1≠d)
theorem yO{g h:Heap}{L:Addr}:News g L h (qq g h L):=fun p hp=>let ⟨a,b,c⟩:=oa hp;⟨c,a,b⟩
end L2
namespace L2
open PySem PySem.Spec PyProof.Rows
structure Mod (K:PySem.W.Frag) (mg:Str→Option Value) (base:Heap):Prop where
  kin:K.In base
  glob:base.Ns mainGlobals mg
  blt:∃mb,base.Ns builtinsNs mb∧∀x:Str,x≠"__name__"→mb x=bootBuiltins x
  nolimit:base.NoLimit
structure Cx where
  prog:Program
  w:World
  K:PySem.W.Frag
  mg:Str→Option Value
  base:Heap
  A:Around
  N:List Str
  s₀:Shared
  H₀:Hp
  env:Env
  outer:List Env
  stack:List Env
  ex:List Addr
  fn:Str→Bool
  calm:Bool
  pn:List (Addr × Obj)
  xe:Value→Shared→Prop
def yl(l:List Env):List Addr:=l.filterMap (·.frame)
abbrev Cx.fs(X:Cx):List Addr:=yl X.outer
def Ar(sc:Scope)(x:Str):Prop:=sc.names.lookup x=some .local∨sc.names.lookup x=some .cell∨sc.names.lookup x=some .free
def Dd(sc:Scope)(x:Str):Prop:=sc.names.lookup x=some .local∨sc.names.lookup x=some .cell
def G_(env:Env)(h:Heap)(m:Str→Option Value)(x:Str)(u:Value):Prop:=
  (env.kindOf x=some .local∧m x=some u)∨((env.kindOf x=some .cell∨env.kindOf x=some .free)∧∃c,env.cells.lookup x=some c∧h.IsCell c (some u))
structure Cx.Ok (X:Cx):Prop where
  mod:Mod X.K X.mg X.base
  kind:X.env.scope.kind=.function
  glob:X.env.globals=mainGlobals
  blt:X.env.builtins=builtinsNs
  above:X.s₀.heap.objs.size≤X.env.locals
  inj:∀x y c,X.env.cells.lookup x=some c→X.env.cells.lookup y=some c→x=y
  has:∀x,(X.env.kindOf x=some .cell∨X.env.kindOf x=some .free)→∃c,X.env.cells.lookup x=some c
  cab:∀x c,X.fn x=true→X.env.cells.lookup x=some c→X.s₀.heap.objs.size≤c
  hd:X.calm=true→X.A.handled=none
  frames:X.A.frames=some X.stack
  stk:X.stack=X.outer∨(X.stack=X.env::X.outer∧X.env.frame=some X.env.locals)
  exf:∀b∈X.ex,b≠X.env.locals∧∀x c,X.env.cells.lookup x=some c→c≠b
  bs:∀b o,X.base.get? b=some o→X.s₀.heap.get? b=some o∧X.H₀ b=none
  bsz:X.base.objs.size≤X.s₀.heap.objs.size
  noex:∀b o,X.base.get? b=some o→b∉X.ex
  exfs:∀b∈X.ex,b∉X.fs
  funs:X.s₀.heap.FunFrames X.base X.outer
  frf:∀b∈X.fs,X.H₀ b=none
structure aE (X:Cx) (pins:List (Addr × Obj)) (σ:List (Option V)) (H:Hp) (s:Shared):Prop where
  ok:X.Ok
  os:s.os=X.s₀.os
  bare:AllBare s.gens
  base:Un X.fs X.ex X.H₀ H X.s₀.heap s.heap
  loc:∃m,s.heap.Ns X.env.locals m∧∀(i:Nat) (x:Str) (v:V),X.N[i]?=some x→σ[i]?=some (some v)→Ar X.env.scope x→∃u,bA v u∧G_ X.env s.heap m x u
  cell:∀x c,X.env.cells.lookup x=some c→∃v,s.heap.IsCell c v
  free:H X.env.locals=none
  freeC:∀x c,X.env.cells.lookup x=some c→H c=none
  pin:∀p∈X.pn++pins,s.heap.get? p.1=some p.2∧H p.1=none∧p.1≠X.env.locals∧p.1∉X.fs∧∀v,p.2.data≠.cell v
  hok:me X.prog X.w H s.heap
  len:σ.length=X.N.length
section
variable{X:Cx}{pins:List (Addr × Obj)}{σ:List (Option V)}{H H':Hp}{s:Shared}{h':Heap}
theorem Cx.Ok.nofr(ok:X.Ok){b:Addr}{o:Obj}(e:X.base.get? b=some o):b∉X.fs:=fun hb=>by
  have:=(ok.funs.mem hb).1
  rw [e] at this;cases this
theorem aE.bs(I:aE X pins σ H s):∀b o,X.base.get? b=some o→s.heap.get? b=some o∧H b=none:=fun b o e=>
  ⟨I.base.keep b o (I.ok.bs b o e).1 (I.ok.bs b o e).2 (I.ok.nofr e) (I.ok.noex b o e),I.base.free b o (I.ok.bs b o e).1 (I.ok.bs b o e).2 (I.ok.noex b o e)⟩
theorem aE.bk(I:aE X pins σ H s):∀b o,X.base.get? b=some o→s.heap.get? b=some o:=fun b o e=>(I.bs b o e).1
theorem aE.mod(I:aE X pins σ H s):Mod X.K X.mg X.base:=I.ok.mod
theorem aE.kIn(I:aE X pins σ H s):X.K.In s.heap:=I.ok.mod.kin.keeps I.bk
theorem aE.fr(I:aE X pins σ H s):∃m,Fr X.base X.env.locals s.heap m:=
  let ⟨m,hn,_⟩:=I.loc
  ⟨m,hn,I.bk,Nat.le_trans I.ok.bsz I.ok.above⟩
theorem aE.lt(I:aE X pins σ H s):X.env.locals < s.heap.objs.size:=let ⟨_,hn,_⟩:=I.loc;hn.lt
theorem aE.sz(I:aE X pins σ H s):X.s₀.heap.objs.size≤s.heap.objs.size:=Nat.le_trans I.ok.above (Nat.le_of_lt I.lt)
theorem aE.nofs(I:aE X pins σ H s){a:Addr}(h:s.heap.objs.size≤a):a∉X.fs:=fun hb=>by
  obtain⟨_,o,ho,_⟩:=I.ok.funs.mem hb
  exact absurd (Nat.lt_of_lt_of_le (Heap.lt_size ho) (Nat.le_trans I.sz h)) (Nat.lt_irrefl _)
theorem aE.cne(I:aE X pins σ H s):∀x c,X.env.cells.lookup x=some c→c≠X.env.locals:=fun x c e z=>by
  obtain⟨v,o,ho,hd⟩:=I.cell x c e
  obtain⟨m,⟨o',es,ep,ho',hd',_⟩,_⟩:=I.loc
  rw [z,ho'] at ho;cases ho;rw [hd'] at hd;cases hd
theorem aE.funs(I:aE X pins σ H s):s.heap.FunFrames X.base X.outer:=by
  have all:∀(l:List Env),(∀b∈yl l,b∈X.fs)→X.s₀.heap.FunFrames X.base l→s.heap.FunFrames X.base l:=by
    intro l
    induction l with
    | nil=>intro _ _;trivial
    | cons env r ih=>
      intro hs hl
      obtain⟨hk,⟨L,o,hf,hn,ho,hd⟩,hr⟩:=hl
      have hL:L∈X.fs:=hs L (by unfold yl;rw [List.filterMap_cons,hf];exact List.mem_cons_self)
      obtain⟨sl,e⟩:=I.base.slot L o ho (I.ok.frf L hL) hL fun z=>I.ok.exfs L z hL
      exact⟨hk,⟨L,_,hf,hn,e,hd⟩,ih (fun b hb=>hs b (by unfold yl;rw [List.filterMap_cons,hf];exact List.mem_cons_of_mem _ hb)) hr⟩
  exact all X.outer (fun _ hb=>hb) I.ok.funs
theorem aE.stack(I:aE X pins σ H s):s.heap.FunFrames X.base X.stack:=by
  rcases I.ok.stk with e | ⟨e,hf⟩
  · rw [e];exact I.funs
  · rw [e]
    obtain⟨m,hn,_⟩:=I.loc
    refine .cons (by rw [I.ok.kind];decide) hf hn ?_ I.funs
    exact Heap.get?_none_of_le (Nat.le_trans I.ok.bsz I.ok.above)
theorem aE.stkSub(I:aE X pins σ H s):∀b∈yl X.stack,b∈X.env.locals::X.fs:=fun b hb=>by
  rcases I.ok.stk with e | ⟨e,hf⟩
  · rw [e] at hb;exact List.mem_cons_of_mem _ hb
  · rw [e] at hb
    unfold yl at hb
    rw [List.filterMap_cons,hf] at hb
    exact hb
theorem aE.stkFree(I:aE X pins σ H s):∀b∈yl X.stack,H b=none:=fun b hb=>by
  rcases List.mem_cons.mp (I.stkSub b hb) with e | hb
  · rw [e];exact I.free
  · obtain⟨_,o,ho,_⟩:=I.ok.funs.mem hb
    exact I.base.free b o ho (I.ok.frf b hb) fun z=>I.ok.exfs b z hb
theorem aE.step{g':Array GenState}{t':Nat}{d':Drawn}{ch:List Addr}(I:aE X pins σ H s)
    (hch:∀b∈ch,(b∈X.ex∨X.s₀.heap.objs.size≤b)∧b≠X.env.locals∧(∀x c,X.env.cells.lookup x=some c→c≠b)∧∀p∈X.pn++pins,p.1≠b)
    (keep:∀b o,b≠X.env.locals→b∉X.fs→b∉ch→s.heap.get? b=some o→H b=none→h'.get? b=some o)
    (slot:∀b o,b≠X.env.locals→b∈X.fs→b∉ch→s.heap.get? b=some o→H b=none→∃sl,h'.get? b=some {o with slots:=sl})(free:∀b o,b∉ch→s.heap.get? b=some o→H b=none→H' b=none)
    (there:∀b o,b∉ch→s.heap.get? b=some o→∃o',h'.get? b=some o')
    (tups:∀b xs,H b=some (.tup xs)→H' b=some (.tup xs))(frzs:∀b o u,H b=some (.frz o u)→H' b=some (.frz o u))(tbls:∀b ps,H b=some (.tbl ps)→∃more,H' b=some (.tbl (ps++more)))
    (ns:∀m,s.heap.Ns X.env.locals m→h'.Ns X.env.locals m)(hok:me X.prog X.w H' h')(hg:AllBare g'):
    aE X pins σ H' {s with heap:=h',gens:=g',drawn:=d',toks:=t'}:=by
  have neL:∀b o,X.s₀.heap.get? b=some o→b≠X.env.locals:=fun b o e=>Nat.ne_of_lt (Nat.lt_of_lt_of_le (Heap.lt_size e) I.ok.above)
  have neC:∀b o,X.s₀.heap.get? b=some o→b∉X.ex→b∉ch:=fun b o e hx hb=>by
    rcases(hch b hb).1 with z | z
    · exact hx z
    · exact absurd (Nat.lt_of_lt_of_le (Heap.lt_size e) z) (Nat.lt_irrefl _)
  have cellK:∀x c,X.env.cells.lookup x=some c→∀v,s.heap.IsCell c v→h'.IsCell c v:=fun x c e v ⟨o,ho,hd⟩=>by
    have nch:c∉ch:=fun z=>(hch c z).2.2.1 x c e rfl
    by_cases hc:c∈X.fs
    · obtain⟨sl,q⟩:=slot c o (I.cne x c e) hc nch ho (I.freeC x c e)
      exact⟨_,q,hd⟩
    · exact⟨o,keep c o (I.cne x c e) hc nch ho (I.freeC x c e),hd⟩
  refine⟨I.ok,I.os,hg,⟨fun b o e n hb hx=>?_,fun b o e n hb hx=>?_,fun b o e n hx=>?_,fun b o e hx=>?_,fun b xs e=>tups b xs (I.base.tups b xs e),fun b o xs e=>frzs b o xs (I.base.frzs b o xs e),fun b ps e=>?_⟩,?_,fun x c e=>?_,?_,fun x c e=>?_,fun p hp=>?_,hok,I.len⟩
  · exact keep b o (neL b o e) hb (neC b o e hx) (I.base.keep b o e n hb hx) (I.base.free b o e n hx)
  · obtain⟨sl,e1⟩:=I.base.slot b o e n hb hx
    obtain⟨sl',e2⟩:=slot b _ (neL b o e) hb (neC b o e hx) e1 (I.base.free b o e n hx)
    exact⟨sl',e2⟩
  · obtain⟨o',e1⟩:=I.base.there b o e hx
    exact free b o' (neC b o e hx) e1 (I.base.free b o e n hx)
  · obtain⟨o',e1⟩:=I.base.there b o e hx
    exact there b o' (neC b o e hx) e1
  · obtain⟨m1,e1⟩:=I.base.tbls b ps e
    obtain⟨m2,e2⟩:=tbls b _ e1
    exact⟨m1++m2,by rw [e2,Array.append_assoc]⟩
  · obtain⟨m,hn,hl⟩:=I.loc
    refine⟨m,ns m hn,fun i x v e1 e2 e3=>?_⟩
    obtain⟨u,r,l⟩:=hl i x v e1 e2 e3
    refine⟨u,r,?_⟩
    rcases l with l | ⟨k,c,e,z⟩
    · exact .inl l
    · exact .inr ⟨k,c,e,cellK x c e _ z⟩
  · obtain⟨v,z⟩:=I.cell x c e
    exact⟨v,cellK x c e v z⟩
  · obtain⟨m,⟨o,_,_,ho,_⟩,_⟩:=I.loc
    exact free _ o (fun z=>(hch _ z).2.1 rfl) ho I.free
  · obtain⟨v,o,ho,hd⟩:=I.cell x c e
    exact free c o (fun z=>(hch c z).2.2.1 x c e rfl) ho (I.freeC x c e)
  · obtain⟨e,n,ne,nf,d⟩:=I.pin p hp
    have nch:p.1∉ch:=fun z=>(hch p.1 z).2.2.2 p hp rfl
    exact⟨keep p.1 p.2 ne nf nch e n,free p.1 p.2 nch e n,ne,nf,d⟩
theorem aE.un{t':Nat}(I:aE X pins σ H s)(u:Un X.fs [] H H' s.heap h')(hok:me X.prog X.w H' h'):aE X pins σ H' {s with heap:=h',toks:=t'}:=by
  obtain⟨m,⟨o,es,ep,ho,r⟩,_⟩:=id I.loc
  obtain⟨sl,hL⟩:=u.any ho I.free (by simp)
  exact I.step (g':=s.gens) (d':=s.drawn) (ch:=[]) (fun _ z=>nomatch z) (fun b o _ hb _ e n=>u.keep b o e n hb (by simp)) (fun b o _ hb _ e n=>u.slot b o e n hb (by simp)) (fun b o _ e n=>u.free b o e n (by simp)) (fun b o _ e=>u.there b o e (by simp)) u.tups u.frzs u.tbls (fun m' hm=>by
    obtain⟨o',es',ep',ho',r'⟩:=hm
    rw [ho] at ho';cases ho'
    exact⟨_,es',ep',hL,r'⟩) hok I.bare
theorem aE.call{g':Array GenState}{t':Nat}{d':Drawn}{ch:List Addr}(I:aE X pins σ H s)(u:Un (yl X.stack) ch H H' s.heap h')(hok:me X.prog X.w H' h')(hg:AllBare g')
    (hch:∀b∈ch,(b∈X.ex∨X.s₀.heap.objs.size≤b)∧b≠X.env.locals∧(∀x c,X.env.cells.lookup x=some c→c≠b)∧∀p∈X.pn++pins,p.1≠b):
    aE X pins σ H' {s with heap:=h',gens:=g',drawn:=d',toks:=t'}:=by
  obtain⟨m,⟨o,es,ep,ho,r⟩,_⟩:=id I.loc
  obtain⟨sl,hL⟩:=u.any ho I.free fun z=>(hch _ z).2.1 rfl
  exact I.step (ch:=ch) hch (fun b o hL hb hc e n=>u.keep b o e n (fun z=>(List.mem_cons.mp (I.stkSub b z)).elim hL hb) hc) (fun b o _ _ hc e n=>u.any e n hc) (fun b o hc e n=>u.free b o e n hc) (fun b o hc e=>u.there b o e hc) u.tups u.frzs u.tbls (fun m' hm=>by
    obtain⟨o',es',ep',ho',r'⟩:=hm
    rw [ho] at ho';cases ho'
    exact⟨_,es',ep',hL,r'⟩) hok hg
theorem aE.turned{t':Nat}{it:Addr}(I:aE X pins σ H s)(k:∀b o,b≠it→s.heap.get? b=some o→h'.get? b=some o)(hn:H it=none)(hL:it≠X.env.locals)
    (h1:it∈X.ex∨X.s₀.heap.objs.size≤it)(h2:∀x c,X.env.cells.lookup x=some c→c≠it)(h3:∀p∈X.pn++pins,p.1≠it):aE X pins σ H {s with heap:=h',toks:=t'}:=by
  have nit:∀b u,H b=some u→b≠it:=fun b u e z=>by rw [z,hn] at e;cases e
  refine I.step (g':=s.gens) (d':=s.drawn) (ch:=[it]) (fun b hb=>?_) (fun b o _ _ hc e _=>k b o (fun z=>hc (by simp [z])) e) (fun b o _ _ hc e _=>⟨o.slots,k b o (fun z=>hc (by simp [z])) e⟩) (fun _ _ _ _ n=>n)
    (fun b o hc e=>⟨o,k b o (fun z=>hc (by simp [z])) e⟩) (fun _ _ e=>e) (fun _ _ _ e=>e) (fun b ps e=>⟨#[],by rw [e];simp⟩) (fun m hm=>?_) (fun b u e=>?_) I.bare
  · have e:b=it:=by simpa using hb
    subst e
    exact⟨h1,hL,h2,h3⟩
  · obtain⟨o,es,ep,ho,r⟩:=hm
    exact⟨o,es,ep,k _ o (Ne.symm hL) ho,r⟩
  · refine(I.hok b u e).stay (fun c v hc q=>k c v ?_ q) (fun _ q=>q) fun _ _ q=>q
    rcases hc with z | z
    · rw [z];exact nit b u e
    · exact nit c _ z
theorem aE.tok(I:aE X pins σ H s)(t:Nat):aE X pins σ H {s with toks:=t}:=I.un (h':=s.heap) (t':=t) Un.refl I.hok
theorem aE.kept{t':Nat}(I:aE X pins σ H s)(k:∀b u,s.heap.get? b=some u→h'.get? b=some u):aE X pins σ H {s with heap:=h',toks:=t'}:=I.un (Un.kept k) (I.hok.kept k)
theorem aE.laid{a:Addr}{o:HO}{t':Nat}(I:aE X pins σ H s)(k:∀b u,s.heap.get? b=some u→h'.get? b=some u)(hp:s.heap.objs.size≤a)(new:cU X.prog X.w (a' H a o) h' a o):
    aE X pins σ (a' H a o) {s with heap:=h',toks:=t'}:=I.un (Un.laid k hp (I.hok.fresh hp)) (I.hok.laid k hp new)
theorem aE.write{x e:Addr}{o:HO}{t':Nat}(I:aE X pins σ H s)(mu:Fd (H x))(he:e=x∨H e=some (.own x))(k:∀b u,b≠e→s.heap.get? b=some u→h'.get? b=some u)(heo:∃u,h'.get? e=some u)
    (new:cU X.prog X.w (a' H x o) h' x o):aE X pins σ (a' H x o) {s with heap:=h',toks:=t'}:=I.un (Un.write mu he k heo) (I.hok.write mu he k heo new)
theorem aE.pins_of{pins':List (Addr × Obj)}(I:aE X pins σ H s)(h:∀p∈pins',s.heap.get? p.1=some p.2∧H p.1=none∧p.1≠X.env.locals∧p.1∉X.fs∧∀v,p.2.data≠.cell v):aE X pins' σ H s:=
  ⟨I.ok,I.os,I.bare,I.base,I.loc,I.cell,I.free,I.freeC,fun p hp=>(List.mem_append.mp hp).elim (fun z=>I.pin p (List.mem_append_left _ z)) (h p),I.hok,I.len⟩
theorem sS{N:List Str}(hN:N.Nodup){i j:Nat}{x:Str}(a:N[i]?=some x)(b:N[j]?=some x):i=j:=by
  obtain⟨h1,e1⟩:=List.getElem?_eq_some_iff.mp a
  obtain⟨h2,e2⟩:=List.getElem?_eq_some_iff.mp b
  exact(List.getElem_inj hN).mp (e1.trans e2.symm)
theorem xA{M:Model}{A:Around}{E:Value→Shared→Prop}{i:Nat}{x:Str}{v:V}{u:Value}{Q:Unit→Shared→Prop}(I:aE X pins σ H s)(hN:X.N.Nodup)(hi:X.N[i]?=some x)(hx:Dd X.env.scope x)(r:bA v u)
    (h:∀s',aE X pins (σ.set i (some v)) H s'→(∃a,Heap.SameBut a s.heap s'.heap∧(a=X.env.locals∨X.env.cells.lookup x=some a))→Q () s')(hf:X.fn x=true∨X.env.scope.names.lookup x=some .local:=by first | exact .inl rfl | exact .inr rfl | assumption):wpAny M A (storeName X.env x u) Q E s:=by
  obtain⟨m,hn,hl⟩:=id I.loc
  have hcls:(X.env.scope.kind==.class || (X.env.scope.kind==.module&&X.env.locals != X.env.globals))=false:=by rw [I.ok.kind];rfl
  have hiσ:i < σ.length:=by rw [I.len];exact(List.getElem?_eq_some_iff.mp hi).1
  have cne:=I.cne
  have tracked:∀{a:Addr} {h':Heap},(∃o,s.heap.get? a=some o∧H a=none)→Heap.SameBut a s.heap h'→me X.prog X.w H h':=fun{a h'} ha hs b ob e=>by
    obtain⟨_,_,hfree⟩:=ha
    refine(I.hok b ob e).stay (fun c w' hc q=>(hs.2 c ?_).trans q) (fun _ q=>q) fun _ _ q=>q
    rintro rfl
    rcases hc with rfl | hc
    · rw [hfree] at e;cases e
    · rw [hfree] at hc;cases hc
  rcases hx with hk | hk
  · refine wpAny_storeName_local hk hn (fun h' hn' hs=>?_) hcls
    obtain⟨oL,_,_,hoL,_⟩:=id hn
    refine h _ ⟨I.ok,I.os,I.bare,⟨fun b o e n hb hx=>?_,fun b o e n hb hx=>?_,I.base.free,fun b o e hx=>?_,I.base.tups,I.base.frzs,I.base.tbls⟩,⟨_,hn',fun j y v' e1 e2 e3=>?_⟩,fun y c e=>?_,I.free,I.freeC,fun p hp=>?_,tracked ⟨oL,hoL,I.free⟩ hs,by simpa using I.len⟩ ⟨_,hs,.inl rfl⟩
    · exact(hs.2 b (Nat.ne_of_lt (Nat.lt_of_lt_of_le (Heap.lt_size e) I.ok.above))).trans (I.base.keep b o e n hb hx)
    · obtain⟨sl,e1⟩:=I.base.slot b o e n hb hx
      exact⟨sl,(hs.2 b (Nat.ne_of_lt (Nat.lt_of_lt_of_le (Heap.lt_size e) I.ok.above))).trans e1⟩
    · obtain⟨o',e1⟩:=I.base.there b o e hx
      exact⟨o',(hs.2 b (Nat.ne_of_lt (Nat.lt_of_lt_of_le (Heap.lt_size e) I.ok.above))).trans e1⟩
    · by_cases hj:j=i
      · subst hj
        rw [hi] at e1;cases e1
        rw [List.getElem?_set_self hiσ] at e2
        cases e2
        exact⟨u,r,.inl ⟨hk,by simp⟩⟩
      · rw [List.getElem?_set_ne (Ne.symm hj)] at e2
        obtain⟨u',r',q⟩:=hl j y v' e1 e2 e3
        refine⟨u',r',?_⟩
        rcases q with ⟨k,e⟩ | ⟨k,c,e,z⟩
        · refine .inl ⟨k,?_⟩
          have:y≠x:=fun e=>hj (sS hN e1 (e ▸ hi))
          simp [this,e]
        · exact .inr ⟨k,c,e,z.sameBut hs (cne y c e)⟩
    · obtain⟨w',z⟩:=I.cell y c e
      exact⟨w',z.sameBut hs (cne y c e)⟩
    · obtain⟨e,n,ne,nf,d⟩:=I.pin p hp
      exact⟨(hs.2 p.1 ne).trans e,n,ne,nf,d⟩
  · have hfn:X.fn x=true:=by
      rcases hf with z | z
      · exact z
      · rw [z] at hk;cases hk
    obtain⟨c,hc⟩:=I.ok.has x (.inl hk)
    obtain⟨w',z⟩:=I.cell x c hc
    refine wpAny_storeName_cell I.ok.kind hk hc z (fun h' hc' hs=>?_)
    obtain⟨oc,hoc,hocd⟩:=id z
    refine h {s with heap:=h'} ⟨I.ok,I.os,I.bare,⟨fun b o e n hb hx=>?_,fun b o e n hb hx=>?_,I.base.free,fun b o e hx=>?_,I.base.tups,I.base.frzs,I.base.tbls⟩,⟨m,hn.sameBut hs (Ne.symm (cne x c hc)),fun j y v' e1 e2 e3=>?_⟩,fun y c' e=>?_,I.free,I.freeC,fun p hp=>?_,tracked ⟨oc,hoc,I.freeC x c hc⟩ hs,by simpa using I.len⟩ ⟨c,hs,.inr hc⟩
    · exact(hs.2 b (Nat.ne_of_lt (Nat.lt_of_lt_of_le (Heap.lt_size e) (I.ok.cab x c hfn hc)))).trans (I.base.keep b o e n hb hx)
    · obtain⟨sl,e1⟩:=I.base.slot b o e n hb hx
      exact⟨sl,(hs.2 b (Nat.ne_of_lt (Nat.lt_of_lt_of_le (Heap.lt_size e) (I.ok.cab x c hfn hc)))).trans e1⟩
    · obtain⟨o',e1⟩:=I.base.there b o e hx
      exact⟨o',(hs.2 b (Nat.ne_of_lt (Nat.lt_of_lt_of_le (Heap.lt_size e) (I.ok.cab x c hfn hc)))).trans e1⟩
    · by_cases hj:j=i
      · subst hj
        rw [hi] at e1;cases e1
        rw [List.getElem?_set_self hiσ] at e2
        cases e2
        exact⟨u,r,.inr ⟨.inl hk,c,hc,hc'⟩⟩
      · rw [List.getElem?_set_ne (Ne.symm hj)] at e2
        obtain⟨u',r',q⟩:=hl j y v' e1 e2 e3
        refine⟨u',r',?_⟩
        rcases q with q | ⟨k,c',e,z'⟩
        · exact .inl q
        · refine .inr ⟨k,c',e,z'.sameBut hs ?_⟩
          rintro rfl
          exact hj (sS hN e1 (I.ok.inj _ _ _ e hc ▸ hi))
    · by_cases hcc:c'=c
      · subst hcc;exact⟨_,hc'⟩
      · obtain⟨w2,z2⟩:=I.cell y c' e
        exact⟨w2,z2.sameBut hs hcc⟩
    · obtain⟨e,n,ne,nf,d⟩:=I.pin p hp
      refine⟨(hs.2 p.1 ?_).trans e,n,ne,nf,d⟩
      intro q
      rw [q,hoc] at e
      have q':oc=p.2:=Option.some.inj e
      exact d w' (by rw [←q'];exact hocd)
theorem lD{M:Model}{A:Around}{E:Value→Shared→Prop}{i:Nat}{x:Str}{v:V}{u:Value}{Q:Unit→Shared→Prop}(I:aE X pins σ H s)(hN:X.N.Nodup)(hi:X.N[i]?=some x)(hx:Dd X.env.scope x)(r:bA v u)
    (h:∀s',aE X pins (σ.set i (some v)) H s'→Q () s')(hf:X.fn x=true∨X.env.scope.names.lookup x=some .local:=by first | exact .inl rfl | exact .inr rfl | assumption):wpAny M A (storeName X.env x u) Q E s:=
  xA I hN hi hx r (fun s' I' _=>h s' I') hf
theorem aE.call'{s':Shared}{ch:List Addr}(I:aE X pins σ H s)(ho:s'.os=s.os)(u:Un (yl X.stack) ch H H' s.heap s'.heap)(hok:me X.prog X.w H' s'.heap)(hg:AllBare s'.gens)
    (hch:∀b∈ch,(b∈X.ex∨X.s₀.heap.objs.size≤b)∧b≠X.env.locals∧(∀x c,X.env.cells.lookup x=some c→c≠b)∧∀p∈X.pn++pins,p.1≠b):aE X pins σ H' s':=by
  obtain⟨h',g',d',t',o'⟩:=s'
  have e:o'=s.os:=ho
  subst e
  exact I.call (g':=g') (t':=t') (d':=d') u hok hg hch
end
abbrev XK:=Value→Option Addr→Hp→Prop
abbrev St:=List (Option V)
abbrev VK:=V→Hp→Prop
abbrev TE:=St→Hp→VK→Prop
abbrev TT:=St→Hp→(Bool→Hp→Prop)→Prop
abbrev TA:=St→Hp→(List V→Hp→Prop)→Prop
structure ug where
  nx:St→Hp→Prop
  rt:VK
  bk:St→Hp→Prop:=fun _ _=>False
  ct:St→Hp→Prop:=fun _ _=>False
abbrev TS:=ug→St→Hp→Prop
def EP(X:Cx)(pins:List (Addr × Obj))(σ:St)(Q:VK)(u:Value)(s':Shared):Prop:=∃v H',aE X pins σ H' s'∧bA v u∧Q v H'
def TP(X:Cx)(pins:List (Addr × Obj))(σ:St)(Q:Bool→Hp→Prop)(b:Bool)(s':Shared):Prop:=∃H',aE X pins σ H' s'∧Q b H'
def AP(X:Cx)(pins:List (Addr × Obj))(σ:St)(Q:List V→Hp→Prop)(us:List Value)(s':Shared):Prop:=∃vs H',aE X pins σ H' s'∧aQ vs us∧Q vs H'
def SP(X:Cx)(pins:List (Addr × Obj))(D:ug)(f:Flow)(s':Shared):Prop:=
  match f with
  | .next=>∃σ' H',aE X pins σ' H' s'∧D.nx σ' H'
  | .brk=>∃σ' H',aE X pins σ' H' s'∧D.bk σ' H'
  | .cont=>∃σ' H',aE X pins σ' H' s'∧D.ct σ' H'
  | .ret u=>∃v σ' H',aE X pins σ' H' s'∧bA v u∧D.rt v H'
def PE(X:Cx)(e:Expr)(t:TE):Prop:=
  ∀(pins:List (Addr × Obj)) (s:Shared) (σ:St) (H:Hp) (Q:VK),aE X pins σ H s→t σ H Q→wpAny (model X.prog X.w) X.A (eval e X.env) (EP X pins σ Q) X.xe s
def PT(X:Cx)(e:Expr)(t:TT):Prop:=
  ∀(pins:List (Addr × Obj)) (s:Shared) (σ:St) (H:Hp) (Q:Bool→Hp→Prop),aE X pins σ H s→t σ H Q→wpAny (model X.prog X.w) X.A (isTrue e X.env (eval e X.env)) (TP X pins σ Q) X.xe s
def PW(X:Cx)(e:Expr)(t:TT):Prop:=
  ∀(whole:Sem Value) (pins:List (Addr × Obj)) (s:Shared) (σ:St) (H:Hp) (Q:Bool→Hp→Prop),aE X pins σ H s→t σ H Q→wpAny (model X.prog X.w) X.A (isTrue e X.env whole) (TP X pins σ Q) X.xe s
theorem PW.pt{X:Cx}{e:Expr}{t:TT}(h:PW X e t):PT X e t:=h _
def PA(X:Cx)(es:List Expr)(t:TA):Prop:=
  ∀(pos:Pos) (pins:List (Addr × Obj)) (s:Shared) (σ:St) (H:Hp) (Q:List V→Hp→Prop),aE X pins σ H s→t σ H Q→wpAny (model X.prog X.w) X.A (spliced (backTo pos (starEach es X.env))) (AP X pins σ Q) X.xe s
def PS(X:Cx)(st:Stmt)(t:TS):Prop:=
  ∀(pins:List (Addr × Obj)) (s:Shared) (σ:St) (H:Hp) (D:ug),aE X pins σ H s→t D σ H→wpAny (model X.prog X.w) X.A (exec st X.env) (SP X pins D) X.xe s
def mQ(X:Cx)(st:List Stmt)(t:TS):Prop:=
  ∀(pins:List (Addr × Obj)) (s:Shared) (σ:St) (H:Hp) (D:ug),aE X pins σ H s→t D σ H→wpAny (model X.prog X.w) X.A (execs st X.env) (SP X pins D) X.xe s
theorem cc{α:Type}{t:Sem α}{Q Q':α→Shared→Prop}{M:Model}{A:Around}{E:Value→Shared→Prop}{s:Shared}(h:wpAny M A t Q E s)(hQ:∀a s,Q a s→Q' a s):wpAny M A t Q' E s:=wpAny_mono h hQ fun _ _ x=>x
end L2
namespace L2
open PySem PySem.Spec PyProof.Rows
section
variable{X:Cx}
def GL(i:Nat):TE:=fun σ H Q=>∃v,σ[i]?=some (some v)∧Q v H
def tC(v:V):TE:=fun _ H Q=>Q v H
theorem l4{i:Nat}{x:Str}{pos:Pos}(hN:X.N[i]?=some x)(hv:Ar X.env.scope x)(hd:(x==("__debug__":Str))=false:=by decide)(hcd:(x==("__classdict__":Str))=false:=by decide):PE X (.Name x pos) (GL i):=by
  intro pins s σ H Q I h
  obtain⟨v,e,h⟩:=h
  obtain⟨m,hn,hl⟩:=I.loc
  obtain⟨u,r,l⟩:=hl i x v hN e hv
  have fin:EP X pins σ Q u s:=⟨v,H,I,r,h⟩
  rcases l with ⟨hk,hm⟩ | ⟨hk,c,hc,hcell⟩
  · exact wpAny_Name (wpAny_loadName_local I.ok.kind hk hn hm fin) hd
  · rcases hk with hk | hk
    · exact wpAny_Name (wpAny_loadName_cell I.ok.kind hk hc hcell fin) hd
    · exact wpAny_Name (wpAny_loadName_free I.ok.kind hk hc hcell fin hcd) hd
theorem rA{i j pos}:PE X (.Constant (.int i) j pos) (tC (.int i)):=fun _ _ _ H _ I h=>wpAny_Constant_int ⟨.int i,H,I.tok _,⟨_,rfl⟩,h⟩
theorem Gb{b j pos}:PE X (.Constant (.bool b) j pos) (tC (.bl b)):=fun _ _ _ H _ I h=>Constant_bool ⟨.bl b,H,I,rfl,h⟩
theorem D9{j pos}:PE X (.Constant .none j pos) (tC .non):=fun _ _ _ H _ I h=>Constant_none ⟨.non,H,I,rfl,h⟩
theorem Ea{x j pos}:PE X (.Constant (.str x) j pos) (tC (.str x)):=fun _ _ _ H _ I h=>Calls.Constant_str ⟨.str x,H,I.tok _,⟨_,rfl⟩,h⟩
def Gl(X:Cx)(x:Str):Prop:=X.env.kindOf x=some .globalImplicit
theorem vR{E:Value→Shared→Prop}{pins:List (Addr × Obj)}{s:Shared}{σ:St}{H:Hp}{x:Str}{u:Value}{pos:Pos}{Q:Value→Shared→Prop}(I:aE X pins σ H s)(hg:Gl X x)(hm:X.mg x=some u)(h:Q u s)
    (hd:(x==("__debug__":Str))=false:=by decide):wpAny (model X.prog X.w) X.A (eval (.Name x pos) X.env) Q E s:=
  Calls.Name_function_global I.ok.kind hg (Calls.loadGlobal_global (by rw [I.ok.glob];exact I.mod.glob.keeps I.bk) hm h) hd
theorem il{E:Value→Shared→Prop}{pins:List (Addr × Obj)}{s:Shared}{σ:St}{H:Hp}{x:Str}{u:Value}{pos:Pos}{Q:Value→Shared→Prop}(I:aE X pins σ H s)(hg:Gl X x)(hm:X.mg x=none)(hv:bootBuiltins x=some u)(h:Q u s)
    (hn:x≠"__name__":=by decide)(hd:(x==("__debug__":Str))=false:=by decide):wpAny (model X.prog X.w) X.A (eval (.Name x pos) X.env) Q E s:=by
  obtain⟨mb,h1,h2⟩:=I.mod.blt
  exact Calls.Name_function_global I.ok.kind hg (Calls.loadGlobal_builtin (by rw [I.ok.glob];exact I.mod.glob.keeps I.bk) hm (by rw [I.ok.blt];exact h1.keeps I.bk) ((h2 x hn).trans hv) h) hd
theorem BA{x:Str}{v:V}{u:Value}{pos:Pos}(hg:Gl X x)(hm:X.mg x=some u)(r:bA v u)(hd:(x==("__debug__":Str))=false:=by decide):PE X (.Name x pos) (tC v):=
  fun _ _ _ H _ I h=>vR I hg hm ⟨v,H,I,r,h⟩ hd
variable{a b:Expr}{ta tb:TE}{pos:Pos}
def tB(t:TE):TT:=fun σ H Q=>t σ H fun x H1=>∃c,x=.bl c∧Q c H1
theorem Ek{e:Expr}{t:TE}(h:PE X e t)(he:∀whole,isTrue e X.env whole=(do let v ←whole;standAt e.pos;holding [v] (truthy v)):=by intro _;rfl):PT X e (tB t):=by
  intro pins s σ H Q I hw
  refine isTrue_plain (cc (h pins s σ H _ I hw) fun v s1 ⟨x,H1,I1,r1,q1⟩=>?_) (he _)
  obtain⟨d,rfl,q⟩:=q1
  cases r1
  exact wpAny_truthy_bool ⟨H1,I1,q⟩
variable{tA tB':TT}{gX:List Expr}
def Gy(t u:TT):TT:=fun σ H Q=>t σ H fun c H1=>if c=true then u σ H1 Q else Q false H1
def HV(t u:TT):TT:=fun σ H Q=>t σ H fun c H1=>if c=true then Q true H1 else u σ H1 Q
def GE(t:TT):TT:=fun σ H Q=>t σ H fun c H1=>Q (!c) H1
theorem BS(ha:PT X a tA):PW X (.BoolOp .And [a] pos) tA:=by
  intro wh pins s σ H Q I h
  refine isTrue_and (cc (ha pins s σ H Q I h) fun c s1 e=>?_)
  cases c with
  | true=>exact isTrue_and_nil e
  | false=>exact e
theorem Eo(ha:PT X a tA):PW X (.BoolOp .Or [a] pos) tA:=by
  intro wh pins s σ H Q I h
  refine isTrue_or (cc (ha pins s σ H Q I h) fun c s1 e=>?_)
  cases c with
  | false=>exact isTrue_or_nil e
  | true=>exact e
theorem Em(ha:PT X a tA)(hb:PW X (.BoolOp .And (b::gX) pos) tB'):PW X (.BoolOp .And (a::b::gX) pos) (Gy tA tB'):=by
  intro wh pins s σ H Q I h
  refine isTrue_and (cc (ha pins s σ H _ I h) fun c s1 ⟨H1,I1,q1⟩=>?_)
  cases c with
  | true=>exact hb wh pins s1 σ H1 Q I1 q1
  | false=>exact⟨H1,I1,q1⟩
theorem Gg(ha:PT X a tA)(hb:PW X (.BoolOp .Or (b::gX) pos) tB'):PW X (.BoolOp .Or (a::b::gX) pos) (HV tA tB'):=by
  intro wh pins s σ H Q I h
  refine isTrue_or (cc (ha pins s σ H _ I h) fun c s1 ⟨H1,I1,q1⟩=>?_)
  cases c with
  | true=>exact⟨H1,I1,q1⟩
  | false=>exact hb wh pins s1 σ H1 Q I1 q1
theorem Ej(ha:PT X a tA):PT X (.UnaryOp .Not a pos) (GE tA):=by
  intro pins s σ H Q I h
  exact isTrue_not (ha pins s σ H (fun c H1=>Q (!c) H1) I h)
def Gz(ta tb:TE):TE:=fun σ H Q=>ta σ H fun x H1=>∃c,x=.bl c∧if c=true then tb σ H1 Q else Q (.bl false) H1
def GF(ta:TE):TE:=fun σ H Q=>ta σ H fun x H1=>∃c,x=.bl c∧Q (.bl (!c)) H1
theorem D'{op}{t:TE}(h:PE X a t):PE X (.BoolOp op [a] pos) t:=fun pins s σ H Q I hw=>BoolOp_one (h pins s σ H Q I hw)
theorem D8(ha:PE X a ta)(hb:PE X (.BoolOp .And (b::gX) pos) tb):PE X (.BoolOp .And (a::b::gX) pos) (Gz ta tb):=by
  intro pins s σ H Q I h
  refine BoolOp_and (cc (ha pins s σ H _ I h) fun v s1 ⟨x,H1,I1,r1,q1⟩=>?_)
  obtain⟨c,rfl,q1⟩:=q1
  cases r1
  refine wpAny_truthy_bool ?_
  cases c with
  | true=>exact hb pins s1 σ H1 Q I1 q1
  | false=>exact⟨.bl false,H1,I1,rfl,q1⟩
theorem D_(ha:PE X a ta):PE X (.UnaryOp .Not a pos) (GF ta):=by
  intro pins s σ H Q I h
  refine UnaryOp_ (cc (ha pins s σ H _ I h) fun v s1 ⟨x,H1,I1,r1,q1⟩=>?_)
  obtain⟨c,rfl,q1⟩:=q1
  cases r1
  exact not_of (wpAny_truthy_bool ⟨.bl (!c),H1,I1,rfl,q1⟩)
end
end L2
namespace L2
open PySem PySem.Spec PyProof.Rows
def cP(K:PySem.W.Frag)(H:Hp)(a:Addr)(xs:List V):Prop:=
  Rd H a (.lst xs)∨
    ∃(o:Obj) (its:Array Value) (n:Nat),K.lookup a=some o∧o.cls=.type "list"∧o.dict=none∧o.data=.seq its n∧its.size≤sizeLine∧aQ xs its.toList
def bR(K:PySem.W.Frag)(H:Hp)(a:Addr)(xs:List V):Prop:=
  Rd H a (.tup xs)∨
    ∃(o:Obj) (its:Array Value) (n:Nat),K.lookup a=some o∧o.cls=.type "tuple"∧o.data=.seq its n∧its.size≤sizeLine∧aQ xs its.toList
def Hd:Value→Option V
  | .none=>some .non
  | .bool b=>some (.bl b)
  | .int i _=>some (.int i)
  | .str x _=>some (.str x)
  | .bytes b _=>some (.byt b)
  | .float b _=>some (.flt b)
  | .ref a=>some (.ref a)
  | .type n=>some (.ty n)
  | _=>none
theorem bA.abs{x:V}{u:Value}(r:bA x u):Hd u=some x:=by
  cases x with
  | non=>cases r;rfl
  | bl _=>cases r;rfl
  | int _=>obtain⟨t,rfl⟩:=r;rfl
  | str _=>obtain⟨t,rfl⟩:=r;rfl
  | byt _=>obtain⟨t,rfl⟩:=r;rfl
  | flt _=>obtain⟨t,rfl⟩:=r;rfl
  | ref _=>cases r;rfl
  | ty _=>cases r;rfl
theorem bA.inj{x y:V}{u:Value}(r:bA x u)(q:bA y u):x=y:=Option.some.inj (r.abs.symm.trans q.abs)
theorem aQ.inj:∀{xs ys:List V} {us:List Value},aQ xs us→aQ ys us→xs=ys
  | _,_,_,.nil,.nil=>rfl
  | _,_,_,.cons r t,.cons r' t'=>by rw [r.inj r',aQ.inj t t']
section
variable{X:Cx}{pins:List (Addr × Obj)}{σ:St}{H:Hp}{s:Shared}{a:Addr}{xs ys:List V}
theorem cP.of{K:PySem.W.Frag}(h:H a=some (.lst xs)):cP K H a xs:=.inl (.inl h)
theorem bR.of{K:PySem.W.Frag}(h:H a=some (.tup xs)):bR K H a xs:=.inl (.inl h)
theorem aE.list(I:aE X pins σ H s)(h:cP X.K H a xs):∃its:List Value,aQ xs its∧PlainL s.heap a its.toArray∧xs.length≤sizeLine:=by
  rcases h with h | ⟨o,its,n,hk,hc,hd,hs,hz,r⟩
  · obtain⟨z,its,n,r,e⟩:=h.ok I.hok
    exact⟨its,r,⟨_,n,e,rfl,rfl,rfl⟩,z⟩
  · refine⟨its.toList,r,⟨o,n,I.kIn a o hk,hc,hd,by simpa using hs⟩,?_⟩
    have e:=r.length
    simp only [Array.length_toList] at e
    lia
theorem aE.tuple(I:aE X pins σ H s)(h:bR X.K H a xs):∃its:List Value,aQ xs its∧IsTup s.heap a its.toArray∧xs.length≤sizeLine:=by
  rcases h with h | ⟨o,its,n,hk,hc,hs,hz,r⟩
  · obtain⟨z,its,r,p⟩:=h.ok I.hok
    exact⟨its,r,p,z⟩
  · refine⟨its.toList,r,⟨o,I.kIn a o hk,hc,n,by simpa using hs⟩,?_⟩
    have e:=r.length
    simp only [Array.length_toList] at e
    lia
theorem aE.list_inj(I:aE X pins σ H s)(h:cP X.K H a xs)(h':cP X.K H a ys):xs=ys:=by
  obtain⟨its,r,⟨o,n,e,_,_,d⟩,_⟩:=I.list h
  obtain⟨its',r',⟨o',n',e',_,_,d'⟩,_⟩:=I.list h'
  rw [e] at e';cases e'
  rw [d] at d'
  injection d' with d1 _
  have:its=its':=by simpa using congrArg Array.toList d1
  subst this
  exact r.inj r'
theorem aE.tuple_inj(I:aE X pins σ H s)(h:bR X.K H a xs)(h':bR X.K H a ys):xs=ys:=by
  obtain⟨its,r,⟨o,e,_,n,d⟩,_⟩:=I.tuple h
  obtain⟨its',r',⟨o',e',_,n',d'⟩,_⟩:=I.tuple h'
  rw [e] at e';cases e'
  rw [d] at d'
  injection d' with d1 _
  have:its=its':=by simpa using congrArg Array.toList d1
  subst this
  exact r.inj r'
end
abbrev Cx.wish(X:Cx)(E:Value→Shared→Prop):Cx:={X with xe:=E}
abbrev Cx.nox(X:Cx):Cx:=X.wish fun _ _=>False
theorem Cx.Ok.wish{X:Cx}(ok:X.Ok)(E:Value→Shared→Prop):(X.wish E).Ok:=
  ⟨ok.mod,ok.kind,ok.glob,ok.blt,ok.above,ok.inj,ok.has,ok.cab,ok.hd,ok.frames,ok.stk,ok.exf,ok.bs,ok.bsz,ok.noex,ok.exfs,ok.funs,ok.frf⟩
theorem Cx.Ok.unwish{X:Cx}{E:Value→Shared→Prop}(ok:(X.wish E).Ok):X.Ok:=
  ⟨ok.mod,ok.kind,ok.glob,ok.blt,ok.above,ok.inj,ok.has,ok.cab,ok.hd,ok.frames,ok.stk,ok.exf,ok.bs,ok.bsz,ok.noex,ok.exfs,ok.funs,ok.frf⟩
section
variable{X:Cx}{pins:List (Addr × Obj)}{σ:St}{H:Hp}{s:Shared}{E:Value→Shared→Prop}
theorem aE.wish(I:aE X pins σ H s)(E:Value→Shared→Prop):aE (X.wish E) pins σ H s:=⟨I.ok.wish E,I.os,I.bare,I.base,I.loc,I.cell,I.free,I.freeC,I.pin,I.hok,I.len⟩
theorem aE.unwish(I:aE (X.wish E) pins σ H s):aE X pins σ H s:=⟨I.ok.unwish,I.os,I.bare,I.base,I.loc,I.cell,I.free,I.freeC,I.pin,I.hok,I.len⟩
theorem SP.unwish{D:ug}{f:Flow}{s':Shared}(h:SP (X.wish E) pins D f s'):SP X pins D f s':=by
  cases f with
  | next=>obtain⟨σ',H',I,q⟩:=h;exact⟨σ',H',I.unwish,q⟩
  | brk=>obtain⟨σ',H',I,q⟩:=h;exact⟨σ',H',I.unwish,q⟩
  | cont=>obtain⟨σ',H',I,q⟩:=h;exact⟨σ',H',I.unwish,q⟩
  | ret u=>obtain⟨v,σ',H',I,r,q⟩:=h;exact⟨v,σ',H',I.unwish,r,q⟩
theorem mQ.nox{st:List Stmt}{t:TS}(h:mQ X.nox st t):mQ X st t:=fun pins s σ H D I hw=>
  wpAny_mono (h pins s σ H D (I.wish _) hw) (fun _ _ q=>q.unwish) fun _ _ z=>False.elim z
end
section
variable{X:Cx}{st:Stmt}{gX:List Stmt}{t u:TS}{e:Expr}{te:TE}{pos:Pos}
def GD:TS:=fun D σ H=>D.nx σ H
def HI(t u:TS):TS:=fun D σ H=>t {D with nx:=u D} σ H
theorem BN:mQ X [] GD:=fun _ _ σ H _ I h=>wpAny_execs_nil ⟨σ,H,I,h⟩
theorem zv(h1:PS X st t)(h2:mQ X gX u):mQ X (st::gX) (HI t u):=by
  intro pins s σ H D I h
  refine wpAny_execs_cons (cc (h1 pins s σ H {D with nx:=u D} I h) fun f s1 q=>?_)
  cases f with
  | next=>
    obtain⟨σ',H',I',q⟩:=q
    exact h2 pins s1 σ' H' D I' q
  | ret v=>exact q
  | brk=>exact q
  | cont=>exact q
theorem BO(h1:PS X st t):mQ X [st] t:=by
  intro pins s σ H D I h
  refine wpAny_execs_cons (cc (h1 pins s σ H D I h) fun f s1 q=>?_)
  cases f with
  | next=>exact wpAny_execs_nil q
  | ret v=>exact q
  | brk=>exact q
  | cont=>exact q
theorem aE.quiet{pins:List (Addr × Obj)}{σ:St}{H:Hp}{s:Shared}(I:aE X pins σ H s):interactive X.env=false:=by simp [interactive,I.ok.kind]
def GC(te:TE):TS:=fun D σ H=>te σ H fun _ H1=>D.nx σ H1
theorem BM(he:PE X e te)(hs:swapsWith e none pos.line X.env=pure false:=by rfl):PS X (.Expr e pos) (GC te):=by
  intro pins s σ H D I h
  exact wpAny_Expr_any (cc (he pins s σ H _ I h) fun v s1 ⟨x,H1,I1,r1,q1⟩=>⟨σ,H1,I1,q1⟩) I.quiet hs
def HH(te:TE):TS:=fun D σ H=>te σ H D.rt
theorem Eh(he:PE X e te):PS X (.Return (some e) pos) (HH te):=by
  intro pins s σ H D I h
  exact wpAny_Return_some (cc (he pins s σ H _ I h) fun v s1 ⟨x,H1,I1,r1,q1⟩=>⟨x,σ,H1,I1,r1,q1⟩)
def HD(c:TT)(t u:TS):TS:=fun D σ H=>c σ H fun b H1=>if b=true then t D σ H1 else u D σ H1
theorem Ge{c:Expr}{a b:List Stmt}{tc:TT}(hc:PT X c tc)(ha:mQ X a t)(hb:mQ X b u):PS X (.If c a b pos) (HD tc t u):=by
  intro pins s σ H D I h
  refine wpAny_If (cc (hc pins s σ H _ I h) fun d s1 ⟨H1,I1,q1⟩=>?_)
  cases d with
  | true=>exact ha pins s1 σ H1 D I1 q1
  | false=>exact hb pins s1 σ H1 D I1 q1
end
abbrev TG:=V→St→Hp→(St→Hp→Prop)→Prop
abbrev Aq:=List V→St→Hp→(St→Hp→Prop)→Prop
def PG(X:Cx)(target:Expr)(t:TG):Prop:=
  ∀(pins:List (Addr × Obj)) (s:Shared) (σ:St) (H:Hp) (v:V) (u:Value) (Q:St→Hp→Prop),aE X pins σ H s→bA v u→t v σ H Q→
    wpAny (model X.prog X.w) X.A (assign target X.env u) (fun _ s'=>∃σ' H',aE X pins σ' H' s'∧Q σ' H') X.xe s
def xM(X:Cx)(ts:List Expr)(t:Aq):Prop:=
  ∀(pins:List (Addr × Obj)) (s:Shared) (σ:St) (H:Hp) (vs:List V) (us:List Value) (Q:St→Hp→Prop),aE X pins σ H s→aQ vs us→t vs σ H Q→
    wpAny (model X.prog X.w) X.A (assignInOrder ((assignEach ts X.env).map (·.2)) us) (fun _ s'=>∃σ' H',aE X pins σ' H' s'∧Q σ' H') X.xe s
abbrev Dg:=V→V→V→Hp→(Hp→Prop)→Prop
def Fe(X:Cx)(t:Dg):Prop:=
  ∀(pins:List (Addr × Obj)) (s:Shared) (σ:St) (H:Hp) (o i v:V) (ov iv u:Value) (Q:Hp→Prop),aE X pins σ H s→bA o ov→bA i iv→bA v u→t o i v H Q→
    wpAny (model X.prog X.w) X.A (setItem ov iv u) (fun _ s'=>∃H',aE X pins σ H' s'∧Q H') X.xe s
section
variable{X:Cx}{pos:Pos}
def CK(i:Nat):TG:=fun v σ H Q=>Q (σ.set i (some v)) H
theorem BB{i:Nat}{x:Str}(hN:X.N.Nodup)(hi:X.N[i]?=some x)(hx:Dd X.env.scope x)(hf:X.fn x=true∨X.env.scope.names.lookup x=some .local:=by first | exact .inl rfl | exact .inr rfl | assumption):PG X (.Name x pos) (CK i):=by
  intro pins s σ H v u Q I r h
  exact wpAny_assign_Name (lD I hN hi hx r (fun s' I'=>⟨_,H,I',h⟩) hf)
def Hg:Aq:=fun vs σ H Q=>vs=[]∧Q σ H
def Fv(t:TG)(u:Aq):Aq:=fun vs σ H Q=>∃v r,vs=v::r∧t v σ H fun σ' H'=>u r σ' H' Q
theorem BD:xM X [] Hg:=by
  intro pins s σ H vs us Q I r h
  obtain⟨e,h⟩:=h
  subst e
  cases r
  exact assignInOrder_nil ⟨σ,H,I,h⟩
theorem za{e:Expr}{es:List Expr}{t:TG}{u:Aq}(h1:PG X e t)(h2:xM X es u)
    (hs:(assignEach (e::es) X.env).map (·.2)=assign e X.env::(assignEach es X.env).map (·.2):=by rfl):xM X (e::es) (Fv t u):=by
  intro pins s σ H vs us Q I r h
  obtain⟨v,vr,e1,h⟩:=h
  subst e1
  cases r with
  | cons r rr=>
    rw [hs]
    refine assignInOrder_cons (cc (h1 pins s σ H _ _ _ I r h) fun _ s1 ⟨σ1,H1,I1,q1⟩=>?_)
    exact h2 pins s1 σ1 H1 _ _ Q I1 rr q1
def AS(K:PySem.W.Frag)(n:Nat)(t:Aq):TG:=fun v σ H Q=>∃a xs,v=.ref a∧bR K H a xs∧xs.length=n∧t xs σ H Q
theorem Ec{es:List Expr}{k:Nat}{t:Aq}{n:Nat}(hc:X.calm=true)(h:xM X es t)
    (hn:(assignEach es X.env).length=n:=by rfl)(hst:(assignEach es X.env).findIdx? (·.1)=none:=by rfl):PG X (.Tuple es k pos) (AS X.K n t):=by
  intro pins s σ H v u Q I r hw
  obtain⟨a,xs,e1,hq,hl,hw⟩:=hw
  subst e1
  cases r
  obtain⟨its,rv,ht,hz⟩:=I.tuple hq
  refine assign_Tuple_tuple (I.ok.hd hc) ht (by simp [hn,←hl,rv.length]) hst fun h' hx=>?_
  have I1:aE X pins σ H {s with heap:=h'}:=I.kept (t':=s.toks) fun b o e=>hx b o (Nat.ne_of_lt (Heap.lt_size e)) e
  exact h pins _ σ H xs _ Q I1 (by simpa using rv) hw
def Hh(to ti:TE)(t:Dg):TG:=fun v σ H Q=>to σ H fun o H1=>ti σ H1 fun i H2=>t o i v H2 fun H3=>Q σ H3
theorem y_{o i:Expr}{to ti:TE}{t:Dg}(ho:PE X o to)(hi:PE X i ti)(hs:Fe X t)
    (ha:∀v,assign (.Subscript o i pos) X.env v=(do
      let ov ←holding [v] (eval o X.env)
      let iv ←holding [v,ov] (eval i X.env)
      standAt pos
      holding [v,ov,iv] (setItem ov iv v)
      release [v,ov,iv] []):=by intro _;rfl):PG X (.Subscript o i pos) (Hh to ti t):=by
  intro pins s σ H v u Q I r h
  rw [ha]
  refine wpAny_bind (wpAny_holding (cc (ho pins s σ H _ I h) fun ov s1 ⟨x,H1,I1,r1,q1⟩=>?_))
  refine wpAny_bind (wpAny_holding (cc (hi pins s1 σ H1 _ I1 q1) fun iv s2 ⟨y,H2,I2,r2,q2⟩=>?_))
  refine wpAny_bind (wpAny_standAt (wpAny_bind (wpAny_holding (cc (hs pins s2 σ H2 x y v ov iv u _ I2 r1 r2 r q2) fun _ s3 ⟨H3,I3,q3⟩=>?_))))
  exact wpAny_release ⟨σ,H3,I3,q3⟩
def GA(te:TE)(g:TG):TS:=fun D σ H=>te σ H fun x H1=>g x σ H1 D.nx
theorem uQ{tg e:Expr}{te:TE}{g:TG}(he:PE X e te)(hg:PG X tg g)(hs:swapsWithSole [tg] e pos.line X.env=pure false:=by rfl)(hw:swappedStores [tg] e X.env=pure none:=by rfl)
    (h1:(assignEach [tg] X.env).map (·.2)=[assign tg X.env]:=by rfl):PS X (.Assign [tg] e pos) (GA te g):=by
  intro pins s σ H D I h
  refine wpAny_Assign_stores (cc (he pins s σ H _ I h) fun v s1 ⟨x,H1,I1,r1,q1⟩=>?_) hs hw
  rw [h1]
  exact cc (hg pins s1 σ H1 x v _ I1 r1 q1) fun _ s2 q=>q
theorem zt{i:Nat}{x:Str}{e:Expr}{te:TE}{pos':Pos}(hN:X.N.Nodup)(hi:X.N[i]?=some x)(hx:Dd X.env.scope x)(he:PE X e te)(hs:swapsWith e (some (.Name x pos')) pos.line X.env=pure false:=by rfl)(hf:X.fn x=true∨X.env.scope.names.lookup x=some .local:=by first | exact .inl rfl | exact .inr rfl | assumption):
    PS X (.Assign [.Name x pos'] e pos) (GA te (CK i)):=by
  intro pins s σ H D I h
  refine wpAny_Assign_Name (cc (he pins s σ H _ I h) fun v s1 ⟨y,H1,I1,r1,q1⟩=>?_) hs
  exact lD I1 hN hi hx r1 (fun s2 I2=>⟨_,H1,I2,q1⟩) hf
def HG(i j:Nat)(ta:TA):TS:=fun D σ H=>ta σ H fun vs H1=>∃v w,vs=[v,w]∧D.nx ((σ.set i (some v)).set j (some w)) H1
theorem Eg{i j:Nat}{x y:Str}{a b:Expr}{ta:TA}{px py pt:Pos}{kt k2 pt2}(hc:X.calm=true)(hN:X.N.Nodup)(hi:X.N[i]?=some x)(hj:X.N[j]?=some y)(hij:i≠j)
    (hx:X.env.scope.names.lookup x=some .local)(hy:X.env.scope.names.lookup y=some .local)(ha:PA X [a,b] ta)
    (hw:swappedStores [.Tuple [.Name x px,.Name y py] kt pt] (.Tuple [a,b] k2 pt2) X.env=pure (some [x,y]))
    (hs:swapsWithSole [.Tuple [.Name x px,.Name y py] kt pt] (.Tuple [a,b] k2 pt2) pos.line X.env=pure false:=by rfl):
    PS X (.Assign [.Tuple [.Name x px,.Name y py] kt pt] (.Tuple [a,b] k2 pt2) pos) (HG i j ta):=by
  intro pins s σ H D I h
  rw [exec_Assign_arm]
  refine wpAny_bind (wpAny_standAt ?_)
  rw [hs]
  refine wpAny_bind (wpAny_pure ?_)
  rw [if_neg (by decide)]
  refine wpAny_bind (Tuple_ (cc (ha _ pins s σ H _ I h) fun us s1 ⟨vs,H1,I1,r1,q1⟩=>?_))
  obtain⟨v,w,e1,q1⟩:=q1
  subst e1
  obtain⟨u1,u2,rfl,rv,rw'⟩:∃u1 u2,us=[u1,u2]∧bA v u1∧bA w u2:=by
    cases r1 with
    | cons p q=>
      cases q with
      | cons p' q'=>
        cases q'
        exact⟨_,_,rfl,p,p'⟩
  refine wpAny_newObj_type ?_ (by show 2≤sizeLine;decide)
  have I2:aE X pins σ H1 {s1 with heap:=s1.heap.push {cls:=.type "tuple",data:=.seq [u1,u2].toArray}}:=I1.kept (t':=s1.toks) fun b o e=>Heap.get?_push_of_some _ e
  rw [hw]
  refine wpAny_bind (wpAny_pure ?_)
  show wpAny (model X.prog X.w) X.A (do rule "assign.swapped-stores";let items ←unpackItems (.ref s1.heap.objs.size) 2 none;assignInOrder [fun v=>bindName X.env y v,fun v=>bindName X.env x v] items.reverse;pure Flow.next) _ _ _
  refine wpAny_bind (wpAny_rule (wpAny_bind (unpackItems_tuple (items:=#[u1,u2]) (I.ok.hd hc) (IsTup.new s1.heap _) fun h' hx'=>?_)))
  have I3:=I2.kept (h':=h') (t':=s1.toks) fun b o e=>hx' b o (Nat.ne_of_lt (Heap.lt_size e)) e
  show wpAny _ _ (assignInOrder [fun v=>bindName X.env y v,fun v=>bindName X.env x v] [u2,u1] >>= fun _=>pure Flow.next) _ _ _
  refine wpAny_bind (assignInOrder_cons (wpAny_bindName (lD I3 hN hj (.inl hy) rw' (fun s2 I4=>?_) (.inr hy))))
  refine assignInOrder_cons (wpAny_bindName (lD I4 hN hi (.inl hx) rv (fun s3 I5=>assignInOrder_nil (wpAny_pure ?_)) (.inr hx)))
  rw [List.set_comm _ _ (Ne.symm hij)] at I5
  exact⟨_,H1,I5,q1⟩
end
section
variable{X:Cx}{pos:Pos}
def ER(c:TT)(tb:TS):TS:=fun D σ H=>∃W:Nat→St→Hp→Prop,(∃m,W m σ H)∧∀m σ H,W m σ H→
  c σ H fun b H1=>if b=true then ∃N:St→Hp→Prop,(∀σ' H',N σ' H'→∃m',m' < m∧W m' σ' H')∧tb {D with nx:=N,ct:=N,bk:=D.nx} σ H1 else D.nx σ H1
theorem zu{c:Expr}{body:List Stmt}{tc:TT}{tb:TS}(hp:PassesOwn (model X.prog X.w) X.A X.env X.xe)(hc:PT X c tc)(hb:mQ X body tb):PS X (.While c body [] pos) (ER tc tb):=by
  intro pins s σ H D I h
  obtain⟨W,⟨m0,w0⟩,turn⟩:=h
  refine wpAny_While (codeAny_whileLoop (fun n s'=>∃σ' H',aE X pins σ' H' s'∧W n σ' H') ?_ m0 ⟨σ,H,I,w0⟩)
  rintro n s1 ⟨σ1,H1,I1,w1⟩
  refine wpAny_passesOwn hp (cc (hc pins s1 σ1 H1 _ I1 (turn n σ1 H1 w1)) fun b s2 ⟨H2,I2,q2⟩=>?_)
  cases b with
  | true=>
    obtain⟨N,hN,q2⟩:=q2
    rw [if_pos rfl]
    refine wpAny_passesOwn hp (cc (hb pins s2 σ1 H2 _ I2 q2) fun f s3 q3=>?_)
    cases f with
    | next=>
      obtain⟨σ3,H3,I3,n3⟩:=q3
      obtain⟨m',hm,w3⟩:=hN σ3 H3 n3
      exact⟨m',hm,σ3,H3,I3,w3⟩
    | cont=>
      obtain⟨σ3,H3,I3,n3⟩:=q3
      obtain⟨m',hm,w3⟩:=hN σ3 H3 n3
      exact⟨m',hm,σ3,H3,I3,w3⟩
    | brk=>exact q3
    | ret v=>exact q3
  | false=>
    rw [if_neg Bool.false_ne_true]
    exact wpAny_execs_nil ⟨σ1,H2,I2,q2⟩
end
structure It where
  go:Nat→Hp→Prop
  yld:Nat→Hp→V→Hp→Prop
  stop:Nat→Hp→Prop
def iu(X:Cx)(pins:List (Addr × Obj))(H:Hp)(b:Addr):Prop:=
  H b=none∧b≠X.env.locals∧b∉X.fs∧(b∈X.ex∨X.s₀.heap.objs.size≤b)∧(∀x c,X.env.cells.lookup x=some c→c≠b)∧∀p∈X.pn++pins,p.1≠b
theorem aE.fpOk{X:Cx}{pins:List (Addr × Obj)}{σ:St}{H H':Hp}{s:Shared}{b:Addr}(I:aE X pins σ H s)(hb:s.heap.objs.size≤b)(hn:H' b=none):iu X pins H' b:=by
  refine⟨hn,Nat.ne_of_gt (Nat.lt_of_lt_of_le I.lt hb),I.nofs hb,.inr (Nat.le_trans I.sz hb),fun x c e z=>?_,fun p hp z=>?_⟩
  · obtain⟨v,q⟩:=I.cell x c e
    exact absurd (Nat.lt_of_lt_of_le q.lt (by rw [z];exact hb)) (Nat.lt_irrefl _)
  · exact absurd (Nat.lt_of_lt_of_le (Heap.lt_size (I.pin p hp).1) (by rw [z];exact hb)) (Nat.lt_irrefl _)
structure oR (P:Program) (w:World) (K:PySem.W.Frag) (tg:Expr) (J:It) (fp:List Addr) (it:Addr) (tn:Nat→Heap→Prop):Prop where
  mem:it∈fp
  obj:∀i h,tn i h→∀b∈fp,∃o,h.get? b=some o∧∀v,o.data≠.cell v
  keep:∀i h h',tn i h→(∀b∈fp,∀o,h.get? b=some o→h'.get? b=some o)→tn i h'
  item:∀(X:Cx),X.prog=P→X.w=w→X.K=K→X.calm=true→∀(i:Nat) (pins:List (Addr × Obj)) (s:Shared) (σ:St) (H:Hp) (E:Value→Shared→Prop),aE X pins σ H s→(∀b∈fp,iu X pins H b)→tn i s.heap→J.go i H→
    wpAny (model P w) X.A (pyNext (.ref it)) (fun r s1=>∃u,r=some u∧
      wpAny (model P w) X.A (letOwnedTupleGo tg (.ref it) u) (fun _ s2=>∃x H',aE X pins σ H' s2∧bA x u∧J.yld i H x H'∧tn (i+1) s2.heap∧∀b∈fp,H' b=none) E s1) E s
  done:∀(X:Cx),X.prog=P→X.w=w→X.K=K→X.calm=true→∀(i:Nat) (pins:List (Addr × Obj)) (s:Shared) (σ:St) (H:Hp) (E:Value→Shared→Prop),aE X pins σ H s→(∀b∈fp,iu X pins H b)→tn i s.heap→J.stop i H→
    wpAny (model P w) X.A (pyNext (.ref it)) (fun r s1=>r=none∧aE X pins σ H s1) E s
  self:∀(A:Around) (i:Nat) (s:Shared) (Q:Value→Shared→Prop) (E:Value→Shared→Prop),tn i s.heap→Q (.ref it) s→wpAny (model P w) A (pyIter (.ref it)) Q E s
abbrev TI:=St→Hp→(It→Hp→Prop)→Prop
def HM(X:Cx)(pins:List (Addr × Obj))(σ:St)(tg:Expr)(R:It→Hp→Prop)(itv:Value)(s2:Shared):Prop:=
  ∃(it:Addr) (fp:List Addr) (tn:Nat→Heap→Prop) (J:It) (H':Hp),itv=.ref it∧aE X pins σ H' s2∧oR X.prog X.w X.K tg J fp it tn∧tn 0 s2.heap∧(∀b∈fp,iu X pins H' b)∧R J H'
def PI(X:Cx)(tg iter:Expr)(wi:TI):Prop:=
  ∀(pins:List (Addr × Obj)) (s:Shared) (σ:St) (H:Hp) (R:It→Hp→Prop),aE X pins σ H s→wi σ H R→
    wpAny (model X.prog X.w) X.A (eval iter X.env) (fun v s1=>wpAny (model X.prog X.w) X.A (pyIter v) (HM X pins σ tg R) X.xe s1) X.xe s
theorem yv{M:Model}{A:Around}{E:Value→Shared→Prop}{s:Shared}{tg:Expr}{it:Addr}{u:Value}{o:Obj}{n:String}{vs:Array Value}{Q:Unit→Shared→Prop}(ho:s.heap.get? it=some o)(hc:o.cls=.type n)(hd:o.data=.fields vs)
    (hn:["enumerate","zip","dict_itemiterator","dict_reverseitemiterator","odict_iterator","itertools.zip_longest","itertools.pairwise"].contains n=false)(hQ:Q () s):wpAny M A (letOwnedTupleGo tg (.ref it) u) Q E s:=by
  unfold letOwnedTupleGo
  cases tg<;>first
    | exact wpAny_pure hQ
    | (cases u<;>first
        | exact wpAny_pure hQ
        | (refine wpAny_bind (wpAny_load ho ?_)
           rw [hc,hd]
           show wpAny M A (if (["enumerate","zip","dict_itemiterator","dict_reverseitemiterator","odict_iterator","itertools.zip_longest","itertools.pairwise"].contains n&&vs[0]?==some (rawInt _))=true then _ else _) Q E s
           rw [if_neg (by intro h;rw [hn,Bool.false_and] at h;cases h)]
           exact wpAny_pure hQ))
def G7(K:PySem.W.Frag)(a:Addr):It:=
  ⟨fun i H=>∃xs x,cP K H a xs∧xs[i]?=some x,fun i H x H'=>H'=H∧∀xs,cP K H a xs→xs[i]?=some x,fun i H=>∃xs,cP K H a xs∧xs.length≤i⟩
def G8(K:PySem.W.Frag)(a:Addr):It:=
  ⟨fun i H=>∃xs x,bR K H a xs∧xs[i]?=some x,fun i H x H'=>H'=H∧∀xs,bR K H a xs→xs[i]?=some x,fun i H=>∃xs,bR K H a xs∧xs.length≤i⟩
def GS(lo:Int)(n:Nat):It:=⟨fun i _=>i < n,fun i H x H'=>H'=H∧x=.int (lo+i),fun i _=>n≤i⟩
theorem xD{P:Program}{w:World}{K:PySem.W.Frag}{tg:Expr}(a it:Addr):oR P w K tg (G7 K a) [it] it (fun i h=>h.IsListIter it a i) where
  mem:=by simp
  obj:=fun i h st b hb=>by
    have e:b=it:=by simpa using hb
    subst e
    obtain⟨o,e,c,d⟩:=st
    exact⟨o,e,fun v z=>by rw [d] at z;cases z⟩
  keep:=fun i h h' st k=>st.at fun o e=>k it (by simp) o e
  item:=by
    intro X hP hw hK hc i pins s σ H E I hf st hg
    subst hP hw hK
    obtain⟨xs,x,hq,hx⟩:=hg
    obtain⟨its,rv,p,hz⟩:=I.list hq
    obtain⟨u,hu,ru⟩:=rv.get hx
    obtain⟨f0,f1,f2,f3,f4,f5⟩:=hf it (by simp)
    refine wpAny_pyNext_list_item st p.isList (x:=u) (by simpa using hu) fun h' st' sb=>?_
    have I1:aE X pins σ H {s with heap:=h'}:=I.turned (t':=s.toks) (fun b o hb e=>(sb.2 b hb).trans e) f0 f1 f3 f4 f5
    obtain⟨o,e,c,d⟩:=id st'
    exact⟨u,rfl,yv (s:={s with heap:=h'}) e c d (by decide) ⟨x,H,I1,ru,⟨rfl,fun ys hy=>by rw [I.list_inj hy hq];exact hx⟩,st',fun b hb=>(hf b hb).1⟩⟩
  done:=by
    intro X hP hw hK hc i pins s σ H E I hf st hg
    subst hP hw hK
    obtain⟨xs,hq,hx⟩:=hg
    obtain⟨its,rv,p,hz⟩:=I.list hq
    obtain⟨f0,f1,f2,f3,f4,f5⟩:=hf it (by simp)
    have hl:=rv.length
    exact wpAny_pyNext_list_end (I.ok.hd hc) st p.isList (by simp;lia) fun h' eb=>⟨rfl,I.turned (t':=s.toks) (fun b o hb e=>eb b o hb e) f0 f1 f3 f4 f5⟩
  self:=fun _ _ _ _ _ st h=>wpAny_pyIter_listiter st h
theorem vb{P:Program}{w:World}{K:PySem.W.Frag}{tg:Expr}(a it:Addr):oR P w K tg (G8 K a) [it] it (fun i h=>h.IsTupleIter it a i) where
  mem:=by simp
  obj:=fun i h st b hb=>by
    have e:b=it:=by simpa using hb
    subst e
    obtain⟨o,e,c,d⟩:=st
    exact⟨o,e,fun v z=>by rw [d] at z;cases z⟩
  keep:=fun i h h' st k=>st.at fun o e=>k it (by simp) o e
  item:=by
    intro X hP hw hK hc i pins s σ H E I hf st hg
    subst hP hw hK
    obtain⟨xs,x,hq,hx⟩:=hg
    obtain⟨its,rv,p,hz⟩:=I.tuple hq
    obtain⟨u,hu,ru⟩:=rv.get hx
    obtain⟨f0,f1,f2,f3,f4,f5⟩:=hf it (by simp)
    refine wpAny_pyNext_tuple_item st (show s.heap.IsTuple a its.toArray from p) (x:=u) (by simpa using hu) fun h' st' sb=>?_
    have I1:aE X pins σ H {s with heap:=h'}:=I.turned (t':=s.toks) (fun b o hb e=>(sb.2 b hb).trans e) f0 f1 f3 f4 f5
    obtain⟨o,e,c,d⟩:=id st'
    exact⟨u,rfl,yv (s:={s with heap:=h'}) e c d (by decide) ⟨x,H,I1,ru,⟨rfl,fun ys hy=>by rw [I.tuple_inj hy hq];exact hx⟩,st',fun b hb=>(hf b hb).1⟩⟩
  done:=by
    intro X hP hw hK hc i pins s σ H E I hf st hg
    subst hP hw hK
    obtain⟨xs,hq,hx⟩:=hg
    obtain⟨its,rv,p,hz⟩:=I.tuple hq
    obtain⟨f0,f1,f2,f3,f4,f5⟩:=hf it (by simp)
    have hl:=rv.length
    exact wpAny_pyNext_tuple_end (I.ok.hd hc) st (show s.heap.IsTuple a its.toArray from p) (by simp;lia) fun h' eb=>⟨rfl,I.turned (t':=s.toks) (fun b o hb e=>eb b o hb e) f0 f1 f3 f4 f5⟩
  self:=fun _ _ _ _ _ st h=>wpAny_pyIter_tupleiter st h
theorem va{P:Program}{w:World}{K:PySem.W.Frag}{tg:Expr}(it:Addr)(lo:Int)(n:Nat):oR P w K tg (GS lo n) [it] it (fun i h=>IsRangeIter h it (lo+(i:Nat)*1) ((n:Int) - (i:Nat)) 1) where
  mem:=by simp
  obj:=fun i h st b hb=>by
    have e:b=it:=by simpa using hb
    subst e
    exact⟨_,st,fun v z=>by
      have z':Data.fields _=Data.cell v:=z
      cases z'⟩
  keep:=fun i h h' st k=>k it (by simp) _ st
  item:=by
    intro X hP hw hK hc i pins s σ H E I hf st hg
    subst hP hw hK
    obtain⟨f0,f1,f2,f3,f4,f5⟩:=hf it (by simp)
    have W:=Walks.range (prog:=X.prog) (w:=X.w) (I.ok.hd hc) it lo 1 n
    refine W.item i s _ _ hg st fun v h' tk hv st' kk=>?_
    obtain⟨t,rfl⟩:=hv
    have I1:aE X pins σ H {s with heap:=h',toks:=tk}:=I.turned (fun b o hb e=>kk b o (by simpa using hb) e) f0 f1 f3 f4 f5
    refine⟨_,rfl,yv (s:={s with heap:=h',toks:=tk}) (n:="range_iterator") st' rfl rfl (by decide) ⟨.int (lo+i),H,I1,⟨t,?_⟩,⟨rfl,rfl⟩,st',fun b hb=>(hf b hb).1⟩⟩
    rw [Int.mul_one]
  done:=by
    intro X hP hw hK hc i pins s σ H E I hf st hg
    subst hP hw hK
    obtain⟨f0,f1,f2,f3,f4,f5⟩:=hf it (by simp)
    exact wpAny_pyNext_range_end (I.ok.hd hc) st (by have:n≤i:=hg;lia) fun h' eb=>⟨rfl,I.turned (t':=s.toks) (fun b o hb e=>eb b o hb e) f0 f1 f3 f4 f5⟩
  self:=fun _ _ _ _ _ st h=>wpAny_pyIter_rangeiter st h
end L2
namespace L2
open PySem PySem.Spec PyProof.Rows
section
variable{X:Cx}{tg:Expr}
def CM(K:PySem.W.Frag)(tl:TE):TI:=fun σ H R=>tl σ H fun x H1=>∃a,x=.ref a∧(∃xs,cP K H1 a xs)∧R (G7 K a) H1
def FD(K:PySem.W.Frag)(tl:TE):TI:=fun σ H R=>tl σ H fun x H1=>∃a,x=.ref a∧(∃xs,bR K H1 a xs)∧R (G8 K a) H1
theorem BE{l:Expr}{tl:TE}(hl:PE X l tl):PI X tg l (CM X.K tl):=by
  intro pins s σ H R I h
  refine cc (hl pins s σ H _ I h) fun v s1 ⟨x,H1,I1,r1,q1⟩=>?_
  obtain⟨a,e,⟨xs,hq⟩,q⟩:=q1
  subst e
  cases r1
  obtain⟨its,rv,p,hz⟩:=I1.list hq
  refine wpAny_pyIter_list p.isList ?_
  refine⟨s1.heap.objs.size,[s1.heap.objs.size],_,_,H1,rfl,I1.kept (t':=s1.toks) fun b o e=>Heap.get?_push_of_some _ e,xD a _,⟨_,Heap.get?_push_size _ rfl,rfl,rfl⟩,fun b hb=>?_,q⟩
  have e:b=s1.heap.objs.size:=by simpa using hb
  subst e
  exact I1.fpOk (Nat.le_refl _) (I1.hok.fresh (Nat.le_refl _))
theorem Ed{l:Expr}{tl:TE}(hl:PE X l tl):PI X tg l (FD X.K tl):=by
  intro pins s σ H R I h
  refine cc (hl pins s σ H _ I h) fun v s1 ⟨x,H1,I1,r1,q1⟩=>?_
  obtain⟨a,e,⟨xs,hq⟩,q⟩:=q1
  subst e
  cases r1
  obtain⟨its,rv,p,hz⟩:=I1.tuple hq
  refine wpAny_pyIter_tuple (show s1.heap.IsTuple a its.toArray from p) ?_
  refine⟨s1.heap.objs.size,[s1.heap.objs.size],_,_,H1,rfl,I1.kept (t':=s1.toks) fun b o e=>Heap.get?_push_of_some _ e,vb a _,⟨_,Heap.get?_push_size _ rfl,rfl,rfl⟩,fun b hb=>?_,q⟩
  have e:b=s1.heap.objs.size:=by simpa using hb
  subst e
  exact I1.fpOk (Nat.le_refl _) (I1.hok.fresh (Nat.le_refl _))
theorem zK{pins:List (Addr × Obj)}{σ:St}{H:Hp}{s:Shared}{R:It→Hp→Prop}{E:Value→Shared→Prop}{lo hi:Int}{t u v:Tok}{tk:Nat}(I:aE X pins σ H s)(h1: -(2 ^ 62)≤lo)(h2:lo < 2 ^ 62)(h3: -(2 ^ 62)≤hi)(h4:hi < 2 ^ 62)
    (q:R (GS lo (hi - lo).toNat) H):wpAny (model X.prog X.w) X.A (pyIter (.ref s.heap.objs.size)) (HM X pins σ tg R) E {s with heap:=s.heap.push {cls:=.type "range",data:=.fields #[.int lo t,.int hi u,.int 1 v]},toks:=tk}:=by
  refine wpAny_pyIter_range (IsRange.new ..) (small_one h1 h2 h3 h4) ?_
  have I1:aE X pins σ H {s with heap:=s.heap.push {cls:=.type "range",data:=.fields #[.int lo t,.int hi u,.int 1 v]},toks:=tk}:=I.kept fun b o e=>Heap.get?_push_of_some _ e
  refine⟨(s.heap.push {cls:=.type "range",data:=.fields #[.int lo t,.int hi u,.int 1 v]}).objs.size,[(s.heap.push {cls:=.type "range",data:=.fields #[.int lo t,.int hi u,.int 1 v]}).objs.size],_,_,H,rfl,
    I1.kept (t':=tk) fun b o e=>Heap.get?_push_of_some _ e,va _ lo (hi - lo).toNat,?_,fun b hb=>?_,q⟩
  · have e1:lo+((0:Nat):Int)*1=lo:=by simp
    have e2:(((hi - lo).toNat:Nat):Int) - ((0:Nat):Int)=Builtin.Range.rangeSize lo hi 1:=by rw [rangeSize_one];split<;>lia
    show IsRangeIter _ _ (lo+((0:Nat):Int)*1) ((((hi - lo).toNat:Nat):Int) - ((0:Nat):Int)) 1
    rw [e1,e2]
    exact Heap.get?_push_size _ rfl
  · have e:b=(s.heap.push {cls:=.type "range",data:=.fields #[.int lo t,.int hi u,.int 1 v]}).objs.size:=by simpa using hb
    subst e
    exact I1.fpOk (Nat.le_refl _) (I1.hok.fresh (Nat.le_refl _))
def FC(ta:TA):TI:=fun σ H R=>ta σ H fun vs H1=>∃j:Int,vs=[.int j]∧ -(2 ^ 62)≤j∧j < 2 ^ 62∧R (GS 0 j.toNat) H1
theorem xi{a:Expr}{ta:TA}{p pos:Pos}(hg:Gl X "range")(hm:X.mg "range"=none)(ha:PA X [a] ta)(hs:starEach [a] X.env=[(false,eval a X.env)]:=by rfl):PI X tg (.Call (.Name "range" p) [a] [] pos) (FC ta):=by
  intro pins s σ H R I h
  refine Call_ (il I hg hm boot_range (PyProof.Rows.callWith_type1 (cc (ha pos pins s σ H _ I h) fun us s1 ⟨vs,H1,I1,r1,q1⟩=>?_) hs rfl))
  obtain⟨j,e,q1,q2,q⟩:=q1
  subst e
  cases r1 with
  | cons r rr=>
    cases rr
    obtain⟨t,rfl⟩:=r
    exact call_range_1 (zK I1 (by lia) (by lia) q1 q2 (by simpa using q))
def HC(wi:TI)(g:TG)(tb:TS):TS:=fun D σ H=>wi σ H fun J H1=>∃W:Nat→Nat→St→Hp→Prop,(∃m,W 0 m σ H1)∧∀i m σ H,W i m σ H→
  (J.stop i H∧D.nx σ H)∨(J.go i H∧∃N:St→Hp→Prop,(∀σ' H',N σ' H'→∃m',m' < m∧W (i+1) m' σ' H')∧∀x H',J.yld i H x H'→g x σ H' fun σ2 H2=>tb {D with nx:=N,ct:=N,bk:=D.nx} σ2 H2)
def ku(fp:List Addr)(h:Heap):List (Addr × Obj):=fp.filterMap fun b=>(h.get? b).map fun o=>(b,o)
theorem cK{fp:List Addr}{h:Heap}{b:Addr}{o:Obj}(hb:b∈fp)(e:h.get? b=some o):(b,o)∈ku fp h:=List.mem_filterMap.mpr ⟨b,hb,by rw [e];rfl⟩
theorem w6{fp:List Addr}{h:Heap}{p:Addr × Obj}(hp:p∈ku fp h):p.1∈fp∧h.get? p.1=some p.2:=by
  obtain⟨b,hb,e⟩:=List.mem_filterMap.mp hp
  cases q:h.get? b with
  | none=>rw [q] at e;cases e
  | some o=>
    rw [q] at e
    have e':(b,o)=p:=Option.some.inj e
    subst e'
    exact⟨hb,q⟩
theorem aE.pinned{pins:List (Addr × Obj)}{σ:St}{H:Hp}{s:Shared}{fp:List Addr}(I:aE X pins σ H s)(hf:∀b∈fp,iu X pins H b)(ho:∀b∈fp,∃o,s.heap.get? b=some o∧∀v,o.data≠.cell v):aE X (pins++ku fp s.heap) σ H s:=
  I.pins_of fun p hp=>(List.mem_append.mp hp).elim (fun z=>I.pin p (List.mem_append_right _ z)) fun z=>by
    obtain⟨hb,e⟩:=w6 z
    obtain⟨f0,f1,f2,_⟩:=hf p.1 hb
    obtain⟨o,e',d⟩:=ho p.1 hb
    rw [e] at e';cases e'
    exact⟨e,f0,f1,f2,d⟩
theorem aE.unpinned{pins pl:List (Addr × Obj)}{σ:St}{H:Hp}{s:Shared}(I:aE X (pins++pl) σ H s):aE X pins σ H s:=I.pins_of fun p hp=>I.pin p (List.mem_append_right _ (List.mem_append_left _ hp))
theorem Ef{iter:Expr}{body:List Stmt}{wi:TI}{g:TG}{tb:TS}{pos:Pos}(hp:PassesOwn (model X.prog X.w) X.A X.env X.xe)(hc:X.calm=true)(hi:PI X tg iter wi)(hg:PG X tg g)(hb:mQ X body tb)
    (hs:∀x,foldedSetIterable iter X.env x=pure x:=by intro _;rfl):PS X (.For tg iter body [] pos) (HC wi g tb):=by
  intro pins s σ H D I h
  refine wpAny_For (cc (hi pins s σ H _ I h) fun v s1 h1=>cc h1 fun itv s2 h2=>?_) hs
  obtain⟨it,fp,tn,J,H2,e,I2,T,st2,f2,W,⟨m0,w0⟩,turn⟩:=h2
  subst e
  have stat:∀{H':Hp},(∀b∈fp,H' b=none)→∀b∈fp,iu X pins H' b:=fun hn b hb=>⟨hn b hb,(f2 b hb).2⟩
  refine codeAny_forLoop_any (fun n s'=>∃i σ' H',aE X pins σ' H' s'∧tn i s'.heap∧(∀b∈fp,H' b=none)∧W i n σ' H') ?_ m0 ⟨0,σ,H2,I2,st2,fun b hb=>(f2 b hb).1,w0⟩
  rintro n s3 ⟨i,σ3,H3,I3,st3,fr3,w3⟩
  rcases turn i n σ3 H3 w3 with ⟨stop,qn⟩ | ⟨go,N,hN,step⟩
  · refine wpAny_passesOwn hp (cc (T.done X rfl rfl rfl hc i pins s3 σ3 H3 X.xe I3 (stat fr3) st3 stop) fun r s4 ⟨hr,I4⟩=>?_)
    subst hr
    exact wpAny_execs_nil ⟨σ3,H3,I4,qn⟩
  · refine wpAny_passesOwn hp (cc (T.item X rfl rfl rfl hc i pins s3 σ3 H3 X.xe I3 (stat fr3) st3 go) fun r s4 ⟨u,hr,h4⟩=>?_)
    subst hr
    refine wpAny_passesOwn hp (cc h4 fun _ s5 ⟨x,H5,I5,r5,y5,st5,fr5⟩=>?_)
    have I5':=I5.pinned (stat fr5) (T.obj _ _ st5)
    refine wpAny_passesOwn hp (cc (hg _ s5 σ3 H5 x u _ I5' r5 (step x H5 y5)) fun _ s6 ⟨σ6,H6,I6,q6⟩=>?_)
    refine wpAny_passesOwn hp (cc (hb _ s6 σ6 H6 _ I6 q6) fun f s7 q7=>?_)
    have again:∀{σ7:St} {H7:Hp},aE X (pins++ku fp s5.heap) σ7 H7 s7→N σ7 H7→∃m,m < n∧∃i σ' H',aE X pins σ' H' s7∧tn i s7.heap∧(∀b∈fp,H' b=none)∧W i m σ' H':=fun{σ7 H7} I7 n7=>by
      obtain⟨m',hm,w7⟩:=hN σ7 H7 n7
      refine⟨m',hm,i+1,σ7,H7,I7.unpinned,T.keep _ _ _ st5 fun b hb o e=>(I7.pin (b,o) (List.mem_append_right _ (List.mem_append_right _ (cK hb e)))).1,fun b hb=>?_,w7⟩
      obtain⟨o,e,d⟩:=T.obj _ _ st5 b hb
      exact(I7.pin (b,o) (List.mem_append_right _ (List.mem_append_right _ (cK hb e)))).2.1
    cases f with
    | next=>obtain⟨σ7,H7,I7,n7⟩:=q7;exact again I7 n7
    | cont=>obtain⟨σ7,H7,I7,n7⟩:=q7;exact again I7 n7
    | brk=>obtain⟨σ7,H7,I7,q7⟩:=q7;exact⟨σ7,H7,I7.unpinned,q7⟩
    | ret v=>obtain⟨x7,σ7,H7,I7,r7,q7⟩:=q7;exact⟨x7,σ7,H7,I7.unpinned,r7,q7⟩
end
end L2
namespace L2
open PySem PySem.Spec PyProof.Rows
abbrev R2:=V→V→Hp→VK→Prop
def ix(X:Cx)(f:Value→Value→Sem Value)(r:R2):Prop:=
  ∀(pins:List (Addr × Obj)) (s:Shared) (σ:St) (H:Hp) (x y:V) (v u:Value) (Q:VK),aE X pins σ H s→bA x v→bA y u→r x y H Q→
    wpAny (model X.prog X.w) X.A (f v u) (EP X pins σ Q) X.xe s
def GX(X:Cx)(f:Value→Sem Value)(r:V→Hp→VK→Prop):Prop:=
  ∀(pins:List (Addr × Obj)) (s:Shared) (σ:St) (H:Hp) (x:V) (v:Value) (Q:VK),aE X pins σ H s→bA x v→r x H Q→
    wpAny (model X.prog X.w) X.A (f v) (EP X pins σ Q) X.xe s
def df(X:Cx)(f:Value)(r:List V→Hp→VK→Prop):Prop:=
  ∀(pins:List (Addr × Obj)) (s:Shared) (σ:St) (H:Hp) (xs:List V) (us:List Value) (Q:VK),aE X pins σ H s→aQ xs us→r xs H Q→
    wpAny (model X.prog X.w) X.A (call f us) (EP X pins σ Q) X.xe s
def GG(r:R2)(ta tb:TE):TE:=fun σ H Q=>ta σ H fun x H1=>tb σ H1 fun y H2=>r x y H2 Q
def HW(r:V→Hp→VK→Prop)(ta:TE):TE:=fun σ H Q=>ta σ H fun x H1=>r x H1 Q
def rI(C:Int→Int→Prop)(g:Int→Int→V):R2:=fun x y H Q=>∃i j,x=.int i∧y=.int j∧C i j∧Q (g i j) H
def xl(g:Int→Int→V):R2:=fun x y H Q=>∃i j,x=.int i∧y=.int j∧Q (g i j) H
def rU(g:Int→V):V→Hp→VK→Prop:=fun x H Q=>∃i,x=.int i∧Q (g i) H
section
variable{X:Cx}{a b c:Expr}{ta tb tc:TE}{pos:Pos}
theorem Dh(ha:PE X a ta)(hb:PE X b tb){pins:List (Addr × Obj)}{s:Shared}{σ:St}{H:Hp}{R:V→V→Hp→Prop}(I:aE X pins σ H s)
    (h:ta σ H fun x H1=>tb σ H1 fun y H2=>R x y H2){Q:Value→Shared→Prop}{f:Value→Value→Sem Value}
    (hf:∀v u s2 x y H2,aE X pins σ H2 s2→bA x v→bA y u→R x y H2→wpAny (model X.prog X.w) X.A (f v u) Q X.xe s2):
    wpAny (model X.prog X.w) X.A (eval a X.env) (fun v s₁=>wpAny (model X.prog X.w) X.A (eval b X.env) (fun u s₂=>wpAny (model X.prog X.w) X.A (f v u) Q X.xe s₂) X.xe s₁) X.xe s:=by
  refine cc (ha pins s σ H _ I h) fun v s1 ⟨x,H1,I1,r1,q1⟩=>?_
  refine cc (hb pins s1 σ H1 _ I1 q1) fun u s2 ⟨y,H2,I2,r2,q2⟩=>?_
  exact hf v u s2 x y H2 I2 r1 r2 q2
theorem CV{op:Operator}{r:R2}(ho:ix X (binaryOp op) r)(ha:PE X a ta)(hb:PE X b tb):PE X (.BinOp a op b pos) (GG r ta tb):=by
  intro pins s σ H Q I h
  exact wpAny_BinOp (Dh ha hb I h fun v u s2 x y H2 I2 rx ry q=>ho pins s2 σ H2 x y v u Q I2 rx ry q)
theorem Gc{op:UnaryOp}{r:V→Hp→VK→Prop}(ho:GX X (unaryOp op) r)(ha:PE X a ta):PE X (.UnaryOp op a pos) (HW r ta):=by
  intro pins s σ H Q I h
  exact UnaryOp_ (cc (ha pins s σ H _ I h) fun v s1 ⟨x,H1,I1,r1,q1⟩=>ho pins s1 σ H1 x v Q I1 r1 q1)
theorem FX{f:Value→Value→Sem Value}{C:Int→Int→Prop}{g:Int→Int→Int}
    (rule:∀(i j:Int) (t u:Tok) (s:Shared) (Q:Value→Shared→Prop) (E:Value→Shared→Prop),C i j→Q (.int (g i j) s.toks) {s with toks:=s.toks+1}→wpAny (model X.prog X.w) X.A (f (.int i t) (.int j u)) Q E s):
    ix X f (rI C fun i j=>.int (g i j)):=by
  intro pins s σ H x y v u Q I rx ry h
  obtain⟨i,j,rfl,rfl,hc,q⟩:=h
  obtain⟨t,rfl⟩:=rx
  obtain⟨t',rfl⟩:=ry
  exact rule i j t t' s _ _ hc ⟨.int (g i j),H,I.tok _,⟨_,rfl⟩,q⟩
theorem FY{f:Value→Value→Sem Value}{g:Int→Int→Int}
    (rule:∀(i j:Int) (t u:Tok) (s:Shared) (Q:Value→Shared→Prop) (E:Value→Shared→Prop),Q (.int (g i j) s.toks) {s with toks:=s.toks+1}→wpAny (model X.prog X.w) X.A (f (.int i t) (.int j u)) Q E s):
    ix X f (xl fun i j=>.int (g i j)):=by
  intro pins s σ H x y v u Q I rx ry h
  obtain⟨i,j,rfl,rfl,q⟩:=h
  obtain⟨t,rfl⟩:=rx
  obtain⟨t',rfl⟩:=ry
  exact rule i j t t' s _ _ ⟨.int (g i j),H,I.tok _,⟨_,rfl⟩,q⟩
theorem DV{f:Value→Value→Sem Value}{g:Int→Int→Bool}
    (rule:∀(i j:Int) (t u:Tok) (s:Shared) (Q:Value→Shared→Prop) (E:Value→Shared→Prop),Q (.bool (g i j)) s→wpAny (model X.prog X.w) X.A (f (.int i t) (.int j u)) Q E s):
    ix X f (xl fun i j=>.bl (g i j)):=by
  intro pins s σ H x y v u Q I rx ry h
  obtain⟨i,j,rfl,rfl,q⟩:=h
  obtain⟨t,rfl⟩:=rx
  obtain⟨t',rfl⟩:=ry
  exact rule i j t t' s _ _ ⟨.bl (g i j),H,I,rfl,q⟩
def C_(i j:Int):Prop:=0≤j∧j≤1000000∧i.natAbs < 2 ^ 64
def Av(i j:Int):Prop:=(-(2 ^ 64) < i∧i < 2 ^ 64)∨(-(2 ^ 64) < j∧j < 2 ^ 64)
theorem Av.ok{i j:Int}(h:Av i j):IntMulOk i j:=by
  rcases h with ⟨h1,h2⟩ | ⟨h1,h2⟩
  · exact .of_left (intBits_le_64 h1 h2)
  · exact .of_right (intBits_le_64 h1 h2)
theorem yW:ix X (binaryOp .Add) (xl fun i j=>.int (i+j)):=FY fun _ _ _ _ _ _ _ q=>add_int q
theorem D7:ix X (binaryOp .Sub) (xl fun i j=>.int (i - j)):=FY fun _ _ _ _ _ _ _ q=>sub_int q
theorem D3:ix X (binaryOp .Mult) (rI Av fun i j=>.int (i*j)):=FX fun _ _ _ _ _ _ _ hc q=>mul_int q hc.ok
theorem Bn:ix X (binaryOp .Mod) (rI (fun _ j=>j≠0) fun i j=>.int (i.fmod j)):=FX fun _ _ _ _ _ _ _ hc q=>mod_int' hc q
theorem D5:ix X (binaryOp .Pow) (rI C_ fun i j=>.int (i ^ j.toNat)):=FX fun _ _ _ _ _ _ _ hc q=>pow_int_small hc.1 hc.2.1 hc.2.2 q
theorem Ip{f:Value→Sem Value}{g:Int→Int}
    (rule:∀(i:Int) (t:Tok) (s:Shared) (Q:Value→Shared→Prop) (E:Value→Shared→Prop),Q (.int (g i) s.toks) {s with toks:=s.toks+1}→wpAny (model X.prog X.w) X.A (f (.int i t)) Q E s):
    GX X f (rU fun i=>.int (g i)):=by
  intro pins s σ H x v Q I rx h
  obtain⟨i,rfl,q⟩:=h
  obtain⟨t,rfl⟩:=rx
  exact rule i t s _ _ ⟨.int (g i),H,I.tok _,⟨_,rfl⟩,q⟩
theorem E2:GX X (unaryOp .USub) (rU fun i=>.int (-i)):=Ip fun _ _ _ _ _ q=>neg_int q
end
section
variable{X:Cx}{a b c:Expr}{ta tb tc:TE}{pos:Pos}
theorem yj{pins:List (Addr × Obj)}{σ:St}{H:Hp}{s:Shared}{Q:VK}{k k':Bool}(I:aE X pins σ H s)(q:Q (.bl k) H)(e:k=k'):EP X pins σ Q (.bool k') s:=by
  subst e
  exact⟨.bl k,H,I,rfl,q⟩
theorem F_:ix X (compareOp .Lt) (xl fun i j=>.bl (decide (i < j))):=DV fun _ _ _ _ _ _ _ q=>lt_int q
theorem F8:ix X (compareOp .Gt) (xl fun i j=>.bl (decide (j < i))):=DV fun _ _ _ _ _ _ _ q=>gt_int q
theorem FZ:ix X (compareOp .GtE) (xl fun i j=>.bl (decide (j≤i))):=DV fun _ _ _ _ _ _ _ q=>ge_int q
theorem D2:ix X (compareOp .Is) (fun x y H Q=>y=.non∧Q (.bl (decide (x=.non))) H):=by
  intro pins s σ H x y v u Q I rx ry h
  obtain⟨rfl,q⟩:=h
  cases ry
  refine is_none_gen (yj I q ?_)
  cases x<;>first
    | (cases rx;rfl)
    | (obtain⟨t,rfl⟩:=rx;rfl)
theorem Br:ix X (compareOp .IsNot) (fun x y H Q=>y=.non∧Q (.bl (!decide (x=.non))) H):=by
  intro pins s σ H x y v u Q I rx ry h
  obtain⟨rfl,q⟩:=h
  cases ry
  refine isnot_none_gen (yj I q ?_)
  cases x<;>first
    | (cases rx;rfl)
    | (obtain⟨t,rfl⟩:=rx;rfl)
theorem ix.or{f:Value→Value→Sem Value}{r r':R2}(h:ix X f r)(h':ix X f r'):ix X f (fun x y H Q=>r x y H Q∨r' x y H Q):=by
  intro pins s σ H x y v u Q I rx ry q
  rcases q with q | q
  · exact h pins s σ H x y v u Q I rx ry q
  · exact h' pins s σ H x y v u Q I rx ry q
theorem aU(b:Expr){op:CmpOp}(h:op≠.In:=by decide)(h2:op≠.NotIn:=by decide):behindInMarks op b=false:=by
  have e1:(op==CmpOp.In)=false:=by cases op<;>first | rfl | exact absurd rfl h
  have e2:(op==CmpOp.NotIn)=false:=by cases op<;>first | rfl | exact absurd rfl h2
  cases b<;>simp [behindInMarks,e1,e2]
theorem Bx{op:CmpOp}{r:R2}(ho:ix X (compareOp op) r)(ha:PE X a ta)(hb:PE X b tb)(hm:behindInMarks op b=false):PE X (.Compare a [op] [b] pos) (GG r ta tb):=by
  intro pins s σ H Q I h
  exact wpAny_Compare1 (Dh ha hb I h fun v u s2 x y H2 I2 rx ry q=>ho pins s2 σ H2 x y v u Q I2 rx ry q) hm
def GJ(t:TE):TT:=fun σ H Q=>t σ H fun x H'=>∃k,x=.bl k∧Q k H'
theorem BP{op:CmpOp}{r:R2}(ho:ix X (compareOp op) r)(ha:PE X a ta)(hb:PE X b tb)(hm:behindInMarks op b=false):PT X (.Compare a [op] [b] pos) (GJ (GG r ta tb)):=by
  intro pins s σ H Q I h
  refine wpAny_isTrue_Compare1 (cc (ha pins s σ H _ I h) fun v s1 ⟨x,H1,I1,r1,q1⟩=>cc (hb pins s1 σ H1 _ I1 q1) fun u s2 ⟨y,H2,I2,r2,q2⟩=>
    cc (ho pins s2 σ H2 x y v u _ I2 r1 r2 q2) fun c s3 ⟨z,H3,I3,r3,k,e,q3⟩=>?_) hm
  subst e
  cases r3
  exact wpAny_truthy_bool ⟨H3,I3,q3⟩
theorem qU:(sizeLine:Nat) < 2 ^ 63:=by rw [sizeLine_eq];decide
theorem qh{x:V}{us:List Value}(r:aQ [x] us):∃u,us=[u]∧bA x u:=by
  cases r with
  | cons r1 r2=>cases r2;exact⟨_,rfl,r1⟩
theorem C8{x y:V}{us:List Value}(r:aQ [x,y] us):∃u w',us=[u,w']∧bA x u∧bA y w':=by
  cases r with
  | cons r1 r2=>
    cases r2 with
    | cons r3 r4=>cases r4;exact⟨_,_,rfl,r1,r3⟩
theorem yc:df X (.builtin "abs") (fun xs H Q=>∃i,xs=[.int i]∧Q (.int (if i < 0 then -i else i)) H):=by
  intro pins s σ H xs us Q I r h
  obtain⟨i,rfl,q⟩:=h
  obtain⟨u,rfl,t,rfl⟩:=qh r
  exact call_abs_int fun u tk=>⟨.int (if i < 0 then -i else i),H,I.tok _,⟨_,rfl⟩,q⟩
theorem wD(hc:X.calm=true):df X (.builtin "max") (fun xs H Q=>∃i j,xs=[.int i,.int j]∧Q (.int (if j > i then j else i)) H):=by
  intro pins s σ H xs us Q I r h
  obtain⟨i,j,rfl,q⟩:=h
  obtain⟨u,w',rfl,⟨t,rfl⟩,⟨t',rfl⟩⟩:=C8 r
  refine max_two_ints (I.ok.hd hc) fun h' tk k=>⟨_,H,I.kept k,?_,q⟩
  by_cases hj:j > i
  · rw [if_pos hj,if_pos hj];exact⟨_,rfl⟩
  · rw [if_neg hj,if_neg hj];exact⟨_,rfl⟩
theorem wF(hc:X.calm=true):df X (.builtin "min") (fun xs H Q=>∃i j,xs=[.int i,.int j]∧Q (.int (if j < i then j else i)) H):=by
  intro pins s σ H xs us Q I r h
  obtain⟨i,j,rfl,q⟩:=h
  obtain⟨u,w',rfl,⟨t,rfl⟩,⟨t',rfl⟩⟩:=C8 r
  refine min_two_ints (I.ok.hd hc) fun h' tk k=>⟨_,H,I.kept k,?_,q⟩
  by_cases hj:j < i
  · rw [if_pos hj,if_pos hj];exact⟨_,rfl⟩
  · rw [if_neg hj,if_neg hj];exact⟨_,rfl⟩
theorem wB:df X (.type "int") (fun xs H Q=>(∃i,xs=[.int i]∧Q (.int i) H)∨∃k,xs=[.bl k]∧Q (.int (if k then 1 else 0)) H):=by
  intro pins s σ H xs us Q I r h
  rcases h with ⟨i,rfl,q⟩ | ⟨k,rfl,q⟩
  · obtain⟨u,rfl,t,rfl⟩:=qh r
    exact call_int_int ⟨.int i,H,I,⟨_,rfl⟩,q⟩
  · obtain⟨u,rfl,r1⟩:=qh r
    cases r1
    exact call_int_bool ⟨.int (if k then 1 else 0),H,I.tok _,⟨_,rfl⟩,q⟩
end
end L2
namespace L2
open PySem PySem.Spec PyProof.Rows
structure Ib (h:Heap) (x dx C:Addr) (mA:Str→Option Value):Prop where
  obj:h.get? x=some (PySem.W.instObj C dx)
  ns:h.Ns1 dx mA
  ne:dx≠x
section
variable{prog:Program}{w:World}{A:Around}{E:Value→Shared→Prop}{s:Shared}{K:PySem.W.Frag}{x dx C f:Addr}{mA:Str→Option Value}{name:Str}{v:Value}
end
section
variable{P:Program}{w:World}{H H':Hp}{h h':Heap}{a C dx:Addr}{fs fs':List (Str × V)}
end
structure HZ (K:PySem.W.Frag) (C:Addr):Prop where
  pg:PySem.W.plainGet K C Str.empty=true
  hd:PySem.W.hasDictIn K C=true
  po:PySem.W.plainOver K C=true
  sa:PySem.W.findIn K (.ref C) "__setattr__"=some (some (.builtin "object.__setattr__"))
structure Iq (K:PySem.W.Frag) (C:Addr) (f:Str) (v:V) (u:Value):Prop where
  at_:PySem.W.findIn K (.ref C) f=some (some u)
  rel:bA v u
  get:PySem.W.specialIn K u "__get__"=some none
  cp:PySem.W.copiedNames.contains f=false
structure Ia (K:PySem.W.Frag) (C:Addr) (m:Str) (f:Addr):Prop where
  at_:PySem.W.findIn K (.ref C) m=some (some (.ref f))
  fn:PySem.W.isFn K (.ref f)=true
  kp:PySem.W.keepIn K (.ref f)=true
section
variable{X:Cx}{pins:List (Addr × Obj)}{σ:St}{H:Hp}{s:Shared}{a C dx:Addr}{fs:List (Str × V)}{f:Str}{v:V}{A:Around}{E:Value→Shared→Prop}
end
section
variable{X:Cx}{o e value:Expr}{f:Str}{pos pos' tpos:Pos}{ta tv:TE}
end
section
variable{X:Cx}{pins:List (Addr × Obj)}{σ:St}{H:Hp}{s:Shared}{A:Around}{E:Value→Shared→Prop}{Q:Value→Shared→Prop}{c:Value}{b:Bool}
inductive ni (K:PySem.W.Frag) (H:Hp):V→Value→Prop where
  | non:ni K H .non (.type "NoneType")
  | bl (x:Bool):ni K H (.bl x) (.type "bool")
  | int (i:Int):ni K H (.int i) (.type "int")
  | str (x:Str):ni K H (.str x) (.type "str")
  | flt (x:UInt64):ni K H (.flt x) (.type "float")
  | lst {a:Addr} {xs:List V} (e:H a=some (.lst xs)):ni K H (.ref a) (.type "list")
  | frz {a:Addr} {o:Obj} {xs:List V} (e:H a=some (.frz o (.lst xs))):ni K H (.ref a) (.type "list")
  | tup {a:Addr} {xs:List V} (e:H a=some (.tup xs)):ni K H (.ref a) (.type "tuple")
  | dK {a:Addr} {kvs:List (iw × V)} (e:H a=some (.dK kvs)):ni K H (.ref a) (.type "dict")
  | dT {a:Addr} {kvs:List (List iw × V)} (e:H a=some (.dT kvs)):ni K H (.ref a) (.type "dict")
  | ins {a C dx:Addr} {fs:List (Str × V)} (e:H a=some (.ins C dx fs)) (cl:HZ K C) (ha:PySem.W.findIn K (.ref C) "__class__"=some (some (.builtin "object.__class__")))
      (hn:PySem.W.specialIn K (.builtin "object.__class__") "__get__"=some (some (.builtin "getset_descriptor.__get__"))) (htk:PySem.W.takesIn K (.builtin "object.__class__")=some true)
      (hm:PySem.W.mroIn K C (.type "object")=some true):ni K H (.ref a) (.ref C)
end
end L2
namespace L2
open PySem PySem.Spec PyProof.Rows
structure du (k:Nat) (A:Around):Prop where
  hd:A.handled=none
  dp:A.depth+3*k+5 < recursionLimit
  un:A.units+16*k+200 < cLine
  gd:A.guards=some []
theorem du.mono{j k:Nat}{A:Around}(r:du k A)(h:j≤k):du j A:=⟨r.hd,by have:=r.dp;lia,by have:=r.un;lia,r.gd⟩
theorem du.deeper{k:Nat}{A:Around}(r:du (k+1) A)(env:Env):du k (A.deeper env):=
  ⟨r.hd,by have:=r.dp;show A.depth+1+3*k+5 < _;lia,by have:=r.un;show A.units+3+16*k+200 < _;lia,r.gd⟩
theorem du.depth{k:Nat}{A:Around}(r:du k A):A.depth < recursionLimit:=by have:=r.dp;lia
theorem du.units{k:Nat}{A:Around}(r:du k A):A.units+64 < cLine:=by have:=r.un;lia
def EQ:TA:=fun _ H Q=>Q [] H
def tV(ta:TE)(tr:TA):TA:=fun σ H Q=>ta σ H fun x H1=>tr σ H1 fun xs H2=>Q (x::xs) H2
section
variable{X:Cx}{e:Expr}{es:List Expr}{te:TE}{t:TA}{pos:Pos}
theorem lZ:PA X [] EQ:=fun _ _ _ _ H Q I h=>Calls.spliced_nil ⟨[],H,I,.nil,h⟩
theorem rq(ha:PE X e te)(hr:PA X es t)(hs:starEach (e::es) X.env=(false,eval e X.env)::starEach es X.env:=by rfl):PA X (e::es) (tV te t):=by
  intro pos pins s σ H Q I h
  rw [hs]
  show wpAny _ _ (spliced ((false,eval e X.env)::backTo pos (starEach es X.env))) _ _ s
  refine Calls.spliced_cons (cc (ha pins s σ H _ I h) fun u s1 ⟨x,H1,I1,r1,q1⟩=>?_)
  exact cc (hr pos pins s1 σ H1 _ I1 q1) fun us s2 ⟨xs,H2,I2,r2,q2⟩=>⟨x::xs,H2,I2,.cons r1 r2,q2⟩
def GK(t:TA):TE:=fun σ H Q=>t σ H fun xs H1=>xs.length≤sizeLine∧∀p,H1 p=none→Q (.ref p) (a' H1 p (.tup xs))
def HE(t:TA):TE:=fun σ H Q=>t σ H fun xs H1=>xs.length≤sizeLine∧∀p,H1 p=none→Q (.ref p) (a' H1 p (.lst xs))
theorem Eb{x1}(h:PA X es t):PE X (.Tuple es x1 pos) (GK t):=by
  intro pins s σ H Q I hq
  refine wpAny_Tuple_spliced (cc (h pos pins s σ H _ I hq) fun us s1 ⟨xs,H1,I1,r,z,q⟩=>⟨by rw [←r.length];exact z,?_⟩)
  have hf:H1 s1.heap.objs.size=none:=I1.hok.fresh (Nat.le_refl _)
  refine⟨.ref s1.heap.objs.size,a' H1 s1.heap.objs.size (.tup xs),I1.laid (t':=s1.toks) (fun b u e=>Heap.get?_push_of_some _ e) (Nat.le_refl _) ?_,rfl,q _ hf⟩
  exact⟨z,us,r,⟨_,Heap.get?_push_size _ rfl,rfl,_,rfl⟩⟩
theorem y6(h:PA X es t):PE X (.List es pos) (HE t):=by
  intro pins s σ H Q I hq
  refine wpAny_List_spliced (cc (h pos pins s σ H _ I hq) fun us s1 ⟨xs,H1,I1,r,z,q⟩=>⟨by rw [←r.length];exact z,?_⟩)
  have hf:H1 s1.heap.objs.size=none:=I1.hok.fresh (Nat.le_refl _)
  refine⟨.ref s1.heap.objs.size,a' H1 s1.heap.objs.size (.lst xs),I1.laid (t':=s1.toks) (fun b u e=>Heap.get?_push_of_some _ e) (Nat.le_refl _) ?_,rfl,q _ hf⟩
  exact⟨z,us,0,r,Heap.get?_push_size _ rfl⟩
end
abbrev Sp:=List V→Hp→VK→XK→Prop
abbrev ww:=List Env→Hp→Shared→XK→Value→Shared→Prop
structure Aw (P:Program) (w:World) (K:PySem.W.Frag) (mg:Str→Option Value) (base:Heap) (A:Around) (outer:List Env) (s:Shared) (H:Hp):Prop where
  frames:A.frames=some outer
  mod:Mod K mg base
  bs:∀b o,base.get? b=some o→s.heap.get? b=some o∧H b=none
  bsz:base.objs.size≤s.heap.objs.size
  funs:s.heap.FunFrames base outer
  frf:∀b∈yl outer,H b=none
  hok:me P w H s.heap
  bare:AllBare s.gens
def CE(outer:List Env)(P:Program)(w:World)(H:Hp)(s:Shared)(Q:VK)(u:Value)(s':Shared):Prop:=
  ∃v H',s'.os=s.os∧AllBare s'.gens∧Un (yl outer) [] H H' s.heap s'.heap∧me P w H' s'.heap∧bA v u∧Q v H'
def CR(CX:ww)(outer:List Env)(P:Program)(w:World)(H:Hp)(s:Shared)(Q:VK)(E:XK)(r:Result)(s':Shared):Prop:=
  match r with
  | .ok (.ret u)=>CE outer P w H s Q u s'
  | .ok _=>False
  | .error e=>CX outer H s E e s'
structure aM (P:Program) (w:World) (K:PySem.W.Frag) (mg:Str→Option Value) (base:Heap) (CX:ww) (k:Nat) (f:Addr) (fd:FuncData) (ps:List Str) (sp:Sp):Prop where
  len:∀vs H Q E,sp vs H Q E→vs.length=ps.length
  run:∀(A:Around) (outer:List Env) (s:Shared) (H:Hp) (args:Args) (us:List Value) (vs:List V) (Q:VK) (E:XK),du k A→Aw P w K mg base A outer s H→BindsTo s fd args (ps.zip us)→aQ vs us→sp vs H Q E→
    codeAny (model P w) A (.call (.ref f) args) (CR CX outer P w H s Q E) s
section
variable{X:Cx}{pins:List (Addr × Obj)}{σ:St}{H:Hp}{s s':Shared}
theorem aE.env0(I:aE X pins σ H s):Aw X.prog X.w X.K X.mg X.base X.A X.stack s H:=
  ⟨I.ok.frames,I.ok.mod,I.bs,Nat.le_trans I.ok.bsz I.sz,I.stack,I.stkFree,I.hok,I.bare⟩
theorem aE.after{Q:VK}{u:Value}(I:aE X pins σ H s)(h:CE X.stack X.prog X.w H s Q u s'):EP X pins σ Q u s':=by
  obtain⟨v,H',os,bare,un,hok,r,q⟩:=h
  obtain⟨hh,g,d,t,os'⟩:=s'
  obtain rfl:os'=s.os:=os
  exact⟨v,H',I.call (h':=hh) (g':=g) (d':=d) (t':=t) (ch:=[]) un hok bare (fun b z=>absurd z (by simp)),r,q⟩
end
def z0(sp:Sp)(dvs:List V)(E:XK)(t:TA):TE:=fun σ H Q=>t σ H fun vs H1=>sp (vs++dvs) H1 Q E
def pb(K:PySem.W.Frag)(fd:FuncData)(ps:List Str)(ds:List Value):Prop:=
  ∀(s:Shared) (us:List Value),K.In s.heap→(us++ds).length=ps.length→BindsTo s fd ⟨us,[]⟩ (ps.zip (us++ds))
theorem pb.all{K:PySem.W.Frag}{fd:FuncData}{ps:List Str}(h:∀us:List Value,us.length=ps.length→bindArgs fd ⟨us,[]⟩=pure (ps.zip us)):pb K fd ps []:=fun s us _ hl=>by
  rw [List.append_nil] at hl ⊢
  exact .of_eq (h us hl)
def uj(CX:ww)(X:Cx)(E:XK):Prop:=∀(pins:List (Addr × Obj)) (σ:St) (H:Hp) (s:Shared) (e:Value) (s':Shared),aE X pins σ H s→CX X.stack H s E e s'→X.xe e s'
section
variable{X:Cx}{CX:ww}{k:Nat}{f C:Addr}{fd:FuncData}{ps:List Str}{sp:Sp}{dvs:List V}{ds:List Value}{E:XK}{x m:Str}{p pos apos:Pos}{e o:Expr}{es:List Expr}{ta:TE}{t:TA}
theorem EH{pins:List (Addr × Obj)}{σ:St}{H:Hp}{s:Shared}{Q:VK}{us:List Value}{vs:List V}(F:aM X.prog X.w X.K X.mg X.base CX k f fd ps sp)(hr:du k X.A)(hb:pb X.K fd ps ds)(hd:aQ dvs ds)(hx:uj CX X E)
    (I:aE X pins σ H s)(r:aQ vs us)(h:sp (vs++dvs) H Q E):wpAny (model X.prog X.w) X.A (call (.ref f) us) (EP X pins σ Q) X.xe s:=by
  have r2:aQ (vs++dvs) (us++ds):=r.append hd
  have hl:(us++ds).length=ps.length:=by rw [←r2.length];exact F.len _ _ _ _ h
  refine wpAny_call (codeAny_mono (F.run X.A X.stack s H ⟨us,[]⟩ (us++ds) (vs++dvs) Q E hr I.env0 (hb s us I.kIn hl) r2 h) fun r s' hq=>?_)
  cases r with
  | error e=>exact hx pins σ H s e s' I hq
  | ok fl=>
    cases fl with
    | ret u=>exact I.after hq
    | next=>exact False.elim hq
    | brk=>exact False.elim hq
    | cont=>exact False.elim hq
theorem Bw(F:aM X.prog X.w X.K X.mg X.base CX k f fd ps sp)(hr:du k X.A)(hg:Gl X x)(hm:X.mg x=some (.ref f))(hk:PySem.W.keepIn X.K (.ref f)=true)(hb:pb X.K fd ps ds)(hd:aQ dvs ds)(hx:uj CX X E)
    (ha:PA X (e::es) t)(hdb:(x==("__debug__":Str))=false:=by decide)(he:starEach (e::es) X.env=(false,eval e X.env)::starEach es X.env:=by rfl)(hpl:(backTo pos (starEach es X.env)).any (·.1)=false:=by rfl):
    PE X (.Call (.Name x p) (e::es) [] pos) (z0 sp dvs E t):=by
  intro pins s σ H Q I h
  refine wpAny_Call_Name_kw (vR I hg hm ?_ hdb)
  refine PySem.W.callWith_K (h₀:=X.base) I.ok.mod.kin hk (cc (ha pos pins s σ H _ I h) fun us s1 ⟨vs,H1,I1,r,q⟩=>⟨I1.kIn,?_⟩) he hpl
  exact EH F hr hb hd hx I1 r q
structure Mk (K:PySem.W.Frag) (C f:Addr):Prop where
  makes:PySem.W.makesIn K C=true
  init:PySem.W.findIn K (.ref C) "__init__"=some (some (.ref f))
  fn:PySem.W.isFn K (.ref f)=true
  kp:PySem.W.keepIn K (.ref C)=true
end
section
variable{X:Cx}{CX:ww}{k:Nat}{f C:Addr}{fd:FuncData}{ps ks:List Str}{sp:Sp}{E:XK}{x m:Str}{p pos apos kpos:Pos}{e o:Expr}{es:List Expr}{kws:List Keyword}{te ta:TE}{t tk:TA}{nm:Option Str}
structure G9 (K:PySem.W.Frag) (fd:FuncData) (ps ks:List Str) (g:List Value→List Value→List Value) (gV:List V→List V→List V):Prop where
  to:∀(s:Shared) (us ws:List Value),K.In s.heap→(g us ws).length=ps.length→BindsTo s fd ⟨us,ks.zip ws⟩ (ps.zip (g us ws))
  rel:∀{vs:List V} {us:List Value} {zs:List V} {ws:List Value},aQ vs us→aQ zs ws→aQ (gV vs zs) (g us ws)
variable{g:List Value→List Value→List Value}{gV:List V→List V→List V}
end
structure aG (N P:List Str) (sc:Scope):Prop where
  kind:sc.kind=.function
  co:sc.isCoroutine=false
  gen:sc.isGenerator=false
  nd:N.Nodup
  pre:N.take P.length=P
  par:∀x∈P,sc.names.lookup x=some .local∨sc.names.lookup x=some .cell
  nofree:∀y∈sc.names,y.2≠.free
theorem pC{kindOf:Str→Option NameKind}{x:Str}:∀{binds:List (Str × Value)} {m:Str→Option Value},(∀v,(x,v)∉binds)→bindL kindOf binds m x=m x
  | [],_,_=>rfl
  | (n,v)::r,m,h=>by
    unfold bindL
    rw [pC fun w hw=>h w (List.mem_cons_of_mem _ hw)]
    split
    · have:x≠n:=by rintro rfl;exact h v List.mem_cons_self
      simp [this]
    · rfl
theorem pA{kindOf:Str→Option NameKind}{x:Str}:∀{binds:List (Str × Value)} {m:Str→Option Value},(∀v,(x,v)∉binds)→bindC kindOf binds m x=m x
  | [],_,_=>rfl
  | (n,v)::r,m,h=>by
    unfold bindC
    rw [pA fun w hw=>h w (List.mem_cons_of_mem _ hw)]
    split
    · rfl
    · have:x≠n:=by rintro rfl;exact h v List.mem_cons_self
      simp [this]
theorem pB{kindOf:Str→Option NameKind}{x:Str}{v:Value}:∀{P:List Str} {vs:List Value} {i:Nat} {m:Str→Option Value},P.Nodup→P[i]?=some x→vs[i]?=some v→kindOf x=some .local→
    bindL kindOf (P.zip vs) m x=some v
  | [],_,_,_,_,h,_,_=>by simp at h
  | _::_,[],_,_,_,_,h,_=>by simp at h
  | p::P,w::vs,0,m,nd,h1,h2,hk=>by
    simp at h1 h2;subst h1;subst h2
    show bindL kindOf ((p,w)::P.zip vs) m p=_
    unfold bindL
    rw [pC fun v hv=>(List.nodup_cons.mp nd).1 (List.of_mem_zip hv).1,if_pos hk]
    simp
  | p::P,w::vs,i+1,m,nd,h1,h2,hk=>by
    show bindL kindOf ((p,w)::P.zip vs) m x=_
    unfold bindL
    exact pB (i:=i) (List.nodup_cons.mp nd).2 (by simpa using h1) (by simpa using h2) hk
theorem pv{kindOf:Str→Option NameKind}{x:Str}{v:Value}:∀{P:List Str} {vs:List Value} {i:Nat} {m:Str→Option Value},P.Nodup→P[i]?=some x→vs[i]?=some v→kindOf x≠some .local→
    bindC kindOf (P.zip vs) m x=some v
  | [],_,_,_,_,h,_,_=>by simp at h
  | _::_,[],_,_,_,_,h,_=>by simp at h
  | p::P,w::vs,0,m,nd,h1,h2,hk=>by
    simp at h1 h2;subst h1;subst h2
    show bindC kindOf ((p,w)::P.zip vs) m p=_
    unfold bindC
    rw [pA fun v hv=>(List.nodup_cons.mp nd).1 (List.of_mem_zip hv).1,if_neg hk]
    simp
  | p::P,w::vs,i+1,m,nd,h1,h2,hk=>by
    show bindC kindOf ((p,w)::P.zip vs) m x=_
    unfold bindC
    exact pv (i:=i) (List.nodup_cons.mp nd).2 (by simpa using h1) (by simpa using h2) hk
def fy(N:List Str)(vs:List V):St:=vs.map some++List.replicate (N.length - vs.length) none
def ur(CX:ww)(P:Program)(w:World)(K:PySem.W.Frag)(mg:Str→Option Value)(base:Heap)(N:List Str)(qual:Str)(scope:Scope)(f:Addr)(cd:Value)(A:Around)(outer:List Env)(s:Shared)(H:Hp)(E:XK):Cx where
  prog:=P
  w:=w
  K:=K
  mg:=mg
  base:=base
  A:=A.deeper (envOfC qual scope s.heap.objs.size f cd)
  N:=N
  s₀:=s
  H₀:=H
  env:=envOfC qual scope s.heap.objs.size f cd
  outer:=outer
  stack:=envOfC qual scope s.heap.objs.size f cd::outer
  ex:=[]
  calm:=true
  fn:=fun _=>true
  pn:=[]
  xe:=fun e s'=>wpAny (model P w) (A.deeper (envOfC qual scope s.heap.objs.size f cd)) (leaving (envOfC qual scope s.heap.objs.size f cd) e) (fun _ s''=>CX outer H s E e s'') (fun e' s''=>CX outer H s E e' s'') s'
theorem r_{sc:Scope}{n:Nat}{x:Str}(h:sc.names.lookup x=some .cell):∃c,(cellsFrom n sc.names []).lookup x=some c:=by
  have q:=PySem.W.cellsFrom_some sc.names n [] (.inl h)
  exact Option.isSome_iff_exists.mp q
theorem wN{CX:ww}{P:Program}{w:World}{K:PySem.W.Frag}{mg:Str→Option Value}{base:Heap}{N ps:List Str}{qual:Str}{scope:Scope}{f:Addr}{cd:Value}{A:Around}{outer:List Env}{s s1:Shared}{H:Hp}{E:XK}{us:List Value}{vs:List V}
    (S:aG N ps scope)(hd:A.handled=none)(e0:Aw P w K mg base A outer s H)(hl:vs.length=ps.length)(r:aQ vs us)
    (x:InCallC s s.heap.objs.size (bindL (envOfC qual scope s.heap.objs.size f cd).kindOf (ps.zip us) fun _=>none) (cellsFrom (s.heap.objs.size+1) scope.names []) (bindC (envOfC qual scope s.heap.objs.size f cd).kindOf (ps.zip us) fun _=>none) s1):
    aE (ur CX P w K mg base N qual scope f cd A outer s H E) [] (fy N vs) H s1:=by
  have hpl:ps.length≤N.length:=by have:=congrArg List.length S.pre;rw [List.length_take] at this;lia
  obtain⟨h1,tk,rfl,hk⟩:=x.done
  have noA:∀b:Addr,b∉(ur CX P w K mg base N qual scope f cd A outer s H E).ex:=fun b z=>absurd (show b∈([]:List Addr) from z) (by simp)
  refine⟨⟨e0.mod,S.kind,rfl,rfl,Nat.le_refl _,fun y z c h1 h2=>?_,fun y hy=>?_,fun y c _ h=>?_,fun _=>hd,Around.frames_deeper e0.frames,.inr ⟨rfl,rfl⟩,fun b z=>absurd z (noA b),e0.bs,e0.bsz,fun b _ _=>noA b,fun b z=>absurd z (noA b),e0.funs,e0.frf⟩,
    rfl,e0.bare,Un.kept hk,⟨_,x.toInCall.ns,fun i y v h1 h2 h3=>?_⟩,fun y c h=>⟨_,x.cell y c h⟩,e0.hok.fresh (Nat.le_refl _),fun y c h=>?_,fun p hp=>absurd (show p∈([]:List (Addr × Obj)) from hp) (by simp),e0.hok.kept hk,?_⟩
  · exact name_of_addr x.apart (PySem.mem_of_lookup h1) (PySem.mem_of_lookup h2)
  · have hy:scope.names.lookup y=some .cell∨scope.names.lookup y=some .free:=hy
    rcases hy with hy | hy
    · exact r_ hy
    · exact absurd rfl (S.nofree _ (PySem.mem_of_lookup hy))
  · exact Nat.le_of_lt (x.above y c (PySem.mem_of_lookup h))
  · have hi:i < vs.length:=by
      unfold fy at h2
      by_cases hi:i < vs.length
      · exact hi
      · rw [List.getElem?_append_right (by simpa using hi)] at h2
        rw [List.getElem?_replicate] at h2
        split at h2<;>cases h2
    have ha:vs[i]?=some v:=by
      unfold fy at h2
      rw [List.getElem?_append_left (by simpa using hi),List.getElem?_map] at h2
      cases e:vs[i]? with
      | none=>rw [e] at h2;cases h2
      | some a=>rw [e] at h2;cases h2;rfl
    obtain⟨u,hu,rv⟩:=r.get ha
    have hp:ps[i]?=some y:=by
      rw [←S.pre,List.getElem?_take_of_lt (by lia)];exact h1
    have ndP:ps.Nodup:=by rw [←S.pre];exact S.nd.sublist (List.take_sublist _ _)
    refine⟨u,rv,?_⟩
    rcases S.par y (List.mem_of_getElem? hp) with k | k
    · exact .inl ⟨k,pB ndP hp hu k⟩
    · obtain⟨c,e⟩:=r_ (n:=s.heap.objs.size+1) k
      refine .inr ⟨.inl k,c,e,?_⟩
      have q:=x.cell y c e
      rw [pv ndP hp hu (by show scope.names.lookup y≠_;rw [k];decide)] at q
      exact q
  · exact e0.hok.fresh (Nat.le_of_lt (x.above y c (PySem.mem_of_lookup h)))
  · unfold fy
    show _=N.length
    rw [List.length_append,List.length_map,List.length_replicate]
    lia
theorem Fu{CX:ww}{P:Program}{w:World}{K:PySem.W.Frag}{mg:Str→Option Value}{base:Heap}{k:Nat}{f:Addr}{name qual:Str}{params:Arguments}{body:List Stmt}{scope:Scope}{dV kV doc pm cdv ct oc:Value}{an od:Option Addr}
    {osl:Array (Option Value)}{N ps:List Str}{sp:Sp}(lk:K.lookup f=some ⟨oc,od,.func (PySem.W.fnOf name qual params body scope dV kV doc pm an cdv ct),osl⟩)(hcd:PySem.W.codeIn K cdv qual=true)(S:aG N ps scope)
    (len:∀vs H Q E,sp vs H Q E→vs.length=ps.length)
    (hbody:∀(A:Around) (outer:List Env) (s:Shared) (H:Hp) (vs:List V) (Q:VK) (E:XK),du k (A.deeper (envOfC qual scope s.heap.objs.size f cdv))→sp vs H Q E→
      ∃t,mQ (ur CX P w K mg base N qual scope f cdv A outer s H E) body t∧t {nx:=fun _ H'=>Q .non H',rt:=Q} (fy N vs) H):
    aM P w K mg base CX (k+1) f (PySem.W.fnOf name qual params body scope dV kV doc pm an cdv ct) ps sp:=by
  refine⟨len,fun A outer s H args us vs Q E hr e0 hb r hsp=>?_⟩
  have hl:=len _ _ _ _ hsp
  have KX:K.In s.heap:=e0.mod.kin.keeps fun b o e=>(e0.bs b o e).1
  have lim:s.heap.NoLimit:=e0.mod.nolimit.keeps fun b o e=>(e0.bs b o e).1
  have hkind:∀y∈ps.zip us,scope.names.lookup y.1=some .local∨(scope.names.lookup y.1=some .cell∧((cellsFrom (s.heap.objs.size+1) scope.names []).lookup y.1).isSome=true):=fun⟨n,v⟩ hy=>by
    rcases S.par n (List.of_mem_zip hy).1 with q | q
    · exact .inl q
    · exact .inr ⟨q,PySem.W.cellsFrom_some _ _ _ (.inl q)⟩
  refine codeAny_call_function hr.depth (KX _ _ lk) rfl S.co S.gen rfl (PySem.W.codeRec_of KX hcd) (hb _ _ _ _ ?_)
  refine wpAny_newFunctionEnv_cells S.kind hkind fun env he s1 x=>?_
  subst he
  refine⟨lim.keeps x.toInCall.keep,codeAny_func ?_⟩
  obtain⟨t,ht,hq⟩:=hbody A outer s H vs Q E (hr.deeper _) hsp
  have I:aE (ur CX P w K mg base N qual scope f cdv A outer s H E) [] (fy N vs) H s1:=wN S hr.hd e0 hl r x
  refine wpAny_mono (ht [] s1 (fy N vs) H _ I hq) (fun fl s' hs=>?_) fun e s' hs=>hs
  have fin:∀{σ':St} {H':Hp} {v:V} {u:Value},aE (ur CX P w K mg base N qual scope f cdv A outer s H E) [] σ' H' s'→bA v u→Q v H'→CE outer P w H s Q u s':=
    fun{σ' H' v u} J rv q=>⟨v,H',J.os,J.bare,J.base,J.hok,rv,q⟩
  cases fl with
  | ret u=>
    obtain⟨v,σ',H',J,rv,q⟩:=hs
    exact fin J rv q
  | next=>
    obtain⟨σ',H',J,q⟩:=hs
    exact fin (v:=V.non) (u:=Value.none) J rfl q
  | brk=>
    obtain⟨_,_,_,q⟩:=hs
    exact False.elim q
  | cont=>
    obtain⟨_,_,_,q⟩:=hs
    exact False.elim q
end L2
namespace L2
open PySem PySem.Spec PyProof.Rows
section
variable{X:Cx}{x:Str}{p pos:Pos}{e:Expr}{es:List Expr}{t:TA}{id T:String}{r:List V→Hp→VK→Prop}
def HB(r:List V→Hp→VK→Prop)(t:TA):TE:=fun σ H Q=>t σ H fun vs H1=>r vs H1 Q
theorem oi(hc:df X (.builtin id) r)(hg:Gl X x)(hm:X.mg x=none)(hv:bootBuiltins x=some (.builtin id))(ha:PA X (e::es) t)(hn:x≠"__name__":=by decide)(hdb:(x==("__debug__":Str))=false:=by decide)
    (he:starEach (e::es) X.env=(false,eval e X.env)::starEach es X.env:=by rfl)(hpl:(backTo pos (starEach es X.env)).any (·.1)=false:=by rfl):PE X (.Call (.Name x p) (e::es) [] pos) (HB r t):=by
  intro pins s σ H Q I h
  refine wpAny_Call_Name_kw (il I hg hm hv ?_ hn hdb)
  exact PyProof.Rows.callWith_builtin1 (cc (ha pos pins s σ H _ I h) fun us s1 ⟨vs,H1,I1,r1,q1⟩=>hc pins s1 σ H1 vs us Q I1 r1 q1) he hpl
theorem xh(hc:df X (.type T) r)(hg:Gl X x)(hm:X.mg x=none)(hv:bootBuiltins x=some (.type T))(ha:PA X (e::es) t)(hn:x≠"__name__":=by decide)(hdb:(x==("__debug__":Str))=false:=by decide)
    (he:starEach (e::es) X.env=(false,eval e X.env)::starEach es X.env:=by rfl)(hpl:(backTo pos (starEach es X.env)).any (·.1)=false:=by rfl):PE X (.Call (.Name x p) (e::es) [] pos) (HB r t):=by
  intro pins s σ H Q I h
  refine wpAny_Call_Name_kw (il I hg hm hv ?_ hn hdb)
  exact PyProof.Rows.callWith_type1 (cc (ha pos pins s σ H _ I h) fun us s1 ⟨vs,H1,I1,r1,q1⟩=>hc pins s1 σ H1 vs us Q I1 r1 q1) he hpl
end
end L2
namespace HT
open PySem PyProof.Rows
section
open PySem.SeqAt
open PySem.AutoSeq1 (wpAny_loadPart')
open PySem.MeetsSeq PySem.MeetsSeq2 PySem.MeetsSeq3
end
section
variable{prog:Program}{w:World}{A:Around}{E:Value→Shared→Prop}{s:Shared}
theorem cat_tup{t b:Addr}{vs ws:List Value}{Q:Value→Shared→Prop}(ht:IsTup s.heap t vs.toArray)(hb:IsTup s.heap b ws.toArray)(hv:vs≠[])
    (h1:ws=[]→Q (.ref t) s)(h2:ws≠[]→Q (.ref s.heap.objs.size) {s with heap:=s.heap.push {cls:=.type "tuple",data:=.seq (vs++ws).toArray}})
    (hsz:vs.length+ws.length≤sizeLine):wpAny (model prog w) A (binaryOp .Add (.ref t) (.ref b)) Q E s:=by
  obtain⟨⟨cls,dd,data,sl⟩,ho,hc,n,hd⟩:=id ht
  obtain⟨⟨cls2,dd2,data2,sl2⟩,ho2,hc2,n2,hd2⟩:=id hb
  simp only at hc hd hc2 hd2
  subst hc hd hc2 hd2
  have e:vs.toArray++ws.toArray=(vs++ws).toArray:=by simp
  by_cases hw:ws=[]
  · exact concat_meets ⟨_,ho,rfl⟩ ⟨_,ho2,rfl⟩ noFill_tuple_add seq_tuple_add PySem.F.slot_tuple_add PySem.F.entry_tuple_add (PySem.F.args_tuple_add_2 _ _)
      (tuple_addW1 t b vs.toArray ws.toArray n n2 dd dd2 sl sl2 (by simpa using hv) (by simp [hw])) ⟨ho,ho2,h1 hw⟩
  · refine concat_meets ⟨_,ho,rfl⟩ ⟨_,ho2,rfl⟩ noFill_tuple_add seq_tuple_add PySem.F.slot_tuple_add PySem.F.entry_tuple_add (PySem.F.args_tuple_add_2 _ _)
      (tuple_addW2 t b vs.toArray ws.toArray n n2 dd dd2 sl sl2 (by simpa using hv) (by simpa using hw) (by rw [List.size_toArray,List.size_toArray];exact hsz)) ⟨ho,ho2,?_⟩
    rw [e]
    exact h2 hw
def sIx(n d:Nat):Option Int→Nat
  | none=>d
  | some v=>if v < 0 then(v+(n:Int)).toNat else min v.toNat n
theorem sIx_none(n d:Nat):sIx n d none=d:=rfl
theorem sIx_nat(n d k:Nat):sIx n d (some (k:Int))=min k n:=by
  show(if (k:Int) < 0 then((k:Int)+(n:Int)).toNat else min (k:Int).toNat n)=min k n
  rw [if_neg (by lia),Int.toNat_natCast]
theorem EI(n d:Nat)(hd:d≤n)(o:Option Int):sIx n d o≤n:=by
  cases o with
  | none=>exact hd
  | some v=>
    show(if v < 0 then(v+(n:Int)).toNat else min v.toNat n)≤n
    by_cases hv:v < 0
    · rw [if_pos hv];lia
    · rw [if_neg hv];exact Nat.min_le_right _ _
theorem vD(v:Int)(n d:Nat):(if v < 0 then max (v+(n:Int)) 0 else min v (n:Int))=((sIx n d (some v):Nat):Int):=by
  show(if v < 0 then max (v+(n:Int)) 0 else min v (n:Int))=(((if v < 0 then(v+(n:Int)).toNat else min v.toNat n):Nat):Int)
  by_cases hv:v < 0
  · simp only [if_pos hv];lia
  · simp only [if_neg hv];lia
theorem uk(lo hi:Option Int)(n:Nat):Builtin.Slice.sliceAdjust lo hi 1 (n:Int)=(((sIx n 0 lo:Nat):Int),((sIx n n hi:Nat):Int)):=by
  have h1:¬((1:Int) < 0):=by lia
  unfold Builtin.Slice.sliceAdjust
  simp only [h1,if_false]
  refine Prod.ext ?_ ?_
  · cases lo with
    | none=>rfl
    | some v=>exact vD v n 0
  · cases hi with
    | none=>rfl
    | some v=>exact vD v n n
theorem uO(i j:Nat):Builtin.Slice.slicePlaces (i:Int) (j:Int) 1=j - i:=by
  unfold Builtin.Slice.slicePlaces
  have h1:(1:Int) > 0:=by lia
  simp only [h1,if_true,Int.ediv_one]
  split<;>lia
theorem oH{v:Value}{o:Option Int}{Q:Option Int→Shared→Prop}(p:IsPart v o)(h:Q o s):wpAny (model prog w) A (Builtin.Slice.slicePartIndex v) Q E s:=by
  cases p with
  | none=>exact slicePart_none h
  | int i t=>exact slicePart_int h
theorem iM{sl:Addr}{vl vu:Value}{lo hi:Option Int}{n:Nat}{Q:Int × Int × Nat→Shared→Prop}(hs:s.heap.IsSliceOf sl vl vu .none)(pl:IsPart vl lo)(pu:IsPart vu hi)
    (h:Q (((sIx n 0 lo:Nat):Int),1,sIx n n hi - sIx n 0 lo) s):wpAny (model prog w) A (Builtin.Slice.sliceApplied (.ref sl) (pure (n:Int))) Q E s:=by
  obtain⟨os,hos,hcs,hds⟩:=id hs
  unfold Builtin.Slice.sliceApplied Builtin.Slice.sliceFields
  refine wpAny_bind (wpAny_bind (wpAny_field hos hds (x:=vl) rfl (wpAny_bind (wpAny_field hos hds (x:=vu) rfl (wpAny_bind (wpAny_field hos hds (x:=.none) rfl (wpAny_pure ?_)))))))
  refine wpAny_bind (slicePart_none ?_)
  show wpAny _ _ (if ((1:Int)==0)=true then _ else _) _ _ s
  rw [if_neg (by decide)]
  refine wpAny_bind (oH pl (wpAny_bind (oH pu (wpAny_bind (wpAny_pure ?_)))))
  show wpAny _ _ (match Builtin.Slice.sliceAdjust lo hi 1 (n:Int) with | (lo,hi)=>pure (lo,(1:Int),Builtin.Slice.slicePlaces lo hi 1)) _ _ s
  rw [uk lo hi n]
  show wpAny _ _ (pure (((sIx n 0 lo:Nat):Int),(1:Int),Builtin.Slice.slicePlaces ((sIx n 0 lo:Nat):Int) ((sIx n n hi:Nat):Int) 1)) _ _ s
  rw [uO]
  exact wpAny_pure h
theorem zm(xs:Array Value)(i k:Nat):((List.range k).filterMap fun(m:Nat)=>xs[((i:Int)+(m:Int)*1).toNat]?).toArray=((xs.toList.drop i).take k).toArray:=by
  have e:(fun(m:Nat)=>xs[((i:Int)+(m:Int)*1).toNat]?)=fun m=>xs[i+m]?:=by
    funext m
    have:((i:Int)+(m:Int)*1).toNat=i+m:=by lia
    rw [this]
  rw [e]
  have:=pick_run xs i k
  rw [List.filterMap_map] at this
  have e2:((fun x=>xs[x]?) ∘ fun x=>i+x)=fun m=>xs[i+m]?:=rfl
  rw [e2] at this
  rw [this]
theorem getItem_tuple_cut{t sl:Addr}{items:Array Value}{vl vu:Value}{lo hi:Option Int}{Q:Value→Shared→Prop}(ht:IsTup s.heap t items)(hs:s.heap.IsSliceOf sl vl vu .none)(pl:IsPart vl lo)(pu:IsPart vu hi)
    (hw:¬(sIx items.size 0 lo=0∧sIx items.size items.size hi=items.size))
    (h:Q (.ref s.heap.objs.size) {s with heap:=s.heap.push {cls:=.type "tuple",data:=.seq ((items.toList.drop (sIx items.size 0 lo)).take (sIx items.size items.size hi - sIx items.size 0 lo)).toArray}})
    (hsz:items.size≤sizeLine):wpAny (model prog w) A (getItem (.ref t) (.ref sl)) Q E s:=by
  have htake:sizeOk (.seq ((items.toList.drop (sIx items.size 0 lo)).take (sIx items.size items.size hi - sIx items.size 0 lo)).toArray):=by
    show((items.toList.drop (sIx items.size 0 lo)).take (sIx items.size items.size hi - sIx items.size 0 lo)).toArray.size≤sizeLine
    rw [List.size_toArray,List.length_take,List.length_drop,Array.length_toList]
    lia
  have hj:sIx items.size items.size hi≤items.size:=EI _ _ (Nat.le_refl _) hi
  obtain⟨os,hos,hcs,hds⟩:=id hs
  have hTs:s.TypeIs (.ref sl) "slice":=⟨os,hos,hcs⟩
  unfold getItem
  try with_reducible refine wpAny_holding ?_
  first | refine wpAny_bind (wpAny_pure ?_) | skip
  refine wpAny_bind (wpAny_sequenceKey ht.typeIs (by decide) ?_)
  refine wpAny_bind (wpAny_callSpecial?_slot (name:=Str.ofString "__getitem__") ht.typeIs PyProof.Rows.slot_tuple_getitem
    (wpAny_call_entry PyProof.Rows.slot_tuple_getitem ht.typeIs entry_tuple_getitem ?_ (args_tuple_getitem _ _)))
  show wpAny _ _ (Builtin.Tuple.tupleItemsOf (.ref t) >>= _) _ _ s
  refine wpAny_bind (tupleItemsOf_ ht ?_)
  refine wpAny_bind (wpAny_typeOf hTs ?_)
  rw [if_pos (by decide)]
  refine wpAny_bind (iM hs pl pu ?_)
  have hno:¬((((sIx items.size 0 lo:Nat):Int)==0&&(1:Int)==1&&(sIx items.size items.size hi - sIx items.size 0 lo)==items.size)=true):=by
    intro q
    rw [Bool.and_eq_true,Bool.and_eq_true] at q
    have q1:((sIx items.size 0 lo:Nat):Int)=0:=eq_of_beq q.1.1
    have q2:sIx items.size items.size hi - sIx items.size 0 lo=items.size:=eq_of_beq q.2
    exact hw ⟨by lia,by lia⟩
  show wpAny _ _ (if (((sIx items.size 0 lo:Nat):Int)==0&&(1:Int)==1&&(sIx items.size items.size hi - sIx items.size 0 lo)==items.size)=true then _ else _) _ _ s
  rw [if_neg hno,zm]
  first
    | exact wpAny_bind (m:=Builtin.Tuple.tupleExact _) (wpAny_newObj_type (wpAny_pure ⟨_,rfl,wpAny_pure h⟩) htake)
    | exact wpAny_bind (m:=Builtin.Tuple.tupleExact _) (wpAny_newObj_type (wpAny_bind (wpAny_pure (wpAny_pure ⟨_,rfl,wpAny_pure h⟩))) htake)
    | exact wpAny_bind (wpAny_bind (m:=Builtin.Tuple.tupleExact _) (wpAny_newObj_type (wpAny_pure (wpAny_pure ⟨_,rfl,wpAny_pure h⟩)) htake))
    | exact wpAny_bind (wpAny_bind (m:=Builtin.Tuple.tupleExact _) (wpAny_newObj_type (wpAny_pure ⟨_,rfl,wpAny_pure h⟩) htake))
end
end HT
namespace L2
open PySem PySem.Spec PyProof.Rows
abbrev TO:=St→Hp→(Option Int→Hp→Prop)→Prop
def PO(X:Cx)(e:Option Expr)(t:TO):Prop:=
  ∀(pins:List (Addr × Obj)) (s:Shared) (σ:St) (H:Hp) (Q:Option Int→Hp→Prop),aE X pins σ H s→t σ H Q→
    wpAny (model X.prog X.w) X.A (evalPart e X.env) (fun u s'=>∃o H',aE X pins σ H' s'∧IsPart u o∧Q o H') X.xe s
def B':TO:=fun _ H Q=>Q none H
def GH(t:TE):TO:=fun σ H Q=>t σ H fun x H1=>∃i,x=.int i∧Q (some i) H1
theorem uw{ns:List Int}:∀{us:List Value},aQ (ns.map V.int) us→IntsAre us ns:=by
  induction ns with
  | nil=>intro us r;rw [List.map_nil] at r;cases r;exact .nil
  | cons n ns ih=>
    intro us r
    rw [List.map_cons] at r
    cases r with
    | cons r1 r2=>
      obtain⟨t,e⟩:=r1
      subst e
      exact .cons n t (ih r2)
section
variable{X:Cx}{e:Expr}{te:TE}{lo hi:Option Expr}{tl th:TO}{pos p2:Pos}
theorem BG:PO X none B':=by
  intro pins s σ H Q I h
  rw [evalPart_none]
  exact wpAny_pure ⟨none,H,I,.none,h⟩
theorem BH(h:PE X e te):PO X (some e) (GH te):=by
  intro pins s σ H Q I hw
  rw [evalPart_some]
  refine cc (h pins s σ H _ I hw) fun u s1 ⟨x,H1,I1,r1,q1⟩=>?_
  obtain⟨i,rfl,q⟩:=q1
  obtain⟨t,rfl⟩:=r1
  exact⟨some i,H1,I1,.int i t,q⟩
def Ay(X:Cx)(r:V→Option Int→Option Int→Hp→VK→Prop):Prop:=
  ∀(pins:List (Addr × Obj)) (s:Shared) (σ:St) (H:Hp) (x:V) (v vl vu:Value) (lo hi:Option Int) (sl:Addr) (Q:VK),aE X pins σ H s→bA x v→s.heap.IsSliceOf sl vl vu .none→IsPart vl lo→IsPart vu hi→r x lo hi H Q→
    ∃T id,typeLookup (.type T) "__getitem__"=pure (some (.builtin id))∧s.TypeIs v T∧wpAny (model X.prog X.w) X.A (getItem v (.ref sl)) (EP X pins σ Q) X.xe s
theorem Ay.or{r r':V→Option Int→Option Int→Hp→VK→Prop}(h:Ay X r)(h':Ay X r'):Ay X (fun x lo hi H Q=>r x lo hi H Q∨r' x lo hi H Q):=by
  intro pins s σ H x v vl vu lo hi sl Q I rx hs pl pu q
  rcases q with q | q
  · exact h pins s σ H x v vl vu lo hi sl Q I rx hs pl pu q
  · exact h' pins s σ H x v vl vu lo hi sl Q I rx hs pl pu q
def Io(r:V→Option Int→Option Int→Hp→VK→Prop)(te:TE)(tl th:TO):TE:=fun σ H Q=>te σ H fun x H1=>tl σ H1 fun l H2=>th σ H2 fun u H3=>r x l u H3 Q
theorem y8{r:V→Option Int→Option Int→Hp→VK→Prop}(hr:Ay X r)(he:PE X e te)(hl:PO X lo tl)(hu:PO X hi th):PE X (.Subscript e (.Slice lo hi none p2) pos) (Io r te tl th):=by
  intro pins s σ H Q I h
  refine Subscript_ (cc (he pins s σ H _ I h) fun v s1 ⟨x,H1,I1,r1,q1⟩=>?_)
  refine wpAny_Slice (cc (hl pins s1 σ H1 _ I1 q1) fun vl s2 ⟨l,H2,I2,pl,q2⟩=>cc (hu pins s2 σ H2 _ I2 q2) fun vu s3 ⟨u,H3,I3,pu,q3⟩=>?_)
  rw [evalPart_none]
  refine wpAny_pure ?_
  have I4:aE X pins σ H3 {s3 with heap:=s3.heap.push {cls:=.type "slice",data:=.fields #[vl,vu,.none]}}:=I3.kept (t':=s3.toks) fun b ob q=>Heap.get?_push_of_some _ q
  obtain⟨T,id,hT,ht,hg⟩:=hr pins {s3 with heap:=s3.heap.push {cls:=.type "slice",data:=.fields #[vl,vu,.none]}} σ H3 x v vl vu l u s3.heap.objs.size Q I4 r1 (Heap.IsSliceOf.new ..) pl pu q3
  show wpAny (model X.prog X.w) X.A (subscriptTail e (.Slice lo hi none p2) v (.ref s3.heap.objs.size)) (EP X pins σ Q) X.xe {s3 with heap:=s3.heap.push {cls:=.type "slice",data:=.fields #[vl,vu,.none]}}
  exact tail_any (ops:=[.ref s3.heap.objs.size,v]) ht hT hg (by with_unfolding_all rfl)
def oW(xs:List V)(lo hi:Option Int):List V:=(xs.drop (HT.sIx xs.length 0 lo)).take (HT.sIx xs.length xs.length hi - HT.sIx xs.length 0 lo)
theorem mj(xs:List V)(lo hi:Option Int):(oW xs lo hi).length≤xs.length:=by
  unfold oW
  rw [List.length_take,List.length_drop]
  lia
def Gs(K:PySem.W.Frag):V→Option Int→Option Int→Hp→VK→Prop:=fun x lo hi H Q=>∃a xs,x=.ref a∧bR K H a xs∧
  ¬(HT.sIx xs.length 0 lo=0∧HT.sIx xs.length xs.length hi=xs.length)∧∀p,H p=none→Q (.ref p) (a' H p (.tup (oW xs lo hi)))
theorem EK:Ay X (Gs X.K):=by
  intro pins s σ H x v vl vu lo hi sl Q I rx hs pl pu h
  obtain⟨a,xs,rfl,hx,hw,q⟩:=h
  cases rx
  obtain⟨its,r,ht,hz⟩:=I.tuple hx
  have hlen:its.toArray.size=xs.length:=by rw [List.size_toArray];exact r.length.symm
  refine⟨"tuple",_,PyProof.Rows.slot_tuple_getitem.lookup,ht.typeIs,?_⟩
  refine HT.getItem_tuple_cut ht hs pl pu (by rw [hlen];exact hw) ?_ (by rw [hlen];exact hz)
  rw [hlen]
  refine⟨.ref s.heap.objs.size,_,I.laid (t':=s.toks) (o:=.tup (oW xs lo hi)) (fun b ob q=>Heap.get?_push_of_some _ q) (Nat.le_refl _) ?_,rfl,q _ (I.hok.fresh (Nat.le_refl _))⟩
  exact⟨Nat.le_trans (mj xs lo hi) hz,_,(r.drop (HT.sIx xs.length 0 lo)).take (HT.sIx xs.length xs.length hi - HT.sIx xs.length 0 lo),IsTup.new _ _⟩
def Gj(K:PySem.W.Frag):R2:=fun x y H Q=>∃a b xs ys,x=.ref a∧y=.ref b∧bR K H a xs∧bR K H b ys∧xs≠[]∧xs.length+ys.length≤sizeLine∧
  (ys=[]→Q (.ref a) H)∧(ys≠[]→∀p,H p=none→Q (.ref p) (a' H p (.tup (xs++ys))))
theorem aQ.nil_iff{xs:List V}{us:List Value}(r:aQ xs us):us=[]↔ xs=[]:=by
  cases r with
  | nil=>simp
  | cons _ _=>simp
theorem Bm:ix X (binaryOp .Add) (Gj X.K):=by
  intro pins s σ H x y v u Q I rx ry h
  obtain⟨a,b,xs,ys,rfl,rfl,ha,hb,hx,hz,q1,q2⟩:=h
  cases rx
  cases ry
  obtain⟨its,r1,p1,_⟩:=I.tuple ha
  obtain⟨its2,r2,p2,_⟩:=I.tuple hb
  refine HT.cat_tup p1 p2 (fun z=>hx (r1.nil_iff.mp z)) (fun z=>⟨.ref a,H,I,rfl,q1 (r2.nil_iff.mp z)⟩) (fun z=>?_) (by rw [←r1.length,←r2.length];exact hz)
  refine⟨.ref s.heap.objs.size,_,I.laid (t':=s.toks) (o:=.tup (xs++ys)) (fun b ob q=>Heap.get?_push_of_some _ q) (Nat.le_refl _) ?_,rfl,q2 (fun w=>z (r2.nil_iff.mpr w)) _ (I.hok.fresh (Nat.le_refl _))⟩
  exact⟨by rw [List.length_append];exact hz,_,r1.append r2,IsTup.new _ _⟩
end
end L2
namespace L2
open PySem PySem.Spec PyProof.Rows
def mT(n:Nat)(i:Int):Option Nat:=if 0≤i then(if i < n then some i.toNat else none) else if -(n:Int)≤i then some (i+n).toNat else none
def atI{α:Type}(xs:List α)(i:Int):Option α:=(mT xs.length i).bind fun j=>xs[j]?
theorem vO{n:Nat}{i:Int}{j:Nat}(h:mT n i=some j):seqIndex? i n=some j∧j < n∧ -(n:Int)≤i∧i < n:=by
  unfold mT at h
  by_cases h0:0≤i
  · rw [if_pos h0] at h
    by_cases h1:i < n
    · rw [if_pos h1] at h
      have e:i.toNat=j:=Option.some.inj h
      exact⟨by rw [seqIndex_of h0 h1,e],by lia,by lia,h1⟩
    · rw [if_neg h1] at h;cases h
  · rw [if_neg h0] at h
    by_cases h1: -(n:Int)≤i
    · rw [if_pos h1] at h
      have e:(i+n).toNat=j:=Option.some.inj h
      exact⟨by rw [seqIndex_neg (by lia) h1,e],by lia,h1,by lia⟩
    · rw [if_neg h1] at h;cases h
theorem vq{α:Type}{xs:List α}{i:Int}{v:α}(h:atI xs i=some v):∃j,seqIndex? i xs.length=some j∧xs[j]?=some v∧j < xs.length∧ -(xs.length:Int)≤i∧i < xs.length:=by
  unfold atI at h
  cases e:mT xs.length i with
  | none=>rw [e] at h;cases h
  | some j=>
    rw [e] at h
    obtain⟨h1,h2,h3,h4⟩:=vO e
    exact⟨j,h1,h,h2,h3,h4⟩
def mY(b:Expr):Prop:=∀o i,subscripted b false o i=operate [o,i] (getItem o i)
def Ao(X:Cx)(r:R2):Prop:=
  ∀(value slice:Expr) (pins:List (Addr × Obj)) (s:Shared) (σ:St) (H:Hp) (x y:V) (v u:Value) (Q:VK),aE X pins σ H s→bA x v→bA y u→r x y H Q→
    subscripted slice false v u=operate [v,u] (getItem v u)→wpAny (model X.prog X.w) X.A (subscriptTail value slice v u) (EP X pins σ Q) X.xe s
def HL(X:Cx)(id:String)(r:V→List V→Hp→VK→Prop):Prop:=
  ∀(pins:List (Addr × Obj)) (s:Shared) (σ:St) (H:Hp) (x:V) (xs:List V) (v:Value) (us:List Value) (Q:VK),aE X pins σ H s→bA x v→aQ xs us→r x xs H Q→
    wpAny (model X.prog X.w) X.A (call (.builtin id) (v::us)) (EP X pins σ Q) X.xe s
section
variable{X:Cx}{a b:Expr}{ta tb:TE}{pos:Pos}
theorem Ao.or{r r':R2}(h:Ao X r)(h':Ao X r'):Ao X (fun x y H Q=>r x y H Q∨r' x y H Q):=by
  intro value slice pins s σ H x y v u Q I rx ry q hs
  rcases q with q | q
  · exact h value slice pins s σ H x y v u Q I rx ry q hs
  · exact h' value slice pins s σ H x y v u Q I rx ry q hs
theorem CU{r:R2}(hr:Ao X r)(ha:PE X a ta)(hb:PE X b tb)(hs:mY b):PE X (.Subscript a b pos) (GG r ta tb):=by
  intro pins s σ H Q I h
  exact Subscript_ (Dh ha hb I h fun v u s2 x y H2 I2 rx ry q=>hr a b pins s2 σ H2 x y v u Q I2 rx ry q (hs _ _))
def EB(K:PySem.W.Frag):R2:=fun x y H Q=>∃p xs i v,x=.ref p∧y=.int i∧cP K H p xs∧atI xs i=some v∧Q v H
def Gp(K:PySem.W.Frag):R2:=fun x y H Q=>∃p xs i v,x=.ref p∧y=.int i∧bR K H p xs∧atI xs i=some v∧Q v H
theorem vP:Ao X (EB X.K):=by
  intro value slice pins s σ H x y v u Q I rx ry h hs
  obtain⟨p,xs,i,z,rfl,rfl,hq,he,q⟩:=h
  cases rx
  obtain⟨t,rfl⟩:=ry
  obtain⟨its,r,pl,hz⟩:=I.list hq
  obtain⟨j,h1,h2,h3,h4,h5⟩:=vq he
  obtain⟨w,ew,rw'⟩:=r.get h2
  have hl:=r.length
  have hn:=qU
  have fin:EP X pins σ Q w s:=⟨z,H,I,rw',q⟩
  by_cases h0:0≤i
  · have hj:i.toNat=j:=by
      rw [seqIndex_of h0 h5] at h1
      exact Option.some.inj h1
    exact item_listR pl.isList h0 (by lia) (by rw [hj];simpa using ew) fin hs
  · have hj:(i+(its.toArray.size:Int)).toNat=j:=by
      rw [seqIndex_neg (by lia) h4] at h1
      rw [List.size_toArray,←hl]
      exact Option.some.inj h1
    exact subscriptTail_builtinR (x:=w) pl.isList.typeIs slot_list_getitem.lookup
      (wpAny_getItem_list_neg (Q:=fun r s'=>r=w∧EP X pins σ Q r s') pl.isList (by lia) (by rw [List.size_toArray]<;>lia) (by lia) (by rw [hj];simpa using ew) ⟨rfl,fin⟩) hs
theorem Dz:Ao X (Gp X.K):=by
  intro value slice pins s σ H x y v u Q I rx ry h hs
  obtain⟨p,xs,i,z,rfl,rfl,hq,he,q⟩:=h
  cases rx
  obtain⟨t,rfl⟩:=ry
  obtain⟨its,r,pl,hz⟩:=I.tuple hq
  obtain⟨j,h1,h2,h3,h4,h5⟩:=vq he
  obtain⟨w,ew,rw'⟩:=r.get h2
  have hl:=r.length
  have hn:=qU
  have fin:EP X pins σ Q w s:=⟨z,H,I,rw',q⟩
  exact subscriptTail_builtinR (x:=w) pl.typeIs slot_tuple_getitem.lookup
    (getItem_tuple (j:=j) (Q:=fun r s'=>r=w∧EP X pins σ Q r s') pl (by lia) (by lia) (by rw [List.size_toArray,←hl];exact h1) (by simpa using ew) ⟨rfl,fin⟩) hs
theorem uG(its:List Value)(n j:Nat)(u:Value):Obj.mapSeq (·.setIfInBounds j u) {cls:=.type "list",data:=.seq its.toArray n}={cls:=.type "list",data:=.seq (its.set j u).toArray n}:=by
  simp [Obj.mapSeq]
theorem aE.lst{pins:List (Addr × Obj)}{σ:St}{H:Hp}{s:Shared}{p:Addr}{xs:List V}(I:aE X pins σ H s)(h:H p=some (.lst xs)):
    ∃(its:List Value) (n:Nat),aQ xs its∧s.heap.get? p=some {cls:=.type "list",data:=.seq its.toArray n}∧xs.length≤sizeLine:=by
  obtain⟨z,its,n,r,e⟩:=I.hok p _ h
  exact⟨its,n,r,e,z⟩
theorem aE.lstUpd{pins:List (Addr × Obj)}{σ:St}{H:Hp}{s:Shared}{p:Addr}{xs ys:List V}{its its':List Value}{n n':Nat}{f:Obj→Obj}(I:aE X pins σ H s)(h:H p=some (.lst xs))
    (ho:s.heap.get? p=some {cls:=.type "list",data:=.seq its.toArray n})(hf:f {cls:=.type "list",data:=.seq its.toArray n}={cls:=.type "list",data:=.seq its'.toArray n'})(r:aQ ys its')(hz:ys.length≤sizeLine)(t:Nat):
    aE X pins σ (a' H p (.lst ys)) {s with heap:=s.heap.update p f,toks:=t}:=by
  have e:(s.heap.update p f).get? p=some {cls:=.type "list",data:=.seq its'.toArray n'}:=by
    rw [Heap.get?_update_self f ho (by rw [hf]<;>rfl),hf]
  refine I.write (x:=p) (e:=p) (by rw [h];trivial) (.inl rfl) (fun b u hb q=>(Heap.get?_update_other _ _ (Ne.symm hb)).trans q) ⟨_,e⟩ ?_
  exact⟨hz,its',n',r,e⟩
def Gq:V→V→V→Hp→(Hp→Prop)→Prop:=fun o i v H Q=>∃p xs k j,o=.ref p∧i=.int k∧H p=some (.lst xs)∧mT xs.length k=some j∧Q (a' H p (.lst (xs.set j v)))
theorem tT:Fe X Gq:=by
  intro pins s σ H o i v ov iv u Q I ro ri rv h
  obtain⟨p,xs,k,j,rfl,rfl,hp,hj,q⟩:=h
  cases ro
  obtain⟨t,rfl⟩:=ri
  obtain⟨its,n,r,ho,hz⟩:=I.lst hp
  obtain⟨h1,h2,h3,h4⟩:=vO hj
  have hl:=r.length
  have hn:=qU
  have I':aE X pins σ (a' H p (.lst (xs.set j v))) {s with heap:=s.heap.update p (Obj.mapSeq (·.setIfInBounds j u))}:=
    I.lstUpd hp ho (uG its n j u) (r.set rv j) (by rw [List.length_set];exact hz) s.toks
  by_cases h0:0≤k
  · have hk:k.toNat=j:=by
      rw [seqIndex_of h0 h4] at h1
      exact Option.some.inj h1
    exact PySem.W.ki_setAt ho h0 (by lia) (by rw [List.size_toArray,←hl];exact h4) (by rw [hk];exact⟨_,I',q⟩)
  · have hk:(k+(its.toArray.size:Int)).toNat=j:=by
      rw [seqIndex_neg (by lia) h3] at h1
      rw [List.size_toArray,←hl]
      exact Option.some.inj h1
    exact PySem.W.ki_setBack ho (by lia) (by rw [List.size_toArray,←hl];exact h3) (by lia) (by rw [hk];exact⟨_,I',q⟩)
theorem rO(lo hi:Option Int)(n:Nat):(sliceBounds lo hi none n).1=((HT.sIx n 0 lo:Nat):Int)∧(sliceBounds lo hi none n).2.1=((HT.sIx n n hi:Nat):Int)∧(sliceBounds lo hi none n).2.2=1:=by
  refine⟨?_,?_,rfl⟩
  · cases lo with
    | none=>simp [sliceBounds,HT.sIx]
    | some i=>
      simp only [sliceBounds,HT.sIx,Option.getD_none,show(1:Int) > 0 by decide,if_true]
      by_cases h:i < 0
      · simp only [h,if_true]<;>lia
      · simp only [h,if_false]<;>lia
  · cases hi with
    | none=>simp [sliceBounds,HT.sIx]
    | some i=>
      simp only [sliceBounds,HT.sIx,Option.getD_none,show(1:Int) > 0 by decide,if_true]
      by_cases h:i < 0
      · simp only [h,if_true]<;>lia
      · simp only [h,if_false]<;>lia
theorem o8(its:List Value)(lo hi:Option Int):slicePick its.toArray lo hi none=((its.drop (HT.sIx its.length 0 lo)).take (HT.sIx its.length its.length hi - HT.sIx its.length 0 lo)).toArray:=by
  obtain⟨h1,h2,h3⟩:=rO lo hi its.toArray.size
  unfold slicePick
  rw [h1,h2,h3]
  simp only [sliceRange_one,pick_run,List.size_toArray]<;>rfl
def Gr(K:PySem.W.Frag):V→Option Int→Option Int→Hp→VK→Prop:=fun x lo hi H Q=>∃a xs,x=.ref a∧cP K H a xs∧∀p,H p=none→Q (.ref p) (a' H p (.lst (oW xs lo hi)))
theorem B7:Ay X (Gr X.K):=by
  intro pins s σ H x v vl vu lo hi sl Q I rx hs pl pu h
  obtain⟨a,xs,rfl,hx,q⟩:=h
  cases rx
  obtain⟨its,r,ht,hz⟩:=I.list hx
  have hlen:=r.length
  refine⟨"list",_,slot_list_getitem.lookup,ht.isList.typeIs,?_⟩
  refine wpAny_getItem_list_slice ht.isList hs pl pu .none (by simp) ?_ (by rw [List.size_toArray]<;>lia)
  rw [o8,←hlen]
  refine⟨.ref s.heap.objs.size,_,I.laid (t':=s.toks) (o:=.lst (oW xs lo hi)) (fun b ob q=>Heap.get?_push_of_some _ q) (Nat.le_refl _) ?_,rfl,q _ (I.hok.fresh (Nat.le_refl _))⟩
  exact⟨Nat.le_trans (mj xs lo hi) hz,_,0,(r.drop (HT.sIx xs.length 0 lo)).take (HT.sIx xs.length xs.length hi - HT.sIx xs.length 0 lo),Heap.get?_push_size _ rfl⟩
theorem kL:df X (.builtin "len") (fun xs H Q=>∃p ys,xs=[.ref p]∧(cP X.K H p ys∨bR X.K H p ys)∧Q (.int ys.length) H):=by
  intro pins s σ H xs us Q I r h
  obtain⟨p,ys,rfl,hq,q⟩:=h
  obtain⟨u,rfl,rx⟩:=qh r
  cases rx
  have hn:=qU
  rcases hq with hq | hq
  · obtain⟨its,r',pl,hz⟩:=I.list hq
    have hlen:=r'.length
    exact Calls.call_len_list pl.isList (by simp only [List.size_toArray]<;>lia) ⟨.int ys.length,H,I.tok _,⟨s.toks+1,by rw [List.size_toArray,hlen]⟩,q⟩
  · obtain⟨its,r',pl,hz⟩:=I.tuple hq
    have hlen:=r'.length
    exact len_tuple pl (by simp only [List.size_toArray]<;>lia) ⟨.int ys.length,H,I.tok _,⟨s.toks+1,by rw [List.size_toArray,hlen]⟩,q⟩
theorem qz:df X (.type "list") (fun xs H Q=>∃p ys,xs=[.ref p]∧(cP X.K H p ys∨bR X.K H p ys)∧∀l,H l=none→Q (.ref l) (a' H l (.lst ys))):=by
  intro pins s σ H xs us Q I r h
  obtain⟨p,ys,rfl,hq,q⟩:=h
  obtain⟨u,rfl,rx⟩:=qh r
  cases rx
  have fin:∀(its:List Value),aQ ys its→ys.length≤sizeLine→∀(h':Heap) (c':Nat),(∀b o',s.heap.get? b=some o'→h'.get? b=some o')→
      h'.get? s.heap.objs.size=some {cls:=.type "list",dict:=none,data:=.seq its.toArray c',slots:=#[]}→EP X pins σ Q (.ref s.heap.objs.size) {s with heap:=h'}:=fun its r' hz h' c' kp e=>
    ⟨.ref s.heap.objs.size,_,I.laid (t':=s.toks) kp (Nat.le_refl _) (show cU X.prog X.w _ h' _ (.lst ys) from⟨hz,its,c',r',e⟩),rfl,q _ (I.hok.fresh (Nat.le_refl _))⟩
  rcases hq with hq | hq
  · obtain⟨its,r',pl,hz⟩:=I.list hq
    have hlen:=r'.length
    obtain⟨o,ho,hc,n,hd⟩:=pl.isList
    exact call_list_seq p (.inl rfl) ho hc hd (fun h' c' kp e=>fin its r' hz h' c' kp e) (by simp only [List.size_toArray]<;>lia)
  · obtain⟨its,r',pl,hz⟩:=I.tuple hq
    have hlen:=r'.length
    obtain⟨o,ho,hc,n,hd⟩:=pl
    exact call_list_seq p (.inr rfl) ho hc hd (fun h' c' kp e=>fin its r' hz h' c' kp e) (by simp only [List.size_toArray]<;>lia)
theorem oV:df X (.type "tuple") (fun xs H Q=>∃p ys,xs=[.ref p]∧((cP X.K H p ys∧∀l,H l=none→Q (.ref l) (a' H l (.tup ys)))∨(bR X.K H p ys∧Q (.ref p) H))):=by
  intro pins s σ H xs us Q I r h
  obtain⟨p,ys,rfl,h⟩:=h
  obtain⟨u,rfl,rx⟩:=qh r
  cases rx
  rcases h with ⟨hq,q⟩ | ⟨hq,q⟩
  · obtain⟨its,r',pl,hz⟩:=I.list hq
    have hlen:=r'.length
    refine call_tuple_list pl.isList (fun h' kp=>?_) (by simp only [List.size_toArray]<;>lia)
    have I1:aE X pins σ H {s with heap:=h'}:=I.kept (t':=s.toks) kp
    have I2:aE X pins σ (a' H h'.objs.size (.tup ys)) {s with heap:=h'.push {cls:=.type "tuple",data:=.seq its.toArray}}:=
      I1.laid (t':=s.toks) (fun b o e=>Heap.get?_push_of_some _ e) (Nat.le_refl _) (show cU X.prog X.w _ _ _ (.tup ys) from⟨hz,its,r',IsTup.new _ _⟩)
    exact⟨.ref h'.objs.size,_,I2,rfl,q _ (I1.hok.fresh (Nat.le_refl _))⟩
  · obtain⟨its,r',pl,hz⟩:=I.tuple hq
    exact call_tuple_same pl ⟨.ref p,H,I,rfl,q⟩
def HX(K:PySem.W.Frag)(T:String)(x:V)(H:Hp):Prop:=match x with
  | .str _=>T="str"
  | .int _=>T="int"
  | .ref p=>(T="list"∧∃xs,cP K H p xs)∨(T="tuple"∧∃o,K.lookup p=some o∧o.cls=.type "tuple"∧o.dict=none)∨
      (T="dict"∧((∃kvs,H p=some (.dK kvs))∨∃kvs,H p=some (.dT kvs)))∨(T="set"∧∃S n,H p=some (.set S n))
  | _=>False
theorem E1{pins:List (Addr × Obj)}{σ:St}{H:Hp}{s:Shared}{T:String}{x:V}{v:Value}(I:aE X pins σ H s)(r:bA x v)(ty:HX X.K T x H):
    s.TypeIs v T∧∀a,v=.ref a→∃ob,s.heap.get? a=some ob∧ob.dict=none:=by
  cases x with
  | str z=>
    obtain⟨t,rfl⟩:=r
    cases (show T="str" from ty)
    exact⟨typeIs_str s z t,fun _ e=>nomatch e⟩
  | int i=>
    obtain⟨t,rfl⟩:=r
    cases (show T="int" from ty)
    exact⟨typeIs_int s i t,fun _ e=>nomatch e⟩
  | ref p=>
    cases r
    rcases ty with ⟨rfl,xs,hq⟩ | ⟨rfl,o,hk,hc,hd⟩ | ⟨rfl,hk⟩ | ⟨rfl,S,n,hk⟩
    · obtain⟨its,_,pl,_⟩:=I.list hq
      refine⟨pl.isList.typeIs,fun a e=>?_⟩
      cases e
      obtain⟨o,n,e,c,hd,_⟩:=pl
      exact⟨o,e,hd⟩
    · refine⟨⟨o,I.kIn p o hk,hc⟩,fun a e=>?_⟩
      cases e
      exact⟨o,I.kIn _ o hk,hd⟩
    · have z:∃o,s.heap.get? p=some o∧o.ExactDict:=by
        rcases hk with ⟨kvs,hk⟩ | ⟨kvs,hk⟩
        · obtain⟨_,_,_,_,o,_,_,e,ex,_⟩:=I.hok p _ hk
          exact⟨o,e,ex⟩
        · obtain⟨_,_,_,_,o,_,_,e,ex,_⟩:=I.hok p _ hk
          exact⟨o,e,ex⟩
      obtain⟨o,e,ex⟩:=z
      refine⟨⟨o,e,ex.1⟩,fun a e2=>?_⟩
      cases e2
      exact⟨o,e,ex.2.1⟩
    · obtain⟨o,_,_,_,e,ex,_⟩:=I.hok p _ hk
      refine⟨⟨o,e,ex.1⟩,fun a e2=>?_⟩
      cases e2
      exact⟨o,e,ex.2.1⟩
  | _=>exact False.elim ty
def HU(K:PySem.W.Frag)(T:String)(r:V→List V→Hp→VK→Prop)(to:TE)(t:TA):TE:=fun σ H Q=>to σ H fun x H1=>HX K T x H1∧t σ H1 fun xs H2=>r x xs H2 Q
variable{o e:Expr}{es:List Expr}{to:TE}{t:TA}{name:Str}{apos cpos:Pos}{T id:String}{r:V→List V→Hp→VK→Prop}
theorem y2(pa:PlainAttrs T)(slot:Slot T name id)(hty:typeOf (.builtin id)=pure (.type "method_descriptor"))(hm:HL X id r)(ho:PE X o to)(ha:PA X (e::es) t)
    (hbase:attributeBase o name X.env (eval o X.env)=eval o X.env:=by rfl)
    (hfew:((backTo cpos (starEach (e::es) X.env)).all (fun x=> !x.1)&&(backToKw cpos (keywordEach [] X.env)).all (fun x=>x.1.isSome)
      &&decide ((e::es).length+([]:List Keyword).length+(if ([]:List Keyword).isEmpty then 0 else 1) < 30))=true:=by rfl)
    (hline:(apos.endLine==cpos.line)=true:=by rfl)(hs:starEach (e::es) X.env=(false,eval e X.env)::starEach es X.env:=by rfl)(hplain:(backTo cpos (starEach es X.env)).any (·.1)=false:=by rfl):
    PE X (.Call (.Attribute o name apos) (e::es) [] cpos) (HU X.K T r to t):=by
  intro pins s σ H Q I h
  refine wpAny_Call_method_late hbase hfew hline rfl (cc (ho pins s σ H _ I h) fun v s1 ⟨x,H1,I1,r1,ty,q1⟩=>?_)
  obtain⟨h1,h2⟩:=E1 I1 r1 ty
  refine⟨T,id,pa,slot,hty,h1,h2,?_⟩
  have hA:=ha cpos pins s1 σ H1 _ I1 q1
  rw [hs] at hA ⊢
  refine Calls.callWith_builtin (by show(false || (backTo cpos (starEach es X.env)).any (·.1))=false;rw [hplain]<;>rfl) (Calls.evalArgs_plain ?_)
  exact cc hA fun us s2 ⟨vs,H2,I2,r2,q2⟩=>hm pins s2 σ H2 x vs v us Q I2 r1 r2 q2
end
end L2
namespace L2
open PySem PySem.Spec PyProof.Rows
def G'(X:Cx)(id:String)(r:V→List V→Hp→VK→Prop):Prop:=
  ∀(pins:List (Addr × Obj)) (s:Shared) (σ:St) (H:Hp) (x:V) (xs:List V) (v:Value) (us:List Value) (Q:VK),aE X pins σ H s→bA x v→aQ xs us→r x xs H Q→
    wpAny (model X.prog X.w) X.A (call (.builtin id) (v::us)) (EP X pins σ Q) X.xe s
theorem aQ.one:∀{x:V} {us:List Value},aQ [x] us→∃u,us=[u]∧bA x u
  | _,_,.cons r .nil=>⟨_,rfl,r⟩
theorem aQ.eraseIdx:∀{xs:List V} {us:List Value} (i:Nat),aQ xs us→aQ (xs.eraseIdx i) (us.eraseIdx i)
  | _,_,_,.nil=>.nil
  | _,_,0,.cons _ t=>t
  | _,_,i+1,.cons r t=>.cons r (aQ.eraseIdx i t)
theorem aQ.rep{xs:List V}{us:List Value}(h:aQ xs us):∀k:Nat,aQ (List.replicate k xs).flatten (List.replicate k us).flatten
  | 0=>.nil
  | k+1=>by
    rw [List.replicate_succ,List.replicate_succ,List.flatten_cons,List.flatten_cons]
    exact aQ.append h (aQ.rep h k)
theorem pU{α:Type}:∀(l:List α) (i:Nat),(l.eraseIdx i).length≤l.length
  | [],_=>Nat.le_refl _
  | _::_,0=>Nat.le_succ _
  | _::r,i+1=>Nat.succ_le_succ (pU r i)
theorem pN(its:List Value):∀(k:Nat) (acc:List Value),
    List.foldl (fun x1 x2=>x1++x2) acc.toArray (List.replicate k its.toArray)=(acc++(List.replicate k its).flatten).toArray
  | 0,acc=>by simp
  | k+1,acc=>by
    have e:acc.toArray++its.toArray=(acc++its).toArray:=by simp
    have e2:(acc++its)++(List.replicate k its).flatten=acc++(List.replicate (k+1) its).flatten:=by
      rw [List.replicate_succ,List.flatten_cons,List.append_assoc]
    rw [←e2,←pN its k (acc++its),←e,List.replicate_succ,List.foldl_cons]
section
variable{X:Cx}{pins:List (Addr × Obj)}{σ:St}{H:Hp}{s:Shared}{l b:Addr}{xs ys zs:List V}
theorem aE.lset{its its':List Value}{n:Nat}{f:Array Value→Array Value}{t':Nat}(I:aE X pins σ H s)(hH:H l=some (.lst xs))
    (e:s.heap.get? l=some {cls:=.type "list",data:=.seq its.toArray n})(hf:f its.toArray=its'.toArray)(hv:aQ ys its')(hz:ys.length≤sizeLine):
    aE X pins σ (a' H l (.lst ys)) {s with heap:=s.heap.update l (Obj.mapSeq f),toks:=t'}:=by
  have q:=PySem.IsL.update e f
  rw [hf] at q
  refine I.write (x:=l) (e:=l) (by rw [hH];exact trivial) (.inl rfl) (fun b' u hb hu=>(Heap.get?_update_other s.heap (Obj.mapSeq f) (Ne.symm hb)).trans hu) ⟨_,q⟩ ?_
  exact⟨hz,its',_,hv,q⟩
theorem aE.lnew{its:List Value}{t':Nat}(I:aE X pins σ H s)(hv:aQ ys its)(hz:ys.length≤sizeLine):
    aE X pins σ (a' H s.heap.objs.size (.lst ys)) {s with heap:=s.heap.push {cls:=.type "list",data:=.seq its.toArray},toks:=t'}:=
  I.laid (fun _ _ q=>Heap.get?_push_of_some _ q) (Nat.le_refl _) ⟨hz,its,0,hv,Heap.get?_push_size _ rfl⟩
theorem aE.fresh(I:aE X pins σ H s):H s.heap.objs.size=none:=I.hok.fresh (Nat.le_refl _)
theorem aE.lstM(I:aE X pins σ H s)(hH:H l=some (.lst xs)):xs.length≤sizeLine∧∃(its:List Value) (n:Nat),aQ xs its∧xs.length=its.length∧s.heap.get? l=some {cls:=.type "list",data:=.seq its.toArray n}:=by
  obtain⟨z,its,n,r,e⟩:=I.hok l _ hH
  exact⟨z,its,n,r,r.length,e⟩
theorem sU{n:Nat}(h:n≤sizeLine):Builtin.List.listTooLong n=false:=by
  unfold Builtin.List.listTooLong
  exact decide_eq_false (by lia)
end
section
variable{X:Cx}
def vZ:V→List V→Hp→VK→Prop:=fun x vs H Q=>∃l xs y,x=.ref l∧vs=[y]∧H l=some (.lst xs)∧xs.length < sizeLine∧Q .non (a' H l (.lst (xs++[y])))
theorem jX:G' X "list.append" vZ:=by
  intro pins s σ H x vs v us Q I rx rv h
  obtain⟨l,xs,y,rfl,rfl,hH,hz,q⟩:=h
  cases rx
  obtain⟨u,rfl,ru⟩:=rv.one
  obtain⟨z,its,n,r,hl,e⟩:=I.lstM hH
  refine call_meets F.slot_list_append ⟨_,e,rfl⟩ F.entry_list_append (F.args_list_append_2 _ _) (PySem.list_append l its.toArray n u (by rw [List.size_toArray];lia)) ⟨e,?_⟩
  refine⟨.non,_,I.lset (its':=its++[u]) hH e (by simp) (r.append (.cons ru .nil)) ?_,rfl,q⟩
  rw [List.length_append,List.length_singleton]
  lia
def BY:V→List V→Hp→VK→Prop:=fun x vs H Q=>∃l b xs zs,x=.ref l∧vs=[.ref b]∧H l=some (.lst xs)∧H b=some (.lst zs)∧xs.length+zs.length≤sizeLine∧Q .non (a' H l (.lst (xs++zs)))
theorem wW:G' X "list.extend" BY:=by
  intro pins s σ H x vs v us Q I rx rv h
  obtain⟨l,b,xs,zs,rfl,rfl,hH,hB,hz,q⟩:=h
  cases rx
  obtain⟨u,rfl,ru⟩:=rv.one
  cases ru
  obtain⟨z,its,n,r,hl,e⟩:=I.lstM hH
  obtain⟨z2,its2,n2,r2,hl2,e2⟩:=I.lstM hB
  have hsz:its.toArray.size+its2.toArray.size≤sizeLine:=by rw [List.size_toArray,List.size_toArray];lia
  have hlong:¬(!its.toArray.isEmpty&&Builtin.List.listTooLong (its.toArray.size+its2.toArray.size))=true:=by
    rw [sU hsz,Bool.and_false]
    exact Bool.false_ne_true
  refine call_meets F.slot_list_extend ⟨_,e,rfl⟩ F.entry_list_extend (F.args_list_extend_2 _ _)
    (AutoSeq1.list_extend_list_list_0 l its.toArray n b its2.toArray n2 hlong (by rw [List.size_toArray];lia) (by lia)) ⟨e,e2,?_⟩
  refine⟨.non,_,I.lset (its':=its++its2) hH e (by simp) (r.append r2) ?_,rfl,q⟩
  rw [List.length_append]
  lia
def zF:V→List V→Hp→VK→Prop:=fun x vs H Q=>∃l xs i k y,x=.ref l∧vs=[.int i]∧H l=some (.lst xs)∧ -(2 ^ 63)≤i∧i < 2 ^ 63∧seqIndex? i xs.length=some k∧xs[k]?=some y∧Q y (a' H l (.lst (xs.eraseIdx k)))
theorem yN:G' X "list.pop" zF:=by
  intro pins s σ H x vs v us Q I rx rv h
  obtain⟨l,xs,i,k,y,rfl,rfl,hH,h1,h2,hk,hy,q⟩:=h
  cases rx
  obtain⟨u,rfl,ru⟩:=rv.one
  obtain⟨t,rfl⟩:=ru
  obtain⟨z,its,n,r,hl,e⟩:=I.lstM hH
  obtain⟨w,hw,rw'⟩:=r.get hy
  refine call_meets F.slot_list_pop ⟨_,e,rfl⟩ F.entry_list_pop (F.args_list_pop_2 _ _)
    (MeetsSeq.list_pop_at l its.toArray n i t k w (fitsIndex_both h1 h2) (by rw [List.size_toArray,←hl];exact hk) (by rw [←Array.getElem?_toList];exact hw) (by rw [List.size_toArray];lia)) ⟨e,?_⟩
  refine⟨y,_,I.lset (its':=its.eraseIdx k) hH e ?_ (r.eraseIdx k) ?_,rw',q⟩
  · show its.toArray.eraseIdxIfInBounds k=(its.eraseIdx k).toArray
    rw [List.eraseIdxIfInBounds_toArray]
  · have:=pU xs k
    lia
def Ez:R2:=fun x y H Q=>∃l b xs zs,x=.ref l∧y=.ref b∧H l=some (.lst xs)∧H b=some (.lst zs)∧xs.length+zs.length≤sizeLine∧∀p,H p=none→Q (.ref p) (a' H p (.lst (xs++zs)))
theorem DX:ix X (binaryOp .Add) Ez:=by
  intro pins s σ H x y v u Q I rx ry h
  obtain⟨l,b,xs,zs,rfl,rfl,hH,hB,hz,q⟩:=h
  cases rx
  cases ry
  obtain⟨z,its,n,r,hl,e⟩:=I.lstM hH
  obtain⟨z2,its2,n2,r2,hl2,e2⟩:=I.lstM hB
  refine PySem.P.add_list e e2 ?_ (by rw [List.size_toArray,List.size_toArray];lia)
  have ea:its.toArray++its2.toArray=(its++its2).toArray:=by simp
  rw [ea]
  exact⟨.ref _,_,I.lnew (t':=s.toks) (r.append r2) (by rw [List.length_append];lia),rfl,q _ I.fresh⟩
def EC:R2:=fun x y H Q=>∃l k xs,x=.ref l∧y=.int k∧H l=some (.lst xs)∧ -(2 ^ 63)≤k∧k < 2 ^ 63∧xs.length*k.toNat≤sizeLine∧
  ∀p,H p=none→Q (.ref p) (a' H p (.lst (List.replicate k.toNat xs).flatten))
theorem A4{α:Type}(xs:List α)(k:Nat):(List.replicate k xs).flatten.length=k*xs.length:=by
  induction k with
  | zero=>simp
  | succ k ih=>rw [List.replicate_succ,List.flatten_cons,List.length_append,ih,Nat.succ_mul,Nat.add_comm]
theorem D6:ix X (binaryOp .Mult) EC:=by
  intro pins s σ H x y v u Q I rx ry h
  obtain⟨l,k,xs,rfl,rfl,hH,h1,h2,hz,q⟩:=h
  cases rx
  obtain⟨t,rfl⟩:=ry
  obtain⟨z,its,n,r,hl,e⟩:=I.lstM hH
  have hlen:its.toArray.size*k.toNat≤sizeLine:=by rw [List.size_toArray,←hl];exact hz
  have hcap:¬its.toArray.size*k.toNat > (2 ^ 63 - 1) / 8:=by
    have:(sizeLine:Nat)≤(2 ^ 63 - 1) / 8:=by decide
    lia
  have hfit:¬(!Builtin.List.listFitsIndex k)=true:=by
    rw [fitsIndex_both h1 h2]
    exact Bool.false_ne_true
  have hlong:¬Builtin.List.listTooLong (its.toArray.size*k.toNat)=true:=by
    rw [sU hlen]
    exact Bool.false_ne_true
  have hnew:List.foldl (fun x1 x2=>x1++x2) #[] (List.replicate (if its.toArray.isEmpty=true then 0 else k.toNat) its.toArray)=(List.replicate k.toNat its).flatten.toArray:=by
    have f0:∀m:Nat,List.foldl (fun x1 x2=>x1++x2) #[] (List.replicate m its.toArray)=(List.replicate m its).flatten.toArray:=fun m=>by
      have:=pN its m []
      rw [List.nil_append] at this
      exact this
    rw [f0]
    cases its with
    | nil=>simp
    | cons a r'=>rw [if_neg (by simp)]
  refine wpAny_binaryOp_repeat_ref (T:="list") (U:="int") (by decide) ⟨_,e,rfl⟩ (fun s'=>typeIs_int s' k t) noFill_list_mul F.fills_int_mul F.slot_int_rmul repeat_list F.slot_int_index.lookup
    (call_meets F.slot_int_rmul (typeIs_int s k t) F.entry_int_rmul (F.args_int_rmul_2 _ _) (int___rmul___int_list k t l its.toArray n)
      ⟨e,rfl,⟨_,e,rfl⟩,call_meets F.slot_list_mul ⟨_,e,rfl⟩ F.entry_list_mul (F.args_list_mul_2 _ _) (AutoListH.list___mul___list_int_3 l its.toArray n k t hfit hcap hlong) ⟨e,?_⟩⟩)
  rw [hnew]
  exact⟨.ref _,_,I.lnew (t':=s.toks) (r.rep k.toNat) (by rw [A4,Nat.mul_comm];exact hz),rfl,q _ I.fresh⟩
end
section
variable{prog:Program}{w:World}{A:Around}{E:Value→Shared→Prop}{s:Shared}
end
section
variable{X:Cx}
end
end L2
namespace Att
open PySem PySem.W PySem.Calls PyProof.Rows
theorem mS{P:Params}{h:Heap}:∀(ns:List Int) (vs:List Value),WellAll P h vs (ns.map WData.int)→IntsAre vs ns:=by
  intro ns
  induction ns with
  | nil=>
    intro vs w
    rw [List.map_nil] at w
    cases w
    exact .nil
  | cons n ns ih=>
    intro vs w
    rw [List.map_cons] at w
    cases w with
    | cons a b=>
      cases a
      exact .cons _ _ (ih _ b)
theorem xq{l:OpenLaw}{n:Nat}(hn:l.most=some n){P:Params}{h:Heap}{args:List WData}{vals:List Value}
    (hpre:l.row.toRowW.claim.pre args=true)(hwl:WellAll P h vals args):
    ∃a vs ns,vals=[Value.ref a]∧args=[WData.list (ns.map WData.int)]∧h.get? a=some {cls:=.type "list",data:=.seq vs.toArray}∧IntsAre vs ns∧ns.length≤n:=by
  have hsh:WShape.hasAll [] args [.list .int]=true:=(pre_splitW hpre).1
  have hc:l.pre.holds [] {args:=args}=true:=(pre_splitW hpre).2
  obtain⟨d,r,rfl,h1,h2⟩:=hasAllW_cons hsh
  obtain rfl:=hasAllW_nil h2
  obtain⟨xs,rfl,h3⟩:=hasW_list h1
  obtain⟨ns,rfl⟩:=items_int h3
  have hlen:ns.length≤n:=by
    unfold OpenLaw.pre at hc
    have h4:(WTm.not (.lt (.lit (.int (n:Int))) (.len (.arg 0)))).holds [] {args:=[.list (ns.map .int)]}=true:=by
      have h4:=(holds_andW hc).1
      rw [hn] at h4
      exact h4
    have h5:=condW_of h4 (w_not (w_lt w_lit (w_len_list (w_arg rfl))))
    rw [List.length_map] at h5
    refine Nat.le_of_not_lt fun q=>?_
    have q':(n:Int) < ((ns.length:Nat):Int):=by lia
    first
      | (rw [decide_eq_true q'] at h5;exact absurd h5 (by decide))
      | (simp at h5;lia)
  cases hwl with
  | cons w1 w2=>
    cases w2
    cases w1 with
    | list ho hall=>exact⟨_,_,ns,rfl,rfl,ho,mS ns _ hall,hlen⟩
theorem xj(l:OpenLaw)(args:List WData):l.row.toRowW.claim.post args (.bool true) args=true:=
  postW_of (r:=l.row.toRowW) (X:=(true==true))
    (show WShape.has [] (.bool true) .bool=true by first | rfl | decide | simp [WShape.has,WShape.arms,WShape.armsAll])
    (show(WTm.eq .res (.lit (.bool true))).value [] {args:=args,res:=some (.bool true),after:=args}=some (.bool (true==true)) from w_eq_bool (w_res rfl) w_lit) rfl
theorem attach_call{l:OpenLaw}{n:Nat}{q:Program}{loose:List Str}{XP:(Str→Option Value)→Heap→Prop}{YP:World→Heap→Prop}{d:DefRec}
    (hn:l.most=some n)(hdf:d.params.defaults=[])
    (call:∀(w:World) (s₀ s₁:Shared) (mg mb:Str→Option Value) (fa:Addr) (o:Obj) (pm cd doc:Value) (a:Addr) (vs:List Value) (ns:List Int),
      Ground q loose [] XP w s₀ mg mb s₁.heap→YP w s₁.heap→
      s₁.heap.get? fa=some o→o.data=.func (docDef d.name d.params d.body d.scope pm cd doc)→s₁.heap.CodeRec cd d.name→mg d.name=some (.ref fa)→
      s₁.heap.get? a=some {cls:=.type "list",data:=.seq vs.toArray}→IntsAre vs ns→ns.length≤n→s₁.gens=#[]→
      codeAny (model l.prog w) callerA (.call (.ref fa) ⟨[.ref a],[]⟩) (fun r s'=>r=.ok (.ret (.bool true))∧OldK s₁.heap s'.heap∧s'.os=s₁.os∧AllBare s'.gens) s₁):
    WalkO q loose XP YP l.row.toRowW d [] (fun f vs=>PySem.call f vs):=by
  intro w s₀ s₁ mg mb G Y fa o pm cd doc dV kV ho hd hcd hD hmg hg args vals as hpre hlay hrd hwl hlo
  obtain rfl:dV=.none:=Dflts.none hD hdf
  obtain rfl:kV=.none:=Dflts.noKw hD
  obtain⟨a,vs,ns,rfl,rfl,hobj,hints,hlen⟩:=xq hn hpre hwl
  refine enter_call (codeAny_mono (call w s₀ s₁ mg mb fa o pm cd doc a vs ns G Y ho (fd_plain hd) hcd hmg hobj hints hlen hg) fun r s' hq=>?_)
  obtain⟨rfl,h2,h3,h4⟩:=hq
  exact⟨.inl ⟨.bool true,.bool true,[],rfl,fun _=>rfl,.bool true,xj l _,fun _=>⟨List.Pairwise.nil,fun _ hm=>(nomatch hm)⟩⟩,h2,h3,h4⟩
section
variable{prog:Program}{w:World}{A:Around}{E:Value→Shared→Prop}{s:Shared}{K:Frag}
end
end Att
namespace L2
open PySem PySem.Spec PyProof.Rows
theorem md:∀{vs:List Value} {ns:List Int},IntsAre vs ns→aQ (ns.map V.int) vs
  | _,_,.nil=>.nil
  | _,_,.cons n t h=>.cons ⟨t,rfl⟩ (md h)
def De(H:Hp):Prop:=∀b,H b=none∨∃o xs,H b=some (.frz o (.lst xs))
theorem yF{P:Program}{w:World}{K:PySem.W.Frag}{mg mb:Str→Option Value}{CX:ww}{k:Nat}{fa a:Addr}{fd:FuncData}{x:Str}{sp:Sp}{s₁:Shared}{vs:List Value}{ns:List Int}
    (KX:K.In s₁.heap)(hns:s₁.heap.Ns mainGlobals mg)(hb:s₁.heap.Ns builtinsNs mb)(hbb:∀x:Str,x≠"__name__"→mb x=bootBuiltins x)(hlim:s₁.heap.NoLimit)(hg:s₁.gens=#[])
    (ha:s₁.heap.get? a=some {cls:=.type "list",data:=.seq vs.toArray})(hi:IntsAre vs ns)(hl:ns.length≤sizeLine)(hr:du k callerA)
    (F:∀base:Heap,K.In base→base.Ns mainGlobals mg→aM P w K mg base CX k fa fd [x] sp)(hbind:∀(s:Shared) (u:Value),BindsTo s fd ⟨[u],[]⟩ [(x,u)])
    (hsp:∀H:Hp,De H→cP K H a (ns.map V.int)→sp [.ref a] H (fun v _=>v=.bl true) fun _ _ _=>False)
    (hCX:∀H e s',CX [] H s₁ (fun _ _ _=>False) e s'→False):
    codeAny (model P w) callerA (.call (.ref fa) ⟨[.ref a],[]⟩) (fun r s'=>r=.ok (.ret (.bool true))∧OldK s₁.heap s'.heap∧s'.os=s₁.os∧AllBare s'.gens) s₁:=by
  have rv:=md hi
  have lenV:=hi.length
  have core:∀H:Hp,De H→cP K H a (ns.map V.int)→me P w H s₁.heap→(∀b,H b≠none→b=a)→(H a≠none→K.lookup a=none)→
      codeAny (model P w) callerA (.call (.ref fa) ⟨[.ref a],[]⟩) (fun r s'=>r=.ok (.ret (.bool true))∧OldK s₁.heap s'.heap∧s'.os=s₁.os∧AllBare s'.gens) s₁:=by
    intro H hO hS hok hA hK
    have base_of:∀{b:Addr} {o:Obj},s₁.heap.get? b=some o→H b=none→(qR s₁.heap H).get? b=some o:=fun e n=>yw e n
    have noA:∀{b:Addr} {o:Obj} {es:Array DictEntry} {ep:Nat},s₁.heap.get? b=some o→o.data=.dict es ep→H b=none:=fun{b o es ep} e d=>by
      cases q:H b with
      | none=>rfl
      | some u=>
        have e':b=a:=hA b (by rw [q];simp)
        subst e'
        rw [ha] at e;cases e
        have d':Data.seq vs.toArray _=Data.dict es ep:=d
        cases d'
    have nsK:∀{b:Addr} {m:Str→Option Value},s₁.heap.Ns b m→(qR s₁.heap H).Ns b m:=fun{b m} ⟨o,es,ep,e,d,r⟩=>⟨o,es,ep,base_of e (noA e d),d,r⟩
    have hKb:K.In (qR s₁.heap H):=fun b o e=>base_of (KX b o e) (by
      cases q:H b with
      | none=>rfl
      | some u=>
        have e':b=a:=hA b (by rw [q];simp)
        subst e'
        rw [hK (by rw [q];simp)] at e;cases e)
    have hM:Mod K mg (qR s₁.heap H):=⟨hKb,nsK hns,⟨mb,nsK hb,hbb⟩,let ⟨mc,h1,h2⟩:=hlim;⟨mc,nsK h1,h2⟩⟩
    have e0:Aw P w K mg (qR s₁.heap H) callerA [] s₁ H:=⟨rfl,hM,fun b o e=>Bb e,Nat.le_of_eq (wM _ _),trivial,fun b hb=>absurd (show b∈([]:List Addr) from hb) (by simp),hok,.of_eq hg⟩
    refine codeAny_mono ((F _ hKb (nsK hns)).run callerA [] s₁ H ⟨[.ref a],[]⟩ [.ref a] [.ref a] _ _ hr e0 (hbind s₁ (.ref a)) (.cons rfl .nil) (hsp H hO hS)) fun r s' h=>?_
    cases r with
    | error e=>exact(hCX H e s' h).elim
    | ok fl=>
      cases fl with
      | next=>exact False.elim h
      | brk=>exact False.elim h
      | cont=>exact False.elim h
      | ret u=>
        obtain⟨v,H',os,bare,un,hok',r',q⟩:=h
        have q':v=.bl true:=q
        subst q'
        obtain rfl:u=Value.bool true:=r'
        refine⟨rfl,OldK.of_keep fun b o e=>?_,os,bare⟩
        cases q:H b with
        | none=>exact un.keep b o e q (by intro z;exact absurd (show b∈([]:List Addr) from z) (by simp)) (by simp)
        | some u=>
          rcases hO b with z | ⟨ob,xs,z⟩
          · rw [q] at z;cases z
          · have z2:=un.frzs b ob _ z
            obtain⟨e1,_⟩:=hok b _ z
            obtain⟨e2,_⟩:=hok' b _ z2
            rw [e] at e1;cases e1
            exact e2
  cases hk:K.lookup a with
  | some o=>
    have e:=KX a o hk
    rw [ha] at e
    cases e
    refine core (fun _=>none) (fun _=>.inl rfl) (.inr ⟨_,vs.toArray,_,hk,rfl,rfl,rfl,by rw [List.size_toArray,lenV];exact hl,by simpa using rv⟩) (fun b u z=>by have z':(none:Option HO)=some u:=z;cases z') (fun b z=>absurd rfl z) fun z=>absurd rfl z
  | none=>
    refine core (fun b=>if b=a then some (.frz {cls:=.type "list",data:=.seq vs.toArray} (.lst (ns.map V.int))) else none) (fun b=>?_) (.inl (.inr ⟨{cls:=.type "list",data:=.seq vs.toArray},if_pos rfl⟩)) (fun b u z=>?_) (fun b z=>?_) fun _=>hk
    · by_cases hb:b=a
      · exact .inr ⟨_,_,if_pos hb⟩
      · exact .inl (if_neg hb)
    · by_cases hb:b=a
      · have z':=(if_pos hb).symm.trans z
        cases z'
        subst hb
        exact⟨ha,by rw [List.length_map];exact hl,vs,_,rv,ha⟩
      · have z':=(if_neg hb).symm.trans z
        cases z'
    · by_cases hb:b=a
      · exact hb
      · exact absurd (if_neg hb) z
end L2
namespace L2
open PySem PySem.Spec PyProof.Rows
theorem walk_of{l:PySem.W.OpenLaw}{n k:Nat}{q:Program}{loose:List Str}{XP:(Str→Option Value)→Heap→Prop}{YP:World→Heap→Prop}{d:DefRec}{K:Params→PySem.W.Frag}{CX:World→ww}{sp:World→Sp}{x:Str}
    (hn:l.most=some n)(hn2:n≤sizeLine)(hdf:d.params.defaults=[])(hr:du k callerA)
    (hY:∀(w:World) (h:Heap),YP w h→(K w.params).In h)
    (F:∀(w:World) (mg:Str→Option Value) (fa:Addr) (h:Heap),(K w.params).In h→h.Ns mainGlobals mg→mg d.name=some (.ref fa)→
      ∃fd:FuncData,(∀(s:Shared) (u:Value),BindsTo s fd ⟨[u],[]⟩ [(x,u)])∧
        ∀base:Heap,(K w.params).In base→base.Ns mainGlobals mg→aM l.prog w (K w.params) mg base (CX w) k fa fd [x] (sp w))
    (hsp:∀(w:World) (H:Hp) (a:Addr) (ns:List Int),ns.length≤n→De H→cP (K w.params) H a (ns.map V.int)→sp w [.ref a] H (fun v _=>v=.bl true) fun _ _ _=>False)
    (hCX:∀(w:World) (H:Hp) (s:Shared) (e:Value) (s':Shared),CX w [] H s (fun _ _ _=>False) e s'→False):
    PySem.W.WalkO q loose XP YP l.row.toRowW d [] (fun f vs=>PySem.call f vs):=by
  refine Att.attach_call hn hdf fun w s₀ s₁ mg mb fa o pm cd doc a vs ns G Y ho hd hcd hmg hobj hints hlen hg=>?_
  have KX:=hY w _ Y
  obtain⟨fd,hb,hF⟩:=F w mg fa _ KX G.T.g hmg
  exact yF KX G.T.g G.T.b G.T.builtins G.T.nolimit hg hobj hints (Nat.le_trans hlen hn2) hr hF hb (fun H hO hS=>hsp w H a ns hlen hO hS) fun H e s'=>hCX w H s₁ e s'
end L2
namespace L2
open PySem PySem.Spec PyProof.Rows
def dD(s:Stmt):Arguments:=match s with
  | .FunctionDef _ a _ _ _ _ _ _ _ _=>a
  | _=>{posonlyargs:=[],args:=[],vararg:=none,kwonlyargs:=[],kw_defaults:=[],kwarg:=none,defaults:=[]}
def cM(s:Stmt):List Stmt:=match s with
  | .FunctionDef _ _ b _ _ _ _ _ _ _=>b
  | _=>[]
def am(s:Stmt):Scope:=match s with
  | .FunctionDef _ _ _ _ _ _ sc _ _ _=>sc
  | _=>{kind:=.function,names:=[],isGenerator:=false,isCoroutine:=false}
abbrev bN:ww:=fun _ _ _ _ _ _=>False
abbrev E0:XK:=fun _ _ _=>False
theorem Ga{X:Cx}:uj bN X E0:=fun _ _ _ _ _ _ _ h=>h.elim
structure E8 (K:PySem.W.Frag) (x qual:Str) (st:Stmt) (f:Addr) (fd:FuncData):Prop where
  ex:∃(oc:Value) (od:Option Addr) (kV doc pm:Value) (an:Option Addr) (cdv ct:Value) (osl:Array (Option Value)),
    fd=PySem.W.fnOf x qual (dD st) (cM st) (am st) .none kV doc pm an cdv ct∧K.lookup f=some ⟨oc,od,.func fd,osl⟩∧PySem.W.codeIn K cdv qual=true
  kp:PySem.W.keepIn K (.ref f)=true
section
variable{P:Program}{w:World}{K:PySem.W.Frag}{mg:Str→Option Value}{base:Heap}
theorem E8.ok{x qual:Str}{st:Stmt}{f:Addr}{fd:FuncData}{N ps:List Str}{k:Nat}{sp:Sp}(F:E8 K x qual st f fd)(S:aG N ps (am st))(len:∀vs H Q E,sp vs H Q E→vs.length=ps.length)
    (hbody:∀(cdv:Value) (A:Around) (outer:List Env) (s:Shared) (H:Hp) (vs:List V) (Q:VK) (E:XK),du k (A.deeper (envOfC qual (am st) s.heap.objs.size f cdv))→sp vs H Q E→
      ∃t,mQ (ur bN P w K mg base N qual (am st) f cdv A outer s H E).nox (cM st) t∧t {nx:=fun _ H'=>Q .non H',rt:=Q} (fy N vs) H):aM P w K mg base bN (k+1) f fd ps sp:=by
  obtain⟨oc,od,kV,doc,pm,an,cdv,ct,osl,rfl,lk,hcd⟩:=F.ex
  refine Fu lk hcd S len fun A outer s H vs Q E hr hsp=>?_
  obtain⟨t,h,q⟩:=hbody cdv A outer s H vs Q E hr hsp
  exact⟨t,h.nox,q⟩
theorem E8.binds{x qual:Str}{st:Stmt}{f:Addr}{fd:FuncData}{ps:List Str}(F:E8 K x qual st f fd)
    (h:∀(kV doc pm:Value) (an:Option Addr) (cdv ct:Value) (us:List Value),us.length=ps.length→bindArgs (PySem.W.fnOf x qual (dD st) (cM st) (am st) .none kV doc pm an cdv ct) ⟨us,[]⟩=pure (ps.zip us)):pb K fd ps []:=by
  obtain⟨oc,od,kV,doc,pm,an,cdv,ct,osl,rfl,lk,hcd⟩:=F.ex
  exact .all (h kV doc pm an cdv ct)
theorem yn{x qual:Str}{st:Stmt}{f:Addr}{oc:Value}{od an:Option Addr}{osl:Array (Option Value)}{kV doc pm cdv ct:Value}(l:K.lookup f=some ⟨oc,od,.func (PySem.W.fnOf x qual (dD st) (cM st) (am st) .none kV doc pm an cdv ct),osl⟩)
    (c:PySem.W.codeIn K cdv qual=true)(k:PySem.W.keepIn K (.ref f)=true):E8 K x qual st f (PySem.W.fnOf x qual (dD st) (cM st) (am st) .none kV doc pm an cdv ct):=⟨⟨oc,od,kV,doc,pm,an,cdv,ct,osl,rfl,l,c⟩,k⟩
end
theorem p9{n:Nat}(h:n≤1000):n < sizeLine:=Nat.lt_of_le_of_lt h (by decide)
section
variable{X:Cx}
end
theorem AZ{A B:Prop}(h:B):if false=true then A else B:=by
  rw [if_neg Bool.false_ne_true]
  exact h
theorem A0{A B:Prop}(h:A):if true=true then A else B:=by
  rw [if_pos rfl]
  exact h
def aA(H H':Hp):Prop:=∀b o,H b=some o→H' b=some o
theorem aA.refl(H:Hp):aA H H:=fun _ _ h=>h
theorem aA.trans{H H1 H2:Hp}(a:aA H H1)(b:aA H1 H2):aA H H2:=fun c o h=>b c o (a c o h)
theorem aA.free{H H':Hp}(e:aA H H'){l:Addr}(h:H' l=Option.none):H l=Option.none:=by
  cases q:H l with
  | none=>rfl
  | some o=>
    rw [e l o q] at h
    cases h
theorem aA.seq{K:PySem.W.Frag}{H H':Hp}{a:Addr}{xs:List V}(e:aA H H')(h:cP K H a xs):cP K H' a xs:=by
  rcases h with (h | ⟨o,h⟩) | h
  · exact .inl (.inl (e _ _ h))
  · exact .inl (.inr ⟨o,e _ _ h⟩)
  · exact .inr h
end L2
set_option maxHeartbeats 4000000
namespace L2
open PySem PySem.Spec PyProof.Rows
def Bt(n:Nat)(i:Int):Prop:=i.natAbs < 2 ^ n
theorem Bt.mono{m n:Nat}{i:Int}(h:Bt m i)(hm:m≤n):Bt n i:=Nat.lt_of_lt_of_le h (Nat.pow_le_pow_right (by decide) hm)
theorem Bt.mul{m n:Nat}{i j:Int}(h:Bt m i)(h':Bt n j):Bt (m+n) (i*j):=by
  unfold Bt at*
  rw [Int.natAbs_mul,Nat.pow_add]
  exact Nat.mul_lt_mul'' h h'
theorem Bt.neg{m:Nat}{i:Int}(h:Bt m i):Bt m (-i):=by
  unfold Bt at*
  rw [Int.natAbs_neg];exact h
theorem Bt.add{m:Nat}{i j:Int}(h:Bt m i)(h':Bt m j):Bt (m+1) (i+j):=by
  unfold Bt at*
  have e:(2:Nat) ^ (m+1)=2 ^ m+2 ^ m:=by rw [Nat.pow_succ];lia
  rw [e]
  have:=Int.natAbs_add_le i j
  lia
theorem Bt.log{m:Nat}{i:Int}(h:Bt m i)(hm:0 < m):i.natAbs.log2 < m:=by
  unfold Bt at h
  rcases Nat.eq_zero_or_pos i.natAbs with h0 | hp
  · rw [h0];exact hm
  · exact(Nat.log2_lt (by lia)).mpr h
theorem Bt.bits{m:Nat}{i:Int}(h:Bt m i)(hm:0 < m):Builtin.Int.intBits i≤m:=by
  unfold Builtin.Int.intBits
  split
  · exact Nat.zero_le _
  · exact h.log hm
theorem Bt.of_le{m:Nat}{i:Int}{j:Int}(h:Bt m j)(e:i.natAbs≤j.natAbs):Bt m i:=Nat.lt_of_le_of_lt e h
section
variable{X:Cx}
def Cs(i j:Int):Prop:=Bt 4000 i∧Bt 4000 j
theorem Bq:ix X (binaryOp .Mult) (rI Cs fun i j=>.int (i*j)):=FX fun _ _ _ _ _ _ _ hc q=>
  mul_int q (.of_bits (Nat.le_trans (hc.1.bits (by decide)) (by decide)) (Nat.le_trans (hc.2.bits (by decide)) (by decide)))
def Cr(i j:Int):Prop:=j≠0∧Bt 8000 j
theorem yX:ix X (binaryOp .FloorDiv) (rI Cr fun i j=>.int (i.fdiv j)):=FX fun _ _ _ _ _ _ _ hc q=>
  floordiv_int hc.1 q (.inl (PyProof.noPylong_of_log2 (Nat.lt_trans (hc.2.log (by decide)) (by decide))))
theorem D1:ix X (compareOp .Is) (fun x y H Q=>∃b c,x=.bl b∧y=.bl c∧Q (.bl (b==c)) H):=by
  intro pins s σ H x y v u Q I rx ry h
  obtain⟨b,c,rfl,rfl,q⟩:=h
  cases rx;cases ry
  exact is_bool ⟨.bl _,H,I,rfl,q⟩
end
def vn(H H':Hp):Prop:=∀a o,H a=some o→(∀xs,o≠.lst xs)→(∀ob xs,o≠.frz ob (.lst xs))→H' a=some o
theorem aA.ts{H H':Hp}(h:aA H H'):vn H H':=fun a o e _ _=>h a o e
theorem vn.tup{K:PySem.W.Frag}{H H':Hp}(h:vn H H'){a:Addr}{xs:List V}(q:bR K H a xs):bR K H' a xs:=by
  rcases q with (q | ⟨o,q⟩) | q
  · exact .inl (.inl (h _ _ q (fun _ e=>nomatch e) (fun _ _ e=>nomatch e)))
  · exact .inl (.inr ⟨o,h _ _ q (fun _ e=>nomatch e) (fun _ _ e=>nomatch e)⟩)
  · exact .inr q
section
variable{X:Cx}
end
end L2
namespace L2
open PySem PySem.Spec PyProof.Rows
structure bo (K:PySem.W.Frag) (mg:Str→Option Value) (x:Str) (st:Stmt) (f:Addr) (fd:FuncData) (ps:List Str):Prop where
  F:E8 K x x st f fd
  m:mg x=some (.ref f)
  b:pb K fd ps []
theorem Dq{K:PySem.W.Frag}{mg:Str→Option Value}{h:Heap}{x:Str}{st:Stmt}{f:Addr}{ps:List Str}{oc:Value}{od an:Option Addr}{osl:Array (Option Value)}{kV doc pm cdv ct:Value}(X:K.In h)(G:h.Ns mainGlobals mg)(a:PySem.W.nsIn K mainGlobals x=some (some (.ref f)))
    (l:K.lookup f=some ⟨oc,od,.func (PySem.W.fnOf x x (dD st) (cM st) (am st) .none kV doc pm an cdv ct),osl⟩)(c:PySem.W.codeIn K cdv x=true)(k:PySem.W.keepIn K (.ref f)=true)
    (hb:∀(kV doc pm:Value) (an:Option Addr) (cdv ct:Value) (us:List Value),us.length=ps.length→bindArgs (PySem.W.fnOf x x (dD st) (cM st) (am st) .none kV doc pm an cdv ct) ⟨us,[]⟩=pure (ps.zip us)):
    bo K mg x st f (PySem.W.fnOf x x (dD st) (cM st) (am st) .none kV doc pm an cdv ct) ps:=⟨yn l c k,PySem.W.mg_of X G a,(yn l c k).binds hb⟩
theorem Hw{X:Cx}{x:Str}{st:Stmt}{f:Addr}{fd:FuncData}{ps:List Str}{k:Nat}{sp:Sp}{e:Expr}{es:List Expr}{t:TA}{p pos:Pos}(h:bo X.K X.mg x st f fd ps)(G:aM X.prog X.w X.K X.mg X.base bN k f fd ps sp)(hr:du k X.A)(ha:PA X (e::es) t)
    (hg:Gl X x:=by rfl)(hdb:(x==("__debug__":Str))=false:=by decide)(he:starEach (e::es) X.env=(false,eval e X.env)::starEach es X.env:=by rfl)(hpl:(backTo pos (starEach es X.env)).any (·.1)=false:=by rfl):
    PE X (.Call (.Name x p) (e::es) [] pos) (z0 sp [] E0 t):=Bw G hr hg h.m h.F.kp h.b .nil Ga ha hdb he hpl
theorem aA.new{H:Hp}{p:Addr}{o:HO}(h:H p=none):aA H (a' H p o):=fun b u e=>by
  rw [aw (er e h)];exact e
theorem aA.tup{K:PySem.W.Frag}{H H':Hp}{a:Addr}{xs:List V}(e:aA H H')(h:bR K H a xs):bR K H' a xs:=e.ts.tup h
end L2
namespace L2
open PySem PySem.Spec PyProof.Rows
def bC(t b:Int):Int × Int:=if b < 0 then(t.fdiv (-(Int.gcd t b:Int)),b.fdiv (-(Int.gcd t b:Int))) else(t.fdiv (Int.gcd t b:Int),b.fdiv (Int.gcd t b:Int))
theorem sE(x y:Int):Int.gcd y (x.fmod y)=Int.gcd x y:=by
  rw [Int.fmod_def,Int.gcd_sub_mul_left_right,Int.gcd_comm]
theorem g_(x:Int){y:Int}(h:y≠0):(x.fmod y).natAbs < y.natAbs:=by
  rcases Int.lt_or_gt_of_ne h with h | h
  · have h1:x.fmod y= -((-x).fmod (-y)):=by
      have:=Int.neg_fmod_neg x y
      lia
    have h2:=Int.fmod_nonneg_of_pos (-x) (b:= -y) (by lia)
    have h3:=Int.fmod_lt_of_pos (-x) (b:= -y) (by lia)
    lia
  · have h2:=Int.fmod_nonneg_of_pos x h
    have h3:=Int.fmod_lt_of_pos x h
    lia
theorem qQ{t b:Int}(h:b≠0):(0:Int) < Int.gcd t b:=by
  have:=Int.gcd_pos_of_ne_zero_right t h
  lia
theorem iH{t b:Int}(h:b≠0):∃d:Int,d.natAbs=Int.gcd t b∧d≠0∧(bC t b).1*d=t∧(bC t b).2*d=b∧0 < (bC t b).2:=by
  have hg:=qQ (t:=t) h
  have d1:(Int.gcd t b:Int) ∣ t:=Int.gcd_dvd_left ..
  have d2:(Int.gcd t b:Int) ∣ b:=Int.gcd_dvd_right ..
  unfold bC
  split
  · rename_i hb
    have e1:t.fdiv (-(Int.gcd t b:Int))*(-(Int.gcd t b:Int))=t:=Int.fdiv_mul_cancel (Int.neg_dvd.mpr d1)
    have e2:b.fdiv (-(Int.gcd t b:Int))*(-(Int.gcd t b:Int))=b:=Int.fdiv_mul_cancel (Int.neg_dvd.mpr d2)
    refine⟨-(Int.gcd t b:Int),by lia,by lia,e1,e2,?_⟩
    show 0 < b.fdiv (-(Int.gcd t b:Int))
    have h3:b.fdiv (-(Int.gcd t b:Int))*(Int.gcd t b:Int)= -b:=by rw [Int.mul_neg] at e2;lia
    exact Int.pos_of_mul_pos_left (by lia) (by lia) (b:=(Int.gcd t b:Int))
  · rename_i hb
    have e1:t.fdiv (Int.gcd t b:Int)*(Int.gcd t b:Int)=t:=Int.fdiv_mul_cancel d1
    have e2:b.fdiv (Int.gcd t b:Int)*(Int.gcd t b:Int)=b:=Int.fdiv_mul_cancel d2
    refine⟨(Int.gcd t b:Int),by lia,by lia,e1,e2,?_⟩
    show 0 < b.fdiv (Int.gcd t b:Int)
    exact Int.pos_of_mul_pos_left (by lia) (by lia) (b:=(Int.gcd t b:Int))
theorem nP{t b:Int}(h:b≠0):Int.gcd (bC t b).1 (bC t b).2=1:=by
  obtain⟨d,h1,h2,h3,h4,h5⟩:=iH (t:=t) h
  have e:Int.gcd ((bC t b).1*d) ((bC t b).2*d)=Int.gcd (bC t b).1 (bC t b).2*d.natAbs:=Int.gcd_mul_right ..
  rw [h3,h4,←h1] at e
  have hd:0 < d.natAbs:=by lia
  exact(Nat.eq_of_mul_eq_mul_right hd (by rw [Nat.one_mul];exact e)).symm
theorem ka{x d:Int}(h:d≠0):x.natAbs≤(x*d).natAbs:=by
  rw [Int.natAbs_mul]
  exact Nat.le_mul_of_pos_right _ (by lia)
theorem qY{t b:Int}(h:b≠0){n:Nat}(ht:Bt n t)(hb:Bt n b):Bt n (bC t b).1∧Bt n (bC t b).2:=by
  obtain⟨d,h1,h2,h3,h4,h5⟩:=iH (t:=t) h
  refine⟨ht.of_le ?_,hb.of_le ?_⟩
  · conv=>rhs;rw [←h3]
    exact ka h2
  · conv=>rhs;rw [←h4]
    exact ka h2
theorem yu{t b:Int}(h:b≠0){n:Nat}(hb:Bt n b):Bt n (Int.gcd t b:Int):=by
  refine hb.of_le ?_
  have h1:=Nat.le_of_dvd (show 0 < b.natAbs by lia) (Int.ofNat_dvd.mp (by rw [Int.dvd_natAbs];exact Int.gcd_dvd_right t b))
  lia
mutual
def cnt:PyData→Nat
  | .tuple ds=>1+kf ds
  | .str _=>0
  | _=>1
def kf:List PyData→Nat
  | []=>0
  | d::ds=>cnt d+kf ds
end
mutual
def nY:PyData→Bool
  | .tuple ds=>iK ds
  | .str _=>false
  | .list _=>false
  | .dict _=>false
  | _=>true
def iK:List PyData→Bool
  | []=>true
  | d::ds=>nY d&&iK ds
end
theorem oZ{a:Int}(h:a.natAbs.log2 < 1920):(Str.ofString (toString a)).length≤1921:=by
  have e:=int_text_length_le (k:=1920) (by decide) h
  rw [PySem.ofString_length];lia
theorem piled_cons(x:Str)(r:List Str):piled (x::r)=x.length+2+piled r:=by
  simp [piled]
theorem j3(ts:List Str):(tupleText ts).length≤piled ts+3:=by
  unfold tupleText
  rw [strLen_append,strLen_append]
  have h1:(("(":Str)).length=1:=by decide
  have h2:(Str.ofString (if (ts.length==1)=true then ",)" else ")")).length≤2:=by split<;>decide
  have h3:(Str.join ", " ts).length≤piled ts:=by
    cases ts with
    | nil=>show(Str.join ", " []).length≤0;decide
    | cons x r=>have:=join_length_add (x::r) (by simp);lia
  lia
mutual
theorem p7:∀{d:PyData},nY d=true→d.showable=true→d.shown.length+2≤2000*cnt d
  | .none,_,_=>by show(Str.ofString "None").length+2≤2000*1;decide
  | .bool b,_,_=>by
    cases b
    · show(Str.ofString "False").length+2≤2000*1;decide
    · show(Str.ofString "True").length+2≤2000*1;decide
  | .int i,_,hs=>by
    simp only [PyData.showable,decide_eq_true_eq] at hs
    have:=oZ hs
    show(Str.ofString (toString i)).length+2≤2000*1
    lia
  | .tuple ds,hn,hs=>by
    simp only [PyData.showable] at hs
    simp only [nY] at hn
    have h1:=lB hn hs
    have h2:=j3 (PyData.shownAll ds)
    simp only [PyData.shown,cnt]
    lia
  | .str _,hn,_=>by simp [nY] at hn
  | .list _,hn,_=>by simp [nY] at hn
  | .dict _,hn,_=>by simp [nY] at hn
theorem lB:∀{ds:List PyData},iK ds=true→PyData.showableAll ds=true→piled (PyData.shownAll ds)≤2000*kf ds
  | [],_,_=>by simp [PyData.shownAll,piled]
  | d::ds,hn,hs=>by
    simp only [iK,Bool.and_eq_true] at hn
    simp only [PyData.showableAll,Bool.and_eq_true] at hs
    have h1:=p7 hn.1 hs.1
    have h2:=lB hn.2 hs.2
    simp only [PyData.shownAll,kf,piled_cons]
    lia
end
end L2
namespace L2
open PySem PySem.Spec PyProof.Rows
def i9(env:Env):List (Str × NameKind)→List (Str × Addr)→List (Str × Addr)
  | [],cs=>cs
  | (n,k)::r,cs=>i9 env r (if k==.free then(n,(env.cells.lookup n).getD 0)::cs else cs)
theorem kM{env:Env}:∀(names:List (Str × NameKind)) (cs:List (Str × Addr)),(∀y∈names,y.2=.free→∃c,env.cells.lookup y.1=some c)→
    (forIn names cs (fun(x:Str × NameKind) (r:List (Str × Addr))=>(if (x.2==NameKind.free)=true then do let a ←cellOf env x.1;pure (ForInStep.yield ((x.1,a)::r)) else pure (ForInStep.yield r):Sem (ForInStep (List (Str × Addr))))):Sem (List (Str × Addr)))=pure (i9 env names cs)
  | [],cs,_=>rfl
  | (n,k)::r,cs,h=>by
    rw [List.forIn_cons]
    have ih:=fun cs'=>kM (env:=env) r cs' (fun y hy=>h y (List.mem_cons_of_mem _ hy))
    by_cases hk:(k==NameKind.free)=true
    · have hk':k=.free:=by simpa using hk
      obtain⟨c,hc⟩:=h (n,k) List.mem_cons_self hk'
      have e:cellOf env n=pure c:=by unfold cellOf;rw [hc]
      simp only [hk,if_true,e,pure_bind,i9,hc,Option.getD_some]
      exact ih _
    · have hk':(k==NameKind.free)=false:=by simpa using hk
      simp only [hk',Bool.false_eq_true,if_false,pure_bind,i9]
      exact ih _
theorem nG{scope:Scope}{env:Env}(h:∀y∈scope.names,y.2=.free→∃c,env.cells.lookup y.1=some c):closureFor scope env=pure (i9 env scope.names []):=by
  have e:=kM (env:=env) scope.names [] h
  unfold closureFor
  simp only [pure_bind,bind_pure] at e ⊢
  exact e
theorem ke{env:Env}:∀(names:List (Str × NameKind)) (cs:List (Str × Addr)) (x:Str) (c:Addr),(∀y∈names,y.2=.free→∃c,env.cells.lookup y.1=some c)→(∀x c,cs.lookup x=some c→env.cells.lookup x=some c)→(i9 env names cs).lookup x=some c→env.cells.lookup x=some c
  | [],cs,x,c,_,hs,h=>hs x c h
  | (n,k)::r,cs,x,c,hn,hs,h=>by
    refine ke r _ x c (fun y hy=>hn y (List.mem_cons_of_mem _ hy)) (fun x' c' e=>?_) h
    by_cases hk:(k==NameKind.free)=true
    · rw [if_pos hk] at e
      obtain⟨c0,hc⟩:=hn (n,k) List.mem_cons_self (by simpa using hk)
      rw [List.lookup_cons] at e
      cases hx:x'==n with
      | true=>
        rw [hx] at e
        have e1:x'=n:=by simpa using hx
        subst e1
        simp only [hc,Option.getD_some,Option.some.injEq] at e
        rw [←e];exact hc
      | false=>rw [hx] at e;exact hs x' c' e
    · rw [if_neg hk] at e
      exact hs x' c' e
theorem nF{env:Env}:∀(names:List (Str × NameKind)) (cs:List (Str × Addr)) (x:Str),((∃y∈names,y.1=x∧y.2=.free)∨∃c,cs.lookup x=some c)→∃c,(i9 env names cs).lookup x=some c
  | [],cs,x,h=>by
    rcases h with ⟨y,hy,_⟩ | h
    · cases hy
    · exact h
  | (n,k)::r,cs,x,h=>by
    refine nF r _ x ?_
    by_cases hk:(k==NameKind.free)=true
    · rw [if_pos hk,List.lookup_cons]
      cases hx:x==n with
      | true=>exact .inr ⟨_,rfl⟩
      | false=>
        rcases h with ⟨y,hy,e1,e2⟩ | h
        · rcases List.mem_cons.mp hy with z | z
          · subst z;subst e1;simp at hx
          · exact .inl ⟨y,z,e1,e2⟩
        · exact .inr h
    · rw [if_neg hk]
      rcases h with ⟨y,hy,e1,e2⟩ | h
      · rcases List.mem_cons.mp hy with z | z
        · subst z;exact absurd (by simpa using e2) hk
        · exact .inl ⟨y,z,e1,e2⟩
      · exact .inr h
theorem d9{env:Env}:∀{names:List (Str × NameKind)} {x:Str},(∀y∈names,y.2≠.cell)→(names.map fun(n,k)=>if (k==NameKind.free&&env.scope.kind==.function&&env.kindOf n==some .cell) then(n,NameKind.cell) else(n,k)).lookup x=some .cell∨
    (names.map fun(n,k)=>if (k==NameKind.free&&env.scope.kind==.function&&env.kindOf n==some .cell) then(n,NameKind.cell) else(n,k)).lookup x=some .free→∃y∈names,y.1=x∧y.2=.free
  | [],x,_,h=>by simp at h
  | (n,k)::r,x,hc,h=>by
    have ih:=@d9 env r x (fun y hy=>hc y (List.mem_cons_of_mem _ hy))
    have nc:k≠.cell:=hc (n,k) List.mem_cons_self
    rw [List.map_cons] at h
    cases hx:x==n with
    | true=>
      have e1:x=n:=by simpa using hx
      subst e1
      refine⟨(x,k),List.mem_cons_self,rfl,?_⟩
      by_cases q:(k==NameKind.free&&env.scope.kind==.function&&env.kindOf x==some .cell)=true
      · simp only [Bool.and_eq_true,beq_iff_eq] at q;exact q.1.1
      · simp only [q,Bool.false_eq_true,if_false,List.lookup_cons,beq_self_eq_true,Option.some.injEq] at h
        rcases h with h | h
        · exact absurd h nc
        · exact h
    | false=>
      have e2:∀(l:List (Str × NameKind)),((if (k==NameKind.free&&env.scope.kind==.function&&env.kindOf n==some .cell)=true then(n,NameKind.cell) else(n,k))::l).lookup x=l.lookup x:=fun l=>by
        split<;>simp [List.lookup_cons,hx]
      simp only [e2] at h
      obtain⟨y,hy,z⟩:=ih h
      exact⟨y,List.mem_cons_of_mem _ hy,z⟩
theorem fk{env:Env}:∀{names:List (Str × NameKind)} {x:Str},names.lookup x=some .free→
    (names.map fun(n,k)=>if (k==NameKind.free&&env.scope.kind==.function&&env.kindOf n==some .cell) then(n,NameKind.cell) else(n,k)).lookup x≠some .local
  | [],x,h=>by simp at h
  | (n,k)::r,x,h=>by
    rw [List.map_cons]
    cases hx:x==n with
    | true=>
      simp only [hx,List.lookup_cons] at h
      cases h
      show List.lookup x ((if (NameKind.free==NameKind.free&&env.scope.kind==.function&&env.kindOf n==some .cell)=true then(n,NameKind.cell) else(n,NameKind.free))::_)≠_
      split<;>simp [List.lookup_cons,hx]
    | false=>
      simp only [hx,List.lookup_cons] at h
      have ih:=@fk env r x h
      have e2:∀(l:List (Str × NameKind)),((if (k==NameKind.free&&env.scope.kind==.function&&env.kindOf n==some .cell)=true then(n,NameKind.cell) else(n,k))::l).lookup x=l.lookup x:=fun l=>by
        split<;>simp [List.lookup_cons,hx]
      simp only [e2]
      exact ih
def aK(X:Cx)(scope:Scope)(cp:List (Nat × Str))(tgN:List Str)(C:Addr)(s0:Shared)(H0:Hp)(fp:List Addr):Cx where
  prog:=X.prog
  w:=X.w
  K:=X.K
  mg:=X.mg
  base:=X.base
  A:=X.A
  N:=cp.map (·.2)++tgN
  s₀:=s0
  H₀:=H0
  env:=compEnvC scope (i9 X.env scope.names []) C X.env
  outer:=X.stack
  stack:=X.stack
  ex:=fp
  fn:=fun x=>scope.names.lookup x==some .local
  calm:=X.calm
  pn:=[]
  xe:=fun _ _=>False
def vm(X:Cx)(ifs:List Expr)(t:TT):Prop:=
  ∀(pins:List (Addr × Obj)) (s:Shared) (σ:L2.St) (H:Hp) (Q:Bool→Hp→Prop),aE X pins σ H s→t σ H Q→
    wpAny (model X.prog X.w) X.A (forIn ifs true fun c r=>if r=true then do let ok ←isTrue c X.env (eval c X.env);pure (ForInStep.yield ok) else pure (ForInStep.yield r)) (TP X pins σ Q) X.xe s
theorem BQ{X:Cx}:vm X [] (fun _ H Q=>Q true H):=fun _ _ _ H _ I h=>wpAny_tests_nil ⟨H,I,h⟩
theorem BR{X:Cx}{c:Expr}{t:TT}(h:PT X c t):vm X [c] t:=fun pins s σ H Q I q=>wpAny_tests_one (h pins s σ H Q I q)
abbrev vT:Value→Shared→Prop:=fun _ _=>False
def yg(prog:Program)(w:World)(A:Around)(elt tg:Expr)(ifs:List Expr)(env:Env)(it acc:Value)(onward:Shared→Prop)(v:Value)(u:Shared):Prop:=
  wpAny (model prog w) A (letOwnedTupleGo tg it v) (fun _ u1=>wpAny (model prog w) A (assign tg env v) (fun _ u2=>wpAny (model prog w) A
    (forIn ifs true fun c r=>if r=true then do let ok ←isTrue c env (eval c env);pure (ForInStep.yield ok) else pure (ForInStep.yield r)) (fun ok u3=>if ok=true then wpAny (model prog w) A (eval elt env) (fun x u4=>wpAny (model prog w) A (call (.builtin "list.append") [acc,x]) (fun _ u5=>onward u5) vT u4) vT u3 else onward u3) vT u2) vT u1) vT u
theorem qA{prog:Program}{w:World}{A:Around}{R:Result→Shared→Prop}{elt tg iter:Expr}{ifs:List Expr}{scope:Scope}{pos:Pos}{it acc:Value}{env:Env}(J:Nat→Shared→Prop)
    (turn:∀n u,J n u→wpAny (model prog w) A (pyNext it) (fun r u1=>(r=none→R (.ok .next) u1)∧∀v,r=some v→yg prog w A elt tg ifs env it acc (fun u2=>∃m,m < n∧J m u2) v u1) vT u){n0:Nat}{u0:Shared}(fy:J n0 u0):
    codeAny (model prog w) A (.compLoop (.ListComp elt [⟨tg,iter,ifs,0⟩] scope pos) 0 it acc env) R u0:=by
  refine codeAny_loop rfl J (fun n u ju=>?_) n0 fy
  show wpAny _ A ((compTurn (.ListComp elt [⟨tg,iter,ifs,0⟩] scope pos) 0 it acc env).onRaise _) _ _ u;refine wpAny_noted ?_;rw [compTurn_list]
  refine wpAny_bind (wpAny_standAt (wpAny_bind (wpAny_mono (turn n u ju) (fun r u1 k1=>?_) fun _ _ z=>z.elim)))
  cases r with
  | none=>exact wpAny_pure (k1.1 rfl)
  | some v=>
    refine wpAny_bind (wpAny_mono (k1.2 v rfl) (fun _ u2 k2=>wpAny_bind (wpAny_mono k2 (fun _ u3 k3=>wpAny_bind (wpAny_mono k3 (fun ok u4 k4=>?_) fun _ _ z=>z.elim)) fun _ _ z=>z.elim)) fun _ _ z=>z.elim)
    cases ok with
    | false=>rw [if_neg Bool.false_ne_true] at k4;exact wpAny_pure ⟨rfl,k4⟩
    | true=>
      rw [if_pos rfl] at k4
      refine wpAny_bind (wpAny_bind (wpAny_mono k4 (fun x u5 k5=>wpAny_bind (wpAny_mono k5 (fun _ u6 k6=>?_) fun _ _ z=>z.elim)) fun _ _ z=>z.elim));exact wpAny_pure (wpAny_pure ⟨rfl,k6⟩)
def fw(cp:List (Nat × Str))(nT:Nat)(σ:L2.St):L2.St:=cp.map (fun p=>(σ[p.1]?).join)++List.replicate nT none
structure C4 (cp:List (Nat × Str)) (nT:Nat) (wi:TI) (g:TG) (tc:TT) (te:TE) (σ:L2.St) (H:Hp) (Q:VK):Prop where
  go:wi σ H fun J H1=>∀l,H1 l=none→
  ∃W:Nat→Nat→L2.St→Hp→Prop,(∃m,W 0 m (fw cp nT σ) (a' H1 l (.lst [])))∧∀i m σ' H',W i m σ' H'→
    (J.stop i H'∧Q (.ref l) H')∨(J.go i H'∧∃N:L2.St→Hp→Prop,(∀σ2 H2,N σ2 H2→∃m',m' < m∧W (i+1) m' σ2 H2)∧
      ∀x H2,J.yld i H' x H2→g x σ' H2 fun σ2 H3=>tc σ2 H3 fun b H4=>if b=true then te σ2 H4 fun v H5=>∃ys,H5 l=some (.lst ys)∧ys.length < sizeLine∧N σ2 (a' H5 l (.lst (ys++[v]))) else N σ2 H4)
theorem By{X:Cx}{elt iter tg:Expr}{ifs:List Expr}{scope:Scope}{pos:Pos}{wi:TI}{g:TG}{tc:TT}{te:TE}(sc0:Scope)(N0:List Str)(cp:List (Nat × Str))(tgN:List Str)
    (hc:X.calm=true)(hsc:X.env.scope=sc0)(hN0:X.N=N0)(hi:PI X tg iter wi)
    (hg:∀C s0 H0 fp,PG (aK X scope cp tgN C s0 H0 fp) tg g)
    (ht:∀C s0 H0 fp,vm (aK X scope cp tgN C s0 H0 fp) ifs tc)
    (he:∀C s0 H0 fp,PE (aK X scope cp tgN C s0 H0 fp) elt te)
    (hk:scope.kind=.function)(hcell:∀y∈scope.names,y.2≠.cell)(hnames:∀y∈scope.names,y.2=.local→scope.names.lookup y.1=some .local)
    (hfr:∀y∈scope.names,y.2=.free→scope.names.lookup y.1=some .free∧sc0.names.lookup y.1=some .cell)
    (hcp:∀p∈cp,N0[p.1]?=some p.2)(hcq:∀p∈cp,sc0.names.lookup p.2=some .cell∧scope.names.lookup p.2=some .free)
    (hs:∀x,foldedSetIterable iter X.env x=pure x:=by intro _;rfl):
    PE X (.ListComp elt [⟨tg,iter,ifs,0⟩] scope pos) (C4 cp tgN.length wi g tc te):=by
  intro pins s σ H Q I h
  have hkind:∀x,X.env.kindOf x=sc0.names.lookup x:=fun x=>by unfold Env.kindOf;rw [hsc]
  have hfree:∀y∈scope.names,y.2=.free→∃c,X.env.cells.lookup y.1=some c:=fun y hy e=>I.ok.has y.1 (.inl (by rw [hkind];exact(hfr y hy e).2))
  rw [eval_ListComp]
  refine wpAny_comprehension_free (use:=none) rfl hs (nG hfree) hk hnames (wpAny_mono (hi pins s σ H _ I h.go) (fun xv s₁ h₁=>wpAny_mono h₁ (fun itv s₂ h₂=>?_) fun _ _ e=>e) fun _ _ e=>e)
  obtain⟨it,fp,tn,J,H2,rfl,I2,T,st2,f2,hq⟩:=h₂
  refine wpAny_newObj_type ?_
  have hlF:H2 s₂.heap.objs.size=none:=I2.hok.fresh (Nat.le_refl _)
  have I3:aE X pins σ (a' H2 s₂.heap.objs.size (.lst [])) {s₂ with heap:=s₂.heap.push {cls:=.type "list",data:=.seq ([]:List Value).toArray}}:=I2.lnew (t':=s₂.toks) .nil (Nat.zero_le _)
  obtain⟨W,⟨m0,w0⟩,turn⟩:=hq _ hlF
  have f3:∀b∈fp,iu X pins (a' H2 s₂.heap.objs.size (.lst [])) b:=fun b hb=>by
    obtain⟨f0,fr⟩:=f2 b hb
    obtain⟨o,ho,_⟩:=T.obj _ _ st2 b hb
    exact⟨by rw [aw (Nat.ne_of_lt (Heap.lt_size ho))];exact f0,fr⟩
  have st3:tn 0 (s₂.heap.push {cls:=.type "list",data:=.seq ([]:List Value).toArray}):=T.keep _ _ _ st2 fun b _ o e=>Heap.get?_push_of_some _ e
  generalize hD:s₂.heap.objs.size=D at*
  generalize hs3:({s₂ with heap:=s₂.heap.push {cls:=.type "list",data:=.seq ([]:List Value).toArray}}:Shared)=s₃ at*
  have hst3:tn 0 s₃.heap:=by rw [←hs3];exact st3
  refine wpAny_newFunctionEnv hcell (by intro y hy;simp at hy) (fun h₁ hns₁ hsb₁=>?_) hk
  generalize hC:s₃.heap.objs.size=C at*
  have old:∀b o,s₃.heap.get? b=some o→h₁.get? b=some o:=fun b o e=>hsb₁.extBut b o (by rw [←hC];exact Nat.ne_of_lt (Heap.lt_size e)) (Heap.get?_push_of_some _ e)
  have nC:∀b o,s₃.heap.get? b=some o→b≠C:=fun b o e=>by rw [←hC];exact Nat.ne_of_lt (Heap.lt_size e)
  have hHC:(a' H2 D (.lst [])) C=none:=I3.hok.fresh (by rw [hC];exact Nat.le_refl _)
  have clS:∀x c,(i9 X.env scope.names []).lookup x=some c→X.env.cells.lookup x=some c:=fun x c e=>ke _ _ x c hfree (fun _ _ z=>by simp at z) e
  have clH:∀x,(∃y∈scope.names,y.1=x∧y.2=.free)→∃c,(i9 X.env scope.names []).lookup x=some c:=fun x e=>nF _ _ x (.inl e)
  have ok':(aK X scope cp tgN C s₃ (a' H2 D (.lst [])) fp).Ok:=by
    refine⟨I.ok.mod,hk,I.ok.glob,I.ok.blt,by rw [←hC];exact Nat.le_refl _,fun x y c e1 e2=>I.ok.inj x y c (clS _ _ e1) (clS _ _ e2),fun x e=>clH x (d9 hcell e),fun x c e1 e2=>?_,I.ok.hd,I.ok.frames,.inl rfl,fun b hb=>?_,fun b o e=>I3.bs b o e,?_,fun b o e hb=>?_,fun b hb z=>?_,I3.stack,fun b hb=>I3.stkFree b hb⟩
    · exfalso
      have e1':scope.names.lookup x=some .local:=by simpa [aK] using e1
      have e2':=clS x c e2
      obtain⟨c',hc'⟩:∃y∈scope.names,y.1=x∧y.2=.free:=by
        by_cases q:∃y∈scope.names,y.1=x∧y.2=.free
        · exact q
        · exfalso
          have:∀(names:List (Str × NameKind)) (cs:List (Str × Addr)),(¬∃y∈names,y.1=x∧y.2=.free)→cs.lookup x=none→(i9 X.env names cs).lookup x=none:=by
            intro names
            induction names with
            | nil=>intro cs _ h;exact h
            | cons y r ih=>
              intro cs hn hcs
              obtain⟨n,k⟩:=y
              refine ih _ (fun⟨y,hy,z⟩=>hn ⟨y,List.mem_cons_of_mem _ hy,z⟩) ?_
              by_cases hk:(k==NameKind.free)=true
              · rw [if_pos hk,List.lookup_cons]
                cases hx:x==n with
                | true=>exact absurd ⟨(n,k),List.mem_cons_self,(by simpa using hx:x=n).symm,by simpa using hk⟩ hn
                | false=>exact hcs
              · rw [if_neg hk];exact hcs
          have z:=this scope.names [] q rfl
          have e2'':(i9 X.env scope.names []).lookup x=some c:=e2
          rw [z] at e2'';cases e2''
      have z:=(hfr c' hc'.1 hc'.2.2).1
      rw [hc'.2.1,e1'] at z;cases z
    · obtain⟨f0,f1,f4,f5,f6,f7⟩:=f3 b hb
      obtain⟨o,ho,_⟩:=T.obj _ _ hst3 b hb
      exact⟨nC b o ho,fun x c e=>f6 x c (clS x c e)⟩
    · exact Nat.le_trans I.ok.bsz I3.sz
    · obtain⟨f0,f1,f4,f5,f6,f7⟩:=f3 b hb
      rcases f5 with z | z
      · exact I.ok.noex b o e z
      · have:=(I.ok.bs b o e).1
        exact absurd (Nat.lt_of_lt_of_le (Heap.lt_size this) z) (Nat.lt_irrefl _)
    · obtain⟨f0,f1,f4,f5,f6,f7⟩:=f3 b hb
      rcases List.mem_cons.mp (I3.stkSub b z) with z | z
      · exact f1 z
      · exact f4 z
  have I4:aE (aK X scope cp tgN C s₃ (a' H2 D (.lst [])) fp) [] (fw cp tgN.length σ) (a' H2 D (.lst [])) {s₃ with heap:=h₁,toks:=s₃.toks+([]:List (Str × Value)).length}:=by
    refine⟨ok',rfl,I3.bare,Un.kept old,⟨_,hns₁,fun i x v e1 e2 e3=>?_⟩,fun x c e=>?_,hHC,fun x c e=>I3.freeC x c (clS x c e),fun p hp=>by simp [aK] at hp,I3.hok.kept old,by simp [fw,aK]⟩
    · have hlt:i < cp.length:=by
        by_cases q:i < cp.length
        · exact q
        · exfalso
          unfold fw at e2
          rw [List.getElem?_append_right (by simp;lia)] at e2
          rw [List.getElem?_replicate] at e2
          split at e2<;>cases e2
      have e1':(cp.map (·.2))[i]?=some x:=by
        have e1'':(cp.map (·.2)++tgN)[i]?=some x:=e1
        rwa [List.getElem?_append_left (by simp;exact hlt)] at e1''
      have e2':(cp.map (fun p=>(σ[p.1]?).join))[i]?=some (some v):=by
        unfold fw at e2
        rwa [List.getElem?_append_left (by simp;exact hlt)] at e2
      rw [List.getElem?_map,List.getElem?_eq_getElem hlt] at e1' e2'
      have ex:(cp[i]).2=x:=by simpa using e1'
      have ev:(σ[(cp[i]).1]?).join=some v:=by simpa using e2'
      have ev':σ[(cp[i]).1]?=some (some v):=by
        cases q:σ[(cp[i]).1]? with
        | none=>rw [q] at ev;cases ev
        | some z=>rw [q] at ev;simp only [Option.join_some] at ev;rw [ev]
      have hN:=hcp cp[i] (List.getElem_mem hlt)
      rw [←hN0] at hN
      obtain⟨hcl,hcf⟩:=hcq cp[i] (List.getElem_mem hlt)
      rw [ex] at hN hcl hcf
      obtain⟨m,hn,hl⟩:=I3.loc
      obtain⟨u,r,l⟩:=hl _ x v hN ev' (.inr (.inl (by rw [hsc];exact hcl)))
      refine⟨u,r,.inr ?_⟩
      rcases l with ⟨k1,_⟩ | ⟨k1,c,hcc,o,ho,hd⟩
      · rw [hkind,hcl] at k1;cases k1
      · have e3':(relabel scope X.env).names.lookup x=some .local∨(relabel scope X.env).names.lookup x=some .cell∨(relabel scope X.env).names.lookup x=some .free:=e3
        have nl:(relabel scope X.env).names.lookup x=some .cell∨(relabel scope X.env).names.lookup x=some .free:=by
          rcases e3' with z | z | z
          · exact absurd z (fk hcf)
          · exact .inl z
          · exact .inr z
        obtain⟨c',hc'⟩:=clH x (d9 hcell nl)
        have:=clS x c' hc'
        rw [hcc] at this;cases this
        exact⟨nl,c,hc',o,old c o ho,hd⟩
    · obtain⟨v,o,ho,hd⟩:=I3.cell x c (clS x c e)
      exact⟨v,o,old c o ho,hd⟩
  have hst4:tn 0 h₁:=T.keep _ _ _ hst3 fun b _ o e=>old b o e
  have loop:codeAny (model X.prog X.w) X.A (.compLoop (.ListComp elt [⟨tg,iter,ifs,0⟩] scope pos) 0 (.ref it) (.ref D) (compEnvC scope (i9 X.env scope.names []) C X.env))
      (compPost (model X.prog X.w) X.A X.xe none (EP X pins σ Q) (.ref D) C) {s₃ with heap:=h₁,toks:=s₃.toks+([]:List (Str × Value)).length}:=by
    refine qA (fun n s'=>∃i σ' H',aE (aK X scope cp tgN C s₃ (a' H2 D (.lst [])) fp) [] σ' H' s'∧tn i s'.heap∧(∀b∈fp,H' b=none)∧W i n σ' H') ?_ (n0:=m0) ⟨0,_,_,I4,hst4,fun b hb=>(f3 b hb).1,w0⟩
    rintro n s5 ⟨i,σ5,H5,I5,st5,fr5,w5⟩
    have stat:∀{H':Hp},(∀b∈fp,H' b=none)→∀b∈fp,iu (aK X scope cp tgN C s₃ (a' H2 D (.lst [])) fp) [] H' b:=fun hn b hb=>
      ⟨hn b hb,(ok'.exf b hb).1,ok'.exfs b hb,.inl hb,(ok'.exf b hb).2,fun p hp=>by simp [aK] at hp⟩
    rcases turn i n σ5 H5 w5 with ⟨stop,qn⟩ | ⟨go,N,hN,step⟩
    · refine cc (T.done (aK X scope cp tgN C s₃ (a' H2 D (.lst [])) fp) rfl rfl rfl hc i [] s5 σ5 H5 (fun _ _=>False) I5 (stat fr5) st5 stop) fun r s6 ⟨hr,I6⟩=>?_
      subst hr
      refine⟨fun _=>?_,fun v z=>by cases z⟩
      obtain⟨m,hn,_⟩:=I6.loc
      refine⟨m,hn,fun h' sb=>⟨.ref D,H5,?_,rfl,qn⟩⟩
      have ub:=I6.base
      have kp:∀b u,b≠C→s6.heap.get? b=some u→h'.get? b=some u:=fun b u ne e=>sb.extBut b u ne e
      have nit:∀b u,H5 b=some u→b≠C:=fun b u e z=>by
        have:=I6.free
        rw [z] at e
        rw [show H5 C=none from this] at e;cases e
      refine I3.call' (s':={s6 with heap:=h'}) (ch:=fp) I6.os ⟨fun b o e n hb hx=>kp b o (nC b o e) (ub.keep b o e n hb hx),fun b o e n hb hx=>?_,ub.free,fun b o e hx=>?_,ub.tups,ub.frzs,ub.tbls⟩ (fun b u e=>?_) I6.bare (fun b hb=>?_)
      · obtain⟨sl,q⟩:=ub.slot b o e n hb hx
        exact⟨sl,kp b _ (nC b o e) q⟩
      · obtain⟨o',q⟩:=ub.there b o e hx
        exact⟨o',kp b _ (nC b o e) q⟩
      · refine(I6.hok b u e).stay (fun c v hc q=>kp c v ?_ q) (fun _ q=>q) fun _ _ q=>q
        rcases hc with z | z
        · rw [z];exact nit b u e
        · exact nit c _ z
      · obtain⟨f0,f1,f4,f5,f6,f7⟩:=f3 b hb
        exact⟨f5,f1,f6,f7⟩
    · refine cc (T.item (aK X scope cp tgN C s₃ (a' H2 D (.lst [])) fp) rfl rfl rfl hc i [] s5 σ5 H5 (fun _ _=>False) I5 (stat fr5) st5 go) fun r s6 ⟨u,hr,h6⟩=>?_
      subst hr
      refine⟨fun z=>(by cases z),fun v z=>?_⟩
      cases z
      refine cc h6 fun _ s7 ⟨x,H7,I7,r7,y7,st7,fr7⟩=>?_
      have I7':=I7.pinned (stat fr7) (T.obj _ _ st7)
      have again:∀{σ8:L2.St} {H8:Hp} {s8:Shared},aE (aK X scope cp tgN C s₃ (a' H2 D (.lst [])) fp) ([]++ku fp s7.heap) σ8 H8 s8→N σ8 H8→∃m,m < n∧∃i σ' H',aE (aK X scope cp tgN C s₃ (a' H2 D (.lst [])) fp) [] σ' H' s8∧tn i s8.heap∧(∀b∈fp,H' b=none)∧W i m σ' H':=fun{σ8 H8 s8} I8 n8=>by
        obtain⟨m',hm,w8⟩:=hN σ8 H8 n8
        refine⟨m',hm,i+1,σ8,H8,I8.unpinned,T.keep _ _ _ st7 fun b hb o e=>(I8.pin (b,o) (List.mem_append_right _ (List.mem_append_right _ (cK hb e)))).1,fun b hb=>?_,w8⟩
        obtain⟨o,e,d⟩:=T.obj _ _ st7 b hb
        exact(I8.pin (b,o) (List.mem_append_right _ (List.mem_append_right _ (cK hb e)))).2.1
      refine cc (hg C s₃ (a' H2 D (.lst [])) fp _ s7 σ5 H7 x u _ I7' r7 (step x H7 y7)) fun _ s8 ⟨σ8,H8,I8,q8⟩=>?_
      refine cc (ht C s₃ (a' H2 D (.lst [])) fp _ s8 σ8 H8 _ I8 q8) fun ok s9 ⟨H9,I9,q9⟩=>?_
      cases ok with
      | false=>
        rw [if_neg Bool.false_ne_true] at q9 ⊢
        exact again I9 q9
      | true=>
        rw [if_pos rfl] at q9 ⊢
        refine cc (he C s₃ (a' H2 D (.lst [])) fp _ s9 σ8 H9 _ I9 q9) fun v s10 ⟨xv,H10,I10,r10,ys,hl,hz,n10⟩=>?_
        refine cc (jX _ s10 σ8 H10 (.ref D) [xv] (.ref D) [v] (fun _ H=>N σ8 H) I10 rfl (.cons r10 .nil) ⟨D,ys,xv,rfl,rfl,hl,hz,n10⟩) fun _ s11 ⟨_,H11,I11,_,q11⟩=>?_
        exact again I11 q11
  exact codeAny_compStart_list loop (T.self X.A 0 _ _ _ hst4 loop)
end L2
namespace L2
open PySem PySem.Spec PyProof.Rows
section
variable{X:Cx}
def zE(K:PySem.W.Frag):R2:=fun x y H Q=>∃a b xs ys,x=.ref a∧y=.ref b∧bR K H a xs∧bR K H b ys∧xs.length+ys.length≤sizeLine∧∀p H',aA H H'→bR K H' p (xs++ys)→Q (.ref p) H'
theorem Bl:ix X (binaryOp .Add) (zE X.K):=by
  intro pins s σ H x y v u Q I rx ry h
  obtain⟨a,b,xs,ys,rfl,rfl,ha,hb,hz,q⟩:=h
  cases rx;cases ry
  by_cases hx:xs=[]
  · obtain⟨i1,r1,p1,_⟩:=I.tuple ha
    obtain⟨i2,r2,p2,_⟩:=I.tuple hb
    obtain⟨m,F⟩:=I.fr
    have e1:i1=[]:=by subst hx;cases r1;rfl
    refine add_tuples F (yO (g:=X.base)) p1 p2 (fun _=>?_) (fun z1 _=>absurd e1 z1) (fun z1 _ _ _ _=>absurd e1 z1) (by rw [←r1.length,←r2.length];exact hz)
    exact⟨.ref b,H,I,rfl,q b H (aA.refl H) (by rw [hx];exact hb)⟩
  · exact Bm pins s σ H (.ref a) (.ref b) _ _ Q I rfl rfl ⟨a,b,xs,ys,rfl,rfl,ha,hb,hx,hz,fun z=>q a H (aA.refl H) (by rw [z,List.append_nil];exact ha),fun _ p hp=>q p _ (aA.new hp) (bR.of ar)⟩
theorem lY{x:V}{us:List Value}(r:aQ [x] us):∃u,us=[u]∧bA x u:=by
  cases r with
  | cons p p'=>cases p';exact⟨_,rfl,p⟩
theorem sd{prog:Program}{w:World}{A:Around}{E:Value→Shared→Prop}{s:Shared}{t:Addr}{vs:List Value}{Q:List Value→Shared→Prop}(ht:IsTup s.heap t vs.toArray)
    (h:Q vs {s with heap:=(s.heap.push (seqObj "list" #[] 0)).update s.heap.objs.size (Obj.mapSeq (· ++vs.toArray))})(hsz:vs.length≤sizeLine):wpAny (model prog w) A (collect (.ref t)) Q E s:=by
  obtain⟨o,ho,hc,n,hd⟩:=id ht;unfold collect;refine wpAny_bind (wpAny_runValue (codeAny_builtin entry_proto_collect' ?_))
  show wpAny _ _ (do again (.builtin "list.__iadd__" ⟨[←newList [],.ref t],[]⟩)) _ _ s
  refine wpAny_bind (wpAny_newList (wpAny_pure ⟨Code.quiet_builtin _ (by decide+kernel),?_⟩));refine codeAny_builtin entry_list_iadd' ?_
  show wpAny _ _ (Builtin.List.listExtendWith (.ref s.heap.objs.size) (.ref t) (.ref s.heap.objs.size)) _ _ {s with heap:=s.heap.push (seqObj "list" #[] 0)}
  unfold Builtin.List.listExtendWith;have ho':(s.heap.push (seqObj "list" #[] 0)).get? t=some o:=Heap.get?_push_of_some _ ho
  refine wpAny_bind (wpAny_typeOf (T:="tuple") ⟨o,ho',hc⟩ ?_)
  rw [if_pos (by rw [show(Value.type "tuple"==Value.type "tuple")=true from rfl,Bool.or_true])]
  refine wpAny_bind (listItems_at ho' hd ?_);refine wpAny_bind (listItems_at (xs:=#[]) (n:=0) (Heap.get?_push_size _ rfl) rfl ?_)
  rw [if_neg (by simp)];refine wpAny_bind (listUpdate_at (xs:=#[]) (n:=0) (Heap.get?_push_size _ rfl) rfl ?_ (Nat.zero_le _) (by show(#[]++vs.toArray).size≤sizeLine+1;simp only [Array.size_append,List.size_toArray,List.length_nil];lia))
  refine wpAny_pure ?_
  show wpAny (model prog w) A (load s.heap.objs.size >>= fun o=>match o.data with | .seq xs _=>pure xs.toList | _=>unsupported "internal:collect") Q E {s with heap:=(s.heap.push (seqObj "list" #[] 0)).update s.heap.objs.size (Obj.mapSeq (· ++vs.toArray))}
  refine wpAny_bind (wpAny_load (get?_update_seq (Heap.get?_push_size _ rfl) _) ?_);show wpAny _ _ (pure ((#[]:Array Value)++vs.toArray).toList) Q E _;rw [show((#[]:Array Value)++vs.toArray).toList=vs by simp];exact wpAny_pure h
theorem uT{prog:Program}{w:World}{A:Around}{E:Value→Shared→Prop}{s:Shared}{t:Addr}{vs:List Value}{ns:List Int}{Q:Value→Shared→Prop}(ht:IsTup s.heap t vs.toArray)(hI:IntsAre vs ns)(h64:vs.length < 64)
    (h:∀(out:Array Value) (ns':List Int),IntsAre out.toList ns'→ns'.Perm ns→ns'.Pairwise (· ≤·)→Q (.ref (s.heap.objs.size+1)) {s with heap:=sortedAll s.heap vs out}):wpAny (model prog w) A (call (.builtin "sorted") [.ref t]) Q E s:=by
  refine Calls.call_function_entry kind_sorted plain_sorted entry_sorted (args_sorted1 _) ?_;unfold Builtin.«sorted»
  refine wpAny_bind (m:=checkCount "sorted" 1 1 _) (wpAny_pure ?_);refine wpAny_bind (sd ht ?_ (Nat.le_trans (Nat.le_of_lt h64) (by decide)))
  have z:((s.heap.push (seqObj "list" #[] 0)).update s.heap.objs.size (Obj.mapSeq (· ++vs.toArray))).objs.size=s.heap.objs.size+1:=by rw [Heap.size_update,size_push']
  have o:(((s.heap.push (seqObj "list" #[] 0)).update s.heap.objs.size (Obj.mapSeq (· ++vs.toArray))).push (seqObj "list" vs.toArray 0)).get? (s.heap.objs.size+1)=some (seqObj "list" vs.toArray 0):=by rw [←z];exact Heap.get?_push_size _ rfl
  refine wpAny_bind (wpAny_newList ?_);show wpAny _ _ _ _ _ {s with heap:=((s.heap.push (seqObj "list" #[] 0)).update s.heap.objs.size (Obj.mapSeq (· ++vs.toArray))).push (seqObj "list" vs.toArray 0)}
  rw [z];refine wpAny_bind (wpAny_holding (wpAny_call_entry slot_list_sort ⟨_,o,rfl⟩ entry_list_sort (list_sort_tree o hI h64 fun out ns' b1 b2 b3=>⟨_,rfl,?_⟩) (args_list_sort _)))
  exact wpAny_pure ⟨_,rfl,h out ns' b1 b2 b3⟩
theorem r8:df X (.builtin "sorted") (fun xs H Q=>∃(a:Addr) (ns:List Int),xs=[.ref a]∧bR X.K H a (ns.map V.int)∧ns.length < 64∧∀(l:Addr) (ns':List Int) (H':Hp),aA H H'→H l=none→H' l=some (.lst (ns'.map V.int))→ns'.Perm ns→ns'.Pairwise (· ≤·)→Q (.ref l) H'):=by
  intro pins s σ H xs us Q I r h
  obtain⟨a,ns,rfl,hs,h64,q⟩:=h
  obtain⟨u,rfl,ru⟩:=lY r
  cases ru
  obtain⟨its,rv,p,hz⟩:=I.tuple hs
  have hl:=rv.length
  rw [List.length_map] at hl
  refine uT p (uw rv) (by lia) fun out ns' a1 a2 a3=>?_
  obtain⟨e,he⟩:=sortedAll_at s.heap its out
  have hf:H (s.heap.objs.size+1)=none:=I.hok.fresh (Nat.le_succ _)
  refine⟨.ref (s.heap.objs.size+1),a' H (s.heap.objs.size+1) (.lst (ns'.map V.int)),I.laid (t':=s.toks) (fun _ _=>sortedAll_old) (Nat.le_succ _) ⟨?_,out.toList,e,md a1,?_⟩,rfl,q _ ns' _ (aA.new hf) hf ar a2 a3⟩
  · rw [List.length_map,a2.length_eq]
    exact Nat.le_trans (Nat.le_of_lt h64) (by decide)
  · simpa [seqObj] using he
end
end L2
namespace L2
open PySem PySem.Spec PyProof.Rows
section
variable{X:Cx}
end
theorem xx{e:Expr}{es:List Expr}{env:Env}(h:PySem.W.isStarred e=false):starEach (e::es) env=(false,eval e env)::starEach es env:=by
  cases e<;>first | rfl | cases h
theorem Bv{X:Cx}{e:Expr}{es:List Expr}{te:TE}{t:TA}(ha:PE X e te)(hr:PA X es t)(h:PySem.W.isStarred e=false:=by rfl):PA X (e::es) (tV te t):=rq ha hr (xx h)
def wj:List (Int × Int)→TA
  | []=>EQ
  | p::r=>tV (GK (tV (tC (.int p.1)) (tV (tC (.int p.2)) EQ))) (wj r)
@[irreducible] def HF(ps:List (Int × Int)):TA:=wj ps
structure qo where
  one:Int
  other:Int
  top:Int
  bot:Int
  worth:Int
structure aT where
  things:Int
  ties:List qo
  pat:List Int
  asks:Int
structure qo.Ok (n:Int) (t:qo):Prop where
  o0:0≤t.one
  o1:t.one < t.other
  o2:t.other < n
  c0:0≤t.top
  c1:t.top≤t.bot
  b0:1≤t.bot
  b1:t.bot≤100
  w0:0≤t.worth
  w1:t.worth≤1000
  cop:Int.gcd t.top t.bot=1
structure aT.Ok (w:aT):Prop where
  t0:0≤w.things
  t1:w.things≤12
  ties:∀t∈w.ties,t.Ok w.things
  len:w.ties.length≤16
  pl:(w.pat.length:Int)=w.things
  pat:∀p∈w.pat,0≤p∧p≤20
  a0:0≤w.asks
  a1:w.asks≤40
def Fh(K:PySem.W.Frag)(H:Hp)(v:V)(t:qo):Prop:=∃p q,v=.ref p∧bR K H p [.int t.one,.int t.other,.ref q,.int t.worth]∧bR K H q [.int t.top,.int t.bot]
inductive qp (K:PySem.W.Frag) (H:Hp):List V→List qo→Prop
  | nil:qp K H [] []
  | cons {v vs t ts}:Fh K H v t→qp K H vs ts→qp K H (v::vs) (t::ts)
structure HQ (K:PySem.W.Frag) (H:Hp) (v:V) (w:aT):Prop where
  ex:∃a b c ts,v=.ref a∧bR K H a [.int w.things,.ref b,.ref c,.int w.asks]∧bR K H b ts∧qp K H ts w.ties∧bR K H c (w.pat.map V.int)
section
variable{K:PySem.W.Frag}{H H':Hp}
end
theorem uE{t b:Int}(hb:0 < b)(h0:0≤t)(h1:t≤b)(h2:b≤100):0≤(bC t b).1∧(bC t b).1≤(bC t b).2∧1≤(bC t b).2∧(bC t b).2≤100:=by
  obtain⟨d,e1,e2,e3,e4,e5⟩:=iH (t:=t) (b:=b) (by lia)
  generalize (bC t b).1=x at*
  generalize (bC t b).2=y at*
  have dp:0 < d:=by
    rcases Int.lt_or_gt_of_ne e2 with z | z
    · exfalso
      have:y*d < 0:=Int.mul_neg_of_pos_of_neg e5 z
      lia
    · exact z
  have x0:0≤x:=by
    rcases Int.lt_or_le x 0 with z | z
    · have:x*d < 0:=Int.mul_neg_of_neg_of_pos z dp
      lia
    · exact z
  have xy:x≤y:=by
    rcases Int.lt_or_le y x with z | z
    · have:y*d < x*d:=Int.mul_lt_mul_of_pos_right z dp
      lia
    · exact z
  have yb:y≤y*d:=by
    have:=Int.mul_le_mul_of_nonneg_left (show(1:Int)≤d by lia) (show 0≤y by lia)
    lia
  exact⟨x0,xy,by lia,by lia⟩
end L2
namespace L2
open PySem PySem.Spec PyProof.Rows
inductive mO {α β:Type} (R:α→β→Prop):List α→List β→Prop
  | nil:mO R [] []
  | cons {a b as bs}:R a b→mO R as bs→mO R (a::as) (b::bs)
namespace mO
variable{α β:Type}{R S:α→β→Prop}
theorem mono(h:∀a b,R a b→S a b):∀{as:List α} {bs:List β},mO R as bs→mO S as bs
  | _,_,.nil=>.nil
  | _,_,.cons x r=>.cons (h _ _ x) (mono h r)
theorem len:∀{as:List α} {bs:List β},mO R as bs→as.length=bs.length
  | _,_,.nil=>rfl
  | _,_,.cons _ r=>by simp [len r]
theorem snoc{a:α}{b:β}(h:R a b):∀{as:List α} {bs:List β},mO R as bs→mO R (as++[a]) (bs++[b])
  | _,_,.nil=>.cons h .nil
  | _,_,.cons x r=>.cons x (snoc h r)
theorem get:∀{as:List α} {bs:List β} {i:Nat} {b:β},mO R as bs→bs[i]?=some b→∃a,as[i]?=some a∧R a b
  | _,_,_,_,.nil,e=>by simp at e
  | _,_,0,_,.cons x _,e=>by simp at e;subst e;exact⟨_,rfl,x⟩
  | _,_,i+1,b,.cons _ r,e=>by
    obtain⟨v,h1,h2⟩:=get (i:=i) (b:=b) r (by simpa using e)
    exact⟨v,by simpa using h1,h2⟩
end mO
section
variable{K:PySem.W.Frag}{a l:Addr}{xs:List V}{g:TG}{tc:TT}{te:TE}{Q:VK}{σ:L2.St}{H:Hp}{α β:Type}{us:List α}{cp:List (Nat × Str)}{nT:Nat}
def GV(bg:Hp→V→β→Prop)(SI:L2.St→Prop)(us:List α)(f:α→Option β)(H:Hp)(l:Addr)(i:Nat)(σ:L2.St)(H':Hp):Prop:=SI σ∧aA H H'∧∃vs,H' l=some (.lst vs)∧vs.length≤i∧mO (bg H') vs ((us.take i).filterMap f)
end
theorem mM:∀{a b:List Int},a.Perm b→a.Pairwise (· ≤·)→b.Pairwise (· ≤·)→a=b
  | [],b,p,_,_=>by
    have:=p.length_eq
    exact(List.length_eq_zero_iff.mp this.symm).symm
  | x::a,b,p,h1,h2=>by
    cases b with
    | nil=>have:=p.length_eq;simp at this
    | cons y b=>
      have h1':=List.pairwise_cons.mp h1
      have h2':=List.pairwise_cons.mp h2
      have e:x=y:=by
        have m1:y∈x::a:=p.mem_iff.mpr (by simp)
        have m2:x∈y::b:=p.mem_iff.mp (by simp)
        rcases List.mem_cons.mp m1 with z | z
        · exact z.symm
        · rcases List.mem_cons.mp m2 with z2 | z2
          · exact z2
          · have:=h1'.1 y z
            have:=h2'.1 x z2
            lia
      subst e
      rw [mM ((List.perm_cons x).mp p) h1'.2 h2'.2]
def jK(ns:List Int):List Int:=ns.mergeSort
theorem zX{ns ns':List Int}(p:ns'.Perm ns)(h:ns'.Pairwise (· ≤·)):ns'=jK ns:=by
  refine mM (p.trans (List.mergeSort_perm ns _).symm) h ?_
  have:=List.pairwise_mergeSort (le:=fun a b:Int=>decide (a≤b)) (fun a b c h1 h2=>by simp at*;lia) (fun a b=>by simp;lia) ns
  exact this.imp fun h=>by simpa using h
theorem i5(ns:List Int):(jK ns).Perm ns:=List.mergeSort_perm ns _
theorem qa{ns:List Int}{x:Int}:x∈jK ns↔ x∈ns:=(i5 ns).mem_iff
theorem p_(ns:List Int):(jK ns).length=ns.length:=(i5 ns).length_eq
section
variable{X:Cx}{K:PySem.W.Frag}{pos:Pos}
theorem yE(h:X.K=K):Ao X (EB K):=h ▸ vP
theorem wC(h:X.K=K):df X (.builtin "len") (fun xs H Q=>∃p ys,xs=[.ref p]∧(cP K H p ys∨bR K H p ys)∧Q (.int ys.length) H):=h ▸ kL
theorem BC{es:List Expr}{k:Nat}{t:Aq}{n:Nat}(hK:X.K=K)(hc:X.calm=true)(h:xM X es t)(hn:(assignEach es X.env).length=n:=by rfl)(hst:(assignEach es X.env).findIdx? (·.1)=none:=by rfl):PG X (.Tuple es k pos) (AS K n t):=hK ▸ Ec hc h hn hst
theorem BF{tg l:Expr}{tl:TE}(h:X.K=K)(hl:PE X l tl):PI X tg l (FD K tl):=h ▸ Ed hl
theorem sZ{tg l:Expr}{tl:TE}(h:X.K=K)(hl:PE X l tl):PI X tg l (CM K tl):=h ▸ BE hl
end
instance:Inhabited qo:=⟨⟨0,1,1,1,0⟩⟩
def aT.tie(W:aT)(k:Int):qo:=W.ties.getD k.toNat default
def aT.has(W:aT)(k thing:Int):Bool:=(W.tie k).one==thing || (W.tie k).other==thing
def aT.many(W:aT)(asked:List Int)(thing:Int):Int:=((asked.filter fun k=>W.has k thing).length:Nat)
def aT.bears(W:aT)(asked taken:List Int)(thing:Int):Bool:= !taken.contains thing&&decide (W.many asked thing < W.pat.getD thing.toNat 0)
def aT.may(W:aT)(asked taken:List Int)(k:Int):Bool:= !(asked.contains k || decide (W.asks≤(asked.length:Int)))&&(W.bears asked taken (W.tie k).one&&W.bears asked taken (W.tie k).other)
def aT.askd(asked:List Int)(k:Int):List Int:=jK (asked++[k])
def aT.took(W:aT)(taken:List Int)(k:Int)(truth:Bool):List Int:=if truth then jK (taken++[(W.tie k).one,(W.tie k).other]) else taken
def aT.rng(W:aT):List Int:=(List.range W.ties.length).map Int.ofNat
def aT.can(W:aT)(asked taken:List Int):List Int:=W.rng.filter fun k=>W.may asked taken k
def mf(W:aT)(k:Int):Prop:=0≤k∧k < (W.ties.length:Int)
theorem mf.get{W:aT}{k:Int}(h:mf W k):W.ties[k.toNat]?=some (W.tie k):=by
  have hk:k.toNat < W.ties.length:=by have:=h.1;have:=h.2;lia
  unfold aT.tie
  rw [List.getD_eq_getElem?_getD,List.getElem?_eq_getElem hk];rfl
theorem mf.ok{W:aT}{k:Int}(h:mf W k)(o:W.Ok):(W.tie k).Ok W.things:=o.ties _ (List.mem_of_getElem? h.get)
theorem q_{W:aT}{k:Int}:k∈W.rng↔ mf W k:=by
  unfold aT.rng mf
  rw [List.mem_map]
  constructor
  · rintro⟨n,hn,rfl⟩
    have:=List.mem_range.mp hn
    exact⟨Int.natCast_nonneg n,by simp;lia⟩
  · rintro⟨h0,h1⟩
    exact⟨k.toNat,List.mem_range.mpr (by lia),by simp;lia⟩
def Df(K:PySem.W.Frag)(H:Hp)(v:V)(asked taken:List Int):Prop:=∃a b c,v=.ref a∧bR K H a [.ref b,.ref c]∧bR K H b (asked.map V.int)∧bR K H c (taken.map V.int)
theorem Df.ts{K:PySem.W.Frag}{H H':Hp}(s:vn H H'){v:V}{asked taken:List Int}(h:Df K H v asked taken):Df K H' v asked taken:=by
  obtain⟨a,b,c,e,h1,h2,h3⟩:=h
  exact⟨a,b,c,e,s.tup h1,s.tup h2,s.tup h3⟩
section
variable{K:PySem.W.Frag}{σ:L2.St}{H:Hp}{Q:VK}{i j:Nat}{vW:V}{W:aT}{k:Int}
end
def C3(k:Int):Prop:= -1000000≤k∧k≤1000000
def Dk(n dep:Nat)(d:PyData):Prop:=d.showable=true∧nY d=true∧L2.cnt d≤n∧d.depth≤dep
theorem Dk.mono{n m dep e:Nat}{d:PyData}(h:Dk n dep d)(h1:n≤m)(h2:dep≤e):Dk m e d:=⟨h.1,h.2.1,Nat.le_trans h.2.2.1 h1,Nat.le_trans h.2.2.2 h2⟩
theorem Dk.int{k:Int}(h:C3 k):Dk 1 2 (.int k):=by
  refine⟨?_,rfl,Nat.le_refl _,by simp [PyData.depth]⟩
  show decide (k.natAbs.log2 < 1920)=true
  rw [decide_eq_true_eq]
  exact Nat.lt_trans ((show Bt 64 k by have:=h.1;have:=h.2;unfold Bt;lia).log (by decide)) (by decide)
theorem Dk.bool(b:Bool):Dk 1 2 (.bool b):=⟨rfl,rfl,Nat.le_refl _,by simp [PyData.depth]⟩
theorem Dk.none:Dk 1 2 .none:=⟨rfl,rfl,Nat.le_refl _,by simp [PyData.depth]⟩
theorem Dk.all{n dep:Nat}:∀{ds:List PyData},(∀d∈ds,Dk n dep d)→PyData.showableAll ds=true∧iK ds=true∧kf ds≤ds.length*n∧PyData.depthAll ds≤dep
  | [],_=>⟨rfl,rfl,by simp [kf],by simp [PyData.depthAll]⟩
  | d::r,h=>by
    obtain⟨a1,a2,a3,a4⟩:=h d (by simp)
    obtain⟨b1,b2,b3,b4⟩:=Dk.all (ds:=r) fun x hx=>h x (by simp [hx])
    refine⟨?_,?_,?_,?_⟩
    · simp only [PyData.showableAll,a1,b1,Bool.and_self]
    · simp only [iK,a2,b2,Bool.and_self]
    · simp only [kf,List.length_cons,Nat.succ_mul]
      lia
    · simp only [PyData.depthAll];lia
theorem Dk.tup{n dep m:Nat}{ds:List PyData}(h:∀d∈ds,Dk n dep d)(hl:ds.length≤m):Dk (1+m*n) (dep+2) (.tuple ds):=by
  obtain⟨b1,b2,b3,b4⟩:=Dk.all h
  refine⟨b1,b2,?_,?_⟩
  · simp only [L2.cnt]
    have:=Nat.mul_le_mul_right n hl
    lia
  · simp only [PyData.depth];lia
theorem Dk.ok{n dep:Nat}{d:PyData}(h:Dk n dep d)(h1:n≤8000)(h2:dep≤60):d.showable=true∧d.depth≤60∧d.shown.length≤sizeLine:=by
  have:=p7 h.2.1 h.1
  have sl:sizeLine=16777216:=sizeLine_eq
  have:=h.2.2.1
  exact⟨h.1,Nat.le_trans h.2.2.2 h2,by lia⟩
theorem Dk.ints{ns:List Int}{m:Nat}(hl:ns.length≤m)(h:∀r∈ns,C3 r):Dk (1+m) 4 (.tuple (ns.map .int)):=by
  have:=Dk.tup (n:=1) (dep:=2) (m:=m) (ds:=ns.map PyData.int) (fun d hd=>by
    obtain⟨x,hx,rfl⟩:=List.mem_map.mp hd
    exact Dk.int (h x hx)) (by rw [List.length_map];exact hl)
  simpa using this
section
variable{K:PySem.W.Frag}{H:Hp}
theorem Dk.bools{ns:List Bool}{m:Nat}(hl:ns.length≤m):Dk (1+m) 4 (.tuple (ns.map .bool)):=by
  have:=Dk.tup (n:=1) (dep:=2) (m:=m) (ds:=ns.map PyData.bool) (fun d hd=>by
    obtain⟨x,hx,rfl⟩:=List.mem_map.mp hd
    exact Dk.bool x) (by rw [List.length_map];exact hl)
  simpa using this
def gf(t:qo):PyData:=.tuple [.int t.one,.int t.other,.tuple [.int t.top,.int t.bot],.int t.worth]
def bU(W:aT):PyData:=.tuple [.int W.things,.tuple (W.ties.map gf),.tuple (W.pat.map .int),.int W.asks]
def lL(asked taken:List Int):PyData:=.tuple [.tuple (asked.map .int),.tuple (taken.map .int)]
end
end L2
namespace L2
open PySem PySem.Spec PyProof.Rows
theorem x6:∀{bs:List Bool} {us:List Value} {i:Nat} {v:Value},aQ (bs.map V.bl) us→us[i]?=some v→∃b,bs[i]?=some b∧v=.bool b
  | [],us,i,v,r,e=>by cases r;simp at e
  | b::bs,us,i,v,r,e=>by
    cases r with
    | cons p q=>
      cases i with
      | zero=>simp at e;subst e;cases p;exact⟨b,rfl,rfl⟩
      | succ i=>
        obtain⟨c,h1,h2⟩:=x6 (bs:=bs) (i:=i) (v:=v) q (by simpa using e)
        exact⟨c,by simpa using h1,h2⟩
theorem B5(bs:List Bool):((List.range bs.length).all fun i=>(bs[i]?).getD true)=bs.all id:=by
  rw [Bool.eq_iff_iff,List.all_eq_true,List.all_eq_true]
  constructor
  · intro h b hb
    obtain⟨i,hi,rfl⟩:=List.getElem_of_mem hb
    have:=h i (List.mem_range.mpr hi)
    rw [List.getElem?_eq_getElem hi] at this
    exact this
  · intro h i hi
    have hi':=List.mem_range.mp hi
    rw [List.getElem?_eq_getElem hi']
    exact h _ (List.getElem_mem hi')
section
variable{X:Cx}
theorem yd{k:Nat}{K:PySem.W.Frag}(hr:du k X.A)(hK:X.K=K):df X (.builtin "all") (fun xs H Q=>∃(l:Addr) (bs:List Bool),xs=[.ref l]∧cP K H l (bs.map V.bl)∧Q (.bl (bs.all id)) H):=by
  intro pins s σ H xs us Q I r h
  subst hK
  obtain⟨l,bs,rfl,hs,q⟩:=h
  obtain⟨u,rfl,ru⟩:=lY r
  cases ru
  obtain⟨its,rv,p,hz⟩:=I.list hs
  have hl:=p.isList
  have lt:l < s.heap.objs.size:=by obtain⟨_,e,_⟩:=hl;exact Heap.lt_size e
  refine PySem.call_all_walk (wpAny_pyIter_list hl ?_)
  refine⟨s.heap.objs.size,[s.heap.objs.size,l],[s.heap.objs.size],its.toArray.size,_,_,fun i=>(bs[i]?).getD true,rfl,Walks.list (A:=X.A.in1) hr.hd _ l (Nat.ne_of_lt lt) its.toArray,⟨⟨_,Heap.get?_push_size _ rfl,rfl,rfl⟩,hl.push _⟩,fun i v s' Q' E' hP hQ=>?_,fun h' tk hk=>?_⟩
  · obtain⟨b,e,rfl⟩:=x6 rv (by simpa using hP)
    simp only [e,Option.getD_some] at hQ
    exact wpAny_truthy_bool hQ
  · have e:its.toArray.size=bs.length:=by have:=rv.length;rw [List.length_map] at this;simpa using this.symm
    rw [e,B5]
    refine⟨.bl (bs.all id),H,I.kept fun b x e=>hk b x (fun hm=>?_) (Heap.get?_push_of_some _ e),rfl,q⟩
    rw [List.mem_singleton.mp hm] at e
    exact Nat.lt_irrefl _ (Heap.lt_size e)
end
end L2
namespace L2
theorem x8:PySem.bootBuiltins "all"=some (.builtin "all"):=by decide+kernel
end L2
namespace L2
open PySem PySem.Spec PyProof.Rows
section
variable{prog:Program}{w:World}{A:Around}{E:Value→Shared→Prop}{s:Shared}
theorem Ai{it t:Addr}{i:Nat}{ys}{x:Value}{Q:Value→Shared→Prop}(hi:s.heap.IsTupleIter it t i)(ht:s.heap.IsTuple t ys)(hx:ys[i]?=some x)
    (q:∀g,g.IsTupleIter it t (i+1)→Heap.SameBut it s.heap g→Q x {s with heap:=g}):wpAny (model prog w) A (Builtin.SmallTypes.nextOf (.ref it)) Q E s:=by
  obtain⟨o,ho,hc,hd⟩:=id hi;obtain⟨p,hp,_,n,hpd⟩:=ht;unfold Builtin.SmallTypes.nextOf
  refine wpAny_bind (wpAny_callSpecial?_slot (name:=Str.ofString "__next__") hi.typeIs F.slot_tuple_iterator_next (wpAny_call_entry F.slot_tuple_iterator_next hi.typeIs F.entry_tuple_iterator_next ?_ (F.args_tuple_iterator_next_1 _)))
  show wpAny _ _ (field (.ref it) 0 >>= _) _ _ s;refine wpAny_bind (wpAny_field ho hd (x:=.ref t) rfl ?_)
  show wpAny _ _ (if (Value.ref t==Value.none)=true then _ else _) _ _ s;rw [if_neg (show ¬((Value.ref t==Value.none)=true) from Bool.false_ne_true)]
  show wpAny _ _ (field (.ref it) 1 >>= _) _ _ s;refine wpAny_bind (wpAny_field ho hd (x:=.int i 0) rfl ?_)
  show wpAny _ _ (seqItems? (.ref t) >>= _) _ _ s;refine wpAny_bind (wpAny_seqItems hp hpd ?_)
  simp only [Int.toNat_natCast,hx];refine wpAny_bind (wpAny_setField ho hd (by simp) (wpAny_pure ⟨x,rfl,wpAny_pure (q _ ?_ (Heap.SameBut.update ..))⟩))
  refine⟨_,Heap.get?_update_self _ ho (Obj.isFreed_of_fields (Obj.data_mapFields hd _)),(Obj.cls_mapFields ..).trans hc,?_⟩;rw [Obj.data_mapFields hd];simp [rawInt]
theorem Ah{it t:Addr}{i:Nat}{ys}{Q:Value→Shared→Prop}(hh:A.handled=none)(hi:s.heap.IsTupleIter it t i)(ht:s.heap.IsTuple t ys)(hx:ys[i]?=none)
    (q:∀g e,Heap.ExtBut it s.heap g→(∃o,g.get? e=some o∧o.cls=.type "StopIteration")→E (.ref e) {s with heap:=g}):wpAny (model prog w) A (Builtin.SmallTypes.nextOf (.ref it)) Q E s:=by
  obtain⟨o,ho,hc,hd⟩:=id hi;obtain⟨p,hp,_,n,hpd⟩:=ht;unfold Builtin.SmallTypes.nextOf
  refine wpAny_bind (wpAny_callSpecial?_slot (name:=Str.ofString "__next__") hi.typeIs F.slot_tuple_iterator_next (wpAny_call_entry F.slot_tuple_iterator_next hi.typeIs F.entry_tuple_iterator_next ?_ (F.args_tuple_iterator_next_1 _)))
  show wpAny _ _ (field (.ref it) 0 >>= _) _ _ s;refine wpAny_bind (wpAny_field ho hd (x:=.ref t) rfl ?_)
  show wpAny _ _ (if (Value.ref t==Value.none)=true then _ else _) _ _ s;rw [if_neg (show ¬((Value.ref t==Value.none)=true) from Bool.false_ne_true)]
  show wpAny _ _ (field (.ref it) 1 >>= _) _ _ s;refine wpAny_bind (wpAny_field ho hd (x:=.int i 0) rfl ?_)
  show wpAny _ _ (seqItems? (.ref t) >>= _) _ _ s;refine wpAny_bind (wpAny_seqItems hp hpd ?_)
  simp only [Int.toNat_natCast,hx];refine wpAny_bind (wpAny_rule (wpAny_bind (wpAny_setField ho hd (by simp) ?_)))
  show wpAny _ _ (newExc (.type "StopIteration") [] >>= _) _ _ _;refine wpAny_bind ?_;simp only [newExc,newTuple]
  refine wpAny_bind (wpAny_newObj_type ?_ (by size_fits));refine wpAny_bind (m:=firstArgMember _ _) (wpAny_of_eq (a:=Value.none) (by first | rfl | (simp only [firstArgMember];rfl)) ?_)
  refine wpAny_newObj_type ?_ (by size_fits);simp only [raiseNew];refine wpAny_bind (wpAny_handled ?_);first | rw [show A.in1.handled=none from hh] | rw [hh]
  refine wpAny_bind (wpAny_pure (wpAny_throw ?_));exact q _ _ (((Heap.SameBut.update ..).extBut.push _).push _) ⟨_,Heap.get?_push_size _ rfl,rfl⟩
end
structure Sc (prog:Program) (w:World) (it l:Addr) (St:Nat→Heap→Prop) (Sq:Heap→Array Value→Prop):Prop where
  stay:∀{k h h'},St k h→(∀o,h.get? it=some o→h'.get? it=some o)→St k h'
  live:∀{k h},St k h→∃o,h.get? it=some o∧∀v,o.data≠.cell v
  row:∀{h h' xs},Sq h xs→(∀o,h.get? l=some o→h'.get? l=some o)→Sq h' xs
  next:∀{A:Around} {s:Shared} {E:Value→Shared→Prop} {Q:Value→Shared→Prop} {k:Nat} {xs:Array Value} {x:Value},St k s.heap→Sq s.heap xs→xs[k]?=some x→(∀g,St (k+1) g→Heap.SameBut it s.heap g→Q x {s with heap:=g})→wpAny (model prog w) A (Builtin.SmallTypes.nextOf (.ref it)) Q E s
  last:∀{A:Around} {s:Shared} {E:Value→Shared→Prop} {Q:Value→Shared→Prop} {k:Nat} {xs:Array Value},A.handled=none→St k s.heap→Sq s.heap xs→xs[k]?=none→(∀g e,Heap.ExtBut it s.heap g→(∃o,g.get? e=some o∧o.cls=.type "StopIteration")→E (.ref e) {s with heap:=g})→wpAny (model prog w) A (Builtin.SmallTypes.nextOf (.ref it)) Q E s
theorem ip{prog:Program}{w:World}(it l:Addr):Sc prog w it l (fun k h=>h.IsTupleIter it l k) (fun h xs=>h.IsTuple l xs) where
  stay:=fun st k=>st.at fun o e=>k o e
  live:=fun st=>by
    obtain⟨o,e,c,d⟩:=st
    exact⟨o,e,fun v z=>by rw [d] at z;cases z⟩
  row:=fun q k=>by
    obtain⟨o,e,r⟩:=q
    exact⟨o,k o e,r⟩
  next:=fun st sq hx q=>Ai st sq hx q
  last:=fun hh st sq hx q=>Ah hh st sq hx q
theorem eF{prog:Program}{w:World}(it l:Addr):Sc prog w it l (fun k h=>h.IsListIter it l k) (fun h xs=>h.IsList l xs) where
  stay:=fun st k=>st.at fun o e=>k o e
  live:=fun st=>by
    obtain⟨o,e,c,d⟩:=st
    exact⟨o,e,fun v z=>by rw [d] at z;cases z⟩
  row:=fun q k=>by
    obtain⟨o,e,r⟩:=q
    exact⟨o,k o e,r⟩
  next:=fun st sq hx q=>wpAny_nextOf_list_item st sq hx q
  last:=fun hh st sq hx q=>wpAny_nextOf_list_end hh st sq hx q
structure i7 (z TI TO i1 i2 l1 l2:Addr):Prop where
  a1:TO≠z
  a2:i1≠z
  a3:i2≠z
  a4:TO≠i1
  a5:TO≠i2
  a6:i1≠i2
  b1:l1≠z
  b2:l1≠TO
  b3:l1≠i1
  b4:l1≠i2
  c1:l2≠z
  c2:l2≠TO
  c3:l2≠i1
  c4:l2≠i2
section
variable{prog:Program}{w:World}{A:Around}{E:Value→Shared→Prop}{s:Shared}{z TI TO i1 i2 l1 l2:Addr}{k:Nat}{xs ys:Array Value}{a b:Value}{S1 S2:Nat→Heap→Prop}{R1 R2:Heap→Array Value→Prop}
theorem E7{x y:Value}{Q:Value→Shared→Prop}(P1:Sc prog w i1 l1 S1 R1)(P2:Sc prog w i2 l2 S2 R2)(D:i7 z TI TO i1 i2 l1 l2)(hz:IsZip s.heap z TI TO .none)(hI:IsPair s.heap TI (.ref i1) (.ref i2))(hO:IsPair s.heap TO a b)(u1:S1 k s.heap)(u2:S2 k s.heap)(r1:R1 s.heap xs)(r2:R2 s.heap ys)(hx:xs[k]?=some x)(hy:ys[k]?=some y)
    (q:∀g,IsZip g z TI TO (rawInt s.heap.objs.size)→IsPair g TO x y→S1 (k+1) g→S2 (k+1) g→IsPair g s.heap.objs.size x y→g.objs.size=s.heap.objs.size+1→(∀c o,c≠z→c≠TO→c≠i1→c≠i2→s.heap.get? c=some o→g.get? c=some o)→Q (.ref s.heap.objs.size) {s with heap:=g}):
    wpAny (model prog w) A (Builtin.«zip.__next__» ⟨[.ref z],[]⟩) (fun f s'=>∃v,f=.done (.ret v)∧Q v s') E s:=by
  show wpAny _ _ (field (.ref z) 2 >>= _) _ _ _;refine wpAny_bind (wpAny_field hz rfl (x:=.bool false) rfl ?_)
  show wpAny _ _ (field (.ref z) 3 >>= _) _ _ _;refine wpAny_bind (wpAny_field hz rfl (x:=.ref TI) rfl ?_);refine wpAny_bind (wpAny_seqItems hI rfl ?_)
  show wpAny _ _ (Builtin.SmallTypes.ownedTupleIsFree (.ref z) >>= _) _ _ _;refine wpAny_bind ?_;unfold Builtin.SmallTypes.ownedTupleIsFree
  refine wpAny_bind (wpAny_field hz rfl (x:=.none) rfl (wpAny_pure ?_));simp only [if_true];refine wpAny_bind (wpAny_rule ?_)
  refine wpAny_bind (wpAny_field hz rfl (x:=.ref TO) rfl ?_);refine wpAny_bind (wpAny_setField_rec hz (by simp) fun g1 z1 e1=>?_)
  replace z1:IsZip g1 z TI TO .ellipsis:=z1;refine wpAny_bind ?_;simp only [List.zipIdx_cons,List.zipIdx_nil,List.forIn_cons,List.forIn_nil]
  refine wpAny_bind (wpAny_bind (wpAny_onRaise ?_));show wpAny _ _ (Builtin.SmallTypes.nextOf (.ref i1) >>= _) _ _ _
  refine wpAny_bind (P1.next (P1.stay u1 fun o e=>e1.extBut _ _ D.a2 e) (P1.row r1 fun o e=>e1.extBut _ _ D.b1 e) hx fun g2 v1 e2=>wpAny_pure ?_)
  have O2:IsPair g2 TO a b:=e2.extBut _ _ D.a4 (e1.extBut _ _ D.a1 hO)
  refine wpAny_bind (wpAny_seqItems O2 rfl ?_);refine wpAny_bind (wpAny_updateSeq_pair O2 fun g3 O3 e3=>?_);replace O3:IsPair g3 TO x b:=O3;refine wpAny_bind (wpAny_letGo (wpAny_pure ?_))
  refine wpAny_bind (wpAny_bind (wpAny_onRaise ?_));show wpAny _ _ (Builtin.SmallTypes.nextOf (.ref i2) >>= _) _ _ _
  have up3:∀c o,c≠z→c≠i1→c≠TO→s.heap.get? c=some o→g3.get? c=some o:=fun c o n1 n2 n3 e=>e3.extBut _ _ n3 (e2.extBut _ _ n2 (e1.extBut _ _ n1 e))
  refine wpAny_bind (P2.next (P2.stay u2 fun o e=>up3 _ _ D.a3 D.a6.symm D.a5.symm e) (P2.row r2 fun o e=>up3 _ _ D.c1 D.c3 D.c2 e) hy fun g4 v2 e4=>wpAny_pure ?_)
  have O4:IsPair g4 TO x b:=e4.extBut _ _ D.a5 O3
  refine wpAny_bind (wpAny_seqItems O4 rfl ?_);refine wpAny_bind (wpAny_updateSeq_pair O4 fun g5 O5 e5=>?_);replace O5:IsPair g5 TO x y:=O5;refine wpAny_bind (wpAny_letGo (wpAny_pure (wpAny_pure ?_)))
  refine wpAny_bind (wpAny_seqItems O5 rfl ?_);refine wpAny_bind (wpAny_newTuple ?_)
  have sz:g5.objs.size=s.heap.objs.size:=by rw [e5.1,e4.1,e3.1,e2.1,e1.1]
  have z5:IsZip g5 z TI TO .ellipsis:=e5.extBut _ _ D.a1.symm (e4.extBut _ _ D.a3.symm (e3.extBut _ _ D.a1.symm (e2.extBut _ _ D.a2.symm z1)))
  have k5:∀c o,c≠z→c≠TO→c≠i1→c≠i2→s.heap.get? c=some o→g5.get? c=some o:=fun c o n1 n2 n3 n4 e=>e5.extBut _ _ n2 (e4.extBut _ _ n4 (up3 c o n1 n3 n2 e))
  have w1:S1 (k+1) g5:=P1.stay v1 fun o e=>e5.extBut _ _ D.a4.symm (e4.extBut _ _ D.a6 (e3.extBut _ _ D.a4.symm e))
  have w2:S2 (k+1) g5:=P2.stay v2 fun o e=>e5.extBut _ _ D.a5.symm e
  have lz:z < g5.objs.size:=Heap.lt_size z5
  show wpAny _ _ (Builtin.SmallTypes.ownedTupleHandOut (.ref z) (.ref g5.objs.size) >>= _) _ _ _;refine wpAny_bind ?_;unfold Builtin.SmallTypes.ownedTupleHandOut
  have z6:IsZip (g5.push {cls:=.type "tuple",data:=.seq #[x,y]}) z TI TO .ellipsis:=Heap.get?_push_of_some _ z5
  refine wpAny_bind (wpAny_setField_rec z6 (by simp) fun g7 z7 e7=>?_);replace z7:IsZip g7 z TI TO (rawInt g5.objs.size):=z7
  refine wpAny_setField_rec z7 (by simp) fun g8 z8 e8=>?_;replace z8:IsZip g8 z TI TO (rawInt g5.objs.size):=z8
  have up:∀c o,c≠z→g5.get? c=some o→g8.get? c=some o:=fun c o n e=>e8.extBut _ _ n (e7.extBut _ _ n (Heap.get?_push_of_some _ e))
  have T8:IsPair g8 g5.objs.size x y:=e8.extBut _ _ (Nat.ne_of_gt lz) (e7.extBut _ _ (Nat.ne_of_gt lz) (Heap.get?_push_size _ rfl))
  have n8:g8.objs.size=g5.objs.size+1:=by rw [e8.1,e7.1,Heap.size_push]
  rw [sz] at z8 T8 n8;refine wpAny_pure ⟨_,rfl,?_⟩;show Q (.ref g5.objs.size) _;rw [sz]
  exact q g8 z8 (up _ _ D.a1 O5) (P1.stay w1 fun o e=>up _ o D.a2 e) (P2.stay w2 fun o e=>up _ o D.a3 e) T8 n8 fun c o n1 n2 n3 n4 e=>up c o n1 (k5 c o n1 n2 n3 n4 e)
theorem Cp{Q:Fin→Shared→Prop}(hh:A.handled=none)(P1:Sc prog w i1 l1 S1 R1)(P2:Sc prog w i2 l2 S2 R2)(D:i7 z TI TO i1 i2 l1 l2)(hz:IsZip s.heap z TI TO .none)(hI:IsPair s.heap TI (.ref i1) (.ref i2))(hO:IsPair s.heap TO a b)(u1:S1 k s.heap)(u2:S2 k s.heap)(r1:R1 s.heap xs)(r2:R2 s.heap ys)(hn:xs[k]?=none∨ys[k]?=none)
    (q:∀g e,(∀c o,c≠z→c≠TO→c≠i1→c≠i2→s.heap.get? c=some o→g.get? c=some o)→(∃o,g.get? e=some o∧o.cls=.type "StopIteration")→E (.ref e) {s with heap:=g}):
    wpAny (model prog w) A (Builtin.«zip.__next__» ⟨[.ref z],[]⟩) Q E s:=by
  show wpAny _ _ (field (.ref z) 2 >>= _) _ _ _;refine wpAny_bind (wpAny_field hz rfl (x:=.bool false) rfl ?_)
  show wpAny _ _ (field (.ref z) 3 >>= _) _ _ _;refine wpAny_bind (wpAny_field hz rfl (x:=.ref TI) rfl ?_);refine wpAny_bind (wpAny_seqItems hI rfl ?_)
  show wpAny _ _ (Builtin.SmallTypes.ownedTupleIsFree (.ref z) >>= _) _ _ _;refine wpAny_bind ?_;unfold Builtin.SmallTypes.ownedTupleIsFree
  refine wpAny_bind (wpAny_field hz rfl (x:=.none) rfl (wpAny_pure ?_));simp only [if_true];refine wpAny_bind (wpAny_rule ?_)
  refine wpAny_bind (wpAny_field hz rfl (x:=.ref TO) rfl ?_);refine wpAny_bind (wpAny_setField_rec hz (by simp) fun g1 z1 e1=>?_)
  replace z1:IsZip g1 z TI TO .ellipsis:=z1;refine wpAny_bind ?_;simp only [List.zipIdx_cons,List.zipIdx_nil,List.forIn_cons,List.forIn_nil]
  refine wpAny_bind (wpAny_bind (wpAny_onRaise ?_));show wpAny _ _ (Builtin.SmallTypes.nextOf (.ref i1) >>= _) _ _ _
  cases hx:xs[k]? with
  | none=>
    refine wpAny_bind (P1.last hh (P1.stay u1 fun o e=>e1.extBut _ _ D.a2 e) (P1.row r1 fun o e=>e1.extBut _ _ D.b1 e) hx fun g2 e e2 he=>?_)
    obtain⟨oe,h1,h2⟩:=he;have z2:IsZip g2 z TI TO .ellipsis:=e2 _ _ D.a2.symm z1
    have nz:e≠z:=fun x=>by subst x;rw [z2] at h1;cases h1;simp at h2
    refine wpAny_setField_rec z2 (by simp) fun g3 _ e3=>q g3 e (fun c o n1 _ n3 _ x=>e3.extBut _ _ n1 (e2 _ _ n3 (e1.extBut _ _ n1 x))) ⟨oe,e3.extBut _ _ nz h1,h2⟩
  | some x=>
    have hy:ys[k]?=none:=by
      rcases hn with h | h
      · rw [hx] at h;cases h
      · exact h
    refine wpAny_bind (P1.next (P1.stay u1 fun o e=>e1.extBut _ _ D.a2 e) (P1.row r1 fun o e=>e1.extBut _ _ D.b1 e) hx fun g2 v1 e2=>wpAny_pure ?_)
    have O2:IsPair g2 TO a b:=e2.extBut _ _ D.a4 (e1.extBut _ _ D.a1 hO)
    refine wpAny_bind (wpAny_seqItems O2 rfl ?_);refine wpAny_bind (wpAny_updateSeq_pair O2 fun g3 O3 e3=>?_);refine wpAny_bind (wpAny_letGo (wpAny_pure ?_))
    refine wpAny_bind (wpAny_bind (wpAny_onRaise ?_));show wpAny _ _ (Builtin.SmallTypes.nextOf (.ref i2) >>= _) _ _ _
    have up3:∀c o,c≠z→c≠i1→c≠TO→s.heap.get? c=some o→g3.get? c=some o:=fun c o n1 n2 n3 e=>e3.extBut _ _ n3 (e2.extBut _ _ n2 (e1.extBut _ _ n1 e))
    refine wpAny_bind (P2.last hh (P2.stay u2 fun o e=>up3 _ _ D.a3 D.a6.symm D.a5.symm e) (P2.row r2 fun o e=>up3 _ _ D.c1 D.c3 D.c2 e) hy fun g4 e e4 he=>?_)
    obtain⟨oe,h1,h2⟩:=he;have z4:IsZip g4 z TI TO .ellipsis:=e4 _ _ D.a3.symm (e3.extBut _ _ D.a1.symm (e2.extBut _ _ D.a2.symm z1))
    have nz:e≠z:=fun x=>by subst x;rw [z4] at h1;cases h1;simp at h2
    refine wpAny_setField_rec z4 (by simp) fun g5 _ e5=>q g5 e (fun c o n1 n2 n3 n4 x=>e5.extBut _ _ n1 (e4 _ _ n4 (up3 c o n1 n3 n2 x))) ⟨oe,e5.extBut _ _ nz h1,h2⟩
theorem lF{x y:Value}{Q:Option Value→Shared→Prop}(P1:Sc prog w i1 l1 S1 R1)(P2:Sc prog w i2 l2 S2 R2)(D:i7 z TI TO i1 i2 l1 l2)(hz:IsZip s.heap z TI TO .none)(hI:IsPair s.heap TI (.ref i1) (.ref i2))(hO:IsPair s.heap TO a b)(u1:S1 k s.heap)(u2:S2 k s.heap)(r1:R1 s.heap xs)(r2:R2 s.heap ys)(hx:xs[k]?=some x)(hy:ys[k]?=some y)
    (q:∀g,IsZip g z TI TO (rawInt s.heap.objs.size)→IsPair g TO x y→S1 (k+1) g→S2 (k+1) g→IsPair g s.heap.objs.size x y→g.objs.size=s.heap.objs.size+1→(∀c o,c≠z→c≠TO→c≠i1→c≠i2→s.heap.get? c=some o→g.get? c=some o)→Q (some (.ref s.heap.objs.size)) {s with heap:=g}):
    wpAny (model prog w) A (pyNext (.ref z)) Q E s:=by
  have hT:s.TypeIs (.ref z) "zip":=⟨_,hz,rfl⟩;unfold pyNext
  refine wpAny_bind (wpAny_attempt (wpAny_callSpecial?_slot (name:=Str.ofString "__next__") hT F.slot_zip_next (wpAny_call_entry F.slot_zip_next hT F.entry_zip_next ?_ (F.args_zip_next_1 _))))
  exact E7 P1 P2 D hz hI hO u1 u2 r1 r2 hx hy fun g b1 b2 b3 b4 b5 b6 b7=>wpAny_pure (q g b1 b2 b3 b4 b5 b6 b7)
theorem lG{Q:Option Value→Shared→Prop}(hh:A.handled=none)(P1:Sc prog w i1 l1 S1 R1)(P2:Sc prog w i2 l2 S2 R2)(D:i7 z TI TO i1 i2 l1 l2)(hz:IsZip s.heap z TI TO .none)(hI:IsPair s.heap TI (.ref i1) (.ref i2))(hO:IsPair s.heap TO a b)(u1:S1 k s.heap)(u2:S2 k s.heap)(r1:R1 s.heap xs)(r2:R2 s.heap ys)(hn:xs[k]?=none∨ys[k]?=none)
    (q:∀g,(∀c o,c≠z→c≠TO→c≠i1→c≠i2→s.heap.get? c=some o→g.get? c=some o)→Q none {s with heap:=g}):wpAny (model prog w) A (pyNext (.ref z)) Q E s:=by
  have hT:s.TypeIs (.ref z) "zip":=⟨_,hz,rfl⟩;unfold pyNext
  refine wpAny_bind (wpAny_attempt (wpAny_callSpecial?_slot (name:=Str.ofString "__next__") hT F.slot_zip_next (wpAny_call_entry F.slot_zip_next hT F.entry_zip_next (Cp hh P1 P2 D hz hI hO u1 u2 r1 r2 hn fun g e hk he=>?_) (F.args_zip_next_1 _))))
  obtain⟨o,ho,hc⟩:=he;refine wpAny_bind (wpAny_isInstance (T:="StopIteration") (b:=true) ⟨o,ho,hc⟩ isSubtype_stop ?_);exact wpAny_pure (q _ hk)
end
end L2
namespace L2
open PySem PySem.Spec PyProof.Rows
section
variable{X:Cx}{pins:List (Addr × Obj)}{σ:L2.St}{H:Hp}{s:Shared}{h':Heap}
theorem aE.turnedL{t':Nat}{fp:List Addr}(I:aE X pins σ H s)(hf:∀b∈fp,iu X pins H b)(k:∀b o,b∉fp→s.heap.get? b=some o→h'.get? b=some o):aE X pins σ H {s with heap:=h',toks:=t'}:=by
  have hL:X.env.locals∉fp:=fun z=>(hf _ z).2.1 rfl
  have nit:∀b u,H b=some u→b∉fp:=fun b u e z=>by have:=(hf b z).1;rw [this] at e;cases e
  refine I.step (g':=s.gens) (d':=s.drawn) (ch:=fp) (fun b hb=>?_) (fun b o _ _ hc e _=>k b o hc e) (fun b o _ _ hc e _=>⟨o.slots,k b o hc e⟩) (fun _ _ _ _ n=>n) (fun b o hc e=>⟨o,k b o hc e⟩) (fun _ _ e=>e) (fun _ _ _ e=>e) (fun b ps e=>⟨#[],by rw [e];simp⟩) (fun m hm=>?_) (fun b u e=>?_) I.bare
  · obtain⟨f0,f1,f2,f3,f4,f5⟩:=hf b hb
    exact⟨f3,f1,f4,f5⟩
  · obtain⟨o,es,ep,ho,r⟩:=hm
    exact⟨o,es,ep,k _ o hL ho,r⟩
  · refine(I.hok b u e).stay (fun c v hc q=>k c v ?_ q) (fun _ q=>q) fun _ _ q=>q
    rcases hc with z | z
    · rw [z];exact nit b u e
    · exact nit c _ z
theorem aF(I:aE X pins σ H s){b l:Addr}{xs:List V}(f:iu X pins H b)(q:bR X.K H l xs):l≠b:=by
  intro z
  subst z
  rcases q with (q | ⟨o,q⟩) | ⟨o,its,n,hk,_⟩
  · rw [f.1] at q;cases q
  · rw [f.1] at q;cases q
  · have hb:X.base.get? l=some o:=I.ok.mod.kin l o hk
    rcases f.2.2.2.1 with z | z
    · exact I.ok.noex l o hb z
    · exact absurd (Nat.lt_of_lt_of_le (Heap.lt_size (I.ok.bs l o hb).1) z) (Nat.lt_irrefl _)
end
def HK(K:PySem.W.Frag)(l1 l2:Addr):It:=
  ⟨fun i H=>∃xs ys x y,bR K H l1 xs∧bR K H l2 ys∧xs[i]?=some x∧ys[i]?=some y,
   fun i H v H'=>∃p x y,v=.ref p∧H p=none∧H'=a' H p (.tup [x,y])∧∀xs ys,bR K H l1 xs→bR K H l2 ys→xs[i]?=some x∧ys[i]?=some y,
   fun i H=>∃xs ys,bR K H l1 xs∧bR K H l2 ys∧(xs.length≤i∨ys.length≤i)⟩
def C9(z TI TO i1 i2 l1 l2:Addr)(i:Nat)(h:Heap):Prop:=IsZip h z TI TO .none∧IsPair h TI (.ref i1) (.ref i2)∧(∃a b,IsPair h TO a b)∧h.IsTupleIter i1 l1 i∧h.IsTupleIter i2 l2 i
theorem Aj{P:Program}{w:World}{K:PySem.W.Frag}{es:List Expr}{k0:Nat}{pos:Pos}{z TI TO i1 i2:Addr}(l1 l2:Addr)(n1:TO≠z)(n2:i1≠z)(n3:i2≠z)(n4:TO≠i1)(n5:TO≠i2)(n6:i1≠i2)(n7:TI≠z)(n8:TI≠TO)(n9:TI≠i1)(n10:TI≠i2):
    oR P w K (.Tuple es k0 pos) (HK K l1 l2) [z,TI,TO,i1,i2] z (C9 z TI TO i1 i2 l1 l2) where
  mem:=by simp
  obj:=fun i h st b hb=>by
    obtain⟨hz,hI,⟨a,c,hO⟩,u1,u2⟩:=st
    simp only [List.mem_cons,List.not_mem_nil,or_false] at hb
    rcases hb with rfl | rfl | rfl | rfl | rfl
    · exact⟨_,hz,fun v z=>by cases z⟩
    · exact⟨_,hI,fun v z=>by cases z⟩
    · exact⟨_,hO,fun v z=>by cases z⟩
    · obtain⟨o,e,c,d⟩:=u1
      exact⟨o,e,fun v z=>by rw [d] at z;cases z⟩
    · obtain⟨o,e,c,d⟩:=u2
      exact⟨o,e,fun v z=>by rw [d] at z;cases z⟩
  keep:=fun i h h' st k=>by
    obtain⟨hz,hI,⟨a,c,hO⟩,u1,u2⟩:=st
    exact⟨k _ (by simp) _ hz,k _ (by simp) _ hI,⟨a,c,k _ (by simp) _ hO⟩,u1.at fun o e=>k _ (by simp) o e,u2.at fun o e=>k _ (by simp) o e⟩
  item:=by
    intro X hP hw hK hc i pins s σ H E I hf st hg
    subst hP hw hK
    obtain⟨xs,ys,x,y,q1,q2,hx,hy⟩:=hg
    obtain⟨hz,hI,⟨a,b,hO⟩,u1,u2⟩:=id st
    obtain⟨its1,rv1,p1,z1⟩:=I.tuple q1
    obtain⟨its2,rv2,p2,z2⟩:=I.tuple q2
    obtain⟨ux,hux,rux⟩:=rv1.get hx
    obtain⟨uy,huy,ruy⟩:=rv2.get hy
    have fz:=hf z (by simp);have fO:=hf TO (by simp);have f1:=hf i1 (by simp);have f2:=hf i2 (by simp)
    have D:i7 z TI TO i1 i2 l1 l2:=⟨n1,n2,n3,n4,n5,n6,aF I fz q1,aF I fO q1,aF I f1 q1,aF I f2 q1,aF I fz q2,aF I fO q2,aF I f1 q2,aF I f2 q2⟩
    refine lF (xs:=its1.toArray) (ys:=its2.toArray) (ip i1 l1) (ip i2 l2) D hz hI hO u1 u2 p1 p2 (by simpa using hux) (by simpa using huy) fun g gz gO g1 g2 gT gs gk=>?_
    refine⟨_,rfl,wpAny_letOwnedTupleGo_zip gz fun g' gz' ge=>?_⟩
    have lt:∀b∈[z,TI,TO,i1,i2],b < s.heap.objs.size:=fun b hb=>by
      simp only [List.mem_cons,List.not_mem_nil,or_false] at hb
      rcases hb with rfl | rfl | rfl | rfl | rfl
      · exact Heap.lt_size hz
      · exact Heap.lt_size hI
      · exact Heap.lt_size hO
      · obtain⟨o,e,_⟩:=u1;exact Heap.lt_size e
      · obtain⟨o,e,_⟩:=u2;exact Heap.lt_size e
    have hT:H s.heap.objs.size=none:=I.hok.fresh (Nat.le_refl _)
    have vv:aQ [x,y] [ux,uy]:=.cons rux (.cons ruy .nil)
    have I1:aE X pins σ (a' H s.heap.objs.size (.tup [x,y])) {s with heap:=s.heap.push {cls:=.type "tuple",data:=.seq #[ux,uy]},toks:=s.toks}:=
      I.laid (t':=s.toks) (fun b u e=>Heap.get?_push_of_some _ e) (Nat.le_refl _) ⟨(by show 2≤sizeLine;decide),[ux,uy],vv,⟨_,Heap.get?_push_size _ rfl,rfl,_,rfl⟩⟩
    have hf1:∀b∈[z,TI,TO,i1,i2],iu X pins (a' H s.heap.objs.size (.tup [x,y])) b:=fun b hb=>by
      obtain⟨f0,fr⟩:=hf b hb
      exact⟨by rw [aw (Nat.ne_of_lt (lt b hb))];exact f0,fr⟩
    have nzT:s.heap.objs.size≠z:=Nat.ne_of_gt (lt z (by simp))
    have I2:aE X pins σ (a' H s.heap.objs.size (.tup [x,y])) {s with heap:=g',toks:=s.toks}:=by
      refine I1.turnedL (t':=s.toks) hf1 fun b o nb e=>?_
      have nb':b≠z∧b≠TI∧b≠TO∧b≠i1∧b≠i2:=by simpa using nb
      refine ge.extBut _ _ nb'.1 ?_
      rcases Heap.get?_push_cases e with ⟨rfl,rfl⟩ | e
      · exact gT
      · exact gk b o nb'.1 nb'.2.2.1 nb'.2.2.2.1 nb'.2.2.2.2 e
    refine⟨.ref s.heap.objs.size,_,I2,rfl,⟨_,x,y,rfl,hT,rfl,fun xs' ys' w1 w2=>?_⟩,⟨gz',ge.extBut _ _ n7 (gk _ _ n7 n8 n9 n10 hI),⟨ux,uy,ge.extBut _ _ n1 gO⟩,g1.at fun o e=>ge.extBut _ _ n2 e,g2.at fun o e=>ge.extBut _ _ n3 e⟩,fun b hb=>(hf1 b hb).1⟩
    rw [I.tuple_inj w1 q1,I.tuple_inj w2 q2]
    exact⟨hx,hy⟩
  done:=by
    intro X hP hw hK hc i pins s σ H E I hf st hg
    subst hP hw hK
    obtain⟨xs,ys,q1,q2,hn⟩:=hg
    obtain⟨hz,hI,⟨a,b,hO⟩,u1,u2⟩:=id st
    obtain⟨its1,rv1,p1,z1⟩:=I.tuple q1
    obtain⟨its2,rv2,p2,z2⟩:=I.tuple q2
    have fz:=hf z (by simp);have fO:=hf TO (by simp);have f1:=hf i1 (by simp);have f2:=hf i2 (by simp)
    have D:i7 z TI TO i1 i2 l1 l2:=⟨n1,n2,n3,n4,n5,n6,aF I fz q1,aF I fO q1,aF I f1 q1,aF I f2 q1,aF I fz q2,aF I fO q2,aF I f1 q2,aF I f2 q2⟩
    have e1:=rv1.length
    have e2:=rv2.length
    refine lG (xs:=its1.toArray) (ys:=its2.toArray) (I.ok.hd hc) (ip i1 l1) (ip i2 l2) D hz hI hO u1 u2 p1 p2 ?_ fun g gk=>⟨rfl,I.turnedL (t':=s.toks) hf fun b o nb e=>?_⟩
    · rcases hn with hn | hn
      · exact .inl (by simp;lia)
      · exact .inr (by simp;lia)
    · have nb':b≠z∧b≠TI∧b≠TO∧b≠i1∧b≠i2:=by simpa using nb
      exact gk b o nb'.1 nb'.2.2.1 nb'.2.2.2.1 nb'.2.2.2.2 e
  self:=fun A i s Q E st h=>wpAny_pyIter_zip st.1 h
theorem Cq(l1 l2:Addr)(xs ys:Array Value):
    Meets (Builtin.«zip.__new__» ⟨[.type "zip",.ref l1,.ref l2],[]⟩) (fun _ R s=>s.heap.IsTuple l1 xs∧s.heap.IsTuple l2 ys∧
      R (.ok (.ret (.ref (s.heap.objs.size+4)))) {s with heap:=((((s.heap.push {cls:=.type "tuple_iterator",data:=.fields #[.ref l1,.int 0 0]}).push {cls:=.type "tuple_iterator",data:=.fields #[.ref l2,.int 0 0]}).push {cls:=.type "tuple",data:=.seq #[.ref s.heap.objs.size,.ref (s.heap.objs.size+1)]}).push {cls:=.type "tuple",data:=.seq #[.none,.none]}).push {cls:=.type "zip",data:=.fields #[.none,.bool false,.bool false,.ref (s.heap.objs.size+2),.ref (s.heap.objs.size+3)]}}):=
  .of_wp fun prog w A R s h=>by
    obtain⟨hp,g,d,tk,os⟩:=s;obtain⟨t1,t2,h⟩:=h;have sz:=PySem.sub_zip
    have T1:Heap.IsTuple (Shared.heap ⟨hp,g,d,tk,os⟩) l1 xs:=t1
    have T2:Heap.IsTuple (Shared.heap ⟨hp.push {cls:=.type "tuple_iterator",data:=.fields #[.ref l1,.int 0 0]},g,d,tk,os⟩) l2 ys:=Heap.IsTuple.push t2 _
    wp_walk using wpAny_pyIter_tuple T1,wpAny_pyIter_tuple T2
    refine⟨_,rfl,?_⟩
    simp only [Heap.size_push]
    exact h
section
variable{prog:Program}{w:World}{A:Around}{E:Value→Shared→Prop}{s:Shared}
theorem An{l1 l2:Addr}{xs ys:Array Value}{Q:Value→Shared→Prop}(t1:s.heap.IsTuple l1 xs)(t2:s.heap.IsTuple l2 ys)
    (h:∀g,C9 (s.heap.objs.size+4) (s.heap.objs.size+2) (s.heap.objs.size+3) s.heap.objs.size (s.heap.objs.size+1) l1 l2 0 g→(∀c o,s.heap.get? c=some o→g.get? c=some o)→Q (.ref (s.heap.objs.size+4)) {s with heap:=g}):
    wpAny (model prog w) A (call (.type "zip") [.ref l1,.ref l2]) Q E s:=by
  refine callType_new F.called_zip (by decide) (F.typeCall_zip_2 _ _) (F.newCall_zip_2 _ _) (fun obj=>F.args_object_init_3 obj _ _) F.entry_zip_new (Cq l1 l2 xs ys) ⟨t1,t2,?_⟩
  have at5:∀(g:Heap) (o:Obj) (a:Addr),o.isFreed=false→a=g.objs.size→(g.push o).get? a=some o:=fun g o a hf e=>by rw [e];exact Heap.get?_push_size _ hf
  have g5:=at5 ((((s.heap.push {cls:=.type "tuple_iterator",data:=.fields #[.ref l1,.int 0 0]}).push {cls:=.type "tuple_iterator",data:=.fields #[.ref l2,.int 0 0]}).push {cls:=.type "tuple",data:=.seq #[.ref s.heap.objs.size,.ref (s.heap.objs.size+1)]}).push {cls:=.type "tuple",data:=.seq #[.none,.none]}) {cls:=.type "zip",data:=.fields #[.none,.bool false,.bool false,.ref (s.heap.objs.size+2),.ref (s.heap.objs.size+3)]} (s.heap.objs.size+4) rfl (by simp only [Heap.size_push])
  have g4:=at5 (((s.heap.push {cls:=.type "tuple_iterator",data:=.fields #[.ref l1,.int 0 0]}).push {cls:=.type "tuple_iterator",data:=.fields #[.ref l2,.int 0 0]}).push {cls:=.type "tuple",data:=.seq #[.ref s.heap.objs.size,.ref (s.heap.objs.size+1)]}) {cls:=.type "tuple",data:=.seq #[.none,.none]} (s.heap.objs.size+3) rfl (by simp only [Heap.size_push])
  have g3:=at5 ((s.heap.push {cls:=.type "tuple_iterator",data:=.fields #[.ref l1,.int 0 0]}).push {cls:=.type "tuple_iterator",data:=.fields #[.ref l2,.int 0 0]}) {cls:=.type "tuple",data:=.seq #[.ref s.heap.objs.size,.ref (s.heap.objs.size+1)]} (s.heap.objs.size+2) rfl (by simp only [Heap.size_push])
  have g2:=at5 (s.heap.push {cls:=.type "tuple_iterator",data:=.fields #[.ref l1,.int 0 0]}) {cls:=.type "tuple_iterator",data:=.fields #[.ref l2,.int 0 0]} (s.heap.objs.size+1) rfl (by simp only [Heap.size_push])
  have g1:=at5 s.heap {cls:=.type "tuple_iterator",data:=.fields #[.ref l1,.int 0 0]} s.heap.objs.size rfl rfl
  have up:∀{g:Heap} {a:Addr} {u:Obj} (o:Obj),g.get? a=some u→(g.push o).get? a=some u:=fun o e=>Heap.get?_push_of_some o e
  refine⟨⟨_,g5,rfl⟩,h _ ⟨g5,up _ (up _ g3),⟨_,_,up _ g4⟩,⟨_,up _ (up _ (up _ (up _ g1))),rfl,rfl⟩,⟨_,up _ (up _ (up _ g2)),rfl,rfl⟩⟩ fun c o x=>up _ (up _ (up _ (up _ (up _ x))))⟩
end
theorem kG:PySem.bootBuiltins "zip"=some (.type "zip"):=by decide+kernel
def Hn(K:PySem.W.Frag)(ta:TA):TI:=fun σ H R=>ta σ H fun vs H1=>∃a b,vs=[.ref a,.ref b]∧(∃xs,bR K H1 a xs)∧(∃ys,bR K H1 b ys)∧R (HK K a b) H1
theorem Ee{X:Cx}{K:PySem.W.Frag}{es:List Expr}{k0:Nat}{tp:Pos}{a b:Expr}{ta:TA}{p pos:Pos}(hK:X.K=K)(hg:Gl X "zip")(hm:X.mg "zip"=none)(ha:PA X [a,b] ta)(hs:starEach [a,b] X.env=[(false,eval a X.env),(false,eval b X.env)]:=by rfl)(hs2:starEach [b] X.env=[(false,eval b X.env)]:=by rfl):
    PI X (.Tuple es k0 tp) (.Call (.Name "zip" p) [a,b] [] pos) (Hn K ta):=by
  intro pins s σ H R I h
  subst hK
  refine Call_ (il I hg hm kG (PyProof.Rows.callWith_type1 (cc (ha pos pins s σ H _ I h) fun us s1 ⟨vs,H1,I1,r1,q1⟩=>?_) (by rw [hs,hs2]) (by rw [hs2];rfl)))
  obtain⟨a,b,e,⟨xs,qx⟩,⟨ys,qy⟩,q⟩:=q1
  subst e
  cases r1 with
  | cons r rr=>
    cases rr with
    | cons r' rr=>
      cases rr
      cases r
      cases r'
      obtain⟨i1,v1,p1,_⟩:=I1.tuple qx
      obtain⟨i2,v2,p2,_⟩:=I1.tuple qy
      refine An p1 p2 fun g st hk=>wpAny_pyIter_zip st.1 ?_
      have I2:aE X pins σ H1 {s1 with heap:=g,toks:=s1.toks}:=I1.kept (t':=s1.toks) fun b o e=>hk b o e
      refine⟨s1.heap.objs.size+4,[s1.heap.objs.size+4,s1.heap.objs.size+2,s1.heap.objs.size+3,s1.heap.objs.size,s1.heap.objs.size+1],_,_,H1,rfl,I2,Aj a b (show((s1.heap.objs.size+3:Nat)≠s1.heap.objs.size+4) by lia) (show((s1.heap.objs.size:Nat)≠s1.heap.objs.size+4) by lia) (show((s1.heap.objs.size+1:Nat)≠s1.heap.objs.size+4) by lia) (show((s1.heap.objs.size+3:Nat)≠s1.heap.objs.size) by lia) (show((s1.heap.objs.size+3:Nat)≠s1.heap.objs.size+1) by lia) (show((s1.heap.objs.size:Nat)≠s1.heap.objs.size+1) by lia) (show((s1.heap.objs.size+2:Nat)≠s1.heap.objs.size+4) by lia) (show((s1.heap.objs.size+2:Nat)≠s1.heap.objs.size+3) by lia) (show((s1.heap.objs.size+2:Nat)≠s1.heap.objs.size) by lia) (show((s1.heap.objs.size+2:Nat)≠s1.heap.objs.size+1) by lia),st,fun c hc=>?_,q⟩
      have le:s1.heap.objs.size≤c:=by
        simp only [List.mem_cons,List.not_mem_nil,or_false] at hc
        rcases hc with rfl | rfl | rfl | rfl | rfl
        · exact Nat.le_add_right _ 4
        · exact Nat.le_add_right _ 2
        · exact Nat.le_add_right _ 3
        · exact Nat.le_refl _
        · exact Nat.le_add_right _ 1
      have f:=I1.fpOk (H':=H1) le (I1.hok.fresh le)
      exact f
end L2
namespace L2
open PySem PySem.Spec PyProof.Rows
section
variable{prog:Program}{w:World}{A:Around}{E:Value→Shared→Prop}{s:Shared}{e it l:Addr}{k:Nat}{xs:Array Value}{S:Nat→Heap→Prop}{R:Heap→Array Value→Prop}
theorem tQ(P1:Sc prog w it l S R)(hh:A.handled=none)(hne:l≠it)(xs:Array Value):Draws prog w A it [it,l] xs.size (fun i v=>xs[i]?=some v) (fun i h=>S i h∧R h xs) where
  live:=fun _ _ st=>let ⟨o,ho,_⟩:=P1.live st.1;⟨o,ho⟩
  frame:=fun _ _ _ st hk=>⟨P1.stay st.1 fun o e=>hk it (by simp) o e,P1.row st.2 fun o e=>hk l (by simp) o e⟩
  item:=fun i s Q E hi st hQ=>P1.next st.1 st.2 (x:=xs[i]) (by simp [hi]) fun g h1 h2=>hQ _ g s.toks (by simp [hi]) ⟨h1,P1.row st.2 fun o e=>h2.extBut _ _ hne e⟩ h2
  done:=fun s Q E st hE=>P1.last hh st.1 st.2 (by simp) hE
theorem pJ{i:Int}{old:Value}{Q:Option Value→Shared→Prop}(P1:Sc prog w it l S R)(hh:A.handled=none)(he:IsEnum s.heap e it i old)(st:S k s.heap)(sq:R s.heap xs)(hx:xs[k]?=none)(q:∀g,Heap.ExtBut it s.heap g→Q none {s with heap:=g}):wpAny (model prog w) A (pyNext (.ref e)) Q E s:=by
  have hT:s.TypeIs (.ref e) "enumerate":=⟨_,he,rfl⟩;unfold pyNext
  refine wpAny_bind (wpAny_attempt (wpAny_callSpecial?_slot (name:=Str.ofString "__next__") hT F.slot_enumerate_next (wpAny_call_entry F.slot_enumerate_next hT F.entry_enumerate_next ?_ (F.args_enumerate_next_1 _))))
  show wpAny _ _ (field (.ref e) 2 >>= _) _ _ _;refine wpAny_bind (wpAny_field he rfl (x:=.ref it) rfl ?_)
  refine wpAny_bind (P1.last hh st sq hx fun g x hk hx'=>?_);obtain⟨o,ho,hc⟩:=hx'
  refine wpAny_bind (wpAny_isInstance (T:="StopIteration") (b:=true) ⟨o,ho,hc⟩ isSubtype_stop ?_);exact wpAny_pure (q _ hk)
theorem jT{i:Int}{old:Value}{Q:Value→Shared→Prop}(he:IsEnum s.heap e it i old)(h:Q (.ref e) s):wpAny (model prog w) A (pyIter (.ref e)) Q E s:=by
  have hT:s.TypeIs (.ref e) "enumerate":=⟨_,he,rfl⟩
  refine wpAny_pyIter_slot hT F.slot_enumerate_iter (wpAny_call_entry F.slot_enumerate_iter hT F.entry_enumerate_iter ?_ (F.args_enumerate_iter_1 _))
  show wpAny _ _ (ret (.ref e)) _ _ s;exact wpAny_pure ⟨_,rfl,"enumerate",_,hT,F.slot_enumerate_next.lookup,h⟩
end
section
variable{X:Cx}{pins:List (Addr × Obj)}{σ:L2.St}{H:Hp}{s:Shared}
theorem av(I:aE X pins σ H s){b l:Addr}{xs:List V}(f:iu X pins H b)(q:cP X.K H l xs):l≠b:=by
  intro z
  subst z
  rcases q with (q | ⟨o,q⟩) | ⟨o,its,n,hk,_⟩
  · rw [f.1] at q;cases q
  · rw [f.1] at q;cases q
  · have hb:X.base.get? l=some o:=I.ok.mod.kin l o hk
    rcases f.2.2.2.1 with z | z
    · exact I.ok.noex l o hb z
    · exact absurd (Nat.lt_of_lt_of_le (Heap.lt_size (I.ok.bs l o hb).1) z) (Nat.lt_irrefl _)
end
def Dc(K:PySem.W.Frag)(l:Addr):It:=
  ⟨fun i H=>∃xs x,bR K H l xs∧xs[i]?=some x,fun i H v H'=>∃p x,v=.ref p∧H p=none∧H'=a' H p (.tup [.int i,x])∧∀xs,bR K H l xs→xs[i]?=some x,fun i H=>∃xs,bR K H l xs∧xs.length≤i⟩
def vE(e it l:Addr)(i:Nat)(h:Heap):Prop:=(∃old,IsEnum h e it i old)∧h.IsTupleIter it l i
theorem u_{P:Program}{w:World}{K:PySem.W.Frag}{es:List Expr}{k0:Nat}{pos:Pos}{e it:Addr}(l:Addr)(ne:e≠it):oR P w K (.Tuple es k0 pos) (Dc K l) [e,it] e (vE e it l) where
  mem:=by simp
  obj:=fun i h st b hb=>by
    obtain⟨⟨old,he⟩,u⟩:=st
    simp only [List.mem_cons,List.not_mem_nil,or_false] at hb
    rcases hb with rfl | rfl
    · exact⟨_,he,fun v z=>by cases z⟩
    · obtain⟨o,e,c,d⟩:=u
      exact⟨o,e,fun v z=>by rw [d] at z;cases z⟩
  keep:=fun i h h' st k=>by
    obtain⟨⟨old,he⟩,u⟩:=st
    exact⟨⟨old,k _ (by simp) _ he⟩,u.at fun o e=>k _ (by simp) o e⟩
  item:=by
    intro X hP hw hK hc i pins s σ H E I hf st hg
    subst hP hw hK
    obtain⟨xs,x,q1,hx⟩:=hg
    obtain⟨⟨old,he⟩,u⟩:=id st
    obtain⟨its,rv,p,hz⟩:=I.tuple q1
    obtain⟨ux,hux,rux⟩:=rv.get hx
    have fe:=hf e (by simp);have ft:=hf it (by simp)
    have n1:l≠e:=aF I fe q1
    have n2:l≠it:=aF I ft q1
    have hi:i < its.toArray.size:=by have:=(List.getElem?_eq_some_iff.mp hux).1;simpa using this
    refine wpAny_pyNext_enum_itemD (tQ (A:=X.A.in1) (ip it l) (show X.A.in1.handled=none from I.ok.hd hc) n2 its.toArray) he ⟨u,p⟩ hi ne (by simpa using ⟨ne,fun z=>n1 z.symm⟩) fun x' g tk hP ho hs hT hsz hk=>?_
    have ex:x'=ux:=by
      have:its[i]?=some x':=by simpa using hP
      rw [hux] at this;exact(Option.some.inj this).symm
    subst ex
    refine⟨_,rfl,wpAny_letOwnedTupleGo_enum ho fun g' he' ge=>?_⟩
    have lt:∀b∈[e,it],b < s.heap.objs.size:=fun b hb=>by
      simp only [List.mem_cons,List.not_mem_nil,or_false] at hb
      rcases hb with rfl | rfl
      · exact Heap.lt_size he
      · obtain⟨o,e,_⟩:=u;exact Heap.lt_size e
    have hTn:H s.heap.objs.size=none:=I.hok.fresh (Nat.le_refl _)
    have vv:aQ [.int i,x] [.int i tk,x']:=.cons ⟨tk,rfl⟩ (.cons rux .nil)
    have I1:aE X pins σ (a' H s.heap.objs.size (.tup [.int i,x])) {s with heap:=s.heap.push {cls:=.type "tuple",data:=.seq #[.int i tk,x']},toks:=s.toks}:=
      I.laid (t':=s.toks) (fun b u e=>Heap.get?_push_of_some _ e) (Nat.le_refl _) ⟨(by show 2≤sizeLine;decide),[.int i tk,x'],vv,⟨_,Heap.get?_push_size _ rfl,rfl,_,rfl⟩⟩
    have hf1:∀b∈[e,it],iu X pins (a' H s.heap.objs.size (.tup [.int i,x])) b:=fun b hb=>by
      obtain⟨f0,fr⟩:=hf b hb
      exact⟨by rw [aw (Nat.ne_of_lt (lt b hb))];exact f0,fr⟩
    have I2:aE X pins σ (a' H s.heap.objs.size (.tup [.int i,x])) {s with heap:=g',toks:=tk+1}:=by
      refine I1.turnedL (t':=tk+1) hf1 fun b o nb eb=>?_
      have nb':b≠e∧b≠it:=by simpa using nb
      refine ge.extBut _ _ nb'.1 ?_
      rcases Heap.get?_push_cases eb with ⟨rfl,rfl⟩ | eb
      · exact hT
      · exact hk b o nb'.1 nb'.2 eb
    refine⟨.ref s.heap.objs.size,_,I2,rfl,⟨_,x,rfl,hTn,rfl,fun xs' w1=>by rw [I.tuple_inj w1 q1];exact hx⟩,⟨⟨_,by simpa using he'⟩,hs.1.at fun o e=>ge.extBut _ _ (fun z=>ne z.symm) e⟩,fun b hb=>(hf1 b hb).1⟩
  done:=by
    intro X hP hw hK hc i pins s σ H E I hf st hg
    subst hP hw hK
    obtain⟨xs,q1,hn⟩:=hg
    obtain⟨⟨old,he⟩,u⟩:=id st
    obtain⟨its,rv,p,hz⟩:=I.tuple q1
    have e1:=rv.length
    refine pJ (xs:=its.toArray) (ip it l) (I.ok.hd hc) he u p (by simp;lia) fun g gk=>⟨rfl,I.turnedL (t':=s.toks) hf fun b o nb eb=>?_⟩
    have nb':b≠e∧b≠it:=by simpa using nb
    exact gk b o nb'.2 eb
  self:=fun A i s Q E st h=>by
    obtain⟨⟨old,he⟩,u⟩:=st
    exact jT he h
def Da(K:PySem.W.Frag)(l:Addr):It:=
  ⟨fun i H=>∃xs x,cP K H l xs∧xs[i]?=some x,fun i H v H'=>∃p x,v=.ref p∧H p=none∧H'=a' H p (.tup [.int i,x])∧∀xs,cP K H l xs→xs[i]?=some x,fun i H=>∃xs,cP K H l xs∧xs.length≤i⟩
def AK(e it l:Addr)(i:Nat)(h:Heap):Prop:=(∃old,IsEnum h e it i old)∧h.IsListIter it l i
theorem uZ{P:Program}{w:World}{K:PySem.W.Frag}{es:List Expr}{k0:Nat}{pos:Pos}{e it:Addr}(l:Addr)(ne:e≠it):oR P w K (.Tuple es k0 pos) (Da K l) [e,it] e (AK e it l) where
  mem:=by simp
  obj:=fun i h st b hb=>by
    obtain⟨⟨old,he⟩,u⟩:=st
    simp only [List.mem_cons,List.not_mem_nil,or_false] at hb
    rcases hb with rfl | rfl
    · exact⟨_,he,fun v z=>by cases z⟩
    · obtain⟨o,e,c,d⟩:=u
      exact⟨o,e,fun v z=>by rw [d] at z;cases z⟩
  keep:=fun i h h' st k=>by
    obtain⟨⟨old,he⟩,u⟩:=st
    exact⟨⟨old,k _ (by simp) _ he⟩,u.at fun o e=>k _ (by simp) o e⟩
  item:=by
    intro X hP hw hK hc i pins s σ H E I hf st hg
    subst hP hw hK
    obtain⟨xs,x,q1,hx⟩:=hg
    obtain⟨⟨old,he⟩,u⟩:=id st
    obtain⟨its,rv,p,hz⟩:=I.list q1
    obtain⟨ux,hux,rux⟩:=rv.get hx
    have fe:=hf e (by simp);have ft:=hf it (by simp)
    have n1:l≠e:=av I fe q1
    have n2:l≠it:=av I ft q1
    have hi:i < its.toArray.size:=by have:=(List.getElem?_eq_some_iff.mp hux).1;simpa using this
    refine wpAny_pyNext_enum_itemD (tQ (A:=X.A.in1) (eF it l) (show X.A.in1.handled=none from I.ok.hd hc) n2 its.toArray) he ⟨u,p.isList⟩ hi ne (by simpa using ⟨ne,fun z=>n1 z.symm⟩) fun x' g tk hP ho hs hT hsz hk=>?_
    have ex:x'=ux:=by
      have:its[i]?=some x':=by simpa using hP
      rw [hux] at this;exact(Option.some.inj this).symm
    subst ex
    refine⟨_,rfl,wpAny_letOwnedTupleGo_enum ho fun g' he' ge=>?_⟩
    have lt:∀b∈[e,it],b < s.heap.objs.size:=fun b hb=>by
      simp only [List.mem_cons,List.not_mem_nil,or_false] at hb
      rcases hb with rfl | rfl
      · exact Heap.lt_size he
      · obtain⟨o,e,_⟩:=u;exact Heap.lt_size e
    have hTn:H s.heap.objs.size=none:=I.hok.fresh (Nat.le_refl _)
    have vv:aQ [.int i,x] [.int i tk,x']:=.cons ⟨tk,rfl⟩ (.cons rux .nil)
    have I1:aE X pins σ (a' H s.heap.objs.size (.tup [.int i,x])) {s with heap:=s.heap.push {cls:=.type "tuple",data:=.seq #[.int i tk,x']},toks:=s.toks}:=
      I.laid (t':=s.toks) (fun b u e=>Heap.get?_push_of_some _ e) (Nat.le_refl _) ⟨(by show 2≤sizeLine;decide),[.int i tk,x'],vv,⟨_,Heap.get?_push_size _ rfl,rfl,_,rfl⟩⟩
    have hf1:∀b∈[e,it],iu X pins (a' H s.heap.objs.size (.tup [.int i,x])) b:=fun b hb=>by
      obtain⟨f0,fr⟩:=hf b hb
      exact⟨by rw [aw (Nat.ne_of_lt (lt b hb))];exact f0,fr⟩
    have I2:aE X pins σ (a' H s.heap.objs.size (.tup [.int i,x])) {s with heap:=g',toks:=tk+1}:=by
      refine I1.turnedL (t':=tk+1) hf1 fun b o nb eb=>?_
      have nb':b≠e∧b≠it:=by simpa using nb
      refine ge.extBut _ _ nb'.1 ?_
      rcases Heap.get?_push_cases eb with ⟨rfl,rfl⟩ | eb
      · exact hT
      · exact hk b o nb'.1 nb'.2 eb
    refine⟨.ref s.heap.objs.size,_,I2,rfl,⟨_,x,rfl,hTn,rfl,fun xs' w1=>by rw [I.list_inj w1 q1];exact hx⟩,⟨⟨_,by simpa using he'⟩,hs.1.at fun o e=>ge.extBut _ _ (fun z=>ne z.symm) e⟩,fun b hb=>(hf1 b hb).1⟩
  done:=by
    intro X hP hw hK hc i pins s σ H E I hf st hg
    subst hP hw hK
    obtain⟨xs,q1,hn⟩:=hg
    obtain⟨⟨old,he⟩,u⟩:=id st
    obtain⟨its,rv,p,hz⟩:=I.list q1
    have e1:=rv.length
    refine pJ (xs:=its.toArray) (eF it l) (I.ok.hd hc) he u p.isList (by simp;lia) fun g gk=>⟨rfl,I.turnedL (t':=s.toks) hf fun b o nb eb=>?_⟩
    have nb':b≠e∧b≠it:=by simpa using nb
    exact gk b o nb'.2 eb
  self:=fun A i s Q E st h=>by
    obtain⟨⟨old,he⟩,u⟩:=st
    exact jT he h
end L2
namespace L2
open PySem PySem.Spec PyProof.Rows
section
variable{X:Cx}{a:Expr}{ta:TA}{p p2 pos pos2:Pos}
end
end L2
namespace L2
open PySem PySem.Spec PyProof.Rows
theorem wZ:fillsNumberSlot (.type "tuple") "mul"=pure false:=
  PySem.fillsNumberSlot_seq (id:="tuple.__mul__") (r:=some (.builtin "tuple.__rmul__")) F.slot_tuple_mul.lookup (by decide+kernel) F.slot_tuple_rmul.lookup (by decide+kernel)
theorem EF:seqRepeat? (.type "tuple")=pure (some (.builtin "tuple.__mul__")):=by
  unfold seqRepeat?;rw [PySem.seqSlot_of (T:="tuple") (name:="__mul__") (id:="tuple.__mul__") F.slot_tuple_mul.lookup (by decide+kernel),PySem.seqSlot_of (T:="tuple") (name:="__rmul__") (id:="tuple.__rmul__") F.slot_tuple_rmul.lookup (by decide+kernel)];rfl
theorem B4(a:Int)(t:Tok)(l:Addr)(items:Array Value)(n:Nat)(dd:Option Addr)(sl:Array (Option Value)):
    Meets (Builtin.«int.__rmul__» ⟨[.int a t,.ref l],[]⟩) (fun _ R s=>s.heap.get? l=some {cls:=.type "tuple",dict:=dd,data:=.seq items n,slots:=sl}∧R (.ok (.ret Value.notImplemented)) s):=
  .of_wp fun prog w A R s h=>by obtain⟨hp,g,d,tk,os⟩:=s;obtain⟨hl,h⟩:=h;wp_walk;exact⟨_,rfl,h⟩
theorem DN(l:Addr)(x:Value)(n:Nat)(k:Int)(u:Tok)(dd:Option Addr)(sl:Array (Option Value))(h0:2≤k)(h1:k≤100000):
    Meets (Builtin.«tuple.__mul__» ⟨[.ref l,.int k u],[]⟩) (fun _ R s=>s.heap.get? l=some {cls:=.type "tuple",dict:=dd,data:=.seq #[x] n,slots:=sl}∧
      R (.ok (.ret (.ref s.heap.objs.size))) {s with heap:=s.heap.push {cls:=.type "tuple",data:=.seq (List.replicate k.toNat x).toArray}}):=
  .of_wp fun prog w A R s h=>by
    obtain⟨hp,g,d,tk,os⟩:=s;obtain⟨hl,h⟩:=h
    have f1:=AutoSeq1.idx_int
    have c1:¬(decide (k < -(2 ^ 63)) || decide (k≥2 ^ 63))=true:=by simp;lia
    have c2:¬((#[x]:Array Value).isEmpty || k==1)=true:=by simp;lia
    have c3:¬(decide (k≤0) || (#[x]:Array Value).isEmpty)=true:=by simp;lia
    have c4:¬(((#[x]:Array Value).size:Int)*k > (2 ^ 63 - 1) / 8):=by simp;lia
    have c5:¬Builtin.Tuple.tupleTooMany (((#[x]:Array Value).size:Int)*k)=true:=by
      unfold Builtin.Tuple.tupleTooMany;rw [sizeLine_eq];simp;lia
    wp_walk using wpAny_loadPart' hl
    rw [if_neg c1]
    wp_walk using wpAny_loadPart' hl
    rw [if_neg c2]
    wp_walk using wpAny_loadPart' hl
    rw [if_neg c3]
    wp_walk using wpAny_loadPart' hl
    rw [if_neg c4]
    show wpAny _ _ (if Builtin.Tuple.tupleTooMany (((#[x]:Array Value).size:Int)*k)=true then _ else _) _ _ _
    rw [if_neg c5]
    have f0:∀(m:Nat) (acc:Array Value),List.foldl (fun x1 x2=>x1++x2) acc (List.replicate m #[x])=acc++(List.replicate m x).toArray:=by
      intro m
      induction m with
      | zero=>intro acc;simp
      | succ m ih=>intro acc;rw [List.replicate_succ,List.foldl_cons,ih,List.replicate_succ];apply Array.toList_inj.mp;simp
    have e:List.foldl (fun x1 x2=>x1++x2) #[] (List.replicate k.toNat #[x])=(List.replicate k.toNat x).toArray:=by rw [f0];simp
    show wpAny _ _ (Builtin.Tuple.tupleExact (List.foldl (fun x1 x2=>x1++x2) #[] (List.replicate k.toNat #[x])) >>= fun v=>ret v) _ _ _
    rw [e]
    unfold Builtin.Tuple.tupleExact
    refine wpAny_bind (wpAny_newObj_type ?_ (by show(List.replicate k.toNat x).toArray.size≤sizeLine;rw [List.size_toArray,List.length_replicate,sizeLine_eq];lia))
    exact wpAny_pure ⟨_,rfl,h⟩
theorem A8(l:Addr)(x:Value)(n:Nat)(u:Tok)(dd:Option Addr)(sl:Array (Option Value)):
    Meets (Builtin.«tuple.__mul__» ⟨[.ref l,.int 0 u],[]⟩) (fun _ R s=>s.heap.get? l=some {cls:=.type "tuple",dict:=dd,data:=.seq #[x] n,slots:=sl}∧R (.ok (.ret (.ref s.heap.objs.size))) {s with heap:=s.heap.push {cls:=.type "tuple",data:=.seq #[]}}):=
  .of_wp fun prog w A R s h=>by
    obtain⟨hp,g,d,tk,os⟩:=s;obtain⟨hl,h⟩:=h;have f1:=AutoSeq1.idx_int
    have c2:¬((#[x]:Array Value).isEmpty || (0:Int)==1)=true:=by simp
    wp_walk using wpAny_loadPart' hl
    first | rw [if_neg c2] | skip
    wp_walk using wpAny_loadPart' hl
    exact⟨_,rfl,h⟩
theorem A9(l:Addr)(x:Value)(n:Nat)(u:Tok)(dd:Option Addr)(sl:Array (Option Value)):
    Meets (Builtin.«tuple.__mul__» ⟨[.ref l,.int 1 u],[]⟩) (fun _ R s=>s.heap.get? l=some {cls:=.type "tuple",dict:=dd,data:=.seq #[x] n,slots:=sl}∧R (.ok (.ret (.ref l))) s):=
  .of_wp fun prog w A R s h=>by
    obtain⟨hp,g,d,tk,os⟩:=s;obtain⟨hl,h⟩:=h;have f1:=AutoSeq1.idx_int
    wp_walk using wpAny_loadPart' hl
    exact⟨_,rfl,h⟩
section
variable{X:Cx}
def zG(K:PySem.W.Frag):R2:=fun x y H Q=>∃a k v,x=.ref a∧y=.int k∧bR K H a [v]∧0≤k∧k≤100000∧∀p H',aA H H'→bR K H' p (List.replicate k.toNat v)→Q (.ref p) H'
theorem Bs:ix X (binaryOp .Mult) (zG X.K):=by
  intro pins s σ H x y v u Q I rx ry h
  obtain⟨a,k,z,rfl,rfl,ha,k0,k1,q⟩:=h
  cases rx
  obtain⟨t,rfl⟩:=ry
  obtain⟨its,r,p,hz⟩:=I.tuple ha
  obtain⟨uz,rfl,rz⟩:=lY r
  obtain⟨⟨cls,dd,data,sl⟩,ho,hc,n,hd⟩:=id p
  simp only at hc hd
  subst hc hd
  refine wpAny_binaryOp_repeat_ref (T:="tuple") (U:="int") (by decide) ⟨_,ho,rfl⟩ (fun s'=>PySem.typeIs_int s' k t) wZ F.fills_int_mul F.slot_int_rmul EF F.slot_int_index.lookup (call_meets F.slot_int_rmul (PySem.typeIs_int s k t) F.entry_int_rmul (F.args_int_rmul_2 _ _) (B4 k t a #[uz] n dd sl) ⟨ho,rfl,⟨_,ho,rfl⟩,?_⟩)
  have new:∀m:Nat,m=k.toNat→EP X pins σ Q (.ref s.heap.objs.size) {s with heap:=s.heap.push {cls:=.type "tuple",data:=.seq (List.replicate m uz).toArray},toks:=s.toks}:=fun m hm=>by
    have hf:H s.heap.objs.size=none:=I.hok.fresh (Nat.le_refl _)
    have vv:∀j:Nat,aQ (List.replicate j z) (List.replicate j uz):=fun j=>by
      induction j with
      | zero=>exact .nil
      | succ j ih=>exact .cons rz ih
    refine⟨.ref s.heap.objs.size,_,I.laid (t':=s.toks) (o:=.tup (List.replicate m z)) (fun b ob q=>Heap.get?_push_of_some _ q) (Nat.le_refl _) ⟨by rw [List.length_replicate,sizeLine_eq];lia,_,vv m,IsTup.new _ _⟩,rfl,q _ _ (aA.new hf) (bR.of (by rw [ar,hm]))⟩
  rcases(by lia:k=0∨k=1∨2≤k) with e | e | e
  · subst e
    exact call_meets F.slot_tuple_mul ⟨_,ho,rfl⟩ F.entry_tuple_mul (F.args_tuple_mul_2 _ _) (A8 a uz n t dd sl) ⟨ho,new 0 rfl⟩
  · subst e
    exact call_meets F.slot_tuple_mul ⟨_,ho,rfl⟩ F.entry_tuple_mul (F.args_tuple_mul_2 _ _) (A9 a uz n t dd sl) ⟨ho,⟨.ref a,H,I,rfl,q a H (aA.refl H) ha⟩⟩
  · exact call_meets F.slot_tuple_mul ⟨_,ho,rfl⟩ F.entry_tuple_mul (F.args_tuple_mul_2 _ _) (DN a uz n k t dd sl e k1) ⟨ho,new _ rfl⟩
end
end L2
namespace L2
open PySem PySem.Spec PyProof.Rows
section
variable{prog:Program}{w:World}{A:Around}{E:Value→Shared→Prop}{s:Shared}
end
section
variable{X:Cx}{a:Expr}{ta:TA}{p p2 p3 pos pos2 pos3:Pos}
end
end L2
namespace L2
open PySem PySem.Spec PyProof.Rows
theorem wH(l:Addr)(xs:Array Value):
    Meets (Builtin.«enumerate.__new__» ⟨[.type "enumerate",.ref l],[]⟩) (fun _ R s=>s.heap.IsTuple l xs∧R (.ok (.ret (.ref (s.heap.objs.size+1)))) {s with heap:=(s.heap.push {cls:=.type "tuple_iterator",data:=.fields #[.ref l,.int 0 0]}).push {cls:=.type "enumerate",data:=.fields #[.none,.bool false,.ref s.heap.objs.size,rawInt 0,.none,.none]}}):=
  .of_wp fun prog w A R s h=>by
    obtain⟨hp,g,d,tk,os⟩:=s;obtain⟨ht,h⟩:=h;have a1:=sub_enumerate
    have T1:Heap.IsTuple (Shared.heap ⟨hp,g,d,tk,os⟩) l xs:=ht
    obtain⟨⟨cls,dd,data,sl⟩,ho,hc,n,hd⟩:=id ht
    simp only at hc hd
    subst hc hd
    wp_walk using wpAny_loadPart' ho
    refine wpAny_stack_any fun st=>wpAny_pure ?_
    split
    · rename_i c _ _ _ _ _
      cases (c==Value.type "enumerate")
      · wp_walk using wpAny_loadPart' ho,wpAny_pyIter_tuple T1
        refine⟨_,rfl,?_⟩
        simp only [Heap.size_push]
        exact h
      · wp_walk using wpAny_loadPart' ho,wpAny_pyIter_tuple T1
        refine⟨_,rfl,?_⟩
        simp only [Heap.size_push]
        exact h
    · wp_walk using wpAny_loadPart' ho,wpAny_pyIter_tuple T1
      refine⟨_,rfl,?_⟩
      simp only [Heap.size_push]
      exact h
section
variable{prog:Program}{w:World}{A:Around}{E:Value→Shared→Prop}{s:Shared}
theorem ut{l:Addr}{xs:Array Value}{Q:Value→Shared→Prop}(t1:s.heap.IsTuple l xs)(h:∀g,vE (s.heap.objs.size+1) s.heap.objs.size l 0 g→(∀c o,s.heap.get? c=some o→g.get? c=some o)→Q (.ref (s.heap.objs.size+1)) {s with heap:=g}):wpAny (model prog w) A (call (.type "enumerate") [.ref l]) Q E s:=by
  refine callType_new F.called_enumerate (by decide) (F.typeCall_enumerate_1 _) (F.newCall_enumerate_1 _) (fun obj=>F.args_object_init_2 obj _) F.entry_enumerate_new (wH l xs) ⟨t1,?_⟩
  have g2:((s.heap.push {cls:=.type "tuple_iterator",data:=.fields #[.ref l,.int 0 0]}).push {cls:=.type "enumerate",data:=.fields #[.none,.bool false,.ref s.heap.objs.size,rawInt 0,.none,.none]}).get? (s.heap.objs.size+1)=some {cls:=.type "enumerate",data:=.fields #[.none,.bool false,.ref s.heap.objs.size,rawInt 0,.none,.none]}:=by
    have e:s.heap.objs.size+1=(s.heap.push {cls:=.type "tuple_iterator",data:=.fields #[.ref l,.int 0 0]}).objs.size:=by simp only [Heap.size_push]
    rw [e];exact Heap.get?_push_size _ rfl
  exact⟨⟨_,g2,rfl⟩,h _ ⟨⟨.none,g2⟩,⟨_,Heap.get?_push_of_some _ (Heap.get?_push_size _ rfl),rfl,rfl⟩⟩ fun c o x=>Heap.get?_push_of_some _ (Heap.get?_push_of_some _ x)⟩
end
theorem ji:PySem.bootBuiltins "enumerate"=some (.type "enumerate"):=by decide+kernel
def Hl(K:PySem.W.Frag)(ta:TA):TI:=fun σ H R=>ta σ H fun vs H1=>∃a,vs=[.ref a]∧(∃xs,bR K H1 a xs)∧R (Dc K a) H1
def Hk(K:PySem.W.Frag)(ta:TA):TI:=fun σ H R=>ta σ H fun vs H1=>∃a,vs=[.ref a]∧(∃xs,cP K H1 a xs)∧R (Da K a) H1
section
variable{X:Cx}{K:PySem.W.Frag}{es:List Expr}{k0:Nat}{tp:Pos}{a:Expr}{ta:TA}{p pos:Pos}
theorem ze(hK:X.K=K)(hg:Gl X "enumerate")(hm:X.mg "enumerate"=none)(ha:PA X [a] ta)(hs:starEach [a] X.env=[(false,eval a X.env)]:=by rfl):PI X (.Tuple es k0 tp) (.Call (.Name "enumerate" p) [a] [] pos) (Hl K ta):=by
  intro pins s σ H R I h
  subst hK
  refine Call_ (il I hg hm ji (PyProof.Rows.callWith_type1 (cc (ha pos pins s σ H _ I h) fun us s1 ⟨vs,H1,I1,r1,q1⟩=>?_) hs rfl))
  obtain⟨a,e,⟨xs,qx⟩,q⟩:=q1
  subst e
  obtain⟨u,rfl,ru⟩:=lY r1
  cases ru
  obtain⟨i1,v1,p1,_⟩:=I1.tuple qx
  refine ut p1 fun g st hk=>?_
  obtain⟨⟨old,he⟩,hit⟩:=id st
  refine jT he ?_
  have I2:aE X pins σ H1 {s1 with heap:=g,toks:=s1.toks}:=I1.kept (t':=s1.toks) fun b o e=>hk b o e
  refine⟨s1.heap.objs.size+1,[s1.heap.objs.size+1,s1.heap.objs.size],_,_,H1,rfl,I2,u_ a (show((s1.heap.objs.size+1:Nat)≠s1.heap.objs.size) by lia),st,fun c hc=>?_,q⟩
  have le:s1.heap.objs.size≤c:=by
    simp only [List.mem_cons,List.not_mem_nil,or_false] at hc
    rcases hc with rfl | rfl
    · exact Nat.le_add_right _ 1
    · exact Nat.le_refl _
  exact I1.fpOk (H':=H1) le (I1.hok.fresh le)
theorem zc(hK:X.K=K)(hg:Gl X "enumerate")(hm:X.mg "enumerate"=none)(ha:PA X [a] ta)(hs:starEach [a] X.env=[(false,eval a X.env)]:=by rfl):PI X (.Tuple es k0 tp) (.Call (.Name "enumerate" p) [a] [] pos) (Hk K ta):=by
  intro pins s σ H R I h
  subst hK
  refine Call_ (il I hg hm ji (PyProof.Rows.callWith_type1 (cc (ha pos pins s σ H _ I h) fun us s1 ⟨vs,H1,I1,r1,q1⟩=>?_) hs rfl))
  obtain⟨a,e,⟨xs,qx⟩,q⟩:=q1
  subst e
  obtain⟨u,rfl,ru⟩:=lY r1
  cases ru
  obtain⟨i1,v1,p1,_⟩:=I1.list qx
  refine call_enumerate_list p1.isList fun g he hit hsz hk=>?_
  refine jT he ?_
  have I2:aE X pins σ H1 {s1 with heap:=g,toks:=s1.toks}:=I1.kept (t':=s1.toks) fun b o e=>hk b o e
  refine⟨s1.heap.objs.size+1,[s1.heap.objs.size+1,s1.heap.objs.size],_,_,H1,rfl,I2,uZ a (show((s1.heap.objs.size+1:Nat)≠s1.heap.objs.size) by lia),⟨⟨_,he⟩,hit⟩,fun c hc=>?_,q⟩
  have le:s1.heap.objs.size≤c:=by
    simp only [List.mem_cons,List.not_mem_nil,or_false] at hc
    rcases hc with rfl | rfl
    · exact Nat.le_add_right _ 1
    · exact Nat.le_refl _
  exact I1.fpOk (H':=H1) le (I1.hok.fresh le)
end
end L2
namespace L2
open PySem PySem.Spec PyProof.Rows
theorem xf{X:Cx}:ix X (compareOp .IsNot) (fun x y H Q=>∃b c,x=.bl b∧y=.bl c∧Q (.bl (!(b==c))) H):=by
  intro pins s σ H x y v u Q I rx ry h
  obtain⟨b,c,rfl,rfl,q⟩:=h
  cases rx;cases ry
  refine wpAny_isNot_plain (by cases b<;>cases c<;>rfl) ⟨.bl (!(b==c)),H,I,?_,q⟩
  show Value.bool _=Value.bool _
  cases b<;>cases c<;>rfl
def Cv(K:PySem.W.Frag)(l1 l2:Addr):It:=
  ⟨fun i H=>∃xs ys x y,cP K H l1 xs∧bR K H l2 ys∧xs[i]?=some x∧ys[i]?=some y,
   fun i H v H'=>∃p x y,v=.ref p∧H p=none∧H'=a' H p (.tup [x,y])∧∀xs ys,cP K H l1 xs→bR K H l2 ys→xs[i]?=some x∧ys[i]?=some y,
   fun i H=>∃xs ys,cP K H l1 xs∧bR K H l2 ys∧(xs.length≤i∨ys.length≤i)⟩
def wq(z TI TO i1 i2 l1 l2:Addr)(i:Nat)(h:Heap):Prop:=IsZip h z TI TO .none∧IsPair h TI (.ref i1) (.ref i2)∧(∃a b,IsPair h TO a b)∧h.IsListIter i1 l1 i∧h.IsTupleIter i2 l2 i
theorem vd{P:Program}{w:World}{K:PySem.W.Frag}{es:List Expr}{k0:Nat}{pos:Pos}{z TI TO i1 i2:Addr}(l1 l2:Addr)(n1:TO≠z)(n2:i1≠z)(n3:i2≠z)(n4:TO≠i1)(n5:TO≠i2)(n6:i1≠i2)(n7:TI≠z)(n8:TI≠TO)(n9:TI≠i1)(n10:TI≠i2):
    oR P w K (.Tuple es k0 pos) (Cv K l1 l2) [z,TI,TO,i1,i2] z (wq z TI TO i1 i2 l1 l2) where
  mem:=by simp
  obj:=fun i h st b hb=>by
    obtain⟨hz,hI,⟨a,c,hO⟩,u1,u2⟩:=st
    simp only [List.mem_cons,List.not_mem_nil,or_false] at hb
    rcases hb with rfl | rfl | rfl | rfl | rfl
    · exact⟨_,hz,fun v z=>by cases z⟩
    · exact⟨_,hI,fun v z=>by cases z⟩
    · exact⟨_,hO,fun v z=>by cases z⟩
    · obtain⟨o,e,c,d⟩:=u1
      exact⟨o,e,fun v z=>by rw [d] at z;cases z⟩
    · obtain⟨o,e,c,d⟩:=u2
      exact⟨o,e,fun v z=>by rw [d] at z;cases z⟩
  keep:=fun i h h' st k=>by
    obtain⟨hz,hI,⟨a,c,hO⟩,u1,u2⟩:=st
    exact⟨k _ (by simp) _ hz,k _ (by simp) _ hI,⟨a,c,k _ (by simp) _ hO⟩,u1.at fun o e=>k _ (by simp) o e,u2.at fun o e=>k _ (by simp) o e⟩
  item:=by
    intro X hP hw hK hc i pins s σ H E I hf st hg
    subst hP hw hK
    obtain⟨xs,ys,x,y,q1,q2,hx,hy⟩:=hg
    obtain⟨hz,hI,⟨a,b,hO⟩,u1,u2⟩:=id st
    obtain⟨its1,rv1,p1,z1⟩:=I.list q1
    obtain⟨its2,rv2,p2,z2⟩:=I.tuple q2
    obtain⟨ux,hux,rux⟩:=rv1.get hx
    obtain⟨uy,huy,ruy⟩:=rv2.get hy
    have fz:=hf z (by simp);have fO:=hf TO (by simp);have f1:=hf i1 (by simp);have f2:=hf i2 (by simp)
    have D:i7 z TI TO i1 i2 l1 l2:=⟨n1,n2,n3,n4,n5,n6,av I fz q1,av I fO q1,av I f1 q1,av I f2 q1,aF I fz q2,aF I fO q2,aF I f1 q2,aF I f2 q2⟩
    refine lF (xs:=its1.toArray) (ys:=its2.toArray) (eF i1 l1) (ip i2 l2) D hz hI hO u1 u2 p1.isList p2 (by simpa using hux) (by simpa using huy) fun g gz gO g1 g2 gT gs gk=>?_
    refine⟨_,rfl,wpAny_letOwnedTupleGo_zip gz fun g' gz' ge=>?_⟩
    have lt:∀b∈[z,TI,TO,i1,i2],b < s.heap.objs.size:=fun b hb=>by
      simp only [List.mem_cons,List.not_mem_nil,or_false] at hb
      rcases hb with rfl | rfl | rfl | rfl | rfl
      · exact Heap.lt_size hz
      · exact Heap.lt_size hI
      · exact Heap.lt_size hO
      · obtain⟨o,e,_⟩:=u1;exact Heap.lt_size e
      · obtain⟨o,e,_⟩:=u2;exact Heap.lt_size e
    have hT:H s.heap.objs.size=none:=I.hok.fresh (Nat.le_refl _)
    have vv:aQ [x,y] [ux,uy]:=.cons rux (.cons ruy .nil)
    have I1:aE X pins σ (a' H s.heap.objs.size (.tup [x,y])) {s with heap:=s.heap.push {cls:=.type "tuple",data:=.seq #[ux,uy]},toks:=s.toks}:=
      I.laid (t':=s.toks) (fun b u e=>Heap.get?_push_of_some _ e) (Nat.le_refl _) ⟨(by show 2≤sizeLine;decide),[ux,uy],vv,⟨_,Heap.get?_push_size _ rfl,rfl,_,rfl⟩⟩
    have hf1:∀b∈[z,TI,TO,i1,i2],iu X pins (a' H s.heap.objs.size (.tup [x,y])) b:=fun b hb=>by
      obtain⟨f0,fr⟩:=hf b hb
      exact⟨by rw [aw (Nat.ne_of_lt (lt b hb))];exact f0,fr⟩
    have nzT:s.heap.objs.size≠z:=Nat.ne_of_gt (lt z (by simp))
    have I2:aE X pins σ (a' H s.heap.objs.size (.tup [x,y])) {s with heap:=g',toks:=s.toks}:=by
      refine I1.turnedL (t':=s.toks) hf1 fun b o nb e=>?_
      have nb':b≠z∧b≠TI∧b≠TO∧b≠i1∧b≠i2:=by simpa using nb
      refine ge.extBut _ _ nb'.1 ?_
      rcases Heap.get?_push_cases e with ⟨rfl,rfl⟩ | e
      · exact gT
      · exact gk b o nb'.1 nb'.2.2.1 nb'.2.2.2.1 nb'.2.2.2.2 e
    refine⟨.ref s.heap.objs.size,_,I2,rfl,⟨_,x,y,rfl,hT,rfl,fun xs' ys' w1 w2=>?_⟩,⟨gz',ge.extBut _ _ n7 (gk _ _ n7 n8 n9 n10 hI),⟨ux,uy,ge.extBut _ _ n1 gO⟩,g1.at fun o e=>ge.extBut _ _ n2 e,g2.at fun o e=>ge.extBut _ _ n3 e⟩,fun b hb=>(hf1 b hb).1⟩
    rw [I.list_inj w1 q1,I.tuple_inj w2 q2]
    exact⟨hx,hy⟩
  done:=by
    intro X hP hw hK hc i pins s σ H E I hf st hg
    subst hP hw hK
    obtain⟨xs,ys,q1,q2,hn⟩:=hg
    obtain⟨hz,hI,⟨a,b,hO⟩,u1,u2⟩:=id st
    obtain⟨its1,rv1,p1,z1⟩:=I.list q1
    obtain⟨its2,rv2,p2,z2⟩:=I.tuple q2
    have fz:=hf z (by simp);have fO:=hf TO (by simp);have f1:=hf i1 (by simp);have f2:=hf i2 (by simp)
    have D:i7 z TI TO i1 i2 l1 l2:=⟨n1,n2,n3,n4,n5,n6,av I fz q1,av I fO q1,av I f1 q1,av I f2 q1,aF I fz q2,aF I fO q2,aF I f1 q2,aF I f2 q2⟩
    have e1:=rv1.length
    have e2:=rv2.length
    refine lG (xs:=its1.toArray) (ys:=its2.toArray) (I.ok.hd hc) (eF i1 l1) (ip i2 l2) D hz hI hO u1 u2 p1.isList p2 ?_ fun g gk=>⟨rfl,I.turnedL (t':=s.toks) hf fun b o nb e=>?_⟩
    · rcases hn with hn | hn
      · exact .inl (by simp;lia)
      · exact .inr (by simp;lia)
    · have nb':b≠z∧b≠TI∧b≠TO∧b≠i1∧b≠i2:=by simpa using nb
      exact gk b o nb'.1 nb'.2.2.1 nb'.2.2.2.1 nb'.2.2.2.2 e
  self:=fun A i s Q E st h=>wpAny_pyIter_zip st.1 h
theorem xJ(l1 l2:Addr)(xs ys:Array Value):
    Meets (Builtin.«zip.__new__» ⟨[.type "zip",.ref l1,.ref l2],[]⟩) (fun _ R s=>s.heap.IsList l1 xs∧s.heap.IsTuple l2 ys∧
      R (.ok (.ret (.ref (s.heap.objs.size+4)))) {s with heap:=((((s.heap.push {cls:=.type "list_iterator",data:=.fields #[.ref l1,.int 0 0]}).push {cls:=.type "tuple_iterator",data:=.fields #[.ref l2,.int 0 0]}).push {cls:=.type "tuple",data:=.seq #[.ref s.heap.objs.size,.ref (s.heap.objs.size+1)]}).push {cls:=.type "tuple",data:=.seq #[.none,.none]}).push {cls:=.type "zip",data:=.fields #[.none,.bool false,.bool false,.ref (s.heap.objs.size+2),.ref (s.heap.objs.size+3)]}}):=
  .of_wp fun prog w A R s h=>by
    obtain⟨hp,g,d,tk,os⟩:=s;obtain⟨t1,t2,h⟩:=h;have sz:=PySem.sub_zip
    have T1:Heap.IsList (Shared.heap ⟨hp,g,d,tk,os⟩) l1 xs:=t1
    have T2:Heap.IsTuple (Shared.heap ⟨hp.push {cls:=.type "list_iterator",data:=.fields #[.ref l1,.int 0 0]},g,d,tk,os⟩) l2 ys:=Heap.IsTuple.push t2 _
    wp_walk using wpAny_pyIter_list T1,wpAny_pyIter_tuple T2
    refine⟨_,rfl,?_⟩
    simp only [Heap.size_push]
    exact h
section
variable{prog:Program}{w:World}{A:Around}{E:Value→Shared→Prop}{s:Shared}
theorem vg{l1 l2:Addr}{xs ys:Array Value}{Q:Value→Shared→Prop}(t1:s.heap.IsList l1 xs)(t2:s.heap.IsTuple l2 ys)
    (h:∀g,wq (s.heap.objs.size+4) (s.heap.objs.size+2) (s.heap.objs.size+3) s.heap.objs.size (s.heap.objs.size+1) l1 l2 0 g→(∀c o,s.heap.get? c=some o→g.get? c=some o)→Q (.ref (s.heap.objs.size+4)) {s with heap:=g}):
    wpAny (model prog w) A (call (.type "zip") [.ref l1,.ref l2]) Q E s:=by
  refine callType_new F.called_zip (by decide) (F.typeCall_zip_2 _ _) (F.newCall_zip_2 _ _) (fun obj=>F.args_object_init_3 obj _ _) F.entry_zip_new (xJ l1 l2 xs ys) ⟨t1,t2,?_⟩
  have at5:∀(g:Heap) (o:Obj) (a:Addr),o.isFreed=false→a=g.objs.size→(g.push o).get? a=some o:=fun g o a hf e=>by rw [e];exact Heap.get?_push_size _ hf
  have g5:=at5 ((((s.heap.push {cls:=.type "list_iterator",data:=.fields #[.ref l1,.int 0 0]}).push {cls:=.type "tuple_iterator",data:=.fields #[.ref l2,.int 0 0]}).push {cls:=.type "tuple",data:=.seq #[.ref s.heap.objs.size,.ref (s.heap.objs.size+1)]}).push {cls:=.type "tuple",data:=.seq #[.none,.none]}) {cls:=.type "zip",data:=.fields #[.none,.bool false,.bool false,.ref (s.heap.objs.size+2),.ref (s.heap.objs.size+3)]} (s.heap.objs.size+4) rfl (by simp only [Heap.size_push])
  have g4:=at5 (((s.heap.push {cls:=.type "list_iterator",data:=.fields #[.ref l1,.int 0 0]}).push {cls:=.type "tuple_iterator",data:=.fields #[.ref l2,.int 0 0]}).push {cls:=.type "tuple",data:=.seq #[.ref s.heap.objs.size,.ref (s.heap.objs.size+1)]}) {cls:=.type "tuple",data:=.seq #[.none,.none]} (s.heap.objs.size+3) rfl (by simp only [Heap.size_push])
  have g3:=at5 ((s.heap.push {cls:=.type "list_iterator",data:=.fields #[.ref l1,.int 0 0]}).push {cls:=.type "tuple_iterator",data:=.fields #[.ref l2,.int 0 0]}) {cls:=.type "tuple",data:=.seq #[.ref s.heap.objs.size,.ref (s.heap.objs.size+1)]} (s.heap.objs.size+2) rfl (by simp only [Heap.size_push])
  have g2:=at5 (s.heap.push {cls:=.type "list_iterator",data:=.fields #[.ref l1,.int 0 0]}) {cls:=.type "tuple_iterator",data:=.fields #[.ref l2,.int 0 0]} (s.heap.objs.size+1) rfl (by simp only [Heap.size_push])
  have g1:=at5 s.heap {cls:=.type "list_iterator",data:=.fields #[.ref l1,.int 0 0]} s.heap.objs.size rfl rfl
  have up:∀{g:Heap} {a:Addr} {u:Obj} (o:Obj),g.get? a=some u→(g.push o).get? a=some u:=fun o e=>Heap.get?_push_of_some o e
  refine⟨⟨_,g5,rfl⟩,h _ ⟨g5,up _ (up _ g3),⟨_,_,up _ g4⟩,⟨_,up _ (up _ (up _ (up _ g1))),rfl,rfl⟩,⟨_,up _ (up _ (up _ g2)),rfl,rfl⟩⟩ fun c o x=>up _ (up _ (up _ (up _ (up _ x))))⟩
end
def Ds(K:PySem.W.Frag)(ta:TA):TI:=fun σ H R=>ta σ H fun vs H1=>∃a b,vs=[.ref a,.ref b]∧(∃xs,cP K H1 a xs)∧(∃ys,bR K H1 b ys)∧R (Cv K a b) H1
theorem zh{X:Cx}{K:PySem.W.Frag}{es:List Expr}{k0:Nat}{tp:Pos}{a b:Expr}{ta:TA}{p pos:Pos}(hK:X.K=K)(hg:Gl X "zip")(hm:X.mg "zip"=none)(ha:PA X [a,b] ta)(hs:starEach [a,b] X.env=[(false,eval a X.env),(false,eval b X.env)]:=by rfl)(hs2:starEach [b] X.env=[(false,eval b X.env)]:=by rfl):
    PI X (.Tuple es k0 tp) (.Call (.Name "zip" p) [a,b] [] pos) (Ds K ta):=by
  intro pins s σ H R I h
  subst hK
  refine Call_ (il I hg hm kG (PyProof.Rows.callWith_type1 (cc (ha pos pins s σ H _ I h) fun us s1 ⟨vs,H1,I1,r1,q1⟩=>?_) (by rw [hs,hs2]) (by rw [hs2];rfl)))
  obtain⟨a,b,e,⟨xs,qx⟩,⟨ys,qy⟩,q⟩:=q1
  subst e
  cases r1 with
  | cons r rr=>
    cases rr with
    | cons r' rr=>
      cases rr
      cases r
      cases r'
      obtain⟨i1,v1,p1,_⟩:=I1.list qx
      obtain⟨i2,v2,p2,_⟩:=I1.tuple qy
      refine vg p1.isList p2 fun g st hk=>wpAny_pyIter_zip st.1 ?_
      have I2:aE X pins σ H1 {s1 with heap:=g,toks:=s1.toks}:=I1.kept (t':=s1.toks) fun b o e=>hk b o e
      refine⟨s1.heap.objs.size+4,[s1.heap.objs.size+4,s1.heap.objs.size+2,s1.heap.objs.size+3,s1.heap.objs.size,s1.heap.objs.size+1],_,_,H1,rfl,I2,vd a b (show((s1.heap.objs.size+3:Nat)≠s1.heap.objs.size+4) by lia) (show((s1.heap.objs.size:Nat)≠s1.heap.objs.size+4) by lia) (show((s1.heap.objs.size+1:Nat)≠s1.heap.objs.size+4) by lia) (show((s1.heap.objs.size+3:Nat)≠s1.heap.objs.size) by lia) (show((s1.heap.objs.size+3:Nat)≠s1.heap.objs.size+1) by lia) (show((s1.heap.objs.size:Nat)≠s1.heap.objs.size+1) by lia) (show((s1.heap.objs.size+2:Nat)≠s1.heap.objs.size+4) by lia) (show((s1.heap.objs.size+2:Nat)≠s1.heap.objs.size+3) by lia) (show((s1.heap.objs.size+2:Nat)≠s1.heap.objs.size) by lia) (show((s1.heap.objs.size+2:Nat)≠s1.heap.objs.size+1) by lia),st,fun c hc=>?_,q⟩
      have le:s1.heap.objs.size≤c:=by
        simp only [List.mem_cons,List.not_mem_nil,or_false] at hc
        rcases hc with rfl | rfl | rfl | rfl | rfl
        · exact Nat.le_add_right _ 4
        · exact Nat.le_add_right _ 2
        · exact Nat.le_add_right _ 3
        · exact Nat.le_refl _
        · exact Nat.le_add_right _ 1
      have f:=I1.fpOk (H':=H1) le (I1.hok.fresh le)
      exact f
def Cw(K:PySem.W.Frag)(l1 l2:Addr):It:=
  ⟨fun i H=>∃xs ys x y,bR K H l1 xs∧cP K H l2 ys∧xs[i]?=some x∧ys[i]?=some y,
   fun i H v H'=>∃p x y,v=.ref p∧H p=none∧H'=a' H p (.tup [x,y])∧∀xs ys,bR K H l1 xs→cP K H l2 ys→xs[i]?=some x∧ys[i]?=some y,
   fun i H=>∃xs ys,bR K H l1 xs∧cP K H l2 ys∧(xs.length≤i∨ys.length≤i)⟩
def wu(z TI TO i1 i2 l1 l2:Addr)(i:Nat)(h:Heap):Prop:=IsZip h z TI TO .none∧IsPair h TI (.ref i1) (.ref i2)∧(∃a b,IsPair h TO a b)∧h.IsTupleIter i1 l1 i∧h.IsListIter i2 l2 i
theorem ve{P:Program}{w:World}{K:PySem.W.Frag}{es:List Expr}{k0:Nat}{pos:Pos}{z TI TO i1 i2:Addr}(l1 l2:Addr)(n1:TO≠z)(n2:i1≠z)(n3:i2≠z)(n4:TO≠i1)(n5:TO≠i2)(n6:i1≠i2)(n7:TI≠z)(n8:TI≠TO)(n9:TI≠i1)(n10:TI≠i2):
    oR P w K (.Tuple es k0 pos) (Cw K l1 l2) [z,TI,TO,i1,i2] z (wu z TI TO i1 i2 l1 l2) where
  mem:=by simp
  obj:=fun i h st b hb=>by
    obtain⟨hz,hI,⟨a,c,hO⟩,u1,u2⟩:=st
    simp only [List.mem_cons,List.not_mem_nil,or_false] at hb
    rcases hb with rfl | rfl | rfl | rfl | rfl
    · exact⟨_,hz,fun v z=>by cases z⟩
    · exact⟨_,hI,fun v z=>by cases z⟩
    · exact⟨_,hO,fun v z=>by cases z⟩
    · obtain⟨o,e,c,d⟩:=u1
      exact⟨o,e,fun v z=>by rw [d] at z;cases z⟩
    · obtain⟨o,e,c,d⟩:=u2
      exact⟨o,e,fun v z=>by rw [d] at z;cases z⟩
  keep:=fun i h h' st k=>by
    obtain⟨hz,hI,⟨a,c,hO⟩,u1,u2⟩:=st
    exact⟨k _ (by simp) _ hz,k _ (by simp) _ hI,⟨a,c,k _ (by simp) _ hO⟩,u1.at fun o e=>k _ (by simp) o e,u2.at fun o e=>k _ (by simp) o e⟩
  item:=by
    intro X hP hw hK hc i pins s σ H E I hf st hg
    subst hP hw hK
    obtain⟨xs,ys,x,y,q1,q2,hx,hy⟩:=hg
    obtain⟨hz,hI,⟨a,b,hO⟩,u1,u2⟩:=id st
    obtain⟨its1,rv1,p1,z1⟩:=I.tuple q1
    obtain⟨its2,rv2,p2,z2⟩:=I.list q2
    obtain⟨ux,hux,rux⟩:=rv1.get hx
    obtain⟨uy,huy,ruy⟩:=rv2.get hy
    have fz:=hf z (by simp);have fO:=hf TO (by simp);have f1:=hf i1 (by simp);have f2:=hf i2 (by simp)
    have D:i7 z TI TO i1 i2 l1 l2:=⟨n1,n2,n3,n4,n5,n6,aF I fz q1,aF I fO q1,aF I f1 q1,aF I f2 q1,av I fz q2,av I fO q2,av I f1 q2,av I f2 q2⟩
    refine lF (xs:=its1.toArray) (ys:=its2.toArray) (ip i1 l1) (eF i2 l2) D hz hI hO u1 u2 p1 p2.isList (by simpa using hux) (by simpa using huy) fun g gz gO g1 g2 gT gs gk=>?_
    refine⟨_,rfl,wpAny_letOwnedTupleGo_zip gz fun g' gz' ge=>?_⟩
    have lt:∀b∈[z,TI,TO,i1,i2],b < s.heap.objs.size:=fun b hb=>by
      simp only [List.mem_cons,List.not_mem_nil,or_false] at hb
      rcases hb with rfl | rfl | rfl | rfl | rfl
      · exact Heap.lt_size hz
      · exact Heap.lt_size hI
      · exact Heap.lt_size hO
      · obtain⟨o,e,_⟩:=u1;exact Heap.lt_size e
      · obtain⟨o,e,_⟩:=u2;exact Heap.lt_size e
    have hT:H s.heap.objs.size=none:=I.hok.fresh (Nat.le_refl _)
    have vv:aQ [x,y] [ux,uy]:=.cons rux (.cons ruy .nil)
    have I1:aE X pins σ (a' H s.heap.objs.size (.tup [x,y])) {s with heap:=s.heap.push {cls:=.type "tuple",data:=.seq #[ux,uy]},toks:=s.toks}:=
      I.laid (t':=s.toks) (fun b u e=>Heap.get?_push_of_some _ e) (Nat.le_refl _) ⟨(by show 2≤sizeLine;decide),[ux,uy],vv,⟨_,Heap.get?_push_size _ rfl,rfl,_,rfl⟩⟩
    have hf1:∀b∈[z,TI,TO,i1,i2],iu X pins (a' H s.heap.objs.size (.tup [x,y])) b:=fun b hb=>by
      obtain⟨f0,fr⟩:=hf b hb
      exact⟨by rw [aw (Nat.ne_of_lt (lt b hb))];exact f0,fr⟩
    have nzT:s.heap.objs.size≠z:=Nat.ne_of_gt (lt z (by simp))
    have I2:aE X pins σ (a' H s.heap.objs.size (.tup [x,y])) {s with heap:=g',toks:=s.toks}:=by
      refine I1.turnedL (t':=s.toks) hf1 fun b o nb e=>?_
      have nb':b≠z∧b≠TI∧b≠TO∧b≠i1∧b≠i2:=by simpa using nb
      refine ge.extBut _ _ nb'.1 ?_
      rcases Heap.get?_push_cases e with ⟨rfl,rfl⟩ | e
      · exact gT
      · exact gk b o nb'.1 nb'.2.2.1 nb'.2.2.2.1 nb'.2.2.2.2 e
    refine⟨.ref s.heap.objs.size,_,I2,rfl,⟨_,x,y,rfl,hT,rfl,fun xs' ys' w1 w2=>?_⟩,⟨gz',ge.extBut _ _ n7 (gk _ _ n7 n8 n9 n10 hI),⟨ux,uy,ge.extBut _ _ n1 gO⟩,g1.at fun o e=>ge.extBut _ _ n2 e,g2.at fun o e=>ge.extBut _ _ n3 e⟩,fun b hb=>(hf1 b hb).1⟩
    rw [I.tuple_inj w1 q1,I.list_inj w2 q2]
    exact⟨hx,hy⟩
  done:=by
    intro X hP hw hK hc i pins s σ H E I hf st hg
    subst hP hw hK
    obtain⟨xs,ys,q1,q2,hn⟩:=hg
    obtain⟨hz,hI,⟨a,b,hO⟩,u1,u2⟩:=id st
    obtain⟨its1,rv1,p1,z1⟩:=I.tuple q1
    obtain⟨its2,rv2,p2,z2⟩:=I.list q2
    have fz:=hf z (by simp);have fO:=hf TO (by simp);have f1:=hf i1 (by simp);have f2:=hf i2 (by simp)
    have D:i7 z TI TO i1 i2 l1 l2:=⟨n1,n2,n3,n4,n5,n6,aF I fz q1,aF I fO q1,aF I f1 q1,aF I f2 q1,av I fz q2,av I fO q2,av I f1 q2,av I f2 q2⟩
    have e1:=rv1.length
    have e2:=rv2.length
    refine lG (xs:=its1.toArray) (ys:=its2.toArray) (I.ok.hd hc) (ip i1 l1) (eF i2 l2) D hz hI hO u1 u2 p1 p2.isList ?_ fun g gk=>⟨rfl,I.turnedL (t':=s.toks) hf fun b o nb e=>?_⟩
    · rcases hn with hn | hn
      · exact .inl (by simp;lia)
      · exact .inr (by simp;lia)
    · have nb':b≠z∧b≠TI∧b≠TO∧b≠i1∧b≠i2:=by simpa using nb
      exact gk b o nb'.1 nb'.2.2.1 nb'.2.2.2.1 nb'.2.2.2.2 e
  self:=fun A i s Q E st h=>wpAny_pyIter_zip st.1 h
theorem xK(l1 l2:Addr)(xs ys:Array Value):
    Meets (Builtin.«zip.__new__» ⟨[.type "zip",.ref l1,.ref l2],[]⟩) (fun _ R s=>s.heap.IsTuple l1 xs∧s.heap.IsList l2 ys∧
      R (.ok (.ret (.ref (s.heap.objs.size+4)))) {s with heap:=((((s.heap.push {cls:=.type "tuple_iterator",data:=.fields #[.ref l1,.int 0 0]}).push {cls:=.type "list_iterator",data:=.fields #[.ref l2,.int 0 0]}).push {cls:=.type "tuple",data:=.seq #[.ref s.heap.objs.size,.ref (s.heap.objs.size+1)]}).push {cls:=.type "tuple",data:=.seq #[.none,.none]}).push {cls:=.type "zip",data:=.fields #[.none,.bool false,.bool false,.ref (s.heap.objs.size+2),.ref (s.heap.objs.size+3)]}}):=
  .of_wp fun prog w A R s h=>by
    obtain⟨hp,g,d,tk,os⟩:=s;obtain⟨t1,t2,h⟩:=h;have sz:=PySem.sub_zip
    have T1:Heap.IsTuple (Shared.heap ⟨hp,g,d,tk,os⟩) l1 xs:=t1
    have T2:Heap.IsList (Shared.heap ⟨hp.push {cls:=.type "tuple_iterator",data:=.fields #[.ref l1,.int 0 0]},g,d,tk,os⟩) l2 ys:=Heap.IsList.push t2 _
    wp_walk using wpAny_pyIter_tuple T1,wpAny_pyIter_list T2
    refine⟨_,rfl,?_⟩
    simp only [Heap.size_push]
    exact h
section
variable{prog:Program}{w:World}{A:Around}{E:Value→Shared→Prop}{s:Shared}
theorem vh{l1 l2:Addr}{xs ys:Array Value}{Q:Value→Shared→Prop}(t1:s.heap.IsTuple l1 xs)(t2:s.heap.IsList l2 ys)
    (h:∀g,wu (s.heap.objs.size+4) (s.heap.objs.size+2) (s.heap.objs.size+3) s.heap.objs.size (s.heap.objs.size+1) l1 l2 0 g→(∀c o,s.heap.get? c=some o→g.get? c=some o)→Q (.ref (s.heap.objs.size+4)) {s with heap:=g}):
    wpAny (model prog w) A (call (.type "zip") [.ref l1,.ref l2]) Q E s:=by
  refine callType_new F.called_zip (by decide) (F.typeCall_zip_2 _ _) (F.newCall_zip_2 _ _) (fun obj=>F.args_object_init_3 obj _ _) F.entry_zip_new (xK l1 l2 xs ys) ⟨t1,t2,?_⟩
  have at5:∀(g:Heap) (o:Obj) (a:Addr),o.isFreed=false→a=g.objs.size→(g.push o).get? a=some o:=fun g o a hf e=>by rw [e];exact Heap.get?_push_size _ hf
  have g5:=at5 ((((s.heap.push {cls:=.type "tuple_iterator",data:=.fields #[.ref l1,.int 0 0]}).push {cls:=.type "list_iterator",data:=.fields #[.ref l2,.int 0 0]}).push {cls:=.type "tuple",data:=.seq #[.ref s.heap.objs.size,.ref (s.heap.objs.size+1)]}).push {cls:=.type "tuple",data:=.seq #[.none,.none]}) {cls:=.type "zip",data:=.fields #[.none,.bool false,.bool false,.ref (s.heap.objs.size+2),.ref (s.heap.objs.size+3)]} (s.heap.objs.size+4) rfl (by simp only [Heap.size_push])
  have g4:=at5 (((s.heap.push {cls:=.type "tuple_iterator",data:=.fields #[.ref l1,.int 0 0]}).push {cls:=.type "list_iterator",data:=.fields #[.ref l2,.int 0 0]}).push {cls:=.type "tuple",data:=.seq #[.ref s.heap.objs.size,.ref (s.heap.objs.size+1)]}) {cls:=.type "tuple",data:=.seq #[.none,.none]} (s.heap.objs.size+3) rfl (by simp only [Heap.size_push])
  have g3:=at5 ((s.heap.push {cls:=.type "tuple_iterator",data:=.fields #[.ref l1,.int 0 0]}).push {cls:=.type "list_iterator",data:=.fields #[.ref l2,.int 0 0]}) {cls:=.type "tuple",data:=.seq #[.ref s.heap.objs.size,.ref (s.heap.objs.size+1)]} (s.heap.objs.size+2) rfl (by simp only [Heap.size_push])
  have g2:=at5 (s.heap.push {cls:=.type "tuple_iterator",data:=.fields #[.ref l1,.int 0 0]}) {cls:=.type "list_iterator",data:=.fields #[.ref l2,.int 0 0]} (s.heap.objs.size+1) rfl (by simp only [Heap.size_push])
  have g1:=at5 s.heap {cls:=.type "tuple_iterator",data:=.fields #[.ref l1,.int 0 0]} s.heap.objs.size rfl rfl
  have up:∀{g:Heap} {a:Addr} {u:Obj} (o:Obj),g.get? a=some u→(g.push o).get? a=some u:=fun o e=>Heap.get?_push_of_some o e
  refine⟨⟨_,g5,rfl⟩,h _ ⟨g5,up _ (up _ g3),⟨_,_,up _ g4⟩,⟨_,up _ (up _ (up _ (up _ g1))),rfl,rfl⟩,⟨_,up _ (up _ (up _ g2)),rfl,rfl⟩⟩ fun c o x=>up _ (up _ (up _ (up _ (up _ x))))⟩
end
def Dt(K:PySem.W.Frag)(ta:TA):TI:=fun σ H R=>ta σ H fun vs H1=>∃a b,vs=[.ref a,.ref b]∧(∃xs,bR K H1 a xs)∧(∃ys,cP K H1 b ys)∧R (Cw K a b) H1
theorem zi{X:Cx}{K:PySem.W.Frag}{es:List Expr}{k0:Nat}{tp:Pos}{a b:Expr}{ta:TA}{p pos:Pos}(hK:X.K=K)(hg:Gl X "zip")(hm:X.mg "zip"=none)(ha:PA X [a,b] ta)(hs:starEach [a,b] X.env=[(false,eval a X.env),(false,eval b X.env)]:=by rfl)(hs2:starEach [b] X.env=[(false,eval b X.env)]:=by rfl):
    PI X (.Tuple es k0 tp) (.Call (.Name "zip" p) [a,b] [] pos) (Dt K ta):=by
  intro pins s σ H R I h
  subst hK
  refine Call_ (il I hg hm kG (PyProof.Rows.callWith_type1 (cc (ha pos pins s σ H _ I h) fun us s1 ⟨vs,H1,I1,r1,q1⟩=>?_) (by rw [hs,hs2]) (by rw [hs2];rfl)))
  obtain⟨a,b,e,⟨xs,qx⟩,⟨ys,qy⟩,q⟩:=q1
  subst e
  cases r1 with
  | cons r rr=>
    cases rr with
    | cons r' rr=>
      cases rr
      cases r
      cases r'
      obtain⟨i1,v1,p1,_⟩:=I1.tuple qx
      obtain⟨i2,v2,p2,_⟩:=I1.list qy
      refine vh p1 p2.isList fun g st hk=>wpAny_pyIter_zip st.1 ?_
      have I2:aE X pins σ H1 {s1 with heap:=g,toks:=s1.toks}:=I1.kept (t':=s1.toks) fun b o e=>hk b o e
      refine⟨s1.heap.objs.size+4,[s1.heap.objs.size+4,s1.heap.objs.size+2,s1.heap.objs.size+3,s1.heap.objs.size,s1.heap.objs.size+1],_,_,H1,rfl,I2,ve a b (show((s1.heap.objs.size+3:Nat)≠s1.heap.objs.size+4) by lia) (show((s1.heap.objs.size:Nat)≠s1.heap.objs.size+4) by lia) (show((s1.heap.objs.size+1:Nat)≠s1.heap.objs.size+4) by lia) (show((s1.heap.objs.size+3:Nat)≠s1.heap.objs.size) by lia) (show((s1.heap.objs.size+3:Nat)≠s1.heap.objs.size+1) by lia) (show((s1.heap.objs.size:Nat)≠s1.heap.objs.size+1) by lia) (show((s1.heap.objs.size+2:Nat)≠s1.heap.objs.size+4) by lia) (show((s1.heap.objs.size+2:Nat)≠s1.heap.objs.size+3) by lia) (show((s1.heap.objs.size+2:Nat)≠s1.heap.objs.size) by lia) (show((s1.heap.objs.size+2:Nat)≠s1.heap.objs.size+1) by lia),st,fun c hc=>?_,q⟩
      have le:s1.heap.objs.size≤c:=by
        simp only [List.mem_cons,List.not_mem_nil,or_false] at hc
        rcases hc with rfl | rfl | rfl | rfl | rfl
        · exact Nat.le_add_right _ 4
        · exact Nat.le_add_right _ 2
        · exact Nat.le_add_right _ 3
        · exact Nat.le_refl _
        · exact Nat.le_add_right _ 1
      have f:=I1.fpOk (H':=H1) le (I1.hok.fresh le)
      exact f
def Cu(K:PySem.W.Frag)(l1 l2:Addr):It:=
  ⟨fun i H=>∃xs ys x y,cP K H l1 xs∧cP K H l2 ys∧xs[i]?=some x∧ys[i]?=some y,
   fun i H v H'=>∃p x y,v=.ref p∧H p=none∧H'=a' H p (.tup [x,y])∧∀xs ys,cP K H l1 xs→cP K H l2 ys→xs[i]?=some x∧ys[i]?=some y,
   fun i H=>∃xs ys,cP K H l1 xs∧cP K H l2 ys∧(xs.length≤i∨ys.length≤i)⟩
def wo(z TI TO i1 i2 l1 l2:Addr)(i:Nat)(h:Heap):Prop:=IsZip h z TI TO .none∧IsPair h TI (.ref i1) (.ref i2)∧(∃a b,IsPair h TO a b)∧h.IsListIter i1 l1 i∧h.IsListIter i2 l2 i
theorem vc{P:Program}{w:World}{K:PySem.W.Frag}{es:List Expr}{k0:Nat}{pos:Pos}{z TI TO i1 i2:Addr}(l1 l2:Addr)(n1:TO≠z)(n2:i1≠z)(n3:i2≠z)(n4:TO≠i1)(n5:TO≠i2)(n6:i1≠i2)(n7:TI≠z)(n8:TI≠TO)(n9:TI≠i1)(n10:TI≠i2):
    oR P w K (.Tuple es k0 pos) (Cu K l1 l2) [z,TI,TO,i1,i2] z (wo z TI TO i1 i2 l1 l2) where
  mem:=by simp
  obj:=fun i h st b hb=>by
    obtain⟨hz,hI,⟨a,c,hO⟩,u1,u2⟩:=st
    simp only [List.mem_cons,List.not_mem_nil,or_false] at hb
    rcases hb with rfl | rfl | rfl | rfl | rfl
    · exact⟨_,hz,fun v z=>by cases z⟩
    · exact⟨_,hI,fun v z=>by cases z⟩
    · exact⟨_,hO,fun v z=>by cases z⟩
    · obtain⟨o,e,c,d⟩:=u1
      exact⟨o,e,fun v z=>by rw [d] at z;cases z⟩
    · obtain⟨o,e,c,d⟩:=u2
      exact⟨o,e,fun v z=>by rw [d] at z;cases z⟩
  keep:=fun i h h' st k=>by
    obtain⟨hz,hI,⟨a,c,hO⟩,u1,u2⟩:=st
    exact⟨k _ (by simp) _ hz,k _ (by simp) _ hI,⟨a,c,k _ (by simp) _ hO⟩,u1.at fun o e=>k _ (by simp) o e,u2.at fun o e=>k _ (by simp) o e⟩
  item:=by
    intro X hP hw hK hc i pins s σ H E I hf st hg
    subst hP hw hK
    obtain⟨xs,ys,x,y,q1,q2,hx,hy⟩:=hg
    obtain⟨hz,hI,⟨a,b,hO⟩,u1,u2⟩:=id st
    obtain⟨its1,rv1,p1,z1⟩:=I.list q1
    obtain⟨its2,rv2,p2,z2⟩:=I.list q2
    obtain⟨ux,hux,rux⟩:=rv1.get hx
    obtain⟨uy,huy,ruy⟩:=rv2.get hy
    have fz:=hf z (by simp);have fO:=hf TO (by simp);have f1:=hf i1 (by simp);have f2:=hf i2 (by simp)
    have D:i7 z TI TO i1 i2 l1 l2:=⟨n1,n2,n3,n4,n5,n6,av I fz q1,av I fO q1,av I f1 q1,av I f2 q1,av I fz q2,av I fO q2,av I f1 q2,av I f2 q2⟩
    refine lF (xs:=its1.toArray) (ys:=its2.toArray) (eF i1 l1) (eF i2 l2) D hz hI hO u1 u2 p1.isList p2.isList (by simpa using hux) (by simpa using huy) fun g gz gO g1 g2 gT gs gk=>?_
    refine⟨_,rfl,wpAny_letOwnedTupleGo_zip gz fun g' gz' ge=>?_⟩
    have lt:∀b∈[z,TI,TO,i1,i2],b < s.heap.objs.size:=fun b hb=>by
      simp only [List.mem_cons,List.not_mem_nil,or_false] at hb
      rcases hb with rfl | rfl | rfl | rfl | rfl
      · exact Heap.lt_size hz
      · exact Heap.lt_size hI
      · exact Heap.lt_size hO
      · obtain⟨o,e,_⟩:=u1;exact Heap.lt_size e
      · obtain⟨o,e,_⟩:=u2;exact Heap.lt_size e
    have hT:H s.heap.objs.size=none:=I.hok.fresh (Nat.le_refl _)
    have vv:aQ [x,y] [ux,uy]:=.cons rux (.cons ruy .nil)
    have I1:aE X pins σ (a' H s.heap.objs.size (.tup [x,y])) {s with heap:=s.heap.push {cls:=.type "tuple",data:=.seq #[ux,uy]},toks:=s.toks}:=
      I.laid (t':=s.toks) (fun b u e=>Heap.get?_push_of_some _ e) (Nat.le_refl _) ⟨(by show 2≤sizeLine;decide),[ux,uy],vv,⟨_,Heap.get?_push_size _ rfl,rfl,_,rfl⟩⟩
    have hf1:∀b∈[z,TI,TO,i1,i2],iu X pins (a' H s.heap.objs.size (.tup [x,y])) b:=fun b hb=>by
      obtain⟨f0,fr⟩:=hf b hb
      exact⟨by rw [aw (Nat.ne_of_lt (lt b hb))];exact f0,fr⟩
    have nzT:s.heap.objs.size≠z:=Nat.ne_of_gt (lt z (by simp))
    have I2:aE X pins σ (a' H s.heap.objs.size (.tup [x,y])) {s with heap:=g',toks:=s.toks}:=by
      refine I1.turnedL (t':=s.toks) hf1 fun b o nb e=>?_
      have nb':b≠z∧b≠TI∧b≠TO∧b≠i1∧b≠i2:=by simpa using nb
      refine ge.extBut _ _ nb'.1 ?_
      rcases Heap.get?_push_cases e with ⟨rfl,rfl⟩ | e
      · exact gT
      · exact gk b o nb'.1 nb'.2.2.1 nb'.2.2.2.1 nb'.2.2.2.2 e
    refine⟨.ref s.heap.objs.size,_,I2,rfl,⟨_,x,y,rfl,hT,rfl,fun xs' ys' w1 w2=>?_⟩,⟨gz',ge.extBut _ _ n7 (gk _ _ n7 n8 n9 n10 hI),⟨ux,uy,ge.extBut _ _ n1 gO⟩,g1.at fun o e=>ge.extBut _ _ n2 e,g2.at fun o e=>ge.extBut _ _ n3 e⟩,fun b hb=>(hf1 b hb).1⟩
    rw [I.list_inj w1 q1,I.list_inj w2 q2]
    exact⟨hx,hy⟩
  done:=by
    intro X hP hw hK hc i pins s σ H E I hf st hg
    subst hP hw hK
    obtain⟨xs,ys,q1,q2,hn⟩:=hg
    obtain⟨hz,hI,⟨a,b,hO⟩,u1,u2⟩:=id st
    obtain⟨its1,rv1,p1,z1⟩:=I.list q1
    obtain⟨its2,rv2,p2,z2⟩:=I.list q2
    have fz:=hf z (by simp);have fO:=hf TO (by simp);have f1:=hf i1 (by simp);have f2:=hf i2 (by simp)
    have D:i7 z TI TO i1 i2 l1 l2:=⟨n1,n2,n3,n4,n5,n6,av I fz q1,av I fO q1,av I f1 q1,av I f2 q1,av I fz q2,av I fO q2,av I f1 q2,av I f2 q2⟩
    have e1:=rv1.length
    have e2:=rv2.length
    refine lG (xs:=its1.toArray) (ys:=its2.toArray) (I.ok.hd hc) (eF i1 l1) (eF i2 l2) D hz hI hO u1 u2 p1.isList p2.isList ?_ fun g gk=>⟨rfl,I.turnedL (t':=s.toks) hf fun b o nb e=>?_⟩
    · rcases hn with hn | hn
      · exact .inl (by simp;lia)
      · exact .inr (by simp;lia)
    · have nb':b≠z∧b≠TI∧b≠TO∧b≠i1∧b≠i2:=by simpa using nb
      exact gk b o nb'.1 nb'.2.2.1 nb'.2.2.2.1 nb'.2.2.2.2 e
  self:=fun A i s Q E st h=>wpAny_pyIter_zip st.1 h
theorem xI(l1 l2:Addr)(xs ys:Array Value):
    Meets (Builtin.«zip.__new__» ⟨[.type "zip",.ref l1,.ref l2],[]⟩) (fun _ R s=>s.heap.IsList l1 xs∧s.heap.IsList l2 ys∧
      R (.ok (.ret (.ref (s.heap.objs.size+4)))) {s with heap:=((((s.heap.push {cls:=.type "list_iterator",data:=.fields #[.ref l1,.int 0 0]}).push {cls:=.type "list_iterator",data:=.fields #[.ref l2,.int 0 0]}).push {cls:=.type "tuple",data:=.seq #[.ref s.heap.objs.size,.ref (s.heap.objs.size+1)]}).push {cls:=.type "tuple",data:=.seq #[.none,.none]}).push {cls:=.type "zip",data:=.fields #[.none,.bool false,.bool false,.ref (s.heap.objs.size+2),.ref (s.heap.objs.size+3)]}}):=
  .of_wp fun prog w A R s h=>by
    obtain⟨hp,g,d,tk,os⟩:=s;obtain⟨t1,t2,h⟩:=h;have sz:=PySem.sub_zip
    have T1:Heap.IsList (Shared.heap ⟨hp,g,d,tk,os⟩) l1 xs:=t1
    have T2:Heap.IsList (Shared.heap ⟨hp.push {cls:=.type "list_iterator",data:=.fields #[.ref l1,.int 0 0]},g,d,tk,os⟩) l2 ys:=Heap.IsList.push t2 _
    wp_walk using wpAny_pyIter_list T1,wpAny_pyIter_list T2
    refine⟨_,rfl,?_⟩
    simp only [Heap.size_push]
    exact h
section
variable{prog:Program}{w:World}{A:Around}{E:Value→Shared→Prop}{s:Shared}
theorem vf{l1 l2:Addr}{xs ys:Array Value}{Q:Value→Shared→Prop}(t1:s.heap.IsList l1 xs)(t2:s.heap.IsList l2 ys)
    (h:∀g,wo (s.heap.objs.size+4) (s.heap.objs.size+2) (s.heap.objs.size+3) s.heap.objs.size (s.heap.objs.size+1) l1 l2 0 g→(∀c o,s.heap.get? c=some o→g.get? c=some o)→Q (.ref (s.heap.objs.size+4)) {s with heap:=g}):
    wpAny (model prog w) A (call (.type "zip") [.ref l1,.ref l2]) Q E s:=by
  refine callType_new F.called_zip (by decide) (F.typeCall_zip_2 _ _) (F.newCall_zip_2 _ _) (fun obj=>F.args_object_init_3 obj _ _) F.entry_zip_new (xI l1 l2 xs ys) ⟨t1,t2,?_⟩
  have at5:∀(g:Heap) (o:Obj) (a:Addr),o.isFreed=false→a=g.objs.size→(g.push o).get? a=some o:=fun g o a hf e=>by rw [e];exact Heap.get?_push_size _ hf
  have g5:=at5 ((((s.heap.push {cls:=.type "list_iterator",data:=.fields #[.ref l1,.int 0 0]}).push {cls:=.type "list_iterator",data:=.fields #[.ref l2,.int 0 0]}).push {cls:=.type "tuple",data:=.seq #[.ref s.heap.objs.size,.ref (s.heap.objs.size+1)]}).push {cls:=.type "tuple",data:=.seq #[.none,.none]}) {cls:=.type "zip",data:=.fields #[.none,.bool false,.bool false,.ref (s.heap.objs.size+2),.ref (s.heap.objs.size+3)]} (s.heap.objs.size+4) rfl (by simp only [Heap.size_push])
  have g4:=at5 (((s.heap.push {cls:=.type "list_iterator",data:=.fields #[.ref l1,.int 0 0]}).push {cls:=.type "list_iterator",data:=.fields #[.ref l2,.int 0 0]}).push {cls:=.type "tuple",data:=.seq #[.ref s.heap.objs.size,.ref (s.heap.objs.size+1)]}) {cls:=.type "tuple",data:=.seq #[.none,.none]} (s.heap.objs.size+3) rfl (by simp only [Heap.size_push])
  have g3:=at5 ((s.heap.push {cls:=.type "list_iterator",data:=.fields #[.ref l1,.int 0 0]}).push {cls:=.type "list_iterator",data:=.fields #[.ref l2,.int 0 0]}) {cls:=.type "tuple",data:=.seq #[.ref s.heap.objs.size,.ref (s.heap.objs.size+1)]} (s.heap.objs.size+2) rfl (by simp only [Heap.size_push])
  have g2:=at5 (s.heap.push {cls:=.type "list_iterator",data:=.fields #[.ref l1,.int 0 0]}) {cls:=.type "list_iterator",data:=.fields #[.ref l2,.int 0 0]} (s.heap.objs.size+1) rfl (by simp only [Heap.size_push])
  have g1:=at5 s.heap {cls:=.type "list_iterator",data:=.fields #[.ref l1,.int 0 0]} s.heap.objs.size rfl rfl
  have up:∀{g:Heap} {a:Addr} {u:Obj} (o:Obj),g.get? a=some u→(g.push o).get? a=some u:=fun o e=>Heap.get?_push_of_some o e
  refine⟨⟨_,g5,rfl⟩,h _ ⟨g5,up _ (up _ g3),⟨_,_,up _ g4⟩,⟨_,up _ (up _ (up _ (up _ g1))),rfl,rfl⟩,⟨_,up _ (up _ (up _ g2)),rfl,rfl⟩⟩ fun c o x=>up _ (up _ (up _ (up _ (up _ x))))⟩
end
def Dr(K:PySem.W.Frag)(ta:TA):TI:=fun σ H R=>ta σ H fun vs H1=>∃a b,vs=[.ref a,.ref b]∧(∃xs,cP K H1 a xs)∧(∃ys,cP K H1 b ys)∧R (Cu K a b) H1
theorem zg{X:Cx}{K:PySem.W.Frag}{es:List Expr}{k0:Nat}{tp:Pos}{a b:Expr}{ta:TA}{p pos:Pos}(hK:X.K=K)(hg:Gl X "zip")(hm:X.mg "zip"=none)(ha:PA X [a,b] ta)(hs:starEach [a,b] X.env=[(false,eval a X.env),(false,eval b X.env)]:=by rfl)(hs2:starEach [b] X.env=[(false,eval b X.env)]:=by rfl):
    PI X (.Tuple es k0 tp) (.Call (.Name "zip" p) [a,b] [] pos) (Dr K ta):=by
  intro pins s σ H R I h
  subst hK
  refine Call_ (il I hg hm kG (PyProof.Rows.callWith_type1 (cc (ha pos pins s σ H _ I h) fun us s1 ⟨vs,H1,I1,r1,q1⟩=>?_) (by rw [hs,hs2]) (by rw [hs2];rfl)))
  obtain⟨a,b,e,⟨xs,qx⟩,⟨ys,qy⟩,q⟩:=q1
  subst e
  cases r1 with
  | cons r rr=>
    cases rr with
    | cons r' rr=>
      cases rr
      cases r
      cases r'
      obtain⟨i1,v1,p1,_⟩:=I1.list qx
      obtain⟨i2,v2,p2,_⟩:=I1.list qy
      refine vf p1.isList p2.isList fun g st hk=>wpAny_pyIter_zip st.1 ?_
      have I2:aE X pins σ H1 {s1 with heap:=g,toks:=s1.toks}:=I1.kept (t':=s1.toks) fun b o e=>hk b o e
      refine⟨s1.heap.objs.size+4,[s1.heap.objs.size+4,s1.heap.objs.size+2,s1.heap.objs.size+3,s1.heap.objs.size,s1.heap.objs.size+1],_,_,H1,rfl,I2,vc a b (show((s1.heap.objs.size+3:Nat)≠s1.heap.objs.size+4) by lia) (show((s1.heap.objs.size:Nat)≠s1.heap.objs.size+4) by lia) (show((s1.heap.objs.size+1:Nat)≠s1.heap.objs.size+4) by lia) (show((s1.heap.objs.size+3:Nat)≠s1.heap.objs.size) by lia) (show((s1.heap.objs.size+3:Nat)≠s1.heap.objs.size+1) by lia) (show((s1.heap.objs.size:Nat)≠s1.heap.objs.size+1) by lia) (show((s1.heap.objs.size+2:Nat)≠s1.heap.objs.size+4) by lia) (show((s1.heap.objs.size+2:Nat)≠s1.heap.objs.size+3) by lia) (show((s1.heap.objs.size+2:Nat)≠s1.heap.objs.size) by lia) (show((s1.heap.objs.size+2:Nat)≠s1.heap.objs.size+1) by lia),st,fun c hc=>?_,q⟩
      have le:s1.heap.objs.size≤c:=by
        simp only [List.mem_cons,List.not_mem_nil,or_false] at hc
        rcases hc with rfl | rfl | rfl | rfl | rfl
        · exact Nat.le_add_right _ 4
        · exact Nat.le_add_right _ 2
        · exact Nat.le_add_right _ 3
        · exact Nat.le_refl _
        · exact Nat.le_add_right _ 1
      have f:=I1.fpOk (H':=H1) le (I1.hok.fresh le)
      exact f
end L2
namespace L2
open PySem PySem.Spec PyProof.Rows
end L2
namespace L2
open PySem PySem.Spec PyProof.Rows
mutual
def DA(K:PySem.W.Frag)(F:Hp):PyData→V→Prop
  | .none,v=>v=.non
  | .bool b,v=>v=.bl b
  | .int i,v=>v=.int i
  | .str x,v=>v=.str x
  | .tuple ds,v=>∃a xs,v=.ref a∧bR K F a xs∧aP K F ds xs
  | .list ds,v=>∃a xs,v=.ref a∧cP K F a xs∧aP K F ds xs
  | .dict kvs,v=>∃(a:Addr) (m:List (Int × Int)),v=.ref a∧F a=some (.dK (m.map fun p=>(Sum.inl p.1,V.int p.2)))∧kvs=m.map fun p=>(PyData.int p.1,PyData.int p.2)
def aP(K:PySem.W.Frag)(F:Hp):List PyData→List V→Prop
  | [],xs=>xs=[]
  | d::ds,xs=>∃x r,xs=x::r∧DA K F d x∧aP K F ds r
end
mutual
theorem DA.mono{K:PySem.W.Frag}{F F':Hp}(h:aA F F'):∀{d:PyData} {v:V},DA K F d v→DA K F' d v
  | .none,_,q=>by simp only [DA] at q ⊢;exact q
  | .bool b,_,q=>by simp only [DA] at q ⊢;exact q
  | .int i,_,q=>by simp only [DA] at q ⊢;exact q
  | .str x,_,q=>by simp only [DA] at q ⊢;exact q
  | .tuple ds,_,q=>by
    simp only [DA] at q ⊢
    obtain⟨a,xs,e,s,r⟩:=q
    exact⟨a,xs,e,h.tup s,aP.mono h r⟩
  | .list ds,_,q=>by
    simp only [DA] at q ⊢
    obtain⟨a,xs,e,s,r⟩:=q
    exact⟨a,xs,e,h.seq s,aP.mono h r⟩
  | .dict _,_,q=>by
    simp only [DA] at q ⊢
    obtain⟨a,m,e,s,k⟩:=q
    exact⟨a,m,e,h _ _ s,k⟩
theorem aP.mono{K:PySem.W.Frag}{F F':Hp}(h:aA F F'):∀{ds:List PyData} {xs:List V},aP K F ds xs→aP K F' ds xs
  | [],_,q=>by simp only [aP] at q ⊢;exact q
  | d::ds,_,q=>by
    simp only [aP] at q ⊢
    obtain⟨x,r,e,a,b⟩:=q
    exact⟨x,r,e,DA.mono h a,aP.mono h b⟩
end
section
variable{K:PySem.W.Frag}{F:Hp}
theorem aP.len:∀{ds:List PyData} {xs:List V},aP K F ds xs→ds.length=xs.length
  | [],_,q=>by simp only [aP] at q;subst q;rfl
  | d::ds,_,q=>by
    simp only [aP] at q
    obtain⟨x,r,e,a,b⟩:=q
    subst e
    simp [aP.len b]
theorem aP.get:∀{ds:List PyData} {xs:List V} {i:Nat} {d:PyData},aP K F ds xs→ds[i]?=some d→∃v,xs[i]?=some v∧DA K F d v
  | [],_,_,_,_,h=>by simp at h
  | d::ds,_,i,d',q,h=>by
    simp only [aP] at q
    obtain⟨x,r,e,a,b⟩:=q
    subst e
    cases i with
    | zero=>simp at h;subst h;exact⟨x,rfl,a⟩
    | succ i=>
      obtain⟨v,h1,h2⟩:=aP.get (i:=i) b (by simpa using h)
      exact⟨v,by simpa using h1,h2⟩
theorem aP.append:∀{ds es:List PyData} {xs ys:List V},aP K F ds xs→aP K F es ys→aP K F (ds++es) (xs++ys)
  | [],_,_,_,q,s=>by simp only [aP] at q;subst q;simpa using s
  | d::ds,es,_,ys,q,s=>by
    simp only [aP] at q
    obtain⟨x,r,e,a,b⟩:=q
    subst e
    simp only [List.cons_append,aP]
    exact⟨x,_,rfl,a,aP.append b s⟩
theorem aP.one{d:PyData}{v:V}(h:DA K F d v):aP K F [d] [v]:=by simp only [aP];exact⟨_,_,rfl,h,rfl⟩
theorem aP.nil:aP K F [] []:=by simp only [aP]
theorem aP.cons{d:PyData}{v:V}{ds:List PyData}{vs:List V}(h:DA K F d v)(r:aP K F ds vs):aP K F (d::ds) (v::vs):=by simp only [aP];exact⟨_,_,rfl,h,r⟩
theorem aP.drop:∀{ds:List PyData} {xs:List V} (n:Nat),aP K F ds xs→aP K F (ds.drop n) (xs.drop n)
  | _,_,0,q=>q
  | [],_,n+1,q=>by simp only [aP] at q;subst q;exact aP.nil
  | d::ds,_,n+1,q=>by
    simp only [aP] at q
    obtain⟨x,r,e,a,b⟩:=q
    subst e
    simpa using aP.drop n b
theorem aP.take:∀{ds:List PyData} {xs:List V} (n:Nat),aP K F ds xs→aP K F (ds.take n) (xs.take n)
  | _,_,0,q=>by simpa using aP.nil
  | [],_,n+1,q=>by simp only [aP] at q;subst q;exact aP.nil
  | d::ds,_,n+1,q=>by
    simp only [aP] at q
    obtain⟨x,r,e,a,b⟩:=q
    subst e
    simpa using aP.cons a (aP.take n b)
theorem aP.set{d:PyData}{v:V}(h:DA K F d v):∀{ds:List PyData} {xs:List V} (n:Nat),aP K F ds xs→aP K F (ds.set n d) (xs.set n v)
  | [],_,_,q=>by simp only [aP] at q;subst q;exact aP.nil
  | e::ds,_,n,q=>by
    simp only [aP] at q
    obtain⟨x,r,e,a,b⟩:=q
    subst e
    cases n with
    | zero=>exact aP.cons h b
    | succ n=>exact aP.cons a (aP.set h n b)
theorem aP.erase:∀{ds:List PyData} {xs:List V} (n:Nat),aP K F ds xs→aP K F (ds.eraseIdx n) (xs.eraseIdx n)
  | [],_,_,q=>by simp only [aP] at q;subst q;exact aP.nil
  | e::ds,_,n,q=>by
    simp only [aP] at q
    obtain⟨x,r,e,a,b⟩:=q
    subst e
    cases n with
    | zero=>exact b
    | succ n=>exact aP.cons a (aP.erase n b)
theorem aP.ints:∀{ns:List Int} {xs:List V},aP K F (ns.map .int) xs↔ xs=ns.map V.int
  | [],xs=>by simp [aP]
  | n::ns,xs=>by
    simp only [List.map_cons,aP,DA]
    constructor
    · rintro⟨x,r,e,rfl,q⟩;rw [e,aP.ints.mp q]
    · rintro rfl;exact⟨_,_,rfl,rfl,aP.ints.mpr rfl⟩
theorem aP.bools:∀{ns:List Bool} {xs:List V},aP K F (ns.map .bool) xs↔ xs=ns.map V.bl
  | [],xs=>by simp [aP]
  | n::ns,xs=>by
    simp only [List.map_cons,aP,DA]
    constructor
    · rintro⟨x,r,e,rfl,q⟩;rw [e,aP.bools.mp q]
    · rintro rfl;exact⟨_,_,rfl,rfl,aP.bools.mpr rfl⟩
theorem bV{i:Int}{v:V}:DA K F (.int i) v↔ v=.int i:=by simp only [DA]
theorem dC{b:Bool}{v:V}:DA K F (.bool b) v↔ v=.bl b:=by simp only [DA]
theorem fJ{v:V}:DA K F .none v↔ v=.non:=by simp only [DA]
theorem lM{x:Str}{v:V}:DA K F (.str x) v↔ v=.str x:=by simp only [DA]
theorem c9{ds:List PyData}{v:V}:DA K F (.tuple ds) v↔ ∃a xs,v=.ref a∧bR K F a xs∧aP K F ds xs:=by simp only [DA]
theorem cz{ds:List PyData}{v:V}:DA K F (.list ds) v↔ ∃a xs,v=.ref a∧cP K F a xs∧aP K F ds xs:=by simp only [DA]
end
inductive Sv where
  | d (x:PyData)
  | l (xs:List PyData)
  /-- a list of lists that nobody else holds -/
  | n (xss:List (List PyData))
abbrev En:=List (Option Sv)
inductive Rv where
  | d (x:PyData)
  | l (xs:List PyData)
  | s (i:Nat)
def Fp(σ:L2.St)(e:En)(H:Hp)(i:Nat)(a:Addr):Prop:=(∃xs:List PyData,e[i]?=some (some (Sv.l xs))∧σ[i]?=some (some (.ref a)))∨
  ∃(xss:List (List PyData)) (l:Addr) (bs:List Addr),e[i]?=some (some (Sv.n xss))∧σ[i]?=some (some (.ref l))∧H l=some (.lst (bs.map V.ref))∧(a=l∨a∈bs)
def cL(σ:L2.St)(e:En)(H:Hp)(a:Addr):Prop:=∃i,Fp σ e H i a
structure bg (K:PySem.W.Frag) (F H:Hp) (σ:L2.St) (e:En):Prop where
  sm:aA F H
  len:σ.length=e.length
  dat:∀(i:Nat) (x:PyData),e[i]?=some (some (.d x))→∃v,σ[i]?=some (some v)∧DA K F x v
  own:∀(i:Nat) (xs:List PyData),e[i]?=some (some (.l xs))→∃l vs,σ[i]?=some (some (.ref l))∧F l=none∧H l=some (.lst vs)∧aP K F xs vs
  nst:∀(i:Nat) (xss:List (List PyData)),e[i]?=some (some (.n xss))→∃(l:Addr) (bs:List Addr),σ[i]?=some (some (.ref l))∧F l=none∧H l=some (.lst (bs.map V.ref))∧bs.length=xss.length∧bs.Nodup∧l∉bs∧
    ∀(k:Nat) (b:Addr) (ys:List PyData),bs[k]?=some b→xss[k]?=some ys→F b=none∧∃us,H b=some (.lst us)∧aP K F ys us
  fp:∀(i j:Nat) (a:Addr),Fp σ e H i a→Fp σ e H j a→i=j
theorem bg.inj{K:PySem.W.Frag}{F H:Hp}{σ:L2.St}{e:En}(R:bg K F H σ e)(i j:Nat)(xs ys:List PyData)(l:Addr)(h1:e[i]?=some (some (.l xs)))(h2:e[j]?=some (some (.l ys)))(h3:σ[i]?=some (some (.ref l)))(h4:σ[j]?=some (some (.ref l))):i=j:=R.fp i j l (.inl ⟨xs,h1,h3⟩) (.inl ⟨ys,h2,h4⟩)
theorem bg.fpAt{K:PySem.W.Frag}{F H:Hp}{σ:L2.St}{e:En}(R:bg K F H σ e){i:Nat}{a:Addr}(h:Fp σ e H i a):F a=none∧∃vs,H a=some (.lst vs):=by
  rcases h with ⟨xs,h1,h2⟩ | ⟨xss,l,bs,h1,h2,h3,h4⟩
  · obtain⟨l,vs,g1,g2,g3,_⟩:=R.own i xs h1
    rw [h2] at g1;cases g1
    exact⟨g2,vs,g3⟩
  · obtain⟨l',bs',g1,g2,g3,g4,g5,g6,g7⟩:=R.nst i xss h1
    rw [h2] at g1;cases g1
    rw [h3] at g3
    have e1:bs=bs':=by
      have:=HO.lst.inj (Option.some.inj g3)
      exact List.map_inj_right (fun _ _ z=>V.ref.inj z) |>.mp this
    subst e1
    rcases h4 with rfl | h4
    · exact⟨g2,_,h3⟩
    · obtain⟨k,hk⟩:=List.getElem?_of_mem h4
      have hk2:k < xss.length:=by rw [←g4];exact(List.getElem?_eq_some_iff.mp hk).1
      obtain⟨c1,us,c2,_⟩:=g7 k a xss[k] hk (List.getElem?_eq_getElem hk2)
      exact⟨c1,us,c2⟩
structure dg (σ:L2.St) (F H:Hp) (e:En) (F' H':Hp) (e':En):Prop where
  sf:aA F F'
  dom:∀a,H' a=none→H a=none
  fr:∀a vs,F a=none→H a=some (.lst vs)→¬cL σ e H a→F' a=none
  lst:∀a vs,H a=some (.lst vs)→∃vs',H' a=some (.lst vs')
  tmp:∀a o,H a=some o→¬cL σ e H a→H' a=some o
  shp:∀i:Nat,(∃xs,e'[i]?=some (some (.l xs)))↔ (∃xs,e[i]?=some (some (.l xs)))
  ow:∀a,cL σ e' H' a→cL σ e H a∨H a=none
theorem dg.refl(σ:L2.St)(F H:Hp)(e:En):dg σ F H e F H e:=⟨aA.refl _,fun _ h=>h,fun _ _ h _ _=>h,fun _ vs h=>⟨vs,h⟩,fun _ _ h _=>h,fun _=>Iff.rfl,fun _ h=>.inl h⟩
theorem dg.trans{σ:L2.St}{F H F1 H1 F2 H2:Hp}{e e1 e2:En}(x:dg σ F H e F1 H1 e1)(y:dg σ F1 H1 e1 F2 H2 e2):dg σ F H e F2 H2 e2:=
  ⟨x.sf.trans y.sf,fun a h=>x.dom a (y.dom a h),fun a vs h n no=>let ⟨vs',q⟩:=x.lst a vs n;y.fr a vs' (x.fr a vs h n no) q (fun z=>(x.ow a z).elim no fun z=>by rw [n] at z;cases z),fun a vs h=>let ⟨vs',q⟩:=x.lst a vs h;y.lst a vs' q,
    fun a o h n=>y.tmp a o (x.tmp a o h n) (fun z=>(x.ow a z).elim n fun z=>by rw [h] at z;cases z),fun i=>(y.shp i).trans (x.shp i),fun a h=>(y.ow a h).elim (x.ow a) fun z=>.inr (x.dom a z)⟩
def cf(K:PySem.W.Frag)(σ:L2.St)(H0 F H:Hp)(e:En):Rv→V→Prop
  | .d x,v=>DA K F x v
  | .l xs,v=>∃l vs,v=.ref l∧H0 l=none∧F l=none∧H l=some (.lst vs)∧aP K F xs vs∧¬cL σ e H l
  | .s i,v=>σ[i]?=some (some v)∧∃xs,e[i]?=some (some (.l xs))
section
variable{K:PySem.W.Frag}{σ:L2.St}{H0 F H F' H':Hp}{e e':En}{r:Rv}{v:V}
theorem cf.ext(h:cf K σ H0 F H e r v)(x:dg σ F H e F' H' e'):cf K σ H0 F' H' e' r v:=by
  cases r with
  | d y=>exact DA.mono x.sf h
  | l xs=>
    obtain⟨l,vs,e1,h1,h2,h3,h4,h5⟩:=h
    exact⟨l,vs,e1,h1,x.fr l _ h2 h3 h5,x.tmp l _ h3 h5,aP.mono x.sf h4,fun z=>(x.ow l z).elim h5 fun z=>by rw [h3] at z;cases z⟩
  | s i=>exact⟨h.1,(x.shp i).mpr h.2⟩
theorem cf.weak{H1:Hp}(h:cf K σ H1 F H e r v)(d:∀a,H1 a=none→H0 a=none):cf K σ H0 F H e r v:=by
  cases r with
  | d y=>exact h
  | l xs=>
    obtain⟨l,vs,e1,h1,r⟩:=h
    exact⟨l,vs,e1,d l h1,r⟩
  | s i=>exact h
theorem bg.ownH(R:bg K F H σ e)(a:Addr)(h:cL σ e H a):H a≠none:=by
  obtain⟨i,h⟩:=h
  obtain⟨_,vs,h2⟩:=R.fpAt h
  rw [h2];simp
theorem bg.freeF(R:bg K F H σ e){p:Addr}(hp:H p=none):F p=none:=R.sm.free hp
theorem AN(R:bg K F H σ e)(h:∀l bs,H l=some (.lst bs)→cL σ e H l→H' l=some (.lst bs)){i:Nat}{a:Addr}:Fp σ e H' i a↔ Fp σ e H i a:=by
  have key:∀xss l,e[i]?=some (some (.n xss))→σ[i]?=some (some (.ref l))→H' l=H l:=fun xss l h1 h2=>by
    obtain⟨l',bs,g1,g2,g3,_⟩:=R.nst i xss h1
    rw [h2] at g1;cases g1
    rw [g3]
    exact h l _ g3 ⟨i,.inr ⟨xss,l,bs,h1,h2,g3,.inl rfl⟩⟩
  constructor
  · rintro(h1 | ⟨xss,l,bs,h1,h2,h3,h4⟩)
    · exact .inl h1
    · exact .inr ⟨xss,l,bs,h1,h2,by rw [←key xss l h1 h2];exact h3,h4⟩
  · rintro(h1 | ⟨xss,l,bs,h1,h2,h3,h4⟩)
    · exact .inl h1
    · exact .inr ⟨xss,l,bs,h1,h2,by rw [key xss l h1 h2];exact h3,h4⟩
theorem bg.keep(R:bg K F H σ e)(sF:aA F F')(sm:aA F' H')(hf:∀a,cL σ e H a→F' a=none)(hh:∀a o,cL σ e H a→H a=some o→H' a=some o):bg K F' H' σ e∧∀a,cL σ e H' a↔ cL σ e H a:=by
  have fs:∀{i a},Fp σ e H' i a↔ Fp σ e H i a:=fun{i a}=>AN R fun l bs h1 h2=>hh l _ h2 h1
  refine⟨⟨sm,R.len,fun i x h=>let ⟨v,h1,h2⟩:=R.dat i x h;⟨v,h1,DA.mono sF h2⟩,fun i xs h=>?_,fun i xss h=>?_,fun i j a h1 h2=>R.fp i j a (fs.mp h1) (fs.mp h2)⟩,fun a=>⟨fun⟨i,h⟩=>⟨i,fs.mp h⟩,fun⟨i,h⟩=>⟨i,fs.mpr h⟩⟩⟩
  · obtain⟨l,vs,h1,h2,h3,h4⟩:=R.own i xs h
    have o:cL σ e H l:=⟨i,.inl ⟨xs,h,h1⟩⟩
    exact⟨l,vs,h1,hf l o,hh l _ o h3,h4.mono sF⟩
  · obtain⟨l,bs,h1,h2,h3,h4,h5,h6,h7⟩:=R.nst i xss h
    have o:cL σ e H l:=⟨i,.inr ⟨xss,l,bs,h,h1,h3,.inl rfl⟩⟩
    refine⟨l,bs,h1,hf l o,hh l _ o h3,h4,h5,h6,fun k b ys g1 g2=>?_⟩
    obtain⟨c1,us,c2,c3⟩:=h7 k b ys g1 g2
    have ob:cL σ e H b:=⟨i,.inr ⟨xss,l,bs,h,h1,h3,.inr (List.mem_of_getElem? g1)⟩⟩
    exact⟨hf b ob,us,hh b _ ob c2,c3.mono sF⟩
theorem bg.same(R:bg K F H σ e)(s:aA H H'):bg K F H' σ e∧dg σ F H e F H' e:=by
  obtain⟨R',o'⟩:=R.keep (aA.refl F) (R.sm.trans s) (fun a ⟨i,h⟩=>(R.fpAt h).1) fun a o _ h=>s a o h
  exact⟨R',⟨aA.refl _,fun a h=>s.free h,fun _ _ h _ _=>h,fun a vs h=>⟨vs,s _ _ h⟩,fun a o h _=>s a o h,fun _=>Iff.rfl,fun a h=>.inl ((o' a).mp h)⟩⟩
theorem bg.freeze(R:bg K F H σ e){p:Addr}{o:HO}(hF:F p=none)(hp:H p=some o)(hn:¬cL σ e H p):bg K (a' F p o) H σ e∧aA F (a' F p o):=by
  have sF:aA F (a' F p o):=aA.new hF
  refine⟨(R.keep sF (fun b u q=>?_) (fun a ha=>?_) fun _ _ _ h=>h).1,sF⟩
  · by_cases z:b=p
    · subst z;rw [ar] at q;cases q;exact hp
    · rw [aw z] at q;exact R.sm _ _ q
  · obtain⟨i,hi⟩:=ha
    have z:a≠p:=fun z=>hn ⟨i,by rw [←z];exact hi⟩
    rw [aw z];exact(R.fpAt hi).1
theorem bg.notOwn(R:bg K F H σ e){p:Addr}{o:HO}(hp:H p=some o)(hl:∀vs,o≠.lst vs):¬cL σ e H p:=fun⟨i,h⟩=>by
  obtain⟨_,vs,g⟩:=R.fpAt h
  rw [hp] at g;cases g
  exact hl _ rfl
theorem bg.newT(R:bg K F H σ e){p:Addr}{vs:List V}(hp:H p=none):bg K (a' F p (.tup vs)) (a' H p (.tup vs)) σ e∧dg σ F H e (a' F p (.tup vs)) (a' H p (.tup vs)) e:=by
  have hF:=R.freeF hp
  obtain⟨R1,X1⟩:=R.same (aA.new hp (o:=.tup vs))
  obtain⟨R2,s2⟩:=R1.freeze (p:=p) hF ar (R1.notOwn ar (fun _ z=>nomatch z))
  refine⟨R2,⟨s2,X1.dom,fun a ws h n _=>?_,X1.lst,X1.tmp,X1.shp,X1.ow⟩⟩
  have z:a≠p:=fun z=>by rw [z,hp] at n;cases n
  rw [aw z];exact h
theorem bg.sameOwn(R:bg K F H σ e)(s:aA H H')(a:Addr):cL σ e H' a↔ cL σ e H a:=(R.keep (aA.refl F) (R.sm.trans s) (fun a ⟨i,h⟩=>(R.fpAt h).1) fun a o _ h=>s a o h).2 a
theorem bg.newL(R:bg K F H σ e){p:Addr}{vs:List V}(hp:H p=none):bg K F (a' H p (.lst vs)) σ e∧dg σ F H e F (a' H p (.lst vs)) e∧F p=none∧¬cL σ e (a' H p (.lst vs)) p:=
  ⟨(R.same (aA.new hp)).1,(R.same (aA.new hp)).2,R.freeF hp,fun z=>R.ownH p ((R.sameOwn (aA.new hp) p).mp z) hp⟩
theorem bg.growT(R:bg K F H σ e){p:Addr}{xs:List V}(s:aA H H')(hp:bR K H' p xs):∃F',bg K F' H' σ e∧dg σ F H e F' H' e∧bR K F' p xs:=by
  obtain⟨R1,X1⟩:=R.same s
  rcases hp with hp | hp
  · have key:∀o,H' p=some o→(∀vs,o≠.lst vs)→(∀G:Hp,G p=some o→Rd G p (.tup xs))→∃F',bg K F' H' σ e∧dg σ F H e F' H' e∧bR K F' p xs:=by
      intro o ho hl hr
      cases q:F p with
      | some u=>
        have:=R1.sm _ _ q
        rw [ho] at this;cases this
        exact⟨F,R1,X1,.inl (hr F q)⟩
      | none=>
        obtain⟨R2,s2⟩:=R1.freeze q ho (R1.notOwn ho hl)
        refine⟨_,R2,⟨s2,X1.dom,fun a ws h n _=>?_,X1.lst,X1.tmp,X1.shp,X1.ow⟩,.inl (hr _ ar)⟩
        have z:a≠p:=fun z=>by rw [z] at n;rw [s _ _ n] at ho;cases ho;exact hl _ rfl
        rw [aw z];exact h
    rcases hp with hp | ⟨ob,hp⟩
    · exact key _ hp (fun _ z=>nomatch z) fun G g=>.inl g
    · exact key _ hp (fun _ z=>nomatch z) fun G g=>.inr ⟨ob,g⟩
  · exact⟨F,R1,X1,.inr hp⟩
theorem cf.frozen(R:bg K F H σ e){xs:List PyData}(h:cf K σ H0 F H e (.l xs) v):∃F',bg K F' H σ e∧aA F F'∧DA K F' (.list xs) v∧(∀a,F a=none→H0 a≠none→F' a=none):=by
  obtain⟨l,vs,rfl,h1,h2,h3,h4,h5⟩:=h
  obtain⟨R2,s2⟩:=R.freeze h2 h3 h5
  refine⟨_,R2,s2,?_,fun a ha hn=>?_⟩
  · rw [cz]
    exact⟨l,vs,rfl,.inl (.inl ar),aP.mono s2 h4⟩
  · have z:a≠l:=fun z=>hn (by rw [z];exact h1)
    rw [aw z];exact ha
def fm(e:En):Rv→Option (Bool × List PyData)
  | .d (.tuple xs)=>some (false,xs)
  | .d (.list xs)=>some (true,xs)
  | .l xs=>some (true,xs)
  | .s i=>match e[i]? with
    | some (some (.l xs))=>some (true,xs)
    | _=>none
  | _=>none
theorem ed(R:bg K F H σ e)(h:cf K σ H0 F H e r v){b:Bool}{xs:List PyData}(q:fm e r=some (b,xs)):
    ∃p vs,v=.ref p∧aP K F xs vs∧(if b=true then cP K H p vs else bR K H p vs):=by
  cases r with
  | d x=>
    cases x with
    | tuple ds=>
      cases q
      obtain⟨a,ys,e1,e2,e3⟩:=c9.mp h
      exact⟨a,ys,e1,e3,R.sm.tup e2⟩
    | list ds=>
      cases q
      obtain⟨a,ys,e1,e2,e3⟩:=cz.mp h
      exact⟨a,ys,e1,e3,R.sm.seq e2⟩
    | _=>cases q
  | l ys=>
    cases q
    obtain⟨l,vs,e1,h1,h2,h3,h4,_⟩:=h
    exact⟨l,vs,e1,h4,.inl (.inl h3)⟩
  | s i=>
    obtain⟨h1,ys,h2⟩:=h
    simp only [fm,h2] at q
    cases q
    obtain⟨l,vs,e1,e2,e3,e4⟩:=R.own i _ h2
    rw [h1] at e1;cases e1
    exact⟨l,vs,rfl,e4,.inl (.inl e3)⟩
end
end L2
namespace L2
open PySem PySem.Spec PyProof.Rows
abbrev FE:=En→Option (Rv × En)
abbrev FT:=En→Option (Bool × En)
abbrev FA:=En→Option (List Rv × En)
def cO(K:PySem.W.Frag)(σ:L2.St)(H0 F H:Hp)(e:En):List Rv→List V→Prop
  | [],vs=>vs=[]
  | r::rs,vs=>∃v ws,vs=v::ws∧cf K σ H0 F H e r v∧cO K σ H0 F H e rs ws
def fE(K:PySem.W.Frag)(f:FE):TE:=fun σ H Q=>∃F e r e',bg K F H σ e∧f e=some (r,e')∧∀F' H' v,dg σ F H e F' H' e'→bg K F' H' σ e'→cf K σ H F' H' e' r v→Q v H'
def fT(K:PySem.W.Frag)(f:FT):TT:=fun σ H Q=>∃F e b e',bg K F H σ e∧f e=some (b,e')∧∀F' H',dg σ F H e F' H' e'→bg K F' H' σ e'→Q b H'
def fA(K:PySem.W.Frag)(f:FA):TA:=fun σ H Q=>∃F e rs e',bg K F H σ e∧f e=some (rs,e')∧∀F' H' vs,dg σ F H e F' H' e'→bg K F' H' σ e'→cO K σ H F' H' e' rs vs→Q vs H'
theorem PE.mono{X:Cx}{e:Expr}{t t':TE}(h:PE X e t)(m:∀σ H Q,t' σ H Q→t σ H Q):PE X e t':=fun pins s σ H Q I q=>h pins s σ H Q I (m σ H Q q)
theorem PT.mono{X:Cx}{e:Expr}{t t':TT}(h:PT X e t)(m:∀σ H Q,t' σ H Q→t σ H Q):PT X e t':=fun pins s σ H Q I q=>h pins s σ H Q I (m σ H Q q)
theorem PW.mono{X:Cx}{e:Expr}{t t':TT}(h:PW X e t)(m:∀σ H Q,t' σ H Q→t σ H Q):PW X e t':=fun wh pins s σ H Q I q=>h wh pins s σ H Q I (m σ H Q q)
theorem PA.mono{X:Cx}{es:List Expr}{t t':TA}(h:PA X es t)(m:∀σ H Q,t' σ H Q→t σ H Q):PA X es t':=fun pos pins s σ H Q I q=>h pos pins s σ H Q I (m σ H Q q)
section
variable{K:PySem.W.Frag}{σ:L2.St}{H0 F H F' H':Hp}{e e':En}
theorem cO.weak{H1:Hp}(d:∀a,H1 a=none→H0 a=none):∀{rs:List Rv} {vs:List V},cO K σ H1 F H e rs vs→cO K σ H0 F H e rs vs
  | [],_,h=>h
  | r::rs,_,h=>by
    obtain⟨v,ws,rfl,h1,h2⟩:=h
    exact⟨v,ws,rfl,h1.weak d,cO.weak d h2⟩
theorem dg.frz{F'':Hp}(x:dg σ F H e F' H' e')(s:aA F' F'')(h:∀a,F' a=none→H a≠none→F'' a=none):dg σ F H e F'' H' e':=
  ⟨x.sf.trans s,x.dom,fun a vs h1 h2 h3=>h a (x.fr a vs h1 h2 h3) (by rw [h2];simp),x.lst,x.tmp,x.shp,x.ow⟩
def gh:List Rv→Option (List PyData)
  | []=>some []
  | .d x::rs=>(gh rs).map (x::·)
  | .l xs::rs=>(gh rs).map (.list xs::·)
  | .s _::_=>none
theorem cO.frozen:∀{rs:List Rv} {vs:List V} {ds:List PyData} {F:Hp},bg K F H σ e→cO K σ H0 F H e rs vs→gh rs=some ds→
    ∃F',bg K F' H σ e∧aA F F'∧aP K F' ds vs∧(∀a,F a=none→H0 a≠none→F' a=none)
  | [],_,_,F,R,h,q=>by
    cases q
    have h':_=[]:=h
    subst h'
    exact⟨F,R,aA.refl _,aP.nil,fun _ h _=>h⟩
  | .d x::rs,_,ds,F,R,h,q=>by
    obtain⟨v,ws,rfl,h1,h2⟩:=h
    obtain⟨ds',q1,rfl⟩:=Option.map_eq_some_iff.mp q
    obtain⟨F',R',s',d',f'⟩:=cO.frozen R h2 q1
    exact⟨F',R',s',.cons (DA.mono s' h1) d',f'⟩
  | .l xs::rs,_,ds,F,R,h,q=>by
    obtain⟨v,ws,rfl,h1,h2⟩:=h
    obtain⟨ds',q1,rfl⟩:=Option.map_eq_some_iff.mp q
    obtain⟨F',R',s',d',f'⟩:=cO.frozen R h2 q1
    obtain⟨l,us,rfl,g1,g2,g3,g4,g5⟩:=h1
    cases hl:F' l with
    | none=>
      have h1':cf K σ H0 F' H e (.l xs) (.ref l):=⟨l,us,rfl,g1,hl,g3,aP.mono s' g4,g5⟩
      obtain⟨F2,R2,s2,d2,f2⟩:=h1'.frozen R'
      exact⟨F2,R2,s'.trans s2,.cons d2 (aP.mono s2 d'),fun a ha hn=>f2 a (f' a ha hn) hn⟩
    | some o=>
      have:=R'.sm _ _ hl
      rw [g3] at this;cases this
      exact⟨F',R',s',.cons (cz.mpr ⟨l,us,rfl,.inl (.inl hl),aP.mono s' g4⟩) d',f'⟩
end
section
variable{X:Cx}{K:PySem.W.Frag}{a b c:Expr}{fa fb:FE}{ft fu:FT}{pos:Pos}{es:List Expr}{fs:FA}
def ac(i:Nat):FE:=fun e=>match e[i]? with
  | some (some (.d x))=>some (.d x,e)
  | some (some (.l _))=>some (.s i,e)
  | _=>none
def vC(x:PyData):FE:=fun e=>some (.d x,e)
theorem Cm{i:Nat}{σ:L2.St}{H:Hp}{Q:VK}(h:fE K (ac i) σ H Q):GL i σ H Q:=by
  obtain⟨F,e,r,e',R,hf,q⟩:=h
  unfold ac at hf
  match h1:e[i]?,hf with
  | some (some (.d x)),hf=>
    cases hf
    obtain⟨v,h2,h3⟩:=R.dat i x h1
    exact⟨v,h2,q F H v (dg.refl _ _ _ _) R h3⟩
  | some (some (.n _)),hf=>cases hf
  | some (some (.l xs)),hf=>
    cases hf
    obtain⟨l,vs,h2,h3⟩:=R.own i xs h1
    exact⟨_,h2,q F H _ (dg.refl _ _ _ _) R ⟨h2,xs,h1⟩⟩
  | some none,hf=>cases hf
  | none,hf=>cases hf
theorem qv(i:Nat){x:Str}{pos:Pos}(hN:X.N[i]?=some x)(hv:Ar X.env.scope x)(hd:(x==("__debug__":Str))=false)(hcd:(x==("__classdict__":Str))=false):PE X (.Name x pos) (fE K (ac i)):=(l4 hN hv hd hcd).mono fun _ _ _ h=>Cm h
theorem tZ{x:PyData}{v:V}{σ:L2.St}{H:Hp}{Q:VK}(hx:∀F,DA K F x v)(h:fE K (vC x) σ H Q):tC v σ H Q:=by
  obtain⟨F,e,r,e',R,hf,q⟩:=h
  cases hf
  exact q F H v (dg.refl _ _ _ _) R (hx F)
theorem ae{i j pos}:PE X (.Constant (.int i) j pos) (fE K (vC (.int i))):=rA.mono fun _ _ _ h=>tZ (fun _=>bV.mpr rfl) h
theorem cQ{b j pos}:PE X (.Constant (.bool b) j pos) (fE K (vC (.bool b))):=Gb.mono fun _ _ _ h=>tZ (fun _=>dC.mpr rfl) h
theorem uR{j pos}:PE X (.Constant .none j pos) (fE K (vC .none)):=D9.mono fun _ _ _ h=>tZ (fun _=>fJ.mpr rfl) h
theorem rG{x j pos}:PE X (.Constant (.str x) j pos) (fE K (vC (.str x))):=Ea.mono fun _ _ _ h=>tZ (fun _=>lM.mpr rfl) h
theorem vX{x:Str}{v:V}{u:Value}{pos:Pos}{y:PyData}(hg:Gl X x)(hm:X.mg x=some u)(r:bA v u)(hy:∀F,DA K F y v)(hd:(x==("__debug__":Str))=false):PE X (.Name x pos) (fE K (vC y)):=(BA hg hm r hd).mono fun _ _ _ h=>tZ hy h
def ir(K:PySem.W.Frag)(r:R2)(g:En→Rv→Rv→Option Rv):Prop:=
  ∀(σ:L2.St) (H0 F H:Hp) (e:En) (x y z:Rv) (v u:V) (Q:VK),bg K F H σ e→cf K σ H0 F H e x v→cf K σ H0 F H e y u→g e x y=some z→
    (∀F' H' w,dg σ F H e F' H' e→bg K F' H' σ e→cf K σ H F' H' e z w→Q w H')→r v u H Q
def au(g:En→Rv→Rv→Option Rv)(fa fb:FE):FE:=fun e=>(fa e).bind fun p=>(fb p.2).bind fun q=>(g q.2 p.1 q.1).map fun z=>(z,q.2)
theorem rX{r:R2}{g:En→Rv→Rv→Option Rv}(ho:ir K r g){σ:L2.St}{H:Hp}{Q:VK}(h:fE K (au g fa fb) σ H Q):GG r (fE K fa) (fE K fb) σ H Q:=by
  obtain⟨F,e,z,e2,R,hf,q⟩:=h
  unfold au at hf
  obtain⟨⟨x,e1⟩,h1,hf⟩:=Option.bind_eq_some_iff.mp hf
  obtain⟨⟨y,e2'⟩,h2,hf⟩:=Option.bind_eq_some_iff.mp hf
  obtain⟨z',h3,hf⟩:=Option.map_eq_some_iff.mp hf
  cases hf
  refine⟨F,e,x,e1,R,h1,fun F1 H1 v X1 R1 A1=>⟨F1,e1,y,_,R1,h2,fun F2 H2 u X2 R2 A2=>?_⟩⟩
  have X12:=X1.trans X2
  refine ho σ H F2 H2 _ x y _ v u Q R2 (A1.ext X2) (A2.weak X1.dom) h3 fun F3 H3 w X3 R3 A3=>?_
  exact q F3 H3 w (X12.trans X3) R3 (A3.weak X12.dom)
theorem pX{op:Operator}{r:R2}{g:En→Rv→Rv→Option Rv}(hr:ix X (binaryOp op) r)(ho:ir K r g)(ha:PE X a (fE K fa))(hb:PE X b (fE K fb)):PE X (.BinOp a op b pos) (fE K (au g fa fb)):=(CV hr ha hb).mono fun _ _ _ h=>rX ho h
theorem Er{op:CmpOp}{r:R2}{g:En→Rv→Rv→Option Rv}(hr:ix X (compareOp op) r)(ho:ir K r g)(ha:PE X a (fE K fa))(hb:PE X b (fE K fb))(hm:behindInMarks op b=false):PE X (.Compare a [op] [b] pos) (fE K (au g fa fb)):=(Bx hr ha hb hm).mono fun _ _ _ h=>rX ho h
theorem Gh{r:R2}{g:En→Rv→Rv→Option Rv}(hr:Ao X r)(ho:ir K r g)(ha:PE X a (fE K fa))(hb:PE X b (fE K fb))(hs:mY b):PE X (.Subscript a b pos) (fE K (au g fa fb)):=(CU hr ha hb hs).mono fun _ _ _ h=>rX ho h
def lH(g:En→Rv→Option Rv)(fa:FE):FE:=fun e=>(fa e).bind fun p=>(g p.2 p.1).map fun z=>(z,p.2)
def E_(K:PySem.W.Frag)(r:V→Hp→VK→Prop)(g:En→Rv→Option Rv):Prop:=
  ∀(σ:L2.St) (H0 F H:Hp) (e:En) (x z:Rv) (v:V) (Q:VK),bg K F H σ e→cf K σ H0 F H e x v→g e x=some z→
    (∀F' H' w,dg σ F H e F' H' e→bg K F' H' σ e→cf K σ H F' H' e z w→Q w H')→r v H Q
theorem Am{r:V→Hp→VK→Prop}{g:En→Rv→Option Rv}(ho:E_ K r g){σ:L2.St}{H:Hp}{Q:VK}(h:fE K (lH g fa) σ H Q):HW r (fE K fa) σ H Q:=by
  obtain⟨F,e,z,e2,R,hf,q⟩:=h
  unfold lH at hf
  obtain⟨⟨x,e1⟩,h1,hf⟩:=Option.bind_eq_some_iff.mp hf
  obtain⟨z',h3,hf⟩:=Option.map_eq_some_iff.mp hf
  cases hf
  refine⟨F,e,x,_,R,h1,fun F1 H1 v X1 R1 A1=>?_⟩
  refine ho σ H F1 H1 _ x _ v Q R1 A1 h3 fun F3 H3 w X3 R3 A3=>?_
  exact q F3 H3 w (X1.trans X3) R3 (A3.weak X1.dom)
theorem Gi{op:UnaryOp}{r:V→Hp→VK→Prop}{g:En→Rv→Option Rv}(hr:GX X (unaryOp op) r)(ho:E_ K r g)(ha:PE X a (fE K fa)):PE X (.UnaryOp op a pos) (fE K (lH g fa)):=(Gc hr ha).mono fun _ _ _ h=>Am ho h
def cT:Rv→Option Bool
  | .d (.bool b)=>some b
  | _=>none
theorem ek{σ:L2.St}{H0 F H:Hp}{e:En}{r:Rv}{v:V}{b:Bool}(h:cf K σ H0 F H e r v)(q:cT r=some b):v=.bl b:=by
  unfold cT at q
  split at q
  · cases q;exact dC.mp (show DA K F (.bool _) v from h)
  · cases q
theorem d_{σ:L2.St}{H0 F H:Hp}{e:En}{b:Bool}:cf K σ H0 F H e (.d (.bool b)) (.bl b):=(dC (K:=K) (F:=F)).mpr rfl
def aN(f:FE):FT:=fun e=>(f e).bind fun p=>(cT p.1).map fun b=>(b,p.2)
theorem ue{σ:L2.St}{H:Hp}{Q:Bool→Hp→Prop}(h:fT K (aN fa) σ H Q):fE K fa σ H fun x H'=>∃k,x=.bl k∧Q k H':=by
  obtain⟨F,e,b,e1,R,hf,q⟩:=h
  unfold aN at hf
  obtain⟨⟨x,e1'⟩,h1,hf⟩:=Option.bind_eq_some_iff.mp hf
  obtain⟨b',h3,hf⟩:=Option.map_eq_some_iff.mp hf
  cases hf
  exact⟨F,e,x,_,R,h1,fun F1 H1 v X1 R1 A1=>⟨_,ek A1 h3,q F1 H1 X1 R1⟩⟩
theorem Ey{op:CmpOp}{r:R2}{g:En→Rv→Rv→Option Rv}(hr:ix X (compareOp op) r)(ho:ir K r g)(ha:PE X a (fE K fa))(hb:PE X b (fE K fb))(hm:behindInMarks op b=false):PT X (.Compare a [op] [b] pos) (fT K (aN (au g fa fb))):=
  (BP hr ha hb hm).mono fun σ H Q h=>by
    obtain⟨F,e,z,e2,R,hf,q⟩:=ue h
    exact rX ho ⟨F,e,z,e2,R,hf,q⟩
theorem jE{e:Expr}(h:PE X e (fE K fa))(he:∀whole,isTrue e X.env whole=(do let v ←whole;standAt e.pos;holding [v] (truthy v))):PT X e (fT K (aN fa)):=(Ek h he).mono fun _ _ _ h=>ue h
def jM(f g:FT):FT:=fun e=>(f e).bind fun p=>if p.1=true then g p.2 else some (false,p.2)
def uc(f g:FT):FT:=fun e=>(f e).bind fun p=>if p.1=true then some (true,p.2) else g p.2
def j4(f:FT):FT:=fun e=>(f e).map fun p=>(!p.1,p.2)
theorem Ci{σ:L2.St}{H:Hp}{Q:Bool→Hp→Prop}(h:fT K (jM ft fu) σ H Q):Gy (fT K ft) (fT K fu) σ H Q:=by
  obtain⟨F,e,b,e1,R,hf,q⟩:=h
  unfold jM at hf
  obtain⟨⟨x,e1'⟩,h1,hf⟩:=Option.bind_eq_some_iff.mp hf
  refine⟨F,e,x,e1',R,h1,fun F1 H1 X1 R1=>?_⟩
  cases x with
  | true=>exact⟨F1,e1',b,e1,R1,hf,fun F2 H2 X2 R2=>q F2 H2 (X1.trans X2) R2⟩
  | false=>cases hf;exact q F1 H1 X1 R1
theorem E5{σ:L2.St}{H:Hp}{Q:Bool→Hp→Prop}(h:fT K (uc ft fu) σ H Q):HV (fT K ft) (fT K fu) σ H Q:=by
  obtain⟨F,e,b,e1,R,hf,q⟩:=h
  unfold uc at hf
  obtain⟨⟨x,e1'⟩,h1,hf⟩:=Option.bind_eq_some_iff.mp hf
  refine⟨F,e,x,e1',R,h1,fun F1 H1 X1 R1=>?_⟩
  cases x with
  | false=>exact⟨F1,e1',b,e1,R1,hf,fun F2 H2 X2 R2=>q F2 H2 (X1.trans X2) R2⟩
  | true=>cases hf;exact q F1 H1 X1 R1
theorem Ck{σ:L2.St}{H:Hp}{Q:Bool→Hp→Prop}(h:fT K (j4 ft) σ H Q):GE (fT K ft) σ H Q:=by
  obtain⟨F,e,b,e1,R,hf,q⟩:=h
  unfold j4 at hf
  obtain⟨⟨x,e1'⟩,h1,hf⟩:=Option.map_eq_some_iff.mp hf
  cases hf
  exact⟨F,e,x,_,R,h1,fun F1 H1 X1 R1=>q F1 H1 X1 R1⟩
variable{gX:List Expr}
theorem rJ(ha:PT X a (fT K ft)):PW X (.BoolOp .And [a] pos) (fT K ft):=BS ha
theorem rK(ha:PT X a (fT K ft)):PW X (.BoolOp .Or [a] pos) (fT K ft):=Eo ha
theorem rH(ha:PT X a (fT K ft))(hb:PW X (.BoolOp .And (b::gX) pos) (fT K fu)):PW X (.BoolOp .And (a::b::gX) pos) (fT K (jM ft fu)):=(Em ha hb).mono fun _ _ _ h=>Ci h
theorem tj(ha:PT X a (fT K ft))(hb:PW X (.BoolOp .Or (b::gX) pos) (fT K fu)):PW X (.BoolOp .Or (a::b::gX) pos) (fT K (uc ft fu)):=(Gg ha hb).mono fun _ _ _ h=>E5 h
theorem om(ha:PT X a (fT K ft)):PT X (.UnaryOp .Not a pos) (fT K (j4 ft)):=(Ej ha).mono fun _ _ _ h=>Ck h
theorem uS{e:Expr}(h:PW X e (fT K ft)):PT X e (fT K ft):=h.pt
def ig(f g:FE):FE:=fun e=>(f e).bind fun p=>(cT p.1).bind fun b=>if b=true then g p.2 else some (.d (.bool false),p.2)
def ud(f g:FE):FE:=fun e=>(f e).bind fun p=>(cT p.1).bind fun b=>if b=true then some (.d (.bool true),p.2) else g p.2
def jN(f:FE):FE:=fun e=>(f e).bind fun p=>(cT p.1).map fun b=>(.d (.bool (!b)),p.2)
theorem rD(ha:PE X a (fE K fa))(hb:PE X (.BoolOp .And (b::gX) pos) (fE K fb)):PE X (.BoolOp .And (a::b::gX) pos) (fE K (ig fa fb)):=(D8 ha hb).mono fun σ H Q h=>by
  obtain⟨F,e,z,e2,R,hf,q⟩:=h
  unfold ig at hf
  obtain⟨⟨x,e1⟩,h1,hf⟩:=Option.bind_eq_some_iff.mp hf
  obtain⟨b,h2,hf⟩:=Option.bind_eq_some_iff.mp hf
  refine⟨F,e,x,e1,R,h1,fun F1 H1 v X1 R1 A1=>⟨b,ek A1 h2,?_⟩⟩
  cases b with
  | true=>exact⟨F1,e1,z,e2,R1,hf,fun F2 H2 w X2 R2 A2=>q F2 H2 w (X1.trans X2) R2 (A2.weak X1.dom)⟩
  | false=>cases hf;exact q F1 H1 _ X1 R1 d_
theorem rF{op}(h:PE X a (fE K fa)):PE X (.BoolOp op [a] pos) (fE K fa):=D' h
theorem Es(ha:PE X a (fE K fa)):PE X (.UnaryOp .Not a pos) (fE K (jN fa)):=(D_ ha).mono fun σ H Q h=>by
  obtain⟨F,e,z,e2,R,hf,q⟩:=h
  unfold jN at hf
  obtain⟨⟨x,e1⟩,h1,hf⟩:=Option.bind_eq_some_iff.mp hf
  obtain⟨b,h2,hf⟩:=Option.map_eq_some_iff.mp hf
  cases hf
  exact⟨F,e,x,_,R,h1,fun F1 H1 v X1 R1 A1=>⟨b,ek A1 h2,q F1 H1 _ X1 R1 d_⟩⟩
def C7(t:FT)(f g:FE):FE:=fun e=>(t e).bind fun p=>if p.1=true then f p.2 else g p.2
def ai:FA:=fun e=>some ([],e)
def aa(fa:FE)(fs:FA):FA:=fun e=>(fa e).bind fun p=>(fs p.2).map fun q=>(p.1::q.1,q.2)
theorem ab:PA X [] (fA K ai):=lZ.mono fun σ H Q h=>by
  obtain⟨F,e,r,e',R,hf,q⟩:=h
  cases hf
  exact q F H [] (dg.refl _ _ _ _) R rfl
theorem Hx(ha:PE X a (fE K fa))(hr:PA X es (fA K fs))(h:PySem.W.isStarred a=false):PA X (a::es) (fA K (aa fa fs)):=(Bv ha hr h).mono fun σ H Q h=>by
  obtain⟨F,e,z,e2,R,hf,q⟩:=h
  unfold aa at hf
  obtain⟨⟨x,e1⟩,h1,hf⟩:=Option.bind_eq_some_iff.mp hf
  obtain⟨⟨xs,e2'⟩,h2,hf⟩:=Option.map_eq_some_iff.mp hf
  cases hf
  refine⟨F,e,x,e1,R,h1,fun F1 H1 v X1 R1 A1=>⟨F1,e1,xs,_,R1,h2,fun F2 H2 vs X2 R2 A2=>?_⟩⟩
  exact q F2 H2 (v::vs) (X1.trans X2) R2 ⟨v,vs,rfl,A1.ext X2,A2.weak X1.dom⟩
def aO(fs:FA):FE:=fun e=>(fs e).bind fun p=>(gh p.1).bind fun ds=>if ds.length≤1000 then some (.d (.tuple ds),p.2) else none
def bL(fs:FA):FE:=fun e=>(fs e).bind fun p=>(gh p.1).bind fun ds=>if ds.length≤1000 then some (.l ds,p.2) else none
theorem ap{x1}(h:PA X es (fA K fs)):PE X (.Tuple es x1 pos) (fE K (aO fs)):=(Eb h).mono fun σ H Q h=>by
  obtain⟨F,e,z,e2,R,hf,q⟩:=h
  unfold aO at hf
  obtain⟨⟨rs,e1⟩,h1,hf⟩:=Option.bind_eq_some_iff.mp hf
  obtain⟨ds,h2,hf⟩:=Option.bind_eq_some_iff.mp hf
  split at hf
  case isFalse=>cases hf
  case isTrue hl=>
  cases hf
  refine⟨F,e,rs,_,R,h1,fun F1 H1 vs X1 R1 A1=>?_⟩
  obtain⟨F2,R2,s2,d2,f2⟩:=cO.frozen R1 A1 h2
  have hlen:=d2.len
  refine⟨Nat.le_of_lt (p9 (by lia)),fun p hp=>?_⟩
  obtain⟨R3,X3⟩:=R2.newT (vs:=vs) hp
  exact q _ _ _ ((X1.frz s2 f2).trans X3) R3 (c9.mpr ⟨p,vs,rfl,.inl (.inl ar),aP.mono X3.sf d2⟩)
theorem aY(h:PA X es (fA K fs)):PE X (.List es pos) (fE K (bL fs)):=(y6 h).mono fun σ H Q h=>by
  obtain⟨F,e,z,e2,R,hf,q⟩:=h
  unfold bL at hf
  obtain⟨⟨rs,e1⟩,h1,hf⟩:=Option.bind_eq_some_iff.mp hf
  obtain⟨ds,h2,hf⟩:=Option.bind_eq_some_iff.mp hf
  split at hf
  case isFalse=>cases hf
  case isTrue hl=>
  cases hf
  refine⟨F,e,rs,_,R,h1,fun F1 H1 vs X1 R1 A1=>?_⟩
  obtain⟨F2,R2,s2,d2,f2⟩:=cO.frozen R1 A1 h2
  have hlen:=d2.len
  refine⟨Nat.le_of_lt (p9 (by lia)),fun p hp=>?_⟩
  obtain⟨R3,X3,hF,no⟩:=R2.newL (vs:=vs) hp
  exact q _ _ _ ((X1.frz s2 f2).trans X3) R3 ⟨p,vs,rfl,X1.dom p hp,hF,ar,d2,no⟩
def dy(K:PySem.W.Frag)(r:List V→Hp→VK→Prop)(g:En→List Rv→Option Rv):Prop:=
  ∀(σ:L2.St) (H0 F H:Hp) (e:En) (xs:List Rv) (z:Rv) (vs:List V) (Q:VK),bg K F H σ e→cO K σ H0 F H e xs vs→g e xs=some z→
    (∀F' H' w,dg σ F H e F' H' e→bg K F' H' σ e→cf K σ H F' H' e z w→Q w H')→r vs H Q
def aL(g:En→List Rv→Option Rv)(fs:FA):FE:=fun e=>(fs e).bind fun p=>(g p.2 p.1).map fun z=>(z,p.2)
theorem t9{r:List V→Hp→VK→Prop}{g:En→List Rv→Option Rv}(ho:dy K r g){σ:L2.St}{H:Hp}{Q:VK}(h:fE K (aL g fs) σ H Q):HB r (fA K fs) σ H Q:=by
  obtain⟨F,e,z,e2,R,hf,q⟩:=h
  unfold aL at hf
  obtain⟨⟨x,e1⟩,h1,hf⟩:=Option.bind_eq_some_iff.mp hf
  obtain⟨z',h3,hf⟩:=Option.map_eq_some_iff.mp hf
  cases hf
  refine⟨F,e,x,_,R,h1,fun F1 H1 vs X1 R1 A1=>?_⟩
  refine ho σ H F1 H1 _ x _ vs Q R1 A1 h3 fun F3 H3 w X3 R3 A3=>?_
  exact q F3 H3 w (X1.trans X3) R3 (A3.weak X1.dom)
theorem zy{x:Str}{p pos:Pos}{id:String}{r:List V→Hp→VK→Prop}{g:En→List Rv→Option Rv}(hc:df X (.builtin id) r)(ho:dy K r g)(hg:Gl X x)(hm:X.mg x=none)(hv:bootBuiltins x=some (.builtin id))(ha:PA X (a::es) (fA K fs))(hn:x≠"__name__")(hdb:(x==("__debug__":Str))=false)
    (he:starEach (a::es) X.env=(false,eval a X.env)::starEach es X.env)(hpl:(backTo pos (starEach es X.env)).any (·.1)=false):PE X (.Call (.Name x p) (a::es) [] pos) (fE K (aL g fs)):=(oi hc hg hm hv ha hn hdb he hpl).mono fun _ _ _ h=>t9 ho h
theorem xk{x:Str}{p pos:Pos}{T:String}{r:List V→Hp→VK→Prop}{g:En→List Rv→Option Rv}(hc:df X (.type T) r)(ho:dy K r g)(hg:Gl X x)(hm:X.mg x=none)(hv:bootBuiltins x=some (.type T))(ha:PA X (a::es) (fA K fs))(hn:x≠"__name__")(hdb:(x==("__debug__":Str))=false)
    (he:starEach (a::es) X.env=(false,eval a X.env)::starEach es X.env)(hpl:(backTo pos (starEach es X.env)).any (·.1)=false):PE X (.Call (.Name x p) (a::es) [] pos) (fE K (aL g fs)):=(xh hc hg hm hv ha hn hdb he hpl).mono fun _ _ _ h=>t9 ho h
end
end L2
namespace L2
open PySem PySem.Spec PyProof.Rows
mutual
theorem DA.reads{X:Cx}{pins:List (Addr × Obj)}{σ:L2.St}{H:Hp}{s:Shared}(I:aE X pins σ H s):∀{d:PyData} {v:V} {u:Value},d.canLay0=true→DA X.K H d v→bA v u→∃as,Reads s.heap u d as
  | .none,_,_,_,q,r=>by
    simp only [DA] at q;subst q;cases r;exact⟨_,.none⟩
  | .bool b,_,_,_,q,r=>by
    simp only [DA] at q;subst q;cases r;exact⟨_,.bool b⟩
  | .int i,_,_,_,q,r=>by
    simp only [DA] at q;subst q;obtain⟨t,rfl⟩:=r;exact⟨_,.int i t⟩
  | .str x,_,_,_,q,r=>by
    simp only [DA] at q;subst q;obtain⟨t,rfl⟩:=r;exact⟨_,.str x t⟩
  | .tuple ds,_,_,c,q,r=>by
    simp only [DA] at q
    obtain⟨a,xs,e,hs,rr⟩:=q
    subst e;cases r
    obtain⟨its,rv,⟨o,ho,hc,n,hd⟩,hz⟩:=I.tuple hs
    obtain⟨as,q⟩:=aP.reads I (by simpa [PyData.canLay0] using c) rr rv
    exact⟨_,.tuple ho hc hd q⟩
  | .list ds,_,_,c,q,r=>by
    simp only [DA] at q
    obtain⟨a,xs,e,hs,rr⟩:=q
    subst e;cases r
    obtain⟨its,rv,ht,hz⟩:=I.list hs
    obtain⟨o,ho,hc,n,hd⟩:=ht.isList
    obtain⟨as,q⟩:=aP.reads I (by simpa [PyData.canLay0] using c) rr rv
    exact⟨_,.list ho hc hd q⟩
  | .dict _,_,_,c,_,_=>by simp [PyData.canLay0] at c
theorem aP.reads{X:Cx}{pins:List (Addr × Obj)}{σ:L2.St}{H:Hp}{s:Shared}(I:aE X pins σ H s):∀{ds:List PyData} {xs:List V} {us:List Value},PyData.canLayAll0 ds=true→aP X.K H ds xs→aQ xs us→∃as,ReadsAll s.heap us ds as
  | [],_,_,_,q,r=>by
    simp only [aP] at q;subst q;cases r;exact⟨_,.nil⟩
  | d::ds,_,_,c,q,r=>by
    simp only [aP] at q
    simp only [PyData.canLayAll0,Bool.and_eq_true] at c
    obtain⟨x,rr,e,a,b⟩:=q
    subst e
    cases r with
    | cons p p'=>
      obtain⟨as,q1⟩:=DA.reads I c.1 a p
      obtain⟨bs,q2⟩:=aP.reads I c.2 b p'
      exact⟨_,.cons q1 q2⟩
end
def iD(e:En):Rv→Option PyData
  | .d x=>some x
  | .l xs=>some (.list xs)
  | .s i=>match e[i]? with
    | some (some (.l xs))=>some (.list xs)
    | _=>none
theorem jk{K:PySem.W.Frag}{σ:L2.St}{H0 F H:Hp}{e:En}{r:Rv}{v:V}{d:PyData}(R:bg K F H σ e)(h:cf K σ H0 F H e r v)(q:iD e r=some d):DA K H d v:=by
  cases r with
  | d x=>cases q;exact DA.mono R.sm h
  | l xs=>
    cases q
    obtain⟨l,vs,rfl,h1,h2,h3,h4,_⟩:=h
    exact cz.mpr ⟨l,vs,rfl,.inl (.inl h3),aP.mono R.sm h4⟩
  | s i=>
    obtain⟨h1,ys,h2⟩:=h
    simp only [iD,h2] at q
    cases q
    obtain⟨l,vs,e1,e2,e3,e4⟩:=R.own i _ h2
    rw [h1] at e1;cases e1
    exact cz.mpr ⟨l,vs,rfl,.inl (.inl e3),aP.mono R.sm e4⟩
section
variable{X:Cx}{K:PySem.W.Frag}
def bM:Rv→Option Int
  | .d (.int i)=>some i
  | _=>none
theorem cq{σ:L2.St}{H0 F H:Hp}{e:En}{r:Rv}{v:V}{i:Int}(h:cf K σ H0 F H e r v)(q:bM r=some i):v=.int i:=by
  unfold bM at q
  split at q
  · cases q;exact bV.mp (show DA K F (.int _) v from h)
  · cases q
theorem l7{σ:L2.St}{H0 F H:Hp}{e:En}{i:Int}:cf K σ H0 F H e (.d (.int i)) (.int i):=(bV (K:=K) (F:=F)).mpr rfl
def gI(C:Int→Int→Bool)(f:Int→Int→PyData):En→Rv→Rv→Option Rv:=fun _ x y=>(bM x).bind fun i=>(bM y).bind fun j=>if C i j=true then some (.d (f i j)) else none
theorem sY{C:Int→Int→Prop}{c:Int→Int→Bool}{g:Int→Int→V}{f:Int→Int→PyData}(hc:∀i j,c i j=true→C i j)(hf:∀F i j,DA K F (f i j) (g i j)):ir K (rI C g) (gI c f):=by
  intro σ H0 F H e x y z v u Q R A B hg q
  unfold gI at hg
  obtain⟨i,h1,hg⟩:=Option.bind_eq_some_iff.mp hg
  obtain⟨j,h2,hg⟩:=Option.bind_eq_some_iff.mp hg
  split at hg
  case isFalse=>cases hg
  case isTrue hh=>
  cases hg
  exact⟨i,j,cq A h1,cq B h2,hc i j hh,q F H _ (dg.refl _ _ _ _) R (hf F i j)⟩
theorem kr{g:Int→Int→V}{f:Int→Int→PyData}(hf:∀F i j,DA K F (f i j) (g i j)):ir K (xl g) (gI (fun _ _=>true) f):=by
  intro σ H0 F H e x y z v u Q R A B hg q
  obtain⟨i,j,h1,h2,h3,h4⟩:=sY (K:=K) (C:=fun _ _=>True) (c:=fun _ _=>true) (g:=g) (f:=f) (fun _ _ _=>trivial) hf σ H0 F H e x y z v u Q R A B hg q
  exact⟨i,j,h1,h2,h4⟩
def xO(g g':En→Rv→Rv→Option Rv):En→Rv→Rv→Option Rv:=fun e x y=>(g e x y).or (g' e x y)
theorem ir.or{r r':R2}{g g':En→Rv→Rv→Option Rv}(h:ir K r g)(h':ir K r' g'):ir K (fun x y H Q=>r x y H Q∨r' x y H Q) (xO g g'):=by
  intro σ H0 F H e x y z v u Q R A B hg q
  unfold xO at hg
  cases e1:g e x y with
  | some w=>
    rw [e1] at hg
    cases hg
    exact .inl (h σ H0 F H e x y _ v u Q R A B e1 q)
  | none=>
    rw [e1] at hg
    exact .inr (h' σ H0 F H e x y _ v u Q R A B hg q)
def yo:=gI (fun _ _=>true) fun i j=>.int (i+j)
def fg:=gI (fun _ _=>true) fun i j=>.int (i - j)
def i4(i:Int):Bool:=decide (-(2 ^ 64) < i)&&decide (i < 2 ^ 64)
def Fm(n:Nat)(i:Int):Bool:=decide (i.natAbs < 2 ^ n)
theorem iR{n:Nat}{i:Int}:Fm n i=true↔ Bt n i:=by unfold Fm Bt;exact decide_eq_true_iff
def km(i j:Int):Bool:=i4 i || i4 j || (Fm 4000 i&&Fm 4000 j)
def sy:=gI km fun i j=>.int (i*j)
def dm:=gI (fun _ j=>j != 0&&Fm 8000 j) fun i j=>.int (i.fdiv j)
def a9:=gI (fun _ j=>j != 0) fun i j=>.int (i.fmod j)
def zp(i j:Int):Bool:=decide (0≤j)&&decide (j≤1000000)&&i4 i
def qP:=gI zp fun i j=>.int (i ^ j.toNat)
theorem kz{i:Int}(h:i4 i=true): -(2 ^ 64) < i∧i < 2 ^ 64:=by
  unfold i4 at h
  rw [Bool.and_eq_true,decide_eq_true_iff,decide_eq_true_iff] at h
  exact h
theorem BJ{i j:Int}(h:zp i j=true):C_ i j:=by
  unfold zp at h
  rw [Bool.and_eq_true,Bool.and_eq_true,decide_eq_true_iff,decide_eq_true_iff] at h
  have:=kz h.2
  exact⟨h.1.1,h.1.2,by lia⟩
def vi(i j:Int):Prop:=Av i j∨Cs i j
theorem Bp:ix X (binaryOp .Mult) (rI vi fun i j=>.int (i*j)):=by
  intro pins s σ H x y v u Q I rx ry h
  obtain⟨i,j,e1,e2,h1,q⟩:=h
  rcases h1 with h1 | h1
  · exact D3 pins s σ H x y v u Q I rx ry ⟨i,j,e1,e2,h1,q⟩
  · exact Bq pins s σ H x y v u Q I rx ry ⟨i,j,e1,e2,h1,q⟩
theorem Bc{i j:Int}(h:km i j=true):vi i j:=by
  unfold km at h
  rw [Bool.or_eq_true,Bool.or_eq_true,Bool.and_eq_true] at h
  rcases h with (h | h) | h
  · exact .inl (.inl (kz h))
  · exact .inl (.inr (kz h))
  · exact .inr ⟨iR.mp h.1,iR.mp h.2⟩
theorem DM:ir K (rI vi fun i j=>.int (i*j)) sy:=sY (fun _ _ h=>Bc h) fun _ _ _=>bV.mpr rfl
theorem Gx:ir K (xl fun i j=>.int (i - j)) fg:=kr fun _ _ _=>bV.mpr rfl
theorem Dp:ir K (rI Cr fun i j=>.int (i.fdiv j)) dm:=sY (fun i j h=>by
  rw [Bool.and_eq_true] at h
  exact⟨by simpa using h.1,iR.mp h.2⟩) fun _ _ _=>bV.mpr rfl
theorem FU:ir K (rI (fun _ j=>j≠0) fun i j=>.int (i.fmod j)) a9:=sY (fun i j h=>by simpa using h) fun _ _ _=>bV.mpr rfl
theorem Gd:ir K (rI C_ fun i j=>.int (i ^ j.toNat)) qP:=sY (fun _ _ h=>BJ h) fun _ _ _=>bV.mpr rfl
def sr:En→Rv→Rv→Option Rv:=fun e x y=>match fm e x,fm e y with
  | some (false,xs),some (false,ys)=>if xs.length+ys.length≤1000000 then some (.d (.tuple (xs++ys))) else none
  | _,_=>none
theorem Dm:ir K (zE K) sr:=by
  intro σ H0 F H e x y z v u Q R A B hg q
  unfold sr at hg
  match h1:fm e x,h2:fm e y,hg with
  | some (false,xs),some (false,ys),hg=>
    obtain⟨p,vs,rfl,d1,s1⟩:=ed R A h1
    obtain⟨p',us,rfl,d2,s2⟩:=ed R B h2
    dsimp only at hg
    split at hg
    case isFalse=>cases hg
    case isTrue hl=>
    cases hg
    have l1:=d1.len
    have l2:=d2.len
    have sl:sizeLine=16777216:=sizeLine_eq
    refine⟨p,p',vs,us,rfl,rfl,s1,s2,by lia,fun t H' sm hT=>?_⟩
    obtain⟨F',R',X',hF⟩:=R.growT sm hT
    exact q F' H' _ X' R' (c9.mpr ⟨t,_,rfl,hF,(d1.append d2).mono X'.sf⟩)
def uF(e:En):Rv→Option (List PyData)
  | .l xs=>some xs
  | .s i=>match e[i]? with
    | some (some (.l xs))=>some xs
    | _=>none
  | _=>none
theorem q5{σ:L2.St}{H0 F H:Hp}{e:En}{r:Rv}{v:V}(R:bg K F H σ e)(h:cf K σ H0 F H e r v){xs:List PyData}(q:uF e r=some xs):∃p vs,v=.ref p∧F p=none∧H p=some (.lst vs)∧aP K F xs vs:=by
  cases r with
  | d x=>cases q
  | l ys=>
    cases q
    obtain⟨l,vs,e1,h1,h2,h3,h4,_⟩:=h
    exact⟨l,vs,e1,h2,h3,h4⟩
  | s i=>
    obtain⟨h1,ys,h2⟩:=h
    simp only [uF,h2] at q
    cases q
    obtain⟨l,vs,e1,e2,e3,e4⟩:=R.own i _ h2
    rw [h1] at e1;cases e1
    exact⟨l,vs,rfl,e2,e3,e4⟩
def vF:En→Rv→Rv→Option Rv:=fun e x y=>(uF e x).bind fun xs=>(uF e y).bind fun ys=>if xs.length+ys.length≤1000000 then some (.l (xs++ys)) else none
theorem Dl:ir K Ez vF:=by
  intro σ H0 F H e x y z v u Q R A B hg q
  unfold vF at hg
  obtain⟨xs,h1,hg⟩:=Option.bind_eq_some_iff.mp hg
  obtain⟨ys,h2,hg⟩:=Option.bind_eq_some_iff.mp hg
  split at hg
  case isFalse=>cases hg
  case isTrue hl=>
  cases hg
  obtain⟨p,vs,rfl,f1,s1,d1⟩:=q5 R A h1
  obtain⟨p',us,rfl,f2,s2,d2⟩:=q5 R B h2
  have l1:=d1.len
  have l2:=d2.len
  have sl:sizeLine=16777216:=sizeLine_eq
  refine⟨p,p',vs,us,rfl,rfl,s1,s2,by lia,fun t ht=>?_⟩
  obtain⟨R3,X3,hF,no⟩:=R.newL (vs:=vs++us) ht
  exact q _ _ _ X3 R3 ⟨t,_,rfl,ht,hF,ar,d1.append d2,no⟩
def bD:En→Rv→Rv→Option Rv:=xO yo (xO sr vF)
def CZ(K:PySem.W.Frag):R2:=fun x y H Q=>xl (fun i j=>.int (i+j)) x y H Q∨(zE K x y H Q∨Ez x y H Q)
theorem Bk:ix X (binaryOp .Add) (CZ X.K):=yW.or (Bl.or DX)
theorem Fj:ir K (CZ K) bD:=ir.or (kr fun _ _ _=>bV.mpr rfl) (ir.or Dm Dl)
def sD:En→Rv→Rv→Option Rv:=fun e x y=>match fm e x,bM y with
  | some (false,[d]),some k=>if 0≤k∧k≤100000 then some (.d (.tuple (List.replicate k.toNat d))) else none
  | _,_=>none
theorem aP.rep{F:Hp}{d:PyData}{v:V}(h:DA K F d v):∀n,aP K F (List.replicate n d) (List.replicate n v)
  | 0=>aP.nil
  | n+1=>aP.cons h (aP.rep h n)
theorem EE:ir K (zG K) sD:=by
  intro σ H0 F H e x y z v u Q R A B hg q
  unfold sD at hg
  match h1:fm e x,h2:bM y,hg with
  | some (false,[d]),some k,hg=>
    obtain⟨p,vs,rfl,d1,s1⟩:=ed R A h1
    dsimp only at hg
    split at hg
    case isFalse=>cases hg
    case isTrue hl=>
    cases hg
    have hd:=d1
    simp only [aP] at hd
    obtain⟨w,r,e1,hw,e2⟩:=hd
    subst e2 e1
    refine⟨p,k,w,rfl,cq B h2,s1,hl.1,hl.2,fun t H' sm hT=>?_⟩
    obtain⟨F',R',X',hF⟩:=R.growT sm hT
    exact q F' H' _ X' R' (c9.mpr ⟨t,_,rfl,hF,(aP.rep hw _).mono X'.sf⟩)
def sC:En→Rv→Rv→Option Rv:=fun e x y=>(uF e x).bind fun xs=>(bM y).bind fun k=>if -100000≤k∧k≤100000∧xs.length*k.toNat≤1000000 then some (.l (List.replicate k.toNat xs).flatten) else none
theorem aP.reps{F:Hp}{ds:List PyData}{vs:List V}(h:aP K F ds vs):∀n,aP K F (List.replicate n ds).flatten (List.replicate n vs).flatten
  | 0=>aP.nil
  | n+1=>by simpa [List.replicate_succ] using aP.append h (aP.reps h n)
theorem ED:ir K EC sC:=by
  intro σ H0 F H e x y z v u Q R A B hg q
  unfold sC at hg
  obtain⟨xs,h1,hg⟩:=Option.bind_eq_some_iff.mp hg
  obtain⟨k,h2,hg⟩:=Option.bind_eq_some_iff.mp hg
  split at hg
  case isFalse=>cases hg
  case isTrue hl=>
  cases hg
  obtain⟨p,vs,rfl,f1,s1,d1⟩:=q5 R A h1
  have l1:=d1.len
  have sl:sizeLine=16777216:=sizeLine_eq
  refine⟨p,k,vs,rfl,cq B h2,s1,by lia,by lia,by rw [←l1];lia,fun t ht=>?_⟩
  obtain⟨R3,X3,hF,no⟩:=R.newL (vs:=(List.replicate k.toNat vs).flatten) ht
  exact q _ _ _ X3 R3 ⟨t,_,rfl,ht,hF,ar,aP.reps d1 _,no⟩
def c_:En→Rv→Rv→Option Rv:=xO sy (xO sD sC)
def C0(K:PySem.W.Frag):R2:=fun x y H Q=>rI vi (fun i j=>.int (i*j)) x y H Q∨(zG K x y H Q∨EC x y H Q)
theorem Bo:ix X (binaryOp .Mult) (C0 X.K):=Bp.or (Bs.or D6)
theorem FV:ir K (C0 K) c_:=ir.or DM (ir.or EE ED)
def xN:=gI (fun _ _=>true) fun i j=>.bool (decide (i < j))
def Ih:=gI (fun _ _=>true) fun i j=>.bool (decide (i≤j))
def Fw:=gI (fun _ _=>true) fun i j=>.bool (decide (j < i))
def AQ:=gI (fun _ _=>true) fun i j=>.bool (decide (j≤i))
theorem Hu:ir K (xl fun i j=>.bl (decide (i < j))) xN:=kr fun _ _ _=>dC.mpr rfl
theorem Hj:ir K (xl fun i j=>.bl (decide (j < i))) Fw:=kr fun _ _ _=>dC.mpr rfl
theorem Hi:ir K (xl fun i j=>.bl (decide (j≤i))) AQ:=kr fun _ _ _=>dC.mpr rfl
def EA(K:PySem.W.Frag)(neg:Bool):R2:=fun x y H Q=>∃a b,DA K H a x∧DA K H b y∧SeqAt.shaped a=true∧SeqAt.shaped b=true∧Q (.bl (if neg then !PyData.eqv a b else PyData.eqv a b)) H
theorem DY{k:Nat}(hr:du k X.A):ix X (compareOp .Eq) (EA X.K false):=by
  intro pins s σ H x y v u Q I rx ry h
  obtain⟨a,b,ha,hb,s1,s2,q⟩:=h
  obtain⟨as,ra⟩:=DA.reads I (SeqAt.canLay_of_shaped s1) ha rx
  obtain⟨bs,rb⟩:=DA.reads I (SeqAt.canLay_of_shaped s2) hb ry
  exact SeqAt.compareEq_shaped ra rb s1 s2 hr.units ⟨.bl _,H,I,rfl,q⟩
theorem D4{k:Nat}(hr:du k X.A):ix X (compareOp .NotEq) (EA X.K true):=by
  intro pins s σ H x y v u Q I rx ry h
  obtain⟨a,b,ha,hb,s1,s2,q⟩:=h
  obtain⟨as,ra⟩:=DA.reads I (SeqAt.canLay_of_shaped s1) ha rx
  obtain⟨bs,rb⟩:=DA.reads I (SeqAt.canLay_of_shaped s2) hb ry
  exact SeqAt.compareNe_shaped ra rb s1 s2 hr.units ⟨.bl _,H,I,rfl,q⟩
def bO(neg:Bool):En→Rv→Rv→Option Rv:=fun e x y=>(iD e x).bind fun a=>(iD e y).bind fun b=>if (SeqAt.shaped a&&SeqAt.shaped b)=true then some (.d (.bool (if neg then !PyData.eqv a b else PyData.eqv a b))) else none
theorem CJ{neg:Bool}:ir K (EA K neg) (bO neg):=by
  intro σ H0 F H e x y z v u Q R A B hg q
  unfold bO at hg
  obtain⟨a,h1,hg⟩:=Option.bind_eq_some_iff.mp hg
  obtain⟨b,h2,hg⟩:=Option.bind_eq_some_iff.mp hg
  split at hg
  case isFalse=>cases hg
  case isTrue hl=>
  cases hg
  rw [Bool.and_eq_true] at hl
  exact⟨a,b,jk R A h1,jk R B h2,hl.1,hl.2,q F H _ (dg.refl _ _ _ _) R d_⟩
def Gk(K:PySem.W.Frag)(neg:Bool):R2:=fun x y H Q=>∃a xs,DA K H a x∧(DA K H (.list xs) y∨DA K H (.tuple xs) y)∧a.canLay0=true∧a.depth≤60∧PyData.canLayAll0 xs=true∧Q (.bl (if neg then !(xs.any fun y=>PyData.eqv y a) else xs.any fun y=>PyData.eqv y a)) H
theorem DZ{k:Nat}(hr:du k X.A):ix X (compareOp .In) (Gk X.K false):=by
  intro pins s σ H x y v u Q I rx ry h
  obtain⟨a,xs,ha,hb,s1,s2,s3,q⟩:=h
  obtain⟨as,ra⟩:=DA.reads I s1 ha rx
  have hu:=hr.units
  rcases hb with hb | hb
  · obtain⟨bs,rb⟩:=DA.reads I (by simpa [PyData.canLay0] using s3) hb ry
    exact PySem.SeqAt.in_list_reads rb ra s3 s1 (by lia) ⟨.bl _,H,I,rfl,q⟩
  · obtain⟨bs,rb⟩:=DA.reads I (by simpa [PyData.canLay0] using s3) hb ry
    exact PySem.SeqAt.in_tuple_reads rb ra s3 s1 (by lia) ⟨.bl _,H,I,rfl,q⟩
def AR(neg:Bool):En→Rv→Rv→Option Rv:=fun e x y=>(iD e x).bind fun a=>(fm e y).bind fun p=>if (a.canLay0&&decide (a.depth≤60)&&PyData.canLayAll0 p.2)=true then some (.d (.bool (if neg then !(p.2.any fun y=>PyData.eqv y a) else p.2.any fun y=>PyData.eqv y a))) else none
theorem Ho{neg:Bool}:ir K (Gk K neg) (AR neg):=by
  intro σ H0 F H e x y z v u Q R A B hg q
  unfold AR at hg
  obtain⟨a,h1,hg⟩:=Option.bind_eq_some_iff.mp hg
  obtain⟨⟨b,xs⟩,h2,hg⟩:=Option.bind_eq_some_iff.mp hg
  split at hg
  case isFalse=>cases hg
  case isTrue hl=>
  cases hg
  rw [Bool.and_eq_true,Bool.and_eq_true,decide_eq_true_iff] at hl
  obtain⟨p,vs,rfl,d1,s1⟩:=ed R B h2
  refine⟨a,xs,jk R A h1,?_,hl.1.1,hl.1.2,hl.2,q F H _ (dg.refl _ _ _ _) R d_⟩
  cases b with
  | true=>exact .inl (cz.mpr ⟨p,vs,rfl,s1,d1.mono R.sm⟩)
  | false=>exact .inr (c9.mpr ⟨p,vs,rfl,s1,d1.mono R.sm⟩)
def qT:PyData→Bool
  | .none=>true
  | _=>false
theorem pI{F:Hp}{d:PyData}{v:V}(h:DA K F d v):decide (v=.non)=qT d:=by
  cases d with
  | none=>rw [fJ.mp h];rfl
  | bool b=>rw [dC.mp h];rfl
  | int b=>rw [bV.mp h];rfl
  | str b=>rw [lM.mp h];rfl
  | tuple b=>obtain⟨a,_,e,_⟩:=c9.mp h;rw [e];rfl
  | list b=>obtain⟨a,_,e,_⟩:=cz.mp h;rw [e];rfl
  | dict b=>simp only [DA] at h;obtain⟨a,m,rfl,_⟩:=h;rfl
def wK(neg:Bool):En→Rv→Rv→Option Rv:=fun e x y=>(iD e x).bind fun a=>match y with
  | .d .none=>some (.d (.bool (if neg then !qT a else qT a)))
  | _=>none
def wJ(neg:Bool):En→Rv→Rv→Option Rv:=fun e x y=>(cT x).bind fun a=>(cT y).bind fun b=>some (.d (.bool (if neg then !(a==b) else a==b)))
theorem FJ:ir K (fun x y H Q=>y=.non∧Q (.bl (decide (x=.non))) H) (wK false):=by
  intro σ H0 F H e x y z v u Q R A B hg q
  unfold wK at hg
  obtain⟨a,h1,hg⟩:=Option.bind_eq_some_iff.mp hg
  split at hg
  · cases hg
    refine⟨fJ.mp (show DA K F .none u from B),?_⟩
    rw [pI (jk R A h1)]
    exact q F H _ (dg.refl _ _ _ _) R d_
  · cases hg
theorem DO:ir K (fun x y H Q=>y=.non∧Q (.bl (!decide (x=.non))) H) (wK true):=by
  intro σ H0 F H e x y z v u Q R A B hg q
  unfold wK at hg
  obtain⟨a,h1,hg⟩:=Option.bind_eq_some_iff.mp hg
  split at hg
  · cases hg
    refine⟨fJ.mp (show DA K F .none u from B),?_⟩
    rw [pI (jk R A h1)]
    exact q F H _ (dg.refl _ _ _ _) R d_
  · cases hg
theorem FH:ir K (fun x y H Q=>∃b c,x=.bl b∧y=.bl c∧Q (.bl (b==c)) H) (wJ false):=by
  intro σ H0 F H e x y z v u Q R A B hg q
  unfold wJ at hg
  obtain⟨a,h1,hg⟩:=Option.bind_eq_some_iff.mp hg
  obtain⟨b,h2,hg⟩:=Option.bind_eq_some_iff.mp hg
  cases hg
  exact⟨a,b,ek A h1,ek B h2,q F H _ (dg.refl _ _ _ _) R d_⟩
theorem yC:ir K (fun x y H Q=>∃b c,x=.bl b∧y=.bl c∧Q (.bl (!(b==c))) H) (wJ true):=by
  intro σ H0 F H e x y z v u Q R A B hg q
  unfold wJ at hg
  obtain⟨a,h1,hg⟩:=Option.bind_eq_some_iff.mp hg
  obtain⟨b,h2,hg⟩:=Option.bind_eq_some_iff.mp hg
  cases hg
  exact⟨a,b,ek A h1,ek B h2,q F H _ (dg.refl _ _ _ _) R d_⟩
def Fy:En→Rv→Rv→Option Rv:=xO (wK false) (wJ false)
def qO:En→Rv→Rv→Option Rv:=xO (wK true) (wJ true)
def Gm:R2:=fun x y H Q=>(y=.non∧Q (.bl (decide (x=.non))) H)∨∃b c,x=.bl b∧y=.bl c∧Q (.bl (b==c)) H
def v_:R2:=fun x y H Q=>(y=.non∧Q (.bl (!decide (x=.non))) H)∨∃b c,x=.bl b∧y=.bl c∧Q (.bl (!(b==c))) H
theorem D0:ix X (compareOp .Is) Gm:=D2.or D1
theorem xc:ix X (compareOp .IsNot) v_:=Br.or xf
theorem Hq:ir K Gm Fy:=ir.or FJ FH
theorem AW:ir K v_ qO:=ir.or DO yC
def cD:En→Rv→Rv→Option Rv:=fun e x y=>(fm e x).bind fun p=>(bM y).bind fun i=>(atI p.2 i).map .d
def Gn(K:PySem.W.Frag):R2:=fun x y H Q=>EB K x y H Q∨Gp K x y H Q
theorem Hr:Ao X (Gn X.K):=vP.or Dz
theorem aP.atI{F:Hp}{ds:List PyData}{vs:List V}(h:aP K F ds vs){i:Int}{d:PyData}(q:atI ds i=some d):∃v,L2.atI vs i=some v∧DA K F d v:=by
  unfold L2.atI at q ⊢
  obtain⟨j,h1,h2⟩:=Option.bind_eq_some_iff.mp q
  obtain⟨v,h3,h4⟩:=h.get h2
  exact⟨v,by rw [←h.len,h1];exact h3,h4⟩
theorem Hs:ir K (Gn K) cD:=by
  intro σ H0 F H e x y z v u Q R A B hg q
  unfold cD at hg
  obtain⟨⟨b,xs⟩,h1,hg⟩:=Option.bind_eq_some_iff.mp hg
  obtain⟨i,h2,hg⟩:=Option.bind_eq_some_iff.mp hg
  obtain⟨d,h3,hg⟩:=Option.map_eq_some_iff.mp hg
  cases hg
  obtain⟨p,vs,rfl,d1,s1⟩:=ed R A h1
  obtain⟨w,h4,h5⟩:=d1.atI h3
  have fin:=q F H w (dg.refl _ _ _ _) R h5
  cases b with
  | true=>exact .inl ⟨p,vs,i,w,rfl,cq B h2,s1,h4,fin⟩
  | false=>exact .inr ⟨p,vs,i,w,rfl,cq B h2,s1,h4,fin⟩
end
end L2
namespace HT
open PySem PySem.Spec PyProof.Rows
section
variable{prog:Program}{w:World}{A:Around}{E:Value→Shared→Prop}{s:Shared}
theorem getItem_tuple_all{t sl:Addr}{items:Array Value}{vl vu:Value}{lo hi:Option Int}{Q:Value→Shared→Prop}(ht:IsTup s.heap t items)(hs:s.heap.IsSliceOf sl vl vu .none)(pl:IsPart vl lo)(pu:IsPart vu hi)
    (hw:sIx items.size 0 lo=0∧sIx items.size items.size hi=items.size)
    (h:Q (.ref t) s):wpAny (model prog w) A (getItem (.ref t) (.ref sl)) Q E s:=by
  obtain⟨os,hos,hcs,hds⟩:=id hs
  have hTs:s.TypeIs (.ref sl) "slice":=⟨os,hos,hcs⟩
  unfold getItem
  try with_reducible refine wpAny_holding ?_
  first | refine wpAny_bind (wpAny_pure ?_) | skip
  refine wpAny_bind (wpAny_sequenceKey ht.typeIs (by decide) ?_)
  refine wpAny_bind (wpAny_callSpecial?_slot (name:=Str.ofString "__getitem__") ht.typeIs PyProof.Rows.slot_tuple_getitem
    (wpAny_call_entry PyProof.Rows.slot_tuple_getitem ht.typeIs entry_tuple_getitem ?_ (args_tuple_getitem _ _)))
  show wpAny _ _ (Builtin.Tuple.tupleItemsOf (.ref t) >>= _) _ _ s
  refine wpAny_bind (tupleItemsOf_ ht ?_)
  refine wpAny_bind (wpAny_typeOf hTs ?_)
  rw [if_pos (by decide)]
  refine wpAny_bind (iM hs pl pu ?_)
  have hno:(((sIx items.size 0 lo:Nat):Int)==0&&(1:Int)==1&&(sIx items.size items.size hi - sIx items.size 0 lo)==items.size)=true:=by
    rw [hw.1,hw.2];simp
  show wpAny _ _ (if (((sIx items.size 0 lo:Nat):Int)==0&&(1:Int)==1&&(sIx items.size items.size hi - sIx items.size 0 lo)==items.size)=true then _ else _) _ _ s
  rw [if_pos hno]
  unfold Builtin.Tuple.tupleIsExact
  refine wpAny_bind (wpAny_bind (wpAny_typeOf ht.typeIs (wpAny_pure ?_)))
  rw [if_pos (by decide)]
  exact wpAny_bind (wpAny_rule (wpAny_pure ⟨_,rfl,wpAny_pure h⟩))
end
end HT
namespace L2
open PySem PySem.Spec PyProof.Rows
section
variable{X:Cx}{K:PySem.W.Frag}{a:Expr}{fa:FE}{lo hi:Option Expr}{pos p2:Pos}
def gS(xs:List PyData)(lo hi:Option Int):List PyData:=(xs.drop (HT.sIx xs.length 0 lo)).take (HT.sIx xs.length xs.length hi - HT.sIx xs.length 0 lo)
def Gu(K:PySem.W.Frag):V→Option Int→Option Int→Hp→VK→Prop:=fun x lo hi H Q=>∃a xs,x=.ref a∧bR K H a xs∧
  (HT.sIx xs.length 0 lo=0∧HT.sIx xs.length xs.length hi=xs.length)∧Q (.ref a) H
theorem B8:Ay X (Gu X.K):=by
  intro pins s σ H x v vl vu lo hi sl Q I rx hs pl pu h
  obtain⟨a,xs,rfl,hx,hw,q⟩:=h
  cases rx
  obtain⟨its,r,ht,hz⟩:=I.tuple hx
  have hlen:its.toArray.size=xs.length:=by rw [List.size_toArray];exact r.length.symm
  refine⟨"tuple",_,PyProof.Rows.slot_tuple_getitem.lookup,ht.typeIs,?_⟩
  exact HT.getItem_tuple_all ht hs pl pu (by rw [hlen];exact hw) ⟨.ref a,H,I,rfl,q⟩
def Hy(K:PySem.W.Frag):V→Option Int→Option Int→Hp→VK→Prop:=fun x lo hi H Q=>Gs K x lo hi H Q∨(Gu K x lo hi H Q∨Gr K x lo hi H Q)
theorem HA:Ay X (Hy X.K):=EK.or (B8.or B7)
abbrev FO:=En→Option (Option Int × En)
def fO(K:PySem.W.Frag)(f:FO):TO:=fun σ H Q=>∃F e o e',bg K F H σ e∧f e=some (o,e')∧∀F' H',dg σ F H e F' H' e'→bg K F' H' σ e'→Q o H'
theorem PO.mono{e:Option Expr}{t t':TO}(h:PO X e t)(m:∀σ H Q,t' σ H Q→t σ H Q):PO X e t':=fun pins s σ H Q I q=>h pins s σ H Q I (m σ H Q q)
def eg:FO:=fun e=>some (none,e)
def cW(f:FE):FO:=fun e=>(f e).bind fun p=>(bM p.1).map fun i=>(some i,p.2)
theorem fN:PO X none (fO K eg):=BG.mono fun σ H Q h=>by
  obtain⟨F,e,o,e',R,hf,q⟩:=h
  cases hf
  exact q F H (dg.refl _ _ _ _) R
theorem dZ(h:PE X a (fE K fa)):PO X (some a) (fO K (cW fa)):=(BH h).mono fun σ H Q h=>by
  obtain⟨F,e,o,e',R,hf,q⟩:=h
  unfold cW at hf
  obtain⟨⟨x,e1⟩,h1,hf⟩:=Option.bind_eq_some_iff.mp hf
  obtain⟨i,h2,hf⟩:=Option.map_eq_some_iff.mp hf
  cases hf
  exact⟨F,e,x,_,R,h1,fun F1 H1 v X1 R1 A1=>⟨i,cq A1 h2,q F1 H1 X1 R1⟩⟩
def G2(e:En)(x:Rv)(lo hi:Option Int):Option Rv:=(fm e x).map fun p=>if p.1=true then .l (gS p.2 lo hi) else .d (.tuple (gS p.2 lo hi))
def o_(fa:FE)(fl fh:FO):FE:=fun e=>(fa e).bind fun p=>(fl p.2).bind fun l=>(fh l.2).bind fun h=>(G2 h.2 p.1 l.1 h.1).map fun z=>(z,h.2)
theorem yh{F:Hp}{ds:List PyData}{vs:List V}(h:aP K F ds vs)(lo hi:Option Int):aP K F (gS ds lo hi) (oW vs lo hi):=by
  unfold gS oW
  rw [h.len]
  exact(h.drop _).take _
theorem AF{α:Type}{xs:List α}{lo hi:Option Int}(h:HT.sIx xs.length 0 lo=0∧HT.sIx xs.length xs.length hi=xs.length):(xs.drop (HT.sIx xs.length 0 lo)).take (HT.sIx xs.length xs.length hi - HT.sIx xs.length 0 lo)=xs:=by
  rw [h.1,h.2];simp
theorem zB{fl fh:FO}(he:PE X a (fE X.K fa))(hl:PO X lo (fO X.K fl))(hh:PO X hi (fO X.K fh)):PE X (.Subscript a (.Slice lo hi none p2) pos) (fE X.K (o_ fa fl fh)):=(y8 HA he hl hh).mono fun σ H Q h=>by
  obtain⟨F,e,z,e',R,hf,q⟩:=h
  unfold o_ at hf
  obtain⟨⟨x,e1⟩,h1,hf⟩:=Option.bind_eq_some_iff.mp hf
  obtain⟨⟨l,e2⟩,h2,hf⟩:=Option.bind_eq_some_iff.mp hf
  obtain⟨⟨u,e3⟩,h3,hf⟩:=Option.bind_eq_some_iff.mp hf
  obtain⟨z',h4,hf⟩:=Option.map_eq_some_iff.mp hf
  cases hf
  refine⟨F,e,x,e1,R,h1,fun F1 H1 v X1 R1 A1=>⟨F1,e1,l,e2,R1,h2,fun F2 H2 X2 R2=>⟨F2,e2,u,_,R2,h3,fun F3 H3 X3 R3=>?_⟩⟩⟩
  have X12:=X1.trans X2
  have X13:=X12.trans X3
  have A3:=(A1.ext X2).ext X3
  unfold G2 at h4
  obtain⟨⟨b,xs⟩,h5,h4⟩:=Option.map_eq_some_iff.mp h4
  obtain⟨p,vs,rfl,d1,s1⟩:=ed R3 A3 h5
  cases b with
  | true=>
    rw [if_pos rfl] at h4;cases h4
    refine .inr (.inr ⟨p,vs,rfl,s1,fun t ht=>?_⟩)
    obtain⟨R4,X4,hF,no⟩:=R3.newL (vs:=oW vs l u) ht
    exact q _ _ _ (X13.trans X4) R4 ⟨t,_,rfl,X13.dom _ ht,hF,ar,yh d1 l u,no⟩
  | false=>
    rw [if_neg (by simp)] at h4;cases h4
    by_cases hw:HT.sIx vs.length 0 l=0∧HT.sIx vs.length vs.length u=vs.length
    · refine .inr (.inl ⟨p,vs,rfl,s1,hw,?_⟩)
      have e5:gS xs l u=xs:=by unfold gS;exact AF (by rw [d1.len];exact hw)
      rw [e5] at q
      obtain⟨F4,R4,X4,hF⟩:=R3.growT (aA.refl _) s1
      exact q _ _ _ (X13.trans X4) R4 (c9.mpr ⟨p,vs,rfl,hF,d1.mono X4.sf⟩)
    · refine .inl ⟨p,vs,rfl,s1,hw,fun t ht=>?_⟩
      obtain⟨R4,X4⟩:=R3.newT (vs:=oW vs l u) ht
      exact q _ _ _ (X13.trans X4) R4 (c9.mpr ⟨t,_,rfl,.inl (.inl ar),(yh d1 l u).mono X4.sf⟩)
end
section
variable{X:Cx}{K:PySem.W.Frag}
theorem lp{σ:L2.St}{H0 F H:Hp}{e:En}{x:Rv}{vs:List V}(h:cO K σ H0 F H e [x] vs):∃v,vs=[v]∧cf K σ H0 F H e x v:=by
  obtain⟨v,ws,rfl,h1,h2⟩:=h
  have h2':ws=[]:=h2
  subst h2'
  exact⟨v,rfl,h1⟩
theorem rN{σ:L2.St}{H0 F H:Hp}{e:En}{x y:Rv}{vs:List V}(h:cO K σ H0 F H e [x,y] vs):∃v u,vs=[v,u]∧cf K σ H0 F H e x v∧cf K σ H0 F H e y u:=by
  obtain⟨v,ws,rfl,h1,h2⟩:=h
  obtain⟨u,rfl,h3⟩:=lp h2
  exact⟨v,u,rfl,h1,h3⟩
def g1(g:En→Rv→Option Rv):En→List Rv→Option Rv:=fun e xs=>match xs with
  | [x]=>g e x
  | _=>none
def g2(g:En→Rv→Rv→Option Rv):En→List Rv→Option Rv:=fun e xs=>match xs with
  | [x,y]=>g e x y
  | _=>none
theorem fH{r:List V→Hp→VK→Prop}{g:En→Rv→Option Rv}(h:E_ K (fun v H Q=>r [v] H Q) g):dy K r (g1 g):=by
  intro σ H0 F H e xs z vs Q R A hg q
  unfold g1 at hg
  match xs,hg with
  | [x],hg=>
    obtain⟨v,rfl,h1⟩:=lp A
    exact h σ H0 F H e x z v Q R h1 hg q
theorem vB{r:List V→Hp→VK→Prop}{g:En→Rv→Rv→Option Rv}(h:ir K (fun v u H Q=>r [v,u] H Q) g):dy K r (g2 g):=by
  intro σ H0 F H e xs z vs Q R A hg q
  unfold g2 at hg
  match xs,hg with
  | [x,y],hg=>
    obtain⟨v,u,rfl,h1,h2⟩:=rN A
    exact h σ H0 F H e x y z v u Q R h1 h2 hg q
def fL:En→Rv→Option Rv:=fun e x=>(fm e x).map fun p=>.d (.int p.2.length)
theorem FN:dy K (fun xs H Q=>∃p ys,xs=[.ref p]∧(cP K H p ys∨bR K H p ys)∧Q (.int ys.length) H) (g1 fL):=fH fun σ H0 F H e x z v Q R A hg q=>by
  obtain⟨⟨b,xs⟩,h5,h4⟩:=Option.map_eq_some_iff.mp hg
  obtain⟨p,vs,rfl,d1,s1⟩:=ed R A h5
  cases h4
  refine⟨p,vs,rfl,?_,?_⟩
  · cases b with
    | true=>exact .inl s1
    | false=>exact .inr s1
  · rw [←d1.len]
    exact q F H _ (dg.refl _ _ _ _) R l7
def uu:En→Rv→Option Rv:=fun _ x=>(bM x).map fun i=>.d (.int (if i < 0 then -i else i))
theorem Fi:dy K (fun xs H Q=>∃i,xs=[.int i]∧Q (.int (if i < 0 then -i else i)) H) (g1 uu):=fH fun σ H0 F H e x z v Q R A hg q=>by
  obtain⟨i,h5,h4⟩:=Option.map_eq_some_iff.mp hg
  cases h4
  exact⟨i,by rw [cq A h5],q F H _ (dg.refl _ _ _ _) R l7⟩
def sv:En→Rv→Option Rv:=fun _ x=>match x with
  | .d (.int i)=>some (.d (.int i))
  | .d (.bool k)=>some (.d (.int (if k then 1 else 0)))
  | _=>none
theorem FF:dy K (fun xs H Q=>(∃i,xs=[.int i]∧Q (.int i) H)∨∃k,xs=[.bl k]∧Q (.int (if k then 1 else 0)) H) (g1 sv):=fH fun σ H0 F H e x z v Q R A hg q=>by
  unfold sv at hg
  split at hg
  · cases hg
    exact .inl ⟨_,by rw [bV.mp (show DA K F (.int _) v from A)],q F H _ (dg.refl _ _ _ _) R l7⟩
  · cases hg
    exact .inr ⟨_,by rw [dC.mp (show DA K F (.bool _) v from A)],q F H _ (dg.refl _ _ _ _) R l7⟩
  · cases hg
def yr:=gI (fun _ _=>true) fun i j=>.int (if j < i then j else i)
def oY:=gI (fun _ _=>true) fun i j=>.int (if j > i then j else i)
theorem FR:dy K (fun xs H Q=>∃i j,xs=[.int i,.int j]∧Q (.int (if j < i then j else i)) H) (g2 yr):=vB fun σ H0 F H e x y z v u Q R A B hg q=>by
  obtain⟨i,j,h1,h2,h3⟩:=kr (K:=K) (g:=fun i j=>.int (if j < i then j else i)) (fun _ _ _=>bV.mpr rfl) σ H0 F H e x y z v u Q R A B hg q
  exact⟨i,j,by rw [h1,h2],h3⟩
theorem FQ:dy K (fun xs H Q=>∃i j,xs=[.int i,.int j]∧Q (.int (if j > i then j else i)) H) (g2 oY):=vB fun σ H0 F H e x y z v u Q R A B hg q=>by
  obtain⟨i,j,h1,h2,h3⟩:=kr (K:=K) (g:=fun i j=>.int (if j > i then j else i)) (fun _ _ _=>bV.mpr rfl) σ H0 F H e x y z v u Q R A B hg q
  exact⟨i,j,by rw [h1,h2],h3⟩
def dc:En→Rv→Option Rv:=fun e x=>(fm e x).map fun p=>.d (.tuple p.2)
theorem Cf:dy K (fun xs H Q=>∃p ys,xs=[.ref p]∧((cP K H p ys∧∀l,H l=none→Q (.ref l) (a' H l (.tup ys)))∨(bR K H p ys∧Q (.ref p) H))) (g1 dc):=fH fun σ H0 F H e x z v Q R A hg q=>by
  obtain⟨⟨b,xs⟩,h5,h4⟩:=Option.map_eq_some_iff.mp hg
  obtain⟨p,vs,rfl,d1,s1⟩:=ed R A h5
  cases h4
  refine⟨p,vs,rfl,?_⟩
  cases b with
  | true=>
    refine .inl ⟨s1,fun t ht=>?_⟩
    obtain⟨R4,X4⟩:=R.newT (vs:=vs) ht
    exact q _ _ _ X4 R4 (c9.mpr ⟨t,_,rfl,.inl (.inl ar),d1.mono X4.sf⟩)
  | false=>
    obtain⟨F4,R4,X4,hF⟩:=R.growT (aA.refl _) s1
    exact .inr ⟨s1,q _ _ _ X4 R4 (c9.mpr ⟨p,vs,rfl,hF,d1.mono X4.sf⟩)⟩
def vH:En→Rv→Option Rv:=fun e x=>(fm e x).map fun p=>.l p.2
theorem DH:dy K (fun xs H Q=>∃p ys,xs=[.ref p]∧(cP K H p ys∨bR K H p ys)∧∀l,H l=none→Q (.ref l) (a' H l (.lst ys))) (g1 vH):=fH fun σ H0 F H e x z v Q R A hg q=>by
  obtain⟨⟨b,xs⟩,h5,h4⟩:=Option.map_eq_some_iff.mp hg
  obtain⟨p,vs,rfl,d1,s1⟩:=ed R A h5
  cases h4
  refine⟨p,vs,rfl,?_,fun t ht=>?_⟩
  · cases b with
    | true=>exact .inl s1
    | false=>exact .inr s1
  · obtain⟨R4,X4,hF,no⟩:=R.newL (vs:=vs) ht
    exact q _ _ _ X4 R4 ⟨t,_,rfl,ht,hF,ar,d1,no⟩
def sG:List PyData→Option (List Int)
  | []=>some []
  | .int i::r=>(sG r).map (i::·)
  | _=>none
theorem sI:∀{ds:List PyData} {ns:List Int},sG ds=some ns→ds=ns.map .int
  | [],_,h=>by cases h;rfl
  | .int i::r,_,h=>by
    obtain⟨ns,h1,rfl⟩:=Option.map_eq_some_iff.mp h
    rw [sI h1];rfl
theorem pS:∀(ns:List Int),sG (ns.map .int)=some ns
  | []=>rfl
  | i::r=>by simp [sG,pS r]
def nA:List PyData→Option (List Bool)
  | []=>some []
  | .bool i::r=>(nA r).map (i::·)
  | _=>none
theorem pD:∀{ds:List PyData} {ns:List Bool},nA ds=some ns→ds=ns.map .bool
  | [],_,h=>by cases h;rfl
  | .bool i::r,_,h=>by
    obtain⟨ns,h1,rfl⟩:=Option.map_eq_some_iff.mp h
    rw [pD h1];rfl
def kS(g:List PyData→Option PyData):En→Rv→Option Rv:=fun e x=>match fm e x with
  | some (true,xs)=>(g xs).map .d
  | _=>none
theorem EJ{r:List V→Hp→VK→Prop}{g:List PyData→Option PyData}(h:∀(F H:Hp) (p:Addr) (xs:List PyData) (vs:List V) (d:PyData) (Q:VK),aP K F xs vs→cP K H p vs→g xs=some d→(∀v,(∀F,DA K F d v)→Q v H)→r [.ref p] H Q):dy K r (g1 (kS g)):=fH fun σ H0 F H e x z v Q R A hg q=>by
  unfold kS at hg
  split at hg
  case h_2=>cases hg
  case h_1 xs h5=>
  obtain⟨p,vs,rfl,d1,s1⟩:=ed R A h5
  obtain⟨d,h6,hg⟩:=Option.map_eq_some_iff.mp hg
  cases hg
  exact h F H p xs vs d Q d1 s1 h6 fun v hv=>q F H v (dg.refl _ _ _ _) R (hv F)
def nJ:List PyData→Option PyData:=fun xs=>(nA xs).map fun ns=>.bool (ns.all id)
theorem Fk:dy K (fun xs H Q=>∃(l:Addr) (bs:List Bool),xs=[.ref l]∧cP K H l (bs.map V.bl)∧Q (.bl (bs.all id)) H) (g1 (kS nJ)):=EJ fun F H p xs vs d Q d1 s1 hg q=>by
  obtain⟨ns,h1,h2⟩:=Option.map_eq_some_iff.mp hg
  cases h2
  rw [pD h1] at d1
  rw [aP.bools.mp d1] at s1
  exact⟨p,ns,rfl,s1,q _ fun _=>dC.mpr rfl⟩
def iT:En→Rv→Option Rv:=fun e x=>match fm e x with
  | some (false,xs)=>(sG xs).bind fun ns=>if ns.length < 64 then some (.l ((jK ns).map .int)) else none
  | _=>none
def zI(K:PySem.W.Frag):List V→Hp→VK→Prop:=fun xs H Q=>∃(a:Addr) (ns:List Int),xs=[.ref a]∧bR K H a (ns.map V.int)∧ns.length < 64∧∀(l:Addr) (H':Hp),aA H H'→H l=none→H' l=some (.lst ((jK ns).map V.int))→Q (.ref l) H'
theorem uq:df X (.builtin "sorted") (zI X.K):=by
  intro pins s σ H xs us Q I rv h
  obtain⟨a,ns,e1,e2,e3,q⟩:=h
  exact r8 pins s σ H xs us Q I rv ⟨a,ns,e1,e2,e3,fun l ns' H' sm hn hl hp hs=>q l H' sm hn (by rw [←zX hp hs];exact hl)⟩
theorem B9:dy K (zI K) (g1 iT):=fH fun σ H0 F H e x z v Q R A hg q=>by
  unfold iT at hg
  split at hg
  case h_2=>cases hg
  case h_1 xs h5=>
  obtain⟨p,vs,rfl,d1,s1⟩:=ed R A h5
  obtain⟨ns,h6,hg⟩:=Option.bind_eq_some_iff.mp hg
  split at hg
  case isFalse=>cases hg
  case isTrue hl=>
  cases hg
  rw [sI h6] at d1
  have s1':bR K H p vs:=s1
  rw [aP.ints.mp d1] at s1'
  refine⟨p,ns,rfl,s1',hl,fun l H' sm hn hl'=>?_⟩
  obtain⟨R4,X4⟩:=R.same sm
  exact q F H' _ X4 R4 ⟨l,_,rfl,hn,R.freeF hn,hl',aP.ints.mpr rfl,fun z=>R.ownH l ((R.sameOwn sm l).mp z) hn⟩
mutual
def kN:PyData→Bool
  | .tuple ds=>jU ds
  | .list _=>false
  | .dict _=>false
  | _=>true
def jU:List PyData→Bool
  | []=>true
  | d::r=>kN d&&jU r
end
mutual
def lW:PyData→Bool
  | .list _=>false
  | .tuple ds=>k_ ds
  | _=>true
def k_:List PyData→Bool
  | []=>true
  | d::r=>lW d&&k_ r
end
theorem oq{h:Heap}:∀{m:List (Int × Int)} {es:List DictEntry} {vs:List (iw × Value)} {P:Program} {w:World},KV (m.map fun p=>((Sum.inl p.1:iw),V.int p.2)) vs→Pairs (dW P w) es vs→
    ReadsAll h (es.map (·.key)) (m.map fun p=>PyData.int p.1) []∧ReadsAll h (es.map (·.val)) (m.map fun p=>PyData.int p.2) []
  | [],es,vs,P,w,r,q=>by
    cases r
    cases q
    exact⟨.nil,.nil⟩
  | p::m,es,vs,P,w,r,q=>by
    rw [List.map_cons] at r
    cases r with
    | @cons a b as bs h1 t=>
      cases q with
      | @cons e kv es' kvs' h2 h3 h4=>
        obtain⟨z1,z2⟩:=h1
        obtain⟨c1,c2⟩:=oq t h4
        obtain⟨tk,z2⟩:=z2
        have k1:nO (Sum.inl p.1) e.key=true:=by
          have:b.1=Sum.inl p.1:=z1.symm
          rw [←this];exact h2
        rcases bI k1 with ⟨i,t',e1,e2⟩ | ⟨x,t',e1,e2⟩
        · cases e1
          refine⟨?_,?_⟩
          · simp only [List.map_cons,e2]
            exact ReadsAll.cons (as:=[]) (bs:=[]) (.int p.1 t') c1
          · simp only [List.map_cons,h3,z2]
            exact ReadsAll.cons (as:=[]) (bs:=[]) (.int p.2 tk) c2
        · cases e1
mutual
theorem DA.readsR{X:Cx}{pins:List (Addr × Obj)}{σ:L2.St}{H:Hp}{s:Shared}(I:aE X pins σ H s):∀{d:PyData} {v:V} {u:Value},DA X.K H d v→bA v u→∃as,Reads s.heap u d as∧(lW d=true→sysModules∉as)
  | .none,_,_,q,r=>by
    simp only [DA] at q;subst q;cases r;exact⟨_,.none,fun _=>by simp⟩
  | .bool b,_,_,q,r=>by
    simp only [DA] at q;subst q;cases r;exact⟨_,.bool b,fun _=>by simp⟩
  | .int i,_,_,q,r=>by
    simp only [DA] at q;subst q;obtain⟨t,rfl⟩:=r;exact⟨_,.int i t,fun _=>by simp⟩
  | .str x,_,_,q,r=>by
    simp only [DA] at q;subst q;obtain⟨t,rfl⟩:=r;exact⟨_,.str x t,fun _=>by simp⟩
  | .tuple ds,_,_,q,r=>by
    simp only [DA] at q
    obtain⟨a,xs,e,hs,rr⟩:=q
    subst e;cases r
    obtain⟨its,rv,⟨o,ho,hc,n,hd⟩,hz⟩:=I.tuple hs
    obtain⟨as,q,z⟩:=aP.readsR I rr rv
    exact⟨_,.tuple ho hc hd q,fun c=>z (by simpa [lW] using c)⟩
  | .list ds,_,_,q,r=>by
    simp only [DA] at q
    obtain⟨a,xs,e,hs,rr⟩:=q
    subst e;cases r
    obtain⟨its,rv,ht,hz⟩:=I.list hs
    obtain⟨o,ho,hc,n,hd⟩:=ht.isList
    obtain⟨as,q,z⟩:=aP.readsR I rr rv
    exact⟨_,.list ho hc hd q,fun c=>by simp [lW] at c⟩
  | .dict kvs,_,_,q,r=>by
    simp only [DA] at q
    obtain⟨a,m,e,hs,rfl⟩:=q
    subst e;cases r
    obtain⟨_,hS,vs,kv,o,es,ep,ho,hx,hd,_,hp,_⟩:=(show cU X.prog X.w H s.heap a (.dK (m.map fun p=>(Sum.inl p.1,V.int p.2))) from I.hok a _ hs)
    obtain⟨c1,c2⟩:=oq (h:=s.heap) kv hp
    refine⟨_,Reads.dict (as:=[]) (bs:=[]) ho hx.1 hd ?_ ?_,fun _=>?_⟩
    · rw [List.map_map];exact c1
    · rw [List.map_map];exact c2
    · have:a≠sysModules:=by simpa using hS
      simpa using this.symm
theorem aP.readsR{X:Cx}{pins:List (Addr × Obj)}{σ:L2.St}{H:Hp}{s:Shared}(I:aE X pins σ H s):∀{ds:List PyData} {xs:List V} {us:List Value},aP X.K H ds xs→aQ xs us→∃as,ReadsAll s.heap us ds as∧(k_ ds=true→sysModules∉as)
  | [],_,_,q,r=>by
    simp only [aP] at q;subst q;cases r;exact⟨_,.nil,fun _=>by simp⟩
  | d::ds,_,_,q,r=>by
    simp only [aP] at q
    obtain⟨x,rr,e,a,b⟩:=q
    subst e
    cases r with
    | cons p p'=>
      obtain⟨as,q1,z1⟩:=DA.readsR I a p
      obtain⟨bs,q2,z2⟩:=aP.readsR I b p'
      refine⟨_,.cons q1 q2,fun c=>?_⟩
      simp only [k_,Bool.and_eq_true] at c
      intro z
      rcases List.mem_append.mp z with z | z
      · exact z1 c.1 z
      · exact z2 c.2 z
end
def eG(d:PyData):Bool:=(kN d || (!d.hasDict || lW d))&&d.showable&&decide (d.depth≤60)&&decide (d.shown.length≤sizeLine)
def kR:En→Rv→Option Rv:=fun _ x=>match x with
  | .d d=>if eG d=true then some (.d (.str d.shown)) else none
  | _=>none
def zH(K:PySem.W.Frag):List V→Hp→VK→Prop:=fun xs H Q=>∃x d,xs=[x]∧DA K H d x∧(d.hasDict=true→lW d=true)∧d.showable=true∧d.depth≤60∧d.shown.length≤sizeLine∧Q (.str d.shown) H
mutual
theorem mB:∀(d:PyData),kN d=true→d.hasDict=false
  | .none,_=>rfl
  | .bool _,_=>rfl
  | .int _,_=>rfl
  | .str _,_=>rfl
  | .tuple ds,h=>by simp only [PyData.hasDict];exact kO ds (by simpa [kN] using h)
  | .list ds,h=>by simp [kN] at h
  | .dict _,h=>by simp [kN] at h
theorem kO:∀(ds:List PyData),jU ds=true→PyData.hasDictAll ds=false
  | [],_=>rfl
  | d::r,h=>by
    simp only [jU,Bool.and_eq_true] at h
    simp only [PyData.hasDictAll,mB d h.1,kO r h.2,Bool.or_self]
end
theorem uo{X:Cx}{k:Nat}(hr:du k X.A):df X (.builtin "repr") (zH X.K):=by
  intro pins s σ H xs us Q I r h
  obtain⟨x,d,rfl,ha,hdl,hsh,hdp,hsz,q⟩:=h
  obtain⟨u,rfl,ru⟩:∃u,us=[u]∧bA x u:=by
    cases r with
    | cons p p'=>cases p';exact⟨_,rfl,p⟩
  have hun:=hr.un
  obtain⟨as,rd,hm⟩:=DA.readsR I ha ru
  have fin:∀a,u=.ref a→wpAny (model X.prog X.w) X.A (call (.builtin "repr") [u]) (EP X pins σ Q) X.xe s:=fun a e=>by
    subst e
    exact repr_of_reads' rd hsh (fun z=>hm (hdl z)) hr.gd (by lia) (fun _ _ e=>e) (fun h' u tk hk=>⟨.str _,H,I.kept hk,⟨_,rfl⟩,q⟩) hsz
  cases d with
  | none=>simp only [DA] at ha;subst ha;cases ru;exact P.repr_of_none ⟨.str _,H,I.tok _,⟨_,rfl⟩,q⟩
  | bool b=>simp only [DA] at ha;subst ha;cases ru;exact P.repr_of_bool ⟨.str _,H,I.tok _,⟨_,rfl⟩,q⟩
  | int i=>
    simp only [DA] at ha;subst ha;obtain⟨t,rfl⟩:=ru
    simp only [PyData.showable,decide_eq_true_eq] at hsh
    exact P.repr_of_int hsh ⟨.str _,H,I.tok _,⟨_,rfl⟩,q⟩
  | str y=>simp only [DA] at ha;subst ha;obtain⟨t,rfl⟩:=ru;exact P.repr_of_str ⟨.str _,H,I.tok _,⟨_,rfl⟩,q⟩ hsz
  | list ds=>obtain⟨a,_,e,_⟩:=cz.mp ha;subst e;exact fin a ru
  | dict ds=>simp only [DA] at ha;obtain⟨a,_,e,_⟩:=ha;subst e;exact fin a ru
  | tuple ds=>obtain⟨a,_,e,_⟩:=c9.mp ha;subst e;exact fin a ru
theorem EG:dy K (zH K) (g1 kR):=fH fun σ H0 F H e x z v Q R A hg q=>by
  unfold kR at hg
  split at hg
  case h_2=>cases hg
  case h_1 d=>
  split at hg
  case isFalse=>cases hg
  case isTrue hl=>
  cases hg
  unfold eG at hl
  rw [Bool.and_eq_true,Bool.and_eq_true,Bool.and_eq_true,decide_eq_true_iff,decide_eq_true_iff] at hl
  refine⟨v,d,rfl,DA.mono R.sm A,fun z=>?_,hl.1.1.2,hl.1.2,hl.2,q F H _ (dg.refl _ _ _ _) R ((lM (K:=K) (F:=F)).mpr rfl)⟩
  have c:=hl.1.1.1
  cases hf:kN d with
  | true=>rw [mB d hf] at z;cases z
  | false=>rw [hf,z] at c;simpa using c
end
end L2
namespace L2
open PySem PySem.Spec PyProof.Rows
section
variable{K:PySem.W.Frag}{σ:L2.St}{H0 F H F' H':Hp}{e e':En}
theorem bg.upd1(R:bg K F H σ e){σ':L2.St}(i:Nat)(hl:σ'.length=e'.length)(hσ:∀j,j≠i→σ'[j]?=σ[j]?)(he:∀j,j≠i→e'[j]?=e[j]?)(sF:aA F F')(sm:aA F' H')(hf:∀j a,j≠i→Fp σ e H j a→F' a=none)
    (hh:∀j a o,j≠i→Fp σ e H j a→H a=some o→H' a=some o)(hd:∀x,e'[i]?=some (some (.d x))→∃v,σ'[i]?=some (some v)∧DA K F' x v)
    (ho:∀xs,e'[i]?=some (some (.l xs))→∃l vs,σ'[i]?=some (some (.ref l))∧F' l=none∧H' l=some (.lst vs)∧aP K F' xs vs)
    (hn:∀xss,e'[i]?=some (some (.n xss))→∃(l:Addr) (bs:List Addr),σ'[i]?=some (some (.ref l))∧F' l=none∧H' l=some (.lst (bs.map V.ref))∧bs.length=xss.length∧bs.Nodup∧l∉bs∧
      ∀(k:Nat) (b:Addr) (ys:List PyData),bs[k]?=some b→xss[k]?=some ys→F' b=none∧∃us,H' b=some (.lst us)∧aP K F' ys us)
    (hi:∀a j,j≠i→Fp σ' e' H' i a→¬Fp σ e H j a):bg K F' H' σ' e'∧∀j a,j≠i→(Fp σ' e' H' j a↔ Fp σ e H j a):=by
  have fs:∀j a,j≠i→(Fp σ' e' H' j a↔ Fp σ e H j a):=by
    intro j a hj
    have key:∀xss l,e[j]?=some (some (.n xss))→σ[j]?=some (some (.ref l))→H' l=H l:=fun xss l h1 h2=>by
      obtain⟨l',bs,g1,g2,g3,_⟩:=R.nst j xss h1
      rw [h2] at g1;cases g1
      rw [g3]
      exact hh j l _ hj (.inr ⟨xss,l,bs,h1,h2,g3,.inl rfl⟩) g3
    unfold Fp
    rw [he j hj,hσ j hj]
    constructor
    · rintro(h1 | ⟨xss,l,bs,h1,h2,h3,h4⟩)
      · exact .inl h1
      · exact .inr ⟨xss,l,bs,h1,h2,by rw [←key xss l h1 h2];exact h3,h4⟩
    · rintro(h1 | ⟨xss,l,bs,h1,h2,h3,h4⟩)
      · exact .inl h1
      · exact .inr ⟨xss,l,bs,h1,h2,by rw [key xss l h1 h2];exact h3,h4⟩
  refine⟨⟨sm,hl,fun j x q=>?_,fun j xs q=>?_,fun j xss q=>?_,fun j k a q1 q2=>?_⟩,fs⟩
  · by_cases z:j=i
    · subst z;exact hd x q
    · rw [he j z] at q
      obtain⟨v,h1,h2⟩:=R.dat j x q
      exact⟨v,by rw [hσ j z];exact h1,DA.mono sF h2⟩
  · by_cases z:j=i
    · subst z;exact ho xs q
    · rw [he j z] at q
      obtain⟨l,vs,h1,h2,h3,h4⟩:=R.own j xs q
      have o:Fp σ e H j l:=.inl ⟨xs,q,h1⟩
      exact⟨l,vs,by rw [hσ j z];exact h1,hf j l z o,hh j l _ z o h3,h4.mono sF⟩
  · by_cases z:j=i
    · subst z;exact hn xss q
    · rw [he j z] at q
      obtain⟨l,bs,h1,h2,h3,h4,h5,h6,h7⟩:=R.nst j xss q
      have o:Fp σ e H j l:=.inr ⟨xss,l,bs,q,h1,h3,.inl rfl⟩
      refine⟨l,bs,by rw [hσ j z];exact h1,hf j l z o,hh j l _ z o h3,h4,h5,h6,fun k b ys g1 g2=>?_⟩
      obtain⟨c1,us,c2,c3⟩:=h7 k b ys g1 g2
      have ob:Fp σ e H j b:=.inr ⟨xss,l,bs,q,h1,h3,.inr (List.mem_of_getElem? g1)⟩
      exact⟨hf j b z ob,us,hh j b _ z ob c2,c3.mono sF⟩
  · by_cases zj:j=i
    · subst zj
      by_cases zk:k=j
      · exact zk.symm
      · exact absurd ((fs k a zk).mp q2) (hi a k zk q1)
    · by_cases zk:k=i
      · subst zk
        exact absurd ((fs j a zj).mp q1) (hi a j zj q2)
      · exact R.fp j k a ((fs j a zj).mp q1) ((fs k a zk).mp q2)
theorem bg.putL(R:bg K F H σ e){i:Nat}{xs ys:List PyData}{l:Addr}{vs:List V}(hi:e[i]?=some (some (.l xs)))(hl:σ[i]?=some (some (.ref l)))(hd:aP K F ys vs):
    bg K F (a' H l (.lst vs)) σ (e.set i (some (.l ys)))∧dg σ F H e F (a' H l (.lst vs)) (e.set i (some (.l ys))):=by
  obtain⟨l',vs',h1,h2,h3,h4⟩:=R.own i xs hi
  rw [hl] at h1;cases h1
  have hlt:i < e.length:=(List.getElem?_eq_some_iff.mp hi).1
  have fi:Fp σ e H i l:=.inl ⟨xs,hi,hl⟩
  have gi:(e.set i (some (Sv.l ys)))[i]?=some (some (.l ys)):=List.getElem?_set_self hlt
  obtain⟨R',fs⟩:=R.upd1 (F':=F) (H':=a' H l (.lst vs)) (e':=e.set i (some (.l ys))) i (by rw [List.length_set];exact R.len) (fun _ _=>rfl) (fun j hj=>List.getElem?_set_ne (Ne.symm hj)) (aA.refl F)
    (fun b o q=>by
      have z:b≠l:=fun z=>by rw [z,h2] at q;cases q
      rw [aw z];exact R.sm b o q)
    (fun j a _ q=>(R.fpAt q).1)
    (fun j a o hj q ha=>by
      have z:a≠l:=fun z=>hj (R.fp j i a q (by rw [z];exact fi))
      rw [aw z];exact ha)
    (fun x q=>by rw [gi] at q;cases q) (fun zs q=>by rw [gi] at q;cases q;exact⟨l,vs,hl,h2,ar,hd⟩) (fun xss q=>by rw [gi] at q;cases q)
    (fun a j hj q q2=>by
      rcases q with ⟨zs,_,q⟩ | ⟨xss,_,_,q,_⟩
      · rw [hl] at q;cases q
        exact hj (R.fp j i _ q2 fi)
      · rw [gi] at q;cases q)
  refine⟨R',⟨aA.refl _,fun a q=>?_,fun _ _ q _ _=>q,fun a ws q=>?_,fun a o q n=>?_,fun j=>?_,fun a ⟨j,q⟩=>?_⟩⟩
  · by_cases z:a=l
    · rw [z,ar] at q;cases q
    · rw [aw z] at q;exact q
  · by_cases z:a=l
    · rw [z];exact⟨vs,ar⟩
    · rw [aw z];exact⟨ws,q⟩
  · have z:a≠l:=fun z=>n ⟨i,by rw [z];exact fi⟩
    rw [aw z];exact q
  · by_cases z:j=i
    · subst z;rw [gi];exact⟨fun _=>⟨xs,hi⟩,fun _=>⟨ys,rfl⟩⟩
    · rw [List.getElem?_set_ne (Ne.symm z)]
  · by_cases z:j=i
    · subst z
      rcases q with ⟨zs,_,q⟩ | ⟨xss,_,_,q,_⟩
      · rw [hl] at q;cases q;exact .inl ⟨j,fi⟩
      · rw [gi] at q;cases q
    · exact .inl ⟨j,(fs j a z).mp q⟩
theorem bg.setD(R:bg K F H σ e)(i:Nat){x:PyData}{v:V}(h:DA K F x v):bg K F H (σ.set i (some v)) (e.set i (some (.d x)))∧∀a,cL (σ.set i (some v)) (e.set i (some (.d x))) H a→cL σ e H a:=by
  have gi:∀s,(e.set i (some (Sv.d x)))[i]?=some (some s)→s=.d x∧i < e.length:=fun s q=>by
    have hlt:i < e.length:=by have:=(List.getElem?_eq_some_iff.mp q).1;simpa using this
    rw [List.getElem?_set_self hlt] at q
    exact⟨(Option.some.inj (Option.some.inj q)).symm,hlt⟩
  have nofp:∀a,¬Fp (σ.set i (some v)) (e.set i (some (.d x))) H i a:=fun a q=>by
    rcases q with ⟨zs,q,_⟩ | ⟨xss,_,_,q,_⟩
    · cases (gi _ q).1
    · cases (gi _ q).1
  obtain⟨R',fs⟩:=R.upd1 (F':=F) (H':=H) (σ':=σ.set i (some v)) (e':=e.set i (some (.d x))) i (by rw [List.length_set,List.length_set];exact R.len) (fun j hj=>List.getElem?_set_ne (Ne.symm hj)) (fun j hj=>List.getElem?_set_ne (Ne.symm hj)) (aA.refl F) R.sm
    (fun j a _ q=>(R.fpAt q).1) (fun j a o _ _ ha=>ha)
    (fun y q=>by
      obtain⟨z,hlt⟩:=gi _ q
      cases z
      exact⟨v,List.getElem?_set_self (by rw [R.len];exact hlt),h⟩)
    (fun zs q=>by cases (gi _ q).1) (fun xss q=>by cases (gi _ q).1) (fun a j hj q=>absurd q (nofp a))
  refine⟨R',fun a ⟨j,q⟩=>?_⟩
  by_cases z:j=i
  · subst z;exact absurd q (nofp a)
  · exact⟨j,(fs j a z).mp q⟩
theorem bg.setL(R:bg K F H σ e)(i:Nat){xs:List PyData}{l:Addr}{vs:List V}(h1:F l=none)(h2:H l=some (.lst vs))(h3:aP K F xs vs)(h4:¬cL σ e H l):bg K F H (σ.set i (some (.ref l))) (e.set i (some (.l xs)))∧∀a,cL (σ.set i (some (.ref l))) (e.set i (some (.l xs))) H a→cL σ e H a∨a=l:=by
  have gi:∀s,(e.set i (some (Sv.l xs)))[i]?=some (some s)→s=.l xs∧i < e.length:=fun s q=>by
    have hlt:i < e.length:=by have:=(List.getElem?_eq_some_iff.mp q).1;simpa using this
    rw [List.getElem?_set_self hlt] at q
    exact⟨(Option.some.inj (Option.some.inj q)).symm,hlt⟩
  have onefp:∀a,Fp (σ.set i (some (.ref l))) (e.set i (some (.l xs))) H i a→a=l:=fun a q=>by
    rcases q with ⟨zs,q,q2⟩ | ⟨xss,_,_,q,_⟩
    · obtain⟨_,hlt⟩:=gi _ q
      rw [List.getElem?_set_self (by rw [R.len];exact hlt)] at q2
      cases q2;rfl
    · cases (gi _ q).1
  obtain⟨R',fs⟩:=R.upd1 (F':=F) (H':=H) (σ':=σ.set i (some (.ref l))) (e':=e.set i (some (.l xs))) i (by rw [List.length_set,List.length_set];exact R.len) (fun j hj=>List.getElem?_set_ne (Ne.symm hj)) (fun j hj=>List.getElem?_set_ne (Ne.symm hj)) (aA.refl F) R.sm
    (fun j a _ q=>(R.fpAt q).1) (fun j a o _ _ ha=>ha) (fun y q=>by cases (gi _ q).1)
    (fun zs q=>by
      obtain⟨z,hlt⟩:=gi _ q
      cases z
      exact⟨l,vs,List.getElem?_set_self (by rw [R.len];exact hlt),h1,h2,h3⟩)
    (fun xss q=>by cases (gi _ q).1) (fun a j hj q q2=>h4 ⟨j,by rw [onefp a q] at q2;exact q2⟩)
  refine⟨R',fun a ⟨j,q⟩=>?_⟩
  by_cases z:j=i
  · subst z;exact .inr (onefp a q)
  · exact .inl ⟨j,(fs j a z).mp q⟩
end
section
variable{X:Cx}{K:PySem.W.Frag}{o a:Expr}{es:List Expr}{fo:FE}{fs:FA}{name:Str}{apos cpos:Pos}{id:String}
def vk(K:PySem.W.Frag)(r:V→List V→Hp→VK→Prop)(g:List PyData→List PyData→Option (PyData × List PyData)):Prop:=
  ∀(F H:Hp) (l:Addr) (xs ys ds:List PyData) (z:PyData) (vs us:List V) (Q:VK),F l=none→aA F H→H l=some (.lst vs)→aP K F xs vs→aP K F ds us→g xs ds=some (z,ys)→
    (∀w ws,DA K F z w→aP K F ys ws→Q w (a' H l (.lst ws)))→r (.ref l) us H Q
def cw(g:List PyData→List PyData→Option (PyData × List PyData))(fo:FE)(fs:FA):FE:=fun e=>(fo e).bind fun p=>match p.1 with
  | .s i=>(fs p.2).bind fun q=>(gh q.1).bind fun ds=>match q.2[i]? with
    | some (some (.l xs))=>(g xs ds).map fun z=>(.d z.1,q.2.set i (some (.l z.2)))
    | _=>none
  | _=>none
theorem Al{r:V→List V→Hp→VK→Prop}{g:List PyData→List PyData→Option (PyData × List PyData)}(hm:vk K r g){σ:L2.St}{H:Hp}{Q:VK}(h:fE K (cw g fo fs) σ H Q):HU K "list" r (fE K fo) (fA K fs) σ H Q:=by
  obtain⟨F,e,z,e',R,hf,q⟩:=h
  unfold cw at hf
  obtain⟨⟨x,e1⟩,h1,hf⟩:=Option.bind_eq_some_iff.mp hf
  match x,h1,hf with
  | .s i,h1,hf=>
  dsimp only at hf
  obtain⟨⟨rs,e2⟩,h2,hf⟩:=Option.bind_eq_some_iff.mp hf
  obtain⟨ds,h3,hf⟩:=Option.bind_eq_some_iff.mp hf
  refine⟨F,e,_,e1,R,h1,fun F1 H1 v X1 R1 A1=>?_⟩
  obtain⟨g1,zs,g2⟩:=A1
  obtain⟨l,vs,c1,c2,c3,c4⟩:=R1.own i zs g2
  rw [g1] at c1;cases c1
  refine⟨.inl ⟨rfl,vs,.inl (.inl c3)⟩,F1,e1,rs,e2,R1,h2,fun F2 H2 us X2 R2 A2=>?_⟩
  match h4:e2[i]?,hf with
  | some (some (.l xs)),hf=>
  dsimp only at hf
  obtain⟨⟨zd,ys⟩,h5,hf⟩:=Option.map_eq_some_iff.mp hf
  cases hf
  obtain⟨F3,R3,s3,d3,f3⟩:=cO.frozen R2 A2 h3
  obtain⟨l',vs',k1,k2,k3,k4⟩:=R3.own i xs h4
  rw [g1] at k1;cases k1
  refine hm F3 H2 l xs ys ds zd vs' us Q k2 R3.sm k3 k4 d3 h5 fun w ws hw hws=>?_
  obtain⟨R4,X4⟩:=R3.putL h4 g1 hws
  exact q _ _ _ ((X1.trans (X2.frz s3 f3)).trans X4) R4 hw
theorem CY{r:V→List V→Hp→VK→Prop}{g:List PyData→List PyData→Option (PyData × List PyData)}(slot:Slot "list" name id)(hty:typeOf (.builtin id)=pure (.type "method_descriptor"))(hm:HL X id r)(hf:vk X.K r g)(ho:PE X o (fE X.K fo))(ha:PA X (a::es) (fA X.K fs))
    (hbase:attributeBase o name X.env (eval o X.env)=eval o X.env)
    (hfew:((backTo cpos (starEach (a::es) X.env)).all (fun x=> !x.1)&&(backToKw cpos (keywordEach [] X.env)).all (fun x=>x.1.isSome)
      &&decide ((a::es).length+([]:List Keyword).length+(if ([]:List Keyword).isEmpty then 0 else 1) < 30))=true)
    (hline:(apos.endLine==cpos.line)=true)(hs:starEach (a::es) X.env=(false,eval a X.env)::starEach es X.env)(hplain:(backTo cpos (starEach es X.env)).any (·.1)=false):
    PE X (.Call (.Attribute o name apos) (a::es) [] cpos) (fE X.K (cw g fo fs)):=(y2 PySem.F.plainAttrs_list slot hty hm ho ha hbase hfew hline hs hplain).mono fun _ _ _ h=>Al hf h
def bE:List PyData→List PyData→Option (PyData × List PyData):=fun xs ds=>match ds with
  | [d]=>if xs.length < 1000000 then some (.none,xs++[d]) else none
  | _=>none
theorem xS:vk K vZ bE:=by
  intro F H l xs ys ds z vs us Q hF sm hl d1 d2 hg q
  unfold bE at hg
  match ds,hg,d2 with
  | [d],hg,d2=>
    simp only [aP] at d2
    obtain⟨w,r,rfl,hw,rfl⟩:=d2
    dsimp only at hg
    split at hg
    case isFalse=>cases hg
    case isTrue hlt=>
    cases hg
    have:=d1.len
    have sl:sizeLine=16777216:=sizeLine_eq
    exact⟨l,vs,w,rfl,rfl,hl,by lia,q _ _ (fJ.mpr rfl) (d1.append (aP.one hw))⟩
def sO:List PyData→List PyData→Option (PyData × List PyData):=fun xs ds=>match ds with
  | []=>(xs[xs.length - 1]?).map fun d=>(d,xs.dropLast)
  | _=>none
def dS:List PyData→List PyData→Option (PyData × List PyData):=fun xs ds=>match ds with
  | [.int i]=>if 0≤i∧i < 1000000000 then(xs[i.toNat]?).map fun d=>(d,xs.eraseIdx i.toNat) else none
  | _=>none
theorem BI:vk K zF dS:=by
  intro F H l xs ys ds z vs us Q hF sm hl d1 d2 hg q
  unfold dS at hg
  match ds,hg,d2 with
  | [.int i],hg,d2=>
    simp only [aP,DA] at d2
    obtain⟨w,r,rfl,rfl,rfl⟩:=d2
    dsimp only at hg
    split at hg
    case isFalse=>cases hg
    case isTrue hlt=>
    obtain⟨d,h1,h2⟩:=Option.map_eq_some_iff.mp hg
    cases h2
    obtain⟨v,g1,g2⟩:=d1.get h1
    have hlt2:i.toNat < vs.length:=(List.getElem?_eq_some_iff.mp g1).1
    exact⟨l,vs,i,i.toNat,v,rfl,rfl,hl,by lia,by lia,seqIndex_of hlt.1 (by lia),g1,q _ _ g2 (d1.erase _)⟩
end
end L2
namespace L2
open PySem PySem.Spec PyProof.Rows
inductive Fl where
  | nx (e:En)
  | bk (e:En)
  | ct (e:En)
  | rt (r:Rv) (e:En)
abbrev FS:=En→Option Fl
structure cZ (W:List Nat) (σ:L2.St) (F H:Hp) (e:En) (σ':L2.St) (F' H':Hp) (e':En):Prop where
  sf:aA F F'
  dom:∀a,H' a=none→H a=none
  fr:∀a vs,F a=none→H a=some (.lst vs)→¬cL σ e H a→F' a=none
  lst:∀a vs,H a=some (.lst vs)→∃vs',H' a=some (.lst vs')
  tmp:∀a o,H a=some o→¬cL σ e H a→H' a=some o
  own:∀a,cL σ' e' H' a→cL σ e H a∨H a=none
  wr:∀j,j∉W→σ'[j]?=σ[j]?
section
variable{K:PySem.W.Frag}{W W1 W2:List Nat}{σ σ1 σ2 σ':L2.St}{H0 F H F1 H1 F2 H2 F' H':Hp}{e e1 e2 e':En}
theorem cZ.refl:cZ W σ F H e σ F H e:=⟨aA.refl _,fun _ h=>h,fun _ _ h _ _=>h,fun _ vs h=>⟨vs,h⟩,fun _ _ h _=>h,fun _ h=>.inl h,fun _ _=>rfl⟩
theorem dg.s(x:dg σ F H e F' H' e'):cZ W σ F H e σ F' H' e':=⟨x.sf,x.dom,x.fr,x.lst,x.tmp,x.ow,fun _ _=>rfl⟩
theorem cZ.trans(x:cZ W σ F H e σ1 F1 H1 e1)(y:cZ W σ1 F1 H1 e1 σ2 F2 H2 e2):cZ W σ F H e σ2 F2 H2 e2:=
  ⟨x.sf.trans y.sf,fun a h=>x.dom a (y.dom a h),fun a vs h n no=>let ⟨vs',q⟩:=x.lst a vs n;y.fr a vs' (x.fr a vs h n no) q (fun z=>(x.own a z).elim no fun z=>by rw [n] at z;cases z),fun a vs h=>let ⟨vs',q⟩:=x.lst a vs h;y.lst a vs' q,
    fun a o h n=>y.tmp a o (x.tmp a o h n) (fun z=>(x.own a z).elim n fun z=>by rw [h] at z;cases z),
    fun a h=>(y.own a h).elim (x.own a) (fun z=>.inr (x.dom a z)),
    fun j h=>(y.wr j h).trans (x.wr j h)⟩
theorem cZ.mono(x:cZ W1 σ F H e σ' F' H' e')(h:∀j,j∈W1→j∈W):cZ W σ F H e σ' F' H' e':=⟨x.sf,x.dom,x.fr,x.lst,x.tmp,x.own,fun j n=>x.wr j fun z=>n (h j z)⟩
end
def nI(K:PySem.W.Frag)(W:List Nat)(σ:L2.St)(F H:Hp)(e:En)(D:ug):Fl→Prop
  | .nx e'=>∀F' H' σ',cZ W σ F H e σ' F' H' e'→bg K F' H' σ' e'→D.nx σ' H'
  | .bk e'=>∀F' H' σ',cZ W σ F H e σ' F' H' e'→bg K F' H' σ' e'→D.bk σ' H'
  | .ct e'=>∀F' H' σ',cZ W σ F H e σ' F' H' e'→bg K F' H' σ' e'→D.ct σ' H'
  | .rt r e'=>∀F' H' σ' v,cZ W σ F H e σ' F' H' e'→bg K F' H' σ' e'→cf K σ' H F' H' e' r v→D.rt v H'
def fS(K:PySem.W.Frag)(f:FS)(W:List Nat):TS:=fun D σ H=>∃F e fl,bg K F H σ e∧f e=some fl∧nI K W σ F H e D fl
theorem PS.mono{X:Cx}{st:Stmt}{t t':TS}(h:PS X st t)(m:∀D σ H,t' D σ H→t D σ H):PS X st t':=fun pins s σ H D I q=>h pins s σ H D I (m D σ H q)
theorem mQ.mono{X:Cx}{st:List Stmt}{t t':TS}(h:mQ X st t)(m:∀D σ H,t' D σ H→t D σ H):mQ X st t':=fun pins s σ H D I q=>h pins s σ H D I (m D σ H q)
theorem nI.later{K:PySem.W.Frag}{W W1 W2:List Nat}{σ σ1:L2.St}{F H F1 H1:Hp}{e e1:En}{D:ug}{fl:Fl}(h:nI K W σ F H e D fl)(x:cZ W1 σ F H e σ1 F1 H1 e1)(h1:∀j,j∈W1→j∈W)(h2:∀j,j∈W2→j∈W):nI K W2 σ1 F1 H1 e1 D fl:=by
  cases fl with
  | nx e'=>exact fun F' H' σ' y R=>h F' H' σ' ((x.mono h1).trans (y.mono h2)) R
  | bk e'=>exact fun F' H' σ' y R=>h F' H' σ' ((x.mono h1).trans (y.mono h2)) R
  | ct e'=>exact fun F' H' σ' y R=>h F' H' σ' ((x.mono h1).trans (y.mono h2)) R
  | rt r e'=>exact fun F' H' σ' v y R A=>h F' H' σ' v ((x.mono h1).trans (y.mono h2)) R (A.weak x.dom)
section
variable{X:Cx}{K:PySem.W.Frag}{W W1 W2:List Nat}{st:Stmt}{gX:List Stmt}{f g:FS}{a b:Expr}{fa:FE}{ft:FT}{pos:Pos}
def cN:FS:=fun e=>some (.nx e)
def aD(f g:FS):FS:=fun e=>(f e).bind fun fl=>match fl with
  | .nx e1=>g e1
  | fl=>some fl
theorem bw:mQ X [] (fS K cN []):=BN.mono fun D σ H h=>by
  obtain⟨F,e,fl,R,hf,q⟩:=h
  cases hf
  exact q F H σ cZ.refl R
theorem ah(h1:PS X st (fS K f W1))(h2:mQ X gX (fS K g W2)):mQ X (st::gX) (fS K (aD f g) (W1++W2)):=(zv h1 h2).mono fun D σ H h=>by
  obtain⟨F,e,fl,R,hf,q⟩:=h
  unfold aD at hf
  obtain⟨fl1,h1,hf⟩:=Option.bind_eq_some_iff.mp hf
  have s1:∀j,j∈W1→j∈W1++W2:=fun j h=>List.mem_append.mpr (.inl h)
  have s2:∀j,j∈W2→j∈W1++W2:=fun j h=>List.mem_append.mpr (.inr h)
  refine⟨F,e,fl1,R,h1,?_⟩
  cases fl1 with
  | nx e1=>exact fun F' H' σ' x R'=>⟨F',e1,fl,R',hf,q.later x s1 s2⟩
  | bk e1=>cases hf;exact fun F' H' σ' x R'=>q F' H' σ' (x.mono s1) R'
  | ct e1=>cases hf;exact fun F' H' σ' x R'=>q F' H' σ' (x.mono s1) R'
  | rt r e1=>cases hf;exact fun F' H' σ' v x R' A=>q F' H' σ' v (x.mono s1) R' A
theorem ao(h1:PS X st (fS K f W)):mQ X [st] (fS K f W):=BO h1
def cX(fa:FE):FS:=fun e=>(fa e).map fun p=>.nx p.2
theorem eE(he:PE X a (fE K fa))(hs:swapsWith a none pos.line X.env=pure false):PS X (.Expr a pos) (fS K (cX fa) []):=(BM he hs).mono fun D σ H h=>by
  obtain⟨F,e,fl,R,hf,q⟩:=h
  obtain⟨⟨x,e1⟩,h1,hf⟩:=Option.map_eq_some_iff.mp hf
  cases hf
  exact⟨F,e,x,e1,R,h1,fun F1 H1 v X1 R1 A1=>q F1 H1 σ X1.s R1⟩
def bv(fa:FE):FS:=fun e=>(fa e).map fun p=>.rt p.1 p.2
theorem aH(he:PE X a (fE K fa)):PS X (.Return (some a) pos) (fS K (bv fa) []):=(Eh he).mono fun D σ H h=>by
  obtain⟨F,e,fl,R,hf,q⟩:=h
  obtain⟨⟨x,e1⟩,h1,hf⟩:=Option.map_eq_some_iff.mp hf
  cases hf
  exact⟨F,e,x,e1,R,h1,fun F1 H1 v X1 R1 A1=>q F1 H1 σ v X1.s R1 A1⟩
def i3(ft:FT)(f g:FS):FS:=fun e=>(ft e).bind fun p=>if p.1=true then f p.2 else g p.2
theorem cR{c:Expr}{bs cs:List Stmt}(hc:PT X c (fT K ft))(ha:mQ X bs (fS K f W1))(hb:mQ X cs (fS K g W2)):PS X (.If c bs cs pos) (fS K (i3 ft f g) (W1++W2)):=(Ge hc ha hb).mono fun D σ H h=>by
  obtain⟨F,e,fl,R,hf,q⟩:=h
  unfold i3 at hf
  obtain⟨⟨x,e1⟩,h1,hf⟩:=Option.bind_eq_some_iff.mp hf
  refine⟨F,e,x,e1,R,h1,fun F1 H1 X1 R1=>?_⟩
  cases x with
  | true=>exact⟨F1,e1,fl,R1,hf,q.later (W1:=[]) X1.s (fun j h=>by cases h) fun j h=>List.mem_append.mpr (.inl h)⟩
  | false=>exact⟨F1,e1,fl,R1,hf,q.later (W1:=[]) X1.s (fun j h=>by cases h) fun j h=>List.mem_append.mpr (.inr h)⟩
def o6(i:Nat)(r:Rv)(e:En):Option En:=match r with
  | .d x=>some (e.set i (some (.d x)))
  | .l xs=>some (e.set i (some (.l xs)))
  | .s _=>none
theorem El{σ:L2.St}{H F H1 F1:Hp}{e e1 e2:En}{i:Nat}{r:Rv}{v:V}(R:bg K F H σ e)(X1:dg σ F H e F1 H1 e1)(R1:bg K F1 H1 σ e1)(A1:cf K σ H F1 H1 e1 r v)(h:o6 i r e1=some e2):
    cZ [i] σ F H e (σ.set i (some v)) F1 H1 e2∧bg K F1 H1 (σ.set i (some v)) e2:=by
  have wr:∀j,j∉[i]→(σ.set i (some v))[j]?=σ[j]?:=fun j n=>List.getElem?_set_ne (fun z=>n (by simp [z]))
  cases r with
  | d x=>
    cases h
    obtain⟨R2,o2⟩:=R1.setD i A1
    exact⟨⟨X1.sf,X1.dom,X1.fr,X1.lst,X1.tmp,fun a h=>X1.ow a (o2 a h),wr⟩,R2⟩
  | l xs=>
    cases h
    obtain⟨l,vs,rfl,h1,h2,h3,h4,h5⟩:=A1
    obtain⟨R2,o2⟩:=R1.setL i h2 h3 h4 h5
    refine⟨⟨X1.sf,X1.dom,X1.fr,X1.lst,X1.tmp,fun a h=>?_,wr⟩,R2⟩
    rcases o2 a h with z | z
    · exact X1.ow a z
    · exact .inr (by rw [z];exact h1)
  | s j=>cases h
def a_(i:Nat)(fa:FE):FS:=fun e=>(fa e).bind fun p=>(o6 i p.1 p.2).map .nx
theorem aC{i:Nat}{x:Str}{pos':Pos}(hN:X.N.Nodup)(hi:X.N[i]?=some x)(hx:Dd X.env.scope x)(he:PE X a (fE K fa))(hs:swapsWith a (some (.Name x pos')) pos.line X.env=pure false)(hf:X.fn x=true∨X.env.scope.names.lookup x=some .local):
    PS X (.Assign [.Name x pos'] a pos) (fS K (a_ i fa) [i]):=(zt hN hi hx he hs hf).mono fun D σ H h=>by
  obtain⟨F,e,fl,R,hf,q⟩:=h
  unfold a_ at hf
  obtain⟨⟨r,e1⟩,h1,hf⟩:=Option.bind_eq_some_iff.mp hf
  obtain⟨e2,h2,hf⟩:=Option.map_eq_some_iff.mp hf
  cases hf
  refine⟨F,e,r,e1,R,h1,fun F1 H1 v X1 R1 A1=>?_⟩
  obtain⟨x,R2⟩:=El R X1 R1 A1 h2
  exact q F1 H1 _ x R2
abbrev FG:=PyData→En→Option En
def fG(K:PySem.W.Frag)(g:FG)(W:List Nat):TG:=fun v σ H Q=>∃F e x e',bg K F H σ e∧DA K F x v∧g x e=some e'∧∀σ',cZ W σ F H e σ' F H e'→bg K F H σ' e'→Q σ' H
abbrev Ct:=List PyData→En→Option En
def G1(K:PySem.W.Frag)(g:Ct)(W:List Nat):Aq:=fun vs σ H Q=>∃F e xs e',bg K F H σ e∧aP K F xs vs∧g xs e=some e'∧∀σ',cZ W σ F H e σ' F H e'→bg K F H σ' e'→Q σ' H
theorem PG.mono{tg:Expr}{t t':TG}(h:PG X tg t)(m:∀v σ H Q,t' v σ H Q→t v σ H Q):PG X tg t':=fun pins s σ H v u Q I r q=>h pins s σ H v u Q I r (m v σ H Q q)
theorem xM.mono{tg:List Expr}{t t':Aq}(h:xM X tg t)(m:∀v σ H Q,t' v σ H Q→t v σ H Q):xM X tg t':=fun pins s σ H v u Q I r q=>h pins s σ H v u Q I r (m v σ H Q q)
def aj(i:Nat):FG:=fun x e=>some (e.set i (some (.d x)))
def bh:Ct:=fun xs e=>match xs with
  | []=>some e
  | _=>none
def aq(g:FG)(gs:Ct):Ct:=fun xs e=>match xs with
  | x::r=>(g x e).bind fun e1=>gs r e1
  | _=>none
def bj(gs:Ct):FG:=fun x e=>match x with
  | .tuple xs=>gs xs e
  | _=>none
theorem aB{i:Nat}{x:Str}(hN:X.N.Nodup)(hi:X.N[i]?=some x)(hx:Dd X.env.scope x)(hf:X.fn x=true∨X.env.scope.names.lookup x=some .local):PG X (.Name x pos) (fG K (aj i) [i]):=(BB hN hi hx hf).mono fun v σ H Q h=>by
  obtain⟨F,e,x,e',R,hx,hg,q⟩:=h
  cases hg
  obtain⟨R2,o2⟩:=R.setD i hx
  exact q _ ⟨aA.refl _,fun _ h=>h,fun _ _ h _ _=>h,fun _ vs h=>⟨vs,h⟩,fun _ _ h _=>h,fun a h=>.inl (o2 a h),fun j n=>List.getElem?_set_ne (fun z=>n (by simp [z]))⟩ R2
theorem cC:xM X [] (G1 K bh []):=BD.mono fun v σ H Q h=>by
  obtain⟨F,e,x,e',R,hx,hg,q⟩:=h
  unfold bh at hg
  split at hg
  · cases hg
    simp only [aP] at hx
    exact⟨hx,q σ cZ.refl R⟩
  · cases hg
theorem aI{es:List Expr}{g1:FG}{gs:Ct}(h1:PG X a (fG K g1 W1))(h2:xM X es (G1 K gs W2))
    (hs:(assignEach (a::es) X.env).map (·.2)=assign a X.env::(assignEach es X.env).map (·.2)):xM X (a::es) (G1 K (aq g1 gs) (W1++W2)):=(za h1 h2 hs).mono fun v σ H Q h=>by
  obtain⟨F,e,xs,e',R,hx,hg,q⟩:=h
  unfold aq at hg
  match xs,hg,hx with
  | x::r,hg,hx=>
    simp only [aP] at hx
    obtain⟨w,ws,e1,hw,hr⟩:=hx
    dsimp only at hg
    obtain⟨e1',h3,h4⟩:=Option.bind_eq_some_iff.mp hg
    refine⟨w,ws,e1,F,e,x,e1',R,hw,h3,fun σ1 x1 R1=>⟨F,e1',r,e',R1,hr,h4,fun σ2 x2 R2=>?_⟩⟩
    exact q σ2 ((x1.mono fun j h=>List.mem_append.mpr (.inl h)).trans (x2.mono fun j h=>List.mem_append.mpr (.inr h))) R2
theorem dY{es:List Expr}{k n:Nat}{gs:Ct}(hK:X.K=K)(hc:X.calm=true)(h:xM X es (G1 K gs W))(hl:∀xs e e',gs xs e=some e'→xs.length=n)(hn:(assignEach es X.env).length=n)(hst:(assignEach es X.env).findIdx? (·.1)=none):PG X (.Tuple es k pos) (fG K (bj gs) W):=(BC hK hc h hn hst).mono fun v σ H Q h=>by
  obtain⟨F,e,x,e',R,hx,hg,q⟩:=h
  unfold bj at hg
  match x,hg,hx with
  | .tuple xs,hg,hx=>
    obtain⟨p,vs,e1,e2,e3⟩:=c9.mp hx
    exact⟨p,vs,e1,R.sm.tup e2,by rw [←e3.len];exact hl xs e e' hg,F,e,xs,e',R,e3,hg,q⟩
theorem dN(xs:List PyData)(e e':En)(h:bh xs e=some e'):xs.length=0:=by
  unfold bh at h
  split at h
  · rfl
  · cases h
theorem aR{g:FG}{gs:Ct}{n:Nat}(hl:∀xs e e',gs xs e=some e'→xs.length=n)(xs:List PyData)(e e':En)(h:aq g gs xs e=some e'):xs.length=n+1:=by
  unfold aq at h
  match xs,h with
  | x::r,h=>
    obtain⟨e1,h3,h4⟩:=Option.bind_eq_some_iff.mp h
    simp [hl r e1 e' h4]
def i0(fa:FE)(g:FG):FS:=fun e=>(fa e).bind fun p=>match p.1 with
  | .d x=>(g x p.2).map .nx
  | _=>none
theorem jC{tg:Expr}{g:FG}(he:PE X a (fE K fa))(hg:PG X tg (fG K g W))(hs:swapsWithSole [tg] a pos.line X.env=pure false)(hw:swappedStores [tg] a X.env=pure none)
    (h1:(assignEach [tg] X.env).map (·.2)=[assign tg X.env]):PS X (.Assign [tg] a pos) (fS K (i0 fa g) W):=(uQ he hg hs hw h1).mono fun D σ H h=>by
  obtain⟨F,e,fl,R,hf,q⟩:=h
  unfold i0 at hf
  obtain⟨⟨r,e1⟩,h1,hf⟩:=Option.bind_eq_some_iff.mp hf
  match r,h1,hf with
  | .d x,h1,hf=>
    obtain⟨e2,h2,hf⟩:=Option.map_eq_some_iff.mp hf
    cases hf
    exact⟨F,e,_,e1,R,h1,fun F1 H1 v X1 R1 A1=>⟨F1,e1,x,e2,R1,A1,h2,fun σ' x2 R2=>q F1 H1 σ' (X1.s.trans x2) R2⟩⟩
def mX(i j:Nat)(fs:FA):FS:=fun e=>(fs e).bind fun p=>match p.1 with
  | [.d x,.d y]=>some (.nx ((p.2.set i (some (.d x))).set j (some (.d y))))
  | _=>none
theorem zC{i j:Nat}{x y:Str}{fs:FA}{px py pt:Pos}{kt k2 pt2}(hc:X.calm=true)(hN:X.N.Nodup)(hi:X.N[i]?=some x)(hj:X.N[j]?=some y)(hij:i≠j)
    (hx:X.env.scope.names.lookup x=some .local)(hy:X.env.scope.names.lookup y=some .local)(ha:PA X [a,b] (fA K fs))
    (hw:swappedStores [.Tuple [.Name x px,.Name y py] kt pt] (.Tuple [a,b] k2 pt2) X.env=pure (some [x,y]))
    (hs:swapsWithSole [.Tuple [.Name x px,.Name y py] kt pt] (.Tuple [a,b] k2 pt2) pos.line X.env=pure false):
    PS X (.Assign [.Tuple [.Name x px,.Name y py] kt pt] (.Tuple [a,b] k2 pt2) pos) (fS K (mX i j fs) [i,j]):=(Eg hc hN hi hj hij hx hy ha hw hs).mono fun D σ H h=>by
  obtain⟨F,e,fl,R,hf,q⟩:=h
  unfold mX at hf
  obtain⟨⟨rs,e1⟩,h1,hf⟩:=Option.bind_eq_some_iff.mp hf
  refine⟨F,e,rs,e1,R,h1,fun F1 H1 vs X1 R1 A1=>?_⟩
  match rs,hf,A1 with
  | [.d x,.d y],hf,A1=>
    cases hf
    obtain⟨v,u,rfl,a1,a2⟩:=rN A1
    obtain⟨R2,o2⟩:=R1.setD i a1
    obtain⟨R3,o3⟩:=R2.setD j a2
    refine⟨v,u,rfl,q F1 H1 _ ⟨X1.sf,X1.dom,X1.fr,X1.lst,X1.tmp,fun a h=>X1.ow a (o2 a (o3 a h)),fun m n=>?_⟩ R3⟩
    rw [List.getElem?_set_ne (fun z=>n (by simp [z])),List.getElem?_set_ne (fun z=>n (by simp [z]))]
def ki:Rv→Option PyData
  | .d x=>some x
  | .l xs=>some (.list xs)
  | .s _=>none
theorem jR{r:Rv}{d:PyData}(h:ki r=some d):gh [r]=some [d]:=by
  cases r with
  | d x=>cases h;rfl
  | l xs=>cases h;rfl
  | s i=>cases h
def ky(e:En):Rv→Option (Nat × List PyData)
  | .s n=>match e[n]? with
    | some (some (.l xs))=>some (n,xs)
    | _=>none
  | _=>none
theorem p8{e:En}{r:Rv}{n:Nat}{xs:List PyData}(h:ky e r=some (n,xs)):r=.s n∧e[n]?=some (some (.l xs)):=by
  unfold ky at h
  split at h
  · split at h
    · rename_i heq
      cases h;exact⟨rfl,heq⟩
    · cases h
  · cases h
def xo(fa fo fi:FE):FS:=fun e=>(fa e).bind fun p=>(ki p.1).bind fun d=>(fo p.2).bind fun o=>(fi o.2).bind fun i=>(bM i.1).bind fun k=>(ky i.2 o.1).bind fun s=>(mT s.2.length k).map fun j=>.nx (i.2.set s.1 (some (.l (s.2.set j d))))
theorem zD{o i:Expr}{fo fi:FE}{ps:Pos}(he:PE X a (fE K fa))(ho:PE X o (fE K fo))(hi:PE X i (fE K fi))
    (ha:∀v,assign (.Subscript o i ps) X.env v=(do
      let ov ←holding [v] (eval o X.env)
      let iv ←holding [v,ov] (eval i X.env)
      standAt ps
      holding [v,ov,iv] (setItem ov iv v)
      release [v,ov,iv] []))
    (hs:swapsWithSole [.Subscript o i ps] a pos.line X.env=pure false)(hw:swappedStores [.Subscript o i ps] a X.env=pure none)
    (h1:(assignEach [.Subscript o i ps] X.env).map (·.2)=[assign (.Subscript o i ps) X.env]):PS X (.Assign [.Subscript o i ps] a pos) (fS K (xo fa fo fi) []):=(uQ he (y_ ho hi tT ha) hs hw h1).mono fun D σ H h=>by
  obtain⟨F,e,fl,R,hf,q⟩:=h
  unfold xo at hf
  obtain⟨⟨r,e1⟩,g1,hf⟩:=Option.bind_eq_some_iff.mp hf
  obtain⟨d,g2,hf⟩:=Option.bind_eq_some_iff.mp hf
  obtain⟨⟨ro,e2⟩,g3,hf⟩:=Option.bind_eq_some_iff.mp hf
  obtain⟨⟨ri,e3⟩,g4,hf⟩:=Option.bind_eq_some_iff.mp hf
  obtain⟨k,g5,hf⟩:=Option.bind_eq_some_iff.mp hf
  obtain⟨⟨n,xs⟩,g6,hf⟩:=Option.bind_eq_some_iff.mp hf
  obtain⟨j,g7,hf⟩:=Option.map_eq_some_iff.mp hf
  cases hf
  obtain⟨z6,g6'⟩:=p8 g6
  dsimp only at z6 g6'
  subst z6
  refine⟨F,e,r,e1,R,g1,fun F1 H1 v X1 R1 A1=>?_⟩
  refine⟨F1,e1,_,e2,R1,g3,fun F2 H2 u X2 R2 A2=>⟨F2,e2,ri,e3,R2,g4,fun F3 H3 w X3 R3 A3=>?_⟩⟩
  have X12:=X1.trans X2
  have X13:=X12.trans X3
  have A1':=(A1.ext X2).ext X3
  obtain⟨F4,R4,s4,d4,f4⟩:=cO.frozen R3 (rs:=[r]) (vs:=[v]) ⟨v,[],rfl,A1',rfl⟩ (jR g2)
  obtain⟨h1,_⟩:=A2
  obtain⟨l,vs,k1,k2,k3,k4⟩:=R4.own n xs g6'
  rw [h1] at k1;cases k1
  simp only [aP] at d4
  obtain⟨v',r',e',hv,_⟩:=d4
  cases e'
  refine⟨l,vs,k,j,rfl,cq A3 g5,k3,by rw [←k4.len];exact g7,?_⟩
  obtain⟨R5,X5⟩:=R4.putL g6' h1 (k4.set hv j)
  exact q _ _ σ ((X13.frz s4 f4).trans X5).s R5
def i6(ft:FT)(f:FS):Nat→FS
  | 0,_=>none
  | n+1,e=>(ft e).bind fun p=>if p.1=true then(f p.2).bind fun fl=>match fl with
      | .nx e1=>i6 ft f n e1
      | .ct e1=>i6 ft f n e1
      | .bk e1=>some (.nx e1)
      | .rt r e1=>some (.rt r e1)
    else some (.nx p.2)
def gG(n:Nat)(ft:FT)(f:FS):FS:=i6 ft f n
theorem jD{n:Nat}{c:Expr}{body:List Stmt}(hp:PassesOwn (model X.prog X.w) X.A X.env X.xe)(hc:PT X c (fT K ft))(hb:mQ X body (fS K f W)):PS X (.While c body [] pos) (fS K (gG n ft f) W):=(zu hp hc hb).mono fun D σ H h=>by
  refine⟨fun m σ H=>∃F e fl,bg K F H σ e∧i6 ft f m e=some fl∧nI K W σ F H e D fl,⟨n,h⟩,?_⟩
  rintro m σ H ⟨F,e,fl,R,hf,q⟩
  cases m with
  | zero=>cases hf
  | succ m=>
    unfold i6 at hf
    obtain⟨⟨x,e1⟩,h1,hf⟩:=Option.bind_eq_some_iff.mp hf
    refine⟨F,e,x,e1,R,h1,fun F1 H1 X1 R1=>?_⟩
    have sub:∀j,j∈([]:List Nat)→j∈W:=fun j h=>by cases h
    cases x with
    | false=>
      rw [if_neg (by simp)] at hf
      cases hf
      exact AZ (q F1 H1 σ X1.s R1)
    | true=>
      rw [if_pos rfl] at hf
      refine A0 ?_
      obtain⟨fl1,h2,hf⟩:=Option.bind_eq_some_iff.mp hf
      have q1:nI K W σ F1 H1 e1 D fl:=q.later (W1:=[]) X1.s sub fun j h=>h
      refine⟨fun σ' H'=>∃F' e',bg K F' H' σ' e'∧i6 ft f m e'=some fl∧nI K W σ' F' H' e' D fl,fun σ' H' ⟨F',e',r1,r2,r3⟩=>⟨m,Nat.lt_succ_self m,F',e',fl,r1,r2,r3⟩,F1,e1,fl1,R1,h2,?_⟩
      cases fl1 with
      | nx e2=>exact fun F2 H2 σ2 x R2=>⟨F2,e2,R2,hf,q1.later x (fun j h=>h) fun j h=>h⟩
      | ct e2=>exact fun F2 H2 σ2 x R2=>⟨F2,e2,R2,hf,q1.later x (fun j h=>h) fun j h=>h⟩
      | bk e2=>cases hf;exact fun F2 H2 σ2 x R2=>q1 F2 H2 σ2 x R2
      | rt r e2=>cases hf;exact fun F2 H2 σ2 v x R2 A=>q1 F2 H2 σ2 v x R2 A
end
end L2
namespace L2
open PySem PySem.Spec PyProof.Rows
theorem PI.mono{X:Cx}{tg iter:Expr}{t t':TI}(h:PI X tg iter t)(m:∀σ H R,t' σ H R→t σ H R):PI X tg iter t':=fun pins s σ H R I q=>h pins s σ H R I (m σ H R q)
theorem PI.or{X:Cx}{tg iter:Expr}{t t':TI}(h:PI X tg iter t)(h':PI X tg iter t'):PI X tg iter (fun σ H R=>t σ H R∨t' σ H R):=fun pins s σ H R I q=>by
  rcases q with q | q
  · exact h pins s σ H R I q
  · exact h' pins s σ H R I q
abbrev ii:=List (Nat × List PyData)
def wx(K:PySem.W.Frag)(σ:L2.St)(F H:Hp)(own:ii):Prop:=∀p∈own,∃l vs,σ[p.1]?=some (some (.ref l))∧H l=some (.lst vs)∧aP K F p.2 vs
def uh(K:PySem.W.Frag)(σ:L2.St)(J:It)(items:List PyData)(own:ii)(F0:Hp):Prop:=∀F H,aA F0 F→aA F H→wx K σ F H own→
  (∀i,i < items.length→J.go i H)∧(∀i,items.length≤i→J.stop i H)∧∀i d x H',items[i]?=some d→J.yld i H x H'→∃F',aA H H'∧aA F F'∧aA F' H'∧(∀a,F a=none→H a≠none→F' a=none)∧DA K F' d x
abbrev FI:=En→Option (List PyData × ii × En)
def keeps(own:ii)(e:En):Prop:=∀p∈own,e[p.1]?=some (some (.l p.2))
def fI(K:PySem.W.Frag)(f:FI):TI:=fun σ H R=>∃F e items own e',bg K F H σ e∧f e=some (items,own,e')∧∀J F' H',dg σ F H e F' H' e'→bg K F' H' σ e'→keeps own e'→uh K σ J items own F'→R J H'
section
variable{K:PySem.W.Frag}{σ:L2.St}{H0 F H F' H':Hp}{e e':En}
theorem bg.held(R:bg K F H σ e){own:ii}(h:keeps own e):wx K σ F H own:=fun p hp=>by
  obtain⟨l,vs,h1,h2,h3,h4⟩:=R.own p.1 p.2 (h p hp)
  exact⟨l,vs,h1,h3,h4⟩
theorem bg.step(R:bg K F H σ e)(s:aA H H')(sF:aA F F')(sm:aA F' H')(fz:∀a,F a=none→H a≠none→F' a=none):bg K F' H' σ e∧dg σ F H e F' H' e:=by
  obtain⟨R',o'⟩:=R.keep sF sm (fun a ⟨i,h⟩=>by
    obtain⟨h1,vs,h2⟩:=R.fpAt h
    exact fz a h1 (by rw [h2];simp)) fun a o _ h=>s a o h
  exact⟨R',⟨sF,fun a h=>s.free h,fun a vs h1 h2 _=>fz a h1 (by rw [h2];simp),fun a vs h=>⟨vs,s _ _ h⟩,fun a o h _=>s a o h,fun _=>Iff.rfl,fun a h=>.inl ((o' a).mp h)⟩⟩
inductive qm (K:PySem.W.Frag) (σ:L2.St) (F:Hp) (p:Addr):Bool→List PyData→ii→Prop
  | tup {xs vs}:bR K F p vs→aP K F xs vs→qm K σ F p false xs []
  | lst {xs vs}:cP K F p vs→aP K F xs vs→qm K σ F p true xs []
  | own {i xs}:σ[i]?=some (some (.ref p))→qm K σ F p true xs [(i,xs)]
theorem qm.at{p:Addr}{b:Bool}{xs:List PyData}{own:ii}{F0:Hp}(h:qm K σ F0 p b xs own)(s0:aA F0 F)(s1:aA F H){own':ii}(hh:wx K σ F H own')(hs:∀q∈own,q∈own'):∃vs,aP K F xs vs∧(if b=true then cP K H p vs else bR K H p vs):=by
  cases h with
  | tup h1 h2=>exact⟨_,h2.mono s0,(s0.trans s1).tup h1⟩
  | lst h1 h2=>exact⟨_,h2.mono s0,(s0.trans s1).seq h1⟩
  | @own i xs h1=>
    obtain⟨l,vs,g1,g2,g3⟩:=hh (i,xs) (hs (i,xs) (by simp))
    dsimp only at g1 g3
    rw [h1] at g1;cases g1
    exact⟨vs,g3,.inl (.inl g2)⟩
def xw(e:En):Rv→Option (Bool × List PyData × ii)
  | .d (.tuple xs)=>some (false,xs,[])
  | .d (.list xs)=>some (true,xs,[])
  | .l xs=>some (true,xs,[])
  | .s i=>match e[i]? with
    | some (some (.l xs))=>some (true,xs,[(i,xs)])
    | _=>none
  | _=>none
theorem j2{r:Rv}{v:V}{b:Bool}{xs:List PyData}{own:ii}(R:bg K F H σ e)(A:cf K σ H0 F H e r v)(h:xw e r=some (b,xs,own)):
    ∃F' p,bg K F' H σ e∧aA F F'∧(∀a,F a=none→H0 a≠none→F' a=none)∧v=.ref p∧qm K σ F' p b xs own∧keeps own e:=by
  cases r with
  | d x=>
    cases x with
    | tuple ds=>
      cases h
      obtain⟨a,ys,e1,e2,e3⟩:=c9.mp A
      exact⟨F,a,R,aA.refl _,fun _ h _=>h,e1,.tup e2 e3,fun p hp=>by cases hp⟩
    | list ds=>
      cases h
      obtain⟨a,ys,e1,e2,e3⟩:=cz.mp A
      exact⟨F,a,R,aA.refl _,fun _ h _=>h,e1,.lst e2 e3,fun p hp=>by cases hp⟩
    | _=>cases h
  | l ys=>
    cases h
    obtain⟨F',R',s',d',f'⟩:=A.frozen R
    obtain⟨a,ys,e1,e2,e3⟩:=cz.mp d'
    exact⟨F',a,R',s',f',e1,.lst e2 e3,fun p hp=>by cases hp⟩
  | s i=>
    obtain⟨h1,ys,h2⟩:=A
    simp only [xw,h2] at h
    cases h
    obtain⟨l,vs,e1,e2,e3,e4⟩:=R.own i _ h2
    rw [h1] at e1;cases e1
    exact⟨F,l,R,aA.refl _,fun _ h _=>h,rfl,.own h1,fun p hp=>by simp only [List.mem_singleton] at hp;subst hp;exact h2⟩
theorem pT{p:Addr}{xs:List PyData}{own:ii}{F0:Hp}(h:qm K σ F0 p true xs own):uh K σ (G7 K p) xs own F0:=by
  intro F H s0 s1 hh
  obtain⟨vs,d,q⟩:=h.at s0 s1 hh fun _ h=>h
  have q:cP K H p vs:=q
  refine⟨fun i hi=>⟨vs,vs[i]'(by rw [←d.len];exact hi),q,List.getElem?_eq_getElem _⟩,fun i hi=>⟨vs,q,by rw [←d.len];exact hi⟩,fun i x v H' hx hy=>?_⟩
  obtain⟨rfl,hy⟩:=hy
  obtain⟨w,g1,g2⟩:=d.get hx
  have e:=hy vs q
  rw [g1] at e;cases e
  exact⟨F,aA.refl _,aA.refl _,s1,fun _ h _=>h,g2⟩
theorem yD{p:Addr}{xs:List PyData}{own:ii}{F0:Hp}(h:qm K σ F0 p false xs own):uh K σ (G8 K p) xs own F0:=by
  intro F H s0 s1 hh
  obtain⟨vs,d,q⟩:=h.at s0 s1 hh fun _ h=>h
  have q:bR K H p vs:=q
  refine⟨fun i hi=>⟨vs,vs[i]'(by rw [←d.len];exact hi),q,List.getElem?_eq_getElem _⟩,fun i hi=>⟨vs,q,by rw [←d.len];exact hi⟩,fun i x v H' hx hy=>?_⟩
  obtain⟨rfl,hy⟩:=hy
  obtain⟨w,g1,g2⟩:=d.get hx
  have e:=hy vs q
  rw [g1] at e;cases e
  exact⟨F,aA.refl _,aA.refl _,s1,fun _ h _=>h,g2⟩
theorem nX{p:Addr}{x y:V}{a b:PyData}(s1:aA F H)(hp:H p=none)(hx:DA K F a x)(hy:DA K F b y):∃F',aA H (a' H p (.tup [x,y]))∧aA F F'∧aA F' (a' H p (.tup [x,y]))∧(∀c,F c=none→H c≠none→F' c=none)∧DA K F' (.tuple [a,b]) (.ref p):=by
  have hF:F p=none:=s1.free hp
  have sF:aA F (a' F p (.tup [x,y])):=aA.new hF
  refine⟨a' F p (.tup [x,y]),aA.new hp,sF,fun b o q=>?_,fun c h n=>?_,c9.mpr ⟨p,_,rfl,.inl (.inl ar),.cons (DA.mono sF hx) (.one (DA.mono sF hy))⟩⟩
  · by_cases z:b=p
    · subst z;rw [ar] at q ⊢;exact q
    · rw [aw z] at q ⊢;exact s1 _ _ q
  · have z:c≠p:=fun z=>n (by rw [z];exact hp)
    rw [aw z];exact h
def gj:Nat→List PyData→List PyData
  | _,[]=>[]
  | n,x::r=>.tuple [.int n,x]::gj (n+1) r
theorem iE:∀{xs:List PyData} {n i:Nat},(gj n xs)[i]?=(xs[i]?).map fun x=>.tuple [.int ((n+i:Nat):Int),x]
  | [],n,i=>by simp [gj]
  | x::r,n,0=>by simp [gj]
  | x::r,n,i+1=>by
    simp only [gj,List.getElem?_cons_succ]
    rw [iE (xs:=r) (n:=n+1) (i:=i)]
    congr 1
    funext y
    rw [show n+1+i=n+(i+1) by lia]
theorem iF:∀(xs:List PyData) (n:Nat),(gj n xs).length=xs.length
  | [],_=>rfl
  | x::r,n=>by simp [gj,iF r (n+1)]
theorem uA{p:Addr}{xs:List PyData}{own:ii}{F0:Hp}(h:qm K σ F0 p true xs own):uh K σ (Da K p) (gj 0 xs) own F0:=by
  intro F H s0 s1 hh
  obtain⟨vs,d,q⟩:=h.at s0 s1 hh fun _ h=>h
  have q:cP K H p vs:=q
  rw [iF]
  refine⟨fun i hi=>⟨vs,vs[i]'(by rw [←d.len];exact hi),q,List.getElem?_eq_getElem _⟩,fun i hi=>⟨vs,q,by rw [←d.len];exact hi⟩,fun i x v H' hx hy=>?_⟩
  obtain⟨t,y,rfl,ht,rfl,hy⟩:=hy
  rw [iE] at hx
  obtain⟨x',hx2,rfl⟩:=Option.map_eq_some_iff.mp hx
  obtain⟨w,g1,g2⟩:=d.get hx2
  have e:=hy vs q
  rw [g1] at e;cases e
  exact nX s1 ht (bV.mpr (by simp)) g2
theorem uC{p:Addr}{xs:List PyData}{own:ii}{F0:Hp}(h:qm K σ F0 p false xs own):uh K σ (Dc K p) (gj 0 xs) own F0:=by
  intro F H s0 s1 hh
  obtain⟨vs,d,q⟩:=h.at s0 s1 hh fun _ h=>h
  have q:bR K H p vs:=q
  rw [iF]
  refine⟨fun i hi=>⟨vs,vs[i]'(by rw [←d.len];exact hi),q,List.getElem?_eq_getElem _⟩,fun i hi=>⟨vs,q,by rw [←d.len];exact hi⟩,fun i x v H' hx hy=>?_⟩
  obtain⟨t,y,rfl,ht,rfl,hy⟩:=hy
  rw [iE] at hx
  obtain⟨x',hx2,rfl⟩:=Option.map_eq_some_iff.mp hx
  obtain⟨w,g1,g2⟩:=d.get hx2
  have e:=hy vs q
  rw [g1] at e;cases e
  exact nX s1 ht (bV.mpr (by simp)) g2
def gR:List PyData→List PyData→List PyData
  | x::r,y::s=>.tuple [x,y]::gR r s
  | _,_=>[]
theorem oP:∀{xs ys:List PyData} {i:Nat} {d:PyData},(gR xs ys)[i]?=some d→∃x y,xs[i]?=some x∧ys[i]?=some y∧d=.tuple [x,y]
  | [],ys,i,d,h=>by simp [gR] at h
  | x::r,[],i,d,h=>by simp [gR] at h
  | x::r,y::s,0,d,h=>by
    simp only [gR,List.getElem?_cons_zero] at h
    cases h;exact⟨x,y,rfl,rfl,rfl⟩
  | x::r,y::s,i+1,d,h=>by
    simp only [gR,List.getElem?_cons_succ] at h
    obtain⟨a,b,h1,h2,h3⟩:=oP h
    exact⟨a,b,by simpa using h1,by simpa using h2,h3⟩
theorem jP:∀(xs ys:List PyData),(gR xs ys).length=min xs.length ys.length
  | [],ys=>by simp [gR]
  | x::r,[]=>by simp [gR]
  | x::r,y::s=>by simp [gR,jP r s]
theorem kW{P Q:Hp→Addr→List V→Prop}{J:It}{l1 l2:Addr}{b1 b2:Bool}{xs ys:List PyData}{own1 own2:ii}{F0:Hp}(h1:qm K σ F0 l1 b1 xs own1)(h2:qm K σ F0 l2 b2 ys own2)
    (hP:∀H vs,(if b1=true then cP K H l1 vs else bR K H l1 vs)→P H l1 vs)(hQ:∀H vs,(if b2=true then cP K H l2 vs else bR K H l2 vs)→Q H l2 vs)
    (go:∀i H vs us x y,P H l1 vs→Q H l2 us→vs[i]?=some x→us[i]?=some y→J.go i H)(stop:∀i H vs us,P H l1 vs→Q H l2 us→(vs.length≤i∨us.length≤i)→J.stop i H)
    (yld:∀i H v H',J.yld i H v H'→∃p x y,v=.ref p∧H p=none∧H'=a' H p (.tup [x,y])∧∀xs ys,P H l1 xs→Q H l2 ys→xs[i]?=some x∧ys[i]?=some y):
    uh K σ J (gR xs ys) (own1++own2) F0:=by
  intro F H s0 s1 hh
  obtain⟨vs,d1,q1⟩:=h1.at s0 s1 hh fun _ h=>List.mem_append.mpr (.inl h)
  obtain⟨us,d2,q2⟩:=h2.at s0 s1 hh fun _ h=>List.mem_append.mpr (.inr h)
  have q1:=hP H vs q1
  have q2:=hQ H us q2
  have l1':=d1.len
  have l2':=d2.len
  rw [jP]
  refine⟨fun i hi=>go i H vs us (vs[i]'(by lia)) (us[i]'(by lia)) q1 q2 (List.getElem?_eq_getElem _) (List.getElem?_eq_getElem _),fun i hi=>stop i H vs us q1 q2 (by lia),fun i x v H' hx hy=>?_⟩
  obtain⟨t,a,b,rfl,ht,rfl,hy3⟩:=yld i H v H' hy
  obtain⟨x',y',hx2,hy',rfl⟩:=oP hx
  obtain⟨w,g1,g2⟩:=d1.get hx2
  obtain⟨w',g3,g4⟩:=d2.get hy'
  obtain⟨e1,e2⟩:=hy3 vs us q1 q2
  rw [g1] at e1;cases e1
  rw [g3] at e2;cases e2
  exact nX s1 ht g2 g4
def bx(lo:Int)(n:Nat):List PyData:=(List.range n).map fun(i:Nat)=>.int (lo+(i:Int))
theorem uD{lo:Int}{n:Nat}{F0:Hp}:uh K σ (GS lo n) (bx lo n) [] F0:=by
  intro F H s0 s1 hh
  unfold bx
  rw [List.length_map,List.length_range]
  refine⟨fun i hi=>hi,fun i hi=>hi,fun i x v H' hx hy=>?_⟩
  obtain⟨rfl,rfl⟩:=hy
  rw [List.getElem?_map] at hx
  obtain⟨k,h1,rfl⟩:=Option.map_eq_some_iff.mp hx
  have h2:=(List.getElem?_eq_some_iff.mp h1).2
  simp at h2
  subst h2
  exact⟨F,aA.refl _,aA.refl _,s1,fun _ h _=>h,bV.mpr rfl⟩
end
inductive G6 (K:PySem.W.Frag) (own:ii) (σ0:L2.St) (F1:Hp) (P:En→Prop) (G:L2.St→Hp→Hp→En→Prop) (σ:L2.St) (H:Hp):Prop
  | mk {F:Hp} {e:En} (R:bg K F H σ e) (kp:keeps own e) (hσ:∀p∈own,σ[p.1]?=σ0[p.1]?) (sF:aA F1 F) (hf:P e) (q:G σ F H e):G6 K own σ0 F1 P G σ H
section
variable{X:Cx}{K:PySem.W.Frag}{tg a b:Expr}{es:List Expr}{fa:FE}{fs:FA}{pos p tp:Pos}{k0:Nat}
def kl(fa:FE):FI:=fun e=>(fa e).bind fun p=>(xw p.2 p.1).map fun s=>(s.2.1,s.2.2,p.2)
theorem iZ(hK:X.K=K)(h:PE X a (fE K fa)):PI X tg a (fI K (kl fa)):=((sZ (tg:=tg) hK h).or (BF (tg:=tg) hK h)).mono fun σ H R hh=>by
  obtain⟨F,e,items,own,e',R0,hf,q⟩:=hh
  unfold kl at hf
  obtain⟨⟨r,e1⟩,h1,hf⟩:=Option.bind_eq_some_iff.mp hf
  obtain⟨⟨b,xs,ow⟩,h2,hf⟩:=Option.map_eq_some_iff.mp hf
  cases hf
  cases b with
  | true=>
    refine .inl ⟨F,e,r,e1,R0,h1,fun F1 H1 v X1 R1 A1=>?_⟩
    obtain⟨F2,p,R2,s2,f2,rfl,sc,kp⟩:=j2 R1 A1 h2
    obtain⟨vs,_,c⟩:=sc.at (aA.refl _) R2.sm (R2.held kp) fun _ h=>h
    exact⟨p,rfl,⟨vs,c⟩,q _ F2 H1 (X1.frz s2 f2) R2 kp (pT sc)⟩
  | false=>
    refine .inr ⟨F,e,r,e1,R0,h1,fun F1 H1 v X1 R1 A1=>?_⟩
    obtain⟨F2,p,R2,s2,f2,rfl,sc,kp⟩:=j2 R1 A1 h2
    obtain⟨vs,_,c⟩:=sc.at (aA.refl _) R2.sm (R2.held kp) fun _ h=>h
    exact⟨p,rfl,⟨vs,c⟩,q _ F2 H1 (X1.frz s2 f2) R2 kp (yD sc)⟩
def vJ(fs:FA):FI:=fun e=>(fs e).bind fun p=>match p.1 with
  | [r]=>(xw p.2 r).map fun s=>(gj 0 s.2.1,s.2.2,p.2)
  | _=>none
theorem vY(hK:X.K=K)(hg:Gl X "enumerate")(hm:X.mg "enumerate"=none)(ha:PA X [a] (fA K fs))(hs:starEach [a] X.env=[(false,eval a X.env)]):PI X (.Tuple es k0 tp) (.Call (.Name "enumerate" p) [a] [] pos) (fI K (vJ fs)):=((zc (es:=es) (k0:=k0) (tp:=tp) hK hg hm ha hs).or (ze (es:=es) (k0:=k0) (tp:=tp) hK hg hm ha hs)).mono fun σ H R hh=>by
  obtain⟨F,e,items,own,e',R0,hf,q⟩:=hh
  unfold vJ at hf
  obtain⟨⟨rs,e1⟩,h1,hf⟩:=Option.bind_eq_some_iff.mp hf
  match rs,h1,hf with
  | [r],h1,hf=>
  obtain⟨⟨b,xs,ow⟩,h2,hf⟩:=Option.map_eq_some_iff.mp hf
  cases hf
  cases b with
  | true=>
    refine .inl ⟨F,e,_,e1,R0,h1,fun F1 H1 vs X1 R1 A1=>?_⟩
    obtain⟨v,rfl,A2⟩:=lp A1
    obtain⟨F2,p,R2,s2,f2,rfl,sc,kp⟩:=j2 R1 A2 h2
    obtain⟨vs,_,c⟩:=sc.at (aA.refl _) R2.sm (R2.held kp) fun _ h=>h
    exact⟨p,rfl,⟨vs,c⟩,q _ F2 H1 (X1.frz s2 f2) R2 kp (uA sc)⟩
  | false=>
    refine .inr ⟨F,e,_,e1,R0,h1,fun F1 H1 vs X1 R1 A1=>?_⟩
    obtain⟨v,rfl,A2⟩:=lp A1
    obtain⟨F2,p,R2,s2,f2,rfl,sc,kp⟩:=j2 R1 A2 h2
    obtain⟨vs,_,c⟩:=sc.at (aA.refl _) R2.sm (R2.held kp) fun _ h=>h
    exact⟨p,rfl,⟨vs,c⟩,q _ F2 H1 (X1.frz s2 f2) R2 kp (uC sc)⟩
def yz(fs:FA):FI:=fun e=>(fs e).bind fun p=>match p.1 with
  | [r,t]=>(xw p.2 r).bind fun s=>(xw p.2 t).map fun u=>(gR s.2.1 u.2.1,s.2.2++u.2.2,p.2)
  | _=>none
theorem qm.mono{σ:L2.St}{F F':Hp}{p:Addr}{b:Bool}{xs:List PyData}{own:ii}(h:qm K σ F p b xs own)(s:aA F F'):qm K σ F' p b xs own:=by
  cases h with
  | tup h1 h2=>exact .tup (s.tup h1) (h2.mono s)
  | lst h1 h2=>exact .lst (s.seq h1) (h2.mono s)
  | own h1=>exact .own h1
theorem Et(hK:X.K=K)(hg:Gl X "zip")(hm:X.mg "zip"=none)(ha:PA X [a,b] (fA K fs))(hs:starEach [a,b] X.env=[(false,eval a X.env),(false,eval b X.env)])(hs2:starEach [b] X.env=[(false,eval b X.env)]):PI X (.Tuple es k0 tp) (.Call (.Name "zip" p) [a,b] [] pos) (fI K (yz fs)):=
    (((Ee (es:=es) (k0:=k0) (tp:=tp) hK hg hm ha hs hs2).or (zh (es:=es) (k0:=k0) (tp:=tp) hK hg hm ha hs hs2)).or ((zi (es:=es) (k0:=k0) (tp:=tp) hK hg hm ha hs hs2).or (zg (es:=es) (k0:=k0) (tp:=tp) hK hg hm ha hs hs2))).mono fun σ H R hh=>by
  obtain⟨F,e,items,own,e',R0,hf,q⟩:=hh
  unfold yz at hf
  obtain⟨⟨rs,e1⟩,h1,hf⟩:=Option.bind_eq_some_iff.mp hf
  match rs,h1,hf with
  | [r,t],h1,hf=>
  obtain⟨⟨b,xs,ow⟩,h2,hf⟩:=Option.bind_eq_some_iff.mp hf
  obtain⟨⟨b',ys,ow'⟩,h3,hf⟩:=Option.map_eq_some_iff.mp hf
  cases hf
  have key:∀F1 H1 vs,dg σ F H e F1 H1 e1→bg K F1 H1 σ e1→cO K σ H F1 H1 e1 [r,t] vs→∃p p' F2,vs=[.ref p,.ref p']∧dg σ F H e F2 H1 e1∧bg K F2 H1 σ e1∧qm K σ F2 p b xs ow∧qm K σ F2 p' b' ys ow'∧keeps (ow++ow') e1:=by
    intro F1 H1 vs X1 R1 A1
    obtain⟨v,u,rfl,a1,a2⟩:=rN A1
    obtain⟨F2,p,R2,s2,f2,rfl,sc,kp⟩:=j2 R1 a1 h2
    have X2:=X1.frz s2 f2
    have a2':cf K σ H F2 H1 e1 t u∨∃zs,t=.l zs∧DA K F2 (.list zs) u:=by
      cases t with
      | d x=>exact .inl (DA.mono s2 a2)
      | s i=>exact .inl a2
      | l zs=>
        obtain⟨l,ws,rfl,g1,g2,g3,g4,g5⟩:=a2
        cases hl:F2 l with
        | none=>exact .inl ⟨l,ws,rfl,g1,hl,g3,aP.mono s2 g4,g5⟩
        | some o=>
          have:=R2.sm _ _ hl
          rw [g3] at this;cases this
          exact .inr ⟨zs,rfl,cz.mpr ⟨l,ws,rfl,.inl (.inl hl),aP.mono s2 g4⟩⟩
    rcases a2' with a2' | ⟨zs,rfl,d2⟩
    · obtain⟨F3,p',R3,s3,f3,rfl,sc',kp'⟩:=j2 R2 a2' h3
      exact⟨p,p',F3,rfl,X2.frz s3 f3,R3,sc.mono s3,sc',fun z hz=>(List.mem_append.mp hz).elim (kp z) (kp' z)⟩
    · cases h3
      obtain⟨p',ws,rfl,g1,g2⟩:=cz.mp d2
      exact⟨p,p',F2,rfl,X2,R2,sc,.lst g1 g2,fun z hz=>(List.mem_append.mp hz).elim (kp z) fun h=>by cases h⟩
  have fin:∀{F2 H1:Hp} {p p':Addr},bg K F2 H1 σ e1→qm K σ F2 p b xs ow→qm K σ F2 p' b' ys ow'→keeps (ow++ow') e1→(∃vs,if b=true then cP K H1 p vs else bR K H1 p vs)∧(∃vs,if b'=true then cP K H1 p' vs else bR K H1 p' vs):=by
    intro F2 H1 p p' R2 s1 s2 kp
    obtain⟨vs,_,c⟩:=s1.at (aA.refl _) R2.sm (R2.held kp) fun _ h=>List.mem_append.mpr (.inl h)
    obtain⟨us,_,c'⟩:=s2.at (aA.refl _) R2.sm (R2.held kp) fun _ h=>List.mem_append.mpr (.inr h)
    exact⟨⟨vs,c⟩,⟨us,c'⟩⟩
  cases b with
  | false=>cases b' with
    | false=>
      refine .inl (.inl ⟨F,e,_,e1,R0,h1,fun F1 H1 vs X1 R1 A1=>?_⟩)
      obtain⟨p,p',F2,rfl,X2,R2,s1,s2,kp⟩:=key F1 H1 vs X1 R1 A1
      obtain⟨c1,c2⟩:=fin R2 s1 s2 kp
      exact⟨p,p',rfl,c1,c2,q _ F2 H1 X2 R2 kp (kW (P:=bR K) (Q:=bR K) s1 s2 (fun _ _ h=>h) (fun _ _ h=>h) (fun i H vs us x y h1 h2 h3 h4=>⟨vs,us,x,y,h1,h2,h3,h4⟩) (fun i H vs us h1 h2 h3=>⟨vs,us,h1,h2,h3⟩) fun i H v H' h=>h)⟩
    | true=>
      refine .inr (.inl ⟨F,e,_,e1,R0,h1,fun F1 H1 vs X1 R1 A1=>?_⟩)
      obtain⟨p,p',F2,rfl,X2,R2,s1,s2,kp⟩:=key F1 H1 vs X1 R1 A1
      obtain⟨c1,c2⟩:=fin R2 s1 s2 kp
      exact⟨p,p',rfl,c1,c2,q _ F2 H1 X2 R2 kp (kW (P:=bR K) (Q:=cP K) s1 s2 (fun _ _ h=>h) (fun _ _ h=>h) (fun i H vs us x y h1 h2 h3 h4=>⟨vs,us,x,y,h1,h2,h3,h4⟩) (fun i H vs us h1 h2 h3=>⟨vs,us,h1,h2,h3⟩) fun i H v H' h=>h)⟩
  | true=>cases b' with
    | false=>
      refine .inl (.inr ⟨F,e,_,e1,R0,h1,fun F1 H1 vs X1 R1 A1=>?_⟩)
      obtain⟨p,p',F2,rfl,X2,R2,s1,s2,kp⟩:=key F1 H1 vs X1 R1 A1
      obtain⟨c1,c2⟩:=fin R2 s1 s2 kp
      exact⟨p,p',rfl,c1,c2,q _ F2 H1 X2 R2 kp (kW (P:=cP K) (Q:=bR K) s1 s2 (fun _ _ h=>h) (fun _ _ h=>h) (fun i H vs us x y h1 h2 h3 h4=>⟨vs,us,x,y,h1,h2,h3,h4⟩) (fun i H vs us h1 h2 h3=>⟨vs,us,h1,h2,h3⟩) fun i H v H' h=>h)⟩
    | true=>
      refine .inr (.inr ⟨F,e,_,e1,R0,h1,fun F1 H1 vs X1 R1 A1=>?_⟩)
      obtain⟨p,p',F2,rfl,X2,R2,s1,s2,kp⟩:=key F1 H1 vs X1 R1 A1
      obtain⟨c1,c2⟩:=fin R2 s1 s2 kp
      exact⟨p,p',rfl,c1,c2,q _ F2 H1 X2 R2 kp (kW (P:=cP K) (Q:=cP K) s1 s2 (fun _ _ h=>h) (fun _ _ h=>h) (fun i H vs us x y h1 h2 h3 h4=>⟨vs,us,x,y,h1,h2,h3,h4⟩) (fun i H vs us h1 h2 h3=>⟨vs,us,h1,h2,h3⟩) fun i H v H' h=>h)⟩
def zM(j:Int):Bool:=decide (-1000000≤j)&&decide (j≤1000000)
theorem zN{j:Int}(h:zM j=true): -1000000≤j∧j≤1000000:=by
  unfold zM at h
  rw [Bool.and_eq_true,decide_eq_true_iff,decide_eq_true_iff] at h
  exact h
def dP(fs:FA):FI:=fun e=>(fs e).bind fun p=>match p.1 with
  | [r]=>(bM r).bind fun j=>if zM j=true then some (bx 0 j.toNat,[],p.2) else none
  | _=>none
theorem eu(hg:Gl X "range")(hm:X.mg "range"=none)(ha:PA X [a] (fA K fs))(hs:starEach [a] X.env=[(false,eval a X.env)]):PI X tg (.Call (.Name "range" p) [a] [] pos) (fI K (dP fs)):=(xi hg hm ha hs).mono fun σ H R hh=>by
  obtain⟨F,e,items,own,e',R0,hf,q⟩:=hh
  unfold dP at hf
  obtain⟨⟨rs,e1⟩,h1,hf⟩:=Option.bind_eq_some_iff.mp hf
  match rs,h1,hf with
  | [r],h1,hf=>
  obtain⟨j,h2,hf⟩:=Option.bind_eq_some_iff.mp hf
  split at hf
  case isFalse=>cases hf
  case isTrue hj=>
  cases hf
  refine⟨F,e,_,e1,R0,h1,fun F1 H1 vs X1 R1 A1=>?_⟩
  obtain⟨v,rfl,A2⟩:=lp A1
  have:=zN hj
  exact⟨j,by rw [cq A2 h2],by lia,by lia,q _ F1 H1 X1 R1 (fun _ h=>by cases h) uD⟩
open Classical in
noncomputable def kj(own:ii)(g:FG)(f:FS):List PyData→FS
  | [],e=>some (.nx e)
  | x::r,e=>(g x e).bind fun e1=>(f e1).bind fun fl=>match fl with
    | .nx e2=>if keeps own e2 then kj own g f r e2 else none
    | .ct e2=>if keeps own e2 then kj own g f r e2 else none
    | .bk e2=>some (.nx e2)
    | .rt v e2=>some (.rt v e2)
noncomputable def ef(W:List Nat)(fi:FI)(g:FG)(f:FS):FS:=fun e=>(fi e).bind fun p=>if (p.2.1.all fun q=> !W.contains q.1)=true then kj p.2.1 g f p.1 p.2.2 else none
theorem io{W1 W2:List Nat}{iter:Expr}{body:List Stmt}{fi:FI}{g:FG}{f:FS}(hp:PassesOwn (model X.prog X.w) X.A X.env X.xe)(hc:X.calm=true)(hi:PI X tg iter (fI K fi))(hg:PG X tg (fG K g W1))(hb:mQ X body (fS K f W2))(hs:∀x,foldedSetIterable iter X.env x=pure x):
    PS X (.For tg iter body [] pos) (fS K (ef (W1++W2) fi g f) (W1++W2)):=(Ef hp hc hi hg hb hs).mono fun D σ0 H0 hh=>by
  obtain⟨F0,e0,fl,R0,hf,q0⟩:=hh
  unfold ef at hf
  obtain⟨⟨items,own,e1⟩,h1,hf⟩:=Option.bind_eq_some_iff.mp hf
  dsimp only at hf
  split at hf
  case isFalse=>cases hf
  case isTrue hW=>
  have hW':∀p∈own,p.1∉W1++W2:=fun p hp=>by
    have:=List.all_eq_true.mp hW p hp
    simpa using this
  refine⟨F0,e0,items,own,e1,R0,h1,fun J F1 H1 X1 R1 kp ok=>?_⟩
  have s1:∀j,j∈W1→j∈W1++W2:=fun j h=>List.mem_append.mpr (.inl h)
  have s2:∀j,j∈W2→j∈W1++W2:=fun j h=>List.mem_append.mpr (.inr h)
  have q1:nI K (W1++W2) σ0 F1 H1 e1 D fl:=q0.later (W1:=[]) X1.s (fun j h=>by cases h) fun j h=>h
  refine⟨fun i m σ H=>m=items.length - i∧i≤items.length∧G6 K own σ0 F1 (fun e=>kj own g f (items.drop i) e=some fl) (fun σ F H e=>nI K (W1++W2) σ F H e D fl) σ H,
    ⟨items.length,by simp,Nat.zero_le _,.mk R1 kp (fun _ _=>rfl) (aA.refl _) hf q1⟩,?_⟩
  rintro i m σ H ⟨rfl,hi,⟨R,kp,hσ,sF,hf,q⟩⟩
  rename_i F e
  have held:wx K σ0 F H own:=fun p hp=>by
    obtain⟨l,vs,g1,g2⟩:=R.held kp p hp
    exact⟨l,vs,by rw [←hσ p hp];exact g1,g2⟩
  obtain⟨go,stop,yld⟩:=ok F H sF R.sm held
  by_cases hlt:i < items.length
  · have hd:items.drop i=items[i]::items.drop (i+1):=List.drop_eq_getElem_cons hlt
    rw [hd] at hf
    unfold kj at hf
    obtain⟨e2,h2,hf⟩:=Option.bind_eq_some_iff.mp hf
    obtain⟨fl2,h3,hf⟩:=Option.bind_eq_some_iff.mp hf
    refine .inr ⟨go i hlt,G6 K own σ0 F1 (fun e=>kj own g f (items.drop (i+1)) e=some fl) (fun σ F H e=>nI K (W1++W2) σ F H e D fl),
      fun σ' H' r=>⟨items.length - (i+1),by lia,rfl,hlt,r⟩,fun x H' hy=>?_⟩
    obtain⟨F',sH,sF',sm',fz,hx⟩:=yld i items[i] x H' (List.getElem?_eq_getElem hlt) hy
    obtain⟨R',X'⟩:=R.step sH sF' sm' fz
    refine⟨F',e,items[i],e2,R',hx,h2,fun σ2 x2 R2=>⟨F',e2,fl2,R2,h3,?_⟩⟩
    have q2:nI K (W1++W2) σ2 F' H' e2 D fl:=(q.later (W1:=[]) (W2:=W1++W2) X'.s (fun j h=>by cases h) fun j h=>h).later x2 s1 fun j h=>h
    have w2:∀p∈own,σ2[p.1]?=σ0[p.1]?:=fun p hp=>(x2.wr p.1 fun z=>hW' p hp (s1 _ z)).trans (hσ p hp)
    cases fl2 with
    | nx e3=>
      intro F3 H3 σ3 x3 R3
      dsimp only at hf
      split at hf
      case isFalse=>cases hf
      case isTrue kp3=>
      exact .mk R3 kp3 (fun p hp=>(x3.wr p.1 fun z=>hW' p hp (s2 _ z)).trans (w2 p hp)) (sF.trans (sF'.trans x3.sf)) hf (q2.later x3 s2 fun j h=>h)
    | ct e3=>
      intro F3 H3 σ3 x3 R3
      dsimp only at hf
      split at hf
      case isFalse=>cases hf
      case isTrue kp3=>
      exact .mk R3 kp3 (fun p hp=>(x3.wr p.1 fun z=>hW' p hp (s2 _ z)).trans (w2 p hp)) (sF.trans (sF'.trans x3.sf)) hf (q2.later x3 s2 fun j h=>h)
    | bk e3=>
      cases hf
      exact fun F3 H3 σ3 x3 R3=>q2 F3 H3 σ3 (x3.mono s2) R3
    | rt r e3=>
      cases hf
      exact fun F3 H3 σ3 v x3 R3 A3=>q2 F3 H3 σ3 v (x3.mono s2) R3 A3
  · have hd:items.drop i=[]:=List.drop_eq_nil_of_le (by lia)
    rw [hd] at hf
    cases hf
    exact .inl ⟨stop i (by lia),q F H σ cZ.refl R⟩
end
end L2
namespace L2
open PySem PySem.Spec PyProof.Rows
def yB:Option (Option Sv)→Bool
  | some (some (.l _))=>true
  | _=>false
theorem vM{s:Option (Option Sv)}:yB s=true↔ ∃xs,s=some (some (.l xs)):=by
  unfold yB
  split
  · simp
  · rename_i h
    constructor
    · intro z;cases z
    · rintro⟨xs,rfl⟩;exact absurd rfl (h xs)
def lE(pos:Nat→Option Nat)(ei e:En):En:=e.mapIdx fun i s=>match s with
  | some (.l xs)=>match pos i with
    | some k=>(ei[k]?).join
    | none=>some (.l xs)
  | s=>s
theorem cv{pos:Nat→Option Nat}{ei e:En}{i:Nat}:(lE pos ei e)[i]?=(e[i]?).map fun s=>match s with
  | some (.l xs)=>match pos i with
    | some k=>(ei[k]?).join
    | none=>some (.l xs)
  | s=>s:=by unfold lE;rw [List.getElem?_mapIdx]
structure rY (σ:L2.St) (e:En) (σi:L2.St) (ei:En) (pos:Nat→Option Nat):Prop where
  a:∀(i k:Nat) (xs:List PyData),e[i]?=some (some (.l xs))→pos i=some k→σi[k]?=σ[i]?
  b:∀(k:Nat) (ys:List PyData),ei[k]?=some (some (.l ys))→∃(i:Nat) (xs:List PyData),e[i]?=some (some (.l xs))∧pos i=some k∧σi[k]?=σ[i]?
section
variable{K:PySem.W.Frag}{σ σi σi':L2.St}{F H F' H':Hp}{e ei ei':En}{pos:Nat→Option Nat}
def Fc(e:En):Prop:=∀(i:Nat) (xss:List (List PyData)),e[i]?≠some (some (.n xss))
theorem rY.own(s:rY σ e σi ei pos)(hn:Fc ei){a:Addr}{H H':Hp}(h:cL σi ei H a):∃(i k:Nat) (xs:List PyData),e[i]?=some (some (.l xs))∧pos i=some k∧σ[i]?=some (some (.ref a)):=by
  obtain⟨k,⟨ys,h1,h2⟩ | ⟨xss,_,_,h1,_⟩⟩:=h
  · obtain⟨i,xs,g1,g2,g3⟩:=s.b k ys h1
    exact⟨i,k,xs,g1,g2,by rw [←g3];exact h2⟩
  · exact absurd h1 (hn k xss)
theorem oK(R:bg K F H σ e)(s:rY σ e σi ei pos)(hnn:Fc ei)(sf:aA F F')(dom:∀a,H' a=none→H a=none)(fr:∀a vs,F a=none→H a=some (.lst vs)→¬cL σi ei H a→F' a=none)(lst:∀a vs,H a=some (.lst vs)→∃vs',H' a=some (.lst vs'))
    (tmp:∀a o,H a=some o→¬cL σi ei H a→H' a=some o)(R':bg K F' H' σi' ei')(hσ:∀(i k:Nat) (xs:List PyData),e[i]?=some (some (.l xs))→pos i=some k→σi'[k]?=σi[k]?)(hsh:∀(i k:Nat) (xs:List PyData),e[i]?=some (some (.l xs))→pos i=some k→∃ys,ei'[k]?=some (some (.l ys))):
    bg K F' H' σ (lE pos ei' e)∧dg σ F H e F' H' (lE pos ei' e)∧∀a,cL σ (lE pos ei' e) H' a→cL σ e H a:=by
  have shp:∀i:Nat,(∃xs,(lE pos ei' e)[i]?=some (some (.l xs)))↔ (∃xs,e[i]?=some (some (.l xs))):=by
    intro i
    rw [cv]
    match h:e[i]? with
    | none=>simp
    | some none=>simp
    | some (some (.d x))=>simp
    | some (some (.n x))=>simp
    | some (some (.l xs))=>
      simp only [Option.map_some]
      constructor
      · intro _;exact⟨xs,rfl⟩
      · intro _
        match hp:pos i with
        | none=>exact⟨xs,rfl⟩
        | some k=>
          obtain⟨ys,g⟩:=hsh i k xs h hp
          exact⟨ys,by show some ((ei'[k]?).join)=_;rw [g];rfl⟩
  have oth:∀(i:Nat) (s:Sv),(∀xs,s≠.l xs)→((lE pos ei' e)[i]?=some (some s)↔ e[i]?=some (some s)):=by
    intro i s hs
    constructor
    · intro h
      rw [cv] at h
      match h1:e[i]?,h with
      | some (some (.d y)),h=>exact h
      | some (some (.n y)),h=>exact h
      | some (some (.l ys)),h=>
        simp only [Option.map_some,Option.some.injEq] at h
        match hp:pos i,h with
        | none,h=>cases h;exact absurd rfl (hs _)
        | some k,h=>
          obtain⟨zs,g⟩:=hsh i k ys h1 hp
          change (ei'[k]?).join=_ at h
          rw [g] at h;cases h;exact absurd rfl (hs _)
      | some none,h=>simp at h
      | none,h=>simp at h
    · intro h
      rw [cv,h]
      cases s with
      | d y=>rfl
      | n y=>rfl
      | l y=>exact absurd rfl (hs y)
  have out:∀i a,Fp σ e H i a→(∀k xs,e[i]?=some (some (.l xs))→pos i≠some k)→¬cL σi ei H a:=by
    intro i a hi hp z
    obtain⟨j,k,ws,d1,d2,d3⟩:=s.own hnn (H':=H') z
    have:i=j:=R.fp i j a hi (.inl ⟨ws,d1,d3⟩)
    subst this
    exact hp k ws d1 d2
  have keep:∀i a o,Fp σ e H i a→(∀k xs,e[i]?=some (some (.l xs))→pos i≠some k)→H a=some o→H' a=some o:=fun i a o hi hp ha=>tmp a o ha (out i a hi hp)
  have sown:∀a,cL σi ei H a→cL σ e H a:=fun a z=>by
    obtain⟨j,k,ws,d1,d2,d3⟩:=s.own hnn (H':=H') z
    exact⟨j,.inl ⟨ws,d1,d3⟩⟩
  have fs:∀i a,Fp σ (lE pos ei' e) H' i a↔ Fp σ e H i a:=by
    intro i a
    have key:∀xss l,e[i]?=some (some (.n xss))→σ[i]?=some (some (.ref l))→H' l=H l:=fun xss l h1 h2=>by
      obtain⟨l',bs,g1,g2,g3,_⟩:=R.nst i xss h1
      rw [h2] at g1;cases g1
      rw [g3]
      exact keep i l _ (.inr ⟨xss,l,bs,h1,h2,g3,.inl rfl⟩) (fun k xs z=>by rw [h1] at z;cases z) g3
    constructor
    · rintro(⟨xs,h1,h2⟩ | ⟨xss,l,bs,h1,h2,h3,h4⟩)
      · obtain⟨ys,h⟩:=(shp i).mp ⟨xs,h1⟩
        exact .inl ⟨ys,h,h2⟩
      · have h1':=(oth i (.n xss) (fun _ z=>nomatch z)).mp h1
        exact .inr ⟨xss,l,bs,h1',h2,by rw [←key xss l h1' h2];exact h3,h4⟩
    · rintro(⟨xs,h1,h2⟩ | ⟨xss,l,bs,h1,h2,h3,h4⟩)
      · obtain⟨ys,h⟩:=(shp i).mpr ⟨xs,h1⟩
        exact .inl ⟨ys,h,h2⟩
      · exact .inr ⟨xss,l,bs,(oth i (.n xss) (fun _ z=>nomatch z)).mpr h1,h2,by rw [key xss l h1 h2];exact h3,h4⟩
  refine⟨⟨R'.sm,?_,fun i x h=>?_,fun i xs h=>?_,fun i xss h=>?_,fun i j a h1 h2=>R.fp i j a ((fs i a).mp h1) ((fs j a).mp h2)⟩,⟨sf,dom,fun a vs h1 h2 n=>fr a vs h1 h2 fun z=>n (sown a z),lst,fun a o h n=>tmp a o h fun z=>n (sown a z),shp,fun a ⟨i,h⟩=>.inl ⟨i,(fs i a).mp h⟩⟩,fun a ⟨i,h⟩=>⟨i,(fs i a).mp h⟩⟩
  · unfold lE;rw [List.length_mapIdx];exact R.len
  · obtain⟨v,g1,g2⟩:=R.dat i x ((oth i (.d x) (fun _ z=>nomatch z)).mp h)
    exact⟨v,g1,DA.mono sf g2⟩
  · obtain⟨ys,h1⟩:=(shp i).mp ⟨xs,h⟩
    obtain⟨l,vs,g1,g2,g3,g4⟩:=R.own i ys h1
    rw [cv,h1] at h
    simp only [Option.map_some,Option.some.injEq] at h
    match hp:pos i,h with
    | none,h=>
      cases h
      have np:∀k xs,e[i]?=some (some (Sv.l xs))→pos i≠some k:=fun k xs _ z=>by rw [hp] at z;cases z
      have fi:Fp σ e H i l:=.inl ⟨_,h1,g1⟩
      exact⟨l,vs,g1,fr l vs g2 g3 (out i l fi np),keep i l _ fi np g3,g4.mono sf⟩
    | some k,h=>
      obtain⟨zs,c1⟩:=hsh i k ys h1 hp
      change (ei'[k]?).join=_ at h
      rw [c1] at h;cases h
      obtain⟨l',vs',d1,d2,d3,d4⟩:=R'.own k _ c1
      rw [hσ i k ys h1 hp,s.a i k ys h1 hp] at d1
      exact⟨l',vs',d1,d2,d3,d4⟩
  · have h1:=(oth i (.n xss) (fun _ z=>nomatch z)).mp h
    obtain⟨l,bs,g1,g2,g3,g4,g5,g6,g7⟩:=R.nst i xss h1
    have np:∀k xs,e[i]?=some (some (Sv.l xs))→pos i≠some k:=fun k xs z=>by rw [h1] at z;cases z
    have fi:Fp σ e H i l:=.inr ⟨xss,l,bs,h1,g1,g3,.inl rfl⟩
    refine⟨l,bs,g1,fr l _ g2 g3 (out i l fi np),keep i l _ fi np g3,g4,g5,g6,fun k b ys q1 q2=>?_⟩
    obtain⟨c1,us,c2,c3⟩:=g7 k b ys q1 q2
    have fb:Fp σ e H i b:=.inr ⟨xss,l,bs,h1,g1,g3,.inr (List.mem_of_getElem? q1)⟩
    exact⟨fr b _ c1 c2 (out i b fb np),us,keep i b _ fb np c2,c3.mono sf⟩
end
def bT(e:En):List Rv→Option (List Sv)
  | []=>some []
  | .d x::r=>(bT e r).map (.d x::·)
  | .l xs::r=>(bT e r).map (.d (.list xs)::·)
  | .s i::r=>match e[i]? with
    | some (some (.l xs))=>(bT e r).map (.l xs::·)
    | _=>none
def aJ:List Rv→List Nat
  | []=>[]
  | .s i::r=>i::aJ r
  | .d _::r=>aJ r
  | .l _::r=>aJ r
def kx(rs:List Rv)(i:Nat):Option Nat:=rs.findIdx? fun r=>match r with
  | .s j=>j==i
  | _=>false
def noS:Rv→Prop
  | .s _=>False
  | _=>True
abbrev FM:=List Sv→Option (Rv × List Sv)
def bP(K:PySem.W.Frag)(n:Nat)(m:FM):Sp:=fun vs H Q _=>vs.length=n∧∃F as r as',bg K F H (vs.map some) (as.map some)∧Fc (as.map some)∧m as=some (r,as')∧noS r∧
  ∀F' H' v,dg (vs.map some) F H (as.map some) F' H' (as'.map some)→bg K F' H' (vs.map some) (as'.map some)→cf K (vs.map some) H F' H' (as'.map some) r v→Q v H'
def bi:List Rv→List Sv→Bool
  | [],[]=>true
  | .s _::r,.l _::s=>bi r s
  | .d _::r,_::s=>bi r s
  | .l _::r,_::s=>bi r s
  | _,_=>false
def rh:Rv→Bool
  | .s _=>false
  | _=>true
def dh:List Rv→List Sv→En→En
  | .s i::r,.l ys::s,e=>dh r s (e.set i (some (.l ys)))
  | .d _::r,_::s,e=>dh r s e
  | .l _::r,_::s,e=>dh r s e
  | _,_,e=>e
def ce(n:Nat)(m:FM)(fs:FA):FE:=fun e=>(fs e).bind fun p=>(bT p.2 p.1).bind fun as=>(m as).bind fun z=>if p.1.length=n∧(aJ p.1).Nodup∧bi p.1 z.2=true∧rh z.1=true then some (z.1,dh p.1 z.2 p.2) else none
theorem iX:∀{rs:List Rv} {as:List Sv},bi rs as=true→∀(k i:Nat),rs[k]?=some (.s i)→∃ys,as[k]?=some (.l ys)
  | [],[],_,k,i,h=>by simp at h
  | .s j::r,.l ys::s,h,k,i,hk=>by
    cases k with
    | zero=>exact⟨ys,rfl⟩
    | succ k=>simpa using iX (rs:=r) (as:=s) (by simpa [bi] using h) k i (by simpa using hk)
  | .d x::r,y::s,h,k,i,hk=>by
    cases k with
    | zero=>simp at hk
    | succ k=>simpa using iX (rs:=r) (as:=s) (by simpa [bi] using h) k i (by simpa using hk)
  | .l x::r,y::s,h,k,i,hk=>by
    cases k with
    | zero=>simp at hk
    | succ k=>simpa using iX (rs:=r) (as:=s) (by simpa [bi] using h) k i (by simpa using hk)
  | .s _::_,.d _::_,h,_,_,_=>by simp [bi] at h
  | .s _::_,[],h,_,_,_=>by simp [bi] at h
  | .d _::_,[],h,_,_,_=>by simp [bi] at h
  | .l _::_,[],h,_,_,_=>by simp [bi] at h
theorem l5{r0:Rv}{rs:List Rv}{i:Nat}:kx (r0::rs) i=if (match r0 with | .s j=>j==i | _=>false)=true then some 0 else(kx rs i).map (· +1):=by
  unfold kx;rw [List.findIdx?_cons]
theorem l6{rs:List Rv}{i k:Nat}(h:kx rs i=some k):rs[k]?=some (.s i):=by
  unfold kx at h
  rw [List.findIdx?_eq_some_iff_getElem] at h
  obtain⟨hk,h1,_⟩:=h
  rw [List.getElem?_eq_getElem hk]
  split at h1
  · rename_i heq
    rw [heq]
    have:=eq_of_beq h1
    rw [this]
  · cases h1
theorem fW:∀{rs:List Rv} {i:Nat},i∈aJ rs↔ Rv.s i∈rs
  | [],i=>by simp [aJ]
  | .s j::r,i=>by simp [aJ,fW (rs:=r)]
  | .d x::r,i=>by simp [aJ,fW (rs:=r)]
  | .l x::r,i=>by simp [aJ,fW (rs:=r)]
theorem gL:∀{rs:List Rv} {i k j:Nat},(aJ rs).Nodup→rs[k]?=some (.s i)→rs[j]?=some (.s i)→k=j
  | [],i,k,j,_,h,_=>by simp at h
  | .s m::r,i,k,j,hn,h1,h2=>by
    simp only [aJ,List.nodup_cons] at hn
    cases k with
    | zero=>
      simp at h1;subst h1
      cases j with
      | zero=>rfl
      | succ j=>exact absurd (fW.mpr (List.mem_of_getElem? (by simpa using h2))) hn.1
    | succ k=>
      cases j with
      | zero=>
        simp at h2;subst h2
        exact absurd (fW.mpr (List.mem_of_getElem? (by simpa using h1))) hn.1
      | succ j=>
        have:=gL (rs:=r) (i:=i) (k:=k) (j:=j) hn.2 (by simpa using h1) (by simpa using h2)
        lia
  | .d x::r,i,k,j,hn,h1,h2=>by
    cases k with
    | zero=>simp at h1
    | succ k=>
      cases j with
      | zero=>simp at h2
      | succ j=>
        have:=gL (rs:=r) (i:=i) (k:=k) (j:=j) (by simpa [aJ] using hn) (by simpa using h1) (by simpa using h2)
        lia
  | .l x::r,i,k,j,hn,h1,h2=>by
    cases k with
    | zero=>simp at h1
    | succ k=>
      cases j with
      | zero=>simp at h2
      | succ j=>
        have:=gL (rs:=r) (i:=i) (k:=k) (j:=j) (by simpa [aJ] using hn) (by simpa using h1) (by simpa using h2)
        lia
theorem zo{rs:List Rv}{i:Nat}(h:i∉aJ rs):kx rs i=none:=by
  unfold kx
  rw [List.findIdx?_eq_none_iff]
  intro r hr
  cases r with
  | d x=>rfl
  | l x=>rfl
  | s j=>
    have:j≠i:=fun z=>h (by rw [←z];exact fW.mpr hr)
    simpa using this
theorem m6:∀{rs:List Rv} {as:List Sv} {e:En},(aJ rs).Nodup→bi rs as=true→(∀j∈aJ rs,∃xs,e[j]?=some (some (.l xs)))→dh rs as e=lE (kx rs) (as.map some) e
  | [],[],e,_,_,_=>by
    refine List.ext_getElem? fun i=>?_
    rw [cv]
    have:kx [] i=none:=rfl
    rw [this]
    simp only [dh]
    match e[i]? with
    | none=>rfl
    | some none=>rfl
    | some (some (.d x))=>rfl
    | some (some (.l x))=>rfl
    | some (some (.n x))=>rfl
  | .d x::r,y::s,e,hn,hl,hs=>by
    rw [show dh (.d x::r) (y::s) e=dh r s e from rfl,m6 (by simpa [aJ] using hn) (by simpa [bi] using hl) (fun j hj=>hs j (by simpa [aJ] using hj))]
    refine List.ext_getElem? fun i=>?_
    rw [cv,cv,l5]
    cases kx r i<;>simp
  | .l x::r,y::s,e,hn,hl,hs=>by
    rw [show dh (.l x::r) (y::s) e=dh r s e from rfl,m6 (by simpa [aJ] using hn) (by simpa [bi] using hl) (fun j hj=>hs j (by simpa [aJ] using hj))]
    refine List.ext_getElem? fun i=>?_
    rw [cv,cv,l5]
    cases kx r i<;>simp
  | .s k::r,.l ys::s,e,hn,hl,hs=>by
    simp only [aJ,List.nodup_cons] at hn
    obtain⟨xs,hk⟩:=hs k (by simp [aJ])
    have hlt:k < e.length:=(List.getElem?_eq_some_iff.mp hk).1
    rw [show dh (.s k::r) (.l ys::s) e=dh r s (e.set k (some (.l ys))) from rfl,m6 hn.2 (by simpa [bi] using hl) (fun j hj=>by
      have z:k≠j:=fun z=>hn.1 (by rw [z];exact hj)
      rw [List.getElem?_set_ne z]
      exact hs j (by simp [aJ,hj]))]
    refine List.ext_getElem? fun i=>?_
    rw [cv,cv,l5]
    by_cases z:k=i
    · subst z
      rw [List.getElem?_set_self hlt,hk,zo hn.1]
      simp
    · rw [List.getElem?_set_ne z]
      have:((match (Rv.s k) with | .s j=>j==i | _=>false)=true)=False:=by simp [z]
      simp only [this,if_false]
      cases kx r i<;>simp
  | .s _::_,.d _::_,_,_,h,_=>by simp [bi] at h
  | .s _::_,.n _::_,_,_,h,_=>by simp [bi] at h
  | .s _::_,[],_,_,h,_=>by simp [bi] at h
  | .d _::_,[],_,_,h,_=>by simp [bi] at h
  | .l _::_,[],_,_,h,_=>by simp [bi] at h
  | [],_::_,_,_,h,_=>by simp [bi] at h
theorem fF{e:En}:∀{rs:List Rv} {as:List Sv},bT e rs=some as→∀j∈aJ rs,∃xs,e[j]?=some (some (.l xs))
  | [],_,_,j,h=>by simp [aJ] at h
  | .d x::rs,as,q,j,h=>by
    obtain⟨as',q1,rfl⟩:=Option.map_eq_some_iff.mp q
    exact fF q1 j (by simpa [aJ] using h)
  | .l x::rs,as,q,j,h=>by
    obtain⟨as',q1,rfl⟩:=Option.map_eq_some_iff.mp q
    exact fF q1 j (by simpa [aJ] using h)
  | .s k::rs,as,q,j,h=>by
    unfold bT at q
    match he:e[k]?,q with
    | some (some (.l xs)),q=>
      obtain⟨as',q1,rfl⟩:=Option.map_eq_some_iff.mp q
      simp only [aJ,List.mem_cons] at h
      rcases h with rfl | h
      · exact⟨xs,he⟩
      · exact fF q1 j h
theorem kB{e:En}:∀{rs:List Rv} {as:List Sv} {k i:Nat},bT e rs=some as→rs[k]?=some (.s i)→∃xs,as[k]?=some (.l xs)
  | [],_,k,i,_,h=>by simp at h
  | .d x::rs,as,k,i,q,h=>by
    obtain⟨as',q1,rfl⟩:=Option.map_eq_some_iff.mp q
    cases k with
    | zero=>simp at h
    | succ k=>simpa using kB (k:=k) (i:=i) q1 (by simpa using h)
  | .l x::rs,as,k,i,q,h=>by
    obtain⟨as',q1,rfl⟩:=Option.map_eq_some_iff.mp q
    cases k with
    | zero=>simp at h
    | succ k=>simpa using kB (k:=k) (i:=i) q1 (by simpa using h)
  | .s j::rs,as,k,i,q,h=>by
    unfold bT at q
    match he:e[j]?,q with
    | some (some (.l xs)),q=>
      obtain⟨as',q1,rfl⟩:=Option.map_eq_some_iff.mp q
      cases k with
      | zero=>exact⟨xs,rfl⟩
      | succ k=>simpa using kB (k:=k) (i:=i) q1 (by simpa using h)
section
variable{X:Cx}{K:PySem.W.Frag}{σ:L2.St}{H0 H:Hp}{e:En}
theorem mZ:∀{rs:List Rv} {vs:List V} {as:List Sv} {F:Hp},bg K F H σ e→cO K σ H0 F H e rs vs→bT e rs=some as→
    ∃F',bg K F' H σ e∧aA F F'∧(∀a,F a=none→H0 a≠none→F' a=none)∧vs.length=as.length∧rs.length=as.length∧
      (∀(k:Nat) (x:PyData),as[k]?=some (.d x)→∃v,vs[k]?=some v∧DA K F' x v)∧∀(k:Nat) (xs:List PyData),as[k]?=some (.l xs)→∃i,rs[k]?=some (.s i)∧e[i]?=some (some (.l xs))∧∃v,vs[k]?=some v∧σ[i]?=some (some v)
  | [],vs,as,F,R,h,q=>by
    cases q
    have h':vs=[]:=h
    subst h'
    exact⟨F,R,aA.refl _,fun _ h _=>h,rfl,rfl,fun k x h=>by simp at h,fun k x h=>by simp at h⟩
  | .d x::rs,_,as,F,R,h,q=>by
    obtain⟨v,ws,rfl,h1,h2⟩:=h
    obtain⟨as',q1,rfl⟩:=Option.map_eq_some_iff.mp q
    obtain⟨F',R',s',f',l1,l2,d',o'⟩:=mZ R h2 q1
    refine⟨F',R',s',f',by simp [l1],by simp [l2],fun k y hk=>?_,fun k ys hk=>?_⟩
    · cases k with
      | zero=>simp at hk;subst hk;exact⟨v,rfl,DA.mono s' h1⟩
      | succ k=>simpa using d' k y (by simpa using hk)
    · cases k with
      | zero=>simp at hk
      | succ k=>simpa using o' k ys (by simpa using hk)
  | .l xs::rs,_,as,F,R,h,q=>by
    obtain⟨v,ws,rfl,h1,h2⟩:=h
    obtain⟨as',q1,rfl⟩:=Option.map_eq_some_iff.mp q
    obtain⟨F',R',s',f',l1,l2,d',o'⟩:=mZ R h2 q1
    have key:∃F2,bg K F2 H σ e∧aA F' F2∧(∀a,F' a=none→H0 a≠none→F2 a=none)∧DA K F2 (.list xs) v:=by
      obtain⟨l,us,rfl,g1,g2,g3,g4,g5⟩:=h1
      cases hl:F' l with
      | none=>
        have h1':cf K σ H0 F' H e (.l xs) (.ref l):=⟨l,us,rfl,g1,hl,g3,aP.mono s' g4,g5⟩
        obtain⟨F2,R2,s2,d2,f2⟩:=h1'.frozen R'
        exact⟨F2,R2,s2,f2,d2⟩
      | some o=>
        have:=R'.sm _ _ hl
        rw [g3] at this;cases this
        exact⟨F',R',aA.refl _,fun _ h _=>h,cz.mpr ⟨l,us,rfl,.inl (.inl hl),aP.mono s' g4⟩⟩
    obtain⟨F2,R2,s2,f2,d2⟩:=key
    refine⟨F2,R2,s'.trans s2,fun a ha hn=>f2 a (f' a ha hn) hn,by simp [l1],by simp [l2],fun k y hk=>?_,fun k ys hk=>?_⟩
    · cases k with
      | zero=>simp at hk;subst hk;exact⟨v,rfl,d2⟩
      | succ k=>
        obtain⟨u,c1,c2⟩:=d' k y (by simpa using hk)
        exact⟨u,by simpa using c1,DA.mono s2 c2⟩
    · cases k with
      | zero=>simp at hk
      | succ k=>simpa using o' k ys (by simpa using hk)
  | .s i::rs,_,as,F,R,h,q=>by
    obtain⟨v,ws,rfl,h1,h2⟩:=h
    unfold bT at q
    match he:e[i]?,q with
    | some (some (.l xs)),q=>
      obtain⟨as',q1,rfl⟩:=Option.map_eq_some_iff.mp q
      obtain⟨F',R',s',f',l1,l2,d',o'⟩:=mZ R h2 q1
      refine⟨F',R',s',f',by simp [l1],by simp [l2],fun k y hk=>?_,fun k ys hk=>?_⟩
      · cases k with
        | zero=>simp at hk
        | succ k=>simpa using d' k y (by simpa using hk)
      · cases k with
        | zero=>simp at hk;subst hk;exact⟨i,rfl,he,v,rfl,h1.1⟩
        | succ k=>simpa using o' k ys (by simpa using hk)
theorem fM{α:Type}{l:List α}{k:Nat}{x:α}:(l.map some)[k]?=some (some x)↔ l[k]?=some x:=by
  rw [List.getElem?_map]
  cases l[k]?<;>simp
theorem cf.noS{σ':L2.St}{e':En}{F H:Hp}{r:Rv}{v:V}(h:cf K σ' H0 F H e' r v)(n:L2.noS r)(ho:∀a,cL σ e H a→H0 a≠none):cf K σ H0 F H e r v:=by
  cases r with
  | d x=>exact h
  | l xs=>
    obtain⟨l,vs,e1,h1,h2,h3,h4,_⟩:=h
    exact⟨l,vs,e1,h1,h2,h3,h4,fun z=>ho l z h1⟩
  | s i=>exact absurd n (by simp [L2.noS])
theorem iP:∀{rs:List Rv} {as:List Sv},bT e rs=some as→Fc (as.map some)
  | [],_,q=>by cases q;intro i xss h;simp at h
  | .d x::rs,as,q=>by
    obtain⟨as',q1,rfl⟩:=Option.map_eq_some_iff.mp q
    have ih:=iP q1
    intro i xss h
    cases i with
    | zero=>simp at h
    | succ i=>exact ih i xss (by simpa using h)
  | .l x::rs,as,q=>by
    obtain⟨as',q1,rfl⟩:=Option.map_eq_some_iff.mp q
    have ih:=iP q1
    intro i xss h
    cases i with
    | zero=>simp at h
    | succ i=>exact ih i xss (by simpa using h)
  | .s j::rs,as,q=>by
    unfold bT at q
    match he:e[j]?,q with
    | some (some (.l xs)),q=>
      obtain⟨as',q1,rfl⟩:=Option.map_eq_some_iff.mp q
      have ih:=iP q1
      intro i xss h
      cases i with
      | zero=>simp at h
      | succ i=>exact ih i xss (by simpa using h)
theorem E3{n:Nat}{m:FM}{fs:FA}{Q:VK}{E:XK}(h:fE K (ce n m fs) σ H Q):z0 (bP K n m) [] E (fA K fs) σ H Q:=by
  obtain⟨F,e,z,e',R,hf,q⟩:=h
  unfold ce at hf
  obtain⟨⟨rs,e1⟩,h1,hf⟩:=Option.bind_eq_some_iff.mp hf
  obtain⟨as,h2,hf⟩:=Option.bind_eq_some_iff.mp hf
  obtain⟨⟨r,as'⟩,h3,hf⟩:=Option.bind_eq_some_iff.mp hf
  split at hf
  case isFalse=>cases hf
  case isTrue hc=>
  obtain⟨c1,c2,c3,c4⟩:=hc
  cases hf
  refine⟨F,e,rs,e1,R,h1,fun F1 H1 vs X1 R1 A1=>?_⟩
  obtain⟨F2,R2,s2,f2,l1,l2,d2,o2⟩:=mZ R1 A1 h2
  have X2:=X1.frz s2 f2
  rw [List.append_nil]
  have hn:L2.noS r:=by
    cases r with
    | d x=>trivial
    | l x=>trivial
    | s i=>cases c4
  have nN:=iP h2
  have RA:bg K F2 H1 (vs.map some) (as.map some):=by
    refine⟨R2.sm,by simp [l1],fun k x hk=>?_,fun k xs hk=>?_,fun k xss hk=>absurd hk (nN k xss),fun k j l f1 f2=>?_⟩
    · obtain⟨v,g1,g2⟩:=d2 k x (fM.mp hk)
      exact⟨v,fM.mpr g1,g2⟩
    · obtain⟨i,g1,g2,v,g3,g4⟩:=o2 k xs (fM.mp hk)
      obtain⟨l,us,k1,k2,k3,k4⟩:=R2.own i xs g2
      rw [g4] at k1;cases k1
      exact⟨l,us,fM.mpr g3,k2,k3,k4⟩
    · obtain⟨xs,g1,g3⟩:=f1.resolve_right fun⟨xss,_,_,z,_⟩=>nN k xss z
      obtain⟨ys,g2,g4⟩:=f2.resolve_right fun⟨xss,_,_,z,_⟩=>nN j xss z
      obtain⟨i1,a1,a2,v1,a3,a4⟩:=o2 k xs (fM.mp g1)
      obtain⟨i2,b1,b2,v2,b3,b4⟩:=o2 j ys (fM.mp g2)
      have e1:=fM.mp g3
      have e2:=fM.mp g4
      rw [a3] at e1;cases e1
      rw [b3] at e2;cases e2
      have:i1=i2:=R2.inj i1 i2 xs ys l a2 b2 a4 b4
      subst this
      exact gL c2 a1 b1
  have sub:rY σ e1 (vs.map some) (as.map some) (kx rs):=by
    refine⟨fun i k xs g1 g2=>?_,fun k ys g1=>?_⟩
    · have g3:=l6 g2
      obtain⟨zs,hs⟩:=kB h2 g3
      obtain⟨i',a1,a2,v,a3,a4⟩:=o2 k zs hs
      rw [g3] at a1;cases a1
      rw [fM.mpr a3,a4]
    · obtain⟨i,a1,a2,v,a3,a4⟩:=o2 k ys (fM.mp g1)
      refine⟨i,ys,a2,?_,by rw [fM.mpr a3,a4]⟩
      cases hp:kx rs i with
      | none=>
        unfold kx at hp
        rw [List.findIdx?_eq_none_iff] at hp
        have:=hp _ (List.mem_of_getElem? a1)
        simp at this
      | some j=>rw [gL c2 (l6 hp) a1]
  refine⟨by rw [l1,←l2];exact c1,F2,as,r,as',RA,nN,h3,hn,fun F' H' v X3 R3 A3=>?_⟩
  obtain⟨R4,X4,o4⟩:=oK R2 sub nN X3.sf X3.dom X3.fr X3.lst X3.tmp R3 (fun _ _ _ _ _=>rfl) fun i k xs g1 g2=>by
    obtain⟨ys,g3⟩:=iX c3 k i (l6 g2)
    exact⟨ys,fM.mpr g3⟩
  have hb:=m6 (e:=e1) c2 c3 (fF h2)
  rw [←hb] at R4 X4 o4
  exact q F' H' v (X2.trans X4) R4 ((A3.noS hn fun a z=>R2.ownH a (o4 a z)).weak X2.dom)
theorem a8{x:Str}{st:Stmt}{f:Addr}{fd:FuncData}{ps:List Str}{k n:Nat}{m:FM}{a:Expr}{es:List Expr}{fs:FA}{p pos:Pos}(h:bo X.K X.mg x st f fd ps)(G:aM X.prog X.w X.K X.mg X.base bN k f fd ps (bP K n m))(hr:du k X.A)(ha:PA X (a::es) (fA K fs))
    (hg:Gl X x)(hdb:(x==("__debug__":Str))=false)(he:starEach (a::es) X.env=(false,eval a X.env)::starEach es X.env)(hpl:(backTo pos (starEach es X.env)).any (·.1)=false):
    PE X (.Call (.Name x p) (a::es) [] pos) (fE K (ce n m fs)):=(Hw h G hr ha hg hdb he hpl).mono fun _ _ _ h=>E3 h
def rV:List Sv→En→Option (List Sv)
  | [],_=>some []
  | .d x::r,e=>(rV r e.tail).map (.d x::·)
  | .l _::r,e=>match e.head? with
    | some (some (.l ys))=>(rV r e.tail).map (.l ys::·)
    | _=>none
  | .n _::_,_=>none
def oX(n:Nat)(e:En):Rv→Option Rv
  | .s i=>if n≤i then match e[i]? with
      | some (some (.l xs))=>some (.l xs)
      | _=>none
    else none
  | r=>some r
def jz(W:List Nat)(as:List Sv):Bool:=W.all fun j=>match as[j]? with
  | some (.l _)=>false
  | _=>true
def gW(n k:Nat)(W:List Nat)(f:FS):FM:=fun as=>if as.length=n∧jz W as=true then(f (as.map some++List.replicate k none)).bind fun fl=>match fl with
    | .rt r e=>(oX n e r).bind fun r'=>(rV as e).map fun as'=>(r',as')
    | .nx e=>(rV as e).map fun as'=>(.d .none,as')
    | _=>none
  else none
theorem nh:∀{as as':List Sv} {e:En},rV as e=some as'→as'.length=as.length∧(∀(j:Nat) (x:PyData),as'[j]?=some (.d x)↔ as[j]?=some (.d x))∧(∀(j:Nat) (ys:List PyData),as'[j]?=some (.l ys)→(∃xs,as[j]?=some (.l xs))∧e[j]?=some (some (.l ys)))∧∀(j:Nat) (xs:List PyData),as[j]?=some (.l xs)→∃ys,as'[j]?=some (.l ys)
  | [],_,e,h=>by cases h;simp
  | .d x::r,_,e,h=>by
    obtain⟨s,h1,rfl⟩:=Option.map_eq_some_iff.mp h
    obtain⟨g1,g2,g3,g4⟩:=nh h1
    refine⟨by simp [g1],fun j y=>?_,fun j ys hj=>?_,fun j xs hj=>?_⟩
    · cases j with
      | zero=>simp
      | succ j=>simpa using g2 j y
    · cases j with
      | zero=>simp at hj
      | succ j=>
        obtain⟨c1,c2⟩:=g3 j ys (by simpa using hj)
        refine⟨by simpa using c1,?_⟩
        rw [List.getElem?_tail] at c2
        exact c2
    · cases j with
      | zero=>simp at hj
      | succ j=>simpa using g4 j xs (by simpa using hj)
  | .l xs::r,_,e,h=>by
    unfold rV at h
    match he:e.head?,h with
    | some (some (.l ys)),h=>
      obtain⟨s,h1,rfl⟩:=Option.map_eq_some_iff.mp h
      obtain⟨g1,g2,g3,g4⟩:=nh h1
      refine⟨by simp [g1],fun j y=>?_,fun j zs hj=>?_,fun j zs hj=>?_⟩
      · cases j with
        | zero=>simp
        | succ j=>simpa using g2 j y
      · cases j with
        | zero=>
          simp at hj;subst hj
          exact⟨⟨xs,rfl⟩,by rw [List.head?_eq_getElem?] at he;exact he⟩
        | succ j=>
          obtain⟨c1,c2⟩:=g3 j zs (by simpa using hj)
          refine⟨by simpa using c1,?_⟩
          rw [List.getElem?_tail] at c2
          exact c2
      · cases j with
        | zero=>exact⟨ys,rfl⟩
        | succ j=>simpa using g4 j zs (by simpa using hj)
  | .n x::r,_,e,h=>by simp [rV] at h
end
end L2
namespace L2
open PySem PySem.Spec PyProof.Rows
theorem eC{α:Type}{l:List (Option α)}{k i:Nat}{x:α}(h:(l++List.replicate k none)[i]?=some (some x)):l[i]?=some (some x):=by
  rw [List.getElem?_append] at h
  split at h
  · exact h
  · rw [List.getElem?_replicate] at h
    split at h<;>simp at h
theorem eU{α:Type}{l:List (Option α)}{k i:Nat}{x:α}(h:l[i]?=some (some x)):(l++List.replicate k none)[i]?=some (some x):=by
  have hi:i < l.length:=(List.getElem?_eq_some_iff.mp h).1
  rw [List.getElem?_append_left hi];exact h
section
variable{K:PySem.W.Frag}{F H:Hp}{σ:L2.St}{e:En}{k:Nat}
theorem qJ{i:Nat}{a:Addr}:Fp (σ++List.replicate k none) (e++List.replicate k none) H i a↔ Fp σ e H i a:=by
  constructor
  · rintro(⟨xs,h1,h2⟩ | ⟨xss,l,bs,h1,h2,h3⟩)
    · exact .inl ⟨xs,eC h1,eC h2⟩
    · exact .inr ⟨xss,l,bs,eC h1,eC h2,h3⟩
  · rintro(⟨xs,h1,h2⟩ | ⟨xss,l,bs,h1,h2,h3⟩)
    · exact .inl ⟨xs,eU h1,eU h2⟩
    · exact .inr ⟨xss,l,bs,eU h1,eU h2,h3⟩
theorem rm{a:Addr}:cL (σ++List.replicate k none) (e++List.replicate k none) H a↔ cL σ e H a:=⟨fun⟨i,h⟩=>⟨i,qJ.mp h⟩,fun⟨i,h⟩=>⟨i,qJ.mpr h⟩⟩
theorem bg.pad(R:bg K F H σ e):bg K F H (σ++List.replicate k none) (e++List.replicate k none):=by
  refine⟨R.sm,by simp [R.len],fun i x h=>?_,fun i xs h=>?_,fun i xss h=>?_,fun i j a h1 h2=>R.fp i j a (qJ.mp h1) (qJ.mp h2)⟩
  · obtain⟨v,g1,g2⟩:=R.dat i x (eC h)
    exact⟨v,eU g1,g2⟩
  · obtain⟨l,vs,g1,g2⟩:=R.own i xs (eC h)
    exact⟨l,vs,eU g1,g2⟩
  · obtain⟨l,bs,g1,g2⟩:=R.nst i xss (eC h)
    exact⟨l,bs,eU g1,g2⟩
end
theorem rW:∀{as as':List Sv} {e:En},rV as e=some as'→Fc (as'.map some)
  | [],_,e,h=>by cases h;intro i xss z;simp at z
  | .d x::r,_,e,h=>by
    obtain⟨s,h1,rfl⟩:=Option.map_eq_some_iff.mp h
    have ih:=rW h1
    intro i xss z
    cases i with
    | zero=>simp at z
    | succ i=>exact ih i xss (by simpa using z)
  | .l xs::r,_,e,h=>by
    unfold rV at h
    match he:e.head?,h with
    | some (some (.l ys)),h=>
      obtain⟨s,h1,rfl⟩:=Option.map_eq_some_iff.mp h
      have ih:=rW h1
      intro i xss z
      cases i with
      | zero=>simp at z
      | succ i=>exact ih i xss (by simpa using z)
  | .n x::r,_,e,h=>by simp [rV] at h
theorem sR{W:List Nat}{as:List Sv}(h:jz W as=true){j:Nat}{xs:List PyData}(hj:as[j]?=some (.l xs)):j∉W:=fun z=>by
  unfold jz at h
  have:=List.all_eq_true.mp h j z
  rw [hj] at this
  cases this
section
variable{P:Program}{w:World}{K:PySem.W.Frag}{mg:Str→Option Value}{base:Heap}
theorem bo.fn{x:Str}{st:Stmt}{f:Addr}{fd:FuncData}{N ps:List Str}{k n k0:Nat}{W:List Nat}{fb:FS}(h:bo K mg x st f fd ps)(S:aG N ps (am st))(hn:ps.length=n)(hN:N.length=n+k0)
    (hb:∀(cdv:Value) (A:Around) (outer:List Env) (s:Shared) (H:Hp) (E:XK),du k (A.deeper (envOfC x (am st) s.heap.objs.size f cdv))→mQ (ur bN P w K mg base N x (am st) f cdv A outer s H E).nox (cM st) (fS K fb W)):
    aM P w K mg base bN (k+1) f fd ps (bP K n (gW n k0 W fb)):=by
  refine h.F.ok S (fun vs H Q E q=>?_) fun cdv A outer s H vs Q E hr hsp=>⟨_,hb cdv A outer s H E hr,?_⟩
  · rw [hn];exact q.1
  · obtain⟨hl,F,as,r,as',R,nN,hm,nr,q⟩:=hsp
    unfold gW at hm
    split at hm
    case isFalse=>cases hm
    case isTrue hc=>
    obtain⟨la,nl⟩:=hc
    obtain⟨fl,h1,hm⟩:=Option.bind_eq_some_iff.mp hm
    have hst:fy N vs=vs.map some++List.replicate k0 none:=by unfold fy;rw [hN,hl];congr 2;lia
    rw [hst]
    have key:∀{as':List Sv} {e':En},rV as e'=some as'→∀F' H' σ',cZ W (vs.map some++List.replicate k0 none) F H (as.map some++List.replicate k0 none) σ' F' H' e'→bg K F' H' σ' e'→
        dg (vs.map some) F H (as.map some) F' H' (as'.map some)∧bg K F' H' (vs.map some) (as'.map some)∧∀a,cL (vs.map some) (as'.map some) H' a→cL (vs.map some) (as.map some) H a:=by
      intro as' e' hu F' H' σ' X' R'
      obtain⟨u1,u2,u3,u4⟩:=nh hu
      have uN:=rW hu
      have ow:∀a,cL (vs.map some) (as'.map some) H' a→cL (vs.map some) (as.map some) H a:=by
        rintro a ⟨j,⟨ys,c1,c2⟩ | ⟨xss,_,_,z,_⟩⟩
        · obtain⟨⟨xs,c3⟩,_⟩:=u3 j ys (fM.mp c1)
          exact⟨j,.inl ⟨xs,fM.mpr c3,c2⟩⟩
        · exact absurd z (uN j xss)
      have sg:∀(j:Nat) (xs:List PyData),as[j]?=some (.l xs)→σ'[j]?=(vs.map some)[j]?:=fun j xs hj=>by
        rw [X'.wr j (sR nl hj)]
        have hj2:j < (vs.map some).length:=by rw [List.length_map,hl,←la];exact(List.getElem?_eq_some_iff.mp hj).1
        rw [List.getElem?_append_left hj2]
      refine⟨⟨X'.sf,X'.dom,fun a vs h1 h2 hn=>X'.fr a vs h1 h2 fun z=>hn (rm.mp z),X'.lst,fun a o ha hn=>X'.tmp a o ha fun z=>hn (rm.mp z),fun j=>?_,fun a z=>.inl (ow a z)⟩,⟨R'.sm,?_,fun j y hj=>?_,fun j ys hj=>?_,fun j xss hj=>absurd hj (uN j xss),fun j i l f1 f2=>?_⟩,ow⟩
      · constructor
        · rintro⟨ys,hj⟩
          obtain⟨⟨xs,c⟩,_⟩:=u3 j ys (fM.mp hj)
          exact⟨xs,fM.mpr c⟩
        · rintro⟨xs,hj⟩
          obtain⟨ys,c⟩:=u4 j xs (fM.mp hj)
          exact⟨ys,fM.mpr c⟩
      · simp [u1,hl,la]
      · obtain⟨v,c1,c2⟩:=R.dat j y (fM.mpr ((u2 j y).mp (fM.mp hj)))
        exact⟨v,c1,DA.mono X'.sf c2⟩
      · obtain⟨⟨xs,c1⟩,c2⟩:=u3 j ys (fM.mp hj)
        obtain⟨l,us,d1,d2⟩:=R'.own j ys c2
        exact⟨l,us,by rw [←sg j xs c1];exact d1,d2⟩
      · obtain⟨xs,g1,g3⟩:=f1.resolve_right fun⟨xss,_,_,z,_⟩=>uN j xss z
        obtain⟨ys,g2,g4⟩:=f2.resolve_right fun⟨xss,_,_,z,_⟩=>uN i xss z
        obtain⟨⟨zs,c1⟩,c2⟩:=u3 j xs (fM.mp g1)
        obtain⟨⟨ws,c3⟩,c4⟩:=u3 i ys (fM.mp g2)
        exact R'.inj j i xs ys l c2 c4 (by rw [sg j zs c1];exact g3) (by rw [sg i ws c3];exact g4)
    refine⟨F,as.map some++List.replicate k0 none,fl,R.pad,h1,?_⟩
    cases fl with
    | bk e'=>cases hm
    | ct e'=>cases hm
    | nx e'=>
      obtain⟨as2,h2,hm⟩:=Option.map_eq_some_iff.mp hm
      cases hm
      intro F' H' σ' X' R'
      obtain⟨X2,R2,_⟩:=key h2 F' H' σ' X' R'
      exact q F' H' .non X2 R2 ((fJ (K:=K) (F:=F')).mpr rfl)
    | rt r0 e'=>
      obtain⟨r1,h2,hm⟩:=Option.bind_eq_some_iff.mp hm
      obtain⟨as2,h3,hm⟩:=Option.map_eq_some_iff.mp hm
      cases hm
      intro F' H' σ' v X' R' A'
      obtain⟨X2,R2,ow2⟩:=key h3 F' H' σ' X' R'
      have noo:∀l,H l=none→¬cL (vs.map some) (as'.map some) H' l:=fun l hl z=>R.ownH l (ow2 l z) hl
      refine q F' H' v X2 R2 ?_
      cases r0 with
      | d y=>cases h2;exact A'
      | l ys=>
        cases h2
        obtain⟨l,us,d0,d1,d2,d3,d4,_⟩:=A'
        exact⟨l,us,d0,d1,d2,d3,d4,noo l d1⟩
      | s i=>
        simp only [oX] at h2
        split at h2
        case isFalse=>cases h2
        case isTrue hi=>
        obtain⟨a1,xs,a2⟩:=A'
        rw [a2] at h2
        cases h2
        obtain⟨l,us,d1,d2,d3,d4⟩:=R'.own i _ a2
        rw [a1] at d1;cases d1
        suffices hl0:H l=none from⟨l,us,rfl,hl0,d2,d3,d4,noo l hl0⟩
        rcases X'.own l ⟨i,.inl ⟨_,a2,a1⟩⟩ with z | z
        · obtain⟨j,zf⟩:=rm.mp z
          obtain⟨ys,z1,z2⟩:=zf.resolve_right fun⟨xss,_,_,z,_⟩=>nN j xss z
          have z1':=fM.mp z1
          obtain⟨u1,u2,u3,u4⟩:=nh h3
          obtain⟨ws,w1⟩:=u4 j ys z1'
          obtain⟨_,w2⟩:=u3 j ws w1
          have hj2:j < vs.length:=by rw [hl,←la];exact(List.getElem?_eq_some_iff.mp z1').1
          have e3:σ'[j]?=some (some (.ref l)):=by
            rw [X'.wr j (sR nl z1'),List.getElem?_append_left (by simpa using hj2)]
            exact z2
          have:=R'.inj i j _ ws l a2 w2 a1 e3
          lia
        · exact z
end
def FP:Option Sv→Option Sv
  | some (.n _)=>none
  | s=>s
def lR(cp:List (Nat × Str))(nT:Nat)(e:En):En:=cp.map (fun p=>FP (e[p.1]?).join)++List.replicate nT none
def lc(cp:List (Nat × Str))(i:Nat):Option Nat:=cp.findIdx? fun p=>p.1==i
def bQ(g:FG)(ft:FT)(fe:FE):List PyData→En→List PyData→Option (List PyData × En)
  | [],e,acc=>some (acc,e)
  | x::r,e,acc=>(g x e).bind fun e1=>(ft e1).bind fun b=>if b.1=true then(fe b.2).bind fun v=>(ki v.1).bind fun d=>if acc.length < 1000000 then bQ g ft fe r v.2 (acc++[d]) else none else bQ g ft fe r b.2 acc
def kd(cp:List (Nat × Str))(ei e:En):Bool:=cp.all fun p=> !yB e[p.1]? || yB ei[(lc cp p.1).getD 0]?
def ee(cp:List (Nat × Str))(nT:Nat)(fi:FI)(g:FG)(ft:FT)(fe:FE):FE:=fun e=>(fi e).bind fun p=>if (p.2.1.all fun q=> !(cp.any fun c=>c.1==q.1))=true then(bQ g ft fe p.1 (lR cp nT p.2.2) []).bind fun z=>if kd cp z.2 p.2.2=true then some (.l z.1,lE (lc cp) z.2 p.2.2) else none else none
section
variable{K:PySem.W.Frag}{F H:Hp}{σ:L2.St}{e:En}{cp:List (Nat × Str)}{nT:Nat}
theorem et{i k:Nat}(h:lc cp i=some k):∃s,cp[k]?=some (i,s):=by
  unfold lc at h
  rw [List.findIdx?_eq_some_iff_getElem] at h
  obtain⟨hk,h1,_⟩:=h
  refine⟨cp[k].2,?_⟩
  rw [List.getElem?_eq_getElem hk]
  have:=eq_of_beq h1
  rw [←this]
theorem iU{k:Nat}{x:Sv}(h:(lR cp nT e)[k]?=some (some x)):∃i s,cp[k]?=some (i,s)∧e[i]?=some (some x):=by
  unfold lR at h
  have h:=eC h
  rw [List.getElem?_map] at h
  obtain⟨p,h1,h2⟩:=Option.map_eq_some_iff.mp h
  refine⟨p.1,p.2,h1,?_⟩
  cases q:e[p.1]? with
  | none=>rw [q] at h2;cases h2
  | some y=>
    rw [q] at h2
    match y,h2 with
    | some (.d z),h2=>exact congrArg some h2
    | some (.l z),h2=>exact congrArg some h2
    | some (.n z),h2=>cases h2
    | none,h2=>cases h2
theorem iV:Fc (lR cp nT e):=by
  intro k xss h
  unfold lR at h
  have h:=eC h
  rw [List.getElem?_map] at h
  obtain⟨p,h1,h2⟩:=Option.map_eq_some_iff.mp h
  match (e[p.1]?).join,h2 with
  | some (.d z),h2=>cases h2
  | some (.l z),h2=>cases h2
  | some (.n z),h2=>cases h2
  | none,h2=>cases h2
theorem m_{k i:Nat}{s:Str}{v:V}(h:cp[k]?=some (i,s))(hv:σ[i]?=some (some v)):(fw cp nT σ)[k]?=some (some v):=by
  unfold fw
  refine eU ?_
  rw [List.getElem?_map,h]
  simp [hv]
theorem lC{k i:Nat}{s:Str}{v:V}(h:cp[k]?=some (i,s))(hv:(fw cp nT σ)[k]?=some (some v)):σ[i]?=some (some v):=by
  unfold fw at hv
  have hv:=eC hv
  rw [List.getElem?_map,h] at hv
  simp only [Option.map_some,Option.some.injEq] at hv
  cases q:σ[i]? with
  | none=>rw [q] at hv;cases hv
  | some y=>rw [q] at hv;exact congrArg some hv
theorem qF:∀{cp:List (Nat × Str)} {k j i:Nat} {s t:Str},(cp.map (·.1)).Nodup→cp[k]?=some (i,s)→cp[j]?=some (i,t)→k=j
  | [],k,j,i,s,t,_,h,_=>by simp at h
  | p::r,k,j,i,s,t,hn,h1,h2=>by
    simp only [List.map_cons,List.nodup_cons] at hn
    cases k with
    | zero=>
      simp at h1;subst h1
      cases j with
      | zero=>rfl
      | succ j=>
        have hm:(i,t)∈r:=List.mem_of_getElem? (i:=j) (by simpa using h2)
        exact absurd (List.mem_map.mpr ⟨(i,t),hm,rfl⟩) hn.1
    | succ k=>
      cases j with
      | zero=>
        simp at h2;subst h2
        have hm:(i,s)∈r:=List.mem_of_getElem? (i:=k) (by simpa using h1)
        exact absurd (List.mem_map.mpr ⟨(i,s),hm,rfl⟩) hn.1
      | succ j=>
        have:=qF (cp:=r) (k:=k) (j:=j) hn.2 (by simpa using h1) (by simpa using h2)
        lia
theorem bg.inn(R:bg K F H σ e)(hn:(cp.map (·.1)).Nodup):bg K F H (fw cp nT σ) (lR cp nT e)∧rY σ e (fw cp nT σ) (lR cp nT e) (lc cp):=by
  refine⟨⟨R.sm,by simp [fw,lR],fun k x h=>?_,fun k xs h=>?_,fun k xss h=>absurd h (iV k xss),fun k j l f1 f2=>?_⟩,⟨fun i k xs h1 h2=>?_,fun k ys h=>?_⟩⟩
  · obtain⟨i,s,h1,h2⟩:=iU h
    obtain⟨v,g1,g2⟩:=R.dat i x h2
    exact⟨v,m_ h1 g1,g2⟩
  · obtain⟨i,s,h1,h2⟩:=iU h
    obtain⟨l,vs,g1,g2⟩:=R.own i xs h2
    exact⟨l,vs,m_ h1 g1,g2⟩
  · obtain⟨xs,h1,h3⟩:=f1.resolve_right fun⟨xss,_,_,z,_⟩=>iV k xss z
    obtain⟨ys,h2,h4⟩:=f2.resolve_right fun⟨xss,_,_,z,_⟩=>iV j xss z
    obtain⟨i,s,a1,a2⟩:=iU h1
    obtain⟨i',s',b1,b2⟩:=iU h2
    have:i=i':=R.inj i i' xs ys l a2 b2 (lC a1 h3) (lC b1 h4)
    subst this
    exact qF hn a1 b1
  · obtain⟨s,g⟩:=et h2
    obtain⟨l,vs,g1,_⟩:=R.own i xs h1
    rw [g1];exact m_ g g1
  · obtain⟨i,s,h1,h2⟩:=iU h
    obtain⟨l,vs,g1,_⟩:=R.own i ys h2
    refine⟨i,ys,h2,?_,by rw [g1];exact m_ h1 g1⟩
    cases hp:lc cp i with
    | none=>
      unfold lc at hp
      rw [List.findIdx?_eq_none_iff] at hp
      have:=hp _ (List.mem_of_getElem? h1)
      simp at this
    | some j=>
      obtain⟨t,g⟩:=et hp
      rw [qF hn g h1]
theorem bg.putT(R:bg K F H σ e){l:Addr}{ws:List V}(h1:F l=none)(h2:¬cL σ e H l):bg K F (a' H l (.lst ws)) σ e∧∀a,cL σ e (a' H l (.lst ws)) a↔ cL σ e H a:=
  R.keep (aA.refl F) (fun b o q=>by
    have z:b≠l:=fun z=>by rw [z,h1] at q;cases q
    rw [aw z];exact R.sm b o q) (fun a ⟨i,h⟩=>(R.fpAt h).1) fun a o ha q=>by
      have z:a≠l:=fun z=>h2 (by rw [←z];exact ha)
      rw [aw z];exact q
theorem cZ.putT{W:List Nat}{σ':L2.St}{F' H':Hp}{e':En}(x:cZ W σ F H e σ' F' H' e'){l:Addr}{o:HO}(h:H l=none)(ho:∀a,cL σ' e' (a' H' l o) a↔ cL σ' e' H' a):cZ W σ F H e σ' F' (a' H' l o) e':=by
  refine⟨x.sf,fun a q=>?_,x.fr,fun a vs q=>?_,fun a u q n=>?_,fun a q=>x.own a ((ho a).mp q),x.wr⟩
  · by_cases z:a=l
    · rw [z];exact h
    · rw [aw z] at q;exact x.dom a q
  · have z:a≠l:=fun z=>by rw [z,h] at q;cases q
    rw [aw z];exact x.lst a vs q
  · have z:a≠l:=fun z=>by rw [z,h] at q;cases q
    rw [aw z];exact x.tmp a u q n
inductive CI (K:PySem.W.Frag) (W:List Nat) (σ0:L2.St) (F1 H1:Hp) (e0:En) (l:Addr) (P:Hp→En→List PyData→Prop) (σ':L2.St) (H':Hp):Prop
  | mk {F':Hp} {ei:En} {acc:List PyData} {vs:List V} (R:bg K F' H' σ' ei) (X:cZ W σ0 F1 H1 e0 σ' F' H' ei) (fl:F' l=none) (no:¬cL σ' ei H' l) (hl:H' l=some (.lst vs)) (da:aP K F' acc vs) (hc:P F' ei acc):CI K W σ0 F1 H1 e0 l P σ' H'
theorem Ak{Q:VK}{fi:FI}{g:FG}{W:List Nat}{ft:FT}{fe:FE}(hn:(cp.map (·.1)).Nodup)(hW:∀j∈W,cp.length≤j)(h:fE K (ee cp nT fi g ft fe) σ H Q):C4 cp nT (fI K fi) (fG K g W) (fT K ft) (fE K fe) σ H Q:=by
  obtain⟨F0,e0,z,e',R0,hf,q⟩:=h
  unfold ee at hf
  obtain⟨⟨items,own,e1⟩,h1,hf⟩:=Option.bind_eq_some_iff.mp hf
  dsimp only at hf
  split at hf
  case isFalse=>cases hf
  case isTrue hO=>
  obtain⟨⟨out,eo⟩,h2,hf⟩:=Option.bind_eq_some_iff.mp hf
  dsimp only at hf
  split at hf
  case isFalse=>cases hf
  case isTrue hB=>
  cases hf
  refine⟨⟨F0,e0,items,own,e1,R0,h1,fun J F1 H1 X1 R1 kp ok=>?_⟩⟩
  intro l hl
  obtain⟨Ri,sub⟩:=R1.inn (nT:=nT) hn
  have hFl:F1 l=none:=R1.freeF hl
  let Iv:Nat→L2.St→Hp→Prop:=fun i=>CI K W (fw cp nT σ) F1 H1 (lR cp nT e1) l fun _ ei acc=>bQ g ft fe (items.drop i) ei acc=some (out,eo)
  have notown:∀p∈own,∀a,σ[p.1]?=some (some (.ref a))→¬cL (fw cp nT σ) (lR cp nT e1) H1 a:=by
    rintro p hp a ha ⟨k,zf⟩
    obtain⟨xs,c1,c2⟩:=zf.resolve_right fun⟨xss,_,_,z,_⟩=>iV k xss z
    obtain⟨i,s,d1,d2⟩:=iU c1
    have e2:=lC d1 c2
    have:p.1=i:=R1.inj p.1 i p.2 xs a (kp p hp) d2 ha e2
    have hh:=List.all_eq_true.mp hO p hp
    simp only [Bool.not_eq_true',List.any_eq_false,beq_iff_eq] at hh
    exact hh (i,s) (List.mem_of_getElem? d1) this.symm
  refine⟨fun i m σ' H'=>m=items.length - i∧i≤items.length∧Iv i σ' H',⟨items.length,by simp,Nat.zero_le _,.mk (Ri.putT hFl (fun z=>(Ri.ownH l z) hl)).1 (cZ.refl.putT hl (Ri.putT hFl (fun z=>(Ri.ownH l z) hl)).2) hFl (fun z=>(Ri.ownH l (((Ri.putT hFl (fun z=>(Ri.ownH l z) hl)).2 l).mp z)) hl) ar aP.nil h2⟩,?_⟩
  rintro i m σ' H' ⟨rfl,hi,⟨R',X',fl,no,hl',da,hc⟩⟩
  rename_i F' ei acc vs
  have held:wx K σ F' H' own:=fun p hp=>by
    obtain⟨a,us,c1,c2,c3,c4⟩:=R1.own p.1 p.2 (kp p hp)
    exact⟨a,us,c1,X'.tmp a _ c3 (notown p hp a c1),c4.mono X'.sf⟩
  obtain⟨go,stop,yld⟩:=ok F' H' X'.sf R'.sm held
  by_cases hlt:i < items.length
  · have hd:items.drop i=items[i]::items.drop (i+1):=List.drop_eq_getElem_cons hlt
    rw [hd] at hc
    unfold bQ at hc
    obtain⟨e2,c2,hc⟩:=Option.bind_eq_some_iff.mp hc
    obtain⟨⟨b,e3⟩,c3,hc⟩:=Option.bind_eq_some_iff.mp hc
    refine .inr ⟨go i hlt,Iv (i+1),fun σ2 H2 r=>⟨items.length - (i+1),by lia,rfl,hlt,r⟩,fun x H2 hy=>?_⟩
    obtain⟨F2,sH,sF2,sm2,fz,hx⟩:=yld i items[i] x H2 (List.getElem?_eq_getElem hlt) hy
    obtain⟨R2,X2⟩:=R'.step sH sF2 sm2 fz
    refine⟨F2,ei,items[i],e2,R2,hx,c2,fun σ3 X3 R3=>⟨F2,e2,b,e3,R3,c3,fun F4 H4 X4 R4=>?_⟩⟩
    have hlH2:H2 l=some (.lst vs):=sH _ _ hl'
    have no2:¬cL σ' ei H2 l:=fun z=>by
      rcases X2.ow l z with z | z
      · exact no z
      · rw [hl'] at z;cases z
    have no3:¬cL σ3 e2 H2 l:=fun z=>by
      rcases X3.own l z with z | z
      · exact no2 z
      · rw [hlH2] at z;cases z
    have fl2:F2 l=none:=fz l fl (by rw [hl'];simp)
    have hlH4:H4 l=some (.lst vs):=X4.tmp l _ hlH2 no3
    have fl4:F4 l=none:=X4.fr l vs fl2 hlH2 no3
    have no4:¬cL σ3 e3 H4 l:=fun z=>by
      rcases X4.ow l z with z | z
      · exact no3 z
      · rw [hlH2] at z;cases z
    have E4:cZ W (fw cp nT σ) F1 H1 (lR cp nT e1) σ3 F4 H4 e3:=((X'.trans X2.s).trans X3).trans X4.s
    cases b with
    | false=>
      rw [if_neg (by simp)] at hc
      exact AZ (.mk R4 E4 fl4 no4 hlH4 (da.mono (sF2.trans X4.sf)) hc)
    | true=>
      rw [if_pos rfl] at hc
      obtain⟨⟨r,e5⟩,c5,hc⟩:=Option.bind_eq_some_iff.mp hc
      obtain⟨d,c6,hc⟩:=Option.bind_eq_some_iff.mp hc
      split at hc
      case isFalse=>cases hc
      case isTrue hlen=>
      refine A0 ⟨F4,e3,r,e5,R4,c5,fun F5 H5 v X5 R5 A5=>?_⟩
      have hlH5:H5 l=some (.lst vs):=X5.tmp l _ hlH4 no4
      have fl5:F5 l=none:=X5.fr l vs fl4 hlH4 no4
      have no5:¬cL σ3 e5 H5 l:=fun z=>by
        rcases X5.ow l z with z | z
        · exact no4 z
        · rw [hlH4] at z;cases z
      obtain⟨F6,R6,s6,d6,f6⟩:=cO.frozen R5 (rs:=[r]) (vs:=[v]) ⟨v,[],rfl,A5,rfl⟩ (jR c6)
      have fl6:F6 l=none:=f6 l fl5 (by rw [hlH4];simp)
      have X6:=X5.frz s6 f6
      have ll:=da.len
      have sl:sizeLine=16777216:=sizeLine_eq
      have dv:DA K F6 d v:=by
        simp only [aP] at d6
        obtain⟨v',r',e',hv,_⟩:=d6
        cases e';exact hv
      obtain⟨R7,o7⟩:=R6.putT (ws:=vs++[v]) fl6 no5
      exact⟨vs,hlH5,by lia,.mk R7 ((E4.trans X6.s).putT hl o7) fl6 (fun z=>no5 ((o7 l).mp z)) ar ((da.mono (sF2.trans (X4.sf.trans (X5.sf.trans s6)))).append (aP.one dv)) hc⟩
  · have hd:items.drop i=[]:=List.drop_eq_nil_of_le (by lia)
    rw [hd] at hc
    cases hc
    refine .inl ⟨stop i (by lia),?_⟩
    obtain⟨R9,X9,o9⟩:=oK R1 sub iV X'.sf X'.dom X'.fr X'.lst X'.tmp R' (fun i k xs g1 g2=>X'.wr k fun z=>by
      obtain⟨s,g⟩:=et g2
      have:=(List.getElem?_eq_some_iff.mp g).1
      have:=hW k z
      lia) fun i k xs g1 g2=>by
        obtain⟨s,g⟩:=et g2
        unfold kd at hB
        have hb:=List.all_eq_true.mp hB _ (List.mem_of_getElem? g)
        simp only [g1,g2,Option.getD_some,yB,Bool.not_true,Bool.false_or] at hb
        exact vM.mp hb
    exact q F' H' (.ref l) (X1.trans X9) R9 ⟨l,vs,rfl,X1.dom l hl,fl,hl',da,fun z=>R1.ownH l (o9 l z) hl⟩
end
end L2
namespace L2
open PySem PySem.Spec PyProof.Rows
section
variable{X:Cx}{K:PySem.W.Frag}{a b:Expr}{es:List Expr}{fa fb:FE}{fs:FA}{pos p p2 p3:Pos}{lo hi:Option Expr}
def kQ:En→Rv→Option Rv:=fun _ x=>(bM x).map fun i=>.d (.int (-i))
theorem FW:E_ K (rU fun i=>.int (-i)) kQ:=by
  intro σ H0 F H e x z v Q R A hg q
  obtain⟨i,h5,h4⟩:=Option.map_eq_some_iff.mp hg
  cases h4
  exact⟨i,cq A h5,q F H _ (dg.refl _ _ _ _) R l7⟩
theorem li(ha:PE X a (fE K fa)):PE X (.UnaryOp .USub a pos) (fE K (lH kQ fa)):=Gi E2 FW ha
theorem bz(hK:X.K=K)(ha:PE X a (fE K fa))(hb:PE X b (fE K fb)):PE X (.BinOp a .Add b pos) (fE K (au bD fa fb)):=pX (hK ▸ Bk) Fj ha hb
theorem lj(ha:PE X a (fE K fa))(hb:PE X b (fE K fb)):PE X (.BinOp a .Sub b pos) (fE K (au fg fa fb)):=pX D7 Gx ha hb
theorem gB(hK:X.K=K)(ha:PE X a (fE K fa))(hb:PE X b (fE K fb)):PE X (.BinOp a .Mult b pos) (fE K (au c_ fa fb)):=pX (hK ▸ Bo) FV ha hb
theorem gy(ha:PE X a (fE K fa))(hb:PE X b (fE K fb)):PE X (.BinOp a .FloorDiv b pos) (fE K (au dm fa fb)):=pX yX Dp ha hb
theorem aX(ha:PE X a (fE K fa))(hb:PE X b (fE K fb)):PE X (.BinOp a .Mod b pos) (fE K (au a9 fa fb)):=pX Bn FU ha hb
theorem zx(ha:PE X a (fE K fa))(hb:PE X b (fE K fb)):PE X (.BinOp a .Pow b pos) (fE K (au qP fa fb)):=pX D5 Gd ha hb
theorem bu(hK:X.K=K)(ha:PE X a (fE K fa))(hb:PE X b (fE K fb))(hs:mY b):PE X (.Subscript a b pos) (fE K (au cD fa fb)):=Gh (hK ▸ Hr) Hs ha hb hs
theorem eD{fl fh:FO}(hK:X.K=K)(he:PE X a (fE K fa))(hl:PO X lo (fO K fl))(hh:PO X hi (fO K fh)):PE X (.Subscript a (.Slice lo hi none p2) pos) (fE K (o_ fa fl fh)):=by subst hK;exact zB he hl hh
structure oQ (X:Cx) (K:PySem.W.Frag) (op:CmpOp) (g:En→Rv→Rv→Option Rv):Prop where
  ex:∃r,ix X (compareOp op) r∧ir K r g
theorem wA:oQ X K .Lt xN:=⟨_,F_,Hu⟩
theorem Fn:oQ X K .Gt Fw:=⟨_,F8,Hj⟩
theorem ya:oQ X K .GtE AQ:=⟨_,FZ,Hi⟩
theorem nD{k:Nat}(hK:X.K=K)(hr:du k X.A):oQ X K .Eq (bO false):=⟨_,hK ▸ DY hr,CJ⟩
theorem oS{k:Nat}(hK:X.K=K)(hr:du k X.A):oQ X K .NotEq (bO true):=⟨_,hK ▸ D4 hr,CJ⟩
theorem Dj{k:Nat}(hK:X.K=K)(hr:du k X.A):oQ X K .In (AR false):=⟨_,hK ▸ DZ hr,Ho⟩
theorem Fo:oQ X K .Is Fy:=⟨_,D0,Hq⟩
theorem AB:oQ X K .IsNot qO:=⟨_,xc,AW⟩
theorem mI{op:CmpOp}{g:En→Rv→Rv→Option Rv}(h:oQ X K op g)(ha:PE X a (fE K fa))(hb:PE X b (fE K fb))(hm:behindInMarks op b=false):PE X (.Compare a [op] [b] pos) (fE K (au g fa fb)):=by
  obtain⟨r,h1,h2⟩:=h.ex;exact Er h1 h2 ha hb hm
theorem be{op:CmpOp}{g:En→Rv→Rv→Option Rv}(h:oQ X K op g)(ha:PE X a (fE K fa))(hb:PE X b (fE K fb))(hm:behindInMarks op b=false):PT X (.Compare a [op] [b] pos) (fT K (aN (au g fa fb))):=by
  obtain⟨r,h1,h2⟩:=h.ex;exact Ey h1 h2 ha hb hm
structure mP (X:Cx) (K:PySem.W.Frag) (x:Str) (g:En→List Rv→Option Rv):Prop where
  ex:(∃id r,df X (.builtin id) r∧dy K r g∧bootBuiltins x=some (.builtin id))∨∃T r,df X (.type T) r∧dy K r g∧bootBuiltins x=some (.type T)
theorem aZ{x:Str}{g:En→List Rv→Option Rv}(h:mP X K x g)(hg:Gl X x)(hm:X.mg x=none)(ha:PA X (a::es) (fA K fs))(hn:x≠"__name__")(hdb:(x==("__debug__":Str))=false)
    (he:starEach (a::es) X.env=(false,eval a X.env)::starEach es X.env)(hpl:(backTo pos (starEach es X.env)).any (·.1)=false):PE X (.Call (.Name x p) (a::es) [] pos) (fE K (aL g fs)):=by
  rcases h.ex with ⟨id,r,h1,h2,h3⟩ | ⟨T,r,h1,h2,h3⟩
  · exact zy h1 h2 hg hm h3 ha hn hdb he hpl
  · exact xk h1 h2 hg hm h3 ha hn hdb he hpl
theorem b_len(hK:X.K=K):mP X K "len" (g1 fL):=⟨.inl ⟨_,_,hK ▸ kL,FN,PySem.boot_len⟩⟩
theorem b_abs:mP X K "abs" (g1 uu):=⟨.inl ⟨_,_,yc,Fi,PyProof.Rows.boot_abs⟩⟩
theorem b_min(hc:X.calm=true):mP X K "min" (g2 yr):=⟨.inl ⟨_,_,wF hc,FR,PyProof.Rows.boot_min⟩⟩
theorem b_max(hc:X.calm=true):mP X K "max" (g2 oY):=⟨.inl ⟨_,_,wD hc,FQ,PyProof.Rows.boot_max⟩⟩
theorem b_int:mP X K "int" (g1 sv):=⟨.inr ⟨_,_,wB,FF,PyProof.Rows.boot_int⟩⟩
theorem b_tuple(hK:X.K=K):mP X K "tuple" (g1 dc):=⟨.inr ⟨_,_,hK ▸ oV,Cf,PyProof.Rows.boot_tuple⟩⟩
theorem b_list(hK:X.K=K):mP X K "list" (g1 vH):=⟨.inr ⟨_,_,hK ▸ qz,DH,PyProof.Rows.boot_list⟩⟩
theorem b_all{k:Nat}(hK:X.K=K)(hr:du k X.A):mP X K "all" (g1 (kS nJ)):=⟨.inl ⟨_,_,yd hr hK,Fk,x8⟩⟩
theorem b_sorted(hK:X.K=K):mP X K "sorted" (g1 iT):=⟨.inl ⟨_,_,hK ▸ uq,B9,PyProof.Rows.boot_sorted⟩⟩
theorem b_repr{k:Nat}(hK:X.K=K)(hr:du k X.A):mP X K "repr" (g1 kR):=⟨.inl ⟨_,_,hK ▸ uo hr,EG,PyProof.Rows.boot_repr⟩⟩
abbrev cS:FT:=fun e=>some (true,e)
theorem vm.mono{ifs:List Expr}{t t':TT}(h:vm X ifs t)(m:∀σ H Q,t' σ H Q→t σ H Q):vm X ifs t':=fun pins s σ H Q I q=>h pins s σ H Q I (m σ H Q q)
theorem jY:vm X [] (fT K cS):=BQ.mono fun σ H Q h=>by
  obtain⟨F,e,b,e',R,hf,q⟩:=h
  cases hf
  exact q F H (dg.refl _ _ _ _) R
theorem m7{c:Expr}{ft:FT}(h:PT X c (fT K ft)):vm X [c] (fT K ft):=BR h
theorem jB{elt iter tg:Expr}{ifs:List Expr}{scope:Scope}{fi:FI}{g:FG}{ft:FT}{fe:FE}{W:List Nat}(sc0:Scope)(N0:List Str)(cp:List (Nat × Str))(tgN:List Str)
    (hc:X.calm=true)(hsc:X.env.scope=sc0)(hN0:X.N=N0)(hi:PI X tg iter (fI K fi))
    (hg:∀C s0 H0 fp,PG (aK X scope cp tgN C s0 H0 fp) tg (fG K g W))
    (ht:∀C s0 H0 fp,vm (aK X scope cp tgN C s0 H0 fp) ifs (fT K ft))
    (he:∀C s0 H0 fp,PE (aK X scope cp tgN C s0 H0 fp) elt (fE K fe))
    (hk:scope.kind=.function)(hcell:∀y∈scope.names,y.2≠.cell)(hnames:∀y∈scope.names,y.2=.local→scope.names.lookup y.1=some .local)
    (hfr:∀y∈scope.names,y.2=.free→scope.names.lookup y.1=some .free∧sc0.names.lookup y.1=some .cell)
    (hcp:∀p∈cp,N0[p.1]?=some p.2)(hcq:∀p∈cp,sc0.names.lookup p.2=some .cell∧scope.names.lookup p.2=some .free)(hnd:(cp.map (·.1)).Nodup)(hW:∀j∈W,cp.length≤j)
    (hs:∀x,foldedSetIterable iter X.env x=pure x):
    PE X (.ListComp elt [⟨tg,iter,ifs,0⟩] scope pos) (fE K (ee cp tgN.length fi g ft fe)):=(By sc0 N0 cp tgN hc hsc hN0 hi hg ht he hk hcell hnames hfr hcp hcq hs).mono fun _ _ _ h=>Ak hnd hW h
variable{o:Expr}{fo:FE}{apos cpos:Pos}
theorem eX(hK:X.K=K)(ho:PE X o (fE K fo))(ha:PA X (a::es) (fA K fs))(hbase:attributeBase o "append" X.env (eval o X.env)=eval o X.env)
    (hfew:((backTo cpos (starEach (a::es) X.env)).all (fun x=> !x.1)&&(backToKw cpos (keywordEach [] X.env)).all (fun x=>x.1.isSome)
      &&decide ((a::es).length+([]:List Keyword).length+(if ([]:List Keyword).isEmpty then 0 else 1) < 30))=true)
    (hline:(apos.endLine==cpos.line)=true)(hs:starEach (a::es) X.env=(false,eval a X.env)::starEach es X.env)(hplain:(backTo cpos (starEach es X.env)).any (·.1)=false):
    PE X (.Call (.Attribute o "append" apos) (a::es) [] cpos) (fE K (cw bE fo fs)):=by
  subst hK;exact CY PySem.F.slot_list_append PySem.F.type_list_append jX xS ho ha hbase hfew hline hs hplain
theorem rC(hK:X.K=K)(ho:PE X o (fE K fo))(ha:PA X (a::es) (fA K fs))(hbase:attributeBase o "pop" X.env (eval o X.env)=eval o X.env)
    (hfew:((backTo cpos (starEach (a::es) X.env)).all (fun x=> !x.1)&&(backToKw cpos (keywordEach [] X.env)).all (fun x=>x.1.isSome)
      &&decide ((a::es).length+([]:List Keyword).length+(if ([]:List Keyword).isEmpty then 0 else 1) < 30))=true)
    (hline:(apos.endLine==cpos.line)=true)(hs:starEach (a::es) X.env=(false,eval a X.env)::starEach es X.env)(hplain:(backTo cpos (starEach es X.env)).any (·.1)=false):
    PE X (.Call (.Attribute o "pop" apos) (a::es) [] cpos) (fE K (cw dS fo fs)):=by
  subst hK;exact CY PySem.F.slot_list_pop PySem.F.type_list_pop yN BI ho ha hbase hfew hline hs hplain
end
end L2
namespace L2
open PySem PySem.Spec PyProof.Rows
theorem uU{K:PySem.W.Frag}{H:Hp}{a:Addr}{ns:List Int}{m:FM}{as':List Sv}{Q:VK}{E:XK}(hS:cP K H a (ns.map V.int))(hm:m [.d (.list (ns.map .int))]=some (.d (.bool true),as'))(q:∀H',Q (.bl true) H'):bP K 1 m [.ref a] H Q E:=by
  refine⟨rfl,H,[.d (.list (ns.map .int))],_,as',?_,?_,hm,trivial,fun F' H' v X' R' A'=>?_⟩
  · refine⟨aA.refl _,rfl,fun i x h=>?_,fun i xs h=>?_,fun i xss h=>?_,fun i j l f1 _=>?_⟩
    · match i,h with
      | 0,h=>
        simp at h;subst h
        exact⟨.ref a,rfl,cz.mpr ⟨a,_,rfl,hS,aP.ints.mpr rfl⟩⟩
      | i+1,h=>simp at h
    · match i,h with
      | 0,h=>simp at h
      | i+1,h=>simp at h
    · match i,h with
      | 0,h=>simp at h
      | i+1,h=>simp at h
    · rcases f1 with ⟨_,h,_⟩ | ⟨_,_,_,h,_⟩
      · match i,h with
        | 0,h=>simp at h
        | i+1,h=>simp at h
      · match i,h with
        | 0,h=>simp at h
        | i+1,h=>simp at h
  · intro i xss h
    match i,h with
    | 0,h=>simp at h
    | i+1,h=>simp at h
  · rw [dC.mp (show DA K F' (.bool true) v from A')];exact q H'
end L2
namespace L2
open PySem PySem.Spec PyProof.Rows
section
variable{K:PySem.W.Frag}{σ:L2.St}{H0 F H F' H':Hp}{e e':En}
theorem bg.putN(R:bg K F H σ e){i:Nat}{xss yss:List (List PyData)}{l:Addr}{bs:List Addr}{H':Hp}(hi:e[i]?=some (some (.n xss)))(hs:σ[i]?=some (some (.ref l)))
    (hF:F l=none)(hl:H' l=some (.lst (bs.map V.ref)))(hlen:bs.length=yss.length)(hnd:bs.Nodup)(hnl:l∉bs)(hin:∀(k:Nat) (b:Addr) (ys:List PyData),bs[k]?=some b→yss[k]?=some ys→F b=none∧∃us,H' b=some (.lst us)∧aP K F ys us)
    (hbs:∀b∈bs,Fp σ e H i b∨¬cL σ e H b)(hdom:∀a,H' a=none→H a=none)(hst:∀a o,H a=some o→a≠l→a∉bs→H' a=some o)(hlst:∀a vs,H a=some (.lst vs)→∃vs',H' a=some (.lst vs')):
    bg K F H' σ (e.set i (some (.n yss)))∧(∀a,cL σ (e.set i (some (.n yss))) H' a→cL σ e H a∨a∈bs)∧∀j:Nat,(∃xs,(e.set i (some (Sv.n yss)))[j]?=some (some (.l xs)))↔ (∃xs,e[j]?=some (some (.l xs))):=by
  have hlt:i < e.length:=(List.getElem?_eq_some_iff.mp hi).1
  have gi:(e.set i (some (Sv.n yss)))[i]?=some (some (.n yss)):=List.getElem?_set_self hlt
  obtain⟨l0,bs0,a1,a2,a3,_⟩:=R.nst i xss hi
  rw [hs] at a1;cases a1
  have fl:Fp σ e H i l:=.inr ⟨xss,l,bs0,hi,hs,a3,.inl rfl⟩
  have own:∀j a,j≠i→Fp σ e H j a→a≠l∧a∉bs:=fun j a hj hq=>by
    refine⟨fun z=>hj (R.fp j i a hq (by rw [z];exact fl)),fun z=>?_⟩
    rcases hbs a z with h | h
    · exact hj (R.fp j i a hq h)
    · exact h ⟨j,hq⟩
  have fpi:∀a,Fp σ (e.set i (some (.n yss))) H' i a→a=l∨a∈bs:=fun a q=>by
    rcases q with ⟨zs,q,_⟩ | ⟨zss,l',bs',q,q2,q3,q4⟩
    · rw [gi] at q;cases q
    · rw [hs] at q2;cases q2
      rw [hl] at q3
      have e1:bs=bs':=List.map_inj_right (fun _ _ z=>V.ref.inj z) |>.mp (HO.lst.inj (Option.some.inj q3))
      subst e1;exact q4
  obtain⟨R',fs⟩:=R.upd1 (F':=F) (H':=H') (e':=e.set i (some (.n yss))) i (by rw [List.length_set];exact R.len) (fun _ _=>rfl) (fun j hj=>List.getElem?_set_ne (Ne.symm hj)) (aA.refl F)
    (fun b o q=>by
      have z1:b≠l:=fun z=>by rw [z,hF] at q;cases q
      have z2:b∉bs:=fun z=>by
        obtain⟨k,hk⟩:=List.getElem?_of_mem z
        have hk2:k < yss.length:=by rw [←hlen];exact(List.getElem?_eq_some_iff.mp hk).1
        rw [(hin k b yss[k] hk (List.getElem?_eq_getElem hk2)).1] at q;cases q
      exact hst b o (R.sm b o q) z1 z2)
    (fun j a _ q=>(R.fpAt q).1) (fun j a o hj q ha=>let ⟨z1,z2⟩:=own j a hj q;hst a o ha z1 z2)
    (fun x q=>by rw [gi] at q;cases q) (fun zs q=>by rw [gi] at q;cases q) (fun zss q=>by rw [gi] at q;cases q;exact⟨l,bs,hs,hF,hl,hlen,hnd,hnl,hin⟩)
    (fun a j hj q q2=>by
      obtain⟨z1,z2⟩:=own j a hj q2
      exact(fpi a q).elim z1 z2)
  refine⟨R',fun a ⟨j,q⟩=>?_,fun j=>?_⟩
  · by_cases z:j=i
    · subst z
      rcases fpi a q with z | z
      · exact .inl ⟨j,by rw [z];exact fl⟩
      · exact .inr z
    · exact .inl ⟨j,(fs j a z).mp q⟩
  · by_cases z:j=i
    · subst z;rw [gi,hi];simp
    · rw [List.getElem?_set_ne (Ne.symm z)]
theorem bg.frzN(R:bg K F H σ e){i:Nat}{xss:List (List PyData)}(hi:e[i]?=some (some (.n xss))):∃F' v,σ[i]?=some (some v)∧DA K F' (.list (xss.map .list)) v∧bg K F' H σ (e.set i (some (.d (.list (xss.map .list)))))∧dg σ F H e F' H (e.set i (some (.d (.list (xss.map .list))))):=by
  obtain⟨l,bs,a1,a2,a3,a4,a5,a6,a7⟩:=R.nst i xss hi
  have hlt:i < e.length:=(List.getElem?_eq_some_iff.mp hi).1
  have inF:∀a,a=l∨a∈bs→Fp σ e H i a:=fun a h=>.inr ⟨xss,l,bs,hi,a1,a3,h⟩
  let F':Hp:=fun a=>if a=l∨a∈bs then H a else F a
  have pos:∀a,(a=l∨a∈bs)→F' a=H a:=fun a h=>if_pos h
  have neg:∀a,¬(a=l∨a∈bs)→F' a=F a:=fun a h=>if_neg h
  have sF:aA F F':=fun b o q=>by
    have z:¬(b=l∨b∈bs):=fun z=>by rw [(R.fpAt (inF b z)).1] at q;cases q
    rw [neg b z];exact q
  have sm:aA F' H:=fun b o q=>by
    by_cases z:b=l∨b∈bs
    · rw [pos b z] at q;exact q
    · rw [neg b z] at q;exact R.sm b o q
  have dd:∀(cs:List Addr) (yss:List (List PyData)),cs.length=yss.length→(∀(k:Nat) (b:Addr) (ys:List PyData),cs[k]?=some b→yss[k]?=some ys→b∈bs∧∃us,H b=some (.lst us)∧aP K F ys us)→aP K F' (yss.map .list) (cs.map V.ref):=by
    intro cs
    induction cs with
    | nil=>
      intro yss h _
      cases yss with
      | nil=>exact aP.nil
      | cons _ _=>simp at h
    | cons c cs ih=>
      intro yss h hh
      cases yss with
      | nil=>simp at h
      | cons ys yss=>
        obtain⟨c1,us,c2,c3⟩:=hh 0 c ys rfl rfl
        refine aP.cons (cz.mpr ⟨c,us,rfl,.inl (.inl ?_),c3.mono sF⟩) (ih yss (by simpa using h) fun k b zs q1 q2=>hh (k+1) b zs (by simpa using q1) (by simpa using q2))
        rw [pos c (.inr c1)];exact c2
  have da:DA K F' (.list (xss.map .list)) (.ref l):=cz.mpr ⟨l,_,rfl,.inl (.inl (by rw [pos l (.inl rfl)];exact a3)),dd bs xss a4 fun k b ys q1 q2=>by
    obtain⟨_,us,c2,c3⟩:=a7 k b ys q1 q2
    exact⟨List.mem_of_getElem? q1,us,c2,c3⟩⟩
  have gi:(e.set i (some (Sv.d (.list (xss.map .list)))))[i]?=some (some (.d (.list (xss.map .list)))):=List.getElem?_set_self hlt
  have nofp:∀a,¬Fp σ (e.set i (some (.d (.list (xss.map .list))))) H i a:=fun a q=>by
    rcases q with ⟨zs,q,_⟩ | ⟨xss,_,_,q,_⟩
    · rw [gi] at q;cases q
    · rw [gi] at q;cases q
  obtain⟨R',fs⟩:=R.upd1 (F':=F') (H':=H) (e':=e.set i (some (.d (.list (xss.map .list))))) i (by rw [List.length_set];exact R.len) (fun _ _=>rfl) (fun j hj=>List.getElem?_set_ne (Ne.symm hj)) sF sm
    (fun j a hj q=>by
      rw [neg a fun z=>hj (R.fp j i a q (inF a z))]
      exact(R.fpAt q).1)
    (fun j a o _ _ ha=>ha) (fun x q=>by rw [gi] at q;cases q;exact⟨_,a1,da⟩) (fun zs q=>by rw [gi] at q;cases q) (fun zss q=>by rw [gi] at q;cases q) (fun a j hj q=>absurd q (nofp a))
  refine⟨F',.ref l,a1,da,R',⟨sF,fun _ h=>h,fun a vs h1 h2 h3=>?_,fun a vs h=>⟨vs,h⟩,fun _ _ h _=>h,fun j=>?_,fun a ⟨j,q⟩=>?_⟩⟩
  · rw [neg a fun z=>h3 ⟨i,inF a z⟩];exact h1
  · by_cases z:j=i
    · subst z;rw [gi,hi];simp
    · rw [List.getElem?_set_ne (Ne.symm z)]
  · by_cases z:j=i
    · subst z;exact absurd q (nofp a)
    · exact .inl ⟨j,(fs j a z).mp q⟩
theorem bg.setN(R:bg K F H σ e)(i:Nat){l:Addr}(h1:F l=none)(h2:H l=some (.lst []))(h4:¬cL σ e H l):bg K F H (σ.set i (some (.ref l))) (e.set i (some (.n [])))∧∀a,cL (σ.set i (some (.ref l))) (e.set i (some (.n []))) H a→cL σ e H a∨a=l:=by
  have gi:∀s,(e.set i (some (Sv.n [])))[i]?=some (some s)→s=.n []∧i < e.length:=fun s q=>by
    have hlt:i < e.length:=by have:=(List.getElem?_eq_some_iff.mp q).1;simpa using this
    rw [List.getElem?_set_self hlt] at q
    exact⟨(Option.some.inj (Option.some.inj q)).symm,hlt⟩
  have onefp:∀a,Fp (σ.set i (some (.ref l))) (e.set i (some (.n []))) H i a→a=l:=fun a q=>by
    rcases q with ⟨zs,q,q2⟩ | ⟨xss,l',bs,q,q2,q3,q4⟩
    · cases (gi _ q).1
    · obtain⟨_,hlt⟩:=gi _ q
      rw [List.getElem?_set_self (by rw [R.len];exact hlt)] at q2
      cases q2
      rw [h2] at q3
      have:bs=[]:=by
        cases bs with
        | nil=>rfl
        | cons _ _=>have z:=HO.lst.inj (Option.some.inj q3);simp at z
      subst this
      exact q4.elim id fun z=>by cases z
  obtain⟨R',fs⟩:=R.upd1 (F':=F) (H':=H) (σ':=σ.set i (some (.ref l))) (e':=e.set i (some (.n []))) i (by rw [List.length_set,List.length_set];exact R.len) (fun j hj=>List.getElem?_set_ne (Ne.symm hj)) (fun j hj=>List.getElem?_set_ne (Ne.symm hj)) (aA.refl F) R.sm
    (fun j a _ q=>(R.fpAt q).1) (fun j a o _ _ ha=>ha) (fun y q=>by cases (gi _ q).1) (fun zs q=>by cases (gi _ q).1)
    (fun zss q=>by
      obtain⟨z,hlt⟩:=gi _ q
      cases z
      exact⟨l,[],List.getElem?_set_self (by rw [R.len];exact hlt),h1,h2,rfl,List.nodup_nil,by simp,fun k b ys q=>by simp at q⟩)
    (fun a j hj q q2=>h4 ⟨j,by rw [onefp a q] at q2;exact q2⟩)
  refine⟨R',fun a ⟨j,q⟩=>?_⟩
  by_cases z:j=i
  · subst z;exact .inr (onefp a q)
  · exact .inl ⟨j,(fs j a z).mp q⟩
end
def ci(e:En)(i:Nat):Option (List (List PyData)):=match e[i]? with
  | some (some (.n xss))=>some xss
  | _=>none
theorem fX{e:En}{i:Nat}{xss:List (List PyData)}(h:ci e i=some xss):e[i]?=some (some (.n xss)):=by
  unfold ci at h
  split at h
  · rename_i heq;cases h;exact heq
  · cases h
section
variable{X:Cx}{K:PySem.W.Frag}{a b:Expr}{es:List Expr}{fa fb:FE}{fs:FA}{pos p p2 p3 pos':Pos}{x:Str}{i:Nat}
def zQ(i:Nat):FS:=fun e=>some (.nx (e.set i (some (.n []))))
theorem BW(hN:X.N.Nodup)(hi:X.N[i]?=some x)(hx:Dd X.env.scope x)(hs:swapsWith (.List [] p) (some (.Name x pos')) pos.line X.env=pure false)(hf:X.fn x=true∨X.env.scope.names.lookup x=some .local):
    PS X (.Assign [.Name x pos'] (.List [] p) pos) (fS K (zQ i) [i]):=(zt hN hi hx (y6 lZ) hs hf).mono fun D σ H h=>by
  obtain⟨F,e,fl,R,hf,q⟩:=h
  cases hf
  refine⟨Nat.zero_le _,fun l hl=>?_⟩
  obtain⟨R1,X1,f1,n1⟩:=R.newL (vs:=[]) hl
  obtain⟨R2,o2⟩:=R1.setN i f1 ar n1
  refine q F _ _ ⟨X1.sf,X1.dom,X1.fr,X1.lst,X1.tmp,fun a h=>?_,fun j n=>List.getElem?_set_ne (fun z=>n (by simp [z]))⟩ R2
  rcases o2 a h with z | z
  · exact X1.ow a z
  · exact .inr (by rw [z];exact hl)
def fC(i:Nat):FE:=fun e=>(ci e i).map fun xss=>(.d (.int xss.length),e)
theorem rB(hK:X.K=K)(hN:X.N[i]?=some x)(hv:Ar X.env.scope x)(hd:(x==("__debug__":Str))=false)(hcd:(x==("__classdict__":Str))=false)(hg:Gl X "len")(hm:X.mg "len"=none)(hst:PySem.W.isStarred (.Name x p2)=false)
    (he:starEach [.Name x p2] X.env=(false,eval (.Name x p2) X.env)::starEach [] X.env)(hpl:(backTo pos (starEach [] X.env)).any (·.1)=false):PE X (.Call (.Name "len" p) [.Name x p2] [] pos) (fE K (fC i)):=
  (oi (wC hK) hg hm PySem.boot_len (Bv (l4 hN hv hd hcd) lZ hst) (by decide) (by decide) he hpl).mono fun σ H Q h=>by
  obtain⟨F,e,z,e',R,hf,q⟩:=h
  unfold fC at hf
  obtain⟨xss,h1,hf⟩:=Option.map_eq_some_iff.mp hf
  cases hf
  obtain⟨l,bs,a1,a2,a3,a4,_⟩:=R.nst i xss (fX h1)
  refine⟨_,a1,l,_,rfl,.inl (.inl (.inl a3)),?_⟩
  rw [List.length_map,a4]
  exact q F H _ (dg.refl _ _ _ _) R l7
def ua(i:Nat)(fa:FE):FE:=fun e=>(ci e i).bind fun _=>(fa e).bind fun p=>match p.1 with
  | .l ys=>(ci p.2 i).bind fun xss=>if xss.length < 1000000 then some (.d .none,p.2.set i (some (.n (xss++[ys])))) else none
  | _=>none
theorem Ep{apos cpos:Pos}(hK:X.K=K)(hN:X.N[i]?=some x)(hv:Ar X.env.scope x)(hd:(x==("__debug__":Str))=false)(hcd:(x==("__classdict__":Str))=false)(ha:PE X a (fE K fa))(hst:PySem.W.isStarred a=false)
    (hbase:attributeBase (.Name x p) "append" X.env (eval (.Name x p) X.env)=eval (.Name x p) X.env)
    (hfew:((backTo cpos (starEach [a] X.env)).all (fun x=> !x.1)&&(backToKw cpos (keywordEach [] X.env)).all (fun x=>x.1.isSome)
      &&decide ([a].length+([]:List Keyword).length+(if ([]:List Keyword).isEmpty then 0 else 1) < 30))=true)
    (hline:(apos.endLine==cpos.line)=true)(hs:starEach [a] X.env=(false,eval a X.env)::starEach [] X.env)(hplain:(backTo cpos (starEach [] X.env)).any (·.1)=false):
    PE X (.Call (.Attribute (.Name x p) "append" apos) [a] [] cpos) (fE K (ua i fa)):=by
  subst hK
  refine(y2 PySem.F.plainAttrs_list PySem.F.slot_list_append PySem.F.type_list_append jX (l4 hN hv hd hcd) (Bv ha lZ hst) hbase hfew hline hs hplain).mono fun σ H Q h=>?_
  obtain⟨F,e,z,e',R,hf,q⟩:=h
  unfold ua at hf
  obtain⟨xss0,h0,hf⟩:=Option.bind_eq_some_iff.mp hf
  obtain⟨⟨r,e1⟩,h1,hf⟩:=Option.bind_eq_some_iff.mp hf
  match r,h1,hf with
  | .l ys,h1,hf=>
  obtain⟨xss,h2,hf⟩:=Option.bind_eq_some_iff.mp hf
  split at hf
  case isFalse=>cases hf
  case isTrue hlen=>
  cases hf
  obtain⟨l,bs0,a1,_,a3,_⟩:=R.nst i xss0 (fX h0)
  refine⟨_,a1,.inl ⟨rfl,_,.inl (.inl a3)⟩,F,e,_,e1,R,h1,fun F1 H1 v X1 R1 A1=>?_⟩
  obtain⟨t,us,rfl,t1,t2,t3,t4,t5⟩:=A1
  have h2':=fX h2
  obtain⟨l',bs,c1,c2,c3,c4,c5,c6,c7⟩:=R1.nst i xss h2'
  rw [a1] at c1;cases c1
  have fi:∀z,z=l∨z∈bs→Fp σ e1 H1 i z:=fun z h=>.inr ⟨xss,l,bs,h2',a1,c3,h⟩
  have tl:t≠l:=fun z=>t5 ⟨i,fi t (.inl z)⟩
  have tb:t∉bs:=fun z=>t5 ⟨i,fi t (.inr z)⟩
  have sl:sizeLine=16777216:=sizeLine_eq
  refine⟨l,_,_,rfl,rfl,c3,by rw [List.length_map,c4];lia,?_⟩
  have em:bs.map V.ref++[V.ref t]=(bs++[t]).map V.ref:=by simp
  rw [em]
  obtain⟨R2,o2,s2⟩:=R1.putN (yss:=xss++[ys]) (bs:=bs++[t]) (H':=a' H1 l (.lst ((bs++[t]).map V.ref))) h2' a1 c2 ar (by simp [c4]) (by
      rw [List.nodup_append]
      exact⟨c5,by simp,fun x hx y hy=>by simp at hy;subst hy;exact fun z=>tb (z ▸ hx)⟩) (by simp [c6,Ne.symm tl]) (fun k b zs q1 q2=>by
      rw [List.getElem?_append] at q1 q2
      rw [c4] at q1
      by_cases hk:k < xss.length
      · rw [if_pos hk] at q1 q2
        obtain⟨d1,us',d2,d3⟩:=c7 k b zs q1 q2
        have zb:b≠l:=fun z=>c6 (z ▸ List.mem_of_getElem? q1)
        exact⟨d1,us',by rw [aw zb];exact d2,d3⟩
      · rw [if_neg hk] at q1 q2
        have hk0:k - xss.length=0:=by
          have:=(List.getElem?_eq_some_iff.mp q1).1
          simp at this;lia
        rw [hk0] at q1 q2
        simp at q1 q2
        subst q1 q2
        exact⟨t2,us,by rw [aw tl];exact t3,t4⟩)
    (fun b hb=>by
      rcases List.mem_append.mp hb with hb | hb
      · exact .inl (fi b (.inr hb))
      · simp at hb;subst hb;exact .inr t5)
    (fun z q=>by
      by_cases e0:z=l
      · rw [e0,ar] at q;cases q
      · rw [aw e0] at q;exact q)
    (fun z o q n1 _=>by rw [aw n1];exact q) (fun z vs q=>by
      by_cases e0:z=l
      · rw [e0];exact⟨_,ar⟩
      · rw [aw e0];exact⟨vs,q⟩)
  refine q F1 _ .non ⟨X1.sf,fun z q=>X1.dom z ?_,X1.fr,fun z vs h=>?_,fun z o h n=>?_,fun j=>(s2 j).trans (X1.shp j),fun z h=>?_⟩ R2 ((fJ (K:=X.K) (F:=F1)).mpr rfl)
  · by_cases e0:z=l
    · rw [e0,ar] at q;cases q
    · rw [aw e0] at q;exact q
  · obtain⟨vs',h'⟩:=X1.lst z vs h
    by_cases e0:z=l
    · rw [e0];exact⟨_,ar⟩
    · rw [aw e0];exact⟨vs',h'⟩
  · have e0:z≠l:=fun e0=>by
      rcases X1.ow z ⟨i,fi z (.inl e0)⟩ with w | w
      · exact n w
      · rw [h] at w;cases w
    rw [aw e0];exact X1.tmp z o h n
  · rcases o2 z h with w | w
    · exact X1.ow z w
    · rcases List.mem_append.mp w with w | w
      · exact X1.ow z ⟨i,fi z (.inr w)⟩
      · simp at w;subst w;exact .inr t1
def Qt(X:Cx)(K:PySem.W.Frag)(a:Expr)(f:En→Option Int):Prop:=∃t:TE,PE X a t∧∀σ F H e i (Q:VK),bg K F H σ e→f e=some i→Q (.int i) H→t σ H Q
def wY(i:Nat):En→Option Int:=fun e=>match e[i]? with
  | some (some (.d (.int k)))=>some k
  | _=>none
theorem Ex(i:Nat)(hN:X.N[i]?=some x)(hv:Ar X.env.scope x)(hd:(x==("__debug__":Str))=false)(hcd:(x==("__classdict__":Str))=false):Qt X K (.Name x pos) (wY i):=⟨_,l4 hN hv hd hcd,fun σ F H e k Q R hf q=>by
  unfold wY at hf
  split at hf
  · rename_i heq
    cases hf
    obtain⟨v,h1,h2⟩:=R.dat i _ heq
    exact⟨v,h1,by rw [bV.mp h2];exact q⟩
  · cases hf⟩
def nC(k:Int):En→Option Int:=fun _=>some k
theorem Ew{k:Int}{j}:Qt X K (.Constant (.int k) j pos) (nC k):=⟨_,rA,fun σ F H e i Q R hf q=>by cases hf;exact q⟩
def wX(f g:En→Option Int):En→Option Int:=fun e=>(f e).bind fun i=>(g e).map fun j=>i+j
theorem Eu{f g:En→Option Int}(ha:Qt X K a f)(hb:Qt X K b g):Qt X K (.BinOp a .Add b pos) (wX f g):=by
  obtain⟨ta,h1,h2⟩:=ha
  obtain⟨tb,h3,h4⟩:=hb
  refine⟨_,CV yW h1 h3,fun σ F H e k Q R hf q=>?_⟩
  unfold wX at hf
  obtain⟨i,g1,hf⟩:=Option.bind_eq_some_iff.mp hf
  obtain⟨j,g2,hf⟩:=Option.map_eq_some_iff.mp hf
  cases hf
  exact h2 σ F H e i _ R g1 (h4 σ F H e j _ R g2 ⟨i,j,rfl,rfl,q⟩)
def p0(i:Nat)(fv fp:FE)(fq:En→Option Int):FS:=fun e=>(fv e).bind fun r=>(ki r.1).bind fun d=>(ci r.2 i).bind fun _=>(fp r.2).bind fun p=>(bM p.1).bind fun k=>(ci p.2 i).bind fun xss=>(mT xss.length k).bind fun kn=>(xss[kn]?).bind fun ys=>(fq p.2).bind fun j=>(mT ys.length j).map fun jn=>.nx (p.2.set i (some (.n (xss.set kn (ys.set jn d)))))
theorem BX{c pq:Expr}{fv fp:FE}{fq:En→Option Int}{ps ps2:Pos}(hK:X.K=K)(he:PE X c (fE K fv))(hN:X.N[i]?=some x)(hv:Ar X.env.scope x)(hd:(x==("__debug__":Str))=false)(hcd:(x==("__classdict__":Str))=false)(hp:PE X a (fE K fp))(hpl:mY a)(hq:Qt X K pq fq)
    (ha:∀v,assign (.Subscript (.Subscript (.Name x p) a ps2) pq ps) X.env v=(do
      let ov ←holding [v] (eval (.Subscript (.Name x p) a ps2) X.env)
      let iv ←holding [v,ov] (eval pq X.env)
      standAt ps
      holding [v,ov,iv] (setItem ov iv v)
      release [v,ov,iv] []))
    (hs:swapsWithSole [.Subscript (.Subscript (.Name x p) a ps2) pq ps] c pos.line X.env=pure false)(hw:swappedStores [.Subscript (.Subscript (.Name x p) a ps2) pq ps] c X.env=pure none)
    (h1:(assignEach [.Subscript (.Subscript (.Name x p) a ps2) pq ps] X.env).map (·.2)=[assign (.Subscript (.Subscript (.Name x p) a ps2) pq ps) X.env]):
    PS X (.Assign [.Subscript (.Subscript (.Name x p) a ps2) pq ps] c pos) (fS K (p0 i fv fp fq) []):=by
  obtain⟨tq,q1,q2⟩:=hq
  refine(uQ he (y_ (CU (yE hK) (l4 hN hv hd hcd) hp hpl) q1 tT ha) hs hw h1).mono fun D σ H h=>?_
  obtain⟨F,e,fl,R,hf,q⟩:=h
  unfold p0 at hf
  obtain⟨⟨r,e1⟩,g1,hf⟩:=Option.bind_eq_some_iff.mp hf
  obtain⟨d,g2,hf⟩:=Option.bind_eq_some_iff.mp hf
  obtain⟨xs0,g3,hf⟩:=Option.bind_eq_some_iff.mp hf
  obtain⟨⟨rp,e2⟩,g4,hf⟩:=Option.bind_eq_some_iff.mp hf
  obtain⟨k,g5,hf⟩:=Option.bind_eq_some_iff.mp hf
  obtain⟨xss,g6,hf⟩:=Option.bind_eq_some_iff.mp hf
  obtain⟨kn,g7,hf⟩:=Option.bind_eq_some_iff.mp hf
  obtain⟨ys,g8,hf⟩:=Option.bind_eq_some_iff.mp hf
  obtain⟨j,g9,hf⟩:=Option.bind_eq_some_iff.mp hf
  obtain⟨jn,g10,hf⟩:=Option.map_eq_some_iff.mp hf
  cases hf
  refine⟨F,e,r,e1,R,g1,fun F1 H1 v X1 R1 A1=>?_⟩
  obtain⟨l,bs0,a1,_⟩:=R1.nst i xs0 (fX g3)
  refine⟨_,a1,F1,e1,rp,e2,R1,g4,fun F2 H2 w X2 R2 A2=>?_⟩
  have X12:=X1.trans X2
  obtain⟨F3,R3,s3,d3,f3⟩:=cO.frozen R2 (rs:=[r]) (vs:=[v]) ⟨v,[],rfl,A1.ext X2,rfl⟩ (jR g2)
  have X13:=X12.frz s3 f3
  have g6':=fX g6
  obtain⟨l',bs,c1,c2,c3,c4,c5,c6,c7⟩:=R3.nst i xss g6'
  rw [a1] at c1;cases c1
  obtain⟨b,hb⟩:∃b,bs[kn]?=some b:=⟨bs[kn]'(by rw [c4];exact(List.getElem?_eq_some_iff.mp g8).1),List.getElem?_eq_getElem _⟩
  obtain⟨b1,us,b2,b3⟩:=c7 kn b ys hb g8
  have fi:∀z,z=l∨z∈bs→Fp σ e2 H2 i z:=fun z h=>.inr ⟨xss,l,bs,g6',a1,c3,h⟩
  have bm:b∈bs:=List.mem_of_getElem? hb
  have bl:b≠l:=fun z=>c6 (z ▸ bm)
  refine⟨l,_,k,.ref b,rfl,cq A2 g5,.inl (.inl c3),?_,q2 σ F3 H2 e2 j _ R3 g9 ?_⟩
  · unfold atI
    rw [List.length_map,c4,g7]
    show(bs.map V.ref)[kn]?=_
    rw [List.getElem?_map,hb];rfl
  refine⟨b,us,j,jn,rfl,rfl,b2,by rw [←b3.len];exact g10,?_⟩
  have dv:DA K F3 d v:=by
    simp only [aP] at d3
    obtain⟨v',r',e',hv,_⟩:=d3
    cases e';exact hv
  obtain⟨R4,o4,s4⟩:=R3.putN (yss:=xss.set kn (ys.set jn d)) (bs:=bs) (H':=a' H2 b (.lst (us.set jn v))) g6' a1 c2 (by rw [aw (Ne.symm bl)];exact c3) (by simp [c4]) c5 c6 (fun m z zs z1 z2=>by
      by_cases em:m=kn
      · subst em
        rw [hb] at z1;cases z1
        rw [List.getElem?_set_self (by exact(List.getElem?_eq_some_iff.mp g8).1)] at z2
        cases z2
        exact⟨b1,_,ar,b3.set dv jn⟩
      · rw [List.getElem?_set_ne (Ne.symm em)] at z2
        obtain⟨d1,us',d2,d3⟩:=c7 m z zs z1 z2
        have zb:z≠b:=fun ez=>by
          subst ez
          exact em ((List.getElem?_inj (List.getElem?_eq_some_iff.mp z1).1 c5).mp (z1.trans hb.symm))
        exact⟨d1,us',by rw [aw zb];exact d2,d3⟩)
    (fun z hz=>.inl (fi z (.inr hz)))
    (fun z q=>by
      by_cases e0:z=b
      · rw [e0,ar] at q;cases q
      · rw [aw e0] at q;exact q)
    (fun z o q _ n2=>by
      have e0:z≠b:=fun e0=>n2 (by rw [e0];exact bm)
      rw [aw e0];exact q) (fun z vs q=>by
      by_cases e0:z=b
      · rw [e0];exact⟨_,ar⟩
      · rw [aw e0];exact⟨vs,q⟩)
  refine q F3 _ σ ⟨X13.sf,fun z q=>X13.dom z ?_,X13.fr,fun z vs h=>?_,fun z o h n=>?_,fun z h=>?_,fun _ _=>rfl⟩ R4
  · by_cases e0:z=b
    · rw [e0,ar] at q;cases q
    · rw [aw e0] at q;exact q
  · obtain⟨vs',h'⟩:=X13.lst z vs h
    by_cases e0:z=b
    · rw [e0];exact⟨_,ar⟩
    · rw [aw e0];exact⟨vs',h'⟩
  · have e0:z≠b:=fun e0=>by
      rcases X13.ow z ⟨i,fi z (.inr (by rw [e0];exact bm))⟩ with w | w
      · exact n w
      · rw [h] at w;cases w
    rw [aw e0];exact X13.tmp z o h n
  · rcases o4 z h with w | w
    · exact X13.ow z w
    · exact X13.ow z ⟨i,fi z (.inr w)⟩
def yx(i:Nat):FI:=fun e=>(ci e i).map fun xss=>(xss.map .list,[],e.set i (some (.d (.list (xss.map .list)))))
theorem BV{tg:Expr}(hK:X.K=K)(hN:X.N[i]?=some x)(hv:Ar X.env.scope x)(hd:(x==("__debug__":Str))=false)(hcd:(x==("__classdict__":Str))=false):PI X tg (.Name x pos) (fI K (yx i)):=(sZ (tg:=tg) hK (l4 hN hv hd hcd)).mono fun σ H R hh=>by
  obtain⟨F,e,items,own,e',R0,hf,q⟩:=hh
  unfold yx at hf
  obtain⟨xss,h1,hf⟩:=Option.map_eq_some_iff.mp hf
  cases hf
  obtain⟨F',v,c1,c2,R1,X1⟩:=R0.frzN (fX h1)
  obtain⟨l,vs,rfl,d1,d2⟩:=cz.mp c2
  exact⟨_,c1,l,rfl,⟨vs,R1.sm.seq d1⟩,q _ F' H X1 R1 (fun _ h=>by cases h) (pT (.lst d1 d2))⟩
def Cj(fo fa:FE):FE:=fun e=>(fo e).bind fun o=>(fa o.2).bind fun p=>match p.1 with
  | .l ys=>(ky p.2 o.1).bind fun s=>if s.2.length+ys.length≤1000000 then some (.d .none,p.2.set s.1 (some (.l (s.2++ys)))) else none
  | _=>none
theorem zw{o:Expr}{fo:FE}{apos cpos:Pos}(hK:X.K=K)(ho:PE X o (fE K fo))(ha:PE X a (fE K fa))(hst:PySem.W.isStarred a=false)
    (hbase:attributeBase o "extend" X.env (eval o X.env)=eval o X.env)
    (hfew:((backTo cpos (starEach [a] X.env)).all (fun x=> !x.1)&&(backToKw cpos (keywordEach [] X.env)).all (fun x=>x.1.isSome)
      &&decide ([a].length+([]:List Keyword).length+(if ([]:List Keyword).isEmpty then 0 else 1) < 30))=true)
    (hline:(apos.endLine==cpos.line)=true)(hs:starEach [a] X.env=(false,eval a X.env)::starEach [] X.env)(hplain:(backTo cpos (starEach [] X.env)).any (·.1)=false):
    PE X (.Call (.Attribute o "extend" apos) [a] [] cpos) (fE K (Cj fo fa)):=by
  subst hK
  refine(y2 PySem.F.plainAttrs_list PySem.F.slot_list_extend PySem.F.type_list_extend wW ho (Bv ha lZ hst) hbase hfew hline hs hplain).mono fun σ H Q h=>?_
  obtain⟨F,e,z,e',R,hf,q⟩:=h
  unfold Cj at hf
  obtain⟨⟨ro,e1⟩,h1,hf⟩:=Option.bind_eq_some_iff.mp hf
  obtain⟨⟨r,e2⟩,h2,hf⟩:=Option.bind_eq_some_iff.mp hf
  match r,h2,hf with
  | .l ys,h2,hf=>
  obtain⟨⟨n,xs⟩,h3,hf⟩:=Option.bind_eq_some_iff.mp hf
  split at hf
  case isFalse=>cases hf
  case isTrue hlen=>
  cases hf
  obtain⟨z3,h3'⟩:=p8 h3
  dsimp only at z3 h3'
  subst z3
  refine⟨F,e,_,e1,R,h1,fun F1 H1 v X1 R1 A1=>?_⟩
  obtain⟨s1,zs,s2⟩:=A1
  obtain⟨l,vs,c1,c2,c3,c4⟩:=R1.own n zs s2
  rw [s1] at c1;cases c1
  refine⟨.inl ⟨rfl,vs,.inl (.inl c3)⟩,F1,e1,_,e2,R1,h2,fun F2 H2 w X2 R2 A2=>?_⟩
  obtain⟨t,us,rfl,t1,t2,t3,t4,t5⟩:=A2
  obtain⟨l',vs',d1,d2,d3,d4⟩:=R2.own n xs h3'
  rw [s1] at d1;cases d1
  have l1:=d4.len
  have l2:=t4.len
  have sl:sizeLine=16777216:=sizeLine_eq
  dsimp only at hlen
  refine⟨l,t,vs',us,rfl,rfl,d3,t3,by lia,?_⟩
  obtain⟨R3,X3⟩:=R2.putL h3' s1 (d4.append t4)
  exact q _ _ _ ((X1.trans X2).trans X3) R3 ((fJ (K:=X.K) (F:=F2)).mpr rfl)
end
end L2
namespace L2
open PySem PySem.Spec PyProof.Rows
theorem lO{C:Int→Int→Bool}{f:Int→Int→PyData}{e:En}{i j:Int}(h:C i j=true):gI C f e (.d (.int i)) (.d (.int j))=some (.d (f i j)):=by simp [gI,bM,h]
theorem eO{e:En}{i j:Int}:bD e (.d (.int i)) (.d (.int j))=some (.d (.int (i+j))):=rfl
theorem cJ{e:En}{i j:Int}:fg e (.d (.int i)) (.d (.int j))=some (.d (.int (i - j))):=rfl
theorem cV{e:En}{i j:Int}(h:km i j=true):c_ e (.d (.int i)) (.d (.int j))=some (.d (.int (i*j))):=by
  unfold c_ xO sy;rw [lO h];rfl
theorem nW{i j:Int}(h1: -(2 ^ 64) < i)(h2:i < 2 ^ 64):km i j=true:=by
  have:i4 i=true:=by unfold i4;rw [decide_eq_true h1,decide_eq_true h2];rfl
  unfold km;rw [this];simp
theorem rf{i j:Int}(h1: -(2 ^ 64) < j)(h2:j < 2 ^ 64):km i j=true:=by
  have:i4 j=true:=by unfold i4;rw [decide_eq_true h1,decide_eq_true h2];rfl
  unfold km;rw [this];simp
theorem rc{i j:Int}(h1:Bt 4000 i)(h2:Bt 4000 j):km i j=true:=by unfold km;rw [iR.mpr h1,iR.mpr h2];simp
theorem aS{e:En}{i j:Int}(h:0 < j):a9 e (.d (.int i)) (.d (.int j))=some (.d (.int (i % j))):=by
  unfold a9;rw [lO (by simp;lia)]
  rw [Int.fmod_eq_emod_of_nonneg i (by lia)]
theorem el{e:En}{i j:Int}(h:0 < j)(h2:Bt 8000 j):dm e (.d (.int i)) (.d (.int j))=some (.d (.int (i / j))):=by
  unfold dm;rw [lO (by simp [iR.mpr h2];lia)]
  rw [Int.fdiv_eq_ediv_of_nonneg i (by lia)]
theorem fK{e:En}{i j:Int}{neg:Bool}:bO neg e (.d (.int i)) (.d (.int j))=some (.d (.bool (if neg then !(i==j) else i==j))):=by
  unfold bO;simp [iD,SeqAt.shaped,PyData.canLay0,PyData.depth,PyData.eqv]
theorem ib{e:En}{i j:Int}:xN e (.d (.int i)) (.d (.int j))=some (.d (.bool (decide (i < j)))):=rfl
theorem h_{e:En}{i j:Int}:Ih e (.d (.int i)) (.d (.int j))=some (.d (.bool (decide (i≤j)))):=rfl
theorem hX{e:En}{i j:Int}:Fw e (.d (.int i)) (.d (.int j))=some (.d (.bool (decide (j < i)))):=rfl
theorem hV{e:En}{i j:Int}:AQ e (.d (.int i)) (.d (.int j))=some (.d (.bool (decide (j≤i)))):=rfl
theorem eP{e:En}{i j:Int}:g2 yr e [.d (.int i),.d (.int j)]=some (.d (.int (min i j))):=by
  show some (Rv.d (.int (if j < i then j else i)))=_
  congr 3
  split<;>lia
theorem dM{e:En}{i j:Int}:g2 oY e [.d (.int i),.d (.int j)]=some (.d (.int (max i j))):=by
  show some (Rv.d (.int (if j > i then j else i)))=_
  congr 3
  split<;>lia
theorem eQ{e:En}{i:Int}:kQ e (.d (.int i))=some (.d (.int (-i))):=rfl
theorem dn{e:En}{b:Bool}:g1 sv e [.d (.bool b)]=some (.d (.int (if b then 1 else 0))):=rfl
theorem eN{e:En}{i:Int}:g1 uu e [.d (.int i)]=some (.d (.int i.natAbs)):=by
  show some (Rv.d (.int (if i < 0 then -i else i)))=_
  congr 3
  split<;>lia
theorem lK{j:Int}(h1:0 < j)(h2:j < 2 ^ 64):Bt 8000 j:=Bt.mono (m:=64) (by unfold Bt;lia) (by decide)
theorem f_{α:Type}{xs:List α}{i:Int}(h0:0≤i)(h:i < xs.length):atI xs i=xs[i.toNat]?:=by
  unfold atI mT
  rw [if_pos h0,if_pos h];rfl
theorem kP{e:En}{i:Nat}{xs:List PyData}{neg:Bool}(h:e[i]?=some (some (.l xs)))(hs:SeqAt.shaped (.list xs)=true):bO neg e (.s i) (.l [])=some (.d (.bool (if neg then !xs.isEmpty else xs.isEmpty))):=by
  unfold bO
  simp only [iD,h,Option.bind_some,hs]
  have h0:SeqAt.shaped (.list [])=true:=by simp [SeqAt.shaped,PyData.canLay0,PyData.canLayAll0,PyData.depth,PyData.depthAll]
  rw [h0]
  cases xs<;>simp [PyData.eqv,PyData.eqvAll]
theorem jJ(ns:List Int):SeqAt.shaped (.list (ns.map .int))=true∧SeqAt.shaped (.tuple (ns.map .int))=true:=by
  have h1:PyData.canLayAll0 (ns.map PyData.int)=true:=by
    induction ns with
    | nil=>rfl
    | cons n r ih=>simp [PyData.canLayAll0,PyData.canLay0,ih]
  have h2:PyData.depthAll (ns.map PyData.int)=0:=by
    clear h1
    induction ns with
    | nil=>rfl
    | cons n r ih=>simp [PyData.depthAll,PyData.depth,ih]
  constructor<;>simp [SeqAt.shaped,PyData.canLay0,PyData.depth,h1,h2]
theorem dI{own:ii}{g:FG}{f:FS}(P:Nat→En→Prop):∀(items:List PyData) (k:Nat) (e:En),(∀i x e,items[i]?=some x→P (k+i) e→∃e1 e2,g x e=some e1∧f e1=some (.nx e2)∧keeps own e2∧P (k+i+1) e2)→P k e→∃e',kj own g f items e=some (.nx e')∧P (k+items.length) e'
  | [],k,e,_,h=>⟨e,rfl,h⟩
  | x::r,k,e,hs,h=>by
    obtain⟨e1,e2,h1,h2,h3,h4⟩:=hs 0 x e rfl h
    obtain⟨e',h5,h6⟩:=dI P r (k+1) e2 (fun i y e hy hp=>by
      have:=hs (i+1) y e (by simpa using hy) (by rw [show k+(i+1)=k+1+i by lia];exact hp)
      rw [show k+(i+1)+1=k+1+i+1 by lia] at this
      exact this) h4
    refine⟨e',?_,by rw [List.length_cons,show k+(r.length+1)=k+1+r.length by lia];exact h6⟩
    unfold kj
    simp only [h1,h2,Option.bind_some,if_pos h3]
    exact h5
theorem cy{e:En}:keeps [] e:=fun _ h=>by cases h
theorem ic{W:List Nat}{fi:FI}{g:FG}{f:FS}{e e1:En}{items:List PyData}(h:fi e=some (items,[],e1)):ef W fi g f e=kj [] g f items e1:=by
  unfold ef;rw [h];rfl
theorem ey{lo:Int}{n i:Nat}{x:PyData}(h:(bx lo n)[i]?=some x):x=.int (lo+i)∧i < n:=by
  unfold bx at h
  rw [List.getElem?_map] at h
  obtain⟨k,h1,rfl⟩:=Option.map_eq_some_iff.mp h
  obtain⟨h2,h3⟩:=List.getElem?_eq_some_iff.mp h1
  simp at h2 h3
  subst h3
  exact⟨rfl,h2⟩
theorem eA{lo:Int}{n:Nat}:(bx lo n).length=n:=by simp [bx]
theorem en{fs:FA}{e e1:En}{n:Int}(h:fs e=some ([.d (.int n)],e1))(h1: -1000000≤n)(h2:n≤1000000):dP fs e=some (bx 0 n.toNat,[],e1):=by
  unfold dP;rw [h]
  have:zM n=true:=by unfold zM;rw [decide_eq_true h1,decide_eq_true h2];rfl
  simp [bM,this]
theorem gQ{ft:FT}{f:FS}(P:En→Prop)(μ:En→Nat)(hs:∀e,P e→(∃e1,ft e=some (false,e1)∧True)∨∃e1 e2,ft e=some (true,e1)∧f e1=some (.nx e2)∧P e2∧μ e2 < μ e):
    ∀(n:Nat) (e:En),P e→μ e < n→∃e0 e',i6 ft f n e=some (.nx e')∧P e0∧ft e0=some (false,e'):=by
  intro n
  induction n with
  | zero=>intro e _ h;lia
  | succ n ih=>
    intro e hp hm
    rcases hs e hp with ⟨e1,h1,_⟩ | ⟨e1,e2,h1,h2,h3,h4⟩
    · exact⟨e,e1,by unfold i6;rw [h1];rfl,hp,h1⟩
    · obtain⟨e0,e',g1,g2⟩:=ih e2 h3 (by lia)
      exact⟨e0,e',by unfold i6;rw [h1];simp only [Option.bind_some,if_true,h2];exact g1,g2⟩
theorem di{cs:En}{ft:FT}{fe:FE}{b:PyData→Bool}{y:PyData→PyData}:∀(items:List PyData) (t:Option Sv) (acc:List PyData),(∀x∈items,ft (cs++[some (.d x)])=some (b x,cs++[some (.d x)]))→(∀x∈items,b x=true→fe (cs++[some (.d x)])=some (.d (y x),cs++[some (.d x)]))→
    acc.length+items.length≤1000000→∃t',bQ (aj cs.length) ft fe items (cs++[t]) acc=some (acc++(items.filter b).map y,cs++[t'])
  | [],t,acc,_,_,_=>⟨t,by simp [bQ]⟩
  | x::r,t,acc,h1,h2,hl=>by
    have hg:aj cs.length x (cs++[t])=some (cs++[some (.d x)]):=by simp [aj]
    have h1x:=h1 x (by simp)
    unfold bQ
    rw [hg]
    simp only [Option.bind_some,h1x]
    cases hb:b x with
    | true=>
      simp only [if_true,h2 x (by simp) hb,Option.bind_some,ki]
      rw [if_pos (by simp at hl;lia)]
      obtain⟨t',ih⟩:=di (b:=b) (y:=y) r (some (.d x)) (acc++[y x]) (fun z hz=>h1 z (by simp [hz])) (fun z hz=>h2 z (by simp [hz])) (by simp at hl ⊢;lia)
      exact⟨t',by rw [ih];simp [hb]⟩
    | false=>
      simp only [Bool.false_eq_true,if_false]
      obtain⟨t',ih⟩:=di (b:=b) (y:=y) r (some (.d x)) acc (fun z hz=>h1 z (by simp [hz])) (fun z hz=>h2 z (by simp [hz])) (by simp at hl;lia)
      exact⟨t',by rw [ih];simp [hb]⟩
theorem nM{fa:FE}{e e1:En}{xs:List PyData}(h:fa e=some (.d (.tuple xs),e1)):kl fa e=some (xs,[],e1):=by
  unfold kl;rw [h];rfl
theorem yy{fa:FE}{e e1:En}{xs:List PyData}(h:fa e=some (.l xs,e1)):kl fa e=some (xs,[],e1):=by
  unfold kl;rw [h];rfl
theorem e_{cp:List (Nat × Str)}{nT:Nat}{fi:FI}{g:FG}{ft:FT}{fe:FE}{e e1 cs:En}{t t':En}{items out:List PyData}(h1:fi e=some (items,[],e1))(hc:lR cp nT e1=cs++t)(hl:cs.length=cp.length)(h3:bQ g ft fe items (lR cp nT e1) []=some (out,cs++t')):ee cp nT fi g ft fe e=some (.l out,e1):=by
  have key:∀i x,e1[i]?=some (some (.l x))→∀k,lc cp i=some k→(cs++t')[k]?=some (some (.l x)):=by
    intro i x hi k hk
    obtain⟨s,hs⟩:=et hk
    have hk2:k < cp.length:=(List.getElem?_eq_some_iff.mp hs).1
    have:(lR cp nT e1)[k]?=some (some (.l x)):=by
      unfold lR
      rw [List.getElem?_append_left (by simpa using hk2),List.getElem?_map,hs]
      simp [hi,FP]
    rw [hc,List.getElem?_append_left (by lia)] at this
    rw [List.getElem?_append_left (by lia)]
    exact this
  unfold ee
  rw [h1]
  simp only [Option.bind_some,List.all_nil,if_true,h3]
  have hb:kd cp (cs++t') e1=true:=by
    unfold kd
    rw [List.all_eq_true]
    intro p hp
    match hi:e1[p.1]? with
    | none=>simp [yB]
    | some none=>simp [yB]
    | some (some (.d x))=>simp [yB]
    | some (some (.n x))=>simp [yB]
    | some (some (.l x))=>
      cases hq:lc cp p.1 with
      | none=>
        unfold lc at hq
        rw [List.findIdx?_eq_none_iff] at hq
        have:=hq p hp
        simp at this
      | some k=>simp [key p.1 x hi k hq,yB]
  rw [if_pos hb]
  congr 2
  refine List.ext_getElem? fun i=>?_
  rw [cv]
  match hi:e1[i]? with
  | none=>rfl
  | some none=>rfl
  | some (some (.d x))=>rfl
  | some (some (.n x))=>rfl
  | some (some (.l x))=>
    cases hp:lc cp i with
    | none=>simp [hp]
    | some k=>simp [hp,key i x hi k hp]
theorem eh{α:Type}{xs:List α}{i:Int}(h0:0≤i)(h1:i < xs.length):∃x∈xs,atI xs i=some x:=by
  rw [f_ h0 h1]
  exact⟨xs[i.toNat]'(by lia),List.getElem_mem _,List.getElem?_eq_getElem _⟩
theorem mC{e:En}{xs:List PyData}{i:Int}:cD e (.l xs) (.d (.int i))=(atI xs i).map .d:=rfl
theorem j6{e:En}{xs:List PyData}{i:Int}:cD e (.d (.tuple xs)) (.d (.int i))=(atI xs i).map .d:=rfl
theorem jm{e:En}{xs:List PyData}{i:Int}:cD e (.d (.list xs)) (.d (.int i))=(atI xs i).map .d:=rfl
theorem mD{e:En}{j:Nat}{xs:List PyData}{i:Int}(h:e[j]?=some (some (.l xs))):cD e (.s j) (.d (.int i))=(atI xs i).map .d:=by
  simp [cD,fm,h,bM]
theorem jq{e:En}{xs:List PyData}:g1 fL e [.d (.tuple xs)]=some (.d (.int xs.length)):=rfl
theorem ia{e:En}{xs:List PyData}:g1 fL e [.d (.list xs)]=some (.d (.int xs.length)):=rfl
theorem jo{e:En}{xs:List PyData}:g1 fL e [.l xs]=some (.d (.int xs.length)):=rfl
theorem jp{e:En}{j:Nat}{xs:List PyData}(h:e[j]?=some (some (.l xs))):g1 fL e [.s j]=some (.d (.int xs.length)):=by
  simp [g1,fL,fm,h]
theorem eS{e:En}{j:Nat}{xs:List PyData}(h:e[j]?=some (some (.l xs))):g1 dc e [.s j]=some (.d (.tuple xs)):=by
  simp [g1,dc,fm,h]
theorem eR{e:En}{xs:List PyData}:g1 dc e [.l xs]=some (.d (.tuple xs)):=rfl
theorem dq{e:En}{xs:List PyData}:g1 dc e [.d (.list xs)]=some (.d (.tuple xs)):=rfl
theorem eT{e:En}{xs:List PyData}:g1 dc e [.d (.tuple xs)]=some (.d (.tuple xs)):=rfl
theorem mE{e:En}{xs:List PyData}{lo hi:Option Int}:G2 e (.d (.tuple xs)) lo hi=some (.d (.tuple (gS xs lo hi))):=rfl
theorem jl{e:En}{xs ys:List PyData}(h:xs.length+ys.length≤1000000):bD e (.d (.tuple xs)) (.d (.tuple ys))=some (.d (.tuple (xs++ys))):=by
  simp [bD,xO,yo,gI,bM,sr,fm,h]
theorem yt{e:En}{i j:Int}(h:j≠0):a9 e (.d (.int i)) (.d (.int j))=some (.d (.int (i.fmod j))):=by
  unfold a9;rw [lO (by simpa using h)]
theorem vG{e:En}{i j:Int}(h:j≠0)(h2:Bt 8000 j):dm e (.d (.int i)) (.d (.int j))=some (.d (.int (i.fdiv j))):=by
  unfold dm;rw [lO (by simp [iR.mpr h2,h])]
theorem jr{e:En}{i j:Int}(h:zp i j=true):qP e (.d (.int i)) (.d (.int j))=some (.d (.int (i ^ j.toNat))):=by
  unfold qP;rw [lO h]
theorem lg:zp 10 18=true:=by decide
theorem cn{f g:FS}{e e1:En}(h:f e=some (.nx e1)):aD f g e=g e1:=by unfold aD;rw [h];rfl
theorem C2{ft:FT}{f g:FS}{e e1:En}(h:ft e=some (true,e1)):i3 ft f g e=f e1:=by unfold i3;rw [h];rfl
theorem C1{ft:FT}{f g:FS}{e e1:En}(h:ft e=some (false,e1)):i3 ft f g e=g e1:=by unfold i3;rw [h];rfl
def j7(i:Nat)(e:En):Nat:=match e[i]? with
  | some (some (.l xs))=>xs.length
  | _=>0
def pW(i:Nat)(e:En):Nat:=match e[i]? with
  | some (some (.d (.int k)))=>k.natAbs
  | _=>0
theorem kX{n m:Nat}(h:n < 2 ^ m)(hm:m≤4200):n < 2 ^ 4200:=Nat.lt_of_lt_of_le h (Nat.pow_le_pow_right (by decide) hm)
theorem jc{α:Type}{a:α}{r:List α}:atI (a::r) 0=some a:=by
  rw [f_ (by decide) (by simp)];rfl
theorem ij{α:Type}{a b:α}{r:List α}:atI (a::b::r) 1=some b:=by
  rw [f_ (by decide) (by simp;lia)];rfl
theorem jd{α:Type}{a b c:α}{r:List α}:atI (a::b::c::r) 2=some c:=by
  rw [f_ (by decide) (by simp;lia)];rfl
theorem je{α:Type}{a b c d:α}{r:List α}:atI (a::b::c::d::r) 3=some d:=by
  rw [f_ (by decide) (by simp;lia)];rfl
theorem jf{W:aT}{k:Int}(h:mf W k):atI (W.ties.map gf) k=some (gf (W.tie k)):=by
  rw [f_ h.1 (by rw [List.length_map];exact h.2),List.getElem?_map,h.get];rfl
theorem xU{ns:List Int}{k:Int}(h0:0≤k)(h1:k < (ns.length:Int)):atI (ns.map PyData.int) k=some (.int (ns.getD k.toNat 0)):=by
  rw [f_ h0 (by rw [List.length_map];exact h1),List.getElem?_map]
  have:k.toNat < ns.length:=by lia
  simp [this]
theorem ml{a b c d:PyData}:gS [a,b,c,d] none (some 2)=[a,b]:=rfl
theorem dk{a b c d:PyData}:gS [a,b,c,d] (some 2) none=[c,d]:=rfl
theorem dj{a b c:PyData}:gS [a,b,c] (some 1) none=[b,c]:=rfl
theorem r9(ns:List Int):PyData.canLayAll0 (ns.map PyData.int)=true:=by
  induction ns with
  | nil=>rfl
  | cons n r ih=>simp [PyData.canLayAll0,PyData.canLay0,ih]
theorem rZ{x:Int}:∀(ns:List Int),((ns.map PyData.int).any fun y=>PyData.eqv y (.int x))=ns.contains x
  | []=>rfl
  | n::r=>by
    rw [List.map_cons,List.any_cons,rZ r,List.contains_cons]
    show(n==x || _)=_
    rw [show(n==x)=(x==n) by rw [Bool.eq_iff_iff];simp;exact eq_comm]
theorem dJ{e:En}{x:Int}{ns:List Int}{neg:Bool}:AR neg e (.d (.int x)) (.d (.tuple (ns.map .int)))=some (.d (.bool (if neg then !ns.contains x else ns.contains x))):=by
  unfold AR
  simp only [iD,fm,Option.bind_some,r9,rZ]
  simp [PyData.canLay0,PyData.depth]
theorem hZ{e:En}{x a b:Int}{neg:Bool}:AR neg e (.d (.int x)) (.d (.tuple [.int a,.int b]))=some (.d (.bool (if neg then !(a==x || b==x) else(a==x || b==x)))):=by
  have h:=dJ (e:=e) (x:=x) (ns:=[a,b]) (neg:=neg)
  simp only [List.map_cons,List.map_nil] at h
  rw [h]
  have:[a,b].contains x=(a==x || b==x):=by
    simp only [List.contains_cons,List.contains_nil,Bool.or_false]
    rw [show(x==a)=(a==x) by rw [Bool.eq_iff_iff];simp;exact eq_comm,show(x==b)=(b==x) by rw [Bool.eq_iff_iff];simp;exact eq_comm]
  rw [this]
theorem nK{e:En}{ns:List Int}(h:ns.length < 64):g1 iT e [.d (.tuple (ns.map .int))]=some (.l ((jK ns).map .int)):=by
  simp [g1,iT,fm,pS,h]
def uM(p:Int→Bool):PyData→Bool
  | .int k=>p k
  | _=>false
theorem xm{W:aT}{asked taken:List Int}:((bx 0 W.ties.length).filter (uM fun k=>W.may asked taken k))=(W.can asked taken).map .int:=by
  unfold bx aT.can aT.rng
  rw [List.filter_map,List.filter_map,List.map_map]
  have:(List.range W.ties.length).filter ((uM fun k=>W.may asked taken k) ∘ fun(i:Nat)=>PyData.int (0+(i:Int)))=(List.range W.ties.length).filter ((fun k=>W.may asked taken k) ∘ Int.ofNat):=by
    congr 1
    funext i
    simp [uM]
  rw [this]
  refine List.map_congr_left fun i _=>?_
  simp
theorem jj(W:aT):bU W=.tuple [.int W.things,.tuple (W.ties.map gf),.tuple (W.pat.map .int),.int W.asks]:=rfl
end L2
namespace L2
open PySem PySem.Spec PyProof.Rows
def Sh(n:Nat)(d:PyData):Prop:=d.canLay0=true∧d.depth≤n
theorem Sh.mono{n m:Nat}{d:PyData}(h:Sh n d)(l:n≤m):Sh m d:=⟨h.1,Nat.le_trans h.2 l⟩
theorem Sh.ok{n:Nat}{d:PyData}(h:Sh n d)(l:n≤64):SeqAt.shaped d=true:=by
  unfold SeqAt.shaped;rw [h.1,decide_eq_true (Nat.le_trans h.2 l)];rfl
theorem Sh.int{k:Int}:Sh 2 (.int k):=⟨by simp [PyData.canLay0],by simp [PyData.depth]⟩
theorem Sh.all{n:Nat}:∀{ds:List PyData},(∀d∈ds,Sh n d)→PyData.canLayAll0 ds=true∧PyData.depthAll ds≤n
  | [],_=>⟨rfl,by simp [PyData.depthAll]⟩
  | d::r,h=>by
    obtain⟨a1,a2⟩:=h d (by simp)
    obtain⟨b1,b2⟩:=Sh.all (ds:=r) fun x hx=>h x (by simp [hx])
    exact⟨by simp [PyData.canLayAll0,a1,b1],by simp only [PyData.depthAll];lia⟩
theorem Sh.tup{n:Nat}{ds:List PyData}(h:∀d∈ds,Sh n d):Sh (n+2) (.tuple ds):=by
  obtain⟨b1,b2⟩:=Sh.all h
  exact⟨by simp [PyData.canLay0,b1],by simp only [PyData.depth];lia⟩
theorem Sh.list{n:Nat}{ds:List PyData}(h:∀d∈ds,Sh n d):Sh (n+2) (.list ds):=by
  obtain⟨b1,b2⟩:=Sh.all h
  exact⟨by simp [PyData.canLay0,b1],by simp only [PyData.depth];lia⟩
theorem Sh.ints{ns:List Int}:Sh 4 (.tuple (ns.map .int)):=Sh.tup (n:=2) fun d hd=>by
  obtain⟨k,_,rfl⟩:=List.mem_map.mp hd
  exact Sh.int
theorem Sh.st{a b:List Int}:Sh 6 (lL a b):=Sh.tup (n:=4) fun d hd=>by
  simp only [List.mem_cons,List.not_mem_nil,or_false] at hd
  rcases hd with rfl | rfl<;>exact Sh.ints
theorem sT:∀(n:Nat) (l:List Int),l.Nodup→(∀k∈l,0≤k∧k < (n:Int))→l.length≤n
  | 0,l,_,h=>by
    cases l with
    | nil=>simp
    | cons a r=>have:=h a (by simp);lia
  | n+1,l,hd,h=>by
    have ih:=sT n (l.erase (n:Int)) (hd.erase _) fun k hk=>by
      obtain⟨h1,h2⟩:=hd.mem_erase_iff.mp hk
      have:=h k h2
      lia
    by_cases c:(n:Int)∈l
    · rw [List.length_erase_of_mem c] at ih;lia
    · rw [List.erase_of_not_mem c] at ih;lia
abbrev dw:=List Int × List Int
structure lJ (W:aT) (s:dw):Prop where
  inw:∀k∈s.1,mf W k
  nd:s.1.Nodup
  tk:s.2.length≤2*s.1.length
  th:∀t∈s.2,0≤t∧t < W.things
def nxt(W:aT)(s:dw)(k:Int)(b:Bool):dw:=(aT.askd s.1 k,W.took s.2 k b)
theorem lJ.len{W:aT}{s:dw}(h:lJ W s):s.1.length≤W.ties.length:=sT _ _ h.nd fun k hk=>h.inw k hk
theorem lJ.first(W:aT):lJ W ([],[]):=⟨fun k h=>(by cases h),List.nodup_nil,Nat.le_refl _,fun k h=>(by cases h)⟩
theorem nq{a:List Int}{k:Int}:(aT.askd a k).length=a.length+1:=by unfold aT.askd;rw [p_];simp
theorem lJ.nxt{W:aT}{s:dw}{k:Int}(b:Bool)(ok:W.Ok)(h:lJ W s)(hk:mf W k)(hn:k∉s.1):lJ W (nxt W s k b):=by
  refine⟨fun j hj=>?_,?_,?_,?_⟩
  · have:=qa.mp hj
    rcases List.mem_append.mp this with z | z
    · exact h.inw j z
    · simp at z;rw [z];exact hk
  · refine(i5 _).nodup_iff.mpr ?_
    rw [List.nodup_append]
    refine⟨h.nd,by simp,fun a ha b hb=>?_⟩
    simp at hb
    rintro rfl
    exact hn (hb ▸ ha)
  · have:=h.tk
    show(W.took s.2 k b).length≤2*(aT.askd s.1 k).length
    rw [nq]
    unfold aT.took
    split
    · rw [p_];simp;lia
    · lia
  · intro t ht
    have o:=hk.ok ok
    have:=o.o0;have:=o.o1;have:=o.o2
    change t∈W.took s.2 k b at ht
    unfold aT.took at ht
    split at ht
    · rcases List.mem_append.mp (qa.mp ht) with z | z
      · exact h.th t z
      · simp at z
        rcases z with rfl | rfl<;>lia
    · exact h.th t ht
theorem vS{W:aT}{a t:List Int}{k:Int}(h:W.may a t k=true):k∉a:=by
  unfold aT.may at h
  intro c
  have:a.contains k=true:=by simpa using c
  simp [c] at h
structure Nd where
  tie:Int
  yes:Int
  no:Int
def cB(x:Nd):PyData:=.tuple [.int x.tie,.int x.yes,.int x.no]
def wR(x:Nd):List PyData:=[.int x.tie,.int x.yes,.int x.no]
def lI(W:aT)(n:Nat)(S:Nat→dw)(i:Nat)(k:Int)(b:Bool)(l:Int):Prop:=l= -1∨(0≤l∧l < (n:Int)∧S l.toNat=nxt W (S i) k b)
structure ui (W:aT) (n:Nat) (S:Nat→dw) (i:Nat) (x:Nd):Prop where
  tie:mf W x.tie
  st:lJ W (S i)
  may:W.may (S i).1 (S i).2 x.tie=true
  yes:lI W n S i x.tie true x.yes
  no:lI W n S i x.tie false x.no
def fD(W:aT)(T:List Nd)(S:Nat→dw):Prop:=∀(i:Nat) (x:Nd),T[i]?=some x→ui W T.length S i x
structure Wt where
  st:dw
  par:Int
  side:Int
def AH(w:Wt):PyData:=.tuple [lL w.st.1 w.st.2,.int w.par,.int w.side]
theorem Sh.wt{w:Wt}:Sh 8 (AH w):=Sh.tup (n:=6) fun d hd=>by
  simp only [List.mem_cons,List.not_mem_nil,or_false] at hd
  rcases hd with rfl | rfl | rfl
  · exact Sh.st
  · exact Sh.int.mono (by decide)
  · exact Sh.int.mono (by decide)
def C6(S:Nat→dw)(n:Nat)(s:dw):Nat→dw:=fun i=>if i=n then s else S i
structure qi (W:aT) (T:List Nd) (S:Nat→dw) (ws:List Wt):Prop where
  tr:fD W T S
  wt:∀w∈ws,lJ W w.st∧(w.par= -1∨∃(p:Nat) (x:Nd),w.par=(p:Int)∧T[p]?=some x∧((w.side=0∧w.st=L2.nxt W (S p) x.tie true)∨(w.side=1∧w.st=L2.nxt W (S p) x.tie false)))
  side:∀w∈ws,w.side=0∨w.side=1
theorem lI.up{W:aT}{n:Nat}{S:Nat→dw}{i:Nat}{k:Int}{b:Bool}{l:Int}{s:dw}(h:lI W n S i k b l)(hi:i < n):lI W (n+1) (C6 S n s) i k b l:=by
  rcases h with h | ⟨h1,h2,h3⟩
  · exact .inl h
  · refine .inr ⟨h1,by lia,?_⟩
    unfold C6
    rw [if_neg (by lia),if_neg (by lia)]
    exact h3
def gU(x:Nd)(side n:Int):Nd:=if side=0 then{x with yes:=n} else{x with no:=n}
theorem yI{x:Nd}{s n:Int}:(gU x s n).tie=x.tie:=by unfold gU;split<;>rfl
theorem qi.more{W:aT}{T:List Nd}{S:Nat→dw}{w:Wt}{ws:List Wt}{k:Int}(ok:W.Ok)(h:qi W T S (w::ws))(hk:mf W k)(hm:W.may w.st.1 w.st.2 k=true):
    qi W ((if 0≤w.par then T.modify w.par.toNat (fun x=>gU x w.side T.length) else T)++[⟨k, -1, -1⟩]) (C6 S T.length w.st) (ws++[⟨L2.nxt W w.st k true,T.length,0⟩,⟨L2.nxt W w.st k false,T.length,1⟩]):=by
  obtain⟨ws1,ws2⟩:=h.wt w (by simp)
  generalize hT:(if 0≤w.par then T.modify w.par.toNat (fun x=>gU x w.side T.length) else T)=T'
  have len:T'.length=T.length:=by rw [←hT];split<;>simp
  have old:∀(i:Nat) (y:Nd),T'[i]?=some y→i < T.length∧∃x,T[i]?=some x∧y.tie=x.tie:=by
    intro i y hy
    have hi:i < T.length:=by rw [←len];exact(List.getElem?_eq_some_iff.mp hy).1
    refine⟨hi,?_⟩
    rw [←hT] at hy
    split at hy
    · rw [List.getElem?_modify] at hy
      obtain⟨x,hx,e⟩:=Option.map_eq_some_iff.mp hy
      refine⟨x,hx,?_⟩
      rw [←e]
      split
      · exact yI
      · rfl
    · exact⟨y,hy,rfl⟩
  have keep:∀(i:Nat) (x:Nd),T[i]?=some x→∃y,T'[i]?=some y∧y.tie=x.tie:=by
    intro i x hx
    have hi:i < T'.length:=by rw [len];exact(List.getElem?_eq_some_iff.mp hx).1
    obtain⟨_,x',hx',e⟩:=old i _ (List.getElem?_eq_getElem hi)
    rw [hx] at hx'
    cases hx'
    exact⟨_,List.getElem?_eq_getElem hi,e⟩
  have up:∀i,i < T.length→C6 S T.length w.st i=S i:=fun i hi=>by unfold C6;rw [if_neg (by lia)]
  have upn:C6 S T.length w.st T.length=w.st:=by unfold C6;rw [if_pos rfl]
  refine⟨fun i y hy=>?_,fun v hv=>?_,fun v hv=>?_⟩
  · rw [List.length_append,len]
    show ui W (T.length+1) _ i y
    by_cases c:i < T.length
    · rw [List.getElem?_append_left (by lia)] at hy
      have hy0:=hy
      rw [←hT] at hy
      split at hy
      case isFalse=>
        have o:=h.tr i y hy
        exact⟨o.tie,by rw [up i c];exact o.st,by rw [up i c];exact o.may,o.yes.up c,o.no.up c⟩
      case isTrue hp=>
        rw [List.getElem?_modify] at hy
        obtain⟨x,hx,e⟩:=Option.map_eq_some_iff.mp hy
        have o:=h.tr i x hx
        split at e
        case isFalse=>
          subst e
          exact⟨o.tie,by rw [up i c];exact o.st,by rw [up i c];exact o.may,o.yes.up c,o.no.up c⟩
        case isTrue hi=>
          rcases ws2 with z | ⟨p,x2,z1,z2,z3⟩
          · lia
          · have:i=p:=by lia
            subst this
            rw [hx] at z2
            cases z2
            have new:∀b,w.st=L2.nxt W (S i) x.tie b→lI W (T.length+1) (C6 S T.length w.st) i x.tie b (T.length:Int):=fun b hb=>.inr ⟨by lia,by lia,by
              rw [show((T.length:Int)).toNat=T.length by lia,upn,up i c];exact hb⟩
            rw [←e]
            rcases z3 with ⟨s0,s1⟩ | ⟨s0,s1⟩
            · have:gU x w.side T.length={x with yes:=T.length}:=by unfold gU;rw [if_pos s0]
              rw [this]
              exact⟨o.tie,by rw [up i c];exact o.st,by rw [up i c];exact o.may,new true s1,o.no.up c⟩
            · have:gU x w.side T.length={x with no:=T.length}:=by unfold gU;rw [if_neg (by lia)]
              rw [this]
              exact⟨o.tie,by rw [up i c];exact o.st,by rw [up i c];exact o.may,o.yes.up c,new false s1⟩
    · rw [List.getElem?_append_right (by lia)] at hy
      have:i=T.length:=by
        have:=(List.getElem?_eq_some_iff.mp hy).1
        simp at this;lia
      subst this
      rw [len] at hy
      simp at hy
      subst hy
      exact⟨hk,by rw [upn];exact ws1,by rw [upn];exact hm,.inl rfl,.inl rfl⟩
  · rcases List.mem_append.mp hv with hv | hv
    · obtain⟨v1,v2⟩:=h.wt v (by simp [hv])
      refine⟨v1,?_⟩
      rcases v2 with z | ⟨p,x,z1,z2,z3⟩
      · exact .inl z
      · obtain⟨y,hy,e⟩:=keep p x z2
        have hp:p < T.length:=(List.getElem?_eq_some_iff.mp z2).1
        refine .inr ⟨p,y,z1,by rw [List.getElem?_append_left (by lia)];exact hy,?_⟩
        rw [up p hp,e]
        exact z3
    · have key:∀b,lJ W (L2.nxt W w.st k b):=fun b=>ws1.nxt b ok hk (vS hm)
      have at':(T'++[(⟨k, -1, -1⟩:Nd)])[T.length]?=some ⟨k, -1, -1⟩:=by rw [List.getElem?_append_right (by lia),len];simp
      simp only [List.mem_cons,List.not_mem_nil,or_false] at hv
      rcases hv with rfl | rfl
      · exact⟨key true,.inr ⟨T.length,_,rfl,at',.inl ⟨rfl,by rw [upn]⟩⟩⟩
      · exact⟨key false,.inr ⟨T.length,_,rfl,at',.inr ⟨rfl,by rw [upn]⟩⟩⟩
  · rcases List.mem_append.mp hv with hv | hv
    · exact h.side v (by simp [hv])
    · simp only [List.mem_cons,List.not_mem_nil,or_false] at hv
      rcases hv with rfl | rfl
      · exact .inl rfl
      · exact .inr rfl
theorem qi.less{W:aT}{T:List Nd}{S:Nat→dw}{w:Wt}{ws:List Wt}(h:qi W T S (w::ws)):qi W T S ws:=⟨h.tr,fun v hv=>h.wt v (by simp [hv]),fun v hv=>h.side v (by simp [hv])⟩
theorem xr{T:List Nd}{p:Nat}{x:Nd}{n:Int}(h:T[p]?=some x):(T.map wR).set p [.int x.tie,.int n,.int x.no]=(T.modify p (fun x=>gU x 0 n)).map wR:=by
  refine List.ext_getElem? fun i=>?_
  rw [List.getElem?_set,List.getElem?_map,List.getElem?_map,List.getElem?_modify]
  by_cases c:p=i
  · subst c
    obtain⟨hp,e⟩:=List.getElem?_eq_some_iff.mp h
    simp [h,hp,gU,wR,e]
  · simp [c]
theorem xt{T:List Nd}{p:Nat}{x:Nd}{n:Int}(h:T[p]?=some x):(T.map wR).set p [.int x.tie,.int x.yes,.int n]=(T.modify p (fun x=>gU x 1 n)).map wR:=by
  refine List.ext_getElem? fun i=>?_
  rw [List.getElem?_set,List.getElem?_map,List.getElem?_map,List.getElem?_modify]
  by_cases c:p=i
  · subst c
    obtain⟨hp,e⟩:=List.getElem?_eq_some_iff.mp h
    simp [h,hp,gU,wR,e]
  · simp [c]
theorem AC{W:aT}{a t:List Int}{k:Int}(h:k∈W.can a t):mf W k∧W.may a t k=true:=by
  unfold aT.can at h
  rw [List.mem_filter] at h
  exact⟨q_.mp h.1,h.2⟩
end L2
namespace L2
open PySem PySem.Spec PyProof.Rows
theorem xG{cp:List (Nat × Str)}{nT:Nat}{fi:FI}{g:FG}{ft:FT}{fe:FE}{e e1 cs:En}{t t':En}{items out:List PyData}{own:ii}(h1:fi e=some (items,own,e1))(ho:(own.all fun q=> !(cp.any fun c=>c.1==q.1))=true)(hc:lR cp nT e1=cs++t)(hl:cs.length=cp.length)(h3:bQ g ft fe items (lR cp nT e1) []=some (out,cs++t')):ee cp nT fi g ft fe e=some (.l out,e1):=by
  have key:=e_ (cp:=cp) (nT:=nT) (fi:=fun _=>some (items,[],e1)) (g:=g) (ft:=ft) (fe:=fe) (e:=e) rfl hc hl h3
  unfold ee at key ⊢
  rw [h1]
  simp only [Option.bind_some,List.all_nil,if_true] at key
  simp only [Option.bind_some,ho,if_true]
  exact key
theorem zP{W:List Nat}{fi:FI}{g:FG}{f:FS}{e e1:En}{items:List PyData}{own:ii}(h:fi e=some (items,own,e1))(ho:(own.all fun q=> !W.contains q.1)=true):ef W fi g f e=kj own g f items e1:=by
  unfold ef;rw [h];simp only [Option.bind_some,ho,if_true]
theorem pL{α:Type}(x:α):∀n,(List.replicate n [x]).flatten=List.replicate n x
  | 0=>rfl
  | n+1=>by rw [List.replicate_succ,List.flatten_cons,pL x n];rfl
theorem CL{e:En}{x:PyData}{n:Int}(h0:0≤n)(h1:n≤100000):c_ e (.l [x]) (.d (.int n))=some (.l (List.replicate n.toNat x)):=by
  have a:sC e (.l [x]) (.d (.int n))=some (.l (List.replicate n.toNat [x]).flatten):=by
    simp [sC,uF,bM]
    lia
  have b:sy e (.l [x]) (.d (.int n))=none:=by simp [sy,gI,bM]
  have c:sD e (.l [x]) (.d (.int n))=none:=by simp [sD,fm,bM]
  unfold c_ xO
  rw [b,c,a,pL]
  rfl
theorem wz{α:Type}{xs:List α}{x:α}:atI (xs++[x]) (-1)=some x:=by
  unfold atI mT
  rw [if_neg (by decide),if_pos (by simp;lia)]
  simp
  rw [show(-1+((xs.length:Int)+1)).toNat=xs.length by lia]
  simp
theorem Fq{n:Nat}:gS [.int 0] none (some (n:Int))=(if n=0 then [] else [.int 0]):=by
  unfold gS
  rw [HT.sIx_none,HT.sIx_nat]
  cases n with
  | zero=>simp
  | succ n=>simp
def nm(nums:List Int)(l:Int):Int:=(atI nums l).getD (-1)
theorem Az{α β:Type}{f:α→β}{xs:List α}{i:Int}:atI (xs.map f) i=(atI xs i).map f:=by
  unfold atI
  rw [List.length_map]
  cases mT xs.length i with
  | none=>rfl
  | some j=>simp
theorem xW{α:Type}{xs:List α}{i:Int}(h0: -(xs.length:Int)≤i)(h1:i < xs.length):∃x,atI xs i=some x:=by
  unfold atI mT
  split
  · simp only [if_pos h1,Option.bind_some]
    exact⟨_,List.getElem?_eq_getElem (by lia)⟩
  · simp only [if_pos h0,Option.bind_some]
    exact⟨_,List.getElem?_eq_getElem (by lia)⟩
theorem CS{nums:List Int}{l:Int}(h0: -(nums.length:Int)≤l)(h1:l < nums.length):atI (nums.map PyData.int) l=some (.int (nm nums l)):=by
  obtain⟨x,hx⟩:=xW h0 h1
  unfold nm
  rw [Az,hx];rfl
structure jb (order:List Int) (n:Nat) (nums:List Int):Prop where
  len:nums.length=n+1
  top:nums[n]?=some (-1)
  at':∀(j:Nat) (v:Int),j < n→nums[j]?=some v→v= -1∨∃p:Nat,v=(p:Int)∧order[p]?=some (j:Int)
theorem jb.first{order:List Int}{n:Nat}:jb order n (List.replicate (n+1) (-1)):=⟨by simp,by simp [List.getElem?_replicate],fun j v hj h=>by
  rw [List.getElem?_replicate] at h
  split at h
  · cases h;exact .inl rfl
  · cases h⟩
theorem jb.set{order:List Int}{n:Nat}{nums:List Int}(h:jb order n nums){i:Nat}{w:Int}(hw:order[i]?=some w)(w0:0≤w)(w1:w < (n:Int)):jb order n (nums.set w.toNat (i:Int)):=by
  refine⟨by rw [List.length_set];exact h.len,by rw [List.getElem?_set_ne (by lia)];exact h.top,fun j v hj hv=>?_⟩
  rw [List.getElem?_set] at hv
  split at hv
  case isTrue c=>
    rw [if_pos (by rw [h.len];lia)] at hv
    cases hv
    exact .inr ⟨i,rfl,by rw [hw];congr 1;lia⟩
  case isFalse c=>exact h.at' j v hj hv
def bH(T:List Nd)(w:Int):Nd:=T.getD w.toNat ⟨0,0,0⟩
theorem dX{T:List Nd}{w:Int}(h0:0≤w)(h1:w < (T.length:Int)):T[w.toNat]?=some (bH T w):=by
  have:w.toNat < T.length:=by lia
  simp [bH,this]
theorem xV{T:List Nd}{w:Int}(h0:0≤w)(h1:w < (T.length:Int)):atI (T.map cB) w=some (cB (bH T w)):=by
  rw [f_ h0 (by rw [List.length_map];exact h1),List.getElem?_map,dX h0 h1];rfl
def renum(T:List Nd)(nums:List Int)(w:Int):Nd:=⟨(bH T w).tie,nm nums (bH T w).yes,nm nums (bH T w).no⟩
theorem lI.rng{W:aT}{n:Nat}{S:Nat→dw}{i:Nat}{k:Int}{b:Bool}{l:Int}(h:lI W n S i k b l): -1≤l∧l < (n:Int):=by
  rcases h with h | h<;>lia
theorem lI.renum{W:aT}{n:Nat}{S:Nat→dw}{order nums:List Int}{i j:Nat}{w:Int}{k:Int}{b:Bool}{l:Int}(hn:jb order n nums)(hj:order[j]?=some w)(hi:w.toNat=i)(h:lI W n S i k b l):lI W order.length (fun j=>S (order.getD j 0).toNat) j k b (nm nums l):=by
  have hj2:(fun j=>S (order.getD j 0).toNat) j=S i:=by
    simp only [List.getD_eq_getElem?_getD,hj,Option.getD_some,hi]
  rcases h with h | ⟨h1,h2,h3⟩
  · left
    subst h
    unfold nm atI mT
    rw [if_neg (by decide),if_pos (by rw [hn.len];lia)]
    simp only [Option.bind_some]
    rw [show(-1+(nums.length:Int)).toNat=n by rw [hn.len];lia,hn.top]
    rfl
  · have hl:l.toNat < n:=by lia
    have e:nm nums l=nums.getD l.toNat (-1):=by
      unfold nm
      rw [f_ h1 (by rw [hn.len];lia)]
      simp
    have hx:nums[l.toNat]?=some (nums.getD l.toNat (-1)):=by
      have:l.toNat < nums.length:=by rw [hn.len];lia
      simp [this]
    rcases hn.at' l.toNat _ hl hx with z | ⟨p,z1,z2⟩
    · left;rw [e];exact z
    · right
      rw [e,z1]
      have hp:p < order.length:=(List.getElem?_eq_some_iff.mp z2).1
      refine⟨by lia,by lia,?_⟩
      rw [hj2]
      have:(fun j=>S (order.getD j 0).toNat) ((p:Int)).toNat=S l.toNat:=by
        simp only [Int.toNat_natCast,List.getD_eq_getElem?_getD,z2,Option.getD_some]
      rw [this]
      exact h3
theorem fD.renum{W:aT}{T:List Nd}{S:Nat→dw}{order nums:List Int}(h:fD W T S)(ho:∀w∈order,0≤w∧w < (T.length:Int))(hn:jb order T.length nums):fD W (order.map (L2.renum T nums)) (fun j=>S (order.getD j 0).toNat):=by
  intro j y hy
  rw [List.getElem?_map] at hy
  obtain⟨w,hw,rfl⟩:=Option.map_eq_some_iff.mp hy
  obtain⟨w0,w1⟩:=ho w (List.mem_of_getElem? hw)
  have o:=h w.toNat _ (dX w0 w1)
  have hj2:S (order.getD j 0).toNat=S w.toNat:=by
    simp only [List.getD_eq_getElem?_getD,hw,Option.getD_some]
  rw [List.length_map]
  exact⟨o.tie,by rw [hj2];exact o.st,by rw [hj2];exact o.may,o.yes.renum hn hw rfl,o.no.renum hn hw rfl⟩
def hang(S:Nat→dw)(w:Int):Nat:=2 ^ (16 - (S w.toNat).1.length) - 1
def dO(S:Nat→dw)(ws:List Int):Nat:=(ws.map (hang S)).sum
theorem ui.room{W:aT}{n:Nat}{S:Nat→dw}{i:Nat}{x:Nd}(ok:W.Ok)(h:ui W n S i x):(S i).1.length≤15:=by
  have h1:=(h.st.nxt true ok h.tie (vS h.may)).len
  have h2:=ok.len
  have:(nxt W (S i) x.tie true).1.length=(S i).1.length+1:=nq
  lia
theorem lP{W:aT}{n:Nat}{S:Nat→dw}{i:Nat}{k:Int}{b:Bool}{l:Int}(hi:(S i).1.length≤15)(h:lI W n S i k b l)(hn:l≠ -1):hang S l=2 ^ (15 - (S i).1.length) - 1:=by
  rcases h with h | ⟨h1,h2,h3⟩
  · exact absurd h hn
  · unfold hang
    rw [h3]
    have:(nxt W (S i) k b).1.length=(S i).1.length+1:=nq
    rw [this,show 16 - ((S i).1.length+1)=15 - (S i).1.length by lia]
def qV(x:Nd):List Int:=[x.yes,x.no].filter fun l=>l != -1
theorem ui.hang{W:aT}{n:Nat}{S:Nat→dw}{w:Int}{x:Nd}(ok:W.Ok)(h:ui W n S w.toNat x):dO S (qV x)+1≤L2.hang S w:=by
  have r:=h.room ok
  have e:L2.hang S w=2*2 ^ (15 - (S w.toNat).1.length) - 1:=by
    unfold L2.hang
    rw [show 16 - (S w.toNat).1.length=(15 - (S w.toNat).1.length)+1 by lia,Nat.pow_succ,Nat.mul_comm]
  have p:1≤2 ^ (15 - (S w.toNat).1.length):=Nat.one_le_two_pow
  rw [e]
  unfold dO qV
  by_cases c1:x.yes= -1
  · by_cases c2:x.no= -1
    · simp [c1,c2];lia
    · have:=lP r h.no c2
      simp [c1,c2,this];lia
  · have l1:=lP r h.yes c1
    by_cases c2:x.no= -1
    · simp [c1,c2,l1];lia
    · have:=lP r h.no c2
      simp [c1,c2,l1,this];lia
theorem DK{W:aT}{n:Nat}{S:Nat→dw}{i:Nat}{x:Nd}(h:ui W n S i x):∀l∈qV x,0≤l∧l < (n:Int):=by
  intro l hl
  unfold qV at hl
  rw [List.mem_filter] at hl
  obtain⟨h1,h2⟩:=hl
  simp at h1 h2
  rcases h1 with rfl | rfl
  · have:=h.yes.rng;lia
  · have:=h.no.rng;lia
theorem pK{α β:Type}{f:α→β}:∀{xs:List α} {i:Nat},(xs.map f).eraseIdx i=(xs.eraseIdx i).map f
  | [],_=>by simp
  | x::r,0=>by simp
  | x::r,i+1=>by simp [pK (xs:=r) (i:=i)]
def Hv(f:Int→PyData):PyData→PyData
  | .int k=>f k
  | d=>d
theorem Fz{e:En}{xs:List PyData}{lo hi:Option Int}:G2 e (.l xs) lo hi=some (.l (gS xs lo hi)):=rfl
theorem pQ{S:Nat→dw}:∀{ws:List Int} {j:Nat} (h:j < ws.length),dO S (ws.eraseIdx j)+hang S ws[j]=dO S ws
  | [],j,h=>by simp at h
  | w::r,0,h=>by simp [dO];lia
  | w::r,j+1,h=>by
    have:=pQ (S:=S) (ws:=r) (j:=j) (by simpa using h)
    simp [dO] at this ⊢
    lia
theorem wL{S:Nat→dw}{a b:List Int}:dO S (a++b)=dO S a+dO S b:=by
  unfold dO;rw [List.map_append,List.sum_append]
theorem pP{W:aT}{T:List Nd}{S:Nat→dw}{ws:List Int}(ok:W.Ok)(h:fD W T S)(hw:∀w∈ws,0≤w∧w < (T.length:Int)):ws.length≤dO S ws:=by
  induction ws with
  | nil=>simp
  | cons w r ih=>
    have i:=ih fun v hv=>hw v (by simp [hv])
    obtain⟨w0,w1⟩:=hw w (by simp)
    have:=(h _ _ (dX w0 w1)).hang ok
    unfold dO at i ⊢
    rw [List.map_cons,List.sum_cons,List.length_cons]
    lia
end L2
namespace L2
open PySem PySem.Spec PyProof.Rows
def stp(W:aT)(ss:List dw)(i:Nat)(k:Int)(b:Bool)(l:Int):List dw:=if l= -1 then ss else ss.set l.toNat (nxt W (ss.getD i ([],[])) k b)
structure Ie (S:Nat→dw) (n:Nat) (ss:List dw):Prop where
  len:ss.length=n
  at':∀(j:Nat) (s:dw),ss[j]?=some s→s.1.length≤(S j).1.length∧s.2.length≤2*s.1.length∧(∀k∈s.1,0≤k∧k < 16)∧∀t∈s.2,0≤t∧t < 12
theorem yi{T:List Nd}{i:Nat}{x:PyData}(h:(gj 0 (T.map cB))[i]?=some x):∃y,T[i]?=some y∧x=.tuple [.int (i:Int),cB y]:=by
  rw [iE,List.getElem?_map,Option.map_map] at h
  obtain⟨y,hy,rfl⟩:=Option.map_eq_some_iff.mp h
  exact⟨y,hy,by simp⟩
end L2
namespace L2
open PySem PySem.Spec PyProof.Rows
theorem br(s:String):PyData.strOk (Str.ofString s)=true:=by
  rw [Str.ofString_eq_toList]
  unfold PyData.strOk
  simp only [List.size_toArray,List.length_map]
  rw [show(List.map Char.toNat s.toList).toArray.all (fun a=>decide (a < 1114112)) 0 s.toList.length=(List.map Char.toNat s.toList).all (fun a=>decide (a < 1114112)) by simp]
  rw [List.all_map,List.all_eq_true]
  intro c _
  show decide (c.toNat < 1114112)=true
  rw [decide_eq_true_eq]
  have:=c.valid
  unfold UInt32.isValidChar Nat.isValidChar at this
  show c.val.toNat < _
  lia
theorem eB{a b:Str}(h1:PyData.strOk a=true)(h2:PyData.strOk b=true):PyData.strOk (a++b)=true:=by
  unfold PyData.strOk at*
  rw [show(a++b).cps=a.cps++b.cps from rfl]
  simp only [Array.all_append,h1,h2,Bool.and_self]
theorem oI{sep:Str}(h:PyData.strOk sep=true):∀(ts:List Str),(∀t∈ts,PyData.strOk t=true)→PyData.strOk (Str.join sep ts)=true
  | [],_=>by show PyData.strOk Str.empty=true;simp [PyData.strOk,Str.empty]
  | [x],hx=>hx x (by simp)
  | x::y::r,hx=>eB (eB (hx x (by simp)) h) (oI h (y::r) fun t ht=>hx t (by simp at ht ⊢;exact .inr ht))
theorem l8{ts:List Str}(h:∀t∈ts,PyData.strOk t=true):PyData.strOk (tupleText ts)=true:=by
  unfold tupleText
  exact eB (eB (br _) (oI (br _) ts h)) (br _)
structure Sz (n dep:Nat) (d:PyData):Prop where
  fl:kN d=true
  sh:d.showable=true
  dp:d.depth≤dep
  ln:d.shown.length≤n
  so:PyData.strOk d.shown=true
theorem Sz.mono{n m dep e:Nat}{d:PyData}(h:Sz n dep d)(h1:n≤m)(h2:dep≤e):Sz m e d:=⟨h.fl,h.sh,Nat.le_trans h.dp h2,Nat.le_trans h.ln h1,h.so⟩
theorem Sz.all{n dep:Nat}:∀{ds:List PyData},(∀d∈ds,Sz n dep d)→jU ds=true∧PyData.showableAll ds=true∧PyData.depthAll ds≤dep∧piled (PyData.shownAll ds)≤ds.length*(n+2)∧∀t∈PyData.shownAll ds,PyData.strOk t=true
  | [],_=>⟨rfl,rfl,by simp [PyData.depthAll],by simp [PyData.shownAll,piled],by simp [PyData.shownAll]⟩
  | d::r,h=>by
    obtain⟨a1,a2,a3,a4,a5⟩:=h d (by simp)
    obtain⟨b1,b2,b3,b4,b5⟩:=Sz.all (ds:=r) fun x hx=>h x (by simp [hx])
    refine⟨?_,?_,?_,?_,?_⟩
    · simp only [jU,a1,b1,Bool.and_self]
    · simp only [PyData.showableAll,a2,b2,Bool.and_self]
    · simp only [PyData.depthAll];lia
    · simp only [PyData.shownAll,piled_cons,List.length_cons,Nat.succ_mul];lia
    · intro t ht
      simp only [PyData.shownAll,List.mem_cons] at ht
      rcases ht with rfl | ht
      · exact a5
      · exact b5 t ht
theorem Sz.tup{n dep m:Nat}{ds:List PyData}(h:∀d∈ds,Sz n dep d)(hl:ds.length≤m):Sz (m*(n+2)+3) (dep+2) (.tuple ds):=by
  obtain⟨b1,b2,b3,b4,b5⟩:=Sz.all h
  refine⟨by simpa [kN] using b1,b2,by simp only [PyData.depth];lia,?_,by simp only [PyData.shown];exact l8 b5⟩
  have h2:=j3 (PyData.shownAll ds)
  have:=Nat.mul_le_mul_right (n+2) hl
  simp only [PyData.shown]
  lia
theorem Sz.ok{n dep:Nat}{d:PyData}(h:Sz n dep d)(h1:n≤16777216)(h2:dep≤60):eG d=true:=by
  have sl:sizeLine=16777216:=sizeLine_eq
  unfold eG
  rw [h.fl,h.sh,decide_eq_true (Nat.le_trans h.dp h2),decide_eq_true (show d.shown.length≤sizeLine by rw [sl];exact Nat.le_trans h.ln h1)]
  rfl
theorem vI{e:En}{d:PyData}(h:eG d=true):g1 kR e [.d d]=some (.d (.str d.shown)):=by
  simp [g1,kR,h]
end L2
namespace L2
open PySem PySem.Spec PyProof.Rows
theorem qN{e:En}{i:Nat}{xs ys:List PyData}(h:e[i]?=some (some (.l xs)))(hl:xs.length+ys.length≤1000000):bD e (.s i) (.l ys)=some (.l (xs++ys)):=by
  simp [bD,xO,yo,gI,bM,sr,fm,vF,uF,h,hl]
def rn(T:List Nd)(ans:List Bool):Nat→Int→List (Int × Bool)
  | 0,_=>[]
  | f+1,at'=>if at' < 0 then [] else((bH T at').tie,ans.getD (bH T at').tie.toNat false)::rn T ans f (if ans.getD (bH T at').tie.toNat false=true then(bH T at').yes else(bH T at').no)
def rt(T:List Nd):Int:=if T.length=0 then -1 else 0
structure HP (W:aT) (T:List Nd) (S:Nat→dw) (ans:List Bool) (r:List (Int × Bool)) (a:Int):Prop where
  at':a= -1∨(0≤a∧a < (T.length:Int)∧r.length≤(S a.toNat).1.length)
  eq:r++rn T ans (17 - r.length) a=rn T ans 17 (rt T)
  len:r.length≤16
  inw:∀p∈r,mf W p.1
theorem Sz.bool{b:Bool}:Sz 5 2 (.bool b):=by
  cases b
  · exact⟨rfl,rfl,by simp [PyData.depth],by show(Str.ofString "False").length≤5;decide,br _⟩
  · exact⟨rfl,rfl,by simp [PyData.depth],by show(Str.ofString "True").length≤5;decide,br _⟩
end L2
namespace L2
open PySem PySem.Spec PyProof.Rows
abbrev Fr:=Int × Int
def dF(f:Fr):PyData:=.tuple [.int f.1,.int f.2]
def tm(a b:Fr):Fr:=bC (a.1*b.1) (a.2*b.2)
def pl(a b:Fr):Fr:=bC (a.1*b.2+b.1*a.2) (a.2*b.2)
theorem qZ{t b:Int}(hb:0 < b)(ht:0≤t):∃d:Int,0 < d∧(bC t b).1*d=t∧(bC t b).2*d=b∧0 < (bC t b).2∧0≤(bC t b).1:=by
  obtain⟨d,h1,h2,h3,h4,h5⟩:=iH (t:=t) (b:=b) (by lia)
  have d0:0 < d:=by
    rcases Int.lt_trichotomy d 0 with z | z | z
    · have:=Int.mul_neg_of_pos_of_neg h5 z
      lia
    · exact absurd z h2
    · exact z
  refine⟨d,d0,h3,h4,h5,?_⟩
  rcases Int.lt_or_le (bC t b).1 0 with z | z
  · have:=Int.mul_neg_of_neg_of_pos z d0
    lia
  · exact z
theorem A6{t b i:Int}(hb:0 < b)(ht:0≤t)(h:t≤i*b):(bC t b).1≤i*(bC t b).2:=by
  obtain⟨d,d0,h3,h4,h5,h6⟩:=qZ hb ht
  refine Int.le_of_mul_le_mul_right (a:=d) ?_ d0
  rw [h3,Int.mul_assoc,h4]
  exact h
theorem yL{t b:Int}(hb:0 < b)(ht:0≤t):(bC t b).2 ∣ b:=by
  obtain⟨d,d0,h3,h4,h5,h6⟩:=qZ hb ht
  exact⟨d,h4.symm⟩
structure xP (M:Int) (f:Fr):Prop where
  pos:0 < f.2
  lo:0≤f.1
  hi:f.1≤f.2
  dv:f.2 ∣ M
theorem xP.tm{M N:Int}{a b:Fr}(h:xP M a)(k:xP N b):xP (M*N) (tm a b):=by
  have p:0 < a.2*b.2:=Int.mul_pos h.pos k.pos
  have t:0≤a.1*b.1:=Int.mul_nonneg h.lo k.lo
  obtain⟨d,d0,h3,h4,h5,h6⟩:=qZ p t
  refine⟨h5,h6,?_,Int.dvd_trans (yL p t) (Int.mul_dvd_mul h.dv k.dv)⟩
  have:=A6 (i:=1) p t (by rw [Int.one_mul];exact Int.mul_le_mul h.hi k.hi k.lo (Int.le_of_lt h.pos))
  rw [Int.one_mul] at this
  exact this
structure GW (M i:Int) (f:Fr):Prop where
  pos:0 < f.2
  lo:0≤f.1
  hi:f.1≤i*f.2
  dv:f.2 ∣ M
theorem xP.bt{M:Int}{f:Fr}{n:Nat}(h:xP M f)(hM:Bt n M)(h0:0 < M):Bt n f.1∧Bt n f.2:=by
  have l:=Int.le_of_dvd h0 h.dv
  have:=h.pos;have:=h.lo;have:=h.hi
  exact⟨hM.of_le (by lia),hM.of_le (by lia)⟩
def bp(W:aT):List Int→Int
  | []=>1
  | k::r=>(W.tie k).bot*bp W r
theorem qu{W:aT}{a b:List Int}(h:a.Perm b):bp W a=bp W b:=by
  induction h with
  | nil=>rfl
  | cons x _ ih=>simp only [bp,ih]
  | swap x y l=>simp only [bp];ac_rfl
  | trans _ _ i1 i2=>rw [i1,i2]
theorem AA{W:aT}{a:List Int}{k:Int}:bp W (aT.askd a k)=bp W a*(W.tie k).bot:=by
  unfold aT.askd
  rw [qu (i5 _),qu (List.perm_append_comm (l₁:=a) (l₂:=[k]))]
  show(W.tie k).bot*bp W a=_
  rw [Int.mul_comm]
theorem x_{W:aT}:∀{a L:List Int},a.Nodup→(∀k∈a,k∈L)→bp W a ∣ bp W L
  | [],L,_,_=>Int.one_dvd _
  | k::r,L,hn,hs=>by
    have hk:=hs k (by simp)
    rw [List.nodup_cons] at hn
    rw [qu (List.perm_cons_erase hk)]
    refine Int.mul_dvd_mul (Int.dvd_refl _) (x_ hn.2 fun j hj=>?_)
    have:j≠k:=fun z=>hn.1 (z ▸ hj)
    exact(List.mem_erase_of_ne this).mpr (hs j (by simp [hj]))
theorem x9{W:aT}(ok:W.Ok):∀{a:List Int},(∀k∈a,mf W k)→0 < bp W a∧Bt (7*a.length+1) (bp W a)
  | [],_=>⟨by simp [bp],by unfold Bt;simp [bp]⟩
  | k::r,h=>by
    obtain⟨i1,i2⟩:=x9 ok (a:=r) fun j hj=>h j (by simp [hj])
    have o:=(h k (by simp)).ok ok
    have b0:=o.b0;have b1:=o.b1
    have bt:Bt 7 (W.tie k).bot:=by unfold Bt;lia
    refine⟨Int.mul_pos (by lia) i1,?_⟩
    have:=bt.mul i2
    exact this.mono (by simp;lia)
def pG(W:aT):Int:=bp W W.rng
theorem nB{W:aT}(ok:W.Ok):0 < pG W∧Bt 113 (pG W):=by
  obtain⟨h1,h2⟩:=x9 ok (a:=W.rng) fun k hk=>q_.mp hk
  refine⟨h1,h2.mono ?_⟩
  have:=ok.len
  have:W.rng.length=W.ties.length:=by unfold aT.rng;simp
  lia
theorem lJ.bp{W:aT}{s:dw}(h:lJ W s):L2.bp W s.1 ∣ pG W:=x_ h.nd fun k hk=>q_.mpr (h.inw k hk)
def ch(W:aT)(k:Int)(b:Bool):Fr:=if b then((W.tie k).top,(W.tie k).bot) else((W.tie k).bot - (W.tie k).top,(W.tie k).bot)
theorem CG{W:aT}(ok:W.Ok){k:Int}(hk:mf W k)(b:Bool):xP (W.tie k).bot (ch W k b):=by
  have o:=hk.ok ok
  have:=o.c0;have:=o.c1;have:=o.b0
  cases b<;>refine⟨?_,?_,?_,?_⟩<;>simp [ch]<;>lia
theorem yM{t b:Int}(hb:0 < b)(hg:Int.gcd t b=1):bC (b - t) b=(b - t,b):=by
  have g:Int.gcd (b - t) b=1:=by
    rw [show b - t= -(t - b) by lia,Int.neg_gcd,Int.gcd_sub_self_left,hg]
  unfold bC
  rw [if_neg (by lia),g]
  simp
def rstp(W:aT)(rs:List Fr)(i:Nat)(k:Int)(b:Bool)(l:Int):List Fr:=if l= -1 then rs else rs.set l.toNat (tm (rs.getD i (1,1)) (ch W k b))
def mV(W:aT)(rs:List Fr)(i:Nat)(x:Nd):List Fr:=rstp W (rstp W rs i x.tie true x.yes) i x.tie false x.no
def aV(W:aT)(T:List Nd):Nat→List Fr
  | 0=>List.replicate T.length (1,1)
  | i+1=>match T[i]? with
    | some x=>mV W (aV W T i) i x
    | none=>aV W T i
theorem rL{W:aT}{T:List Nd}{i:Nat}{x:Nd}(h:T[i]?=some x):aV W T (i+1)=mV W (aV W T i) i x:=by
  rw [aV,h]
structure iO (W:aT) (S:Nat→dw) (n:Nat) (rs:List Fr):Prop where
  len:rs.length=n
  at':∀(j:Nat) (f:Fr),rs[j]?=some f→xP (bp W (S j).1) f
theorem lm{W:aT}{rs:List Fr}{i:Nat}{k:Int}{b:Bool}{l:Int}:(rstp W rs i k b l).length=rs.length:=by unfold rstp;split<;>simp
theorem iO.stp{W:aT}(ok:W.Ok){S:Nat→dw}{n:Nat}{rs:List Fr}{i:Nat}{k:Int}{b:Bool}{l:Int}(h:iO W S n rs)(hi:i < n)(hk:mf W k)(hl:lI W n S i k b l):iO W S n (rstp W rs i k b l):=by
  refine⟨by rw [lm];exact h.len,fun j s hs=>?_⟩
  unfold L2.rstp at hs
  split at hs
  · exact h.at' j s hs
  case isFalse c=>
    rw [List.getElem?_set] at hs
    split at hs
    case isFalse=>exact h.at' j s hs
    case isTrue cj=>
      split at hs
      case isFalse=>cases hs
      case isTrue=>
      cases hs
      have hil:i < rs.length:=by rw [h.len];exact hi
      have e:rs[i]?=some (rs.getD i (1,1)):=by simp [hil]
      rcases hl with hl | ⟨h1,h2,h3⟩
      · exact absurd hl c
      · rw [←cj,h3]
        show xP (bp W (aT.askd (S i).1 k)) _
        rw [AA]
        exact(h.at' i _ e).tm (CG ok hk b)
theorem iO.first{W:aT}{S:Nat→dw}{n:Nat}:iO W S n (List.replicate n (1,1)):=⟨by simp,fun j s hs=>by
  rw [List.getElem?_replicate] at hs
  split at hs
  · cases hs;exact⟨by decide,by decide,by decide,Int.one_dvd _⟩
  · cases hs⟩
theorem iO.all{W:aT}(ok:W.Ok){S:Nat→dw}{T:List Nd}(h:fD W T S):∀i,iO W S T.length (aV W T i)
  | 0=>iO.first
  | i+1=>by
    unfold aV
    split
    · rename_i x hx
      have hi:=(List.getElem?_eq_some_iff.mp hx).1
      have o:=h i x hx
      exact((iO.all ok h i).stp ok hi o.tie o.yes).stp ok hi o.tie o.no
    · exact iO.all ok h i
theorem xT{rs:List Fr}{i:Nat}{z:Fr}(h:i < rs.length):atI (rs.map dF) (i:Int)=some (dF (rs.getD i z)):=by
  rw [f_ (by lia) (by rw [List.length_map];lia),List.getElem?_map]
  simp [h,dF]
theorem qt{rs:List Fr}{k:Int}{z:Fr}(h0:0≤k)(h:k < (rs.length:Int)):atI (rs.map dF) k=some (dF (rs.getD k.toNat z)):=by
  have:=xT (rs:=rs) (i:=k.toNat) (z:=z) (by lia)
  rw [show((k.toNat:Nat):Int)=k by lia] at this
  exact this
theorem iO.one{W:aT}(ok:W.Ok){S:Nat→dw}{T:List Nd}{rs:List Fr}(h:fD W T S)(hs:iO W S T.length rs){i:Nat}(hi:i < T.length):xP (pG W) (rs.getD i (1,1)):=by
  have hil:i < rs.length:=by rw [hs.len];exact hi
  have e:rs[i]?=some (rs.getD i (1,1)):=by simp [hil]
  have r:=hs.at' i _ e
  exact⟨r.pos,r.lo,r.hi,Int.dvd_trans r.dv (h i _ (List.getElem?_eq_getElem hi)).st.bp⟩
structure H_ (W:aT) (i:Nat) (ss:List Fr):Prop where
  len:ss.length=W.ties.length
  at':∀(j:Nat) (f:Fr),ss[j]?=some f→GW (pG W) (i:Int) f
theorem Sz.intB{n:Nat}{k:Int}(h:Bt n k)(h0:0 < n)(hn:n≤1900):Sz (n+1) 2 (.int k):=by
  have l:=h.log h0
  refine⟨rfl,?_,by simp [PyData.depth],?_,br _⟩
  · show decide (k.natAbs.log2 < 1920)=true
    rw [decide_eq_true_eq];lia
  · have:=int_text_length_le h0 l
    show(Str.ofString (toString k)).length≤n+1
    rw [PySem.ofString_length];exact this
theorem Sz.fr{n:Nat}{f:Fr}(h1:Bt n f.1)(h2:Bt n f.2)(h0:0 < n)(hn:n≤1900):Sz (2*(n+3)+3) 4 (dF f):=Sz.tup (n:=n+1) (dep:=2) (m:=2) (fun d hd=>by
  simp only [List.mem_cons,List.not_mem_nil,or_false] at hd
  rcases hd with rfl | rfl
  · exact Sz.intB h1 h0 hn
  · exact Sz.intB h2 h0 hn) (by simp)
theorem iO.shown{W:aT}(ok:W.Ok){S:Nat→dw}{T:List Nd}{rs:List Fr}(h:fD W T S)(hs:iO W S T.length rs)(hT:T.length≤65535):Sz (65535*(235+2)+3) 6 (.tuple (rs.map dF)):=by
  refine Sz.tup (n:=235) (dep:=4) (fun d hd=>?_) (by rw [List.length_map,hs.len];exact hT)
  obtain⟨f,hm,rfl⟩:=List.mem_map.mp hd
  obtain⟨j,hj⟩:=List.getElem?_of_mem hm
  have hj2:j < T.length:=by rw [←hs.len];exact(List.getElem?_eq_some_iff.mp hj).1
  have r:=hs.at' j f hj
  have b:=nB ok
  have r2:xP (pG W) f:=⟨r.pos,r.lo,r.hi,Int.dvd_trans r.dv (h j _ (List.getElem?_eq_getElem hj2)).st.bp⟩
  obtain⟨b1,b2⟩:=r2.bt b.2 b.1
  exact Sz.fr (n:=113) b1 b2 (by decide) (by decide)
def iq(l:Int)(f:Fr):PyData:=.tuple [.int l,dF f]
def i_(W:aT)(x:Nd):List PyData:=(if x.yes= -1 then [] else [iq x.yes (ch W x.tie true)])++(if x.no= -1 then [] else [iq x.no (ch W x.tie false)])
theorem B6{W:aT}{rs:List Fr}{i:Nat}{k:Int}{b:Bool}:rstp W rs i k b (-1)=rs:=by unfold rstp;rw [if_pos rfl]
theorem qH{W:aT}{k:Int}:dF (ch W k true)=.tuple [.int (W.tie k).top,.int (W.tie k).bot]:=rfl
end L2
namespace L2
open PySem PySem.Spec PyProof.Rows
def E6(sc:Scope)(x:Str):Bool:=match sc.names.lookup x with
  | some .local=>true
  | some .cell=>true
  | some .free=>true
  | _=>false
theorem Cn{sc:Scope}{x:Str}(h:E6 sc x=true):Ar sc x:=by
  unfold E6 at h
  unfold Ar
  split at h
  · rename_i e;exact .inl e
  · rename_i e;exact .inr (.inl e)
  · rename_i e;exact .inr (.inr e)
  · cases h
section
variable{X:Cx}{K:PySem.W.Frag}
theorem qw(i:Nat){x:Str}{pos:Pos}(hN:X.N[i]?=some x)(hv:E6 X.env.scope x=true)(hd:((x==("__debug__":Str)) || (x==("__classdict__":Str)))=false):PE X (.Name x pos) (fE K (ac i)):=qv i hN (Cn hv) (Bool.or_eq_false_iff.mp hd).1 (Bool.or_eq_false_iff.mp hd).2
end
end L2
namespace L2
open PySem PySem.Spec PyProof.Rows
section
variable{X:Cx}{tg a b c:Expr}{ta:TA}{p pos p2 pos2:Pos}
end
section
variable{K:PySem.W.Frag}{σ:L2.St}
end
section
variable{X:Cx}{K:PySem.W.Frag}{tg a b c:Expr}{fs:FA}{pos p p2 pos2:Pos}
end
end L2
namespace L2
open PySem PySem.Spec PyProof.Rows
end L2
namespace L2
open PySem PySem.Spec PyProof.Rows
section
variable(P:Program)(w:World)
end
section
variable{P:Program}{w:World}{H H':Hp}{h h':Heap}{a:Addr}{o:HO}
end
section
variable{P:Program}{w:World}{H:Hp}{h h':Heap}{x e:Addr}{o':HO}
end
section
variable{fs fs' ex ex':List Addr}{H H1 H2:Hp}{h h1 h2 h':Heap}{a x e:Addr}{o:HO}
end
end L2
namespace L2
open PySem PySem.Spec PyProof.Rows
section
variable{X:Cx}{pins:List (Addr × Obj)}{σ:List (Option V)}{H H':Hp}{s:Shared}{h':Heap}
end
end L2
namespace L2
open PySem PySem.Spec PyProof.Rows
section
variable{X:Cx}
variable{a b:Expr}{ta tb:TE}{pos:Pos}
variable{tA tB':TT}{gX:List Expr}
end
end L2
namespace L2
open PySem PySem.Spec PyProof.Rows
section
variable{X:Cx}{pins:List (Addr × Obj)}{σ:St}{H:Hp}{s:Shared}{a:Addr}{xs ys:List V}
end
section
variable{X:Cx}{pins:List (Addr × Obj)}{σ:St}{H:Hp}{s:Shared}{E:Value→Shared→Prop}
end
section
variable{X:Cx}{st:Stmt}{gX:List Stmt}{t u:TS}{e:Expr}{te:TE}{pos:Pos}
end
section
variable{X:Cx}{pos:Pos}
end
section
variable{X:Cx}{pos:Pos}
end
end L2
namespace L2
open PySem PySem.Spec PyProof.Rows
section
variable{X:Cx}{tg:Expr}
end
end L2
namespace L2
open PySem PySem.Spec PyProof.Rows
section
variable{X:Cx}{a b c:Expr}{ta tb tc:TE}{pos:Pos}
end
section
variable{X:Cx}{a b c:Expr}{ta tb tc:TE}{pos:Pos}
end
end L2
namespace L2
open PySem PySem.Spec PyProof.Rows
section
variable{prog:Program}{w:World}{A:Around}{E:Value→Shared→Prop}{s:Shared}{K:PySem.W.Frag}{x dx C f:Addr}{mA:Str→Option Value}{name:Str}{v:Value}
end
section
variable{P:Program}{w:World}{H H':Hp}{h h':Heap}{a C dx:Addr}{fs fs':List (Str × V)}
end
section
variable{X:Cx}{pins:List (Addr × Obj)}{σ:St}{H:Hp}{s:Shared}{a C dx:Addr}{fs:List (Str × V)}{f:Str}{v:V}{A:Around}{E:Value→Shared→Prop}
end
section
variable{X:Cx}{o e value:Expr}{f:Str}{pos pos' tpos:Pos}{ta tv:TE}
end
section
variable{X:Cx}{pins:List (Addr × Obj)}{σ:St}{H:Hp}{s:Shared}{A:Around}{E:Value→Shared→Prop}{Q:Value→Shared→Prop}{c:Value}{b:Bool}
end
end L2
namespace L2
open PySem PySem.Spec PyProof.Rows
section
variable{X:Cx}{e:Expr}{es:List Expr}{te:TE}{t:TA}{pos:Pos}
end
section
variable{X:Cx}{pins:List (Addr × Obj)}{σ:St}{H:Hp}{s s':Shared}
end
section
variable{X:Cx}{CX:ww}{k:Nat}{f C:Addr}{fd:FuncData}{ps:List Str}{sp:Sp}{dvs:List V}{ds:List Value}{E:XK}{x m:Str}{p pos apos:Pos}{e o:Expr}{es:List Expr}{ta:TE}{t:TA}
end
section
variable{X:Cx}{CX:ww}{k:Nat}{f C:Addr}{fd:FuncData}{ps ks:List Str}{sp:Sp}{E:XK}{x m:Str}{p pos apos kpos:Pos}{e o:Expr}{es:List Expr}{kws:List Keyword}{te ta:TE}{t tk:TA}{nm:Option Str}
variable{g:List Value→List Value→List Value}{gV:List V→List V→List V}
end
end L2
namespace L2
open PySem PySem.Spec PyProof.Rows
section
variable{X:Cx}{x:Str}{p pos:Pos}{e:Expr}{es:List Expr}{t:TA}{id T:String}{r:List V→Hp→VK→Prop}
end
end L2
namespace L2
open PySem PySem.Spec PyProof.Rows
section
variable{κ:Type}[DecidableEq κ]
def s_(kvs:List (κ × V))(k:κ)(v:V):List (κ × V):=
  if (kvs.any fun kv=>decide (kv.1=k))=true then kvs.map (fun kv=>if kv.1=k then(kv.1,v) else kv) else kvs++[(k,v)]
theorem sJ(kvs:List (κ × V))(k:κ)(v:V):(s_ kvs k v).length≤kvs.length+1:=by
  unfold s_
  split
  · rw [List.length_map];lia
  · rw [List.length_append,List.length_cons,List.length_nil];lia
theorem KV.any{kvs:List (κ × V)}{vs:List (κ × Value)}(r:KV kvs vs)(k:κ):(kvs.any fun kv=>decide (kv.1=k))=vs.any fun kv=>decide (kv.1=k):=by
  unfold KV at r
  induction r with
  | nil=>rfl
  | cons h t ih=>rw [List.any_cons,List.any_cons,ih,h.1]
theorem KV.repl{kvs:List (κ × V)}{vs:List (κ × Value)}(r:KV kvs vs)(k:κ){y:V}{u:Value}(ry:bA y u):
    KV (kvs.map fun kv=>if kv.1=k then(kv.1,y) else kv) (vs.map fun kv=>if kv.1=k then(kv.1,u) else kv):=by
  unfold KV at r ⊢
  induction r with
  | nil=>exact .nil
  | @cons p q ps qs h t ih=>
    rw [List.map_cons,List.map_cons]
    refine .cons ?_ ih
    obtain⟨h1,h2⟩:=h
    by_cases e:p.1=k
    · rw [if_pos e,if_pos (h1.symm.trans e)];exact⟨h1,ry⟩
    · rw [if_neg e,if_neg (fun z=>e (h1.trans z))];exact⟨h1,h2⟩
theorem KV.put{kvs:List (κ × V)}{vs:List (κ × Value)}(r:KV kvs vs)(k:κ){y:V}{u:Value}(ry:bA y u):KV (s_ kvs k y) (stored vs k u):=by
  unfold s_ stored
  rw [r.any k]
  by_cases e:(vs.any fun kv=>decide (kv.1=k))=true
  · rw [if_pos e,if_pos e];exact r.repl k ry
  · rw [if_neg e,if_neg e];exact Paired.snoc r ⟨rfl,ry⟩
end
theorem FL{P:Program}{w:World}{k:iw}{u:Value}(r:bA (kV k) u):(dW P w).is k u=true:=by
  cases k with
  | inl i=>obtain⟨t,e⟩:=(show ∃t,u=Value.int i t from r);subst e;exact sP P w i t
  | inr x=>obtain⟨t,e⟩:=(show ∃t,u=Value.str x t from r);subst e;exact sQ P w x t
section
variable{P:Program}{w:World}{H:Hp}{h:Heap}{a:Addr}
theorem Gv{u:HO}(ok:me P w H h)(e:Rd H a u):cU P w H h a u:=e.ok ok
theorem Ft{kvs:List (iw × V)}(ok:me P w H h)(e:Rd H a (.dK kvs)):kvs.length≤sizeLine∧(a==sysModules)=false∧∃vs,KV kvs vs∧h.DictOf (dW P w) a vs:=
  show cU P w H h a (.dK kvs) from Gv ok e
theorem Fs{kvs:List (iw × V)}(ok:me P w H h)(e:H a=some (.dK kvs)):kvs.length≤sizeLine∧(a==sysModules)=false∧∃vs,KV kvs vs∧h.DictOf (dW P w) a vs:=Ft ok (.inl e)
end
section
variable{X:Cx}{pins:List (Addr × Obj)}{σ:St}{H:Hp}{s:Shared}{a:Addr}{y v:V}{u r:Value}{o:Option V}{A:Around}{E:Value→Shared→Prop}
theorem aE.big(I:aE X pins σ H s):sysModules < s.heap.objs.size:=by
  have h:mainGlobals < s.heap.objs.size:=(I.mod.glob.keeps I.bk).lt
  exact Nat.lt_trans (by decide) h
theorem AI{h':Heap}{t':Nat}{ob:HO}(I:aE X pins σ H s)(mu:Fd (H a))(hs:Heap.SameBut a s.heap h')(he:∃q,h'.get? a=some q)(new:cU X.prog X.w (a' H a ob) h' a ob):
    aE X pins σ (a' H a ob) {s with heap:=h',toks:=t'}:=
  I.write (x:=a) (e:=a) mu (.inl rfl) (fun b q hb z=>(hs.2 b hb).trans z) he new
theorem Do{P:Program}{w:World}{H':Hp}{h':Heap}{kvs:List (iw × V)}{vs:List (iw × Value)}(z:kvs.length≤sizeLine)(hd:(a==sysModules)=false)(rel:KV kvs vs)(dd:h'.DictOf (dW P w) a vs):
    cU P w H' h' a (.dK kvs):=⟨z,hd,vs,rel,dd⟩
end
section
variable{X:Cx}{pins:List (Addr × Obj)}{σ:St}{H:Hp}{s:Shared}{a:Addr}{kvs:List (iw × V)}{k:iw}{u:Value}{A:Around}{E:Value→Shared→Prop}
end
section
variable{X:Cx}{o i e value:Expr}{pos pos' tpos:Pos}{td ty tv:TE}
end
theorem sj{P:Program}{w:World}{H:Hp}(h:Heap)(hb:sysModules < h.objs.size):cU P w H (h.push {cls:=.type "dict",data:=.dict #[]}) h.objs.size (.dK []):=
  ⟨Nat.zero_le _,beq_eq_false_iff_ne.mpr (Ne.symm (Nat.ne_of_lt hb)),[],.nil,Heap.DictOf.new h⟩
def EN:TE:=fun _ H Q=>∀p,H p=none→Q (.ref p) (a' H p (.dK []))
section
variable{X:Cx}{pos:Pos}
theorem y4:PE X (.Dict [] [] pos) EN:=fun pins s σ H Q I h=>
  wpAny_Dict_empty ⟨.ref s.heap.objs.size,_,I.laid (a:=s.heap.objs.size) (o:=.dK []) (t':=s.toks) (fun _ _ q=>Heap.get?_push_of_some _ q) (Nat.le_refl _) (sj s.heap I.big),rfl,h _ (I.hok.fresh (Nat.le_refl _))⟩
end
def rQ:List (TE × TE)→St→Hp→(List (V × V)→Hp→Prop)→Prop
  | [],_,H,Q=>Q [] H
  | (tk,tv)::r,σ,H,Q=>tk σ H fun x H1=>tv σ H1 fun y H2=>rQ r σ H2 fun ps H3=>Q ((x,y)::ps) H3
abbrev VV:List (V × V)→List (Value × Value)→Prop:=Paired fun p q=>bA p.1 q.1∧bA p.2 q.2
def GU(X:Cx)(pos:Pos)(keys:List (Option Expr))(values:List Expr)(trs:List (TE × TE)):Prop:=
  ∀(pins:List (Addr × Obj)) (s:Shared) (σ:St) (H:Hp) (Q:List (V × V)→Hp→Prop),aE X pins σ H s→rQ trs σ H Q→
    wpAny (model X.prog X.w) X.A (evalPairs (pairTrees keys values X.env pos)) (fun vs s'=>∃ps H',aE X pins σ H' s'∧VV ps vs∧Q ps H') X.xe s
theorem BK{X:Cx}{pos:Pos}:GU X pos [] [] []:=fun pins s σ H Q I h=>pairTrees_nil_walk ⟨[],H,I,.nil,h⟩
theorem zq{X:Cx}{pos:Pos}{k v:Expr}{ks:List (Option Expr)}{vs:List Expr}{tk tv:TE}{trs:List (TE × TE)}(hk:PE X k tk)(hv:PE X v tv)(hr:GU X pos ks vs trs):
    GU X pos (some k::ks) (v::vs) ((tk,tv)::trs):=fun pins s σ H Q I h=>
  pairTrees_cons_walk (cc (hk pins s σ H _ I h) fun u s1 ⟨x,H1,I1,rx,q1⟩=>cc (hv pins s1 σ H1 _ I1 q1) fun w2 s2 ⟨y,H2,I2,ry,q2⟩=>
    cc (hr pins s2 σ H2 _ I2 q2) fun ws s3 ⟨ps,H3,I3,rel,q3⟩=>⟨(x,y)::ps,H3,I3,.cons ⟨rx,ry⟩ rel,q3⟩)
def jy(kvs more:List (iw × V)):List (iw × V):=more.foldl (fun acc kv=>s_ acc kv.1 kv.2) kvs
theorem KV.merge:∀{more:List (iw × V)} {rs:List (iw × Value)} {kvs:List (iw × V)} {vs:List (iw × Value)},KV more rs→KV kvs vs→KV (jy kvs more) (merged vs rs):=by
  intro more rs kvs vs r
  unfold KV at r
  induction r generalizing kvs vs with
  | nil=>intro q;exact q
  | @cons p q ps qs h t ih=>
    intro r0
    have e:KV (s_ kvs p.1 p.2) (stored vs q.1 q.2):=by
      have:=r0.put p.1 h.2
      rw [←h.1];exact this
    exact ih e
theorem j8:∀(more kvs:List (iw × V)),(jy kvs more).length≤kvs.length+more.length
  | [],kvs=>by show kvs.length≤kvs.length+0;lia
  | p::r,kvs=>by
    have h1:=j8 r (s_ kvs p.1 p.2)
    have h2:=sJ kvs p.1 p.2
    show(jy (s_ kvs p.1 p.2) r).length≤_
    rw [List.length_cons];lia
theorem nE{P:Program}{w:World}:∀{kvs:List (iw × V)} {ws:List (Value × Value)},VV (kvs.map fun kv=>(kV kv.1,kv.2)) ws→∃rs,Carries (dW P w) ws rs∧KV kvs rs
  | [],_,r=>by rw [List.map_nil] at r;cases r;exact⟨[],True.intro,.nil⟩
  | p::kvs,_,r=>by
    rw [List.map_cons] at r
    cases r with
    | @cons a b as bs h t=>
      obtain⟨rs,c,q⟩:=nE (P:=P) (w:=w) t
      obtain⟨b1,b2⟩:=b
      exact⟨(p.1,b2)::rs,⟨FL h.1,rfl,c⟩,.cons ⟨rfl,h.2⟩ q⟩
def GB(trs:List (TE × TE)):TE:=fun σ H Q=>∀p,H p=none→rQ trs σ (a' H p (.dK [])) fun ps H2=>H2 p=some (.dK [])∧∃kvs:List (iw × V),ps=kvs.map (fun kv=>(kV kv.1,kv.2))∧kvs.length≤15∧Q (.ref p) (a' H2 p (.dK (jy [] kvs)))
theorem Bz{X:Cx}{pos:Pos}{keys:List (Option Expr)}{values:List Expr}{trs:List (TE × TE)}(h:GU X pos keys values trs)(hall:keys.all (·.isSome)=true)(hl:keys.length=values.length)(h0:keys≠[])
    (h15:keys.length≤15):PE X (.Dict keys values pos) (GB trs):=by
  intro pins s σ H Q I q
  have hn:=I.hok.fresh (Nat.le_refl s.heap.objs.size)
  have I1:=I.laid (a:=s.heap.objs.size) (o:=.dK []) (h':=s.heap.push {cls:=.type "dict",data:=.dict #[]}) (t':=s.toks) (fun _ _ q=>Heap.get?_push_of_some _ q) (Nat.le_refl _) (sj s.heap I.big)
  refine wpAny_Dict_walk (knd:=dW X.prog X.w) hall hl h0 h15 (cc (h pins _ σ _ _ I1 (q _ hn)) fun ws s2 ⟨ps,H2,I2,rel,e,kvs,ep,lk,q2⟩=>?_)
  subst ep
  obtain⟨rs,c,rk⟩:=nE (P:=X.prog) (w:=X.w) rel
  obtain⟨z,hd,vs0,r0,dd⟩:=Fs I2.hok e
  cases r0
  refine⟨rs,c,dd,fun h' dd' hs=>⟨.ref s.heap.objs.size,_,?_,rfl,q2⟩⟩
  have hz:(jy [] kvs).length≤sizeLine:=by
    have h1:=j8 kvs []
    rw [List.length_nil] at h1
    rw [sizeLine_eq];lia
  have he:∃q,h'.get? s.heap.objs.size=some q:=let ⟨q,_,_,hq,_⟩:=dd';⟨q,hq⟩
  exact AI I2 (by rw [e];exact True.intro) hs he (Do hz hd (rk.merge .nil) dd')
section
variable{X:Cx}{pins:List (Addr × Obj)}{σ:St}{H:Hp}{s:Shared}{a:Addr}{y d:V}{u r:Value}{o:Option V}{A:Around}{E:Value→Shared→Prop}
end
section
variable{X:Cx}{o e f:Expr}{apos cpos:Pos}{td ty tx:TE}
end
section
variable{X:Cx}{pins:List (Addr × Obj)}{σ:St}{H:Hp}{s:Shared}{a:Addr}{kvs:List (iw × V)}{A:Around}{E:Value→Shared→Prop}
end
section
variable{X:Cx}{pins:List (Addr × Obj)}{σ:St}{H:Hp}{s:Shared}{a:Addr}{y:V}{u:Value}{A:Around}{E:Value→Shared→Prop}
end
end L2
namespace Att
open PySem PySem.W PySem.Calls PyProof.Rows
section
variable{prog:Program}{w:World}{A:Around}{E:Value→Shared→Prop}{s:Shared}{K:Frag}
end
end Att
namespace L2
open PySem PySem.Spec PyProof.Rows
end L2
namespace L2
open PySem PySem.Spec PyProof.Rows
end L2
namespace L2
open PySem PySem.Spec PyProof.Rows
section
variable{P:Program}{w:World}{K:PySem.W.Frag}{mg:Str→Option Value}{base:Heap}
end
section
variable{X:Cx}
end
section
variable{κ:Type}[DecidableEq κ]
end
end L2
namespace L2
open PySem PySem.Spec PyProof.Rows
def EZ:PyData→String
  | .none=>"NoneType"
  | .bool _=>"bool"
  | .int _=>"int"
  | .str _=>"str"
  | .tuple _=>"tuple"
  | .list _=>"list"
  | .dict _=>"dict"
def zZ(t T:String):Bool:=t==T || (t=="bool"&&T=="int")
def AY(T:String)(d:PyData):Bool:=zZ (EZ d) T
def mR(T:String):En→Rv→Option Rv:=fun _ r=>match r with
  | .d x=>some (.d (.bool (AY T x)))
  | _=>some (.d (.bool (AY T (.list []))))
section
variable{X:Cx}{K:PySem.W.Frag}{a:Expr}{fa:FE}{pos p p2:Pos}
def Hc(K:PySem.W.Frag)(H:Hp):V→String→Prop
  | .non,t=>t="NoneType"
  | .bl _,t=>t="bool"
  | .int _,t=>t="int"
  | .str _,t=>t="str"
  | .ref a,t=>(t="tuple"∧∃xs,bR K H a xs)∨(t="list"∧∃xs,cP K H a xs)∨(t="dict"∧∃m,H a=some (.dK m))
  | _,_=>False
theorem ye{T:String}:df X (.builtin "isinstance") (fun xs H Q=>∃x t b,xs=[x,.ty T]∧Hc X.K H x t∧PySem.W.kitOne X.K (.type t) (.type T)=some b∧Q (.bl b) H):=by
  intro pins s σ H xs us Q I r h
  obtain⟨x,t,b,rfl,ht,hk,q⟩:=h
  obtain⟨u1,u2,rfl,r1,r2⟩:∃u1 u2,us=[u1,u2]∧bA x u1∧bA (.ty T) u2:=by
    cases r with
    | cons p q=>cases q with
      | cons p' q'=>cases q';exact⟨_,_,rfl,p,p'⟩
  cases r2
  have q':∀tk,EP X pins σ Q (.bool b) {s with toks:=tk}:=fun tk=>⟨.bl b,H,I.tok _,rfl,q⟩
  cases x with
  | non=>cases (show u1=Value.none from r1);cases (show t=_ from ht);exact PySem.W.kia_one PySem.W.kitx_none I.kIn True.intro hk (fun z=>nomatch z) q'
  | bl y=>cases (show u1=Value.bool y from r1);cases (show t=_ from ht);exact PySem.W.kia_one PySem.W.kitx_bool I.kIn True.intro hk (fun z=>nomatch z) q'
  | int i=>obtain⟨tt,rfl⟩:=r1;cases (show t=_ from ht);exact PySem.W.kia_one PySem.W.kitx_int I.kIn True.intro hk (fun z=>nomatch z) q'
  | str y=>obtain⟨tt,rfl⟩:=r1;cases (show t=_ from ht);exact PySem.W.kia_one PySem.W.kitx_str I.kIn True.intro hk (fun z=>nomatch z) q'
  | ref a=>
    cases (show u1=Value.ref a from r1)
    rcases ht with ⟨rfl,xs,hs⟩ | ⟨rfl,xs,hs⟩ | ⟨rfl,m,hs⟩
    · obtain⟨its,rv,pl,hz⟩:=I.tuple hs
      obtain⟨o,h1,h2⟩:=pl.typeIs
      exact PySem.W.kia_one PySem.W.kitx_tuple I.kIn ⟨o,h1,h2⟩ hk (fun z=>nomatch z) q'
    · obtain⟨its,rv,pl,hz⟩:=I.list hs
      obtain⟨o,h1,h2⟩:=pl.isList.typeIs
      exact PySem.W.kia_one PySem.W.kitx_list I.kIn ⟨o,h1,h2⟩ hk (fun z=>nomatch z) q'
    · obtain⟨_,_,vs,_,pp⟩:=(show cU X.prog X.w H s.heap a (.dK m) from I.hok a _ hs)
      obtain⟨o,es,ep,h1,h2,_⟩:=pp
      exact PySem.W.kia_one PySem.W.kitx_dict I.kIn ⟨o,h1,h2.1⟩ hk (fun z=>nomatch z) q'
  | _=>exact False.elim ht
theorem y9{x:Str}{T:String}(hg:Gl X x)(hm:X.mg x=none)(hv:bootBuiltins x=some (.type T))(hn:x≠"__name__")(hd:(x==("__debug__":Str))=false):PE X (.Name x pos) (tC (.ty T)):=fun pins s σ H Q I h=>
  il I hg hm hv ⟨.ty T,H,I,rfl,h⟩ hn hd
theorem DF{t T:String}(ht:t∈["NoneType","bool","int","str","tuple","list","dict"])(hT:T∈["int","bool","tuple","str"]):PySem.W.kitOne K (.type t) (.type T)=some (zZ t T):=by
  simp only [List.mem_cons,List.not_mem_nil,or_false] at ht hT
  rcases ht with rfl | rfl | rfl | rfl | rfl | rfl | rfl<;>rcases hT with rfl | rfl | rfl | rfl<;>rfl
theorem Cg(d:PyData):EZ d∈["NoneType","bool","int","str","tuple","list","dict"]:=by cases d<;>simp [EZ]
theorem EY{F H:Hp}{d:PyData}{v:V}(h:DA K F d v)(s:aA F H):Hc K H v (EZ d):=by
  have h:=DA.mono s h
  cases d with
  | none=>rw [fJ.mp h];rfl
  | bool b=>rw [dC.mp h];rfl
  | int b=>rw [bV.mp h];rfl
  | str b=>rw [lM.mp h];rfl
  | tuple ds=>obtain⟨a,xs,rfl,h1,_⟩:=c9.mp h;exact .inl ⟨rfl,xs,h1⟩
  | list ds=>obtain⟨a,xs,rfl,h1,_⟩:=cz.mp h;exact .inr (.inl ⟨rfl,xs,h1⟩)
  | dict m=>simp only [DA] at h;obtain⟨a,m,rfl,h1,_⟩:=h;exact .inr (.inr ⟨rfl,_,h1⟩)
theorem AL{f:FE}{σ:L2.St}{H:Hp}{Q Q':VK}(h:fE K f σ H Q)(m:∀v H1,Q v H1→Q' v H1):fE K f σ H Q':=by
  obtain⟨F,e,r,e',R,hf,q⟩:=h
  exact⟨F,e,r,e',R,hf,fun F' H' v x R' A=>m _ _ (q F' H' v x R' A)⟩
theorem FK{T:String}:E_ K (fun v H Q=>∃t,t∈["NoneType","bool","int","str","tuple","list","dict"]∧Hc K H v t∧Q (.bl (zZ t T)) H) (mR T):=by
  intro σ H0 F H e x z v Q R A hg q
  unfold mR at hg
  cases x with
  | d d=>
    cases hg
    exact⟨EZ d,Cg d,EY A R.sm,q F H _ (dg.refl _ _ _ _) R d_⟩
  | l xs=>
    cases hg
    obtain⟨l,vs,rfl,h1,h2,h3,h4⟩:=A
    exact⟨"list",by simp,.inr (.inl ⟨rfl,vs,cP.of h3⟩),q F H _ (dg.refl _ _ _ _) R d_⟩
  | s i=>
    cases hg
    obtain⟨h1,xs,h2⟩:=A
    obtain⟨l,vs,h3,h4,h5,h6⟩:=R.own i xs h2
    rw [h1] at h3;cases h3
    exact⟨"list",by simp,.inr (.inl ⟨rfl,vs,cP.of h5⟩),q F H _ (dg.refl _ _ _ _) R d_⟩
theorem vV{x:Str}{T:String}(hK:X.K=K)(hT:T∈["int","bool","tuple","str"])(hg:Gl X "isinstance")(hm:X.mg "isinstance"=none)(hgT:Gl X x)(hmT:X.mg x=none)(HR:bootBuiltins x=some (.type T))(hn:x≠"__name__")(hd:(x==("__debug__":Str))=false)
    (ha:PE X a (fE K fa))(he:starEach [a,.Name x p2] X.env=(false,eval a X.env)::starEach [.Name x p2] X.env)(hpl:(backTo pos (starEach [.Name x p2] X.env)).any (·.1)=false):
    PE X (.Call (.Name "isinstance" p) [a,.Name x p2] [] pos) (fE K (lH (mR T) fa)):=
  (oi (ye (T:=T)) hg hm boot_isinstance (rq ha (rq (y9 hgT hmT HR hn hd) lZ) he) (by decide) (by decide) he hpl).mono fun σ H Q h=>by
    subst hK
    have h1:=Am (FK (T:=T)) h
    refine AL h1 fun v H1 ⟨t,ht,k,q⟩=>?_
    exact⟨v,t,_,rfl,k,DF ht hT,q⟩
end
end L2
namespace L2
open PySem PySem.Spec PyProof.Rows
section
variable{X:Cx}{K:PySem.W.Frag}
end
end L2
namespace L2
open PySem PySem.Spec PyProof.Rows
section
variable{X:Cx}{K:PySem.W.Frag}{σ:L2.St}{F H:Hp}{e:En}{pos p1 p2:Pos}
theorem bg.newD(R:bg K F H σ e){p:Addr}{m:List (iw × V)}(hp:H p=none):bg K (a' F p (.dK m)) (a' H p (.dK m)) σ e∧dg σ F H e (a' F p (.dK m)) (a' H p (.dK m)) e:=by
  have hF:=R.freeF hp
  obtain⟨R1,X1⟩:=R.same (aA.new hp (o:=.dK m))
  obtain⟨R2,s2⟩:=R1.freeze (p:=p) hF ar (R1.notOwn ar (fun _ z=>nomatch z))
  refine⟨R2,⟨s2,X1.dom,fun a ws h n _=>?_,X1.lst,X1.tmp,X1.shp,X1.ow⟩⟩
  have z:a≠p:=fun z=>by rw [z,hp] at n;cases n
  rw [aw z];exact h
def t_(m:List (Int × Int)):FE:=fun e=>some (.d (.dict (m.map fun p=>(PyData.int p.1,PyData.int p.2))),e)
theorem zz:PE X (.Dict [] [] pos) (fE K (t_ [])):=y4.mono fun σ H Q h=>by
  obtain⟨F,e,z,e2,R,hf,q⟩:=h
  cases hf
  intro p hp
  obtain⟨R3,X3⟩:=R.newD (m:=[]) hp
  exact q _ _ _ X3 R3 (by simp only [cf,DA];exact⟨p,[],rfl,ar,rfl⟩)
theorem zA{i j:Int}{k1 k2}:PE X (.Dict [some (.Constant (.int i) k1 p1)] [.Constant (.int j) k2 p2] pos) (fE K (t_ [(i,j)])):=
  (Bz (zq (@rA X i k1 p1) (@rA X j k2 p2) BK) rfl rfl (by simp) (by simp)).mono fun σ H Q h=>by
  obtain⟨F,e,z,e2,R,hf,q⟩:=h
  cases hf
  intro p hp
  refine⟨ar,[(Sum.inl i,.int j)],rfl,by simp,?_⟩
  have e1:a' (a' H p (.dK [])) p (.dK (jy [] [((Sum.inl i:iw),V.int j)]))=a' H p (.dK (jy [] [((Sum.inl i:iw),V.int j)])):=by
    funext a;by_cases h:a=p
    · subst h;rw [ar,ar]
    · rw [aw h,aw h,aw h]
  rw [e1]
  obtain⟨R3,X3⟩:=R.newD (m:=jy [] [((Sum.inl i:iw),V.int j)]) hp
  exact q _ _ _ X3 R3 (by simp only [cf,DA];exact⟨p,[(i,j)],rfl,ar,rfl⟩)
end
end L2
namespace L2
open PySem PySem.Spec PyProof.Rows
section
variable{X:Cx}{K:PySem.W.Frag}{a b c d:Expr}{ta tb tc td:TE}{fa fb fc fd:FE}{pos:Pos}
end
end L2
namespace L2
open PySem PySem.Spec PyProof.Rows
section
variable{X:Cx}{K:PySem.W.Frag}{a b:Expr}{es:List Expr}{fa fb:FE}{fs:FA}{pos p apos:Pos}
theorem zO{σ:L2.St}{H0 F H:Hp}{e:En}{x:Str}:cf K σ H0 F H e (.d (.str x)) (.str x):=(show DA K F (.str x) (.str x) from lM.mpr rfl)
def uv:En→Rv→Option Rv:=fun _ x=>match x with
  | .d (.int i)=>if i.natAbs.log2 < 1900 then some (.d (.str (toString i:String))) else none
  | .d (.str x)=>some (.d (.str x))
  | _=>none
def zJ:V→Hp→VK→Prop:=fun v H Q=>(∃i:Int,v=.int i∧i.natAbs.log2 < 1900∧Q (.str (toString i:String)) H)∨∃x,v=.str x∧Q (.str x) H
theorem wG:df X (.type "str") (fun xs H Q=>∃v,xs=[v]∧zJ v H Q):=by
  intro pins s σ H xs us Q I r h
  obtain⟨v,rfl,h⟩:=h
  obtain⟨u,rfl,ru⟩:=lY r
  rcases h with ⟨i,rfl,hi,q⟩ | ⟨x,rfl,q⟩
  · obtain⟨t,rfl⟩:=ru
    exact PySem.P.str_of_int (by lia) ⟨.str _,H,I.tok _,⟨_,rfl⟩,q⟩
  · obtain⟨t,rfl⟩:=ru
    exact PySem.P.str_of_str ⟨.str _,H,I,⟨_,rfl⟩,q⟩
theorem EM:E_ K zJ uv:=by
  intro σ H0 F H e x z v Q R A hg q
  unfold uv at hg
  split at hg
  · split at hg
    case isFalse=>cases hg
    case isTrue hi=>
    cases hg
    exact .inl ⟨_,bV.mp (show DA K F (.int _) v from A),hi,q F H _ (dg.refl _ _ _ _) R zO⟩
  · cases hg
    exact .inr ⟨_,lM.mp (show DA K F (.str _) v from A),q F H _ (dg.refl _ _ _ _) R zO⟩
  · cases hg
theorem EL:dy K (fun xs H Q=>∃v,xs=[v]∧zJ v H Q) (g1 uv):=fH fun σ H0 F H e x z v Q R A hg q=>⟨v,rfl,EM σ H0 F H e x z v Q R A hg q⟩
theorem b_str:mP X K "str" (g1 uv):=⟨.inr ⟨_,_,wG,EL,PyProof.Rows.boot_str⟩⟩
end
end L2
namespace L2
open PySem PySem.Spec PyProof.Rows
section
variable{X:Cx}{K:PySem.W.Frag}{a b:Expr}{fa fb:FE}{fs:FA}{pos p p2 p3:Pos}
end
end L2
namespace L2
open PySem PySem.Spec PyProof.Rows
def bq(W:aT)(as:List Int):Int:=bp W (W.rng.filter fun k=> !as.contains k)
def wI(l:Nat):Int:=1000*(2 ^ (16 - l) - 1)
structure HY (W:aT) (k:Int) (as:List Int) (y n:Fr):Prop where
  y:GW (bq W (aT.askd as k)) (wI (as.length+1)) y
  n:GW (bq W (aT.askd as k)) (wI (as.length+1)) n
  len:as.length≤15
  inw:mf W k
  new:k∉as
def lk(ws:List Fr)(l:Int):Fr:=if l= -1 then(0,1) else ws.getD l.toNat (0,1)
structure Ig (W:aT) (S:Nat→dw) (n:Nat) (ws:List Fr):Prop where
  len:ws.length=n
  at':∀(j:Nat) (f:Fr),ws[j]?=some f→GW (bq W (S j).1) (wI (S j).1.length) f
theorem Sz.int10{n m:Nat}{k:Int}(hb:Bt m k)(m0:0 < m)(m1:m≤1900)(h:k.natAbs < 10 ^ n)(h0:0 < n):Sz (n+1) 2 (.int k):=by
  refine⟨rfl,?_,by simp [PyData.depth],?_,br _⟩
  · show decide (k.natAbs.log2 < 1920)=true
    rw [decide_eq_true_eq]
    have:=hb.log m0
    lia
  · have:=int_text_length_le10 h0 h
    show(Str.ofString (toString k)).length≤n+1
    rw [PySem.ofString_length];exact this
theorem Sz.fr140{f:Fr}(h1:Bt 140 f.1)(h2:Bt 140 f.2):Sz 95 4 (dF f):=by
  have key:∀{k:Int},Bt 140 k→Sz 44 2 (.int k):=fun{k} h=>Sz.int10 (n:=43) h (by decide) (by decide) (Nat.lt_of_lt_of_le h (by decide)) (by decide)
  exact Sz.tup (n:=44) (dep:=2) (m:=2) (fun d hd=>by
    simp only [List.mem_cons,List.not_mem_nil,or_false] at hd
    rcases hd with rfl | rfl
    · exact key h1
    · exact key h2) (by simp)
end L2
namespace L2
open PySem PySem.Spec PyProof.Rows
theorem kg{cs:En}{g:FG}{ft:FT}{fe:FE}{b:PyData→Bool}{y:PyData→PyData}{u:PyData→En}(n:Nat):∀(items:List PyData) (t:En) (acc:List PyData),t.length=n→(∀x∈items,∀t:En,t.length=n→g x (cs++t)=some (cs++u x))→(∀x∈items,(u x).length=n)→
    (∀x∈items,ft (cs++u x)=some (b x,cs++u x))→(∀x∈items,b x=true→fe (cs++u x)=some (.d (y x),cs++u x))→acc.length+items.length≤1000000→
    ∃t',t'.length=n∧bQ g ft fe items (cs++t) acc=some (acc++(items.filter b).map y,cs++t')
  | [],t,acc,h,_,_,_,_,_=>⟨t,h,by simp [bQ]⟩
  | x::r,t,acc,h,hg,hu,h1,h2,hl=>by
    have h1x:=h1 x (by simp)
    unfold bQ
    rw [hg x (by simp) t h]
    simp only [Option.bind_some,h1x]
    cases hb:b x with
    | true=>
      simp only [if_true,h2 x (by simp) hb,Option.bind_some,ki]
      rw [if_pos (by simp at hl;lia)]
      obtain⟨t',e1,ih⟩:=kg (b:=b) (y:=y) (u:=u) n r (u x) (acc++[y x]) (hu x (by simp)) (fun z hz=>hg z (by simp [hz])) (fun z hz=>hu z (by simp [hz])) (fun z hz=>h1 z (by simp [hz])) (fun z hz=>h2 z (by simp [hz])) (by simp at hl ⊢;lia)
      exact⟨t',e1,by rw [ih];simp [hb]⟩
    | false=>
      simp only [Bool.false_eq_true,if_false]
      obtain⟨t',e1,ih⟩:=kg (b:=b) (y:=y) (u:=u) n r (u x) acc (hu x (by simp)) (fun z hz=>hg z (by simp [hz])) (fun z hz=>hu z (by simp [hz])) (fun z hz=>h1 z (by simp [hz])) (fun z hz=>h2 z (by simp [hz])) (by simp at hl;lia)
      exact⟨t',e1,by rw [ih];simp [hb]⟩
theorem qc{x:Str}(h:PyData.strOk x=true):∀c∈x.cps.toList,c < 1114112:=by
  intro c hc
  unfold PyData.strOk at h
  rw [Array.all_eq_true'] at h
  have:=h c (by simpa using hc)
  simpa using this
theorem zY{l:Array Nat}(h:∀c∈l.toList,c < 1114112):PyData.strOk ⟨l⟩=true:=by
  unfold PyData.strOk
  rw [Array.all_eq_true']
  intro c hc
  simpa using h c (by simpa using hc)
theorem AD(c:Char):c.toNat < 1114112:=by
  have:=c.valid
  unfold UInt32.isValidChar Nat.isValidChar at this
  show c.val.toNat < _
  lia
open PySem.Builtin.Str in
theorem tD{q c:Nat}(hc:c < 1114112):∀d∈reprChar q c,d < 1114112:=by
  intro d hd
  unfold reprChar at hd
  have hx:∀w:Nat,∀d∈(List.replicate (w - ((Nat.toDigits 16 c).map Char.toNat).length) 48++(Nat.toDigits 16 c).map Char.toNat),d < 1114112:=by
    intro w d hd
    rcases List.mem_append.mp hd with h | h
    · have:=List.eq_of_mem_replicate h;lia
    · obtain⟨ch,_,rfl⟩:=List.mem_map.mp h;exact AD ch
  dsimp only at hd
  split at hd
  · simp only [List.mem_cons,List.not_mem_nil,or_false] at hd;lia
  split at hd
  · simp only [List.mem_cons,List.not_mem_nil,or_false] at hd;lia
  split at hd
  · simp only [List.mem_cons,List.not_mem_nil,or_false] at hd;lia
  split at hd
  · simp only [List.mem_cons,List.not_mem_nil,or_false] at hd;lia
  split at hd
  · simp only [List.mem_cons,List.not_mem_nil,or_false] at hd;lia
  split at hd
  · rcases List.mem_append.mp hd with h | h
    · simp only [List.mem_cons,List.not_mem_nil,or_false] at h;lia
    · exact hx 2 d h
  split at hd
  · rcases List.mem_append.mp hd with h | h
    · simp only [List.mem_cons,List.not_mem_nil,or_false] at h;lia
    · exact hx 4 d h
  · rcases List.mem_append.mp hd with h | h
    · simp only [List.mem_cons,List.not_mem_nil,or_false] at h;lia
    · exact hx 8 d h
open PySem.Builtin.Str in
theorem pY{q:Nat}:∀(l:List Nat) (acc:Array Nat),(∀c∈l,c < 1114112)→(∀c∈acc.toList,c < 1114112)→∀c∈(l.foldl (fun out c=>out++(reprChar q c).toArray) acc).toList,c < 1114112
  | [],acc,_,h=>h
  | x::r,acc,h1,h2=>pY r _ (fun c hc=>h1 c (by simp [hc])) fun c hc=>by
    simp only [Array.toList_append,List.mem_append] at hc
    rcases hc with hc | hc
    · exact h2 c hc
    · exact tD (h1 x (by simp)) c hc
theorem tF{x:Str}(h:PyData.strOk x=true):PyData.strOk (reprText x)=true:=by
  unfold reprText
  refine zY fun c hc=>?_
  have hq:reprQuote x < 1114112:=by unfold reprQuote;split<;>lia
  rw [Array.toList_push] at hc
  rcases List.mem_append.mp hc with hc | hc
  · rw [←Array.foldl_toList] at hc
    exact pY _ _ (qc h) (fun c hc=>by simp at hc;lia) c hc
  · simp at hc;lia
theorem Sz.str{x:Str}{n:Nat}(h:PyData.strOk x=true)(hl:x.length≤n):Sz (10*n+2) 2 (.str x):=by
  refine⟨rfl,rfl,by simp [PyData.depth],?_,tF h⟩
  have:=PySem.StrLaws.reprText_len x fun c hc=>Nat.lt_of_lt_of_le (qc h c hc) (by decide)
  show(reprText x).length≤_
  lia
end L2
namespace L2
open PySem PySem.Spec PyProof.Rows
section
variable{X:Cx}{K:PySem.W.Frag}{a:Expr}{fa:FE}{pos p pos2 p2:Pos}
end
end L2
namespace L2
open PySem PySem.Spec PyProof.Rows
section
variable{X:Cx}{K:PySem.W.Frag}{a:Expr}{fa:FE}
end
end L2
namespace L2
open PySem PySem.Spec PyProof.Rows
abbrev Rn:=List (Int × Bool)
def AO(R:Rn):List Int:=R.map (·.1)
def CH(W:aT)(R:Rn):List Int:=(R.filter (·.2)).flatMap fun r=>[(W.tie r.1).one,(W.tie r.1).other]
structure Ic (W:aT) (R:Rn) (asked taken:List Int):Prop where
  pa:asked.Perm (AO R)
  pt:taken.Perm (CH W R)
  inw:∀k∈AO R,mf W k
  nd:(AO R).Nodup
  nk:(CH W R).Nodup
  bd:∀t:Int,0≤t→t < W.things→W.many (AO R) t≤W.pat.getD t.toNat 0
  ak:(R.length:Int)≤W.asks
  sa:asked.Pairwise (· ≤·)
  st:taken.Pairwise (· ≤·)
end L2
namespace L2
open PySem PySem.Spec PyProof.Rows
section
variable{prog:Program}{w:World}{A:Around}{R:Result→Shared→Prop}
def kU(elt tg iter tg2 iter2:Expr)(ifs ifs2:List Expr)(scope:Scope)(pos:Pos)(acc:Value)(env:Env)(k:Sem PySem.Fin):Sem PySem.Fin:=do
  let x ←eval iter2 env
  standAt iter2.pos
  let x ←foldedSetIterable iter2 env x
  let _ ←runOwn (.compStart (.ListComp elt [⟨tg,iter,ifs,0⟩,⟨tg2,iter2,ifs2,0⟩] scope pos) 1 (←holding [x] (pyIter x)) acc env) env
  k
theorem qE(elt tg iter tg2 iter2:Expr)(ifs ifs2:List Expr)(scope:Scope)(pos:Pos)(it acc:Value)(env:Env):
    compTurn (.ListComp elt [⟨tg,iter,ifs,0⟩,⟨tg2,iter2,ifs2,0⟩] scope pos) 0 it acc env=(do
      standAt iter.pos
      match ←pyNext it with
      | none=>pure (.done .next)
      | some v=>
        letOwnedTupleGo tg it v
        assign tg env v
        let mut ok:=true
        for c in ifs do
          if ok then ok ←isTrue c env (eval c env)
        if ok then kU elt tg iter tg2 iter2 ifs ifs2 scope pos acc env (again (.compLoop (.ListComp elt [⟨tg,iter,ifs,0⟩,⟨tg2,iter2,ifs2,0⟩] scope pos) 0 it acc env))
        else again (.compLoop (.ListComp elt [⟨tg,iter,ifs,0⟩,⟨tg2,iter2,ifs2,0⟩] scope pos) 0 it acc env)):=by rfl
theorem si(elt tg iter tg2 iter2:Expr)(ifs ifs2:List Expr)(scope:Scope)(pos:Pos)(it acc:Value)(env:Env):
    compTurn (.ListComp elt [⟨tg,iter,ifs,0⟩,⟨tg2,iter2,ifs2,0⟩] scope pos) 1 it acc env=(do
      standAt iter2.pos
      match ←pyNext it with
      | none=>pure (.done .next)
      | some v=>
        letOwnedTupleGo tg2 it v
        assign tg2 env v
        let mut ok:=true
        for c in ifs2 do
          if ok then ok ←isTrue c env (eval c env)
        if ok then
          (do let _ ←call (.builtin "list.append") [acc,←eval elt env])
        again (.compLoop (.ListComp elt [⟨tg,iter,ifs,0⟩,⟨tg2,iter2,ifs2,0⟩] scope pos) 1 it acc env)):=by rfl
def AE(prog:Program)(w:World)(A:Around)(B:Sem PySem.Fin→Sem PySem.Fin)(tg:Expr)(ifs:List Expr)(env:Env)(it:Value)(onward:Shared→Prop)(v:Value)(u:Shared):Prop:=
  wpAny (model prog w) A (letOwnedTupleGo tg it v) (fun _ u1=>wpAny (model prog w) A (assign tg env v) (fun _ u2=>wpAny (model prog w) A
    (forIn ifs true fun c r=>if r=true then do let ok ←isTrue c env (eval c env);pure (ForInStep.yield ok) else pure (ForInStep.yield r)) (fun ok u3=>if ok=true then(∀(k:Sem PySem.Fin) (Q:PySem.Fin→Shared→Prop) (E:Value→Shared→Prop),(∀u5,onward u5→wpAny (model prog w) A k Q E u5)→wpAny (model prog w) A (B k) Q E u3) else onward u3) vT u2) vT u1) vT u
theorem qC{elt tg iter tg2 iter2:Expr}{ifs ifs2:List Expr}{scope:Scope}{pos:Pos}{it acc:Value}{env:Env}(J:Nat→Shared→Prop)
    (turn:∀n u,J n u→wpAny (model prog w) A (pyNext it) (fun r u1=>(r=none→R (.ok .next) u1)∧∀v,r=some v→AE prog w A (kU elt tg iter tg2 iter2 ifs ifs2 scope pos acc env) tg ifs env it (fun u2=>∃m,m < n∧J m u2) v u1) vT u){n0:Nat}{u0:Shared}(fy:J n0 u0):
    codeAny (model prog w) A (.compLoop (.ListComp elt [⟨tg,iter,ifs,0⟩,⟨tg2,iter2,ifs2,0⟩] scope pos) 0 it acc env) R u0:=by
  refine codeAny_loop rfl J (fun n u ju=>?_) n0 fy
  show wpAny _ A ((compTurn (.ListComp elt [⟨tg,iter,ifs,0⟩,⟨tg2,iter2,ifs2,0⟩] scope pos) 0 it acc env).onRaise _) _ _ u;refine wpAny_noted ?_;rw [qE]
  refine wpAny_bind (wpAny_standAt (wpAny_bind (wpAny_mono (turn n u ju) (fun r u1 k1=>?_) fun _ _ z=>z.elim)))
  cases r with
  | none=>exact wpAny_pure (k1.1 rfl)
  | some v=>
    refine wpAny_bind (wpAny_mono (k1.2 v rfl) (fun _ u2 k2=>wpAny_bind (wpAny_mono k2 (fun _ u3 k3=>wpAny_bind (wpAny_mono k3 (fun ok u4 k4=>?_) fun _ _ z=>z.elim)) fun _ _ z=>z.elim)) fun _ _ z=>z.elim)
    cases ok with
    | false=>rw [if_neg Bool.false_ne_true] at k4;exact wpAny_pure ⟨rfl,k4⟩
    | true=>
      rw [if_pos rfl] at k4
      exact k4 _ _ _ fun u6 k6=>wpAny_pure ⟨rfl,k6⟩
theorem se{elt tg iter tg2 iter2:Expr}{ifs ifs2:List Expr}{scope:Scope}{pos:Pos}{it acc:Value}{env:Env}(J:Nat→Shared→Prop)
    (turn:∀n u,J n u→wpAny (model prog w) A (pyNext it) (fun r u1=>(r=none→R (.ok .next) u1)∧∀v,r=some v→yg prog w A elt tg2 ifs2 env it acc (fun u2=>∃m,m < n∧J m u2) v u1) vT u){n0:Nat}{u0:Shared}(fy:J n0 u0):
    codeAny (model prog w) A (.compLoop (.ListComp elt [⟨tg,iter,ifs,0⟩,⟨tg2,iter2,ifs2,0⟩] scope pos) 1 it acc env) R u0:=by
  refine codeAny_loop rfl J (fun n u ju=>?_) n0 fy
  show wpAny _ A ((compTurn (.ListComp elt [⟨tg,iter,ifs,0⟩,⟨tg2,iter2,ifs2,0⟩] scope pos) 1 it acc env).onRaise _) _ _ u;refine wpAny_noted ?_;rw [si]
  refine wpAny_bind (wpAny_standAt (wpAny_bind (wpAny_mono (turn n u ju) (fun r u1 k1=>?_) fun _ _ z=>z.elim)))
  cases r with
  | none=>exact wpAny_pure (k1.1 rfl)
  | some v=>
    refine wpAny_bind (wpAny_mono (k1.2 v rfl) (fun _ u2 k2=>wpAny_bind (wpAny_mono k2 (fun _ u3 k3=>wpAny_bind (wpAny_mono k3 (fun ok u4 k4=>?_) fun _ _ z=>z.elim)) fun _ _ z=>z.elim)) fun _ _ z=>z.elim)
    cases ok with
    | false=>rw [if_neg Bool.false_ne_true] at k4;exact wpAny_pure ⟨rfl,k4⟩
    | true=>
      rw [if_pos rfl] at k4
      refine wpAny_bind (wpAny_bind (wpAny_mono k4 (fun x u5 k5=>wpAny_bind (wpAny_mono k5 (fun _ u6 k6=>?_) fun _ _ z=>z.elim)) fun _ _ z=>z.elim));exact wpAny_pure (wpAny_pure ⟨rfl,k6⟩)
theorem qD{elt tg iter tg2 iter2:Expr}{ifs ifs2:List Expr}{scope:Scope}{pos:Pos}{it acc:Value}{env:Env}{s:Shared}
    (h0:codeAny (model prog w) A (.compLoop (.ListComp elt [⟨tg,iter,ifs,0⟩,⟨tg2,iter2,ifs2,0⟩] scope pos) 1 it acc env) R s)
    (h:wpAny (model prog w) A (pyIter it) (fun it' s'=>codeAny (model prog w) A (.compLoop (.ListComp elt [⟨tg,iter,ifs,0⟩,⟨tg2,iter2,ifs2,0⟩] scope pos) 1 it' acc env) R s') (notedBy (model prog w) A env fun x s'=>R (.error x) s') s):
    codeAny (model prog w) A (.compStart (.ListComp elt [⟨tg,iter,ifs,0⟩,⟨tg2,iter2,ifs2,0⟩] scope pos) 1 it acc env) R s:=by
  refine codeAny_of_tree ?_;show wpAny _ _ ((compStart (.ListComp elt [⟨tg,iter,ifs,0⟩,⟨tg2,iter2,ifs2,0⟩] scope pos) 1 it acc env).onRaise (fun x=>do noteFrame x env;standAt theWindowsPlace)) _ _ s
  refine wpAny_notedAt ?_;unfold compStart
  show wpAny _ _ (ask >>= _) _ _ s
  refine wpAny_bind (wpAny_askSetting (wpAny_ite ?_));split
  · first | exact wpAny_bind (wpAny_pure (wpAny_pure (And.intro rfl h0))) | exact wpAny_pure (And.intro rfl h0)
  · first | exact wpAny_bind (wpAny_rule (wpAny_bind (wpAny_standAt (wpAny_bind (wpAny_mono h (fun it' s' h'=>wpAny_pure (And.intro rfl h')) fun _ _ x=>x))))) | (refine wpAny_bind (wpAny_rule ?_);show wpAny _ _ (standAt iter2.pos >>= _) _ _ s;exact wpAny_bind (wpAny_standAt (wpAny_bind (wpAny_mono h (fun it' s' h'=>wpAny_pure (And.intro rfl h')) fun _ _ x=>x))))
end
def z_(l:Addr)(wi:TI)(g:TG)(tc:TT)(te:TE)(σ:L2.St)(H:Hp)(N:L2.St→Hp→Prop):Prop:=
  wi σ H fun J H1=>∃W:Nat→Nat→L2.St→Hp→Prop,(∃m,W 0 m σ H1)∧∀i m σ' H',W i m σ' H'→
    (J.stop i H'∧N σ' H')∨(J.go i H'∧∃N2:L2.St→Hp→Prop,(∀σ2 H2,N2 σ2 H2→∃m',m' < m∧W (i+1) m' σ2 H2)∧
      ∀x H2,J.yld i H' x H2→g x σ' H2 fun σ2 H3=>tc σ2 H3 fun b H4=>if b=true then te σ2 H4 fun v H5=>∃ys,H5 l=some (.lst ys)∧ys.length < sizeLine∧N2 σ2 (a' H5 l (.lst (ys++[v]))) else N2 σ2 H4)
theorem yA{Y:Cx}{elt tg iter tg2 iter2:Expr}{ifs ifs2:List Expr}{scope:Scope}{pos:Pos}{wi:TI}{g:TG}{tc:TT}{te:TE}(hc:Y.calm=true)(hxe:Y.xe=vT)(hi:PI Y tg2 iter2 wi)(hg:PG Y tg2 g)(ht:vm Y ifs2 tc)(he:PE Y elt te)
    (hs:∀x,foldedSetIterable iter2 Y.env x=pure x){pins:List (Addr × Obj)}{s:Shared}{σ:L2.St}{H:Hp}{D:Addr}{N:L2.St→Hp→Prop}(I:aE Y pins σ H s)(h:z_ D wi g tc te σ H N)(k:Sem PySem.Fin)(Q:PySem.Fin→Shared→Prop)(E:Value→Shared→Prop)(hk:∀s',(∃σ' H',aE Y pins σ' H' s'∧N σ' H')→wpAny (model Y.prog Y.w) Y.A k Q E s'):
    wpAny (model Y.prog Y.w) Y.A (kU elt tg iter tg2 iter2 ifs ifs2 scope pos (.ref D) Y.env k) Q E s:=by
  unfold kU
  have hi':=hi pins s σ H _ I h
  rw [hxe] at hi'
  refine wpAny_bind (wpAny_mono hi' (fun v s1 h1=>wpAny_bind (wpAny_standAt (wpAny_bind (wpAny_of_eq (hs v) (wpAny_bind (wpAny_holding (wpAny_mono h1 (fun itv s2 h2=>?_) fun _ _ z=>z.elim))))))) fun _ _ z=>z.elim)
  obtain⟨it,fp,tn,J,H2,rfl,I2,T,st2,f2,W,⟨m0,w0⟩,turn⟩:=h2
  have stat:∀{H':Hp},(∀b∈fp,H' b=none)→∀b∈fp,iu Y pins H' b:=fun hn b hb=>⟨hn b hb,(f2 b hb).2⟩
  have loop:codeAny (model Y.prog Y.w) Y.A (.compLoop (.ListComp elt [⟨tg,iter,ifs,0⟩,⟨tg2,iter2,ifs2,0⟩] scope pos) 1 (.ref it) (.ref D) Y.env) (fun r s'=>match r with | .ok f=>wpAny (model Y.prog Y.w) Y.A k Q E s' | .error e=>cameBackBy (model Y.prog Y.w) Y.A Y.env E e s') s2:=by
    refine se (fun n s'=>∃i σ' H',aE Y pins σ' H' s'∧tn i s'.heap∧(∀b∈fp,H' b=none)∧W i n σ' H') ?_ (n0:=m0) ⟨0,σ,H2,I2,st2,fun b hb=>(f2 b hb).1,w0⟩
    rintro n s3 ⟨i,σ3,H3,I3,st3,fr3,w3⟩
    rcases turn i n σ3 H3 w3 with ⟨stop,qn⟩ | ⟨go,N2,hN,step⟩
    · refine cc (T.done Y rfl rfl rfl hc i pins s3 σ3 H3 vT I3 (stat fr3) st3 stop) fun r s4 ⟨hr,I4⟩=>?_
      subst hr
      exact⟨fun _=>hk _ ⟨σ3,H3,I4,qn⟩,fun v z=>by cases z⟩
    · refine cc (T.item Y rfl rfl rfl hc i pins s3 σ3 H3 vT I3 (stat fr3) st3 go) fun r s4 ⟨u,hr,h4⟩=>?_
      subst hr
      refine⟨fun z=>(by cases z),fun v z=>?_⟩
      cases z
      refine cc h4 fun _ s5 ⟨x,H5,I5,r5,y5,st5,fr5⟩=>?_
      have I5':=I5.pinned (stat fr5) (T.obj _ _ st5)
      have again:∀{σ8:L2.St} {H8:Hp} {s8:Shared},aE Y (pins++ku fp s5.heap) σ8 H8 s8→N2 σ8 H8→∃m,m < n∧∃i σ' H',aE Y pins σ' H' s8∧tn i s8.heap∧(∀b∈fp,H' b=none)∧W i m σ' H':=fun{σ8 H8 s8} I8 n8=>by
        obtain⟨m',hm,w8⟩:=hN σ8 H8 n8
        refine⟨m',hm,i+1,σ8,H8,I8.unpinned,T.keep _ _ _ st5 fun b hb o e=>(I8.pin (b,o) (List.mem_append_right _ (List.mem_append_right _ (cK hb e)))).1,fun b hb=>?_,w8⟩
        obtain⟨o,e,d⟩:=T.obj _ _ st5 b hb
        exact(I8.pin (b,o) (List.mem_append_right _ (List.mem_append_right _ (cK hb e)))).2.1
      have hg':=hg _ s5 σ3 H5 x u _ I5' r5 (step x H5 y5)
      rw [hxe] at hg'
      refine cc hg' fun _ s8 ⟨σ8,H8,I8,q8⟩=>?_
      have ht':=ht _ s8 σ8 H8 _ I8 q8
      rw [hxe] at ht'
      refine cc ht' fun ok s9 ⟨H9,I9,q9⟩=>?_
      cases ok with
      | false=>
        rw [if_neg Bool.false_ne_true] at q9 ⊢
        exact again I9 q9
      | true=>
        rw [if_pos rfl] at q9 ⊢
        have he':=he _ s9 σ8 H9 _ I9 q9
        rw [hxe] at he'
        refine cc he' fun v s10 ⟨xv,H10,I10,r10,ys,hl,hz,n10⟩=>?_
        have ha:=jX _ s10 σ8 H10 (.ref D) [xv] (.ref D) [v] (fun _ H=>N2 σ8 H) I10 rfl (.cons r10 .nil) ⟨D,ys,xv,rfl,rfl,hl,hz,n10⟩
        rw [hxe] at ha
        refine cc ha fun _ s11 ⟨_,H11,I11,_,q11⟩=>?_
        exact again I11 q11
  exact wpAny_bind (wpAny_runOwn (qD loop (T.self Y.A 0 _ _ _ st2 loop)))
structure z9 (cp:List (Nat × Str)) (nT:Nat) (wi:TI) (g:TG) (tc:TT) (wi2:TI) (g2:TG) (tc2:TT) (te:TE) (σ:L2.St) (H:Hp) (Q:VK):Prop where
  go:wi σ H fun J H1=>∀l,H1 l=none→
  ∃W:Nat→Nat→L2.St→Hp→Prop,(∃m,W 0 m (fw cp nT σ) (a' H1 l (.lst [])))∧∀i m σ' H',W i m σ' H'→
    (J.stop i H'∧Q (.ref l) H')∨(J.go i H'∧∃N:L2.St→Hp→Prop,(∀σ2 H2,N σ2 H2→∃m',m' < m∧W (i+1) m' σ2 H2)∧
      ∀x H2,J.yld i H' x H2→g x σ' H2 fun σ2 H3=>tc σ2 H3 fun b H4=>if b=true then z_ l wi2 g2 tc2 te σ2 H4 N else N σ2 H4)
theorem y3{X:Cx}{elt iter tg iter2 tg2:Expr}{ifs ifs2:List Expr}{scope:Scope}{pos:Pos}{wi wi2:TI}{g g2:TG}{tc tc2:TT}{te:TE}(sc0:Scope)(N0:List Str)(cp:List (Nat × Str))(tgN:List Str)
    (hc:X.calm=true)(hsc:X.env.scope=sc0)(hN0:X.N=N0)(hi:PI X tg iter wi)
    (hg:∀C s0 H0 fp,PG (aK X scope cp tgN C s0 H0 fp) tg g)
    (ht:∀C s0 H0 fp,vm (aK X scope cp tgN C s0 H0 fp) ifs tc)
    (hi2:∀C s0 H0 fp,PI (aK X scope cp tgN C s0 H0 fp) tg2 iter2 wi2)
    (hg2:∀C s0 H0 fp,PG (aK X scope cp tgN C s0 H0 fp) tg2 g2)
    (ht2:∀C s0 H0 fp,vm (aK X scope cp tgN C s0 H0 fp) ifs2 tc2)
    (he:∀C s0 H0 fp,PE (aK X scope cp tgN C s0 H0 fp) elt te)
    (hk:scope.kind=.function)(hcell:∀y∈scope.names,y.2≠.cell)(hnames:∀y∈scope.names,y.2=.local→scope.names.lookup y.1=some .local)
    (hfr:∀y∈scope.names,y.2=.free→scope.names.lookup y.1=some .free∧sc0.names.lookup y.1=some .cell)
    (hcp:∀p∈cp,N0[p.1]?=some p.2)(hcq:∀p∈cp,sc0.names.lookup p.2=some .cell∧scope.names.lookup p.2=some .free)
    (hs2:∀C s0 H0 fp x,foldedSetIterable iter2 (aK X scope cp tgN C s0 H0 fp).env x=pure x)(hs:∀x,foldedSetIterable iter X.env x=pure x:=by intro _;rfl):
    PE X (.ListComp elt [⟨tg,iter,ifs,0⟩,⟨tg2,iter2,ifs2,0⟩] scope pos) (z9 cp tgN.length wi g tc wi2 g2 tc2 te):=by
  intro pins s σ H Q I h
  have hkind:∀x,X.env.kindOf x=sc0.names.lookup x:=fun x=>by unfold Env.kindOf;rw [hsc]
  have hfree:∀y∈scope.names,y.2=.free→∃c,X.env.cells.lookup y.1=some c:=fun y hy e=>I.ok.has y.1 (.inl (by rw [hkind];exact(hfr y hy e).2))
  rw [eval_ListComp]
  refine wpAny_comprehension_free (use:=none) rfl hs (nG hfree) hk hnames (wpAny_mono (hi pins s σ H _ I h.go) (fun xv s₁ h₁=>wpAny_mono h₁ (fun itv s₂ h₂=>?_) fun _ _ e=>e) fun _ _ e=>e)
  obtain⟨it,fp,tn,J,H2,rfl,I2,T,st2,f2,hq⟩:=h₂
  refine wpAny_newObj_type ?_
  have hlF:H2 s₂.heap.objs.size=none:=I2.hok.fresh (Nat.le_refl _)
  have I3:aE X pins σ (a' H2 s₂.heap.objs.size (.lst [])) {s₂ with heap:=s₂.heap.push {cls:=.type "list",data:=.seq ([]:List Value).toArray}}:=I2.lnew (t':=s₂.toks) .nil (Nat.zero_le _)
  obtain⟨W,⟨m0,w0⟩,turn⟩:=hq _ hlF
  have f3:∀b∈fp,iu X pins (a' H2 s₂.heap.objs.size (.lst [])) b:=fun b hb=>by
    obtain⟨f0,fr⟩:=f2 b hb
    obtain⟨o,ho,_⟩:=T.obj _ _ st2 b hb
    exact⟨by rw [aw (Nat.ne_of_lt (Heap.lt_size ho))];exact f0,fr⟩
  have st3:tn 0 (s₂.heap.push {cls:=.type "list",data:=.seq ([]:List Value).toArray}):=T.keep _ _ _ st2 fun b _ o e=>Heap.get?_push_of_some _ e
  generalize hD:s₂.heap.objs.size=D at*
  generalize hs3:({s₂ with heap:=s₂.heap.push {cls:=.type "list",data:=.seq ([]:List Value).toArray}}:Shared)=s₃ at*
  have hst3:tn 0 s₃.heap:=by rw [←hs3];exact st3
  refine wpAny_newFunctionEnv hcell (by intro y hy;simp at hy) (fun h₁ hns₁ hsb₁=>?_) hk
  generalize hC:s₃.heap.objs.size=C at*
  have old:∀b o,s₃.heap.get? b=some o→h₁.get? b=some o:=fun b o e=>hsb₁.extBut b o (by rw [←hC];exact Nat.ne_of_lt (Heap.lt_size e)) (Heap.get?_push_of_some _ e)
  have nC:∀b o,s₃.heap.get? b=some o→b≠C:=fun b o e=>by rw [←hC];exact Nat.ne_of_lt (Heap.lt_size e)
  have hHC:(a' H2 D (.lst [])) C=none:=I3.hok.fresh (by rw [hC];exact Nat.le_refl _)
  have clS:∀x c,(i9 X.env scope.names []).lookup x=some c→X.env.cells.lookup x=some c:=fun x c e=>ke _ _ x c hfree (fun _ _ z=>by simp at z) e
  have clH:∀x,(∃y∈scope.names,y.1=x∧y.2=.free)→∃c,(i9 X.env scope.names []).lookup x=some c:=fun x e=>nF _ _ x (.inl e)
  have ok':(aK X scope cp tgN C s₃ (a' H2 D (.lst [])) fp).Ok:=by
    refine⟨I.ok.mod,hk,I.ok.glob,I.ok.blt,by rw [←hC];exact Nat.le_refl _,fun x y c e1 e2=>I.ok.inj x y c (clS _ _ e1) (clS _ _ e2),fun x e=>clH x (d9 hcell e),fun x c e1 e2=>?_,I.ok.hd,I.ok.frames,.inl rfl,fun b hb=>?_,fun b o e=>I3.bs b o e,?_,fun b o e hb=>?_,fun b hb z=>?_,I3.stack,fun b hb=>I3.stkFree b hb⟩
    · exfalso
      have e1':scope.names.lookup x=some .local:=by simpa [aK] using e1
      have e2':=clS x c e2
      obtain⟨c',hc'⟩:∃y∈scope.names,y.1=x∧y.2=.free:=by
        by_cases q:∃y∈scope.names,y.1=x∧y.2=.free
        · exact q
        · exfalso
          have:∀(names:List (Str × NameKind)) (cs:List (Str × Addr)),(¬∃y∈names,y.1=x∧y.2=.free)→cs.lookup x=none→(i9 X.env names cs).lookup x=none:=by
            intro names
            induction names with
            | nil=>intro cs _ h;exact h
            | cons y r ih=>
              intro cs hn hcs
              obtain⟨n,k⟩:=y
              refine ih _ (fun⟨y,hy,z⟩=>hn ⟨y,List.mem_cons_of_mem _ hy,z⟩) ?_
              by_cases hk:(k==NameKind.free)=true
              · rw [if_pos hk,List.lookup_cons]
                cases hx:x==n with
                | true=>exact absurd ⟨(n,k),List.mem_cons_self,(by simpa using hx:x=n).symm,by simpa using hk⟩ hn
                | false=>exact hcs
              · rw [if_neg hk];exact hcs
          have z:=this scope.names [] q rfl
          have e2'':(i9 X.env scope.names []).lookup x=some c:=e2
          rw [z] at e2'';cases e2''
      have z:=(hfr c' hc'.1 hc'.2.2).1
      rw [hc'.2.1,e1'] at z;cases z
    · obtain⟨f0,f1,f4,f5,f6,f7⟩:=f3 b hb
      obtain⟨o,ho,_⟩:=T.obj _ _ hst3 b hb
      exact⟨nC b o ho,fun x c e=>f6 x c (clS x c e)⟩
    · exact Nat.le_trans I.ok.bsz I3.sz
    · obtain⟨f0,f1,f4,f5,f6,f7⟩:=f3 b hb
      rcases f5 with z | z
      · exact I.ok.noex b o e z
      · have:=(I.ok.bs b o e).1
        exact absurd (Nat.lt_of_lt_of_le (Heap.lt_size this) z) (Nat.lt_irrefl _)
    · obtain⟨f0,f1,f4,f5,f6,f7⟩:=f3 b hb
      rcases List.mem_cons.mp (I3.stkSub b z) with z | z
      · exact f1 z
      · exact f4 z
  have I4:aE (aK X scope cp tgN C s₃ (a' H2 D (.lst [])) fp) [] (fw cp tgN.length σ) (a' H2 D (.lst [])) {s₃ with heap:=h₁,toks:=s₃.toks+([]:List (Str × Value)).length}:=by
    refine⟨ok',rfl,I3.bare,Un.kept old,⟨_,hns₁,fun i x v e1 e2 e3=>?_⟩,fun x c e=>?_,hHC,fun x c e=>I3.freeC x c (clS x c e),fun p hp=>by simp [aK] at hp,I3.hok.kept old,by simp [fw,aK]⟩
    · have hlt:i < cp.length:=by
        by_cases q:i < cp.length
        · exact q
        · exfalso
          unfold fw at e2
          rw [List.getElem?_append_right (by simp;lia)] at e2
          rw [List.getElem?_replicate] at e2
          split at e2<;>cases e2
      have e1':(cp.map (·.2))[i]?=some x:=by
        have e1'':(cp.map (·.2)++tgN)[i]?=some x:=e1
        rwa [List.getElem?_append_left (by simp;exact hlt)] at e1''
      have e2':(cp.map (fun p=>(σ[p.1]?).join))[i]?=some (some v):=by
        unfold fw at e2
        rwa [List.getElem?_append_left (by simp;exact hlt)] at e2
      rw [List.getElem?_map,List.getElem?_eq_getElem hlt] at e1' e2'
      have ex:(cp[i]).2=x:=by simpa using e1'
      have ev:(σ[(cp[i]).1]?).join=some v:=by simpa using e2'
      have ev':σ[(cp[i]).1]?=some (some v):=by
        cases q:σ[(cp[i]).1]? with
        | none=>rw [q] at ev;cases ev
        | some z=>rw [q] at ev;simp only [Option.join_some] at ev;rw [ev]
      have hN:=hcp cp[i] (List.getElem_mem hlt)
      rw [←hN0] at hN
      obtain⟨hcl,hcf⟩:=hcq cp[i] (List.getElem_mem hlt)
      rw [ex] at hN hcl hcf
      obtain⟨m,hn,hl⟩:=I3.loc
      obtain⟨u,r,l⟩:=hl _ x v hN ev' (.inr (.inl (by rw [hsc];exact hcl)))
      refine⟨u,r,.inr ?_⟩
      rcases l with ⟨k1,_⟩ | ⟨k1,c,hcc,o,ho,hd⟩
      · rw [hkind,hcl] at k1;cases k1
      · have e3':(relabel scope X.env).names.lookup x=some .local∨(relabel scope X.env).names.lookup x=some .cell∨(relabel scope X.env).names.lookup x=some .free:=e3
        have nl:(relabel scope X.env).names.lookup x=some .cell∨(relabel scope X.env).names.lookup x=some .free:=by
          rcases e3' with z | z | z
          · exact absurd z (fk hcf)
          · exact .inl z
          · exact .inr z
        obtain⟨c',hc'⟩:=clH x (d9 hcell nl)
        have:=clS x c' hc'
        rw [hcc] at this;cases this
        exact⟨nl,c,hc',o,old c o ho,hd⟩
    · obtain⟨v,o,ho,hd⟩:=I3.cell x c (clS x c e)
      exact⟨v,o,old c o ho,hd⟩
  have hst4:tn 0 h₁:=T.keep _ _ _ hst3 fun b _ o e=>old b o e
  have loop:codeAny (model X.prog X.w) X.A (.compLoop (.ListComp elt [⟨tg,iter,ifs,0⟩,⟨tg2,iter2,ifs2,0⟩] scope pos) 0 (.ref it) (.ref D) (compEnvC scope (i9 X.env scope.names []) C X.env))
      (compPost (model X.prog X.w) X.A X.xe none (EP X pins σ Q) (.ref D) C) {s₃ with heap:=h₁,toks:=s₃.toks+([]:List (Str × Value)).length}:=by
    refine qC (fun n s'=>∃i σ' H',aE (aK X scope cp tgN C s₃ (a' H2 D (.lst [])) fp) [] σ' H' s'∧tn i s'.heap∧(∀b∈fp,H' b=none)∧W i n σ' H') ?_ (n0:=m0) ⟨0,_,_,I4,hst4,fun b hb=>(f3 b hb).1,w0⟩
    rintro n s5 ⟨i,σ5,H5,I5,st5,fr5,w5⟩
    have stat:∀{H':Hp},(∀b∈fp,H' b=none)→∀b∈fp,iu (aK X scope cp tgN C s₃ (a' H2 D (.lst [])) fp) [] H' b:=fun hn b hb=>
      ⟨hn b hb,(ok'.exf b hb).1,ok'.exfs b hb,.inl hb,(ok'.exf b hb).2,fun p hp=>by simp [aK] at hp⟩
    rcases turn i n σ5 H5 w5 with ⟨stop,qn⟩ | ⟨go,N,hN,step⟩
    · refine cc (T.done (aK X scope cp tgN C s₃ (a' H2 D (.lst [])) fp) rfl rfl rfl hc i [] s5 σ5 H5 (fun _ _=>False) I5 (stat fr5) st5 stop) fun r s6 ⟨hr,I6⟩=>?_
      subst hr
      refine⟨fun _=>?_,fun v z=>by cases z⟩
      obtain⟨m,hn,_⟩:=I6.loc
      refine⟨m,hn,fun h' sb=>⟨.ref D,H5,?_,rfl,qn⟩⟩
      have ub:=I6.base
      have kp:∀b u,b≠C→s6.heap.get? b=some u→h'.get? b=some u:=fun b u ne e=>sb.extBut b u ne e
      have nit:∀b u,H5 b=some u→b≠C:=fun b u e z=>by
        have:=I6.free
        rw [z] at e
        rw [show H5 C=none from this] at e;cases e
      refine I3.call' (s':={s6 with heap:=h'}) (ch:=fp) I6.os ⟨fun b o e n hb hx=>kp b o (nC b o e) (ub.keep b o e n hb hx),fun b o e n hb hx=>?_,ub.free,fun b o e hx=>?_,ub.tups,ub.frzs,ub.tbls⟩ (fun b u e=>?_) I6.bare (fun b hb=>?_)
      · obtain⟨sl,q⟩:=ub.slot b o e n hb hx
        exact⟨sl,kp b _ (nC b o e) q⟩
      · obtain⟨o',q⟩:=ub.there b o e hx
        exact⟨o',kp b _ (nC b o e) q⟩
      · refine(I6.hok b u e).stay (fun c v hc q=>kp c v ?_ q) (fun _ q=>q) fun _ _ q=>q
        rcases hc with z | z
        · rw [z];exact nit b u e
        · exact nit c _ z
      · obtain⟨f0,f1,f4,f5,f6,f7⟩:=f3 b hb
        exact⟨f5,f1,f6,f7⟩
    · refine cc (T.item (aK X scope cp tgN C s₃ (a' H2 D (.lst [])) fp) rfl rfl rfl hc i [] s5 σ5 H5 (fun _ _=>False) I5 (stat fr5) st5 go) fun r s6 ⟨u,hr,h6⟩=>?_
      subst hr
      refine⟨fun z=>(by cases z),fun v z=>?_⟩
      cases z
      refine cc h6 fun _ s7 ⟨x,H7,I7,r7,y7,st7,fr7⟩=>?_
      have I7':=I7.pinned (stat fr7) (T.obj _ _ st7)
      have again:∀{σ8:L2.St} {H8:Hp} {s8:Shared},aE (aK X scope cp tgN C s₃ (a' H2 D (.lst [])) fp) ([]++ku fp s7.heap) σ8 H8 s8→N σ8 H8→∃m,m < n∧∃i σ' H',aE (aK X scope cp tgN C s₃ (a' H2 D (.lst [])) fp) [] σ' H' s8∧tn i s8.heap∧(∀b∈fp,H' b=none)∧W i m σ' H':=fun{σ8 H8 s8} I8 n8=>by
        obtain⟨m',hm,w8⟩:=hN σ8 H8 n8
        refine⟨m',hm,i+1,σ8,H8,I8.unpinned,T.keep _ _ _ st7 fun b hb o e=>(I8.pin (b,o) (List.mem_append_right _ (List.mem_append_right _ (cK hb e)))).1,fun b hb=>?_,w8⟩
        obtain⟨o,e,d⟩:=T.obj _ _ st7 b hb
        exact(I8.pin (b,o) (List.mem_append_right _ (List.mem_append_right _ (cK hb e)))).2.1
      refine cc (hg C s₃ (a' H2 D (.lst [])) fp _ s7 σ5 H7 x u _ I7' r7 (step x H7 y7)) fun _ s8 ⟨σ8,H8,I8,q8⟩=>?_
      refine cc (ht C s₃ (a' H2 D (.lst [])) fp _ s8 σ8 H8 _ I8 q8) fun ok s9 ⟨H9,I9,q9⟩=>?_
      cases ok with
      | false=>
        rw [if_neg Bool.false_ne_true] at q9 ⊢
        exact again I9 q9
      | true=>
        rw [if_pos rfl] at q9 ⊢
        exact fun k Q' E' hk=>yA (Y:=aK X scope cp tgN C s₃ (a' H2 D (.lst [])) fp) hc rfl (hi2 C s₃ _ fp) (hg2 C s₃ _ fp) (ht2 C s₃ _ fp) (he C s₃ _ fp) (hs2 C s₃ _ fp) I9 q9 k Q' E' fun s' ⟨σ11,H11,I11,q11⟩=>hk s' (again I11 q11)
  exact codeAny_compStart_list loop (T.self X.A 0 _ _ _ hst4 loop)
def iS(g:FG)(ft:FT)(fi2:FI)(g2:FG)(ft2:FT)(fe:FE):List PyData→En→List PyData→Option (List PyData × En)
  | [],e,acc=>some (acc,e)
  | x::r,e,acc=>(g x e).bind fun e1=>(ft e1).bind fun b=>if b.1=true then(fi2 b.2).bind fun p=>if p.2.1=[] then(bQ g2 ft2 fe p.1 p.2.2 acc).bind fun z=>iS g ft fi2 g2 ft2 fe r z.2 z.1 else none else iS g ft fi2 g2 ft2 fe r b.2 acc
def ma(cp:List (Nat × Str))(nT:Nat)(fi:FI)(g:FG)(ft:FT)(fi2:FI)(g2:FG)(ft2:FT)(fe:FE):FE:=fun e=>(fi e).bind fun p=>if (p.2.1.all fun q=> !(cp.any fun c=>c.1==q.1))=true then(iS g ft fi2 g2 ft2 fe p.1 (lR cp nT p.2.2) []).bind fun z=>if kd cp z.2 p.2.2=true then some (.l z.1,lE (lc cp) z.2 p.2.2) else none else none
section
variable{K:PySem.W.Frag}{F H:Hp}{σ:L2.St}{e:En}{cp:List (Nat × Str)}{nT:Nat}
theorem xF{Q:VK}{fi fi2:FI}{g g2:FG}{W:List Nat}{ft ft2:FT}{fe:FE}(hn:(cp.map (·.1)).Nodup)(hW:∀j∈W,cp.length≤j)(h:fE K (ma cp nT fi g ft fi2 g2 ft2 fe) σ H Q):z9 cp nT (fI K fi) (fG K g W) (fT K ft) (fI K fi2) (fG K g2 W) (fT K ft2) (fE K fe) σ H Q:=by
  obtain⟨F0,e0,z,e',R0,hf,q⟩:=h
  unfold ma at hf
  obtain⟨⟨items,own,e1⟩,h1,hf⟩:=Option.bind_eq_some_iff.mp hf
  dsimp only at hf
  split at hf
  case isFalse=>cases hf
  case isTrue hO=>
  obtain⟨⟨out,eo⟩,h2,hf⟩:=Option.bind_eq_some_iff.mp hf
  dsimp only at hf
  split at hf
  case isFalse=>cases hf
  case isTrue hB=>
  cases hf
  refine⟨⟨F0,e0,items,own,e1,R0,h1,fun J F1 H1 X1 R1 kp ok=>?_⟩⟩
  intro l hl
  obtain⟨Ri,sub⟩:=R1.inn (nT:=nT) hn
  have hFl:F1 l=none:=R1.freeF hl
  let Iv:Nat→L2.St→Hp→Prop:=fun i=>CI K W (fw cp nT σ) F1 H1 (lR cp nT e1) l fun _ ei acc=>iS g ft fi2 g2 ft2 fe (items.drop i) ei acc=some (out,eo)
  have notown:∀p∈own,∀a,σ[p.1]?=some (some (.ref a))→¬cL (fw cp nT σ) (lR cp nT e1) H1 a:=by
    rintro p hp a ha ⟨k,zf⟩
    obtain⟨xs,c1,c2⟩:=zf.resolve_right fun⟨xss,_,_,z,_⟩=>iV k xss z
    obtain⟨i,s,d1,d2⟩:=iU c1
    have e2:=lC d1 c2
    have:p.1=i:=R1.inj p.1 i p.2 xs a (kp p hp) d2 ha e2
    have hh:=List.all_eq_true.mp hO p hp
    simp only [Bool.not_eq_true',List.any_eq_false,beq_iff_eq] at hh
    exact hh (i,s) (List.mem_of_getElem? d1) this.symm
  refine⟨fun i m σ' H'=>m=items.length - i∧i≤items.length∧Iv i σ' H',⟨items.length,by simp,Nat.zero_le _,.mk (Ri.putT hFl (fun z=>(Ri.ownH l z) hl)).1 (cZ.refl.putT hl (Ri.putT hFl (fun z=>(Ri.ownH l z) hl)).2) hFl (fun z=>(Ri.ownH l (((Ri.putT hFl (fun z=>(Ri.ownH l z) hl)).2 l).mp z)) hl) ar aP.nil h2⟩,?_⟩
  rintro i m σ' H' ⟨rfl,hi,⟨R',X',fl,no,hl',da,hc⟩⟩
  rename_i F' ei acc vs
  have held:wx K σ F' H' own:=fun p hp=>by
    obtain⟨a,us,c1,c2,c3,c4⟩:=R1.own p.1 p.2 (kp p hp)
    exact⟨a,us,c1,X'.tmp a _ c3 (notown p hp a c1),c4.mono X'.sf⟩
  obtain⟨go,stop,yld⟩:=ok F' H' X'.sf R'.sm held
  by_cases hlt:i < items.length
  · have hd:items.drop i=items[i]::items.drop (i+1):=List.drop_eq_getElem_cons hlt
    rw [hd] at hc
    unfold iS at hc
    obtain⟨e2,c2,hc⟩:=Option.bind_eq_some_iff.mp hc
    obtain⟨⟨b,e3⟩,c3,hc⟩:=Option.bind_eq_some_iff.mp hc
    refine .inr ⟨go i hlt,Iv (i+1),fun σ2 H2 r=>⟨items.length - (i+1),by lia,rfl,hlt,r⟩,fun x H2 hy=>?_⟩
    obtain⟨F2,sH,sF2,sm2,fz,hx⟩:=yld i items[i] x H2 (List.getElem?_eq_getElem hlt) hy
    obtain⟨R2,X2⟩:=R'.step sH sF2 sm2 fz
    refine⟨F2,ei,items[i],e2,R2,hx,c2,fun σ3 X3 R3=>⟨F2,e2,b,e3,R3,c3,fun F4 H4 X4 R4=>?_⟩⟩
    have hlH2:H2 l=some (.lst vs):=sH _ _ hl'
    have no2:¬cL σ' ei H2 l:=fun z=>by
      rcases X2.ow l z with z | z
      · exact no z
      · rw [hl'] at z;cases z
    have no3:¬cL σ3 e2 H2 l:=fun z=>by
      rcases X3.own l z with z | z
      · exact no2 z
      · rw [hlH2] at z;cases z
    have fl2:F2 l=none:=fz l fl (by rw [hl'];simp)
    have hlH4:H4 l=some (.lst vs):=X4.tmp l _ hlH2 no3
    have fl4:F4 l=none:=X4.fr l vs fl2 hlH2 no3
    have no4:¬cL σ3 e3 H4 l:=fun z=>by
      rcases X4.ow l z with z | z
      · exact no3 z
      · rw [hlH2] at z;cases z
    have E4:cZ W (fw cp nT σ) F1 H1 (lR cp nT e1) σ3 F4 H4 e3:=((X'.trans X2.s).trans X3).trans X4.s
    have da4:=da.mono (sF2.trans X4.sf)
    cases b with
    | false=>
      rw [if_neg (by simp)] at hc
      exact AZ (.mk R4 E4 fl4 no4 hlH4 da4 hc)
    | true=>
      rw [if_pos rfl] at hc
      obtain⟨⟨its2,own2,e5⟩,c5,hc⟩:=Option.bind_eq_some_iff.mp hc
      dsimp only at hc
      split at hc
      case isFalse=>cases hc
      case isTrue ho2=>
      subst ho2
      obtain⟨⟨acc2,e6⟩,c6,hc⟩:=Option.bind_eq_some_iff.mp hc
      refine A0 ⟨F4,e3,its2,[],e5,R4,c5,fun J2 F5 H5 X5 R5 _ ok2=>?_⟩
      have hlH5:H5 l=some (.lst vs):=X5.tmp l _ hlH4 no4
      have fl5:F5 l=none:=X5.fr l vs fl4 hlH4 no4
      have no5:¬cL σ3 e5 H5 l:=fun z=>by
        rcases X5.ow l z with z | z
        · exact no4 z
        · rw [hlH4] at z;cases z
      let Iv2:Nat→L2.St→Hp→Prop:=fun j=>CI K W (fw cp nT σ) F1 H1 (lR cp nT e1) l fun F' ei acc=>aA F5 F'∧bQ g2 ft2 fe (its2.drop j) ei acc=some (acc2,e6)
      refine⟨fun j m σ' H'=>m=its2.length - j∧j≤its2.length∧Iv2 j σ' H',⟨its2.length,by simp,Nat.zero_le _,.mk R5 (E4.trans X5.s) fl5 no5 hlH5 (da4.mono X5.sf) ⟨aA.refl _,c6⟩⟩,?_⟩
      rintro j m σ6 H6 ⟨rfl,hj,⟨R6,X6,fl6,no6,hl6,da6,s6,hc6⟩⟩
      rename_i F6 ei6 acc6 vs6
      obtain⟨go2,stop2,yld2⟩:=ok2 F6 H6 s6 R6.sm (fun p hp=>by cases hp)
      by_cases hjt:j < its2.length
      · have hd2:its2.drop j=its2[j]::its2.drop (j+1):=List.drop_eq_getElem_cons hjt
        rw [hd2] at hc6
        unfold bQ at hc6
        obtain⟨e7,c7,hc6⟩:=Option.bind_eq_some_iff.mp hc6
        obtain⟨⟨b8,e8⟩,c8,hc6⟩:=Option.bind_eq_some_iff.mp hc6
        refine .inr ⟨go2 j hjt,Iv2 (j+1),fun σ2 H2 r=>⟨its2.length - (j+1),by lia,rfl,hjt,r⟩,fun x7 H7 hy7=>?_⟩
        obtain⟨F7,sH7,sF7,sm7,fz7,hx7⟩:=yld2 j its2[j] x7 H7 (List.getElem?_eq_getElem hjt) hy7
        obtain⟨R7,X7⟩:=R6.step sH7 sF7 sm7 fz7
        refine⟨F7,ei6,its2[j],e7,R7,hx7,c7,fun σ8 X8 R8=>⟨F7,e7,b8,e8,R8,c8,fun F9 H9 X9 R9=>?_⟩⟩
        have hlH7:H7 l=some (.lst vs6):=sH7 _ _ hl6
        have no7:¬cL σ6 ei6 H7 l:=fun z=>by
          rcases X7.ow l z with z | z
          · exact no6 z
          · rw [hl6] at z;cases z
        have no8:¬cL σ8 e7 H7 l:=fun z=>by
          rcases X8.own l z with z | z
          · exact no7 z
          · rw [hlH7] at z;cases z
        have fl7:F7 l=none:=fz7 l fl6 (by rw [hl6];simp)
        have hlH9:H9 l=some (.lst vs6):=X9.tmp l _ hlH7 no8
        have fl9:F9 l=none:=X9.fr l vs6 fl7 hlH7 no8
        have no9:¬cL σ8 e8 H9 l:=fun z=>by
          rcases X9.ow l z with z | z
          · exact no8 z
          · rw [hlH7] at z;cases z
        have E9:cZ W (fw cp nT σ) F1 H1 (lR cp nT e1) σ8 F9 H9 e8:=((X6.trans X7.s).trans X8).trans X9.s
        have s9:aA F5 F9:=(s6.trans sF7).trans X9.sf
        cases b8 with
        | false=>
          rw [if_neg (by simp)] at hc6
          exact AZ (.mk R9 E9 fl9 no9 hlH9 (da6.mono (sF7.trans X9.sf)) ⟨s9,hc6⟩)
        | true=>
          rw [if_pos rfl] at hc6
          obtain⟨⟨r,e10⟩,c10,hc6⟩:=Option.bind_eq_some_iff.mp hc6
          obtain⟨d,c11,hc6⟩:=Option.bind_eq_some_iff.mp hc6
          split at hc6
          case isFalse=>cases hc6
          case isTrue hlen=>
          refine A0 ⟨F9,e8,r,e10,R9,c10,fun Fa Ha v Xa Ra Aa=>?_⟩
          have hlHa:Ha l=some (.lst vs6):=Xa.tmp l _ hlH9 no9
          have fla:Fa l=none:=Xa.fr l vs6 fl9 hlH9 no9
          have noa:¬cL σ8 e10 Ha l:=fun z=>by
            rcases Xa.ow l z with z | z
            · exact no9 z
            · rw [hlH9] at z;cases z
          obtain⟨Fb,Rb,sb,db,fb⟩:=cO.frozen Ra (rs:=[r]) (vs:=[v]) ⟨v,[],rfl,Aa,rfl⟩ (jR c11)
          have flb:Fb l=none:=fb l fla (by rw [hlH9];simp)
          have Xb:=Xa.frz sb fb
          have ll:=da6.len
          have sl:sizeLine=16777216:=sizeLine_eq
          have dv:DA K Fb d v:=by
            simp only [aP] at db
            obtain⟨v',r',e',hv,_⟩:=db
            cases e';exact hv
          obtain⟨Rc,oc⟩:=Rb.putT (ws:=vs6++[v]) flb noa
          exact⟨vs6,hlHa,by lia,.mk Rc ((E9.trans Xb.s).putT hl oc) flb (fun z=>noa ((oc l).mp z)) ar ((da6.mono (sF7.trans (X9.sf.trans (Xa.sf.trans sb)))).append (aP.one dv)) ⟨s9.trans (Xa.sf.trans sb),hc6⟩⟩
      · have hd2:its2.drop j=[]:=List.drop_eq_nil_of_le (by lia)
        rw [hd2] at hc6
        cases hc6
        exact .inl ⟨stop2 j (by lia),.mk R6 X6 fl6 no6 hl6 da6 hc⟩
  · have hd:items.drop i=[]:=List.drop_eq_nil_of_le (by lia)
    rw [hd] at hc
    cases hc
    refine .inl ⟨stop i (by lia),?_⟩
    obtain⟨R9,X9,o9⟩:=oK R1 sub iV X'.sf X'.dom X'.fr X'.lst X'.tmp R' (fun i k xs g1 g2=>X'.wr k fun z=>by
      obtain⟨s,g⟩:=et g2
      have:=(List.getElem?_eq_some_iff.mp g).1
      have:=hW k z
      lia) fun i k xs g1 g2=>by
        obtain⟨s,g⟩:=et g2
        unfold kd at hB
        have hb:=List.all_eq_true.mp hB _ (List.mem_of_getElem? g)
        simp only [g1,g2,Option.getD_some,yB,Bool.not_true,Bool.false_or] at hb
        exact vM.mp hb
    exact q F' H' (.ref l) (X1.trans X9) R9 ⟨l,vs,rfl,X1.dom l hl,fl,hl',da,fun z=>R1.ownH l (o9 l z) hl⟩
end
theorem PG.wide{X:Cx}{K:PySem.W.Frag}{tg:Expr}{g:FG}{W W':List Nat}(h:PG X tg (fG K g W))(hw:∀j,j∈W→j∈W'):PG X tg (fG K g W'):=h.mono fun v σ H Q ⟨F,e,x,e',R,d,hg,q⟩=>⟨F,e,x,e',R,d,hg,fun σ' x=>q σ' (x.mono hw)⟩
section
variable{X:Cx}{K:PySem.W.Frag}{pos:Pos}
theorem BU{elt iter tg iter2 tg2:Expr}{ifs ifs2:List Expr}{scope:Scope}{fi fi2:FI}{g g2:FG}{ft ft2:FT}{fe:FE}{W W2:List Nat}(sc0:Scope)(N0:List Str)(cp:List (Nat × Str))(tgN:List Str)
    (hc:X.calm=true)(hsc:X.env.scope=sc0)(hN0:X.N=N0)(hi:PI X tg iter (fI K fi))
    (hg:∀C s0 H0 fp,PG (aK X scope cp tgN C s0 H0 fp) tg (fG K g W))
    (ht:∀C s0 H0 fp,vm (aK X scope cp tgN C s0 H0 fp) ifs (fT K ft))
    (hi2:∀C s0 H0 fp,PI (aK X scope cp tgN C s0 H0 fp) tg2 iter2 (fI K fi2))
    (hg2:∀C s0 H0 fp,PG (aK X scope cp tgN C s0 H0 fp) tg2 (fG K g2 W2))
    (ht2:∀C s0 H0 fp,vm (aK X scope cp tgN C s0 H0 fp) ifs2 (fT K ft2))
    (he:∀C s0 H0 fp,PE (aK X scope cp tgN C s0 H0 fp) elt (fE K fe))
    (hk:scope.kind=.function)(hcell:∀y∈scope.names,y.2≠.cell)(hnames:∀y∈scope.names,y.2=.local→scope.names.lookup y.1=some .local)
    (hfr:∀y∈scope.names,y.2=.free→scope.names.lookup y.1=some .free∧sc0.names.lookup y.1=some .cell)
    (hcp:∀p∈cp,N0[p.1]?=some p.2)(hcq:∀p∈cp,sc0.names.lookup p.2=some .cell∧scope.names.lookup p.2=some .free)(hnd:(cp.map (·.1)).Nodup)(hW:∀j∈W++W2,cp.length≤j)
    (hs2:∀C s0 H0 fp x,foldedSetIterable iter2 (aK X scope cp tgN C s0 H0 fp).env x=pure x)(hs:∀x,foldedSetIterable iter X.env x=pure x):
    PE X (.ListComp elt [⟨tg,iter,ifs,0⟩,⟨tg2,iter2,ifs2,0⟩] scope pos) (fE K (ma cp tgN.length fi g ft fi2 g2 ft2 fe)):=
  (y3 sc0 N0 cp tgN hc hsc hN0 hi (fun C s0 H0 fp=>(hg C s0 H0 fp).wide fun j hj=>List.mem_append_left W2 hj) ht hi2 (fun C s0 H0 fp=>(hg2 C s0 H0 fp).wide fun j hj=>List.mem_append_right W hj) ht2 he hk hcell hnames hfr hcp hcq hs2 hs).mono fun _ _ _ h=>xF hnd hW h
end
section
variable{X:Cx}{K:PySem.W.Frag}{pos:Pos}
variable{o:Expr}{fo:FE}{apos cpos:Pos}
end
end L2
namespace L2
open PySem PySem.Spec PyProof.Rows
section
variable{X:Cx}{K:PySem.W.Frag}
def Ij:List Int→Int
  | []=>0
  | x::r=>r.foldl max x
end
end L2
namespace L2
open PySem PySem.Spec PyProof.Rows
structure Ir (f:Fr):Prop where
  pos:0 < f.2
  cop:Int.gcd f.1 f.2=1
abbrev Pg:=List Int × Int
def Ik(t:qo)(p:Pg):Bool:= !p.1.contains t.one&& !p.1.contains t.other
def He(t:qo)(p:Pg):Pg:=(p.1++[t.one,t.other],p.2+t.worth)
def Im(ps:List Pg)(t:qo):List Pg:=ps++(ps.filter (Ik t)).map (He t)
def Il(ts:List qo):List Pg:=ts.foldl Im [([],0)]
structure HN (k:Nat) (ps:List Pg):Prop where
  ne:ps≠[]
  len:ps.length≤2 ^ k
  pt:∀p∈ps,p.1.length≤2*k∧0≤p.2∧p.2≤1000*(k:Int)
def HR(ts:List qo):Int:=Ij ((Il ts).map (·.2))
end L2
namespace L2
open PySem PySem.Spec PyProof.Rows
end L2
namespace L2
open PySem PySem.Spec PyProof.Rows
section
variable{prog:Program}{w:World}{A:Around}{E:Value→Shared→Prop}{s:Shared}
end
section
variable{X:Cx}{a:Expr}{ta:TA}{p p2 pos pos2:Pos}
variable{K:PySem.W.Frag}{fs:FA}{p3:Pos}
end
end L2
namespace L2
open PySem PySem.Spec PyProof.Rows
def CN:PyData→Bool
  | .int _=>true
  | _=>false
theorem pF{α:Type}(p:α→Bool):∀(ds:List α),nA (ds.map fun d=>PyData.bool (p d))=some (ds.map p)
  | []=>rfl
  | d::r=>by simp [nA,pF p r]
theorem sk{α:Type}{e:En}(p:α→Bool)(ds:List α):g1 (kS nJ) e [.l (ds.map fun d=>.bool (p d))]=some (.d (.bool (ds.all p))):=by
  simp [g1,kS,fm,nJ,pF p,List.all_map]
theorem kh{α:Type}:∀(l:List α) (i:Nat) (h:i < l.length),(l[i]::l.eraseIdx i).Perm l
  | x::r,0,_=>.refl _
  | x::r,i+1,h=>(List.Perm.swap x _ _).trans ((kh r i (by simpa using h)).cons x)
  | [],_,h=>by simp at h
theorem AG{xs:List PyData}{lo hi:Option Int}:(gS xs lo hi).length≤xs.length:=by
  unfold gS
  rw [List.length_take,List.length_drop]
  lia
theorem pH{g:FG}{ft:FT}{fe:FE}(P:Nat→En→Prop)(R:PyData→Prop):∀(items:List PyData) (k:Nat) (e:En) (acc:List PyData),(∀i x e,items[i]?=some x→P (k+i) e→∃e1 r d e2,g x e=some e1∧ft e1=some (true,e1)∧fe e1=some (r,e2)∧ki r=some d∧R d∧P (k+i+1) e2)→P k e→acc.length+items.length≤1000000→
    ∃out e',bQ g ft fe items e acc=some (acc++out,e')∧out.length=items.length∧(∀d∈out,R d)∧P (k+items.length) e'
  | [],k,e,acc,_,h,_=>⟨[],e,by simp [bQ],rfl,(fun _ h=>by cases h),h⟩
  | x::r,k,e,acc,hs,h,hl=>by
    obtain⟨e1,v,d,e2,h1,h2,h3,h3',h4,h5⟩:=hs 0 x e rfl h
    simp only [List.length_cons] at hl
    obtain⟨out,e',h6,h7,h8,h9⟩:=pH P R r (k+1) e2 (acc++[d]) (fun i y e hy hp=>by
      have:=hs (i+1) y e (by simpa using hy) (by rw [show k+(i+1)=k+1+i by lia];exact hp)
      rw [show k+(i+1)+1=k+1+i+1 by lia] at this
      exact this) (by simpa using h5) (by simp;lia)
    refine⟨d::out,e',?_,by simp [h7],fun y hy=>?_,by rw [List.length_cons,show k+(r.length+1)=k+1+r.length by lia];exact h9⟩
    · unfold bQ
      simp only [h1,h2,h3,h3',Option.bind_some,if_true]
      rw [if_pos (by lia),h6]
      simp
    · rcases List.mem_cons.mp hy with rfl | hy
      · exact h4
      · exact h8 y hy
theorem xH{cp:List (Nat × Str)}{nT:Nat}{fi:FI}{g:FG}{ft:FT}{fe:FE}{e e1 eo:En}{items out:List PyData}(h1:fi e=some (items,[],e1))(h3:bQ g ft fe items (lR cp nT e1) []=some (out,eo))(hb:kd cp eo e1=true):ee cp nT fi g ft fe e=some (.l out,lE (lc cp) eo e1):=by
  unfold ee
  rw [h1]
  simp only [Option.bind_some,List.all_nil,if_true,h3]
  rw [if_pos hb]
end L2
namespace L2
open PySem PySem.Spec PyProof.Rows
mutual
def sV:Nat→PyData→Bool
  | _,.none=>true
  | _,.bool _=>true
  | _,.int i=>decide (i.natAbs < 2 ^ 128)
  | _,.str x=>PyData.strOk x&&decide (x.length≤10)
  | k,.list xs=>decide (0 < k)&&jA (k - 1) xs
  | k,.tuple xs=>decide (0 < k)&&jA (k - 1) xs
  | _,.dict _=>false
def jA:Nat→List PyData→Bool
  | _,[]=>true
  | k,x::r=>sV k x&&jA k r
end
mutual
def wt:PyData→Nat
  | .list xs=>mN xs+1
  | .tuple xs=>mN xs+1
  | .dict _=>1
  | .none=>1
  | .bool _=>1
  | .int _=>1
  | .str _=>1
def mN:List PyData→Nat
  | []=>0
  | x::r=>wt x+mN r
end
theorem lX{k:Nat}:∀{ds:List PyData},jA k ds=true↔ ∀d∈ds,sV k d=true
  | []=>by simp [jA]
  | d::r=>by simp [jA,lX (ds:=r)]
theorem tY:∀(ts:List Str) (k:Nat) (acc:Str),(textFrom k acc ts).length≤acc.length+piled ts
  | [],_,acc=>by show acc.length≤acc.length+0;lia
  | t::r,k,acc=>by
    have ih:=tY r (k+1) (acc++(if k > 0 then ", " else "":String)++t)
    have e:(acc++(if k > 0 then ", " else "":String)++t).length≤acc.length+2+t.length:=by
      rw [strLen_append,strLen_append]
      have:(Str.ofString (if k > 0 then ", " else "")).length≤2:=by split<;>decide
      lia
    show(textFrom (k+1) _ r).length≤_
    rw [piled_cons];lia
theorem sL(ts:List Str):(listText ts).length≤piled ts+2:=by
  unfold listText
  rw [strLen_append]
  have h:=tY ts 0 "["
  have h1:(("[":Str)).length=1:=by decide
  have h2:(("]":Str)).length=1:=by decide
  lia
theorem oJ:∀(ts:List Str) (k:Nat) (acc:Str),PyData.strOk acc=true→(∀t∈ts,PyData.strOk t=true)→PyData.strOk (textFrom k acc ts)=true
  | [],_,acc,h,_=>h
  | t::r,k,acc,h,hs=>oJ r (k+1) _ (eB (eB h (br _)) (hs t (by simp))) fun u hu=>hs u (by simp [hu])
theorem qb{ts:List Str}(h:∀t∈ts,PyData.strOk t=true):PyData.strOk (listText ts)=true:=eB (oJ ts 0 _ (br _) h) (br _)
structure GR (d:PyData) (k:Nat):Prop where
  lay:d.canLay0=true
  sh:d.showable=true
  dp:d.depth≤k
  ln:d.shown.length+2≤104*wt d
  so:PyData.strOk d.shown=true
theorem nj{d:PyData}{n:Nat}{k:Nat}(h:Sz n 0 d∨Sz n 2 d)(hn:n≤102)(hw:wt d=1)(hl:d.canLay0=true)(hd:d.depth=0):GR d k:=by
  rcases h with h | h<;>exact⟨hl,h.sh,by lia,by have:=h.ln;lia,h.so⟩
mutual
theorem xR{k:Nat}:∀{d:PyData},sV k d=true→GR d k
  | .none,_=>⟨rfl,rfl,by simp [PyData.depth],by show(Str.ofString "None").length+2≤104*1;decide,br _⟩
  | .bool b,_=>nj (.inr Sz.bool) (by decide) rfl rfl (by simp [PyData.depth])
  | .int i,h=>by
    simp only [sV,decide_eq_true_eq] at h
    exact nj (.inr (Sz.int10 (n:=39) (m:=128) (show Bt 128 i from h) (by decide) (by decide) (Nat.lt_of_lt_of_le h (by decide)) (by decide))) (by decide) rfl rfl (by simp [PyData.depth])
  | .str x,h=>by
    simp only [sV,Bool.and_eq_true,decide_eq_true_eq] at h
    exact nj (.inr (Sz.str (n:=10) h.1 h.2)) (by decide) rfl (by simpa [PyData.canLay0] using h.1) (by simp [PyData.depth])
  | .dict _,h=>by simp [sV] at h
  | .list xs,h=>by
    simp only [sV,Bool.and_eq_true,decide_eq_true_eq] at h
    obtain⟨a1,a2,a3,a4,a5⟩:=qr h.2
    have:=sL (PyData.shownAll xs)
    refine⟨by simpa [PyData.canLay0] using a1,a2,by simp only [PyData.depth];lia,by simp only [PyData.shown,wt];lia,by simp only [PyData.shown];exact qb a5⟩
  | .tuple xs,h=>by
    simp only [sV,Bool.and_eq_true,decide_eq_true_eq] at h
    obtain⟨a1,a2,a3,a4,a5⟩:=qr h.2
    have:=j3 (PyData.shownAll xs)
    refine⟨by simpa [PyData.canLay0] using a1,a2,by simp only [PyData.depth];lia,by simp only [PyData.shown,wt];lia,by simp only [PyData.shown];exact l8 a5⟩
theorem qr{k:Nat}:∀{ds:List PyData},jA k ds=true→PyData.canLayAll0 ds=true∧PyData.showableAll ds=true∧PyData.depthAll ds≤k∧piled (PyData.shownAll ds)≤104*mN ds∧∀t∈PyData.shownAll ds,PyData.strOk t=true
  | [],_=>⟨rfl,rfl,by simp [PyData.depthAll],by simp [PyData.shownAll,piled],by simp [PyData.shownAll]⟩
  | d::r,h=>by
    simp only [jA,Bool.and_eq_true] at h
    obtain⟨a1,a2,a3,a4,a5⟩:=xR h.1
    obtain⟨b1,b2,b3,b4,b5⟩:=qr h.2
    refine⟨by simp only [PyData.canLayAll0,a1,b1,Bool.and_self],by simp only [PyData.showableAll,a2,b2,Bool.and_self],by simp only [PyData.depthAll];lia,by simp only [PyData.shownAll,piled_cons,mN];lia,fun t ht=>?_⟩
    simp only [PyData.shownAll,List.mem_cons] at ht
    rcases ht with rfl | ht
    · exact a5
    · exact b5 t ht
end
theorem GR.ok{d:PyData}{k:Nat}(h:GR d k)(hk:k≤60)(hw:wt d≤100000):eG d=true:=by
  have sl:sizeLine=16777216:=sizeLine_eq
  have:=h.ln
  unfold eG
  rw [PyData.hasDict_of_canLay d h.lay,h.sh,decide_eq_true (Nat.le_trans h.dp hk),decide_eq_true (show d.shown.length≤sizeLine by rw [sl];lia)]
  simp
def mW(n:Int):PyData→Bool
  | .tuple ds=>(ds.length:Int)==n
  | _=>false
def qK:PyData→Bool
  | .tuple [.int t,.int b]=>decide (1≤b)&&decide (Int.gcd t b=1)
  | _=>false
theorem yp{e:En}{xs:List PyData}{neg:Bool}(hs:SeqAt.shaped (.tuple xs)=true):bO neg e (.d (.tuple xs)) (.d (.tuple []))=some (.d (.bool (if neg then !xs.isEmpty else xs.isEmpty))):=by
  unfold bO
  simp only [iD,Option.bind_some,hs]
  have h0:SeqAt.shaped (.tuple [])=true:=by simp [SeqAt.shaped,PyData.canLay0,PyData.canLayAll0,PyData.depth,PyData.depthAll]
  rw [h0]
  cases xs<;>simp [PyData.eqv,PyData.eqvAll]
theorem Hz{d:PyData}(h:mW 2 d=true):∃x y,d=.tuple [x,y]:=by
  cases d with
  | tuple ds=>
    rcases ds with _ | ⟨x,_ | ⟨y,_ | ⟨z,r⟩⟩⟩
    · simp [mW] at h
    · simp [mW] at h
    · exact⟨x,y,rfl⟩
    · simp [mW] at h;lia
  | _=>simp [mW] at h
theorem vN{d:PyData}(h:CN d=true):∃i,d=.int i:=by
  cases d with
  | int i=>exact⟨i,rfl⟩
  | _=>simp [CN] at h
theorem su{e:En}{a b c d:Int}:bO false e (.d (.tuple [.int a,.int b])) (.d (.tuple [.int c,.int d]))=some (.d (.bool (a==c&&b==d))):=by
  unfold bO
  have h0:∀x y:Int,SeqAt.shaped (.tuple [.int x,.int y])=true:=fun x y=>by simp [SeqAt.shaped,PyData.canLay0,PyData.canLayAll0,PyData.depth,PyData.depthAll]
  simp only [iD,Option.bind_some,h0,Bool.and_self,if_true]
  simp [PyData.eqv,PyData.eqvAll]
theorem Di{b:Int}(h:b.natAbs.log2 < 1920)(h0:b≠0):Bt 4000 b:=Bt.mono (m:=1920) ((Nat.log2_lt (by lia)).mp h) (by decide)
theorem A7{t b:Int}(hb:0 < b):((bC t b).1==t&&(bC t b).2==b)=decide (Int.gcd t b=1):=by
  rw [Bool.eq_iff_iff]
  simp only [Bool.and_eq_true,beq_iff_eq,decide_eq_true_eq]
  constructor
  · rintro⟨h1,h2⟩
    have:=nP (t:=t) (b:=b) (by lia)
    rwa [h1,h2] at this
  · intro h
    unfold bC
    rw [if_neg (by lia),h]
    simp
theorem xQ{ds:List PyData}(h:PyData.showableAll ds=true):∀d∈ds,d.showable=true:=fun d hd=>by
  induction ds with
  | nil=>cases hd
  | cons x r ih=>
    simp only [PyData.showableAll,Bool.and_eq_true] at h
    rcases List.mem_cons.mp hd with rfl | hd
    · exact h.1
    · exact ih h.2 hd
end L2
namespace L2
open PySem PySem.Spec PyProof.Rows
section
variable{X:Cx}{K:PySem.W.Frag}
variable{a b:Expr}{fa fb:FE}{pos:Pos}
end
end L2
namespace L2
open PySem PySem.Spec PyProof.Rows
def tx(s:Str):List Nat:=s.cps.toList
theorem gN(a b:Str):tx (a++b)=tx a++tx b:=by
  show(a.cps++b.cps).toList=_
  rw [Array.toList_append];rfl
def rP(l:List Nat):Prop:=∀c r,l=c::r→c=44∨c=41∨c=93
theorem tU:rP []:=fun c r h=>by cases h
theorem eH{r:List Nat}:rP (44::r):=fun c q h=>by cases h;exact .inl rfl
theorem ng{r:List Nat}:rP (41::r):=fun c q h=>by cases h;exact .inr (.inl rfl)
theorem nH:∀{ds es s t:List Nat},NumText.AllDigits ds→NumText.AllDigits es→rP s→rP t→ds++s=es++t→ds=es∧s=t
  | [],[],s,t,_,_,_,_,h=>⟨rfl,h⟩
  | [],e::es,s,t,_,h2,h3,_,h=>by
    have a:=h3 e (es++t) (by simpa using h)
    have b:=h2 e (by simp)
    lia
  | d::ds,[],s,t,h1,_,_,h4,h=>by
    have a:=h4 d (ds++s) (by simpa using h.symm)
    have b:=h1 d (by simp)
    lia
  | d::ds,e::es,s,t,h1,h2,h3,h4,h=>by
    simp only [List.cons_append,List.cons.injEq] at h
    obtain⟨r1,r2⟩:=nH (fun c hc=>h1 c (by simp [hc])) (fun c hc=>h2 c (by simp [hc])) h3 h4 h.2
    exact⟨by rw [h.1,r1],r2⟩
theorem vU(m:Nat):∃ds,NumText.AllDigits ds∧ds≠[]∧NumText.digitsVal ds=m∧(Str.ofString (toString m)).cps.toList=ds:=by
  refine⟨(Nat.toDigits 10 m).map Char.toNat,fun c hc=>?_,fun e=>?_,PySem.W.KIN.val_back m,PySem.W.KIN.signs_num m⟩
  · obtain⟨ch,hch,e⟩:=List.mem_map.mp hc
    have r:=digit_range (Nat.isDigit_of_mem_toDigits (by decide) (by decide) hch)
    rw [←e]
    exact r
  · have h:=toDigits_len_ge 10 m
    rw [List.map_eq_nil_iff.mp e] at h
    exact absurd h (by decide)
theorem n_(i:Int):∃ds,NumText.AllDigits ds∧ds≠[]∧NumText.digitsVal ds=i.natAbs∧tx (PyData.shown (.int i))=(if i < 0 then 45::ds else ds):=by
  cases i with
  | ofNat m=>
    obtain⟨ds,h1,h2,h3,h4⟩:=vU m
    refine⟨ds,h1,h2,by simpa using h3,?_⟩
    rw [if_neg (by simp)]
    simp only [PyData.shown]
    exact h4
  | negSucc m=>
    obtain⟨ds,h1,h2,h3,h4⟩:=vU (m+1)
    refine⟨ds,h1,h2,by simpa using h3,?_⟩
    rw [if_pos (by simp)]
    simp only [PyData.shown]
    show(Str.ofString ("-"++toString (m+1))).cps.toList=_
    rw [signs_ofString] at h4 ⊢
    rw [String.toList_append,List.map_append,h4]
    rfl
theorem Ba{i j:Int}{s t:List Nat}(h3:rP s)(h4:rP t)(h:tx (PyData.shown (.int i))++s=tx (PyData.shown (.int j))++t):i=j∧s=t:=by
  obtain⟨ds,a1,a2,a3,a4⟩:=n_ i
  obtain⟨es,b1,b2,b3,b4⟩:=n_ j
  rw [a4,b4] at h
  by_cases c1:i < 0<;>by_cases c2:j < 0
  · rw [if_pos c1,if_pos c2] at h
    simp only [List.cons_append,List.cons.injEq,true_and] at h
    obtain⟨r1,r2⟩:=nH a1 b1 h3 h4 h
    subst r1
    exact⟨by lia,r2⟩
  · rw [if_pos c1,if_neg c2] at h
    cases es with
    | nil=>exact absurd rfl b2
    | cons e es=>
      simp only [List.cons_append,List.cons.injEq] at h
      have:=b1 e (by simp)
      lia
  · rw [if_neg c1,if_pos c2] at h
    cases ds with
    | nil=>exact absurd rfl a2
    | cons e es=>
      simp only [List.cons_append,List.cons.injEq] at h
      have:=a1 e (by simp)
      lia
  · rw [if_neg c1,if_neg c2] at h
    obtain⟨r1,r2⟩:=nH a1 b1 h3 h4 h
    subst r1
    exact⟨by lia,r2⟩
def lN:PyData→List Nat
  | .none=>[78]
  | .bool b=>[if b then 84 else 70]
  | .int _=>[45,48,49,50,51,52,53,54,55,56,57]
  | .str _=>[34,39]
  | .list _=>[91]
  | .tuple _=>[40]
  | .dict _=>[123]
open PySem.Builtin.Str in
theorem pM:∀(l:List Nat) (q c:Nat) (r:List Nat),∃r',l.foldl (fun out c=>out++reprChar q c) (c::r)=c::r'
  | [],q,c,r=>⟨r,rfl⟩
  | x::l,q,c,r=>by
    simp only [List.foldl_cons,List.cons_append]
    exact pM l q c _
theorem qg:∀(ts:List Str) (k:Nat) (acc:Str) (c:Nat) (r:List Nat),tx acc=c::r→∃r',tx (textFrom k acc ts)=c::r'
  | [],_,acc,c,r,h=>⟨r,h⟩
  | t::ts,k,acc,c,r,h=>qg ts (k+1) _ c (r++tx (Str.ofString (if k > 0 then ", " else ""))++tx t) (by rw [gN,gN,h];simp)
theorem AJ{e:Nat}(h:48≤e∧e≤57):e∈[45,48,49,50,51,52,53,54,55,56,57]:=by
  have key:∀k,k < 10→48+k∈[45,48,49,50,51,52,53,54,55,56,57]:=by decide
  have:=key (e - 48) (by have:=h.2;exact Nat.lt_of_le_of_lt (Nat.sub_le_sub_right this 48) (by decide))
  rwa [Nat.add_sub_cancel' h.1] at this
open PySem.Builtin.Str in
theorem qM(d:PyData):∃c r,tx d.shown=c::r∧c∈lN d:=by
  cases d with
  | none=>exact⟨78,[111,110,101],rfl,by simp [lN]⟩
  | bool b=>
    cases b
    · exact⟨70,[97,108,115,101],rfl,by simp [lN]⟩
    · exact⟨84,[114,117,101],rfl,by simp [lN]⟩
  | int i=>
    obtain⟨ds,a1,a2,a3,a4⟩:=n_ i
    rw [a4]
    by_cases c:i < 0
    · rw [if_pos c];exact⟨45,ds,rfl,by simp [lN]⟩
    · rw [if_neg c]
      cases ds with
      | nil=>exact absurd rfl a2
      | cons e es=>
        refine⟨e,es,rfl,?_⟩
        exact AJ (a1 e (by simp))
  | str x=>
    have key:∀(l:List Nat) (acc:Array Nat),(l.foldl (fun out c=>out++(reprChar (reprQuote x) c).toArray) acc).toList=l.foldl (fun out c=>out++reprChar (reprQuote x) c) acc.toList:=by
      intro l
      induction l with
      | nil=>intro acc;rfl
      | cons c r ih=>intro acc;simp only [List.foldl_cons];rw [ih];simp
    obtain⟨r',hr⟩:=pM x.cps.toList (reprQuote x) (reprQuote x) []
    refine⟨reprQuote x,r'++[reprQuote x],?_,?_⟩
    · show((x.cps.foldl (fun out c=>out++(reprChar (reprQuote x) c).toArray) #[reprQuote x]).push (reprQuote x)).toList=_
      rw [Array.toList_push,←Array.foldl_toList,key]
      show List.foldl _ [reprQuote x] _++_=_
      rw [hr];rfl
    · simp only [lN]
      unfold reprQuote
      split<;>simp
  | list xs=>
    obtain⟨r,h⟩:=qg (PyData.shownAll xs) 0 "[" 91 [] rfl
    refine⟨91,r++tx "]",?_,by simp [lN]⟩
    simp only [PyData.shown,listText]
    rw [gN,h];rfl
  | tuple xs=>
    refine⟨40,tx (Str.join ", " (PyData.shownAll xs))++tx (Str.ofString (if (PyData.shownAll xs).length==1 then ",)" else ")")),?_,by simp [lN]⟩
    simp only [PyData.shown,tupleText]
    rw [gN,gN]
    rfl
  | dict m=>
    refine⟨123,tx (Str.join ", " (PyData.shownKv m))++tx "}",?_,by simp [lN]⟩
    simp only [PyData.shown,dictText]
    rw [gN,gN]
    rfl
def C'(e:PyData):Prop:=∀(d:PyData) (s t:List Nat),rP s→rP t→tx d.shown++s=tx e.shown++t→d=e∧s=t
theorem AV(j:Int):C' (.int j):=fun d s t hs ht h=>by
  obtain⟨c,r,e1,m1⟩:=qM d
  obtain⟨c2,r2,e2,m2⟩:=qM (.int j)
  have hc:c=c2:=by rw [e1,e2] at h;simp only [List.cons_append,List.cons.injEq] at h;exact h.1
  subst hc
  have no:∀l:List Nat,(l.all fun z=> !([45,48,49,50,51,52,53,54,55,56,57].contains z))=true→c∈l→False:=fun l hl hc=>by
    have q:=List.all_eq_true.mp hl c hc
    rw [List.contains_iff_mem.mpr (show c∈[45,48,49,50,51,52,53,54,55,56,57] from m2)] at q
    cases q
  cases d with
  | int i=>
    obtain⟨r1,r2⟩:=Ba hs ht h
    exact⟨by rw [r1],r2⟩
  | none=>exact(no [78] rfl m1).elim
  | bool b=>cases b<;>exact(no _ (by rfl) m1).elim
  | str x=>exact(no [34,39] rfl m1).elim
  | list x=>exact(no [91] rfl m1).elim
  | tuple x=>exact(no [40] rfl m1).elim
  | dict x=>exact(no [123] rfl m1).elim
def JD:List PyData→List Nat
  | []=>[]
  | [d]=>tx d.shown
  | d::e::r=>tx d.shown++44::32::JD (e::r)
theorem vQ:∀(ds:List PyData),tx (Str.join ", " (PyData.shownAll ds))=JD ds
  | []=>rfl
  | [d]=>rfl
  | d::e::r=>by
    have ih:=vQ (e::r)
    simp only [PyData.shownAll] at ih ⊢
    simp only [Str.join,JD]
    rw [gN,gN,ih]
    show tx d.shown++[44,32]++_=_
    simp
theorem vp:∀(ds:List PyData),(PyData.shownAll ds).length=ds.length
  | []=>rfl
  | d::r=>by simp only [PyData.shownAll,List.length_cons,vp r]
theorem uY(ds:List PyData):tx (PyData.shown (.tuple ds))=40::(JD ds++(if ds.length=1 then [44,41] else [41])):=by
  simp only [PyData.shown,tupleText]
  rw [gN,gN,vQ,vp]
  by_cases c:ds.length=1
  · rw [if_pos c,if_pos (by simpa using c)];rfl
  · rw [if_neg c,if_neg (by simpa using c)];rfl
theorem qL(d:PyData)(s t:List Nat):tx d.shown++s≠41::t:=fun h=>by
  obtain⟨c,r,e1,m1⟩:=qM d
  rw [e1] at h
  simp only [List.cons_append,List.cons.injEq] at h
  rw [h.1] at m1
  cases d with
  | bool b=>cases b<;>simp [lN] at m1
  | _=>simp [lN] at m1
theorem tX:∀(ds es:List PyData) (s t:List Nat),(∀e∈es,C' e)→ds≠[]→es≠[]→JD ds++41::s=JD es++41::t→ds=es∧s=t
  | [],_,_,_,_,h,_,_=>absurd rfl h
  | _,[],_,_,_,_,h,_=>absurd rfl h
  | [d],[e],s,t,hi,_,_,h=>by
    obtain⟨r1,r2⟩:=hi e (by simp) d (41::s) (41::t) ng ng h
    cases r2
    exact⟨by rw [r1],rfl⟩
  | [d],e::e'::r,s,t,hi,_,_,h=>by
    simp only [JD,List.append_assoc,List.cons_append] at h
    obtain⟨r1,r2⟩:=hi e (by simp) d _ _ ng eH h
    simp at r2
  | d::d'::r,[e],s,t,hi,_,_,h=>by
    simp only [JD,List.append_assoc,List.cons_append] at h
    obtain⟨r1,r2⟩:=hi e (by simp) d _ _ eH ng h
    simp at r2
  | d::d'::r,e::e'::q,s,t,hi,_,_,h=>by
    simp only [JD,List.append_assoc,List.cons_append] at h
    obtain⟨r1,r2⟩:=hi e (by simp) d _ _ eH eH h
    simp only [List.cons.injEq,true_and] at r2
    obtain⟨r3,r4⟩:=tX (d'::r) (e'::q) s t (fun x hx=>hi x (by simp at hx ⊢;right;exact hx)) (by simp) (by simp) r2
    exact⟨by rw [r1,r3],r4⟩
theorem vL{es:List PyData}(hi:∀e∈es,C' e):C' (.tuple es):=fun d s t hs ht h=>by
  obtain⟨c,r,e1,m1⟩:=qM d
  have hc:c=40:=by rw [e1,uY] at h;simp only [List.cons_append,List.cons.injEq] at h;exact h.1
  subst hc
  cases d with
  | tuple ds=>
    clear e1 m1
    rw [uY,uY] at h
    simp only [List.cons_append,List.cons.injEq,true_and,List.append_assoc] at h
    rcases ds with _ | ⟨d,_ | ⟨d',rd⟩⟩
    · rcases es with _ | ⟨e,re⟩
      · simp [JD] at h;exact⟨rfl,h⟩
      · exfalso
        cases re with
        | nil=>simp only [JD,List.length_nil,Nat.zero_ne_one,if_false,List.nil_append,List.cons_append] at h;exact qL e _ _ h.symm
        | cons e' r'=>simp only [JD,List.length_nil,Nat.zero_ne_one,if_false,List.nil_append,List.cons_append,List.append_assoc] at h;exact qL e _ _ h.symm
    · rcases es with _ | ⟨e,_ | ⟨e',re⟩⟩
      · exfalso
        simp only [JD,List.length_nil,Nat.zero_ne_one,if_false,List.nil_append,List.cons_append] at h;exact qL d _ _ h
      · simp only [JD,List.length_singleton,if_true,List.cons_append,List.nil_append] at h
        obtain⟨r1,r2⟩:=hi e (by simp) d _ _ eH eH h
        simp only [List.cons.injEq,true_and] at r2
        exact⟨by rw [r1],r2⟩
      · exfalso
        simp only [JD,List.length_singleton,if_true,List.cons_append,List.nil_append,List.append_assoc] at h
        obtain⟨r1,r2⟩:=hi e (by simp) d _ _ eH eH h
        simp at r2
    · rcases es with _ | ⟨e,_ | ⟨e',re⟩⟩
      · exfalso
        simp only [JD,List.length_nil,Nat.zero_ne_one,if_false,List.nil_append,List.cons_append,List.append_assoc] at h;exact qL d _ _ h
      · exfalso
        simp only [JD,List.length_singleton,if_true,List.cons_append,List.nil_append,List.append_assoc] at h
        obtain⟨r1,r2⟩:=hi e (by simp) d _ _ eH eH h
        simp at r2
      · have n1:¬(d::d'::rd).length=1:=by simp
        have n2:¬(e::e'::re).length=1:=by simp
        rw [if_neg n1,if_neg n2] at h
        obtain⟨r1,r2⟩:=tX (d::d'::rd) (e::e'::re) s t hi (by simp) (by simp) h
        exact⟨by rw [r1],r2⟩
  | bool b=>cases b<;>simp [lN] at m1
  | _=>simp [lN] at m1
theorem xu{d e:PyData}(h:C' e)(hs:d.shown=e.shown):d=e:=(h d [] [] tU tU (by rw [hs])).1
theorem Du(f:Fr):C' (dF f):=vL fun e he=>by
  simp only [List.mem_cons,List.not_mem_nil,or_false] at he
  rcases he with rfl | rfl<;>exact AV _
theorem AU(fs:List Fr):C' (.tuple (fs.map dF)):=vL fun e he=>by
  obtain⟨f,_,rfl⟩:=List.mem_map.mp he
  exact Du f
end L2
namespace L2
open PySem PySem.Spec PyProof.Rows
def Cy(i:Nat)(l:Int):Prop:=l= -1∨(i:Int) < l
def qj(T:List Nd):Prop:=∀(i:Nat) (x:Nd),T[i]?=some x→Cy i x.yes∧Cy i x.no
end L2
namespace L2
open PySem PySem.Spec PyProof.Rows
theorem wV{ws:List Int}{k:Nat}{w v:Int}(hw:ws[k]?=some w)(hv:v∈ws):v=w∨v∈ws.eraseIdx k:=by
  obtain⟨hk,e⟩:=List.getElem?_eq_some_iff.mp hw
  have:=(kh ws k hk).mem_iff (a:=v)
  rw [List.mem_cons,e] at this
  exact this.mpr hv
def qk(T:List Nd)(ws order:List Int):Prop:=∀(j:Nat) (w:Int),order[j]?=some w→∀l∈qV (bH T w),l∈ws∨∃j':Nat,j < j'∧order[j']?=some l
theorem qk.first{T:List Nd}{ws:List Int}:qk T ws []:=fun j w h=>by simp at h
theorem qk.turn{T:List Nd}{ws ws' order:List Int}{w:Int}(h:qk T ws order)(h1:∀v∈ws,v=w∨v∈ws')(h2:∀l∈qV (bH T w),l∈ws'):qk T ws' (order++[w]):=fun j u hj l hl=>by
  by_cases c:j < order.length
  · rw [List.getElem?_append_left c] at hj
    rcases h j u hj l hl with q | ⟨j',a,b⟩
    · rcases h1 l q with rfl | q
      · exact .inr ⟨order.length,c,by simp⟩
      · exact .inl q
    · exact .inr ⟨j',a,by rw [List.getElem?_append_left (List.getElem?_eq_some_iff.mp b).1];exact b⟩
  · have hj':=(List.getElem?_eq_some_iff.mp hj).1
    simp at hj'
    have:j=order.length:=by lia
    subst this
    simp at hj
    subst hj
    exact .inl (h2 l hl)
def j5(order nums:List Int)(i:Nat):Prop:=∀(j:Nat) (l:Int),j < i→order[j]?=some l→(j:Int)≤nums.getD l.toNat (-1)
theorem j5.first{order nums:List Int}:j5 order nums 0:=fun j l h=>by lia
theorem j5.set{order nums:List Int}{i:Nat}{w:Int}(h:j5 order nums i)(hw:order[i]?=some w)(hl:w.toNat < nums.length):j5 order (nums.set w.toNat (i:Int)) (i+1):=fun j l hj e=>by
  rw [List.getD_eq_getElem?_getD]
  by_cases c:w.toNat=l.toNat
  · rw [←c,List.getElem?_set_self hl]
    show(j:Int)≤(i:Int)
    lia
  · rw [List.getElem?_set_ne c]
    by_cases d:j < i
    · have:=h j l d e
      rwa [List.getD_eq_getElem?_getD] at this
    · have:j=i:=by lia
      subst this
      rw [hw] at e
      cases e
      exact absurd rfl c
theorem xg{T:List Nd}{order nums:List Int}{W:aT}{S:Nat→dw}(h:fD W T S)(ho:∀w∈order,0≤w∧w < (T.length:Int))(hn:jb order T.length nums)(hg:j5 order nums order.length)(hw:qk T [] order):qj (order.map (renum T nums)):=fun j y hy=>by
  rw [List.getElem?_map] at hy
  obtain⟨w,hw2,rfl⟩:=Option.map_eq_some_iff.mp hy
  obtain⟨a0,a1⟩:=ho w (List.mem_of_getElem? hw2)
  have o:=h _ _ (dX a0 a1)
  have key:∀l:Int,l=(bH T w).yes∨l=(bH T w).no→ -1≤l→l < (T.length:Int)→Cy j (nm nums l):=fun l hl l0 l1=>by
    by_cases c:l= -1
    · left
      subst c
      unfold nm atI mT
      rw [if_neg (by decide),if_pos (by rw [hn.len];lia)]
      simp only [Option.bind_some]
      rw [show(-1+(nums.length:Int)).toNat=T.length by rw [hn.len];lia,hn.top]
      rfl
    · right
      have hm:l∈qV (bH T w):=by
        unfold qV
        rw [List.mem_filter]
        refine⟨?_,by simpa using c⟩
        rcases hl with rfl | rfl<;>simp
      rcases hw j w hw2 l hm with q | ⟨j',q1,q2⟩
      · cases q
      · have g:=hg j' l (List.getElem?_eq_some_iff.mp q2).1 q2
        have e:nm nums l=nums.getD l.toNat (-1):=by
          unfold nm atI mT
          rw [if_pos (by lia),if_pos (by rw [hn.len];lia)]
          simp only [Option.bind_some,List.getD_eq_getElem?_getD]
        rw [e]
        lia
  exact⟨key _ (.inl rfl) o.yes.rng.1 o.yes.rng.2,key _ (.inr rfl) o.no.rng.1 o.no.rng.2⟩
end L2
namespace L2
open PySem PySem.Spec PyProof.Rows
section
variable{X:Cx}{K:PySem.W.Frag}{es:List Expr}{k0:Nat}{tp:Pos}{a b:Expr}{fs:FA}{p pos:Pos}
end
end L2
namespace L2
open PySem PySem.Spec PyProof.Rows
def gu(x:Nd)(b:Bool):Int:=if b=true then x.yes else x.no
def j_(T:List Nd)(i:Nat)(b:Bool):Int:=match T[i]? with
  | some x=>gu x b
  | none=> -1
theorem cA{T:List Nd}{i:Nat}{x:Nd}{b:Bool}(h:T[i]?=some x):j_ T i b=gu x b:=by unfold j_;rw [h]
theorem dQ{T:List Nd}{i:Nat}{b:Bool}(h:T[i]?=none):j_ T i b= -1:=by unfold j_;rw [h]
theorem yK{x:Nd}{s n:Int}{b:Bool}(hs:s=0∨s=1):gu (gU x s n) b=if b=(s==0) then n else gu x b:=by
  rcases hs with rfl | rfl<;>cases b<;>simp [gu,gU]
def wy(T:List Nd):Prop:=∀(i j:Nat) (a b:Bool),j_ T i a=j_ T j b→j_ T i a≠ -1→i=j∧a=b
def Co(w:Wt):Int × Int:=(w.par,w.side)
structure vj (T:List Nd) (ws:List Wt):Prop where
  unq:wy T
  rng:∀i a,j_ T i a= -1∨(0 < j_ T i a∧j_ T i a < (T.length:Int))
  free:∀w∈ws,w.par= -1∨(0≤w.par∧w.par < (T.length:Int)∧j_ T w.par.toNat (w.side==0)= -1)
  dst:(ws.map Co).Nodup
  side:∀w∈ws,w.side=0∨w.side=1
theorem vj.first{s:dw}:vj [] [⟨s, -1,0⟩]:=⟨fun i j a b _ h=>absurd (dQ (by simp)) h,fun i a=>.inl (dQ (by simp)),fun w hw=>by simp at hw;subst hw;exact .inl rfl,by simp,fun w hw=>by simp at hw;subst hw;exact .inl rfl⟩
theorem vj.less{T:List Nd}{w:Wt}{ws:List Wt}(h:vj T (w::ws)):vj T ws:=⟨h.unq,h.rng,fun v hv=>h.free v (by simp [hv]),(List.nodup_cons.mp h.dst).2,fun v hv=>h.side v (by simp [hv])⟩
theorem yJ{T:List Nd}{p s k:Int}{i:Nat}{a:Bool}(hs:s=0∨s=1)(hp:p= -1∨(0≤p∧p < (T.length:Int))):
    j_ ((if 0≤p then T.modify p.toNat (fun x=>gU x s T.length) else T)++[⟨k, -1, -1⟩]) i a=if (i:Int)=p∧a=(s==0) then(T.length:Int) else j_ T i a:=by
  generalize hT:(if 0≤p then T.modify p.toNat (fun x=>gU x s T.length) else T)=T'
  have len:T'.length=T.length:=by rw [←hT];split<;>simp
  by_cases c:i < T.length
  · have hx:T[i]?=some T[i]:=List.getElem?_eq_getElem c
    generalize T[i]=x at hx
    by_cases e:(i:Int)=p
    · have e2:p.toNat=i:=by lia
      have:(T'++[(⟨k, -1, -1⟩:Nd)])[i]?=some (gU x s T.length):=by
        rw [List.getElem?_append_left (by lia),←hT,if_pos (by lia),List.getElem?_modify,e2,hx]
        simp
      rw [cA this,yK hs,cA hx]
      simp [e]
    · have:(T'++[(⟨k, -1, -1⟩:Nd)])[i]?=some x:=by
        rw [List.getElem?_append_left (by lia),←hT]
        split
        · rw [List.getElem?_modify,hx]
          have:¬p.toNat=i:=by lia
          simp [this]
        · exact hx
      rw [cA this,cA hx,if_neg (fun z=>e z.1)]
  · rw [if_neg (fun z=>by lia),dQ (T:=T) (List.getElem?_eq_none (by lia))]
    by_cases d:i=T.length
    · subst d
      rw [cA (x:=⟨k, -1, -1⟩) (by rw [List.getElem?_append_right (by lia),len];simp)]
      cases a<;>rfl
    · exact dQ (List.getElem?_eq_none (by simp [len];lia))
theorem vj.more{T:List Nd}{w:Wt}{ws:List Wt}{k:Int}{s1 s2:dw}(h:vj T (w::ws)):
    vj ((if 0≤w.par then T.modify w.par.toNat (fun x=>gU x w.side T.length) else T)++[⟨k, -1, -1⟩]) (ws++[⟨s1,T.length,0⟩,⟨s2,T.length,1⟩]):=by
  have hs:=h.side w (by simp)
  have hp:w.par= -1∨(0≤w.par∧w.par < (T.length:Int)):=(h.free w (by simp)).imp id fun z=>⟨z.1,z.2.1⟩
  have F:=fun i a=>yJ (T:=T) (k:=k) (i:=i) (a:=a) hs hp
  have len:((if 0≤w.par then T.modify w.par.toNat (fun x=>gU x w.side T.length) else T)++[(⟨k, -1, -1⟩:Nd)]).length=T.length+1:=by
    rw [List.length_append];split<;>simp
  generalize (if 0≤w.par then T.modify w.par.toNat (fun x=>gU x w.side T.length) else T)++[(⟨k, -1, -1⟩:Nd)]=T' at F len
  have hd:=h.dst
  rw [List.map_cons,List.nodup_cons] at hd
  refine⟨fun i j a b e n=>?_,fun i a=>?_,fun v hv=>?_,?_,fun v hv=>?_⟩
  · rw [F,F] at e
    rw [F] at n
    have r1:=h.rng i a
    have r2:=h.rng j b
    by_cases c1:(i:Int)=w.par∧a=(w.side==0)
    · by_cases c2:(j:Int)=w.par∧b=(w.side==0)
      · exact⟨by lia,by rw [c1.2,c2.2]⟩
      · rw [if_pos c1,if_neg c2] at e
        lia
    · by_cases c2:(j:Int)=w.par∧b=(w.side==0)
      · rw [if_neg c1,if_pos c2] at e
        lia
      · rw [if_neg c1,if_neg c2] at e
        rw [if_neg c1] at n
        exact h.unq i j a b e n
  · rw [F,len]
    split
    · rename_i c;right;lia
    · have:=h.rng i a;lia
  · rw [len]
    rcases List.mem_append.mp hv with hv | hv
    · rcases h.free v (by simp [hv]) with z | ⟨z1,z2,z3⟩
      · exact .inl z
      · refine .inr ⟨z1,by lia,?_⟩
        rw [F,if_neg ?_]
        · exact z3
        · intro ⟨c1,c2⟩
          refine hd.1 (List.mem_map.mpr ⟨v,hv,?_⟩)
          have e1:v.par=w.par:=by lia
          have e2:v.side=w.side:=by
            rcases h.side v (by simp [hv]) with q | q<;>rcases hs with r | r<;>rw [q,r] at c2 ⊢<;>simp at c2
          unfold Co
          rw [e1,e2]
    · have:v.par=(T.length:Int):=by
        simp only [List.mem_cons,List.not_mem_nil,or_false] at hv
        rcases hv with rfl | rfl<;>rfl
      refine .inr ⟨by lia,by lia,?_⟩
      rw [this,F,if_neg (by lia)]
      exact dQ (List.getElem?_eq_none (by simp))
  · rw [List.map_append,List.nodup_append]
    refine⟨hd.2,by simp [Co],fun x hx y hy=>?_⟩
    obtain⟨v,hv,rfl⟩:=List.mem_map.mp hx
    have hv2:=h.free v (by simp [hv])
    intro e
    have:y.1=(T.length:Int):=by
      simp only [List.map_cons,List.map_nil,List.mem_cons,List.not_mem_nil,or_false,Co] at hy
      rcases hy with rfl | rfl<;>rfl
    rw [←e] at this
    have:v.par=(T.length:Int):=this
    lia
  · rcases List.mem_append.mp hv with hv | hv
    · exact h.side v (by simp [hv])
    · simp only [List.mem_cons,List.not_mem_nil,or_false] at hv
      rcases hv with rfl | rfl
      · exact .inl rfl
      · exact .inr rfl
theorem qW{T:List Nd}{w l:Int}(h0:0≤w)(h1:w < (T.length:Int)):l∈qV (bH T w)↔ l≠ -1∧∃b,j_ T w.toNat b=l:=by
  have hx:=dX h0 h1
  unfold qV
  rw [List.mem_filter]
  simp only [List.mem_cons,List.not_mem_nil,or_false,bne_iff_ne]
  constructor
  · rintro⟨rfl | rfl,n⟩
    · exact⟨n,true,cA hx⟩
    · exact⟨n,false,cA hx⟩
  · rintro⟨n,b,e⟩
    rw [cA hx] at e
    refine⟨?_,n⟩
    cases b
    · exact .inr e.symm
    · exact .inl e.symm
theorem wU{T:List Nd}{w:Int}(u:wy T)(h0:0≤w)(h1:w < (T.length:Int)):(qV (bH T w)).Nodup:=by
  have hx:=dX h0 h1
  have key:(bH T w).yes=(bH T w).no→(bH T w).yes= -1:=fun e=>by
    by_cases c:(bH T w).yes= -1
    · exact c
    · have e1:j_ T w.toNat true=(bH T w).yes:=cA hx
      have e2:j_ T w.toNat false=(bH T w).no:=cA hx
      have:=(u w.toNat w.toNat true false (by rw [e1,e2];exact e) (by rw [e1];exact c)).2
      cases this
  unfold qV
  by_cases c1:(bH T w).yes= -1
  · by_cases c2:(bH T w).no= -1<;>simp [c1,c2]
  · by_cases c2:(bH T w).no= -1
    · simp [c1,c2]
    · have:¬(bH T w).yes=(bH T w).no:=fun e=>c1 (key e)
      simp [c1,c2,this]
structure Ax (T:List Nd) (w0 ws order:List Int):Prop where
  nd:(order++ws).Nodup
  par:∀v∈order++ws,v=0∨∃u∈order,∃b,j_ T u.toNat b=v∧v≠ -1
  fst:(order=[]∧ws=w0)∨order[0]?=some 0
theorem Ax.first{T:List Nd}{w0:List Int}(h:w0=[]∨w0=[0]):Ax T w0 w0 []:=by
  rcases h with rfl | rfl
  · exact⟨by simp,fun v hv=>by simp at hv,.inl ⟨rfl,rfl⟩⟩
  · exact⟨by simp,fun v hv=>by simp at hv;exact .inl hv,.inl ⟨rfl,rfl⟩⟩
theorem Ax.turn{T:List Nd}{w0 ws order:List Int}{k:Nat}{w:Int}(hw0:w0=[]∨w0=[0])(h:Ax T w0 ws order)(u:wy T)(rg:∀i a,j_ T i a= -1∨(0 < j_ T i a∧j_ T i a < (T.length:Int)))(ho:∀v∈order++ws,0≤v∧v < (T.length:Int))(hw:ws[k]?=some w):Ax T w0 (ws.eraseIdx k++qV (bH T w)) (order++[w]):=by
  obtain⟨hk,e⟩:=List.getElem?_eq_some_iff.mp hw
  have hwm:w∈ws:=List.mem_of_getElem? hw
  obtain⟨a0,a1⟩:=ho w (by simp [hwm])
  have pm:(order++[w]++ws.eraseIdx k).Perm (order++ws):=by
    rw [List.append_assoc]
    refine List.Perm.append_left _ ?_
    have:=kh ws k hk
    rw [e] at this
    exact this
  have nd:=h.nd
  refine⟨?_,fun v hv=>?_,?_⟩
  · rw [←List.append_assoc,List.nodup_append]
    refine⟨pm.nodup_iff.mpr nd,wU u a0 a1,fun x hx y hy e2=>?_⟩
    subst e2
    obtain⟨n,b,eb⟩:=(qW a0 a1).mp hy
    have hx':=pm.mem_iff.mp hx
    rcases h.par x hx' with z | ⟨v,hv,c,ec,_⟩
    · have:=rg w.toNat b;lia
    · have q:=(u v.toNat w.toNat c b (by rw [ec,eb]) (by rw [ec];exact n)).1
      obtain⟨v0,v1⟩:=ho v (by simp [hv])
      have:v=w:=by lia
      subst this
      rw [List.nodup_append] at nd
      exact nd.2.2 v hv v hwm rfl
  · rw [←List.append_assoc] at hv
    rcases List.mem_append.mp hv with hv | hv
    · rcases h.par v (pm.mem_iff.mp hv) with z | ⟨x,hx,b,q⟩
      · exact .inl z
      · exact .inr ⟨x,by simp [hx],b,q⟩
    · obtain⟨n,b,eb⟩:=(qW a0 a1).mp hv
      exact .inr ⟨w,by simp,b,eb,n⟩
  · right
    rcases h.fst with ⟨z1,z2⟩ | z
    · subst z1 z2
      rcases hw0 with q | q
      · rw [q] at hwm;cases hwm
      · rw [q] at hwm
        simp at hwm
        subst hwm
        rfl
    · rw [List.getElem?_append_left (List.getElem?_eq_some_iff.mp z).1];exact z
def pd(T:List Nd):Prop:=wy T∧∀j:Nat,0 < j→j < T.length→∃i b,j_ T i b=(j:Int)
theorem nZ{order:List Int}(h:order.Nodup){i j:Nat}{w:Int}(hi:order[i]?=some w)(hj:order[j]?=some w):i=j:=by
  obtain⟨a,e1⟩:=List.getElem?_eq_some_iff.mp hi
  obtain⟨b,e2⟩:=List.getElem?_eq_some_iff.mp hj
  have pw:=List.pairwise_iff_getElem.mp h
  rcases Nat.lt_trichotomy i j with c | c | c
  · exact absurd (e1.trans e2.symm) (pw i j a b c)
  · exact c
  · exact absurd (e2.trans e1.symm) (pw j i b a c)
theorem uX{T:List Nd}{order nums w0:List Int}{W:aT}{S:Nat→dw}(h:fD W T S)(u:wy T)(ho:∀w∈order,0≤w∧w < (T.length:Int))(hn:jb order T.length nums)(hg:j5 order nums order.length)(hw:qk T [] order)(hr:Ax T w0 [] order):pd (order.map (renum T nums)):=by
  have nd:order.Nodup:=by have:=hr.nd;rwa [List.append_nil] at this
  have nmE:∀l:Int,0≤l→l < (T.length:Int)→nm nums l=nums.getD l.toNat (-1):=fun l l0 l1=>by
    unfold nm atI mT
    rw [if_pos l0,if_pos (by rw [hn.len];lia)]
    simp only [Option.bind_some,List.getD_eq_getElem?_getD]
  have nm1:nm nums (-1)= -1:=by
    unfold nm atI mT
    rw [if_neg (by decide),if_pos (by rw [hn.len];lia)]
    simp only [Option.bind_some]
    rw [show(-1+(nums.length:Int)).toNat=T.length by rw [hn.len];lia,hn.top]
    rfl
  have inv:∀(j:Nat) (l:Int),order[j]?=some l→nm nums l=(j:Int):=fun j l hj=>by
    obtain⟨l0,l1⟩:=ho l (List.mem_of_getElem? hj)
    have g:=hg j l (List.getElem?_eq_some_iff.mp hj).1 hj
    rw [nmE l l0 l1]
    have hx:nums[l.toNat]?=some (nums.getD l.toNat (-1)):=by
      have:l.toNat < nums.length:=by rw [hn.len];lia
      simp [this]
    rcases hn.at' l.toNat _ (by lia) hx with z | ⟨p,z1,z2⟩
    · lia
    · rw [show((l.toNat:Nat):Int)=l by lia] at z2
      rw [z1,nZ nd z2 hj]
  have lkR:∀(i:Nat) (w:Int) (b:Bool),order[i]?=some w→j_ (order.map (renum T nums)) i b=nm nums (j_ T w.toNat b):=fun i w b hi=>by
    obtain⟨a0,a1⟩:=ho w (List.mem_of_getElem? hi)
    rw [cA (x:=renum T nums w) (by rw [List.getElem?_map,hi];rfl),cA (dX a0 a1)]
    cases b<;>rfl
  have inO:∀(i:Nat) (w:Int) (b:Bool),order[i]?=some w→j_ T w.toNat b≠ -1→∃p:Nat,order[p]?=some (j_ T w.toNat b):=fun i w b hi n=>by
    obtain⟨a0,a1⟩:=ho w (List.mem_of_getElem? hi)
    rcases hw i w hi (j_ T w.toNat b) ((qW a0 a1).mpr ⟨n,b,rfl⟩) with q | ⟨p,_,q⟩
    · cases q
    · exact⟨p,q⟩
  refine⟨fun i j a b e n=>?_,fun j j0 j1=>?_⟩
  · cases hi:order[i]? with
    | none=>exact absurd (dQ (by rw [List.getElem?_map,hi];rfl)) n
    | some w=>
      cases hj:order[j]? with
      | none=>rw [dQ (i:=j) (by rw [List.getElem?_map,hj];rfl)] at e;exact absurd e n
      | some v=>
        rw [lkR i w a hi] at e n
        rw [lkR j v b hj] at e
        have n1:j_ T w.toNat a≠ -1:=fun z=>n (by rw [z,nm1])
        have n2:j_ T v.toNat b≠ -1:=fun z=>n (by rw [e,z,nm1])
        obtain⟨p,hp⟩:=inO i w a hi n1
        obtain⟨q,hq⟩:=inO j v b hj n2
        rw [inv p _ hp,inv q _ hq] at e
        have:p=q:=by lia
        subst this
        rw [hp] at hq
        have e3:=Option.some.inj hq
        obtain⟨e4,e5⟩:=u w.toNat v.toNat a b e3 n1
        obtain⟨a0,a1⟩:=ho w (List.mem_of_getElem? hi)
        obtain⟨b0,b1⟩:=ho v (List.mem_of_getElem? hj)
        have:w=v:=by lia
        subst this
        exact⟨nZ nd hi hj,e5⟩
  · rw [List.length_map] at j1
    have hj:order[j]?=some order[j]:=List.getElem?_eq_getElem j1
    generalize order[j]=v at hj
    have h0:order[0]?=some 0:=by
      rcases hr.fst with ⟨z,_⟩ | z
      · rw [z] at j1;simp at j1
      · exact z
    rcases hr.par v (by rw [List.append_nil];exact List.mem_of_getElem? hj) with z | ⟨x,hx,b,e,n⟩
    · subst z
      have:=nZ nd h0 hj
      lia
    · obtain⟨i,hi⟩:=List.getElem?_of_mem hx
      exact⟨i,b,by rw [lkR i x b hi,e];exact inv j v hj⟩
theorem m9{W:aT}{rs:List Fr}{i j:Nat}{k:Int}{b:Bool}{l:Int}(h:l= -1∨l.toNat≠j):(rstp W rs i k b l).getD j (1,1)=rs.getD j (1,1):=by
  unfold rstp
  split
  · rfl
  · rename_i c
    have:l.toNat≠j:=by rcases h with h | h;exact absurd h c;exact h
    rw [List.getD_eq_getElem?_getD,List.getElem?_set_ne this,List.getD_eq_getElem?_getD]
theorem tG{W:aT}{rs:List Fr}{i:Nat}{k:Int}{b:Bool}{l:Int}(h:l≠ -1)(hl:l.toNat < rs.length):(rstp W rs i k b l).getD l.toNat (1,1)=tm (rs.getD i (1,1)) (ch W k b):=by
  unfold rstp
  rw [if_neg h,List.getD_eq_getElem?_getD,List.getElem?_set_self hl]
  rfl
theorem zL{W:aT}{rs:List Fr}{i:Nat}{x:Nd}:mV W rs i x=rstp W (rstp W rs i x.tie true (gu x true)) i x.tie false (gu x false):=rfl
def Ff(W:aT)(T:List Nd)(rs:List Fr)(i:Nat):Prop:=∀(x:Nd) (b:Bool),T[i]?=some x→gu x b≠ -1→rs.getD (gu x b).toNat (1,1)=tm (rs.getD i (1,1)) (ch W x.tie b)
theorem eY{W:aT}{T:List Nd}:∀m,(aV W T m).length=T.length
  | 0=>by simp [aV]
  | m+1=>by
    rw [aV]
    split
    · unfold mV;rw [lm,lm];exact eY m
    · exact eY m
theorem Bu{T:List Nd}(o:qj T){i:Nat}{x:Nd}(hx:T[i]?=some x)(b:Bool):Cy i (gu x b):=by
  cases b
  · exact(o i x hx).2
  · exact(o i x hx).1
theorem m8{W:aT}{rs:List Fr}{i j:Nat}{x:Nd}(h:∀b,gu x b= -1∨(gu x b).toNat≠j):(mV W rs i x).getD j (1,1)=rs.getD j (1,1):=by
  rw [zL,m9 (h false),m9 (h true)]
theorem jF{W:aT}{T:List Nd}{S:Nat→dw}(h:fD W T S)(o:qj T)(u:wy T):∀m,∀i,i < m→Ff W T (aV W T m) i
  | 0,i,hi=>by lia
  | m+1,i,hi=>fun x b hx hn=>by
    have ln:=eY (W:=W) (T:=T) m
    have hb:=Bu o hx b
    have hrx:(gu x b) < (T.length:Int):=by
      cases b
      · exact(h i x hx).no.rng.2
      · exact(h i x hx).yes.rng.2
    have hxi:i < T.length:=(List.getElem?_eq_some_iff.mp hx).1
    cases hy:T[m]? with
    | none=>
      rw [aV,hy]
      have:T.length≤m:=List.getElem?_eq_none_iff.mp hy
      exact jF h o u m i (by lia) x b hx hn
    | some y=>
      rw [rL hy]
      have oy:=fun c=>Bu o hy c
      by_cases c:i=m
      · subst c
        rw [hx] at hy
        cases hy
        have e0:(mV W (aV W T i) i x).getD i (1,1)=(aV W T i).getD i (1,1):=m8 fun c=>by
          rcases oy c with z | z
          · exact .inl z
          · right;lia
        rw [e0]
        have dif:∀c,c≠b→gu x c= -1∨(gu x c).toNat≠(gu x b).toNat:=fun c hc=>by
          by_cases z:gu x c= -1
          · exact .inl z
          · right
            intro e
            have:=oy c
            have e1:j_ T i c=gu x c:=cA hx
            have e2:j_ T i b=gu x b:=cA hx
            have:=(u i i c b (by rw [e1,e2];unfold Cy at*;lia) (by rw [e1];exact z)).2
            exact hc this
        rw [zL]
        have hll:(gu x b).toNat < (aV W T i).length:=by rw [ln];unfold Cy at*;lia
        cases b
        · rw [tG (l:=gu x false) hn (by rw [lm];exact hll)]
          rw [m9 (l:=gu x true) (j:=i) (by
            rcases oy true with z | z
            · exact .inl z
            · right;lia)]
        · rw [m9 (l:=gu x false) (dif false (by decide))]
          exact tG (l:=gu x true) hn hll
      · have e0:(mV W (aV W T m) m y).getD i (1,1)=(aV W T m).getD i (1,1):=m8 fun c=>by
          rcases oy c with z | z
          · exact .inl z
          · right;lia
        have e1:(mV W (aV W T m) m y).getD (gu x b).toNat (1,1)=(aV W T m).getD (gu x b).toNat (1,1):=m8 fun d=>by
          by_cases z:gu y d= -1
          · exact .inl z
          · right
            intro e
            have a1:j_ T m d=gu y d:=cA hy
            have a2:j_ T i b=gu x b:=cA hx
            have z2:=oy d
            have:=(u m i d b (by rw [a1,a2];unfold Cy at*;lia) (by rw [a1];exact z)).1
            lia
        rw [e0,e1]
        exact jF h o u m i (by lia) x b hx hn
theorem oo{W:aT}{T:List Nd}(o:qj T):∀m,(aV W T m).getD 0 (1,1)=(1,1)
  | 0=>by
    rw [aV,List.getD_eq_getElem?_getD,List.getElem?_replicate]
    split<;>rfl
  | m+1=>by
    cases hy:T[m]? with
    | none=>rw [aV,hy];exact oo o m
    | some y=>
      rw [rL hy,m8 fun c=>by
        rcases Bu o hy c with z | z
        · exact .inl z
        · right;lia]
      exact oo o m
theorem xn{W:aT}{T:List Nd}{S:Nat→dw}(h:fD W T S)(o:qj T)(t:pd T){ws:List Fr}(hl:ws.length=T.length)(h0:ws.getD 0 (1,1)=(1,1))(he:∀i,Ff W T ws i):ws=aV W T T.length:=by
  have ln:=eY (W:=W) (T:=T) T.length
  have key:∀n j,j < n→j < T.length→ws.getD j (1,1)=(aV W T T.length).getD j (1,1):=by
    intro n
    induction n with
    | zero=>intro j hj;lia
    | succ n ih=>
      intro j hj hjT
      by_cases c:j=0
      · subst c
        rw [h0,oo o]
      · obtain⟨i,b,e⟩:=t.2 j (by lia) hjT
        cases hx:T[i]? with
        | none=>rw [dQ hx] at e;lia
        | some x=>
          rw [cA hx] at e
          have ob:=Bu o hx b
          have hi:i < j:=by unfold Cy at ob;lia
          have n1:gu x b≠ -1:=by lia
          have q1:=he i x b hx n1
          have q2:=jF (W:=W) h o t.1 T.length i (List.getElem?_eq_some_iff.mp hx).1 x b hx n1
          rw [show(gu x b).toNat=j by lia] at q1 q2
          rw [q1,q2,ih i (by lia) (by lia)]
  refine List.ext_getElem (by rw [hl,ln]) fun j h1 h2=>?_
  have:=key (j+1) j (by lia) (by lia)
  simpa [List.getD_eq_getElem?_getD,h1,h2] using this
theorem mi{cs:En}{g g2:FG}{ft ft2:FT}{fi2:FI}{fe:FE}{f:PyData→List PyData}(n:Nat):∀(items:List PyData) (t:En) (acc:List PyData),t.length=n→(∀x∈items,(f x).length≤2)→(∀x∈items,∀(t:En) (acc:List PyData),t.length=n→acc.length+2≤1000000→∃e1 e2 its e3 t',g x (cs++t)=some e1∧ft e1=some (true,e2)∧fi2 e2=some (its,[],e3)∧bQ g2 ft2 fe its e3 acc=some (acc++f x,cs++t')∧t'.length=n)→acc.length+2*items.length≤1000000→
    ∃t',t'.length=n∧iS g ft fi2 g2 ft2 fe items (cs++t) acc=some (acc++items.flatMap f,cs++t')
  | [],t,acc,h,_,_,_=>⟨t,h,by simp [iS]⟩
  | x::r,t,acc,h,hf,hs,hl=>by
    simp only [List.length_cons] at hl
    obtain⟨e1,e2,its,e3,t1,a1,a2,a3,a4,a5⟩:=hs x (by simp) t acc h (by lia)
    have:=hf x (by simp)
    obtain⟨t',b1,b2⟩:=mi n r t1 (acc++f x) a5 (fun y hy=>hf y (by simp [hy])) (fun y hy=>hs y (by simp [hy])) (by rw [List.length_append];lia)
    refine⟨t',b1,?_⟩
    unfold iS
    simp only [a1,a2,a3,a4,b2,Option.bind_some,if_true,List.flatMap_cons,List.append_assoc]
theorem xE{cp:List (Nat × Str)}{nT:Nat}{fi fi2:FI}{g g2:FG}{ft ft2:FT}{fe:FE}{e e1 cs:En}{t t':En}{items out:List PyData}(h1:fi e=some (items,[],e1))(hc:lR cp nT e1=cs++t)(hl:cs.length=cp.length)(h3:iS g ft fi2 g2 ft2 fe items (lR cp nT e1) []=some (out,cs++t')):ma cp nT fi g ft fi2 g2 ft2 fe e=some (.l out,e1):=by
  have key:=e_ (cp:=cp) (nT:=nT) (fi:=fun _=>some ([.none],[],e1)) (g:=fun _ _=>some (cs++t')) (ft:=fun e=>some (false,e)) (fe:=fe) (e:=e) (cs:=cs) (t:=t) (t':=t') (out:=[]) rfl hc hl rfl
  have c0:bQ (fun _ _=>some (cs++t')) (fun e=>some (false,e)) fe [.none] (lR cp nT e1) []=some ([],cs++t'):=rfl
  unfold ee at key
  unfold ma
  rw [h1]
  simp only [Option.bind_some,List.all_nil,if_true,h3,c0] at key ⊢
  split at key
  · rename_i q
    rw [if_pos q]
    have:=Option.some.inj key
    have e2:lE (lc cp) (cs++t') e1=e1:=(Prod.ext_iff.mp this).2
    rw [e2]
  · cases key
end L2
namespace L2
open PySem PySem.Spec PyProof.Rows
section
variable{prog:Program}{w:World}{A:Around}{E:Value→Shared→Prop}{s:Shared}
end
section
variable{X:Cx}{tg a:Expr}{ta:TA}{p pos:Pos}
end
section
variable{X:Cx}{K:PySem.W.Frag}{σ:L2.St}{tg a:Expr}{fs:FA}{p pos:Pos}
end
end L2
namespace V18
open PySem PySem.Spec PyProof.Rows L2
variable{P:Program}{w:World}{K:W.Frag}{mg:Str→Option Value}{base:Heap}{f:Addr}{fd:FuncData}
local macro_rules|`(tactic|trivial)=>`(tactic|first|exact .inl rfl|exact .inr rfl|assumption)
local macro_rules|`(¬$n:num)=>`(@qw _ _ $n _ _ (by rfl) (by rfl) (by decide))
local macro_rules|`($a∘$b)=>`(@Hx _ _ _ _ _ _ $a $b (by rfl))
def top(i:Nat):Stmt:=PySem.Challenge.pw_askedpairs_k18_reaches_right_and_bent.main.body.getD i (.Pass ⟨0,0,0,0⟩)
theorem my{α:Type u}{β:Type v}{f:α→β}:List.map f []=[]:=rfl
theorem mw{α:Type u}{β:Type v}{f:α→β}{a:α}{l:List α}:List.map f (a::l)=f a::List.map f l:=rfl
theorem mq{α:Type u}{l:List α}:[]++l=l:=rfl
theorem mn{α:Type u}{a:α}{l m:List α}:(a::l)++m=a::(l++m):=rfl
theorem ms{α:Type u}{a:α}{l:List α}:(a::l)[0]?=some a:=rfl
theorem mv{α:Type u}{a:α}{l:List α}{i:Nat}:(a::l)[i+1]?=l[i]?:=rfl
theorem mr{α:Type u}{β:Type v}{a:α}{f:α→Option β}:Option.bind (some a) f=f a:=rfl
theorem mz{α:Type u}{β:Type v}{a:α}{f:α→β}:Option.map f (some a)=some (f a):=rfl
abbrev bY:Stmt:=top 2
abbrev gH:Stmt:=top 3
abbrev lx:Stmt:=top 4
abbrev gJ:Stmt:=top 5
abbrev eZ:Stmt:=top 7
abbrev dt:Stmt:=top 8
abbrev cY:Stmt:=top 9
abbrev bG:Stmt:=top 10
abbrev f9:Stmt:=top 13
abbrev bZ:Stmt:=top 14
abbrev lr:Stmt:=top 16
abbrev lq:Stmt:=top 17
abbrev gF:Stmt:=top 18
abbrev tH:Stmt:=top 19
abbrev pZ:Stmt:=top 20
abbrev ls:Stmt:=top 21
abbrev ox:Stmt:=top 22
abbrev oz:Stmt:=top 23
abbrev oA:Stmt:=top 24
abbrev jH:Stmt:=top 25
abbrev lu:Stmt:=top 26
abbrev oB:Stmt:=top 27
abbrev tK:Stmt:=top 28
abbrev fZ:Stmt:=top 29
abbrev tI:Stmt:=top 30
abbrev jG:Stmt:=top 31
abbrev fY:Stmt:=top 32
abbrev jZ:Stmt:=top 33
abbrev tJ:Stmt:=top 34
abbrev iL:Stmt:=top 35
abbrev ck:Stmt:=top 36
abbrev oC:Stmt:=top 37
abbrev ou:Stmt:=top 38
abbrev gD:Stmt:=top 39
abbrev mJ:Stmt:=top 40
structure ja (mg:Str→Option Value):Prop where
  b_abs:mg "abs"=none
  b_len:mg "len"=none
  b_min:mg "min"=none
  b_max:mg "max"=none
  b_range:mg "range"=none
  b_repr:mg "repr"=none
  b_tuple:mg "tuple"=none
  b_int:mg "int"=none
  b_sorted:mg "sorted"=none
  b_zip:mg "zip"=none
  b_enumerate:mg "enumerate"=none
  b_isinstance:mg "isinstance"=none
  b_bool:mg "bool"=none
  b_all:mg "all"=none
  b_list:mg "list"=none
  b_str:mg "str"=none
noncomputable def bK:FT:=(aN (au (bO true) (ac 1) (vC (.int 0))))
noncomputable def cg:FS:=(mX 0 1 (aa (ac 1) (aa (au a9 (ac 0) (ac 1)) ai)))
noncomputable def iB:FS:=(aD (gG (2 ^ 4200) bK cg)
    (bv (aL (g1 uu) (aa (ac 0) ai))))
noncomputable def bX:FM:=gW 2 0 ([0,1]++[]) iB
theorem ie:aG ["one","other"] ["one","other"] (am bY):=⟨rfl,rfl,rfl,by decide+kernel,rfl,by decide+kernel,by decide+kernel⟩
theorem lb(h:bo K mg "common_divisor" bY f fd ["one","other"])(T:ja mg):aM P w K mg base bN 1 f fd ["one","other"] (bP K 2 bX):=by
  have nd:=ie.nd
  exact h.fn ie rfl rfl (fun cdv A outer s H E hr=>(@ah _ _ _ _ _ _ _ _ (@jD _ _ _ _ _ _ _ _ _ PassesOwn.never (@be _ _ _ _ _ _ _ _ _ (@oS _ _ _ rfl hr) (¬1) ae (aU _))
      (@ao _ _ _ _ _ (@zC _ _ _ _ _ 0 1 _ _ _ _ _ _ _ _ _ rfl nd rfl rfl (by decide) rfl rfl ((¬1)∘((@aX _ _ _ _ _ _ _ (¬0) (¬1))∘ab)) (by rfl) (by rfl))))
      (@ao _ _ _ _ _ (@aH _ _ _ _ _ (@aZ _ _ _ _ _ _ _ _ _ (@b_abs _ _) (by rfl) T.b_abs ((¬0)∘ab) (by decide) (by decide) (by rfl) (by rfl))))))
noncomputable def r6:FS:=(aD (a_ 2 (ce 2 bX (aa (ac 0) (aa (ac 1) ai))))
    (aD (i3 (aN (au xN (ac 1) (vC (.int 0))))
    (a_ 2 (lH kQ (ac 2)))
    cN)
    (bv (aO (aa (au dm (ac 0) (ac 2)) (aa (au dm (ac 1) (ac 2)) ai))))))
noncomputable def dU:FM:=gW 2 1 ([2]++(([2]++[])++[])) r6
theorem p6:aG ["top","bottom","divisor"] ["top","bottom"] (am gH):=⟨rfl,rfl,rfl,by decide+kernel,rfl,by decide+kernel,by decide+kernel⟩
theorem xb(h:bo K mg "lowest" gH f fd ["top","bottom"])(T:ja mg){f_common_divisor:Addr}{e_common_divisor:FuncData}(h_common_divisor:bo K mg "common_divisor" bY f_common_divisor e_common_divisor ["one","other"])(G_common_divisor:aM P w K mg base bN 1 f_common_divisor e_common_divisor ["one","other"] (bP K 2 bX)):aM P w K mg base bN 2 f fd ["top","bottom"] (bP K 2 dU):=by
  have nd:=p6.nd
  exact h.fn p6 rfl rfl (fun cdv A outer s H E hr=>(@ah _ _ _ _ _ _ _ _ (@aC _ _ _ _ _ 2 _ _ nd rfl (Or.inl rfl) (@a8 _ _ _ _ _ _ _ _ _ _ _ _ _ _ _ h_common_divisor G_common_divisor (hr.mono (by decide)) ((¬0)∘((¬1)∘ab)) (by rfl) (by decide) (by rfl) (by rfl)) (by rfl) (by trivial))
      (@ah _ _ _ _ _ _ _ _ (@cR _ _ _ _ _ _ _ _ _ _ _ (@be _ _ _ _ _ _ _ _ _ (@wA _ _) (¬1) ae (aU _))
      (@ao _ _ _ _ _ (@aC _ _ _ _ _ 2 _ _ nd rfl (Or.inl rfl) (@li _ _ _ _ _ (¬2)) (by rfl) (by trivial)))
      (@bw _ _))
      (@ao _ _ _ _ _ (@aH _ _ _ _ _ (@ap _ _ _ _ _ _ ((@gy _ _ _ _ _ _ _ (¬0) (¬2))∘((@gy _ _ _ _ _ _ _ (¬1) (¬2))∘ab))))))))
noncomputable def vA:FS:=(bv (ce 2 dU (aa (au c_ (au cD (ac 0) (vC (.int 0))) (au cD (ac 1) (vC (.int 0)))) (aa (au c_ (au cD (ac 0) (vC (.int 1))) (au cD (ac 1) (vC (.int 1)))) ai))))
noncomputable def k9:FM:=gW 2 0 [] vA
theorem tR:aG ["one","other"] ["one","other"] (am lx):=⟨rfl,rfl,rfl,by decide+kernel,rfl,by decide+kernel,by decide+kernel⟩
theorem yV(h:bo K mg "times" lx f fd ["one","other"])(T:ja mg){f_lowest:Addr}{e_lowest:FuncData}(h_lowest:bo K mg "lowest" gH f_lowest e_lowest ["top","bottom"])(G_lowest:aM P w K mg base bN 2 f_lowest e_lowest ["top","bottom"] (bP K 2 dU)):aM P w K mg base bN 3 f fd ["one","other"] (bP K 2 k9):=by
  have nd:=tR.nd
  exact h.fn tR rfl rfl (fun cdv A outer s H E hr=>(@ao _ _ _ _ _ (@aH _ _ _ _ _ (@a8 _ _ _ _ _ _ _ _ _ _ _ _ _ _ _ h_lowest G_lowest (hr.mono (by decide)) ((@gB _ _ _ _ _ _ _ rfl (@bu _ _ _ _ _ _ _ rfl (¬0) ae (fun _ _=>rfl)) (@bu _ _ _ _ _ _ _ rfl (¬1) ae (fun _ _=>rfl)))∘((@gB _ _ _ _ _ _ _ rfl (@bu _ _ _ _ _ _ _ rfl (¬0) ae (fun _ _=>rfl)) (@bu _ _ _ _ _ _ _ rfl (¬1) ae (fun _ _=>rfl)))∘ab)) (by rfl) (by decide) (by rfl) (by rfl)))))
noncomputable def nv:FS:=(bv (ce 2 dU (aa (au fg (au cD (ac 0) (vC (.int 1))) (au cD (ac 0) (vC (.int 0)))) (aa (au cD (ac 0) (vC (.int 1))) ai))))
noncomputable def gv:FM:=gW 1 0 [] nv
theorem mL:aG ["chance"] ["chance"] (am gJ):=⟨rfl,rfl,rfl,by decide+kernel,rfl,by decide+kernel,by decide+kernel⟩
theorem sX(h:bo K mg "one_less" gJ f fd ["chance"])(T:ja mg){f_lowest:Addr}{e_lowest:FuncData}(h_lowest:bo K mg "lowest" gH f_lowest e_lowest ["top","bottom"])(G_lowest:aM P w K mg base bN 2 f_lowest e_lowest ["top","bottom"] (bP K 2 dU)):aM P w K mg base bN 3 f fd ["chance"] (bP K 1 gv):=by
  have nd:=mL.nd
  exact h.fn mL rfl rfl (fun cdv A outer s H E hr=>(@ao _ _ _ _ _ (@aH _ _ _ _ _ (@a8 _ _ _ _ _ _ _ _ _ _ _ _ _ _ _ h_lowest G_lowest (hr.mono (by decide)) ((@lj _ _ _ _ _ _ _ (@bu _ _ _ _ _ _ _ rfl (¬0) ae (fun _ _=>rfl)) (@bu _ _ _ _ _ _ _ rfl (¬0) ae (fun _ _=>rfl)))∘((@bu _ _ _ _ _ _ _ rfl (¬0) ae (fun _ _=>rfl))∘ab)) (by rfl) (by decide) (by rfl) (by rfl)))))
noncomputable def mh:FS:=(bv (ig (lH (mR "int") (ac 0)) (jN (lH (mR "bool") (ac 0)))))
noncomputable def dr:FM:=gW 1 0 [] mh
theorem ly:aG ["thing"] ["thing"] (am eZ):=⟨rfl,rfl,rfl,by decide+kernel,rfl,by decide+kernel,by decide+kernel⟩
theorem rj(h:bo K mg "is_number" eZ f fd ["thing"])(T:ja mg):aM P w K mg base bN 1 f fd ["thing"] (bP K 1 dr):=by
  have nd:=ly.nd
  exact h.fn ly rfl rfl (fun cdv A outer s H E hr=>(@ao _ _ _ _ _ (@aH _ _ _ _ _ (@rD _ _ _ _ _ _ _ _ (@vV _ _ _ _ _ _ _ _ "int" rfl (by decide) rfl T.b_isinstance rfl T.b_int PyProof.Rows.boot_int (by decide) (by decide) (¬0) (by rfl) (by rfl)) (@rF _ _ _ _ _ _ (@Es _ _ _ _ _ (@vV _ _ _ _ _ _ _ _ "bool" rfl (by decide) rfl T.b_isinstance rfl T.b_bool PyProof.Rows.boot_bool (by decide) (by decide) (¬0) (by rfl) (by rfl))))))))
noncomputable def jh:FS:=(bv (ig (lH (mR "tuple") (ac 0)) (au (bO false) (aL (g1 fL) (aa (ac 0) ai)) (ac 1))))
noncomputable def b_:FM:=gW 2 0 [] jh
theorem lA:aG ["thing","many"] ["thing","many"] (am dt):=⟨rfl,rfl,rfl,by decide+kernel,rfl,by decide+kernel,by decide+kernel⟩
theorem rl(h:bo K mg "is_row_of" dt f fd ["thing","many"])(T:ja mg):aM P w K mg base bN 1 f fd ["thing","many"] (bP K 2 b_):=by
  have nd:=lA.nd
  exact h.fn lA rfl rfl (fun cdv A outer s H E hr=>(@ao _ _ _ _ _ (@aH _ _ _ _ _ (@rD _ _ _ _ _ _ _ _ (@vV _ _ _ _ _ _ _ _ "tuple" rfl (by decide) rfl T.b_isinstance rfl T.b_tuple PyProof.Rows.boot_tuple (by decide) (by decide) (¬0) (by rfl) (by rfl)) (@rF _ _ _ _ _ _ (@mI _ _ _ _ _ _ _ _ _ (@nD _ _ _ rfl hr) (@aZ _ _ _ _ _ _ _ _ _ (@b_len _ _ rfl) (by rfl) T.b_len ((¬0)∘ab) (by decide) (by decide) (by rfl) (by rfl)) (¬1) (aU _)))))))
noncomputable def cx:FS:=(aD (i3 (j4 (aN (ce 2 b_ (aa (ac 0) (aa (vC (.int 2)) ai)))))
    (bv (vC (.bool false)))
    cN)
    (aD (i0 (ac 0) (bj (aq (aj 1) (aq (aj 2) bh))))
    (aD (i3 (uc (j4 (aN (ce 1 dr (aa (ac 1) ai)))) (uc (j4 (aN (ce 1 dr (aa (ac 2) ai)))) (aN (au xN (ac 2) (vC (.int 1))))))
    (bv (vC (.bool false)))
    cN)
    (bv (au (bO false) (ce 2 dU (aa (ac 1) (aa (ac 2) ai))) (ac 0))))))
noncomputable def bB:FM:=gW 1 2 (([]++[])++(([1]++([2]++[]))++(([]++[])++[]))) cx
theorem jI:aG ["thing","top","bottom"] ["thing"] (am cY):=⟨rfl,rfl,rfl,by decide+kernel,rfl,by decide+kernel,by decide+kernel⟩
theorem og(h:bo K mg "is_fraction" cY f fd ["thing"])(T:ja mg){f_is_row_of:Addr}{e_is_row_of:FuncData}(h_is_row_of:bo K mg "is_row_of" dt f_is_row_of e_is_row_of ["thing","many"])(G_is_row_of:aM P w K mg base bN 1 f_is_row_of e_is_row_of ["thing","many"] (bP K 2 b_)){f_lowest:Addr}{e_lowest:FuncData}(h_lowest:bo K mg "lowest" gH f_lowest e_lowest ["top","bottom"])(G_lowest:aM P w K mg base bN 2 f_lowest e_lowest ["top","bottom"] (bP K 2 dU)){f_is_number:Addr}{e_is_number:FuncData}(h_is_number:bo K mg "is_number" eZ f_is_number e_is_number ["thing"])(G_is_number:aM P w K mg base bN 1 f_is_number e_is_number ["thing"] (bP K 1 dr)):aM P w K mg base bN 3 f fd ["thing"] (bP K 1 bB):=by
  have nd:=jI.nd
  exact h.fn jI rfl rfl (fun cdv A outer s H E hr=>(@ah _ _ _ _ _ _ _ _ (@cR _ _ _ _ _ _ _ _ _ _ _ (@om _ _ _ _ _ (@jE _ _ _ _ (@a8 _ _ _ _ _ _ _ _ _ _ _ _ _ _ _ h_is_row_of G_is_row_of (hr.mono (by decide)) ((¬0)∘(ae∘ab)) (by rfl) (by decide) (by rfl) (by rfl)) (by intro _;rfl)))
      (@ao _ _ _ _ _ (@aH _ _ _ _ _ (@cQ _ _ _ _ _)))
      (@bw _ _))
      (@ah _ _ _ _ _ _ _ _ (@jC _ _ _ _ _ _ _ _ (¬0) (@dY _ _ _ _ _ _ _ _ rfl rfl (@aI _ _ _ _ _ _ _ _ (@aB _ _ _ 1 _ nd rfl (Or.inl rfl) (by trivial)) (@aI _ _ _ _ _ _ _ _ (@aB _ _ _ 2 _ nd rfl (Or.inl rfl) (by trivial)) (@cC _ _) (by rfl)) (by rfl)) (aR (aR dN)) (by rfl) (by rfl)) (by rfl) (by rfl) (by rfl))
      (@ah _ _ _ _ _ _ _ _ (@cR _ _ _ _ _ _ _ _ _ _ _ (@uS _ _ _ _ (@tj _ _ _ _ _ _ _ _ (@om _ _ _ _ _ (@jE _ _ _ _ (@a8 _ _ _ _ _ _ _ _ _ _ _ _ _ _ _ h_is_number G_is_number (hr.mono (by decide)) ((¬1)∘ab) (by rfl) (by decide) (by rfl) (by rfl)) (by intro _;rfl))) (@tj _ _ _ _ _ _ _ _ (@om _ _ _ _ _ (@jE _ _ _ _ (@a8 _ _ _ _ _ _ _ _ _ _ _ _ _ _ _ h_is_number G_is_number (hr.mono (by decide)) ((¬2)∘ab) (by rfl) (by decide) (by rfl) (by rfl)) (by intro _;rfl))) (@rK _ _ _ _ _ (@be _ _ _ _ _ _ _ _ _ (@wA _ _) (¬2) ae (aU _))))))
      (@ao _ _ _ _ _ (@aH _ _ _ _ _ (@cQ _ _ _ _ _)))
      (@bw _ _))
      (@ao _ _ _ _ _ (@aH _ _ _ _ _ (@mI _ _ _ _ _ _ _ _ _ (@nD _ _ _ rfl hr) (@a8 _ _ _ _ _ _ _ _ _ _ _ _ _ _ _ h_lowest G_lowest (hr.mono (by decide)) ((¬1)∘((¬2)∘ab)) (by rfl) (by decide) (by rfl) (by rfl)) (¬0) (aU _))))))))
noncomputable def fx:FI:=(kl (ac 0))
noncomputable def bS:FE:=(ce 1 bB (aa (ac 0) ai))
noncomputable def dA:FS:=(bv (ig (ce 2 b_ (aa (ac 0) (aa (ac 1) ai))) (aL (g1 (kS nJ)) (aa (ee [] 1 fx (aj 0) cS bS) ai))))
noncomputable def bF:FM:=gW 2 0 [] dA
theorem gK:aG ["thing","many"] ["thing","many"] (am bG):=⟨rfl,rfl,rfl,by decide+kernel,rfl,by decide+kernel,by decide+kernel⟩
theorem ko(h:bo K mg "is_fraction_row" bG f fd ["thing","many"])(T:ja mg){f_is_row_of:Addr}{e_is_row_of:FuncData}(h_is_row_of:bo K mg "is_row_of" dt f_is_row_of e_is_row_of ["thing","many"])(G_is_row_of:aM P w K mg base bN 1 f_is_row_of e_is_row_of ["thing","many"] (bP K 2 b_)){f_is_fraction:Addr}{e_is_fraction:FuncData}(h_is_fraction:bo K mg "is_fraction" cY f_is_fraction e_is_fraction ["thing"])(G_is_fraction:aM P w K mg base bN 3 f_is_fraction e_is_fraction ["thing"] (bP K 1 bB)):aM P w K mg base bN 4 f fd ["thing","many"] (bP K 2 bF):=by
  have nd:=gK.nd
  exact h.fn gK rfl rfl (fun cdv A outer s H E hr=>(@ao _ _ _ _ _ (@aH _ _ _ _ _ (@rD _ _ _ _ _ _ _ _ (@a8 _ _ _ _ _ _ _ _ _ _ _ _ _ _ _ h_is_row_of G_is_row_of (hr.mono (by decide)) ((¬0)∘((¬1)∘ab)) (by rfl) (by decide) (by rfl) (by rfl)) (@rF _ _ _ _ _ _ (@aZ _ _ _ _ _ _ _ _ _ (@b_all _ _ _ rfl hr) (by rfl) T.b_all ((@jB _ _ _ _ _ _ _ _ _ _ _ _ _ (am bG) ["thing","many"] [] ["part"] rfl rfl rfl (@iZ _ _ _ _ _ rfl (¬0))
        (fun C s0 H0 fp=>(@aB _ _ _ 0 _ (show List.Nodup (["part"]:List Str) by decide+kernel) rfl (Or.inl rfl) (by trivial))) (fun C s0 H0 fp=>(@jY _ _))
        (fun C s0 H0 fp=>(@a8 _ _ _ _ _ _ _ _ _ _ _ _ _ _ _ h_is_fraction G_is_fraction (hr.mono (by decide)) ((¬0)∘ab) (by rfl) (by decide) (by rfl) (by rfl))) rfl (by decide+kernel) (by decide+kernel) (by decide+kernel) (by decide+kernel) (by decide+kernel) (by decide+kernel) (by decide+kernel) (by intro _;rfl))∘ab) (by decide) (by decide) (by rfl) (by rfl)))))))
noncomputable def jx:FI:=(kl (aO (aa (aO (aa (ac 3) (aa (ac 5) ai))) (aa (aO (aa (ac 4) (aa (ce 1 gv (aa (ac 5) ai)) ai))) ai))))
noncomputable def cH:FT:=(aN (au (bO true) (ac 0) (vC (.int (-1)))))
noncomputable def cI:FE:=(aO (aa (ac 0) (aa (ac 1) ai)))
noncomputable def pk:FS:=(aD (i0 (ac 1) (bj (aq (aj 2) (aq (aj 3) (aq (aj 4) bh)))))
    (aD (a_ 5 (au cD (au cD (au cD (ac 0) (vC (.int 1))) (ac 2)) (vC (.int 2))))
    (bv (ee [] 2 jx (bj (aq (aj 0) (aq (aj 1) bh))) cH cI))))
noncomputable def iJ:FM:=gW 2 4 (([2]++([3]++([4]++[])))++([5]++[])) pk
theorem oG:aG ["web","node","tie","yes","no","chance"] ["web","node"] (am f9):=⟨rfl,rfl,rfl,by decide+kernel,rfl,by decide+kernel,by decide+kernel⟩
theorem uL(h:bo K mg "ways_on" f9 f fd ["web","node"])(T:ja mg){f_one_less:Addr}{e_one_less:FuncData}(h_one_less:bo K mg "one_less" gJ f_one_less e_one_less ["chance"])(G_one_less:aM P w K mg base bN 3 f_one_less e_one_less ["chance"] (bP K 1 gv)){t_END:Tok}(m_END:mg "END"=some (.int (-1) t_END)):aM P w K mg base bN 4 f fd ["web","node"] (bP K 2 iJ):=by
  have nd:=oG.nd
  exact h.fn oG rfl rfl (fun cdv A outer s H E hr=>(@ah _ _ _ _ _ _ _ _ (@jC _ _ _ _ _ _ _ _ (¬1) (@dY _ _ _ _ _ _ _ _ rfl rfl (@aI _ _ _ _ _ _ _ _ (@aB _ _ _ 2 _ nd rfl (Or.inl rfl) (by trivial)) (@aI _ _ _ _ _ _ _ _ (@aB _ _ _ 3 _ nd rfl (Or.inl rfl) (by trivial)) (@aI _ _ _ _ _ _ _ _ (@aB _ _ _ 4 _ nd rfl (Or.inl rfl) (by trivial)) (@cC _ _) (by rfl)) (by rfl)) (by rfl)) (aR (aR (aR dN))) (by rfl) (by rfl)) (by rfl) (by rfl) (by rfl))
      (@ah _ _ _ _ _ _ _ _ (@aC _ _ _ _ _ 5 _ _ nd rfl (Or.inl rfl) (@bu _ _ _ _ _ _ _ rfl (@bu _ _ _ _ _ _ _ rfl (@bu _ _ _ _ _ _ _ rfl (¬0) ae (fun _ _=>rfl)) (¬2) (fun _ _=>rfl)) ae (fun _ _=>rfl)) (by rfl) (by trivial))
      (@ao _ _ _ _ _ (@aH _ _ _ _ _ (@jB _ _ _ _ _ _ _ _ _ _ _ _ _ (am f9) ["web","node","tie","yes","no","chance"] [] ["link","share"] rfl rfl rfl (@iZ _ _ _ _ _ rfl (@ap _ _ _ _ _ _ ((@ap _ _ _ _ _ _ ((¬3)∘((¬5)∘ab)))∘((@ap _ _ _ _ _ _ ((¬4)∘((@a8 _ _ _ _ _ _ _ _ _ _ _ _ _ _ _ h_one_less G_one_less (hr.mono (by decide)) ((¬5)∘ab) (by rfl) (by decide) (by rfl) (by rfl))∘ab)))∘ab))))
        (fun C s0 H0 fp=>(@dY _ _ _ _ _ _ _ _ rfl rfl (@aI _ _ _ _ _ _ _ _ (@aB _ _ _ 0 _ (show List.Nodup (["link","share"]:List Str) by decide+kernel) rfl (Or.inl rfl) (by trivial)) (@aI _ _ _ _ _ _ _ _ (@aB _ _ _ 1 _ (show List.Nodup (["link","share"]:List Str) by decide+kernel) rfl (Or.inl rfl) (by trivial)) (@cC _ _) (by rfl)) (by rfl)) (aR (aR dN)) (by rfl) (by rfl))) (fun C s0 H0 fp=>(@m7 _ _ _ _ (@be _ _ _ _ _ _ _ _ _ (@oS _ _ _ rfl hr) (¬0) (@vX _ _ _ (V.int (-1)) _ _ (PyData.int (-1)) rfl m_END ⟨_,rfl⟩ (fun _=>bV.mpr rfl) (by decide)) (aU _))))
        (fun C s0 H0 fp=>(@ap _ _ _ _ _ _ ((¬0)∘((¬1)∘ab)))) rfl (by decide+kernel) (by decide+kernel) (by decide+kernel) (by decide+kernel) (by decide+kernel) (by decide+kernel) (by decide+kernel) (by intro _;rfl)))))))
noncomputable def iG:FI:=(yz (aa (ac 1) (aa (ac 2) ai)))
noncomputable def bW:FI:=(kl (ce 2 iJ (aa (ac 1) (aa (ac 2) ai))))
noncomputable def bJ:FE:=(au (bO false) (au cD (ac 0) (ac 4)) (ce 2 k9 (aa (ac 3) (aa (ac 5) ai))))
noncomputable def cF:FS:=(aD (i3 (j4 (aN (ce 2 bF (aa (ac 2) (aa (aL (g1 fL) (aa (ac 1) ai)) ai)))))
    (bv (vC (.bool false)))
    cN)
    (aD (i3 (jM (aN (au Fw (aL (g1 fL) (aa (ac 1) ai)) (vC (.int 0)))) (aN (au (bO true) (au cD (ac 2) (vC (.int 0))) (vC (.tuple [.int (1),.int (1)])))))
    (bv (vC (.bool false)))
    cN)
    (bv (aL (g1 (kS nJ)) (aa (ma [(2,"thing"),(0,"web")] 4 iG (bj (aq (aj 2) (aq (aj 3) bh))) cS bW (bj (aq (aj 4) (aq (aj 5) bh))) cS bJ) ai)))))
noncomputable def bc:FM:=gW 3 0 (([]++[])++(([]++[])++[])) cF
theorem i8:aG ["web","tree","thing"] ["web","tree","thing"] (am bZ):=⟨rfl,rfl,rfl,by decide+kernel,rfl,by decide+kernel,by decide+kernel⟩
theorem mU(h:bo K mg "reaches_hold" bZ f fd ["web","tree","thing"])(T:ja mg){f_is_fraction_row:Addr}{e_is_fraction_row:FuncData}(h_is_fraction_row:bo K mg "is_fraction_row" bG f_is_fraction_row e_is_fraction_row ["thing","many"])(G_is_fraction_row:aM P w K mg base bN 4 f_is_fraction_row e_is_fraction_row ["thing","many"] (bP K 2 bF)){f_times:Addr}{e_times:FuncData}(h_times:bo K mg "times" lx f_times e_times ["one","other"])(G_times:aM P w K mg base bN 3 f_times e_times ["one","other"] (bP K 2 k9)){f_ways_on:Addr}{e_ways_on:FuncData}(h_ways_on:bo K mg "ways_on" f9 f_ways_on e_ways_on ["web","node"])(G_ways_on:aM P w K mg base bN 4 f_ways_on e_ways_on ["web","node"] (bP K 2 iJ)){g_ONE:Addr}(m_ONE:mg "ONE"=some (.ref g_ONE))(c_ONE:∀F,DA K F (.tuple [.int (1),.int (1)]) (.ref g_ONE)):aM P w K mg base bN 5 f fd ["web","tree","thing"] (bP K 3 bc):=by
  have nd:=i8.nd
  exact h.fn i8 rfl rfl (fun cdv A outer s H E hr=>(@ah _ _ _ _ _ _ _ _ (@cR _ _ _ _ _ _ _ _ _ _ _ (@om _ _ _ _ _ (@jE _ _ _ _ (@a8 _ _ _ _ _ _ _ _ _ _ _ _ _ _ _ h_is_fraction_row G_is_fraction_row (hr.mono (by decide)) ((¬2)∘((@aZ _ _ _ _ _ _ _ _ _ (@b_len _ _ rfl) (by rfl) T.b_len ((¬1)∘ab) (by decide) (by decide) (by rfl) (by rfl))∘ab)) (by rfl) (by decide) (by rfl) (by rfl)) (by intro _;rfl)))
      (@ao _ _ _ _ _ (@aH _ _ _ _ _ (@cQ _ _ _ _ _)))
      (@bw _ _))
      (@ah _ _ _ _ _ _ _ _ (@cR _ _ _ _ _ _ _ _ _ _ _ (@uS _ _ _ _ (@rH _ _ _ _ _ _ _ _ (@be _ _ _ _ _ _ _ _ _ (@Fn _ _) (@aZ _ _ _ _ _ _ _ _ _ (@b_len _ _ rfl) (by rfl) T.b_len ((¬1)∘ab) (by decide) (by decide) (by rfl) (by rfl)) ae (aU _)) (@rJ _ _ _ _ _ (@be _ _ _ _ _ _ _ _ _ (@oS _ _ _ rfl hr) (@bu _ _ _ _ _ _ _ rfl (¬2) ae (fun _ _=>rfl)) (@vX _ _ _ (V.ref g_ONE) _ _ (PyData.tuple [.int (1),.int (1)]) rfl m_ONE rfl c_ONE (by decide)) (aU _)))))
      (@ao _ _ _ _ _ (@aH _ _ _ _ _ (@cQ _ _ _ _ _)))
      (@bw _ _))
      (@ao _ _ _ _ _ (@aH _ _ _ _ _ (@aZ _ _ _ _ _ _ _ _ _ (@b_all _ _ _ rfl hr) (by rfl) T.b_all ((@BU _ _ _ _ _ _ _ _ _ _ _ _ _ _ _ _ _ _ _ _ (am bZ) ["web","tree","thing"] [(2,"thing"),(0,"web")] ["node","reach","link","chance"] rfl rfl rfl (@Et _ _ _ _ _ _ _ _ _ _ rfl rfl T.b_zip ((¬1)∘((¬2)∘ab)) (by rfl) (by rfl))
        (fun C s0 H0 fp=>(@dY _ _ _ _ _ _ _ _ rfl rfl (@aI _ _ _ _ _ _ _ _ (@aB _ _ _ 2 _ (show List.Nodup (["thing","web","node","reach","link","chance"]:List Str) by decide+kernel) rfl (Or.inl rfl) (by trivial)) (@aI _ _ _ _ _ _ _ _ (@aB _ _ _ 3 _ (show List.Nodup (["thing","web","node","reach","link","chance"]:List Str) by decide+kernel) rfl (Or.inl rfl) (by trivial)) (@cC _ _) (by rfl)) (by rfl)) (aR (aR dN)) (by rfl) (by rfl))) (fun C s0 H0 fp=>(@jY _ _)) (fun C s0 H0 fp=>(@iZ _ _ _ _ _ rfl (@a8 _ _ _ _ _ _ _ _ _ _ _ _ _ _ _ h_ways_on G_ways_on (hr.mono (by decide)) ((¬1)∘((¬2)∘ab)) (by rfl) (by decide) (by rfl) (by rfl)))) (fun C s0 H0 fp=>(@dY _ _ _ _ _ _ _ _ rfl rfl (@aI _ _ _ _ _ _ _ _ (@aB _ _ _ 4 _ (show List.Nodup (["thing","web","node","reach","link","chance"]:List Str) by decide+kernel) rfl (Or.inl rfl) (by trivial)) (@aI _ _ _ _ _ _ _ _ (@aB _ _ _ 5 _ (show List.Nodup (["thing","web","node","reach","link","chance"]:List Str) by decide+kernel) rfl (Or.inl rfl) (by trivial)) (@cC _ _) (by rfl)) (by rfl)) (aR (aR dN)) (by rfl) (by rfl))) (fun C s0 H0 fp=>(@jY _ _))
        (fun C s0 H0 fp=>(@mI _ _ _ _ _ _ _ _ _ (@nD _ _ _ rfl hr) (@bu _ _ _ _ _ _ _ rfl (¬0) (¬4) (fun _ _=>rfl)) (@a8 _ _ _ _ _ _ _ _ _ _ _ _ _ _ _ h_times G_times (hr.mono (by decide)) ((¬3)∘((¬5)∘ab)) (by rfl) (by decide) (by rfl) (by rfl)) (aU _))) rfl (by decide+kernel) (by decide+kernel) (by decide+kernel) (by decide+kernel) (by decide+kernel) (by decide+kernel) (by decide+kernel) (by intro _ _ _ _ _;rfl) (by intro _;rfl))∘ab) (by decide) (by decide) (by rfl) (by rfl)))))))
noncomputable def vx:FS:=(aD (a_ 2 (au a9 (au bD (au bD (au c_ (au a9 (ac 0) (vC (.int 2147483647))) (vC (.int 48271))) (au c_ (au c_ (vC (.int 7919)) (ac 1)) (ac 1))) (vC (.int 104729))) (vC (.int 2147483647))))
    (bv (au a9 (au c_ (ac 2) (ac 2)) (vC (.int 2147483629)))))
noncomputable def jW:FM:=gW 2 1 ([2]++[]) vx
theorem tN:aG ["_law_cell","_law_k","_law_number"] ["_law_cell","_law_k"] (am lr):=⟨rfl,rfl,rfl,by decide+kernel,rfl,by decide+kernel,by decide+kernel⟩
theorem yS(h:bo K mg "_law_mixed" lr f fd ["_law_cell","_law_k"])(T:ja mg):aM P w K mg base bN 1 f fd ["_law_cell","_law_k"] (bP K 2 jW):=by
  have nd:=tN.nd
  exact h.fn tN rfl rfl (fun cdv A outer s H E hr=>(@ah _ _ _ _ _ _ _ _ (@aC _ _ _ _ _ 2 _ _ nd rfl (Or.inl rfl) (@aX _ _ _ _ _ _ _ (@bz _ _ _ _ _ _ _ rfl (@bz _ _ _ _ _ _ _ rfl (@gB _ _ _ _ _ _ _ rfl (@aX _ _ _ _ _ _ _ (¬0) ae) ae) (@gB _ _ _ _ _ _ _ rfl (@gB _ _ _ _ _ _ _ rfl ae (¬1)) (¬1))) ae) ae) (by rfl) (by trivial))
      (@ao _ _ _ _ _ (@aH _ _ _ _ _ (@aX _ _ _ _ _ _ _ (@gB _ _ _ _ _ _ _ rfl (¬2) (¬2)) ae)))))
noncomputable def fR:FT:=(jM (aN (au AQ (ac 3) (au qP (vC (.int 10)) (vC (.int 18))))) (aN (au xN (aL (g1 fL) (aa (ac 1) ai)) (vC (.int 900)))))
noncomputable def jQ:FS:=(aD (cX (cw bE (ac 1) (aa (au a9 (ac 3) (vC (.int 2147483629))) ai)))
    (a_ 3 (au dm (ac 3) (vC (.int 2147483629)))))
noncomputable def jV:FI:=(dP (aa (vC (.int 12)) ai))
noncomputable def iy:FS:=(cX (cw bE (ac 1) (aa (ce 2 jW (aa (ce 2 jW (aa (ac 3) (aa (au bD (au c_ (vC (.int 3)) (ac 4)) (vC (.int 1))) ai))) (aa (au bD (au bD (ac 4) (ac 2)) (vC (.int 2))) ai))) ai)))
noncomputable def lQ:FI:=(dP (aa (aL (g2 yr) (aa (aL (g1 fL) (aa (ac 0) ai)) (aa (vC (.int 63)) ai))) ai))
noncomputable def fQ:FS:=(aD (a_ 3 (aL (g1 uu) (aa (au cD (ac 0) (ac 2)) ai)))
    (aD (i3 (aN (au xN (ac 3) (au qP (vC (.int 10)) (vC (.int 18)))))
    (ef ([4]++[]) jV (aj 4) iy)
    cN)
    (aD (gG (2 ^ 4200) fR jQ)
    (i3 (aN (au AQ (ac 3) (vC (.int 2147483629))))
    (cX (cw bE (ac 1) (aa (au a9 (ac 3) (vC (.int 2147483629))) ai)))
    cN))))
noncomputable def vt:FS:=(aD (a_ 1 (bL ai))
    (aD (ef ([2]++([3]++((([4]++[])++[])++(([]++[3])++([]++[]))))) lQ (aj 2) fQ)
    (bv (ac 1))))
noncomputable def kY:FM:=gW 1 4 ([1]++(([2]++([3]++((([4]++[])++[])++(([]++[3])++([]++[])))))++[])) vt
theorem tL:aG ["_law_script","_law_drawn","_law_k","_law_cell","_law_j"] ["_law_script"] (am lq):=⟨rfl,rfl,rfl,by decide+kernel,rfl,by decide+kernel,by decide+kernel⟩
theorem yQ(h:bo K mg "_law_draws" lq f fd ["_law_script"])(T:ja mg){fLmixed:Addr}{eLmixed:FuncData}(hLmixed:bo K mg "_law_mixed" lr fLmixed eLmixed ["_law_cell","_law_k"])(GLmixed:aM P w K mg base bN 1 fLmixed eLmixed ["_law_cell","_law_k"] (bP K 2 jW)):aM P w K mg base bN 2 f fd ["_law_script"] (bP K 1 kY):=by
  have nd:=tL.nd
  exact h.fn tL rfl rfl (fun cdv A outer s H E hr=>(@ah _ _ _ _ _ _ _ _ (@aC _ _ _ _ _ 1 _ _ nd rfl (Or.inl rfl) (@aY _ _ _ _ _ ab) (by rfl) (by trivial))
      (@ah _ _ _ _ _ _ _ _ (@io _ _ _ _ _ _ _ _ _ _ _ PassesOwn.never rfl (@eu _ _ _ _ _ _ _ rfl T.b_range ((@aZ _ _ _ _ _ _ _ _ _ (@b_min _ _ rfl) (by rfl) T.b_min ((@aZ _ _ _ _ _ _ _ _ _ (@b_len _ _ rfl) (by rfl) T.b_len ((¬0)∘ab) (by decide) (by decide) (by rfl) (by rfl))∘(ae∘ab)) (by decide) (by decide) (by rfl) (by rfl))∘ab) (by rfl)) (@aB _ _ _ 2 _ nd rfl (Or.inl rfl) (by trivial))
      (@ah _ _ _ _ _ _ _ _ (@aC _ _ _ _ _ 3 _ _ nd rfl (Or.inl rfl) (@aZ _ _ _ _ _ _ _ _ _ (@b_abs _ _) (by rfl) T.b_abs ((@bu _ _ _ _ _ _ _ rfl (¬0) (¬2) (fun _ _=>rfl))∘ab) (by decide) (by decide) (by rfl) (by rfl)) (by rfl) (by trivial))
      (@ah _ _ _ _ _ _ _ _ (@cR _ _ _ _ _ _ _ _ _ _ _ (@be _ _ _ _ _ _ _ _ _ (@wA _ _) (¬3) (@zx _ _ _ _ _ _ _ ae ae) (aU _))
      (@ao _ _ _ _ _ (@io _ _ _ _ _ _ _ _ _ _ _ PassesOwn.never rfl (@eu _ _ _ _ _ _ _ rfl T.b_range (ae∘ab) (by rfl)) (@aB _ _ _ 4 _ nd rfl (Or.inl rfl) (by trivial))
      (@ao _ _ _ _ _ (@eE _ _ _ _ _ (@eX _ _ _ _ _ _ _ _ _ rfl (¬1) ((@a8 _ _ _ _ _ _ _ _ _ _ _ _ _ _ _ hLmixed GLmixed (hr.mono (by decide)) ((@a8 _ _ _ _ _ _ _ _ _ _ _ _ _ _ _ hLmixed GLmixed (hr.mono (by decide)) ((¬3)∘((@bz _ _ _ _ _ _ _ rfl (@gB _ _ _ _ _ _ _ rfl ae (¬4)) ae)∘ab)) (by rfl) (by decide) (by rfl) (by rfl))∘((@bz _ _ _ _ _ _ _ rfl (@bz _ _ _ _ _ _ _ rfl (¬4) (¬2)) ae)∘ab)) (by rfl) (by decide) (by rfl) (by rfl))∘ab) (by rfl) (by rfl) (by rfl) (by rfl) (by rfl)) (by rfl))) (by intro _;rfl)))
      (@bw _ _))
      (@ah _ _ _ _ _ _ _ _ (@jD _ _ _ _ _ _ _ _ _ PassesOwn.never (@uS _ _ _ _ (@rH _ _ _ _ _ _ _ _ (@be _ _ _ _ _ _ _ _ _ (@ya _ _) (¬3) (@zx _ _ _ _ _ _ _ ae ae) (aU _)) (@rJ _ _ _ _ _ (@be _ _ _ _ _ _ _ _ _ (@wA _ _) (@aZ _ _ _ _ _ _ _ _ _ (@b_len _ _ rfl) (by rfl) T.b_len ((¬1)∘ab) (by decide) (by decide) (by rfl) (by rfl)) ae (aU _)))))
      (@ah _ _ _ _ _ _ _ _ (@eE _ _ _ _ _ (@eX _ _ _ _ _ _ _ _ _ rfl (¬1) ((@aX _ _ _ _ _ _ _ (¬3) ae)∘ab) (by rfl) (by rfl) (by rfl) (by rfl) (by rfl)) (by rfl))
      (@ao _ _ _ _ _ (@aC _ _ _ _ _ 3 _ _ nd rfl (Or.inl rfl) (@gy _ _ _ _ _ _ _ (¬3) ae) (by rfl) (by trivial)))))
      (@ao _ _ _ _ _ (@cR _ _ _ _ _ _ _ _ _ _ _ (@be _ _ _ _ _ _ _ _ _ (@ya _ _) (¬3) ae (aU _))
      (@ao _ _ _ _ _ (@eE _ _ _ _ _ (@eX _ _ _ _ _ _ _ _ _ rfl (¬1) ((@aX _ _ _ _ _ _ _ (¬3) ae)∘ab) (by rfl) (by rfl) (by rfl) (by rfl) (by rfl)) (by rfl)))
      (@bw _ _)))))) (by intro _;rfl))
      (@ao _ _ _ _ _ (@aH _ _ _ _ _ (¬1))))))
noncomputable def um:FS:=(aD (i3 (aN (au (bO false) (ac 0) (bL ai)))
    (bv (vC (.int 0)))
    cN)
    (bv (cw dS (ac 0) (aa (vC (.int 0)) ai))))
noncomputable def aW:FM:=gW 1 0 (([]++[])++[]) um
theorem wb:aG ["_law_drawn"] ["_law_drawn"] (am gF):=⟨rfl,rfl,rfl,by decide+kernel,rfl,by decide+kernel,by decide+kernel⟩
theorem Be(h:bo K mg "_law_next" gF f fd ["_law_drawn"])(T:ja mg):aM P w K mg base bN 1 f fd ["_law_drawn"] (bP K 1 aW):=by
  have nd:=wb.nd
  exact h.fn wb rfl rfl (fun cdv A outer s H E hr=>(@ah _ _ _ _ _ _ _ _ (@cR _ _ _ _ _ _ _ _ _ _ _ (@be _ _ _ _ _ _ _ _ _ (@nD _ _ _ rfl hr) (¬0) (@aY _ _ _ _ _ ab) (aU _))
      (@ao _ _ _ _ _ (@aH _ _ _ _ _ ae))
      (@bw _ _))
      (@ao _ _ _ _ _ (@aH _ _ _ _ _ (@rC _ _ _ _ _ _ _ _ _ rfl (¬0) (ae∘ab) (by rfl) (by rfl) (by rfl) (by rfl) (by rfl))))))
noncomputable def kJ:FT:=(aN (au (bO true) (ac 1) (vC (.int 0))))
noncomputable def m4:FS:=(mX 0 1 (aa (ac 1) (aa (au a9 (ac 0) (ac 1)) ai)))
noncomputable def Cz:FS:=(aD (gG (2 ^ 4200) kJ m4)
    (bv (aL (g1 uu) (aa (ac 0) ai))))
noncomputable def sM:FM:=gW 2 0 ([0,1]++[]) Cz
theorem zR:aG ["_law_one","_law_other"] ["_law_one","_law_other"] (am tH):=⟨rfl,rfl,rfl,by decide+kernel,rfl,by decide+kernel,by decide+kernel⟩
theorem DP(h:bo K mg "_law_gcd" tH f fd ["_law_one","_law_other"])(T:ja mg):aM P w K mg base bN 1 f fd ["_law_one","_law_other"] (bP K 2 sM):=by
  have nd:=zR.nd
  exact h.fn zR rfl rfl (fun cdv A outer s H E hr=>(@ah _ _ _ _ _ _ _ _ (@jD _ _ _ _ _ _ _ _ _ PassesOwn.never (@be _ _ _ _ _ _ _ _ _ (@oS _ _ _ rfl hr) (¬1) ae (aU _))
      (@ao _ _ _ _ _ (@zC _ _ _ _ _ 0 1 _ _ _ _ _ _ _ _ _ rfl nd rfl rfl (by decide) rfl rfl ((¬1)∘((@aX _ _ _ _ _ _ _ (¬0) (¬1))∘ab)) (by rfl) (by rfl))))
      (@ao _ _ _ _ _ (@aH _ _ _ _ _ (@aZ _ _ _ _ _ _ _ _ _ (@b_abs _ _) (by rfl) T.b_abs ((¬0)∘ab) (by decide) (by decide) (by rfl) (by rfl))))))
noncomputable def CA:FS:=(aD (a_ 2 (ce 2 sM (aa (ac 0) (aa (ac 1) ai))))
    (bv (aO (aa (au dm (ac 0) (ac 2)) (aa (au dm (ac 1) (ac 2)) ai)))))
noncomputable def mH:FM:=gW 2 1 ([2]++[]) CA
theorem zS:aG ["_law_top","_law_bottom","_law_common"] ["_law_top","_law_bottom"] (am pZ):=⟨rfl,rfl,rfl,by decide+kernel,rfl,by decide+kernel,by decide+kernel⟩
theorem DQ(h:bo K mg "_law_low" pZ f fd ["_law_top","_law_bottom"])(T:ja mg){fLgcd:Addr}{eLgcd:FuncData}(hLgcd:bo K mg "_law_gcd" tH fLgcd eLgcd ["_law_one","_law_other"])(GLgcd:aM P w K mg base bN 1 fLgcd eLgcd ["_law_one","_law_other"] (bP K 2 sM)):aM P w K mg base bN 2 f fd ["_law_top","_law_bottom"] (bP K 2 mH):=by
  have nd:=zS.nd
  exact h.fn zS rfl rfl (fun cdv A outer s H E hr=>(@ah _ _ _ _ _ _ _ _ (@aC _ _ _ _ _ 2 _ _ nd rfl (Or.inl rfl) (@a8 _ _ _ _ _ _ _ _ _ _ _ _ _ _ _ hLgcd GLgcd (hr.mono (by decide)) ((¬0)∘((¬1)∘ab)) (by rfl) (by decide) (by rfl) (by rfl)) (by rfl) (by trivial))
      (@ao _ _ _ _ _ (@aH _ _ _ _ _ (@ap _ _ _ _ _ _ ((@gy _ _ _ _ _ _ _ (¬0) (¬2))∘((@gy _ _ _ _ _ _ _ (¬1) (¬2))∘ab)))))))
noncomputable def vy:FS:=(bv (ce 2 mH (aa (au c_ (au cD (ac 0) (vC (.int 0))) (au cD (ac 1) (vC (.int 0)))) (aa (au c_ (au cD (ac 0) (vC (.int 1))) (au cD (ac 1) (vC (.int 1)))) ai))))
noncomputable def iY:FM:=gW 2 0 [] vy
theorem tO:aG ["_law_one","_law_other"] ["_law_one","_law_other"] (am ls):=⟨rfl,rfl,rfl,by decide+kernel,rfl,by decide+kernel,by decide+kernel⟩
theorem yT(h:bo K mg "_law_times" ls f fd ["_law_one","_law_other"])(T:ja mg){fLlow:Addr}{eLlow:FuncData}(hLlow:bo K mg "_law_low" pZ fLlow eLlow ["_law_top","_law_bottom"])(GLlow:aM P w K mg base bN 2 fLlow eLlow ["_law_top","_law_bottom"] (bP K 2 mH)):aM P w K mg base bN 3 f fd ["_law_one","_law_other"] (bP K 2 iY):=by
  have nd:=tO.nd
  exact h.fn tO rfl rfl (fun cdv A outer s H E hr=>(@ao _ _ _ _ _ (@aH _ _ _ _ _ (@a8 _ _ _ _ _ _ _ _ _ _ _ _ _ _ _ hLlow GLlow (hr.mono (by decide)) ((@gB _ _ _ _ _ _ _ rfl (@bu _ _ _ _ _ _ _ rfl (¬0) ae (fun _ _=>rfl)) (@bu _ _ _ _ _ _ _ rfl (¬1) ae (fun _ _=>rfl)))∘((@gB _ _ _ _ _ _ _ rfl (@bu _ _ _ _ _ _ _ rfl (¬0) ae (fun _ _=>rfl)) (@bu _ _ _ _ _ _ _ rfl (¬1) ae (fun _ _=>rfl)))∘ab)) (by rfl) (by decide) (by rfl) (by rfl)))))
noncomputable def xX:FS:=(bv (aO (aa (au fg (au cD (ac 0) (vC (.int 1))) (au cD (ac 0) (vC (.int 0)))) (aa (au cD (ac 0) (vC (.int 1))) ai))))
noncomputable def nQ:FM:=gW 1 0 [] xX
theorem wc:aG ["_law_one"] ["_law_one"] (am ox):=⟨rfl,rfl,rfl,by decide+kernel,rfl,by decide+kernel,by decide+kernel⟩
theorem Bf(h:bo K mg "_law_rest" ox f fd ["_law_one"])(T:ja mg):aM P w K mg base bN 1 f fd ["_law_one"] (bP K 1 nQ):=by
  have nd:=wc.nd
  exact h.fn wc rfl rfl (fun cdv A outer s H E hr=>(@ao _ _ _ _ _ (@aH _ _ _ _ _ (@ap _ _ _ _ _ _ ((@lj _ _ _ _ _ _ _ (@bu _ _ _ _ _ _ _ rfl (¬0) ae (fun _ _=>rfl)) (@bu _ _ _ _ _ _ _ rfl (¬0) ae (fun _ _=>rfl)))∘((@bu _ _ _ _ _ _ _ rfl (¬0) ae (fun _ _=>rfl))∘ab))))))
noncomputable def xY:FS:=(bv (au (bO false) (aL (g1 kR) (aa (ac 0) ai)) (aL (g1 kR) (aa (ac 1) ai))))
noncomputable def nR:FM:=gW 2 0 [] xY
theorem wd:aG ["_law_found","_law_due"] ["_law_found","_law_due"] (am oz):=⟨rfl,rfl,rfl,by decide+kernel,rfl,by decide+kernel,by decide+kernel⟩
theorem Bg(h:bo K mg "_law_same" oz f fd ["_law_found","_law_due"])(T:ja mg):aM P w K mg base bN 1 f fd ["_law_found","_law_due"] (bP K 2 nR):=by
  have nd:=wd.nd
  exact h.fn wd rfl rfl (fun cdv A outer s H E hr=>(@ao _ _ _ _ _ (@aH _ _ _ _ _ (@mI _ _ _ _ _ _ _ _ _ (@nD _ _ _ rfl hr) (@aZ _ _ _ _ _ _ _ _ _ (@b_repr _ _ _ rfl hr) (by rfl) T.b_repr ((¬0)∘ab) (by decide) (by decide) (by rfl) (by rfl)) (@aZ _ _ _ _ _ _ _ _ _ (@b_repr _ _ _ rfl hr) (by rfl) T.b_repr ((¬1)∘ab) (by decide) (by decide) (by rfl) (by rfl)) (aU _)))))
noncomputable def xZ:FS:=(aD (i3 (aN (ac 1))
    (bv (au Fy (ac 0) (vC (.bool true))))
    cN)
    (bv (au Fy (ac 0) (vC (.bool false)))))
noncomputable def nS:FM:=gW 2 0 (([]++[])++[]) xZ
theorem we:aG ["_law_found","_law_due"] ["_law_found","_law_due"] (am oA):=⟨rfl,rfl,rfl,by decide+kernel,rfl,by decide+kernel,by decide+kernel⟩
theorem Bh(h:bo K mg "_law_says" oA f fd ["_law_found","_law_due"])(T:ja mg):aM P w K mg base bN 1 f fd ["_law_found","_law_due"] (bP K 2 nS):=by
  have nd:=we.nd
  exact h.fn we rfl rfl (fun cdv A outer s H E hr=>(@ah _ _ _ _ _ _ _ _ (@cR _ _ _ _ _ _ _ _ _ _ _ (@jE _ _ _ _ (¬1) (by intro _;rfl))
      (@ao _ _ _ _ _ (@aH _ _ _ _ _ (@mI _ _ _ _ _ _ _ _ _ (@Fo _ _) (¬0) (@cQ _ _ _ _ _) (aU _))))
      (@bw _ _))
      (@ao _ _ _ _ _ (@aH _ _ _ _ _ (@mI _ _ _ _ _ _ _ _ _ (@Fo _ _) (¬0) (@cQ _ _ _ _ _) (aU _))))))
noncomputable def jg:FS:=(aD (i3 (aN (au (bO false) (ac 1) (vC (.int 0))))
    (bv (au cD (bL (aa (aO (aa (vC (.int 1)) (aa (vC (.int 2)) ai))) (aa (aO (aa (vC (.int 1)) (aa (vC (.int 3)) ai))) (aa (aO (aa (vC (.int 2)) (aa (vC (.int 3)) ai))) (aa (aO (aa (vC (.int 1)) (aa (vC (.int 1)) ai))) (aa (aO (aa (vC (.int 0)) (aa (vC (.int 1)) ai))) (aa (aO (aa (vC (.int 3)) (aa (vC (.int 4)) ai))) ai))))))) (au a9 (ac 0) (vC (.int 6)))))
    cN)
    (aD (i3 (aN (au (bO false) (ac 1) (vC (.int 1))))
    (aD (a_ 2 (au bD (vC (.int 2)) (au a9 (ac 0) (vC (.int 9)))))
    (bv (ce 2 mH (aa (au bD (vC (.int 1)) (au a9 (au dm (ac 0) (vC (.int 9))) (au fg (ac 2) (vC (.int 1))))) (aa (ac 2) ai)))))
    cN)
    (aD (i3 (aN (au (bO false) (ac 1) (vC (.int 2))))
    (aD (a_ 2 (au bD (vC (.int 1)) (au a9 (ac 0) (vC (.int 100)))))
    (bv (ce 2 mH (aa (au a9 (au dm (ac 0) (vC (.int 100))) (au bD (ac 2) (vC (.int 1)))) (aa (ac 2) ai)))))
    cN)
    (bv (aO (aa (vC (.int 1)) (aa (vC (.int 1)) ai)))))))
noncomputable def eW:FM:=gW 2 1 (([]++[])++((([2]++[])++[])++((([2]++[])++[])++[]))) jg
theorem p5:aG ["_law_number","_law_kind","_law_bottom"] ["_law_number","_law_kind"] (am jH):=⟨rfl,rfl,rfl,by decide+kernel,rfl,by decide+kernel,by decide+kernel⟩
theorem xa(h:bo K mg "_law_chance" jH f fd ["_law_number","_law_kind"])(T:ja mg){fLlow:Addr}{eLlow:FuncData}(hLlow:bo K mg "_law_low" pZ fLlow eLlow ["_law_top","_law_bottom"])(GLlow:aM P w K mg base bN 2 fLlow eLlow ["_law_top","_law_bottom"] (bP K 2 mH)):aM P w K mg base bN 3 f fd ["_law_number","_law_kind"] (bP K 2 eW):=by
  have nd:=p5.nd
  exact h.fn p5 rfl rfl (fun cdv A outer s H E hr=>(@ah _ _ _ _ _ _ _ _ (@cR _ _ _ _ _ _ _ _ _ _ _ (@be _ _ _ _ _ _ _ _ _ (@nD _ _ _ rfl hr) (¬1) ae (aU _))
      (@ao _ _ _ _ _ (@aH _ _ _ _ _ (@bu _ _ _ _ _ _ _ rfl (@aY _ _ _ _ _ ((@ap _ _ _ _ _ _ (ae∘(ae∘ab)))∘((@ap _ _ _ _ _ _ (ae∘(ae∘ab)))∘((@ap _ _ _ _ _ _ (ae∘(ae∘ab)))∘((@ap _ _ _ _ _ _ (ae∘(ae∘ab)))∘((@ap _ _ _ _ _ _ (ae∘(ae∘ab)))∘((@ap _ _ _ _ _ _ (ae∘(ae∘ab)))∘ab))))))) (@aX _ _ _ _ _ _ _ (¬0) ae) (fun _ _=>rfl))))
      (@bw _ _))
      (@ah _ _ _ _ _ _ _ _ (@cR _ _ _ _ _ _ _ _ _ _ _ (@be _ _ _ _ _ _ _ _ _ (@nD _ _ _ rfl hr) (¬1) ae (aU _))
      (@ah _ _ _ _ _ _ _ _ (@aC _ _ _ _ _ 2 _ _ nd rfl (Or.inl rfl) (@bz _ _ _ _ _ _ _ rfl ae (@aX _ _ _ _ _ _ _ (¬0) ae)) (by rfl) (by trivial))
      (@ao _ _ _ _ _ (@aH _ _ _ _ _ (@a8 _ _ _ _ _ _ _ _ _ _ _ _ _ _ _ hLlow GLlow (hr.mono (by decide)) ((@bz _ _ _ _ _ _ _ rfl ae (@aX _ _ _ _ _ _ _ (@gy _ _ _ _ _ _ _ (¬0) ae) (@lj _ _ _ _ _ _ _ (¬2) ae)))∘((¬2)∘ab)) (by rfl) (by decide) (by rfl) (by rfl)))))
      (@bw _ _))
      (@ah _ _ _ _ _ _ _ _ (@cR _ _ _ _ _ _ _ _ _ _ _ (@be _ _ _ _ _ _ _ _ _ (@nD _ _ _ rfl hr) (¬1) ae (aU _))
      (@ah _ _ _ _ _ _ _ _ (@aC _ _ _ _ _ 2 _ _ nd rfl (Or.inl rfl) (@bz _ _ _ _ _ _ _ rfl ae (@aX _ _ _ _ _ _ _ (¬0) ae)) (by rfl) (by trivial))
      (@ao _ _ _ _ _ (@aH _ _ _ _ _ (@a8 _ _ _ _ _ _ _ _ _ _ _ _ _ _ _ hLlow GLlow (hr.mono (by decide)) ((@aX _ _ _ _ _ _ _ (@gy _ _ _ _ _ _ _ (¬0) ae) (@bz _ _ _ _ _ _ _ rfl (¬2) ae))∘((¬2)∘ab)) (by rfl) (by decide) (by rfl) (by rfl)))))
      (@bw _ _))
      (@ao _ _ _ _ _ (@aH _ _ _ _ _ (@ap _ _ _ _ _ _ (ae∘(ae∘ab)))))))))
noncomputable def vz:FS:=(bv (au cD (bL (aa (au a9 (ac 0) (vC (.int 7))) (aa (au bD (vC (.int 5)) (au a9 (ac 0) (vC (.int 2)))) (aa (au a9 (ac 0) (vC (.int 1001))) (aa (au fg (vC (.int 1000)) (au a9 (ac 0) (vC (.int 3)))) ai))))) (au a9 (ac 1) (vC (.int 4)))))
noncomputable def k8:FM:=gW 2 0 [] vz
theorem tP:aG ["_law_number","_law_kind"] ["_law_number","_law_kind"] (am lu):=⟨rfl,rfl,rfl,by decide+kernel,rfl,by decide+kernel,by decide+kernel⟩
theorem yU(h:bo K mg "_law_worth" lu f fd ["_law_number","_law_kind"])(T:ja mg):aM P w K mg base bN 1 f fd ["_law_number","_law_kind"] (bP K 2 k8):=by
  have nd:=tP.nd
  exact h.fn tP rfl rfl (fun cdv A outer s H E hr=>(@ao _ _ _ _ _ (@aH _ _ _ _ _ (@bu _ _ _ _ _ _ _ rfl (@aY _ _ _ _ _ ((@aX _ _ _ _ _ _ _ (¬0) ae)∘((@bz _ _ _ _ _ _ _ rfl ae (@aX _ _ _ _ _ _ _ (¬0) ae))∘((@aX _ _ _ _ _ _ _ (¬0) ae)∘((@lj _ _ _ _ _ _ _ ae (@aX _ _ _ _ _ _ _ (¬0) ae))∘ab))))) (@aX _ _ _ _ _ _ _ (¬1) ae) (fun _ _=>rfl)))))
noncomputable def nL:FI:=(dP (aa (ac 2) ai))
noncomputable def iA:FS:=(aD (a_ 8 (ce 1 aW (aa (ac 0) ai)))
    (aD (a_ 9 (au cD (bL (aa (au a9 (ac 8) (ac 1)) (aa (vC (.int 0)) (aa (au a9 (ac 7) (ac 1)) (aa (au a9 (ac 8) (ac 1)) (aa (au a9 (ac 8) (vC (.int 2))) (aa (au a9 (ac 8) (ac 1)) ai))))))) (ac 3)))
    (aD (a_ 10 (au a9 (au bD (au bD (ac 9) (vC (.int 1))) (au a9 (au dm (ac 8) (vC (.int 12))) (au fg (ac 1) (vC (.int 1))))) (ac 1)))
    (aD (i3 (aN (au (bO false) (ac 3) (vC (.int 4))))
    (i0 (aO (aa (vC (.int 0)) (aa (vC (.int 1)) ai))) (bj (aq (aj 9) (aq (aj 10) bh))))
    cN)
    (aD (a_ 11 (ce 1 aW (aa (ac 0) ai)))
    (aD (a_ 12 (aO (aa (aL (g2 yr) (aa (ac 9) (aa (ac 10) ai))) (aa (aL (g2 oY) (aa (ac 9) (aa (ac 10) ai))) ai))))
    (cX (cw bE (ac 6) (aa (au bD (ac 12) (aO (aa (ce 2 eW (aa (ac 11) (aa (ac 4) ai))) (aa (ce 2 k8 (aa (au dm (ac 11) (vC (.int 10007))) (aa (ac 5) ai))) ai)))) ai)))))))))
noncomputable def x4:FS:=(aD (a_ 3 (au a9 (ce 1 aW (aa (ac 0) ai)) (vC (.int 6))))
    (aD (a_ 4 (au a9 (ce 1 aW (aa (ac 0) ai)) (vC (.int 4))))
    (aD (a_ 5 (au a9 (ce 1 aW (aa (ac 0) ai)) (vC (.int 4))))
    (aD (a_ 6 (bL ai))
    (aD (ef ([7]++([8]++([9]++([10]++((([9]++([10]++[]))++[])++([11]++([12]++[]))))))) nL (aj 7) iA)
    (bv (aL (g1 dc) (aa (ac 6) ai))))))))
noncomputable def nU:FM:=gW 3 10 ([3]++([4]++([5]++([6]++(([7]++([8]++([9]++([10]++((([9]++([10]++[]))++[])++([11]++([12]++[])))))))++[]))))) x4
theorem wf:aG ["_law_drawn","_law_things","_law_many","_law_shape","_law_odds","_law_worths","_law_found","_law_k","_law_number","_law_one","_law_other","_law_cell","_law_ends"] ["_law_drawn","_law_things","_law_many"] (am oB):=⟨rfl,rfl,rfl,by decide+kernel,rfl,by decide+kernel,by decide+kernel⟩
theorem Bi(h:bo K mg "_law_ties" oB f fd ["_law_drawn","_law_things","_law_many"])(T:ja mg){fLnext:Addr}{eLnext:FuncData}(hLnext:bo K mg "_law_next" gF fLnext eLnext ["_law_drawn"])(GLnext:aM P w K mg base bN 1 fLnext eLnext ["_law_drawn"] (bP K 1 aW)){fLchance:Addr}{eLchance:FuncData}(hLchance:bo K mg "_law_chance" jH fLchance eLchance ["_law_number","_law_kind"])(GLchance:aM P w K mg base bN 3 fLchance eLchance ["_law_number","_law_kind"] (bP K 2 eW)){fLworth:Addr}{eLworth:FuncData}(hLworth:bo K mg "_law_worth" lu fLworth eLworth ["_law_number","_law_kind"])(GLworth:aM P w K mg base bN 1 fLworth eLworth ["_law_number","_law_kind"] (bP K 2 k8)):aM P w K mg base bN 4 f fd ["_law_drawn","_law_things","_law_many"] (bP K 3 nU):=by
  have nd:=wf.nd
  exact h.fn wf rfl rfl (fun cdv A outer s H E hr=>(@ah _ _ _ _ _ _ _ _ (@aC _ _ _ _ _ 3 _ _ nd rfl (Or.inl rfl) (@aX _ _ _ _ _ _ _ (@a8 _ _ _ _ _ _ _ _ _ _ _ _ _ _ _ hLnext GLnext (hr.mono (by decide)) ((¬0)∘ab) (by rfl) (by decide) (by rfl) (by rfl)) ae) (by rfl) (by trivial))
      (@ah _ _ _ _ _ _ _ _ (@aC _ _ _ _ _ 4 _ _ nd rfl (Or.inl rfl) (@aX _ _ _ _ _ _ _ (@a8 _ _ _ _ _ _ _ _ _ _ _ _ _ _ _ hLnext GLnext (hr.mono (by decide)) ((¬0)∘ab) (by rfl) (by decide) (by rfl) (by rfl)) ae) (by rfl) (by trivial))
      (@ah _ _ _ _ _ _ _ _ (@aC _ _ _ _ _ 5 _ _ nd rfl (Or.inl rfl) (@aX _ _ _ _ _ _ _ (@a8 _ _ _ _ _ _ _ _ _ _ _ _ _ _ _ hLnext GLnext (hr.mono (by decide)) ((¬0)∘ab) (by rfl) (by decide) (by rfl) (by rfl)) ae) (by rfl) (by trivial))
      (@ah _ _ _ _ _ _ _ _ (@aC _ _ _ _ _ 6 _ _ nd rfl (Or.inl rfl) (@aY _ _ _ _ _ ab) (by rfl) (by trivial))
      (@ah _ _ _ _ _ _ _ _ (@io _ _ _ _ _ _ _ _ _ _ _ PassesOwn.never rfl (@eu _ _ _ _ _ _ _ rfl T.b_range ((¬2)∘ab) (by rfl)) (@aB _ _ _ 7 _ nd rfl (Or.inl rfl) (by trivial))
      (@ah _ _ _ _ _ _ _ _ (@aC _ _ _ _ _ 8 _ _ nd rfl (Or.inl rfl) (@a8 _ _ _ _ _ _ _ _ _ _ _ _ _ _ _ hLnext GLnext (hr.mono (by decide)) ((¬0)∘ab) (by rfl) (by decide) (by rfl) (by rfl)) (by rfl) (by trivial))
      (@ah _ _ _ _ _ _ _ _ (@aC _ _ _ _ _ 9 _ _ nd rfl (Or.inl rfl) (@bu _ _ _ _ _ _ _ rfl (@aY _ _ _ _ _ ((@aX _ _ _ _ _ _ _ (¬8) (¬1))∘(ae∘((@aX _ _ _ _ _ _ _ (¬7) (¬1))∘((@aX _ _ _ _ _ _ _ (¬8) (¬1))∘((@aX _ _ _ _ _ _ _ (¬8) ae)∘((@aX _ _ _ _ _ _ _ (¬8) (¬1))∘ab))))))) (¬3) (fun _ _=>rfl)) (by rfl) (by trivial))
      (@ah _ _ _ _ _ _ _ _ (@aC _ _ _ _ _ 10 _ _ nd rfl (Or.inl rfl) (@aX _ _ _ _ _ _ _ (@bz _ _ _ _ _ _ _ rfl (@bz _ _ _ _ _ _ _ rfl (¬9) ae) (@aX _ _ _ _ _ _ _ (@gy _ _ _ _ _ _ _ (¬8) ae) (@lj _ _ _ _ _ _ _ (¬1) ae))) (¬1)) (by rfl) (by trivial))
      (@ah _ _ _ _ _ _ _ _ (@cR _ _ _ _ _ _ _ _ _ _ _ (@be _ _ _ _ _ _ _ _ _ (@nD _ _ _ rfl hr) (¬3) ae (aU _))
      (@ao _ _ _ _ _ (@jC _ _ _ _ _ _ _ _ (@ap _ _ _ _ _ _ (ae∘(ae∘ab))) (@dY _ _ _ _ _ _ _ _ rfl rfl (@aI _ _ _ _ _ _ _ _ (@aB _ _ _ 9 _ nd rfl (Or.inl rfl) (by trivial)) (@aI _ _ _ _ _ _ _ _ (@aB _ _ _ 10 _ nd rfl (Or.inl rfl) (by trivial)) (@cC _ _) (by rfl)) (by rfl)) (aR (aR dN)) (by rfl) (by rfl)) (by rfl) (by rfl) (by rfl)))
      (@bw _ _))
      (@ah _ _ _ _ _ _ _ _ (@aC _ _ _ _ _ 11 _ _ nd rfl (Or.inl rfl) (@a8 _ _ _ _ _ _ _ _ _ _ _ _ _ _ _ hLnext GLnext (hr.mono (by decide)) ((¬0)∘ab) (by rfl) (by decide) (by rfl) (by rfl)) (by rfl) (by trivial))
      (@ah _ _ _ _ _ _ _ _ (@aC _ _ _ _ _ 12 _ _ nd rfl (Or.inl rfl) (@ap _ _ _ _ _ _ ((@aZ _ _ _ _ _ _ _ _ _ (@b_min _ _ rfl) (by rfl) T.b_min ((¬9)∘((¬10)∘ab)) (by decide) (by decide) (by rfl) (by rfl))∘((@aZ _ _ _ _ _ _ _ _ _ (@b_max _ _ rfl) (by rfl) T.b_max ((¬9)∘((¬10)∘ab)) (by decide) (by decide) (by rfl) (by rfl))∘ab))) (by rfl) (by trivial))
      (@ao _ _ _ _ _ (@eE _ _ _ _ _ (@eX _ _ _ _ _ _ _ _ _ rfl (¬6) ((@bz _ _ _ _ _ _ _ rfl (¬12) (@ap _ _ _ _ _ _ ((@a8 _ _ _ _ _ _ _ _ _ _ _ _ _ _ _ hLchance GLchance (hr.mono (by decide)) ((¬11)∘((¬4)∘ab)) (by rfl) (by decide) (by rfl) (by rfl))∘((@a8 _ _ _ _ _ _ _ _ _ _ _ _ _ _ _ hLworth GLworth (hr.mono (by decide)) ((@gy _ _ _ _ _ _ _ (¬11) ae)∘((¬5)∘ab)) (by rfl) (by decide) (by rfl) (by rfl))∘ab))))∘ab) (by rfl) (by rfl) (by rfl) (by rfl) (by rfl)) (by rfl))))))))) (by intro _;rfl))
      (@ao _ _ _ _ _ (@aH _ _ _ _ _ (@aZ _ _ _ _ _ _ _ _ _ (@b_tuple _ _ rfl) (by rfl) T.b_tuple ((¬6)∘ab) (by decide) (by decide) (by rfl) (by rfl))))))))))
noncomputable def qS:FI:=(dP (aa (ac 3) ai))
noncomputable def m5:FS:=(cX (cw bE (ac 7) (aa (au cD (bL (aa (vC (.int 20)) (aa (au bD (vC (.int 1)) (au a9 (ce 1 aW (aa (ac 0) ai)) (vC (.int 3)))) (aa (au a9 (ce 1 aW (aa (ac 0) ai)) (vC (.int 21))) ai)))) (ac 6)) ai)))
noncomputable def CC:FS:=(aD (a_ 3 (au a9 (ce 1 aW (aa (ac 0) ai)) (au bD (ac 1) (vC (.int 1)))))
    (aD (a_ 4 (au c_ (au a9 (ce 1 aW (aa (ac 0) ai)) (au bD (ac 2) (vC (.int 1)))) (aL (g1 sv) (aa (au Fw (ac 3) (vC (.int 1))) ai))))
    (aD (a_ 5 (ce 3 nU (aa (ac 0) (aa (aL (g2 oY) (aa (vC (.int 2)) (aa (ac 3) ai))) (aa (ac 4) ai)))))
    (aD (a_ 6 (au a9 (ce 1 aW (aa (ac 0) ai)) (vC (.int 3))))
    (aD (a_ 7 (bL ai))
    (aD (ef ([8]++[]) qS (aj 8) m5)
    (aD (a_ 9 (au cD (bL (aa (vC (.int 40)) (aa (au bD (vC (.int 1)) (au a9 (ce 1 aW (aa (ac 0) ai)) (aL (g2 oY) (aa (vC (.int 1)) (aa (ac 4) ai))))) (aa (au a9 (ce 1 aW (aa (ac 0) ai)) (vC (.int 41))) ai)))) (au a9 (ce 1 aW (aa (ac 0) ai)) (vC (.int 3)))))
    (bv (aO (aa (ac 3) (aa (ac 5) (aa (aL (g1 dc) (aa (ac 7) ai)) (aa (ac 9) ai)))))))))))))
noncomputable def sN:FM:=gW 3 7 ([3]++([4]++([5]++([6]++([7]++(([8]++[])++([9]++[]))))))) CC
theorem zV:aG ["_law_drawn","_law_most","_law_ties_here","_law_things","_law_many","_law_rows","_law_way","_law_patience","_law_k","_law_asks"] ["_law_drawn","_law_most","_law_ties_here"] (am tK):=⟨rfl,rfl,rfl,by decide+kernel,rfl,by decide+kernel,by decide+kernel⟩
theorem DT(h:bo K mg "_law_web" tK f fd ["_law_drawn","_law_most","_law_ties_here"])(T:ja mg){fLties:Addr}{eLties:FuncData}(hLties:bo K mg "_law_ties" oB fLties eLties ["_law_drawn","_law_things","_law_many"])(GLties:aM P w K mg base bN 4 fLties eLties ["_law_drawn","_law_things","_law_many"] (bP K 3 nU)){fLnext:Addr}{eLnext:FuncData}(hLnext:bo K mg "_law_next" gF fLnext eLnext ["_law_drawn"])(GLnext:aM P w K mg base bN 1 fLnext eLnext ["_law_drawn"] (bP K 1 aW)):aM P w K mg base bN 5 f fd ["_law_drawn","_law_most","_law_ties_here"] (bP K 3 sN):=by
  have nd:=zV.nd
  exact h.fn zV rfl rfl (fun cdv A outer s H E hr=>(@ah _ _ _ _ _ _ _ _ (@aC _ _ _ _ _ 3 _ _ nd rfl (Or.inl rfl) (@aX _ _ _ _ _ _ _ (@a8 _ _ _ _ _ _ _ _ _ _ _ _ _ _ _ hLnext GLnext (hr.mono (by decide)) ((¬0)∘ab) (by rfl) (by decide) (by rfl) (by rfl)) (@bz _ _ _ _ _ _ _ rfl (¬1) ae)) (by rfl) (by trivial))
      (@ah _ _ _ _ _ _ _ _ (@aC _ _ _ _ _ 4 _ _ nd rfl (Or.inl rfl) (@gB _ _ _ _ _ _ _ rfl (@aX _ _ _ _ _ _ _ (@a8 _ _ _ _ _ _ _ _ _ _ _ _ _ _ _ hLnext GLnext (hr.mono (by decide)) ((¬0)∘ab) (by rfl) (by decide) (by rfl) (by rfl)) (@bz _ _ _ _ _ _ _ rfl (¬2) ae)) (@aZ _ _ _ _ _ _ _ _ _ (@b_int _ _) (by rfl) T.b_int ((@mI _ _ _ _ _ _ _ _ _ (@Fn _ _) (¬3) ae (aU _))∘ab) (by decide) (by decide) (by rfl) (by rfl))) (by rfl) (by trivial))
      (@ah _ _ _ _ _ _ _ _ (@aC _ _ _ _ _ 5 _ _ nd rfl (Or.inl rfl) (@a8 _ _ _ _ _ _ _ _ _ _ _ _ _ _ _ hLties GLties (hr.mono (by decide)) ((¬0)∘((@aZ _ _ _ _ _ _ _ _ _ (@b_max _ _ rfl) (by rfl) T.b_max (ae∘((¬3)∘ab)) (by decide) (by decide) (by rfl) (by rfl))∘((¬4)∘ab))) (by rfl) (by decide) (by rfl) (by rfl)) (by rfl) (by trivial))
      (@ah _ _ _ _ _ _ _ _ (@aC _ _ _ _ _ 6 _ _ nd rfl (Or.inl rfl) (@aX _ _ _ _ _ _ _ (@a8 _ _ _ _ _ _ _ _ _ _ _ _ _ _ _ hLnext GLnext (hr.mono (by decide)) ((¬0)∘ab) (by rfl) (by decide) (by rfl) (by rfl)) ae) (by rfl) (by trivial))
      (@ah _ _ _ _ _ _ _ _ (@aC _ _ _ _ _ 7 _ _ nd rfl (Or.inl rfl) (@aY _ _ _ _ _ ab) (by rfl) (by trivial))
      (@ah _ _ _ _ _ _ _ _ (@io _ _ _ _ _ _ _ _ _ _ _ PassesOwn.never rfl (@eu _ _ _ _ _ _ _ rfl T.b_range ((¬3)∘ab) (by rfl)) (@aB _ _ _ 8 _ nd rfl (Or.inl rfl) (by trivial))
      (@ao _ _ _ _ _ (@eE _ _ _ _ _ (@eX _ _ _ _ _ _ _ _ _ rfl (¬7) ((@bu _ _ _ _ _ _ _ rfl (@aY _ _ _ _ _ (ae∘((@bz _ _ _ _ _ _ _ rfl ae (@aX _ _ _ _ _ _ _ (@a8 _ _ _ _ _ _ _ _ _ _ _ _ _ _ _ hLnext GLnext (hr.mono (by decide)) ((¬0)∘ab) (by rfl) (by decide) (by rfl) (by rfl)) ae))∘((@aX _ _ _ _ _ _ _ (@a8 _ _ _ _ _ _ _ _ _ _ _ _ _ _ _ hLnext GLnext (hr.mono (by decide)) ((¬0)∘ab) (by rfl) (by decide) (by rfl) (by rfl)) ae)∘ab)))) (¬6) (fun _ _=>rfl))∘ab) (by rfl) (by rfl) (by rfl) (by rfl) (by rfl)) (by rfl))) (by intro _;rfl))
      (@ah _ _ _ _ _ _ _ _ (@aC _ _ _ _ _ 9 _ _ nd rfl (Or.inl rfl) (@bu _ _ _ _ _ _ _ rfl (@aY _ _ _ _ _ (ae∘((@bz _ _ _ _ _ _ _ rfl ae (@aX _ _ _ _ _ _ _ (@a8 _ _ _ _ _ _ _ _ _ _ _ _ _ _ _ hLnext GLnext (hr.mono (by decide)) ((¬0)∘ab) (by rfl) (by decide) (by rfl) (by rfl)) (@aZ _ _ _ _ _ _ _ _ _ (@b_max _ _ rfl) (by rfl) T.b_max (ae∘((¬4)∘ab)) (by decide) (by decide) (by rfl) (by rfl))))∘((@aX _ _ _ _ _ _ _ (@a8 _ _ _ _ _ _ _ _ _ _ _ _ _ _ _ hLnext GLnext (hr.mono (by decide)) ((¬0)∘ab) (by rfl) (by decide) (by rfl) (by rfl)) ae)∘ab)))) (@aX _ _ _ _ _ _ _ (@a8 _ _ _ _ _ _ _ _ _ _ _ _ _ _ _ hLnext GLnext (hr.mono (by decide)) ((¬0)∘ab) (by rfl) (by decide) (by rfl) (by rfl)) ae) (fun _ _=>rfl)) (by rfl) (by trivial))
      (@ao _ _ _ _ _ (@aH _ _ _ _ _ (@ap _ _ _ _ _ _ ((¬3)∘((¬5)∘((@aZ _ _ _ _ _ _ _ _ _ (@b_tuple _ _ rfl) (by rfl) T.b_tuple ((¬7)∘ab) (by decide) (by decide) (by rfl) (by rfl))∘((¬9)∘ab)))))))))))))))
noncomputable def mF:FI:=(kl (ac 1))
noncomputable def eK:FT:=(aN (au (AR false) (ac 0) (o_ (au cD (au cD (ac 1) (vC (.int 1))) (ac 2)) eg (cW (vC (.int 2))))))
noncomputable def eM:FE:=(ac 2)
noncomputable def pf:FS:=(bv (aL (g1 fL) (aa (ee [(2,"_law_thing"),(0,"_law_web_here")] 1 mF (aj 2) eK eM) ai)))
noncomputable def fU:FM:=gW 3 0 [] pf
theorem oE:aG ["_law_web_here","_law_asked","_law_thing"] ["_law_web_here","_law_asked","_law_thing"] (am fZ):=⟨rfl,rfl,rfl,by decide+kernel,rfl,by decide+kernel,by decide+kernel⟩
theorem uJ(h:bo K mg "_law_asks_of" fZ f fd ["_law_web_here","_law_asked","_law_thing"])(T:ja mg):aM P w K mg base bN 1 f fd ["_law_web_here","_law_asked","_law_thing"] (bP K 3 fU):=by
  have nd:=oE.nd
  exact h.fn oE rfl rfl (fun cdv A outer s H E hr=>(@ao _ _ _ _ _ (@aH _ _ _ _ _ (@aZ _ _ _ _ _ _ _ _ _ (@b_len _ _ rfl) (by rfl) T.b_len ((@jB _ _ _ _ _ _ _ _ _ _ _ _ _ (am fZ) ["_law_web_here","_law_asked","_law_thing"] [(2,"_law_thing"),(0,"_law_web_here")] ["_law_tie"] rfl rfl rfl (@iZ _ _ _ _ _ rfl (¬1))
        (fun C s0 H0 fp=>(@aB _ _ _ 2 _ (show List.Nodup (["_law_thing","_law_web_here","_law_tie"]:List Str) by decide+kernel) rfl (Or.inl rfl) (by trivial))) (fun C s0 H0 fp=>(@m7 _ _ _ _ (@be _ _ _ _ _ _ _ _ _ (@Dj _ _ _ rfl hr) (¬0) (@eD _ _ _ _ _ _ _ _ _ _ rfl (@bu _ _ _ _ _ _ _ rfl (@bu _ _ _ _ _ _ _ rfl (¬1) ae (fun _ _=>rfl)) (¬2) (fun _ _=>rfl)) (@fN _ _) (@dZ _ _ _ _ ae)) (by with_unfolding_all rfl))))
        (fun C s0 H0 fp=>(¬2)) rfl (by decide+kernel) (by decide+kernel) (by decide+kernel) (by decide+kernel) (by decide+kernel) (by decide+kernel) (by decide+kernel) (by intro _;rfl))∘ab) (by decide) (by decide) (by rfl) (by rfl)))))
noncomputable def vK:FI:=(kl (o_ (au cD (au cD (ac 0) (vC (.int 1))) (ac 2)) eg (cW (vC (.int 2)))))
noncomputable def iQ:FS:=(i3 (uc (aN (au (AR false) (ac 5) (ac 4))) (aN (au AQ (ce 3 fU (aa (ac 0) (aa (ac 3) (aa (ac 5) ai)))) (au cD (au cD (ac 0) (vC (.int 2))) (ac 5)))))
    (bv (vC (.bool false)))
    cN)
noncomputable def ph:FS:=(aD (i0 (ac 1) (bj (aq (aj 3) (aq (aj 4) bh))))
    (aD (i3 (uc (aN (au (AR false) (ac 2) (ac 3))) (aN (au AQ (aL (g1 fL) (aa (ac 3) ai)) (au cD (ac 0) (vC (.int 3))))))
    (bv (vC (.bool false)))
    cN)
    (aD (ef ([5]++([]++[])) vK (aj 5) iQ)
    (bv (vC (.bool true))))))
noncomputable def k7:FM:=gW 3 3 (([3]++([4]++[]))++(([]++[])++(([5]++([]++[]))++[]))) ph
theorem zT:aG ["_law_web_here","_law_stand","_law_tie","_law_asked","_law_taken","_law_thing"] ["_law_web_here","_law_stand","_law_tie"] (am tI):=⟨rfl,rfl,rfl,by decide+kernel,rfl,by decide+kernel,by decide+kernel⟩
theorem DR(h:bo K mg "_law_may" tI f fd ["_law_web_here","_law_stand","_law_tie"])(T:ja mg){fLasks_of:Addr}{eLasks_of:FuncData}(hLasks_of:bo K mg "_law_asks_of" fZ fLasks_of eLasks_of ["_law_web_here","_law_asked","_law_thing"])(GLasks_of:aM P w K mg base bN 1 fLasks_of eLasks_of ["_law_web_here","_law_asked","_law_thing"] (bP K 3 fU)):aM P w K mg base bN 2 f fd ["_law_web_here","_law_stand","_law_tie"] (bP K 3 k7):=by
  have nd:=zT.nd
  exact h.fn zT rfl rfl (fun cdv A outer s H E hr=>(@ah _ _ _ _ _ _ _ _ (@jC _ _ _ _ _ _ _ _ (¬1) (@dY _ _ _ _ _ _ _ _ rfl rfl (@aI _ _ _ _ _ _ _ _ (@aB _ _ _ 3 _ nd rfl (Or.inl rfl) (by trivial)) (@aI _ _ _ _ _ _ _ _ (@aB _ _ _ 4 _ nd rfl (Or.inl rfl) (by trivial)) (@cC _ _) (by rfl)) (by rfl)) (aR (aR dN)) (by rfl) (by rfl)) (by rfl) (by rfl) (by rfl))
      (@ah _ _ _ _ _ _ _ _ (@cR _ _ _ _ _ _ _ _ _ _ _ (@uS _ _ _ _ (@tj _ _ _ _ _ _ _ _ (@be _ _ _ _ _ _ _ _ _ (@Dj _ _ _ rfl hr) (¬2) (¬3) (by with_unfolding_all rfl)) (@rK _ _ _ _ _ (@be _ _ _ _ _ _ _ _ _ (@ya _ _) (@aZ _ _ _ _ _ _ _ _ _ (@b_len _ _ rfl) (by rfl) T.b_len ((¬3)∘ab) (by decide) (by decide) (by rfl) (by rfl)) (@bu _ _ _ _ _ _ _ rfl (¬0) ae (fun _ _=>rfl)) (aU _)))))
      (@ao _ _ _ _ _ (@aH _ _ _ _ _ (@cQ _ _ _ _ _)))
      (@bw _ _))
      (@ah _ _ _ _ _ _ _ _ (@io _ _ _ _ _ _ _ _ _ _ _ PassesOwn.never rfl (@iZ _ _ _ _ _ rfl (@eD _ _ _ _ _ _ _ _ _ _ rfl (@bu _ _ _ _ _ _ _ rfl (@bu _ _ _ _ _ _ _ rfl (¬0) ae (fun _ _=>rfl)) (¬2) (fun _ _=>rfl)) (@fN _ _) (@dZ _ _ _ _ ae))) (@aB _ _ _ 5 _ nd rfl (Or.inl rfl) (by trivial))
      (@ao _ _ _ _ _ (@cR _ _ _ _ _ _ _ _ _ _ _ (@uS _ _ _ _ (@tj _ _ _ _ _ _ _ _ (@be _ _ _ _ _ _ _ _ _ (@Dj _ _ _ rfl hr) (¬5) (¬4) (by with_unfolding_all rfl)) (@rK _ _ _ _ _ (@be _ _ _ _ _ _ _ _ _ (@ya _ _) (@a8 _ _ _ _ _ _ _ _ _ _ _ _ _ _ _ hLasks_of GLasks_of (hr.mono (by decide)) ((¬0)∘((¬3)∘((¬5)∘ab))) (by rfl) (by decide) (by rfl) (by rfl)) (@bu _ _ _ _ _ _ _ rfl (@bu _ _ _ _ _ _ _ rfl (¬0) ae (fun _ _=>rfl)) (¬5) (fun _ _=>rfl)) (aU _)))))
      (@ao _ _ _ _ _ (@aH _ _ _ _ _ (@cQ _ _ _ _ _)))
      (@bw _ _))) (by intro _;rfl))
      (@ao _ _ _ _ _ (@aH _ _ _ _ _ (@cQ _ _ _ _ _)))))))
noncomputable def nu:FS:=(aD (i0 (ac 1) (bj (aq (aj 4) (aq (aj 5) bh))))
    (aD (a_ 6 (ac 5))
    (aD (i3 (aN (ac 3))
    (a_ 6 (aL (g1 dc) (aa (aL (g1 iT) (aa (au bD (ac 5) (o_ (au cD (au cD (ac 0) (vC (.int 1))) (ac 2)) eg (cW (vC (.int 2))))) ai)) ai)))
    cN)
    (bv (aO (aa (aL (g1 dc) (aa (aL (g1 iT) (aa (au bD (ac 4) (aO (aa (ac 2) ai))) ai)) ai)) (aa (ac 6) ai)))))))
noncomputable def eV:FM:=gW 4 3 (([4]++([5]++[]))++([6]++(([6]++[])++[]))) nu
theorem p4:aG ["_law_web_here","_law_stand","_law_tie","_law_truth","_law_asked","_law_taken","_law_more"] ["_law_web_here","_law_stand","_law_tie","_law_truth"] (am jG):=⟨rfl,rfl,rfl,by decide+kernel,rfl,by decide+kernel,by decide+kernel⟩
theorem w_(h:bo K mg "_law_behind" jG f fd ["_law_web_here","_law_stand","_law_tie","_law_truth"])(T:ja mg):aM P w K mg base bN 1 f fd ["_law_web_here","_law_stand","_law_tie","_law_truth"] (bP K 4 eV):=by
  have nd:=p4.nd
  exact h.fn p4 rfl rfl (fun cdv A outer s H E hr=>(@ah _ _ _ _ _ _ _ _ (@jC _ _ _ _ _ _ _ _ (¬1) (@dY _ _ _ _ _ _ _ _ rfl rfl (@aI _ _ _ _ _ _ _ _ (@aB _ _ _ 4 _ nd rfl (Or.inl rfl) (by trivial)) (@aI _ _ _ _ _ _ _ _ (@aB _ _ _ 5 _ nd rfl (Or.inl rfl) (by trivial)) (@cC _ _) (by rfl)) (by rfl)) (aR (aR dN)) (by rfl) (by rfl)) (by rfl) (by rfl) (by rfl))
      (@ah _ _ _ _ _ _ _ _ (@aC _ _ _ _ _ 6 _ _ nd rfl (Or.inl rfl) (¬5) (by rfl) (by trivial))
      (@ah _ _ _ _ _ _ _ _ (@cR _ _ _ _ _ _ _ _ _ _ _ (@jE _ _ _ _ (¬3) (by intro _;rfl))
      (@ao _ _ _ _ _ (@aC _ _ _ _ _ 6 _ _ nd rfl (Or.inl rfl) (@aZ _ _ _ _ _ _ _ _ _ (@b_tuple _ _ rfl) (by rfl) T.b_tuple ((@aZ _ _ _ _ _ _ _ _ _ (@b_sorted _ _ rfl) (by rfl) T.b_sorted ((@bz _ _ _ _ _ _ _ rfl (¬5) (@eD _ _ _ _ _ _ _ _ _ _ rfl (@bu _ _ _ _ _ _ _ rfl (@bu _ _ _ _ _ _ _ rfl (¬0) ae (fun _ _=>rfl)) (¬2) (fun _ _=>rfl)) (@fN _ _) (@dZ _ _ _ _ ae)))∘ab) (by decide) (by decide) (by rfl) (by rfl))∘ab) (by decide) (by decide) (by rfl) (by rfl)) (by rfl) (by trivial)))
      (@bw _ _))
      (@ao _ _ _ _ _ (@aH _ _ _ _ _ (@ap _ _ _ _ _ _ ((@aZ _ _ _ _ _ _ _ _ _ (@b_tuple _ _ rfl) (by rfl) T.b_tuple ((@aZ _ _ _ _ _ _ _ _ _ (@b_sorted _ _ rfl) (by rfl) T.b_sorted ((@bz _ _ _ _ _ _ _ rfl (¬4) (@ap _ _ _ _ _ _ ((¬2)∘ab)))∘ab) (by decide) (by decide) (by rfl) (by rfl))∘ab) (by decide) (by decide) (by rfl) (by rfl))∘((¬6)∘ab)))))))))
noncomputable def js:FI:=(dP (aa (aL (g1 fL) (aa (au cD (ac 0) (vC (.int 1))) ai)) ai))
noncomputable def eJ:FT:=(aN (ce 3 k7 (aa (ac 0) (aa (ac 1) (aa (ac 2) ai)))))
noncomputable def eL:FE:=(ac 2)
noncomputable def pe:FS:=(bv (ee [(0,"_law_web_here"),(1,"_law_stand")] 1 js (aj 2) eJ eL))
noncomputable def iI:FM:=gW 2 0 [] pe
theorem oD:aG ["_law_web_here","_law_stand"] ["_law_web_here","_law_stand"] (am fY):=⟨rfl,rfl,rfl,by decide+kernel,rfl,by decide+kernel,by decide+kernel⟩
theorem uI(h:bo K mg "_law_askable" fY f fd ["_law_web_here","_law_stand"])(T:ja mg){fLmay:Addr}{eLmay:FuncData}(hLmay:bo K mg "_law_may" tI fLmay eLmay ["_law_web_here","_law_stand","_law_tie"])(GLmay:aM P w K mg base bN 2 fLmay eLmay ["_law_web_here","_law_stand","_law_tie"] (bP K 3 k7)):aM P w K mg base bN 3 f fd ["_law_web_here","_law_stand"] (bP K 2 iI):=by
  have nd:=oD.nd
  exact h.fn oD rfl rfl (fun cdv A outer s H E hr=>(@ao _ _ _ _ _ (@aH _ _ _ _ _ (@jB _ _ _ _ _ _ _ _ _ _ _ _ _ (am fY) ["_law_web_here","_law_stand"] [(0,"_law_web_here"),(1,"_law_stand")] ["_law_tie"] rfl rfl rfl (@eu _ _ _ _ _ _ _ rfl T.b_range ((@aZ _ _ _ _ _ _ _ _ _ (@b_len _ _ rfl) (by rfl) T.b_len ((@bu _ _ _ _ _ _ _ rfl (¬0) ae (fun _ _=>rfl))∘ab) (by decide) (by decide) (by rfl) (by rfl))∘ab) (by rfl))
        (fun C s0 H0 fp=>(@aB _ _ _ 2 _ (show List.Nodup (["_law_web_here","_law_stand","_law_tie"]:List Str) by decide+kernel) rfl (Or.inl rfl) (by trivial))) (fun C s0 H0 fp=>(@m7 _ _ _ _ (@jE _ _ _ _ (@a8 _ _ _ _ _ _ _ _ _ _ _ _ _ _ _ hLmay GLmay (hr.mono (by decide)) ((¬0)∘((¬1)∘((¬2)∘ab))) (by rfl) (by decide) (by rfl) (by rfl)) (by intro _;rfl))))
        (fun C s0 H0 fp=>(¬2)) rfl (by decide+kernel) (by decide+kernel) (by decide+kernel) (by decide+kernel) (by decide+kernel) (by decide+kernel) (by decide+kernel) (by intro _;rfl)))))
noncomputable def pR:FI:=(yx 3)
noncomputable def jS:FE:=(aL (g1 dc) (aa (ac 0) ai))
noncomputable def iC:FT:=(aN (au (bO true) (ac 4) (bL ai)))
noncomputable def iz:FS:=(aD (i0 (cw dS (ac 4) (aa (vC (.int 0)) ai)) (bj (aq (aj 5) (aq (aj 6) (aq (aj 7) bh)))))
    (aD (a_ 8 (ce 2 iI (aa (ac 1) (aa (ac 5) ai))))
    (aD (a_ 9 (ce 1 aW (aa (ac 0) ai)))
    (i3 (jM (aN (au (bO true) (ac 8) (bL ai))) (jM (aN (au xN (fC 3) (ac 2))) (uc (aN (au (bO true) (au a9 (ac 9) (vC (.int 7))) (vC (.int 6)))) (aN (au xN (ac 6) (vC (.int 0)))))))
    (aD (a_ 10 (au cD (ac 8) (au a9 (au dm (ac 9) (vC (.int 7))) (aL (g1 fL) (aa (ac 8) ai)))))
    (aD (i3 (aN (au AQ (ac 6) (vC (.int 0))))
    (p0 3 (fC 3) (ac 6) (wX (nC 1) (wY 7)))
    cN)
    (aD (cX (cw bE (ac 4) (aa (aO (aa (ce 4 eV (aa (ac 1) (aa (ac 5) (aa (ac 10) (aa (vC (.bool true)) ai))))) (aa (fC 3) (aa (vC (.int 0)) ai)))) ai)))
    (aD (cX (cw bE (ac 4) (aa (aO (aa (ce 4 eV (aa (ac 1) (aa (ac 5) (aa (ac 10) (aa (vC (.bool false)) ai))))) (aa (fC 3) (aa (vC (.int 1)) ai)))) ai)))
    (cX (ua 3 (bL (aa (ac 10) (aa (lH kQ (vC (.int 1))) (aa (lH kQ (vC (.int 1))) ai))))))))))
    cN))))
noncomputable def vw:FS:=(aD (zQ 3)
    (aD (a_ 4 (bL (aa (aO (aa (aO (aa (aO ai) (aa (aO ai) ai))) (aa (lH kQ (vC (.int 1))) (aa (vC (.int 0)) ai)))) ai)))
    (aD (gG (2 ^ 4200) iC iz)
    (bv (aL (g1 dc) (aa (ee [] 1 pR (aj 0) cS jS) ai))))))
noncomputable def kZ:FM:=gW 3 8 ([3]++([4]++((([5]++([6]++([7]++[])))++([8]++([9]++(([10]++(([]++[])++([]++([]++[]))))++[]))))++[]))) vw
theorem tM:aG ["_law_drawn","_law_web_here","_law_most","_law_nodes","_law_waiting","_law_stand","_law_parent","_law_side","_law_some","_law_number","_law_tie"] ["_law_drawn","_law_web_here","_law_most"] (am jZ):=⟨rfl,rfl,rfl,by decide+kernel,rfl,by decide+kernel,by decide+kernel⟩
theorem yR(h:bo K mg "_law_grown" jZ f fd ["_law_drawn","_law_web_here","_law_most"])(T:ja mg){fLaskable:Addr}{eLaskable:FuncData}(hLaskable:bo K mg "_law_askable" fY fLaskable eLaskable ["_law_web_here","_law_stand"])(GLaskable:aM P w K mg base bN 3 fLaskable eLaskable ["_law_web_here","_law_stand"] (bP K 2 iI)){fLnext:Addr}{eLnext:FuncData}(hLnext:bo K mg "_law_next" gF fLnext eLnext ["_law_drawn"])(GLnext:aM P w K mg base bN 1 fLnext eLnext ["_law_drawn"] (bP K 1 aW)){fLbehind:Addr}{eLbehind:FuncData}(hLbehind:bo K mg "_law_behind" jG fLbehind eLbehind ["_law_web_here","_law_stand","_law_tie","_law_truth"])(GLbehind:aM P w K mg base bN 1 fLbehind eLbehind ["_law_web_here","_law_stand","_law_tie","_law_truth"] (bP K 4 eV)):aM P w K mg base bN 4 f fd ["_law_drawn","_law_web_here","_law_most"] (bP K 3 kZ):=by
  have nd:=tM.nd
  exact h.fn tM rfl rfl (fun cdv A outer s H E hr=>(@ah _ _ _ _ _ _ _ _ (@BW _ _ _ _ _ _ 3 nd rfl (Or.inl rfl) (by rfl) (by trivial))
      (@ah _ _ _ _ _ _ _ _ (@aC _ _ _ _ _ 4 _ _ nd rfl (Or.inl rfl) (@aY _ _ _ _ _ ((@ap _ _ _ _ _ _ ((@ap _ _ _ _ _ _ ((@ap _ _ _ _ _ _ ab)∘((@ap _ _ _ _ _ _ ab)∘ab)))∘((@li _ _ _ _ _ ae)∘(ae∘ab))))∘ab)) (by rfl) (by trivial))
      (@ah _ _ _ _ _ _ _ _ (@jD _ _ _ _ _ _ _ _ _ PassesOwn.never (@be _ _ _ _ _ _ _ _ _ (@oS _ _ _ rfl hr) (¬4) (@aY _ _ _ _ _ ab) (aU _))
      (@ah _ _ _ _ _ _ _ _ (@jC _ _ _ _ _ _ _ _ (@rC _ _ _ _ _ _ _ _ _ rfl (¬4) (ae∘ab) (by rfl) (by rfl) (by rfl) (by rfl) (by rfl)) (@dY _ _ _ _ _ _ _ _ rfl rfl (@aI _ _ _ _ _ _ _ _ (@aB _ _ _ 5 _ nd rfl (Or.inl rfl) (by trivial)) (@aI _ _ _ _ _ _ _ _ (@aB _ _ _ 6 _ nd rfl (Or.inl rfl) (by trivial)) (@aI _ _ _ _ _ _ _ _ (@aB _ _ _ 7 _ nd rfl (Or.inl rfl) (by trivial)) (@cC _ _) (by rfl)) (by rfl)) (by rfl)) (aR (aR (aR dN))) (by rfl) (by rfl)) (by rfl) (by rfl) (by rfl))
      (@ah _ _ _ _ _ _ _ _ (@aC _ _ _ _ _ 8 _ _ nd rfl (Or.inl rfl) (@a8 _ _ _ _ _ _ _ _ _ _ _ _ _ _ _ hLaskable GLaskable (hr.mono (by decide)) ((¬1)∘((¬5)∘ab)) (by rfl) (by decide) (by rfl) (by rfl)) (by rfl) (by trivial))
      (@ah _ _ _ _ _ _ _ _ (@aC _ _ _ _ _ 9 _ _ nd rfl (Or.inl rfl) (@a8 _ _ _ _ _ _ _ _ _ _ _ _ _ _ _ hLnext GLnext (hr.mono (by decide)) ((¬0)∘ab) (by rfl) (by decide) (by rfl) (by rfl)) (by rfl) (by trivial))
      (@ao _ _ _ _ _ (@cR _ _ _ _ _ _ _ _ _ _ _ (@uS _ _ _ _ (@rH _ _ _ _ _ _ _ _ (@be _ _ _ _ _ _ _ _ _ (@oS _ _ _ rfl hr) (¬8) (@aY _ _ _ _ _ ab) (aU _)) (@rH _ _ _ _ _ _ _ _ (@be _ _ _ _ _ _ _ _ _ (@wA _ _) (@rB _ _ _ _ _ _ 3 rfl (by rfl) (by first | exact Or.inl rfl | exact Or.inr (Or.inl rfl) | exact Or.inr (Or.inr rfl)) (by decide) (by decide) (by rfl) T.b_len (by rfl) (by rfl) (by rfl)) (¬2) (aU _)) (@rJ _ _ _ _ _ (@uS _ _ _ _ (@tj _ _ _ _ _ _ _ _ (@be _ _ _ _ _ _ _ _ _ (@oS _ _ _ rfl hr) (@aX _ _ _ _ _ _ _ (¬9) ae) ae (aU _)) (@rK _ _ _ _ _ (@be _ _ _ _ _ _ _ _ _ (@wA _ _) (¬6) ae (aU _)))))))))
      (@ah _ _ _ _ _ _ _ _ (@aC _ _ _ _ _ 10 _ _ nd rfl (Or.inl rfl) (@bu _ _ _ _ _ _ _ rfl (¬8) (@aX _ _ _ _ _ _ _ (@gy _ _ _ _ _ _ _ (¬9) ae) (@aZ _ _ _ _ _ _ _ _ _ (@b_len _ _ rfl) (by rfl) T.b_len ((¬8)∘ab) (by decide) (by decide) (by rfl) (by rfl))) (fun _ _=>rfl)) (by rfl) (by trivial))
      (@ah _ _ _ _ _ _ _ _ (@cR _ _ _ _ _ _ _ _ _ _ _ (@be _ _ _ _ _ _ _ _ _ (@ya _ _) (¬6) ae (aU _))
      (@ao _ _ _ _ _ (@BX _ _ _ _ _ _ 3 _ _ _ _ _ _ _ rfl (@rB _ _ _ _ _ _ 3 rfl (by rfl) (by first | exact Or.inl rfl | exact Or.inr (Or.inl rfl) | exact Or.inr (Or.inr rfl)) (by decide) (by decide) (by rfl) T.b_len (by rfl) (by rfl) (by rfl)) (by rfl) (by first | exact Or.inl rfl | exact Or.inr (Or.inl rfl) | exact Or.inr (Or.inr rfl)) (by decide) (by decide) (¬6) (fun _ _=>rfl) (@Eu _ _ _ _ _ _ _ (@Ew _ _ _ _ _) (@Ex _ _ _ _ 7 (by rfl) (by first | exact Or.inl rfl | exact Or.inr (Or.inl rfl) | exact Or.inr (Or.inr rfl)) (by decide) (by decide))) (by intro _;rfl) (by rfl) (by rfl) (by rfl)))
      (@bw _ _))
      (@ah _ _ _ _ _ _ _ _ (@eE _ _ _ _ _ (@eX _ _ _ _ _ _ _ _ _ rfl (¬4) ((@ap _ _ _ _ _ _ ((@a8 _ _ _ _ _ _ _ _ _ _ _ _ _ _ _ hLbehind GLbehind (hr.mono (by decide)) ((¬1)∘((¬5)∘((¬10)∘((@cQ _ _ _ _ _)∘ab)))) (by rfl) (by decide) (by rfl) (by rfl))∘((@rB _ _ _ _ _ _ 3 rfl (by rfl) (by first | exact Or.inl rfl | exact Or.inr (Or.inl rfl) | exact Or.inr (Or.inr rfl)) (by decide) (by decide) (by rfl) T.b_len (by rfl) (by rfl) (by rfl))∘(ae∘ab))))∘ab) (by rfl) (by rfl) (by rfl) (by rfl) (by rfl)) (by rfl))
      (@ah _ _ _ _ _ _ _ _ (@eE _ _ _ _ _ (@eX _ _ _ _ _ _ _ _ _ rfl (¬4) ((@ap _ _ _ _ _ _ ((@a8 _ _ _ _ _ _ _ _ _ _ _ _ _ _ _ hLbehind GLbehind (hr.mono (by decide)) ((¬1)∘((¬5)∘((¬10)∘((@cQ _ _ _ _ _)∘ab)))) (by rfl) (by decide) (by rfl) (by rfl))∘((@rB _ _ _ _ _ _ 3 rfl (by rfl) (by first | exact Or.inl rfl | exact Or.inr (Or.inl rfl) | exact Or.inr (Or.inr rfl)) (by decide) (by decide) (by rfl) T.b_len (by rfl) (by rfl) (by rfl))∘(ae∘ab))))∘ab) (by rfl) (by rfl) (by rfl) (by rfl) (by rfl)) (by rfl))
      (@ao _ _ _ _ _ (@eE _ _ _ _ _ (@Ep _ _ _ _ _ _ 3 _ _ rfl (by rfl) (by first | exact Or.inl rfl | exact Or.inr (Or.inl rfl) | exact Or.inr (Or.inr rfl)) (by decide) (by decide) (@aY _ _ _ _ _ ((¬10)∘((@li _ _ _ _ _ ae)∘((@li _ _ _ _ _ ae)∘ab)))) (by rfl) (by rfl) (by rfl) (by rfl) (by rfl) (by rfl)) (by rfl)))))))
      (@bw _ _)))))))
      (@ao _ _ _ _ _ (@aH _ _ _ _ _ (@aZ _ _ _ _ _ _ _ _ _ (@b_tuple _ _ rfl) (by rfl) T.b_tuple ((@jB _ _ _ _ _ _ _ _ _ _ _ _ _ (am jZ) ["_law_drawn","_law_web_here","_law_most","_law_nodes","_law_waiting","_law_stand","_law_parent","_law_side","_law_some","_law_number","_law_tie"] [] ["_law_node"] rfl rfl rfl (@BV _ _ _ _ 3 _ rfl (by rfl) (by first | exact Or.inl rfl | exact Or.inr (Or.inl rfl) | exact Or.inr (Or.inr rfl)) (by decide) (by decide))
        (fun C s0 H0 fp=>(@aB _ _ _ 0 _ (show List.Nodup (["_law_node"]:List Str) by decide+kernel) rfl (Or.inl rfl) (by trivial))) (fun C s0 H0 fp=>(@jY _ _))
        (fun C s0 H0 fp=>(@aZ _ _ _ _ _ _ _ _ _ (@b_tuple _ _ rfl) (by rfl) T.b_tuple ((¬0)∘ab) (by decide) (by decide) (by rfl) (by rfl))) rfl (by decide+kernel) (by decide+kernel) (by decide+kernel) (by decide+kernel) (by decide+kernel) (by decide+kernel) (by decide+kernel) (by intro _;rfl))∘ab) (by decide) (by decide) (by rfl) (by rfl))))))))
noncomputable def CB:FS:=(aD (a_ 1 (bL (aa (vC .none) (aa (vC (.bool true)) (aa (vC (.bool false)) (aa (vC (.int 0)) (aa (vC (.int 1)) (aa (lH kQ (vC (.int 1))) (aa (vC (.int 5)) (aa (vC (.str ("":Str))) (aa (vC (.str ("a":Str))) (aa (vC (.str ("0":Str))) (aa (aO ai) (aa (aO (aa (vC (.int 0)) ai)) (aa (aO (aa (vC (.int 0)) (aa (vC (.int 1)) ai))) (aa (aO (aa (aO ai) (aa (aO ai) ai))) (aa (bL ai) (aa (bL (aa (vC (.int 0)) ai)) (aa (t_ []) (aa (t_ [(0,1)]) ai))))))))))))))))))))
    (aD (a_ 1 (au bD (ac 1) (bL (aa (aO (aa (vC .none) ai)) (aa (aO (aa (aO ai) ai)) (aa (bL (aa (aO ai) ai)) (aa (aO (aa (vC (.bool true)) (aa (vC (.bool false)) ai))) (aa (aO (aa (aO (aa (vC (.int 0)) (aa (vC (.int 1)) ai))) (aa (aO (aa (vC (.int 1)) (aa (vC (.int 2)) ai))) ai))) (aa (aO (aa (aO (aa (aO ai) (aa (aO ai) ai))) ai)) (aa (aO (aa (vC (.str ("a":Str))) (aa (vC (.int 1)) ai))) (aa (aO (aa (aO (aa (vC (.int 0)) (aa (vC (.int 1)) ai))) ai)) (aa (au qP (vC (.int 10)) (vC (.int 30))) ai))))))))))))
    (bv (au cD (ac 1) (au a9 (ac 0) (aL (g1 fL) (aa (ac 1) ai)))))))
noncomputable def pV:FM:=gW 1 1 ([1]++([1]++[])) CB
theorem zU:aG ["_law_number","_law_odd_here"] ["_law_number"] (am tJ):=⟨rfl,rfl,rfl,by decide+kernel,rfl,by decide+kernel,by decide+kernel⟩
theorem DS(h:bo K mg "_law_odd" tJ f fd ["_law_number"])(T:ja mg):aM P w K mg base bN 1 f fd ["_law_number"] (bP K 1 pV):=by
  have nd:=zU.nd
  exact h.fn zU rfl rfl (fun cdv A outer s H E hr=>(@ah _ _ _ _ _ _ _ _ (@aC _ _ _ _ _ 1 _ _ nd rfl (Or.inl rfl) (@aY _ _ _ _ _ ((@uR _ _ _ _)∘((@cQ _ _ _ _ _)∘((@cQ _ _ _ _ _)∘(ae∘(ae∘((@li _ _ _ _ _ ae)∘(ae∘((@rG _ _ _ _ _)∘((@rG _ _ _ _ _)∘((@rG _ _ _ _ _)∘((@ap _ _ _ _ _ _ ab)∘((@ap _ _ _ _ _ _ (ae∘ab))∘((@ap _ _ _ _ _ _ (ae∘(ae∘ab)))∘((@ap _ _ _ _ _ _ ((@ap _ _ _ _ _ _ ab)∘((@ap _ _ _ _ _ _ ab)∘ab)))∘((@aY _ _ _ _ _ ab)∘((@aY _ _ _ _ _ (ae∘ab))∘((@zz _ _ _)∘((@zA _ _ _ _ _ _ _ _ _)∘ab))))))))))))))))))) (by rfl) (by trivial))
      (@ah _ _ _ _ _ _ _ _ (@aC _ _ _ _ _ 1 _ _ nd rfl (Or.inl rfl) (@bz _ _ _ _ _ _ _ rfl (¬1) (@aY _ _ _ _ _ ((@ap _ _ _ _ _ _ ((@uR _ _ _ _)∘ab))∘((@ap _ _ _ _ _ _ ((@ap _ _ _ _ _ _ ab)∘ab))∘((@aY _ _ _ _ _ ((@ap _ _ _ _ _ _ ab)∘ab))∘((@ap _ _ _ _ _ _ ((@cQ _ _ _ _ _)∘((@cQ _ _ _ _ _)∘ab)))∘((@ap _ _ _ _ _ _ ((@ap _ _ _ _ _ _ (ae∘(ae∘ab)))∘((@ap _ _ _ _ _ _ (ae∘(ae∘ab)))∘ab)))∘((@ap _ _ _ _ _ _ ((@ap _ _ _ _ _ _ ((@ap _ _ _ _ _ _ ab)∘((@ap _ _ _ _ _ _ ab)∘ab)))∘ab))∘((@ap _ _ _ _ _ _ ((@rG _ _ _ _ _)∘(ae∘ab)))∘((@ap _ _ _ _ _ _ ((@ap _ _ _ _ _ _ (ae∘(ae∘ab)))∘ab))∘((@zx _ _ _ _ _ _ _ ae ae)∘ab))))))))))) (by rfl) (by trivial))
      (@ao _ _ _ _ _ (@aH _ _ _ _ _ (@bu _ _ _ _ _ _ _ rfl (¬1) (@aX _ _ _ _ _ _ _ (¬0) (@aZ _ _ _ _ _ _ _ _ _ (@b_len _ _ rfl) (by rfl) T.b_len ((¬1)∘ab) (by decide) (by decide) (by rfl) (by rfl))) (fun _ _=>rfl)))))))
noncomputable def jt:FI:=(kl (bL (aa (aO (aa (ac 6) (aa (ac 8) ai))) (aa (aO (aa (ac 7) (aa (ce 1 nQ (aa (ac 8) ai)) ai))) ai))))
noncomputable def eI:FS:=(i3 (aN (au (bO true) (ac 9) (lH kQ (vC (.int 1)))))
    (xo (ce 2 iY (aa (au cD (ac 2) (ac 3)) (aa (ac 10) ai))) (ac 2) (ac 9))
    cN)
noncomputable def mG:FI:=(vJ (aa (ac 1) ai))
noncomputable def gY:FS:=(aD (i0 (ac 4) (bj (aq (aj 5) (aq (aj 6) (aq (aj 7) bh)))))
    (aD (a_ 8 (au cD (au cD (au cD (ac 0) (vC (.int 1))) (ac 5)) (vC (.int 2))))
    (ef (([9]++([10]++[]))++([]++[])) jt (bj (aq (aj 9) (aq (aj 10) bh))) eI)))
noncomputable def pj:FS:=(aD (a_ 2 (au c_ (bL (aa (aO (aa (vC (.int 1)) (aa (vC (.int 1)) ai))) ai)) (aL (g1 fL) (aa (ac 1) ai))))
    (aD (ef (([3]++([4]++[]))++(([5]++([6]++([7]++[])))++([8]++(([9]++([10]++[]))++([]++[]))))) mG (bj (aq (aj 3) (aq (aj 4) bh))) gY)
    (bv (aL (g1 dc) (aa (ac 2) ai)))))
noncomputable def fV:FM:=gW 2 9 ([2]++((([3]++([4]++[]))++(([5]++([6]++([7]++[])))++([8]++(([9]++([10]++[]))++([]++[])))))++[])) pj
theorem oF:aG ["_law_web_here","_law_tree_here","_law_found","_law_at","_law_node","_law_tie","_law_yes","_law_no","_law_chance_here","_law_link","_law_share"] ["_law_web_here","_law_tree_here"] (am iL):=⟨rfl,rfl,rfl,by decide+kernel,rfl,by decide+kernel,by decide+kernel⟩
theorem uK(h:bo K mg "_law_reaches" iL f fd ["_law_web_here","_law_tree_here"])(T:ja mg){fLrest:Addr}{eLrest:FuncData}(hLrest:bo K mg "_law_rest" ox fLrest eLrest ["_law_one"])(GLrest:aM P w K mg base bN 1 fLrest eLrest ["_law_one"] (bP K 1 nQ)){fLtimes:Addr}{eLtimes:FuncData}(hLtimes:bo K mg "_law_times" ls fLtimes eLtimes ["_law_one","_law_other"])(GLtimes:aM P w K mg base bN 3 fLtimes eLtimes ["_law_one","_law_other"] (bP K 2 iY)):aM P w K mg base bN 4 f fd ["_law_web_here","_law_tree_here"] (bP K 2 fV):=by
  have nd:=oF.nd
  exact h.fn oF rfl rfl (fun cdv A outer s H E hr=>(@ah _ _ _ _ _ _ _ _ (@aC _ _ _ _ _ 2 _ _ nd rfl (Or.inl rfl) (@gB _ _ _ _ _ _ _ rfl (@aY _ _ _ _ _ ((@ap _ _ _ _ _ _ (ae∘(ae∘ab)))∘ab)) (@aZ _ _ _ _ _ _ _ _ _ (@b_len _ _ rfl) (by rfl) T.b_len ((¬1)∘ab) (by decide) (by decide) (by rfl) (by rfl))) (by rfl) (by trivial))
      (@ah _ _ _ _ _ _ _ _ (@io _ _ _ _ _ _ _ _ _ _ _ PassesOwn.never rfl (@vY _ _ _ _ _ _ _ _ _ rfl rfl T.b_enumerate ((¬1)∘ab) (by rfl)) (@dY _ _ _ _ _ _ _ _ rfl rfl (@aI _ _ _ _ _ _ _ _ (@aB _ _ _ 3 _ nd rfl (Or.inl rfl) (by trivial)) (@aI _ _ _ _ _ _ _ _ (@aB _ _ _ 4 _ nd rfl (Or.inl rfl) (by trivial)) (@cC _ _) (by rfl)) (by rfl)) (aR (aR dN)) (by rfl) (by rfl))
      (@ah _ _ _ _ _ _ _ _ (@jC _ _ _ _ _ _ _ _ (¬4) (@dY _ _ _ _ _ _ _ _ rfl rfl (@aI _ _ _ _ _ _ _ _ (@aB _ _ _ 5 _ nd rfl (Or.inl rfl) (by trivial)) (@aI _ _ _ _ _ _ _ _ (@aB _ _ _ 6 _ nd rfl (Or.inl rfl) (by trivial)) (@aI _ _ _ _ _ _ _ _ (@aB _ _ _ 7 _ nd rfl (Or.inl rfl) (by trivial)) (@cC _ _) (by rfl)) (by rfl)) (by rfl)) (aR (aR (aR dN))) (by rfl) (by rfl)) (by rfl) (by rfl) (by rfl))
      (@ah _ _ _ _ _ _ _ _ (@aC _ _ _ _ _ 8 _ _ nd rfl (Or.inl rfl) (@bu _ _ _ _ _ _ _ rfl (@bu _ _ _ _ _ _ _ rfl (@bu _ _ _ _ _ _ _ rfl (¬0) ae (fun _ _=>rfl)) (¬5) (fun _ _=>rfl)) ae (fun _ _=>rfl)) (by rfl) (by trivial))
      (@ao _ _ _ _ _ (@io _ _ _ _ _ _ _ _ _ _ _ PassesOwn.never rfl (@iZ _ _ _ _ _ rfl (@aY _ _ _ _ _ ((@ap _ _ _ _ _ _ ((¬6)∘((¬8)∘ab)))∘((@ap _ _ _ _ _ _ ((¬7)∘((@a8 _ _ _ _ _ _ _ _ _ _ _ _ _ _ _ hLrest GLrest (hr.mono (by decide)) ((¬8)∘ab) (by rfl) (by decide) (by rfl) (by rfl))∘ab)))∘ab)))) (@dY _ _ _ _ _ _ _ _ rfl rfl (@aI _ _ _ _ _ _ _ _ (@aB _ _ _ 9 _ nd rfl (Or.inl rfl) (by trivial)) (@aI _ _ _ _ _ _ _ _ (@aB _ _ _ 10 _ nd rfl (Or.inl rfl) (by trivial)) (@cC _ _) (by rfl)) (by rfl)) (aR (aR dN)) (by rfl) (by rfl))
      (@ao _ _ _ _ _ (@cR _ _ _ _ _ _ _ _ _ _ _ (@be _ _ _ _ _ _ _ _ _ (@oS _ _ _ rfl hr) (¬9) (@li _ _ _ _ _ ae) (aU _))
      (@ao _ _ _ _ _ (@zD _ _ _ _ _ _ _ _ _ _ (@a8 _ _ _ _ _ _ _ _ _ _ _ _ _ _ _ hLtimes GLtimes (hr.mono (by decide)) ((@bu _ _ _ _ _ _ _ rfl (¬2) (¬3) (fun _ _=>rfl))∘((¬10)∘ab)) (by rfl) (by decide) (by rfl) (by rfl)) (¬2) (¬9) (by intro _;rfl) (by rfl) (by rfl) (by rfl)))
      (@bw _ _))) (by intro _;rfl))))) (by intro _;rfl))
      (@ao _ _ _ _ _ (@aH _ _ _ _ _ (@aZ _ _ _ _ _ _ _ _ _ (@b_tuple _ _ rfl) (by rfl) T.b_tuple ((¬2)∘ab) (by decide) (by decide) (by rfl) (by rfl)))))))
noncomputable def jv:FI:=(kl (ac 3))
noncomputable def dG:FE:=(aO (aa (au cD (au cD (ac 1) (ac 2)) (vC (.int 0))) (aa (au cD (ac 0) (au cD (au cD (ac 1) (ac 2)) (vC (.int 1)))) (aa (au cD (ac 0) (au cD (au cD (ac 1) (ac 2)) (vC (.int 2)))) ai))))
noncomputable def jw:FI:=(vJ (aa (ac 3) ai))
noncomputable def dz:FS:=(xo (ac 5) (ac 4) (ac 6))
noncomputable def gn:FI:=(kl (o_ (au cD (ac 1) (au cD (ac 3) (lH kQ (vC (.int 1))))) (cW (vC (.int 1))) eg))
noncomputable def dB:FT:=(aN (au (bO true) (ac 0) (lH kQ (vC (.int 1)))))
noncomputable def dH:FE:=(ac 0)
noncomputable def cG:FT:=(aN (au (bO true) (ac 2) (bL ai)))
noncomputable def cE:FS:=(aD (cX (cw bE (ac 3) (aa (cw dS (ac 2) (aa (au a9 (ce 1 aW (aa (ac 0) ai)) (aL (g1 fL) (aa (ac 2) ai))) ai)) ai)))
    (cX (Cj (ac 2) (ee [] 1 gn (aj 0) dB dH))))
noncomputable def kD:FS:=(aD (a_ 2 (o_ (bL (aa (vC (.int 0)) ai)) eg (cW (aL (g1 fL) (aa (ac 1) ai)))))
    (aD (a_ 3 (bL ai))
    (aD (gG (2 ^ 4200) cG cE)
    (aD (a_ 4 (au c_ (bL (aa (lH kQ (vC (.int 1))) ai)) (au bD (aL (g1 fL) (aa (ac 1) ai)) (vC (.int 1)))))
    (aD (ef (([5]++([6]++[]))++[]) jw (bj (aq (aj 5) (aq (aj 6) bh))) dz)
    (bv (aL (g1 dc) (aa (ee [(4,"_law_numbers"),(1,"_law_tree_here")] 1 jv (aj 2) cS dG) ai))))))))
noncomputable def dR:FM:=gW 2 5 ([2]++([3]++(([]++[])++([4]++((([5]++([6]++[]))++[])++[]))))) kD
theorem kb:aG ["_law_drawn","_law_tree_here","_law_waiting","_law_order","_law_numbers","_law_at","_law_node"] ["_law_drawn","_law_tree_here"] (am ck):=⟨rfl,rfl,rfl,by decide+kernel,rfl,by decide+kernel,by decide+kernel⟩
theorem o5(h:bo K mg "_law_renumbered" ck f fd ["_law_drawn","_law_tree_here"])(T:ja mg){fLnext:Addr}{eLnext:FuncData}(hLnext:bo K mg "_law_next" gF fLnext eLnext ["_law_drawn"])(GLnext:aM P w K mg base bN 1 fLnext eLnext ["_law_drawn"] (bP K 1 aW)):aM P w K mg base bN 2 f fd ["_law_drawn","_law_tree_here"] (bP K 2 dR):=by
  have nd:=kb.nd
  exact h.fn kb rfl rfl (fun cdv A outer s H E hr=>(@ah _ _ _ _ _ _ _ _ (@aC _ _ _ _ _ 2 _ _ nd rfl (Or.inl rfl) (@eD _ _ _ _ _ _ _ _ _ _ rfl (@aY _ _ _ _ _ (ae∘ab)) (@fN _ _) (@dZ _ _ _ _ (@aZ _ _ _ _ _ _ _ _ _ (@b_len _ _ rfl) (by rfl) T.b_len ((¬1)∘ab) (by decide) (by decide) (by rfl) (by rfl)))) (by rfl) (by trivial))
      (@ah _ _ _ _ _ _ _ _ (@aC _ _ _ _ _ 3 _ _ nd rfl (Or.inl rfl) (@aY _ _ _ _ _ ab) (by rfl) (by trivial))
      (@ah _ _ _ _ _ _ _ _ (@jD _ _ _ _ _ _ _ _ _ PassesOwn.never (@be _ _ _ _ _ _ _ _ _ (@oS _ _ _ rfl hr) (¬2) (@aY _ _ _ _ _ ab) (aU _))
      (@ah _ _ _ _ _ _ _ _ (@eE _ _ _ _ _ (@eX _ _ _ _ _ _ _ _ _ rfl (¬3) ((@rC _ _ _ _ _ _ _ _ _ rfl (¬2) ((@aX _ _ _ _ _ _ _ (@a8 _ _ _ _ _ _ _ _ _ _ _ _ _ _ _ hLnext GLnext (hr.mono (by decide)) ((¬0)∘ab) (by rfl) (by decide) (by rfl) (by rfl)) (@aZ _ _ _ _ _ _ _ _ _ (@b_len _ _ rfl) (by rfl) T.b_len ((¬2)∘ab) (by decide) (by decide) (by rfl) (by rfl)))∘ab) (by rfl) (by rfl) (by rfl) (by rfl) (by rfl))∘ab) (by rfl) (by rfl) (by rfl) (by rfl) (by rfl)) (by rfl))
      (@ao _ _ _ _ _ (@eE _ _ _ _ _ (@zw _ _ _ _ _ _ _ _ rfl (¬2) (@jB _ _ _ _ _ _ _ _ _ _ _ _ _ (am ck) ["_law_drawn","_law_tree_here","_law_waiting","_law_order","_law_numbers","_law_at","_law_node"] [] ["_law_link"] rfl rfl rfl (@iZ _ _ _ _ _ rfl (@eD _ _ _ _ _ _ _ _ _ _ rfl (@bu _ _ _ _ _ _ _ rfl (¬1) (@bu _ _ _ _ _ _ _ rfl (¬3) (@li _ _ _ _ _ ae) (fun _ _=>rfl)) (fun _ _=>rfl)) (@dZ _ _ _ _ ae) (@fN _ _)))
        (fun C s0 H0 fp=>(@aB _ _ _ 0 _ (show List.Nodup (["_law_link"]:List Str) by decide+kernel) rfl (Or.inl rfl) (by trivial))) (fun C s0 H0 fp=>(@m7 _ _ _ _ (@be _ _ _ _ _ _ _ _ _ (@oS _ _ _ rfl hr) (¬0) (@li _ _ _ _ _ ae) (aU _))))
        (fun C s0 H0 fp=>(¬0)) rfl (by decide+kernel) (by decide+kernel) (by decide+kernel) (by decide+kernel) (by decide+kernel) (by decide+kernel) (by decide+kernel) (by intro _;rfl)) (by rfl) (by rfl) (by rfl) (by rfl) (by rfl) (by rfl)) (by rfl)))))
      (@ah _ _ _ _ _ _ _ _ (@aC _ _ _ _ _ 4 _ _ nd rfl (Or.inr rfl) (@gB _ _ _ _ _ _ _ rfl (@aY _ _ _ _ _ ((@li _ _ _ _ _ ae)∘ab)) (@bz _ _ _ _ _ _ _ rfl (@aZ _ _ _ _ _ _ _ _ _ (@b_len _ _ rfl) (by rfl) T.b_len ((¬1)∘ab) (by decide) (by decide) (by rfl) (by rfl)) ae)) (by rfl) (by trivial))
      (@ah _ _ _ _ _ _ _ _ (@io _ _ _ _ _ _ _ _ _ _ _ PassesOwn.never rfl (@vY _ _ _ _ _ _ _ _ _ rfl rfl T.b_enumerate ((¬3)∘ab) (by rfl)) (@dY _ _ _ _ _ _ _ _ rfl rfl (@aI _ _ _ _ _ _ _ _ (@aB _ _ _ 5 _ nd rfl (Or.inl rfl) (by trivial)) (@aI _ _ _ _ _ _ _ _ (@aB _ _ _ 6 _ nd rfl (Or.inl rfl) (by trivial)) (@cC _ _) (by rfl)) (by rfl)) (aR (aR dN)) (by rfl) (by rfl))
      (@ao _ _ _ _ _ (@zD _ _ _ _ _ _ _ _ _ _ (¬5) (¬4) (¬6) (by intro _;rfl) (by rfl) (by rfl) (by rfl))) (by intro _;rfl))
      (@ao _ _ _ _ _ (@aH _ _ _ _ _ (@aZ _ _ _ _ _ _ _ _ _ (@b_tuple _ _ rfl) (by rfl) T.b_tuple ((@jB _ _ _ _ _ _ _ _ _ _ _ _ _ (am ck) ["_law_drawn","_law_tree_here","_law_waiting","_law_order","_law_numbers","_law_at","_law_node"] [(4,"_law_numbers"),(1,"_law_tree_here")] ["_law_node"] rfl rfl rfl (@iZ _ _ _ _ _ rfl (¬3))
        (fun C s0 H0 fp=>(@aB _ _ _ 2 _ (show List.Nodup (["_law_numbers","_law_tree_here","_law_node"]:List Str) by decide+kernel) rfl (Or.inl rfl) (by trivial))) (fun C s0 H0 fp=>(@jY _ _))
        (fun C s0 H0 fp=>(@ap _ _ _ _ _ _ ((@bu _ _ _ _ _ _ _ rfl (@bu _ _ _ _ _ _ _ rfl (¬1) (¬2) (fun _ _=>rfl)) ae (fun _ _=>rfl))∘((@bu _ _ _ _ _ _ _ rfl (¬0) (@bu _ _ _ _ _ _ _ rfl (@bu _ _ _ _ _ _ _ rfl (¬1) (¬2) (fun _ _=>rfl)) ae (fun _ _=>rfl)) (fun _ _=>rfl))∘((@bu _ _ _ _ _ _ _ rfl (¬0) (@bu _ _ _ _ _ _ _ rfl (@bu _ _ _ _ _ _ _ rfl (¬1) (¬2) (fun _ _=>rfl)) ae (fun _ _=>rfl)) (fun _ _=>rfl))∘ab))))) rfl (by decide+kernel) (by decide+kernel) (by decide+kernel) (by decide+kernel) (by decide+kernel) (by decide+kernel) (by decide+kernel) (by intro _;rfl))∘ab) (by decide) (by decide) (by rfl) (by rfl))))))))))
noncomputable def x5:FS:=(aD (a_ 3 (au cD (bL (aa (au bD (vC (.int 1)) (au a9 (ce 1 aW (aa (ac 0) ai)) (vC (.int 8)))) (aa (au bD (vC (.int 1)) (au a9 (ce 1 aW (aa (ac 0) ai)) (vC (.int 40)))) (aa (au bD (vC (.int 40)) (au c_ (vC (.int 260)) (aL (g1 sv) (aa (ac 2) ai)))) ai)))) (au a9 (ce 1 aW (aa (ac 0) ai)) (vC (.int 3)))))
    (bv (ce 2 dR (aa (ac 0) (aa (ce 3 kZ (aa (ac 0) (aa (ac 1) (aa (ac 3) ai)))) ai)))))
noncomputable def lV:FM:=gW 3 1 ([3]++[]) x5
theorem wg:aG ["_law_drawn","_law_web_here","_law_great","_law_most"] ["_law_drawn","_law_web_here","_law_great"] (am oC):=⟨rfl,rfl,rfl,by decide+kernel,rfl,by decide+kernel,by decide+kernel⟩
theorem Bj(h:bo K mg "_law_tree" oC f fd ["_law_drawn","_law_web_here","_law_great"])(T:ja mg){fLrenumbered:Addr}{eLrenumbered:FuncData}(hLrenumbered:bo K mg "_law_renumbered" ck fLrenumbered eLrenumbered ["_law_drawn","_law_tree_here"])(GLrenumbered:aM P w K mg base bN 2 fLrenumbered eLrenumbered ["_law_drawn","_law_tree_here"] (bP K 2 dR)){fLgrown:Addr}{eLgrown:FuncData}(hLgrown:bo K mg "_law_grown" jZ fLgrown eLgrown ["_law_drawn","_law_web_here","_law_most"])(GLgrown:aM P w K mg base bN 4 fLgrown eLgrown ["_law_drawn","_law_web_here","_law_most"] (bP K 3 kZ)){fLnext:Addr}{eLnext:FuncData}(hLnext:bo K mg "_law_next" gF fLnext eLnext ["_law_drawn"])(GLnext:aM P w K mg base bN 1 fLnext eLnext ["_law_drawn"] (bP K 1 aW)):aM P w K mg base bN 5 f fd ["_law_drawn","_law_web_here","_law_great"] (bP K 3 lV):=by
  have nd:=wg.nd
  exact h.fn wg rfl rfl (fun cdv A outer s H E hr=>(@ah _ _ _ _ _ _ _ _ (@aC _ _ _ _ _ 3 _ _ nd rfl (Or.inl rfl) (@bu _ _ _ _ _ _ _ rfl (@aY _ _ _ _ _ ((@bz _ _ _ _ _ _ _ rfl ae (@aX _ _ _ _ _ _ _ (@a8 _ _ _ _ _ _ _ _ _ _ _ _ _ _ _ hLnext GLnext (hr.mono (by decide)) ((¬0)∘ab) (by rfl) (by decide) (by rfl) (by rfl)) ae))∘((@bz _ _ _ _ _ _ _ rfl ae (@aX _ _ _ _ _ _ _ (@a8 _ _ _ _ _ _ _ _ _ _ _ _ _ _ _ hLnext GLnext (hr.mono (by decide)) ((¬0)∘ab) (by rfl) (by decide) (by rfl) (by rfl)) ae))∘((@bz _ _ _ _ _ _ _ rfl ae (@gB _ _ _ _ _ _ _ rfl ae (@aZ _ _ _ _ _ _ _ _ _ (@b_int _ _) (by rfl) T.b_int ((¬2)∘ab) (by decide) (by decide) (by rfl) (by rfl))))∘ab)))) (@aX _ _ _ _ _ _ _ (@a8 _ _ _ _ _ _ _ _ _ _ _ _ _ _ _ hLnext GLnext (hr.mono (by decide)) ((¬0)∘ab) (by rfl) (by decide) (by rfl) (by rfl)) ae) (fun _ _=>rfl)) (by rfl) (by trivial))
      (@ao _ _ _ _ _ (@aH _ _ _ _ _ (@a8 _ _ _ _ _ _ _ _ _ _ _ _ _ _ _ hLrenumbered GLrenumbered (hr.mono (by decide)) ((¬0)∘((@a8 _ _ _ _ _ _ _ _ _ _ _ _ _ _ _ hLgrown GLgrown (hr.mono (by decide)) ((¬0)∘((¬1)∘((¬3)∘ab))) (by rfl) (by decide) (by rfl) (by rfl))∘ab)) (by rfl) (by decide) (by rfl) (by rfl))))))
noncomputable def ul:FS:=(aD (a_ 2 (au a9 (ce 1 aW (aa (ac 0) ai)) (aL (g2 oY) (aa (vC (.int 1)) (aa (aL (g1 fL) (aa (ac 1) ai)) ai)))))
    (aD (a_ 3 (au a9 (ce 1 aW (aa (ac 0) ai)) (aL (g2 oY) (aa (vC (.int 1)) (aa (aL (g1 fL) (aa (ac 1) ai)) ai)))))
    (aD (a_ 4 (ce 1 aW (aa (ac 0) ai)))
    (aD (i3 (aN (au (bO false) (ac 1) (aO ai)))
    (bv (au cD (bL (aa (aO (aa (aO (aa (vC (.int 0)) (aa (vC (.int 1)) ai))) ai)) (aa (aO (aa (aO ai) ai)) (aa (bL ai) (aa (aO (aa (aO (aa (vC (.int 1)) (aa (vC (.int 1)) ai))) ai)) ai))))) (au a9 (ac 4) (vC (.int 4)))))
    cN)
    (aD (i0 (au cD (ac 1) (ac 2)) (bj (aq (aj 5) (aq (aj 6) bh))))
    (aD (a_ 7 (bL (aa (aO (aa (au bD (ac 5) (vC (.int 1))) (aa (ac 6) ai))) (aa (aO (aa (au fg (ac 5) (vC (.int 1))) (aa (ac 6) ai))) (aa (aO (aa (au c_ (vC (.int 2)) (ac 5)) (aa (au c_ (vC (.int 2)) (ac 6)) ai))) (aa (aO (aa (au fg (vC (.int 0)) (ac 5)) (aa (au fg (vC (.int 0)) (ac 6)) ai))) (aa (bL (aa (ac 5) (aa (ac 6) ai))) (aa (aO (aa (ac 5) ai)) ai))))))))
    (aD (a_ 7 (au bD (ac 7) (bL (aa (aO (aa (ac 5) (aa (ac 6) (aa (vC (.int 1)) ai)))) (aa (aO (aa (ac 5) (aa (au bD (ac 6) (vC (.int 1))) ai))) (aa (ac 5) (aa (aO (aa (vC (.bool true)) (aa (ac 6) ai))) (aa (aO (aa (ac 5) (aa (vC (.bool true)) ai))) (aa (vC .none) (aa (aO (aa (aL (g1 uv) (aa (ac 5) ai)) (aa (ac 6) ai))) ai))))))))))
    (aD (a_ 7 (au bD (ac 7) (bL (aa (aO (aa (vC (.int 0)) (aa (vC (.int 1)) ai))) (aa (aO (aa (vC (.int 1)) (aa (vC (.int 1)) ai))) (aa (au cD (ac 1) (ac 3)) (aa (aO (aa (au fg (vC (.int 0)) (ac 5)) (aa (ac 6) ai))) (aa (aO (aa (ac 6) (aa (ac 6) ai))) (aa (aO (aa (ac 5) (aa (vC (.int 0)) ai))) (aa (aO (aa (ac 6) (aa (aL (g2 oY) (aa (vC (.int 1)) (aa (ac 5) ai))) ai))) ai))))))))))
    (aD (a_ 8 (au bD (au bD (o_ (ac 1) eg (cW (ac 2))) (aO (aa (au cD (ac 7) (au a9 (ac 4) (vC (.int 20)))) ai))) (o_ (ac 1) (cW (au bD (ac 2) (vC (.int 1)))) eg)))
    (bv (au cD (bL (aa (ac 8) (aa (ac 8) (aa (ac 8) (aa (au bD (o_ (ac 1) eg (cW (ac 2))) (o_ (ac 1) (cW (au bD (ac 2) (vC (.int 1)))) eg)) (aa (au bD (ac 1) (o_ (ac 1) (cW (ac 2)) (cW (au bD (ac 2) (vC (.int 1)))))) (aa (aL (g1 vH) (aa (ac 1) ai)) ai))))))) (au a9 (au dm (ac 4) (vC (.int 20))) (vC (.int 6))))))))))))))
noncomputable def lS:FM:=gW 2 7 ([2]++([3]++([4]++(([]++[])++(([5]++([6]++[]))++([7]++([7]++([7]++([8]++[]))))))))) ul
theorem wa:aG ["_law_drawn","_law_paper","_law_at","_law_other","_law_number","_law_top","_law_bottom","_law_put","_law_found"] ["_law_drawn","_law_paper"] (am ou):=⟨rfl,rfl,rfl,by decide+kernel,rfl,by decide+kernel,by decide+kernel⟩
theorem Bd(h:bo K mg "_law_bent" ou f fd ["_law_drawn","_law_paper"])(T:ja mg){fLnext:Addr}{eLnext:FuncData}(hLnext:bo K mg "_law_next" gF fLnext eLnext ["_law_drawn"])(GLnext:aM P w K mg base bN 1 fLnext eLnext ["_law_drawn"] (bP K 1 aW)):aM P w K mg base bN 2 f fd ["_law_drawn","_law_paper"] (bP K 2 lS):=by
  have nd:=wa.nd
  exact h.fn wa rfl rfl (fun cdv A outer s H E hr=>(@ah _ _ _ _ _ _ _ _ (@aC _ _ _ _ _ 2 _ _ nd rfl (Or.inl rfl) (@aX _ _ _ _ _ _ _ (@a8 _ _ _ _ _ _ _ _ _ _ _ _ _ _ _ hLnext GLnext (hr.mono (by decide)) ((¬0)∘ab) (by rfl) (by decide) (by rfl) (by rfl)) (@aZ _ _ _ _ _ _ _ _ _ (@b_max _ _ rfl) (by rfl) T.b_max (ae∘((@aZ _ _ _ _ _ _ _ _ _ (@b_len _ _ rfl) (by rfl) T.b_len ((¬1)∘ab) (by decide) (by decide) (by rfl) (by rfl))∘ab)) (by decide) (by decide) (by rfl) (by rfl))) (by rfl) (by trivial))
      (@ah _ _ _ _ _ _ _ _ (@aC _ _ _ _ _ 3 _ _ nd rfl (Or.inl rfl) (@aX _ _ _ _ _ _ _ (@a8 _ _ _ _ _ _ _ _ _ _ _ _ _ _ _ hLnext GLnext (hr.mono (by decide)) ((¬0)∘ab) (by rfl) (by decide) (by rfl) (by rfl)) (@aZ _ _ _ _ _ _ _ _ _ (@b_max _ _ rfl) (by rfl) T.b_max (ae∘((@aZ _ _ _ _ _ _ _ _ _ (@b_len _ _ rfl) (by rfl) T.b_len ((¬1)∘ab) (by decide) (by decide) (by rfl) (by rfl))∘ab)) (by decide) (by decide) (by rfl) (by rfl))) (by rfl) (by trivial))
      (@ah _ _ _ _ _ _ _ _ (@aC _ _ _ _ _ 4 _ _ nd rfl (Or.inl rfl) (@a8 _ _ _ _ _ _ _ _ _ _ _ _ _ _ _ hLnext GLnext (hr.mono (by decide)) ((¬0)∘ab) (by rfl) (by decide) (by rfl) (by rfl)) (by rfl) (by trivial))
      (@ah _ _ _ _ _ _ _ _ (@cR _ _ _ _ _ _ _ _ _ _ _ (@be _ _ _ _ _ _ _ _ _ (@nD _ _ _ rfl hr) (¬1) (@ap _ _ _ _ _ _ ab) (aU _))
      (@ao _ _ _ _ _ (@aH _ _ _ _ _ (@bu _ _ _ _ _ _ _ rfl (@aY _ _ _ _ _ ((@ap _ _ _ _ _ _ ((@ap _ _ _ _ _ _ (ae∘(ae∘ab)))∘ab))∘((@ap _ _ _ _ _ _ ((@ap _ _ _ _ _ _ ab)∘ab))∘((@aY _ _ _ _ _ ab)∘((@ap _ _ _ _ _ _ ((@ap _ _ _ _ _ _ (ae∘(ae∘ab)))∘ab))∘ab))))) (@aX _ _ _ _ _ _ _ (¬4) ae) (fun _ _=>rfl))))
      (@bw _ _))
      (@ah _ _ _ _ _ _ _ _ (@jC _ _ _ _ _ _ _ _ (@bu _ _ _ _ _ _ _ rfl (¬1) (¬2) (fun _ _=>rfl)) (@dY _ _ _ _ _ _ _ _ rfl rfl (@aI _ _ _ _ _ _ _ _ (@aB _ _ _ 5 _ nd rfl (Or.inl rfl) (by trivial)) (@aI _ _ _ _ _ _ _ _ (@aB _ _ _ 6 _ nd rfl (Or.inl rfl) (by trivial)) (@cC _ _) (by rfl)) (by rfl)) (aR (aR dN)) (by rfl) (by rfl)) (by rfl) (by rfl) (by rfl))
      (@ah _ _ _ _ _ _ _ _ (@aC _ _ _ _ _ 7 _ _ nd rfl (Or.inl rfl) (@aY _ _ _ _ _ ((@ap _ _ _ _ _ _ ((@bz _ _ _ _ _ _ _ rfl (¬5) ae)∘((¬6)∘ab)))∘((@ap _ _ _ _ _ _ ((@lj _ _ _ _ _ _ _ (¬5) ae)∘((¬6)∘ab)))∘((@ap _ _ _ _ _ _ ((@gB _ _ _ _ _ _ _ rfl ae (¬5))∘((@gB _ _ _ _ _ _ _ rfl ae (¬6))∘ab)))∘((@ap _ _ _ _ _ _ ((@lj _ _ _ _ _ _ _ ae (¬5))∘((@lj _ _ _ _ _ _ _ ae (¬6))∘ab)))∘((@aY _ _ _ _ _ ((¬5)∘((¬6)∘ab)))∘((@ap _ _ _ _ _ _ ((¬5)∘ab))∘ab))))))) (by rfl) (by trivial))
      (@ah _ _ _ _ _ _ _ _ (@aC _ _ _ _ _ 7 _ _ nd rfl (Or.inl rfl) (@bz _ _ _ _ _ _ _ rfl (¬7) (@aY _ _ _ _ _ ((@ap _ _ _ _ _ _ ((¬5)∘((¬6)∘(ae∘ab))))∘((@ap _ _ _ _ _ _ ((¬5)∘((@bz _ _ _ _ _ _ _ rfl (¬6) ae)∘ab)))∘((¬5)∘((@ap _ _ _ _ _ _ ((@cQ _ _ _ _ _)∘((¬6)∘ab)))∘((@ap _ _ _ _ _ _ ((¬5)∘((@cQ _ _ _ _ _)∘ab)))∘((@uR _ _ _ _)∘((@ap _ _ _ _ _ _ ((@aZ _ _ _ _ _ _ _ _ _ (@b_str _ _) (by rfl) T.b_str ((¬5)∘ab) (by decide) (by decide) (by rfl) (by rfl))∘((¬6)∘ab)))∘ab))))))))) (by rfl) (by trivial))
      (@ah _ _ _ _ _ _ _ _ (@aC _ _ _ _ _ 7 _ _ nd rfl (Or.inl rfl) (@bz _ _ _ _ _ _ _ rfl (¬7) (@aY _ _ _ _ _ ((@ap _ _ _ _ _ _ (ae∘(ae∘ab)))∘((@ap _ _ _ _ _ _ (ae∘(ae∘ab)))∘((@bu _ _ _ _ _ _ _ rfl (¬1) (¬3) (fun _ _=>rfl))∘((@ap _ _ _ _ _ _ ((@lj _ _ _ _ _ _ _ ae (¬5))∘((¬6)∘ab)))∘((@ap _ _ _ _ _ _ ((¬6)∘((¬6)∘ab)))∘((@ap _ _ _ _ _ _ ((¬5)∘(ae∘ab)))∘((@ap _ _ _ _ _ _ ((¬6)∘((@aZ _ _ _ _ _ _ _ _ _ (@b_max _ _ rfl) (by rfl) T.b_max (ae∘((¬5)∘ab)) (by decide) (by decide) (by rfl) (by rfl))∘ab)))∘ab))))))))) (by rfl) (by trivial))
      (@ah _ _ _ _ _ _ _ _ (@aC _ _ _ _ _ 8 _ _ nd rfl (Or.inl rfl) (@bz _ _ _ _ _ _ _ rfl (@bz _ _ _ _ _ _ _ rfl (@eD _ _ _ _ _ _ _ _ _ _ rfl (¬1) (@fN _ _) (@dZ _ _ _ _ (¬2))) (@ap _ _ _ _ _ _ ((@bu _ _ _ _ _ _ _ rfl (¬7) (@aX _ _ _ _ _ _ _ (¬4) ae) (fun _ _=>rfl))∘ab))) (@eD _ _ _ _ _ _ _ _ _ _ rfl (¬1) (@dZ _ _ _ _ (@bz _ _ _ _ _ _ _ rfl (¬2) ae)) (@fN _ _))) (by rfl) (by trivial))
      (@ao _ _ _ _ _ (@aH _ _ _ _ _ (@bu _ _ _ _ _ _ _ rfl (@aY _ _ _ _ _ ((¬8)∘((¬8)∘((¬8)∘((@bz _ _ _ _ _ _ _ rfl (@eD _ _ _ _ _ _ _ _ _ _ rfl (¬1) (@fN _ _) (@dZ _ _ _ _ (¬2))) (@eD _ _ _ _ _ _ _ _ _ _ rfl (¬1) (@dZ _ _ _ _ (@bz _ _ _ _ _ _ _ rfl (¬2) ae)) (@fN _ _)))∘((@bz _ _ _ _ _ _ _ rfl (¬1) (@eD _ _ _ _ _ _ _ _ _ _ rfl (¬1) (@dZ _ _ _ _ (¬2)) (@dZ _ _ _ _ (@bz _ _ _ _ _ _ _ rfl (¬2) ae))))∘((@aZ _ _ _ _ _ _ _ _ _ (@b_list _ _ rfl) (by rfl) T.b_list ((¬1)∘ab) (by decide) (by decide) (by rfl) (by rfl))∘ab))))))) (@aX _ _ _ _ _ _ _ (@gy _ _ _ _ _ _ _ (¬4) ae) ae) (fun _ _=>rfl))))))))))))))
noncomputable def kc:FS:=(bv (ig (lH (mR "tuple") (ac 1)) (ce 2 nR (aa (ac 1) (aa (ac 0) ai)))))
noncomputable def de:FM:=gW 2 0 [] kc
theorem mK:aG ["_law_paper","_law_thing"] ["_law_paper","_law_thing"] (am gD):=⟨rfl,rfl,rfl,by decide+kernel,rfl,by decide+kernel,by decide+kernel⟩
theorem sW(h:bo K mg "_law_is_paper" gD f fd ["_law_paper","_law_thing"])(T:ja mg){fLsame:Addr}{eLsame:FuncData}(hLsame:bo K mg "_law_same" oz fLsame eLsame ["_law_found","_law_due"])(GLsame:aM P w K mg base bN 1 fLsame eLsame ["_law_found","_law_due"] (bP K 2 nR)):aM P w K mg base bN 2 f fd ["_law_paper","_law_thing"] (bP K 2 de):=by
  have nd:=mK.nd
  exact h.fn mK rfl rfl (fun cdv A outer s H E hr=>(@ao _ _ _ _ _ (@aH _ _ _ _ _ (@rD _ _ _ _ _ _ _ _ (@vV _ _ _ _ _ _ _ _ "tuple" rfl (by decide) rfl T.b_isinstance rfl T.b_tuple PyProof.Rows.boot_tuple (by decide) (by decide) (¬1) (by rfl) (by rfl)) (@rF _ _ _ _ _ _ (@a8 _ _ _ _ _ _ _ _ _ _ _ _ _ _ _ hLsame GLsame (hr.mono (by decide)) ((¬1)∘((¬0)∘ab)) (by rfl) (by decide) (by rfl) (by rfl)))))))
noncomputable def Hm:FI:=(kl (ac 7))
noncomputable def GY:FS:=(i3 (j4 (aN (ce 2 nS (aa (ce 3 bc (aa (ac 3) (aa (ac 4) (aa (ac 8) ai)))) (aa (ce 2 de (aa (ac 6) (aa (ac 8) ai))) ai)))))
    (bv (vC (.bool false)))
    cN)
noncomputable def G3:FI:=(dP (aa (au cD (bL (aa (vC (.int 4)) (aa (vC (.int 8)) (aa (vC (.int 8)) (aa (vC (.int 8)) ai))))) (ac 2)) ai))
noncomputable def G0:FE:=(ce 2 lS (aa (ac 0) (aa (ac 1) ai)))
noncomputable def HS:FI:=(dP (aa (vC (.int 4)) ai))
noncomputable def GZ:FS:=(aD (a_ 3 (ce 3 sN (aa (ac 1) (aa (vC (.int 12)) (aa (vC (.int 16)) ai)))))
    (aD (a_ 4 (ce 3 lV (aa (ac 1) (aa (ac 3) (aa (au (bO false) (ac 2) (vC (.int 0))) ai)))))
    (aD (a_ 5 (ce 3 lV (aa (ac 1) (aa (ac 3) (aa (vC (.bool false)) ai)))))
    (aD (a_ 6 (ce 2 fV (aa (ac 3) (aa (ac 4) ai))))
    (aD (a_ 7 (bL (aa (ac 6) (aa (ce 2 fV (aa (ac 3) (aa (ac 5) ai))) (aa (aO ai) (aa (ce 1 pV (aa (ce 1 aW (aa (ac 1) ai)) ai)) (aa (ce 1 pV (aa (ce 1 aW (aa (ac 1) ai)) ai)) ai)))))))
    (aD (a_ 7 (au bD (ac 7) (ee [(1,"_law_drawn"),(6,"_law_paper")] 1 G3 (aj 2) cS G0)))
    (aD (ef ([8]++([]++[])) Hm (aj 8) GY)
    (i3 (aN (au qO (ce 3 bc (aa (ac 3) (aa (ac 4) (aa (ac 6) ai)))) (vC (.bool true))))
    (bv (vC (.bool false)))
    cN))))))))
noncomputable def CD:FS:=(aD (a_ 1 (ce 1 kY (aa (ac 0) ai)))
    (aD (ef ([2]++([3]++([4]++([5]++([6]++([7]++([7]++(([8]++([]++[]))++([]++[]))))))))) HS (aj 2) GZ)
    (bv (vC (.bool true)))))
noncomputable def nV:FM:=gW 1 8 ([1]++(([2]++([3]++([4]++([5]++([6]++([7]++([7]++(([8]++([]++[]))++([]++[])))))))))++[])) CD
theorem zW:aG ["_law_script","_law_drawn","_law_k","_law_web_here","_law_tree_here","_law_other","_law_paper","_law_things","_law_thing"] ["_law_script"] (am mJ):=⟨rfl,rfl,rfl,by decide+kernel,rfl,by decide+kernel,by decide+kernel⟩
theorem DU(h:bo K mg "law" mJ f fd ["_law_script"])(T:ja mg){fLdraws:Addr}{eLdraws:FuncData}(hLdraws:bo K mg "_law_draws" lq fLdraws eLdraws ["_law_script"])(GLdraws:aM P w K mg base bN 2 fLdraws eLdraws ["_law_script"] (bP K 1 kY)){fLweb:Addr}{eLweb:FuncData}(hLweb:bo K mg "_law_web" tK fLweb eLweb ["_law_drawn","_law_most","_law_ties_here"])(GLweb:aM P w K mg base bN 5 fLweb eLweb ["_law_drawn","_law_most","_law_ties_here"] (bP K 3 sN)){fLtree:Addr}{eLtree:FuncData}(hLtree:bo K mg "_law_tree" oC fLtree eLtree ["_law_drawn","_law_web_here","_law_great"])(GLtree:aM P w K mg base bN 5 fLtree eLtree ["_law_drawn","_law_web_here","_law_great"] (bP K 3 lV)){fLreaches:Addr}{eLreaches:FuncData}(hLreaches:bo K mg "_law_reaches" iL fLreaches eLreaches ["_law_web_here","_law_tree_here"])(GLreaches:aM P w K mg base bN 4 fLreaches eLreaches ["_law_web_here","_law_tree_here"] (bP K 2 fV)){fLodd:Addr}{eLodd:FuncData}(hLodd:bo K mg "_law_odd" tJ fLodd eLodd ["_law_number"])(GLodd:aM P w K mg base bN 1 fLodd eLodd ["_law_number"] (bP K 1 pV)){f_reaches_hold:Addr}{e_reaches_hold:FuncData}(h_reaches_hold:bo K mg "reaches_hold" bZ f_reaches_hold e_reaches_hold ["web","tree","thing"])(G_reaches_hold:aM P w K mg base bN 5 f_reaches_hold e_reaches_hold ["web","tree","thing"] (bP K 3 bc)){fLnext:Addr}{eLnext:FuncData}(hLnext:bo K mg "_law_next" gF fLnext eLnext ["_law_drawn"])(GLnext:aM P w K mg base bN 1 fLnext eLnext ["_law_drawn"] (bP K 1 aW)){fLbent:Addr}{eLbent:FuncData}(hLbent:bo K mg "_law_bent" ou fLbent eLbent ["_law_drawn","_law_paper"])(GLbent:aM P w K mg base bN 2 fLbent eLbent ["_law_drawn","_law_paper"] (bP K 2 lS)){fLsays:Addr}{eLsays:FuncData}(hLsays:bo K mg "_law_says" oA fLsays eLsays ["_law_found","_law_due"])(GLsays:aM P w K mg base bN 1 fLsays eLsays ["_law_found","_law_due"] (bP K 2 nS)){fLis_paper:Addr}{eLis_paper:FuncData}(hLis_paper:bo K mg "_law_is_paper" gD fLis_paper eLis_paper ["_law_paper","_law_thing"])(GLis_paper:aM P w K mg base bN 2 fLis_paper eLis_paper ["_law_paper","_law_thing"] (bP K 2 de)):aM P w K mg base bN 6 f fd ["_law_script"] (bP K 1 nV):=by
  have nd:=zW.nd
  exact h.fn zW rfl rfl (fun cdv A outer s H E hr=>(@ah _ _ _ _ _ _ _ _ (@aC _ _ _ _ _ 1 _ _ nd rfl (Or.inr rfl) (@a8 _ _ _ _ _ _ _ _ _ _ _ _ _ _ _ hLdraws GLdraws (hr.mono (by decide)) ((¬0)∘ab) (by rfl) (by decide) (by rfl) (by rfl)) (by rfl) (by trivial))
      (@ah _ _ _ _ _ _ _ _ (@io _ _ _ _ _ _ _ _ _ _ _ PassesOwn.never rfl (@eu _ _ _ _ _ _ _ rfl T.b_range (ae∘ab) (by rfl)) (@aB _ _ _ 2 _ nd rfl (Or.inl rfl) (by trivial))
      (@ah _ _ _ _ _ _ _ _ (@aC _ _ _ _ _ 3 _ _ nd rfl (Or.inl rfl) (@a8 _ _ _ _ _ _ _ _ _ _ _ _ _ _ _ hLweb GLweb (hr.mono (by decide)) ((¬1)∘(ae∘(ae∘ab))) (by rfl) (by decide) (by rfl) (by rfl)) (by rfl) (by trivial))
      (@ah _ _ _ _ _ _ _ _ (@aC _ _ _ _ _ 4 _ _ nd rfl (Or.inl rfl) (@a8 _ _ _ _ _ _ _ _ _ _ _ _ _ _ _ hLtree GLtree (hr.mono (by decide)) ((¬1)∘((¬3)∘((@mI _ _ _ _ _ _ _ _ _ (@nD _ _ _ rfl hr) (¬2) ae (aU _))∘ab))) (by rfl) (by decide) (by rfl) (by rfl)) (by rfl) (by trivial))
      (@ah _ _ _ _ _ _ _ _ (@aC _ _ _ _ _ 5 _ _ nd rfl (Or.inl rfl) (@a8 _ _ _ _ _ _ _ _ _ _ _ _ _ _ _ hLtree GLtree (hr.mono (by decide)) ((¬1)∘((¬3)∘((@cQ _ _ _ _ _)∘ab))) (by rfl) (by decide) (by rfl) (by rfl)) (by rfl) (by trivial))
      (@ah _ _ _ _ _ _ _ _ (@aC _ _ _ _ _ 6 _ _ nd rfl (Or.inr rfl) (@a8 _ _ _ _ _ _ _ _ _ _ _ _ _ _ _ hLreaches GLreaches (hr.mono (by decide)) ((¬3)∘((¬4)∘ab)) (by rfl) (by decide) (by rfl) (by rfl)) (by rfl) (by trivial))
      (@ah _ _ _ _ _ _ _ _ (@aC _ _ _ _ _ 7 _ _ nd rfl (Or.inl rfl) (@aY _ _ _ _ _ ((¬6)∘((@a8 _ _ _ _ _ _ _ _ _ _ _ _ _ _ _ hLreaches GLreaches (hr.mono (by decide)) ((¬3)∘((¬5)∘ab)) (by rfl) (by decide) (by rfl) (by rfl))∘((@ap _ _ _ _ _ _ ab)∘((@a8 _ _ _ _ _ _ _ _ _ _ _ _ _ _ _ hLodd GLodd (hr.mono (by decide)) ((@a8 _ _ _ _ _ _ _ _ _ _ _ _ _ _ _ hLnext GLnext (hr.mono (by decide)) ((¬1)∘ab) (by rfl) (by decide) (by rfl) (by rfl))∘ab) (by rfl) (by decide) (by rfl) (by rfl))∘((@a8 _ _ _ _ _ _ _ _ _ _ _ _ _ _ _ hLodd GLodd (hr.mono (by decide)) ((@a8 _ _ _ _ _ _ _ _ _ _ _ _ _ _ _ hLnext GLnext (hr.mono (by decide)) ((¬1)∘ab) (by rfl) (by decide) (by rfl) (by rfl))∘ab) (by rfl) (by decide) (by rfl) (by rfl))∘ab)))))) (by rfl) (by trivial))
      (@ah _ _ _ _ _ _ _ _ (@aC _ _ _ _ _ 7 _ _ nd rfl (Or.inl rfl) (@bz _ _ _ _ _ _ _ rfl (¬7) (@jB _ _ _ _ _ _ _ _ _ _ _ _ _ (am mJ) ["_law_script","_law_drawn","_law_k","_law_web_here","_law_tree_here","_law_other","_law_paper","_law_things","_law_thing"] [(1,"_law_drawn"),(6,"_law_paper")] ["_law_j"] rfl rfl rfl (@eu _ _ _ _ _ _ _ rfl T.b_range ((@bu _ _ _ _ _ _ _ rfl (@aY _ _ _ _ _ (ae∘(ae∘(ae∘(ae∘ab))))) (¬2) (fun _ _=>rfl))∘ab) (by rfl))
        (fun C s0 H0 fp=>(@aB _ _ _ 2 _ (show List.Nodup (["_law_drawn","_law_paper","_law_j"]:List Str) by decide+kernel) rfl (Or.inl rfl) (by trivial))) (fun C s0 H0 fp=>(@jY _ _))
        (fun C s0 H0 fp=>(@a8 _ _ _ _ _ _ _ _ _ _ _ _ _ _ _ hLbent GLbent (hr.mono (by decide)) ((¬0)∘((¬1)∘ab)) (by rfl) (by decide) (by rfl) (by rfl))) rfl (by decide+kernel) (by decide+kernel) (by decide+kernel) (by decide+kernel) (by decide+kernel) (by decide+kernel) (by decide+kernel) (by intro _;rfl))) (by rfl) (by trivial))
      (@ah _ _ _ _ _ _ _ _ (@io _ _ _ _ _ _ _ _ _ _ _ PassesOwn.never rfl (@iZ _ _ _ _ _ rfl (¬7)) (@aB _ _ _ 8 _ nd rfl (Or.inl rfl) (by trivial))
      (@ao _ _ _ _ _ (@cR _ _ _ _ _ _ _ _ _ _ _ (@om _ _ _ _ _ (@jE _ _ _ _ (@a8 _ _ _ _ _ _ _ _ _ _ _ _ _ _ _ hLsays GLsays (hr.mono (by decide)) ((@a8 _ _ _ _ _ _ _ _ _ _ _ _ _ _ _ h_reaches_hold G_reaches_hold (hr.mono (by decide)) ((¬3)∘((¬4)∘((¬8)∘ab))) (by rfl) (by decide) (by rfl) (by rfl))∘((@a8 _ _ _ _ _ _ _ _ _ _ _ _ _ _ _ hLis_paper GLis_paper (hr.mono (by decide)) ((¬6)∘((¬8)∘ab)) (by rfl) (by decide) (by rfl) (by rfl))∘ab)) (by rfl) (by decide) (by rfl) (by rfl)) (by intro _;rfl)))
      (@ao _ _ _ _ _ (@aH _ _ _ _ _ (@cQ _ _ _ _ _)))
      (@bw _ _))) (by intro _;rfl))
      (@ao _ _ _ _ _ (@cR _ _ _ _ _ _ _ _ _ _ _ (@be _ _ _ _ _ _ _ _ _ (@AB _ _) (@a8 _ _ _ _ _ _ _ _ _ _ _ _ _ _ _ h_reaches_hold G_reaches_hold (hr.mono (by decide)) ((¬3)∘((¬4)∘((¬6)∘ab))) (by rfl) (by decide) (by rfl) (by rfl)) (@cQ _ _ _ _ _) (aU _))
      (@ao _ _ _ _ _ (@aH _ _ _ _ _ (@cQ _ _ _ _ _)))
      (@bw _ _)))))))))) (by intro _;rfl))
      (@ao _ _ _ _ _ (@aH _ _ _ _ _ (@cQ _ _ _ _ _))))))
local macro_rules | `(tactic| simp? [$ts,*]) => `(tactic| simp [$ts,*, gW, jz, aD, i3, bv, cN, a_, cX, i0, mX, o6, aN, au, lH, ac, vC, bL, ai, aa, aO, aL, ce, jM, uc, j4, C7, ig, ud, jN, o_, eg, cW, cw, bE, sO, dS, gh, ki, cT, bM, oX, rV, bj, aq, aj, bh, bT, aJ, bi, rh, dh, eO, cJ, fK, ib, h_, hX, hV, eP, dM, eQ, dn, eN, mC, j6, jm, mD, jq, ia, jo, jp, eS, eR, dq, eT, mE, jc, ij, jd, je, ml, dk, dj, dJ, hZ, List.replicate, -List.map_nil, -List.map_cons, -List.nil_append, -List.cons_append, -Option.bind_some, -Option.map_some, -getElem?_pos, -List.append_nil, my, mw, mq, mn, ms, mv, mr, mz])
theorem As{n k:Int}(h:0 < k):0≤n % k:=Int.emod_nonneg _ (Int.ne_of_gt h)
theorem Au{n k:Int}(h:0 < k):n % k < k:=Int.emod_lt_of_pos _ h
def nx:List Int→Int
  | []=>0
  | d::_=>d
def gZ(ds:List Int):Prop:=∀d∈ds,0≤d∧d < 2147483648
theorem CT{ds:List Int}(h:gZ ds):0≤nx ds∧nx ds < 2147483648:=by
  cases ds with
  | nil=>exact⟨Int.le_refl 0,by show(0:Int) < 2147483648;decide⟩
  | cons d r=>exact h d (by simp)
theorem GQ{ds:List Int}(h:gZ ds):gZ ds.tail:=fun d hd=>h d (List.mem_of_mem_tail hd)
theorem ET(ds:List Int):aW [.l (ds.map .int)]=some (.d (.int (nx ds)),[.l (ds.tail.map .int)]):=by
  have hq:∀e:En,e[0]?=some (some (.l (ds.map .int)))→bO false e (.s 0) (.l [])=some (.d (.bool (ds.map PyData.int).isEmpty)):=fun e he=>kP he (jJ ds).1
  cases ds with
  | nil=>simp? [aW,um,hq,nx]
  | cons d r=>simp? [aW,um,hq,nx]
theorem gM{ds:List Int}(hd:gZ ds):∃(n:Int) (ds':List Int),aW [.l (ds.map .int)]=some (.d (.int n),[.l (ds'.map .int)])∧0≤n∧n < 2147483648∧gZ ds':=⟨nx ds,ds.tail,ET ds,(CT hd).1,(CT hd).2,GQ hd⟩
theorem wk(cell k:Int)(h0:0≤k)(h1:k≤1000):∃r,jW [.d (.int cell),.d (.int k)]=some (.d (.int r),[.d (.int cell),.d (.int k)])∧0≤r∧r < 2147483648:=by
  have a1:km (cell % 2147483647) 48271=true:=rf (by decide) (by decide)
  have a2:km 7919 k=true:=nW (by decide) (by decide)
  have a3:km (7919*k) k=true:=rf (by lia) (by lia)
  have a4:km ((cell % 2147483647*48271+7919*k*k+104729) % 2147483647) ((cell % 2147483647*48271+7919*k*k+104729) % 2147483647)=true:=rf (by lia) (by lia)
  refine⟨_,by simp? [jW,vx,aS,cV,a1,a2,a3,a4];rfl,?_,?_⟩
  · lia
  · lia
theorem qI{ds:List Int}(h:gZ ds){r:Int}(h0:0≤r)(h1:r < 2147483648):gZ (ds++[r]):=fun d hd=>by
  rcases List.mem_append.mp hd with hd | hd
  · exact h d hd
  · simp at hd;subst hd;exact⟨h0,h1⟩
abbrev dE(ns ds:List Int)(v2 v3 v4:Option Sv):En:=[some (.d (.list (ns.map .int))),some (.l (ds.map .int)),v2,v3,v4]
inductive DI (ns:List Int) (i:Nat):En→Prop
  | mk {ds v2 v3 v4} (hd:gZ ds) (hl:ds.length≤1000*i):DI ns i (dE ns ds v2 v3 v4)
inductive DJ (ns:List Int) (k cell:Int) (n i:Nat):En→Prop
  | mk {ds v4} (hd:gZ ds) (hl:ds.length=n+i):DJ ns k cell n i (dE ns ds (some (.d (.int k))) (some (.d (.int cell))) v4)
inductive DW (ns:List Int) (k:Int) (v4:Option Sv) (n:Nat):En→Prop
  | mk {cell ds} (hc:0≤cell) (hd:gZ ds) (hl:ds.length≤max n 900):DW ns k v4 n (dE ns ds (some (.d (.int k))) (some (.d (.int cell))) v4)
theorem Ca(ns:List Int)(hn:ns.length≤63):∃ds,kY [.d (.list (ns.map .int))]=some (.l (ds.map .int),[.d (.list (ns.map .int))])∧gZ ds:=by
  have inner:∀(cell k:Int) (ds:List Int) (v4:Option Sv),0≤k→k≤63→gZ ds→ds.length≤63000→∃ds' v4',(∀W,ef W jV (aj 4) iy (dE ns ds (some (.d (.int k))) (some (.d (.int cell))) v4)=some (.nx (dE ns ds' (some (.d (.int k))) (some (.d (.int cell))) v4')))∧gZ ds'∧ds'.length=ds.length+12:=by
    intro cell k ds v4 k0 k1 hd hl
    obtain⟨e',h1,h2⟩:=dI (own:=[]) (g:=aj 4) (f:=iy) (DJ ns k cell ds.length) (bx 0 12) 0 (dE ns ds (some (.d (.int k))) (some (.d (.int cell))) v4) (fun i x e hx hI=>by
      obtain⟨rfl,hi⟩:=ey hx
      obtain⟨hd',hl'⟩:=hI
      rename_i ds' v4'
      obtain⟨r1,c1,_,_⟩:=wk cell (3*(0+(i:Int))+1) (by lia) (by lia)
      obtain⟨r2,c2,c3,c4⟩:=wk r1 (0+(i:Int)+k+2) (by lia) (by lia)
      have a1:km 3 (0+(i:Int))=true:=nW (by decide) (by decide)
      refine⟨_,dE ns (ds'++[r2]) (some (.d (.int k))) (some (.d (.int cell))) (some (.d (.int (0+(i:Int))))),rfl,?_,cy,.mk (qI hd' c3 c4) (by simp;lia)⟩
      have hlen:ds'.length < 1000000:=by lia
      simp only [Int.zero_add] at a1 c1 c2
      simp? [dE,iy,c1,c2,cV,a1,hlen]) (.mk hd rfl)
    obtain⟨hd',hl'⟩:=h2
    rename_i ds' v4'
    rw [eA] at hl'
    refine⟨ds',v4',fun W=>?_,hd',by lia⟩
    rw [ic (show jV _=some (bx 0 12,[],_) from en (n:=12) rfl (by decide) (by decide))]
    exact h1
  have wh:∀(cell k:Int) (ds:List Int) (v4:Option Sv),0≤cell→gZ ds→ds.length≤63100→∃cell' ds',gG (2 ^ 4200) fR jQ (dE ns ds (some (.d (.int k))) (some (.d (.int cell))) v4)=some (.nx (dE ns ds' (some (.d (.int k))) (some (.d (.int cell'))) v4))∧0≤cell'∧gZ ds'∧ds'.length≤max ds.length 900:=by
    intro cell k ds v4 hc hd hl
    have tst:∀(cell:Int) (ds:List Int),fR (dE ns ds (some (.d (.int k))) (some (.d (.int cell))) v4)=some (decide (1000000000000000000≤cell)&&decide ((ds.length:Int) < 900),dE ns ds (some (.d (.int k))) (some (.d (.int cell))) v4):=by
      intro cell ds
      by_cases h:(1000000000000000000:Int)≤cell
      · simp? [dE,fR,jr,lg,h]
      · simp? [dE,fR,jr,lg,h]
    obtain⟨e0,e',h1,hI,h3⟩:=gQ (ft:=fR) (f:=jQ) (DW ns k v4 ds.length)
      (fun e=>1000000 - j7 1 e) (fun e hI=>by
        obtain⟨hc',hd',hl'⟩:=hI
        rename_i cell' ds'
        rw [tst]
        by_cases c1:(1000000000000000000:Int)≤cell'
        · by_cases c2:(ds'.length:Int) < 900
          · refine .inr ⟨_,dE ns (ds'++[cell' % 2147483629]) (some (.d (.int k))) (some (.d (.int (cell' / 2147483629)))) v4,by rw [decide_eq_true c1,decide_eq_true c2];rfl,?_,.mk (by lia) (qI hd' (by lia) (by lia)) (by simp;lia),?_⟩
            · have hlen:ds'.length < 1000000:=by lia
              have b8:Bt 8000 2147483629:=lK (by decide) (by decide)
              simp? [dE,jQ,aS,el,b8,hlen]
            · simp [j7,dE];lia
          · exact .inl ⟨_,by rw [decide_eq_true c1,decide_eq_false c2];rfl,trivial⟩
        · exact .inl ⟨_,by rw [decide_eq_false c1];rfl,trivial⟩) (2 ^ 4200) _ (.mk hc hd (by lia)) (kX (m:=20) (Nat.lt_of_le_of_lt (Nat.sub_le _ _) (by decide)) (by decide))
    obtain⟨hc',hd',hl'⟩:=hI
    rename_i cell' ds'
    rw [tst] at h3
    have h4:=(Prod.mk.inj (Option.some.inj h3)).2
    subst h4
    exact⟨cell',ds',h1,hc',hd',hl'⟩
  have turn:∀(i:Nat) (ds:List Int) (v3 v4:Option Sv) (hi:i < ns.length),gZ ds→ds.length≤1000*i→∃ds2 v3' v4',fQ (dE ns ds (some (.d (.int (i:Int)))) v3 v4)=some (.nx (dE ns ds2 (some (.d (.int (i:Int)))) v3' v4'))∧gZ ds2∧ds2.length≤1000*(i+1):=by
    intro i ds v3 v4 hi hd hl
    have hcell:atI (ns.map PyData.int) (i:Int)=some (.int ns[i]):=by
      rw [f_ (by lia) (by rw [List.length_map];lia)]
      simp [hi]
    have c0:(0:Int)≤(ns[i].natAbs:Int):=by lia
    have st:a_ 3 (aL (g1 uu) (aa (au cD (ac 0) (ac 2)) ai)) (dE ns ds (some (.d (.int (i:Int)))) v3 v4)=some (.nx (dE ns ds (some (.d (.int (i:Int)))) (some (.d (.int (ns[i].natAbs:Int)))) v4)):=by
      simp? [dE,hcell]
    generalize (ns[i].natAbs:Int)=cell at c0 st
    have mid:∃ds1 v4',i3 (aN (au xN (ac 3) (au qP (vC (.int 10)) (vC (.int 18))))) (ef ([4]++[]) jV (aj 4) iy) cN (dE ns ds (some (.d (.int (i:Int)))) (some (.d (.int cell))) v4)=some (.nx (dE ns ds1 (some (.d (.int (i:Int)))) (some (.d (.int cell))) v4'))∧gZ ds1∧ds1.length≤ds.length+12:=by
      by_cases cb:cell < 1000000000000000000
      · obtain⟨ds1,v4',f1,f2,f3⟩:=inner cell (i:Int) ds v4 (by lia) (by lia) hd (by lia)
        refine⟨ds1,v4',?_,f2,by lia⟩
        rw [C2 (e1:=dE ns ds (some (.d (.int (i:Int)))) (some (.d (.int cell))) v4) (by simp? [dE,jr,lg,cb])]
        exact f1 _
      · refine⟨ds,v4,?_,hd,by lia⟩
        rw [C1 (e1:=dE ns ds (some (.d (.int (i:Int)))) (some (.d (.int cell))) v4) (by simp? [dE,jr,lg,cb])]
        rfl
    obtain⟨ds1,v4',m1,m2,m3⟩:=mid
    obtain⟨cell2,ds2,w1,w2,w3,w4⟩:=wh cell (i:Int) ds1 v4' c0 m2 (by lia)
    by_cases c2:(2147483629:Int)≤cell2
    · refine⟨ds2++[cell2 % 2147483629],some (.d (.int cell2)),v4',?_,qI w3 (by lia) (by lia),by simp;lia⟩
      have hlen:ds2.length < 1000000:=by lia
      unfold fQ
      rw [cn st,cn m1,cn w1]
      simp? [dE,c2,aS,hlen]
    · refine⟨ds2,some (.d (.int cell2)),v4',?_,w3,by lia⟩
      unfold fQ
      rw [cn st,cn m1,cn w1]
      simp? [dE,c2]
  obtain⟨e',h1,hI⟩:=dI (own:=[]) (g:=aj 2) (f:=fQ) (DI ns) (bx 0 (min (ns.length:Int) 63).toNat) 0 (dE ns [] none none none) (fun i x e hx hI=>by
    obtain⟨rfl,hi⟩:=ey hx
    obtain⟨hd,hl⟩:=hI
    rename_i ds v2 v3 v4
    rw [Nat.zero_add] at hl ⊢
    obtain⟨ds2,v3',v4',t1,t2,t3⟩:=turn i ds v3 v4 (by lia) hd hl
    exact⟨dE ns ds (some (.d (.int (i:Int)))) v3 v4,_,by simp [aj,dE],t1,cy,.mk t2 t3⟩) (.mk (fun d hd=>by cases hd) (by simp))
  obtain⟨hd,hl⟩:=hI
  rename_i ds v2 v3 v4
  refine⟨ds,?_,hd⟩
  have hf:∀W,ef W lQ (aj 2) fQ (dE ns [] none none none)=some (.nx (dE ns ds v2 v3 v4)):=fun W=>by
    rw [ic (show lQ _=some (bx 0 (min (ns.length:Int) 63).toNat,[],dE ns [] none none none) from en (n:=min (ns.length:Int) 63) (by simp? [dE]) (by lia) (by lia))]
    exact h1
  unfold dE at hf
  simp only [List.map_nil] at hf
  simp? [kY,vt,hf]
theorem GM(a b:Int)(hb:Bt 4000 b):sM [.d (.int a),.d (.int b)]=some (.d (.int (Int.gcd a b)),[.d (.int a),.d (.int b)]):=by
  have tst:∀x y:Int,kJ [some (.d (.int x)),some (.d (.int y))]=some (!(y==0),[some (.d (.int x)),some (.d (.int y))]):=fun x y=>by simp? [kJ]
  obtain⟨e0,e',h1,⟨x,y,he,hg,hy⟩,h3⟩:=gQ (ft:=kJ) (f:=m4) (fun e=>∃x y,e=[some (.d (.int x)),some (.d (.int y))]∧Int.gcd x y=Int.gcd a b∧Bt 4000 y) (pW 1) (fun e ⟨x,y,he,hg,hy⟩=>by
    subst he
    rw [tst]
    by_cases c:y=0
    · subst c;exact .inl ⟨_,rfl,trivial⟩
    · refine .inr ⟨_,[some (.d (.int y)),some (.d (.int (x.fmod y)))],by rw [beq_false_of_ne c];rfl,by simp? [m4,yt c],⟨y,x.fmod y,rfl,by rw [sE,hg],?_⟩,?_⟩
      · have:=g_ x c
        exact Bt.of_le hy (by lia)
      · have:=g_ x c
        simpa [pW] using this) (2 ^ 4200) _ ⟨a,b,rfl,rfl,hb⟩ (kX (m:=4000) (by simpa [pW,Bt] using hb) (by decide))
  subst he
  rw [tst] at h3
  have h4:=Prod.mk.inj (Option.some.inj h3)
  have hy0:y=0:=by simpa using h4.1
  subst hy0
  have h5:=h4.2
  subst h5
  have hs:gG (2 ^ 4200) kJ m4 [some (.d (.int a)),some (.d (.int b))]=some (.nx [some (.d (.int x)),some (.d (.int 0))]):=h1
  have hg':(x.natAbs:Int)=(Int.gcd a b:Int):=by rw [←hg];simp
  simp only [sM,Cz,gW,jz,aD,i3,bv,cN,a_,cX,i0,mX,o6,aN,au,lH,ac,vC,bL,ai,aa,aO,aL,ce,jM,uc,j4,C7,ig,ud,jN,o_,eg,cW,cw,bE,sO,dS,gh,ki,cT,bM,oX,rV,bj,aq,aj,bh,bT,aJ,bi,rh,dh,eO,cJ,fK,ib,h_,hX,hV,eP,dM,eQ,dn,eN,mC,j6,jm,mD,jq,ia,jo,jp,eS,eR,dq,eT,mE,jc,ij,jd,je,ml,dk,dj,dJ,hZ,List.replicate, -List.map_nil, -List.map_cons, -List.nil_append, -List.cons_append, -Option.bind_some, -Option.map_some, -getElem?_pos, -List.append_nil,my,mw,mq,mn,ms,mv,mr,mz]
  simp? [hs,hg']
theorem Ac(t b:Int)(hb:0 < b)(h:Bt 4000 b):mH [.d (.int t),.d (.int b)]=some (.d (.tuple [.int (bC t b).1,.int (bC t b).2]),[.d (.int t),.d (.int b)]):=by
  have g0:=qQ (t:=t) (b:=b) (by lia)
  have g1:(Int.gcd t b:Int)≠0:=by lia
  have g8:Bt 8000 (Int.gcd t b:Int):=(yu (t:=t) (by lia) h).mono (by decide)
  have e:bC t b=(t.fdiv (Int.gcd t b:Int),b.fdiv (Int.gcd t b:Int)):=by unfold bC;rw [if_neg (by lia)]
  rw [e]
  simp? [mH,CA,GM t b h,vG g1 g8]
theorem CF{i:Int}{n:Nat}(h1: -2147483648 < i)(h2:i < 2147483648)(hn:31≤n):Bt n i:=Bt.mono (m:=31) (by unfold Bt;lia) hn
def yf(t b:Int):Prop:=0≤t∧t≤b∧1≤b∧b≤100∧Int.gcd t b=1
theorem Ab(n k:Int)(hn:0≤n):∃t b,eW [.d (.int n),.d (.int k)]=some (.d (.tuple [.int t,.int b]),[.d (.int n),.d (.int k)])∧yf t b:=by
  have b9:Bt 8000 9:=lK (by decide) (by decide)
  have b100:Bt 8000 100:=lK (by decide) (by decide)
  have low:∀t b:Int,0 < b→0≤t→t≤b→b≤100→yf (bC t b).1 (bC t b).2:=fun t b hb h0 h1 h2=>by
    obtain⟨r1,r2,r3,r4⟩:=uE hb h0 h1 h2
    exact⟨r1,r2,r3,r4,nP (by lia)⟩
  by_cases c0:k=0
  · subst c0
    obtain⟨x,hx,ha⟩:=eh (xs:=[PyData.tuple [.int 1,.int 2],.tuple [.int 1,.int 3],.tuple [.int 2,.int 3],.tuple [.int 1,.int 1],.tuple [.int 0,.int 1],.tuple [.int 3,.int 4]]) (i:=n % 6) (by lia) (by simp;lia)
    obtain⟨t,b,rfl,hc⟩:∃t b,x=.tuple [.int t,.int b]∧yf t b:=by
      simp only [List.mem_cons,List.not_mem_nil,or_false] at hx
      rcases hx with rfl | rfl | rfl | rfl | rfl | rfl<;>exact⟨_,_,rfl,by unfold yf;decide⟩
    exact⟨t,b,by simp? [eW,jg,aS,ha],hc⟩
  · by_cases c1:k=1
    · subst c1
      have hm:(n / 9) % (2+n % 9 - 1) < 2+n % 9 - 1:=Int.emod_lt_of_pos _ (by lia)
      have hm0:0≤(n / 9) % (2+n % 9 - 1):=Int.emod_nonneg _ (by lia)
      refine⟨_,_,?_,low (1+(n / 9) % (2+n % 9 - 1)) (2+n % 9) (by lia) (by lia) (by lia) (by lia)⟩
      have hpos:∀e:En,a9 e (.d (.int (n / 9))) (.d (.int (2+n % 9 - 1)))=_:=fun e=>aS (by lia)
      have hl:=Ac (1+(n / 9) % (2+n % 9 - 1)) (2+n % 9) (by lia) (CF (by lia) (by lia) (by decide))
      simp? [eW,jg,aS,el,b9,hpos,hl]
    · by_cases c2:k=2
      · subst c2
        have hm:(n / 100) % (1+n % 100+1) < 1+n % 100+1:=Int.emod_lt_of_pos _ (by lia)
        have hm0:0≤(n / 100) % (1+n % 100+1):=Int.emod_nonneg _ (by lia)
        refine⟨_,_,?_,low ((n / 100) % (1+n % 100+1)) (1+n % 100) (by lia) (by lia) (by lia) (by lia)⟩
        have hpos:∀e:En,a9 e (.d (.int (n / 100))) (.d (.int (1+n % 100+1)))=_:=fun e=>aS (by lia)
        have hl:=Ac ((n / 100) % (1+n % 100+1)) (1+n % 100) (by lia) (CF (by lia) (by lia) (by decide))
        simp? [eW,jg,aS,el,b100,hpos,hl]
      · refine⟨1,1,?_,by unfold yf;decide⟩
        simp? [eW,jg,c0,c1,c2]
theorem Ce(n k:Int):∃r,k8 [.d (.int n),.d (.int k)]=some (.d (.int r),[.d (.int n),.d (.int k)])∧0≤r∧r≤1000:=by
  obtain⟨x,hx,ha⟩:=eh (xs:=[PyData.int (n % 7),.int (5+n % 2),.int (n % 1001),.int (1000 - n % 3)]) (i:=k % 4) (by lia) (by simp;lia)
  obtain⟨r,rfl,hr⟩:∃r,x=.int r∧0≤r∧r≤1000:=by
    simp only [List.mem_cons,List.not_mem_nil,or_false] at hx
    rcases hx with rfl | rfl | rfl | rfl<;>exact⟨_,rfl,by lia,by lia⟩
  exact⟨r,by simp? [k8,vz,aS,ha],hr⟩
abbrev tE(ds:List Int)(things many shape odds ws:Int)(ts:List qo)(v7 v8 v9 v10 v11 v12:Option Sv):En:=[some (.l (ds.map .int)),some (.d (.int things)),some (.d (.int many)),some (.d (.int shape)),some (.d (.int odds)),some (.d (.int ws)),some (.l (ts.map gf)),v7,v8,v9,v10,v11,v12]
inductive TR (things many shape odds ws:Int) (ts:List qo) (k:Option Sv):En→Prop
  | mk {t ds w8 w9 w10 w11 w12} (hd:gZ ds) (ht:t.Ok things):TR things many shape odds ws ts k (tE ds things many shape odds ws (ts++[t]) k w8 w9 w10 w11 w12)
inductive TI (things many a b c:Int) (i:Nat):En→Prop
  | mk {ts ds w7 w8 w9 w10 w11 w12} (hd:gZ ds) (hl:ts.length=i) (ht:∀t∈ts,t.Ok things):TI things many a b c i (tE ds things many a b c ts w7 w8 w9 w10 w11 w12)
theorem GO(ds:List Int)(things many shape odds ws:Int)(ts:List qo)(k:Int)(v8 v9 v10 v11 v12:Option Sv)(hd:gZ ds)(h2:2≤things)(h12:things≤100)(s0:0≤shape)(s1:shape < 6)(k0:0≤k)(hl:ts.length≤1000):
    ∃e',iA (tE ds things many shape odds ws ts (some (.d (.int k))) v8 v9 v10 v11 v12)=some (.nx e')∧TR things many shape odds ws ts (some (.d (.int k))) e':=by
  obtain⟨n,d1,tn, -, -,hd1⟩:=gM hd
  obtain⟨m,d2,tm,m0, -,hd2⟩:=gM hd1
  obtain⟨x,hx,ha⟩:=eh (xs:=[PyData.int (n % things),.int 0,.int (k % things),.int (n % things),.int (n % 2),.int (n % things)]) (i:=shape) s0 (by simp;lia)
  have tp:0 < things:=Int.lt_of_lt_of_le (by decide) h2
  have tq:0 < things - 1:=Int.sub_pos_of_lt (Int.lt_of_lt_of_le (by decide) h2)
  have nt:0≤n % things∧n % things < things:=⟨As tp,Au tp⟩
  have kt:0≤k % things∧k % things < things:=⟨As tp,Au tp⟩
  obtain⟨one,rfl,o0,o1⟩:∃r,x=.int r∧0≤r∧r < things:=by
    simp only [List.mem_cons,List.not_mem_nil,or_false] at hx
    rcases hx with rfl | rfl | rfl | rfl | rfl | rfl<;>exact⟨_,rfl,by lia,by lia⟩
  have r0:0≤(n / 12) % (things - 1):=As tq
  have r1:(n / 12) % (things - 1) < things - 1:=Au tq
  have q0:0≤(one+1+(n / 12) % (things - 1)) % things:=As tp
  have q1:(one+1+(n / 12) % (things - 1)) % things < things:=Au tp
  have qn:(one+1+(n / 12) % (things - 1)) % things≠one:=fun z=>by
    by_cases c:one+1+(n / 12) % (things - 1) < things
    · rw [Int.emod_eq_of_lt (by lia) c] at z;lia
    · have e:(one+1+(n / 12) % (things - 1)) % things=(one+1+(n / 12) % (things - 1) - things) % things:=by rw [Int.sub_emod_right]
      rw [e,Int.emod_eq_of_lt (by lia) (by lia)] at z;lia
  obtain⟨t,b,c1,c2,c3,c4,c5,c6⟩:=Ab m odds m0
  obtain⟨w,w1,w2,w3⟩:=Ce (m / 10007) ws
  have b12:Bt 8000 12:=lK (by decide) (by decide)
  have b107:Bt 8000 10007:=lK (by decide) (by decide)
  have g1:∀(e:En) (i:Int),a9 e (.d (.int i)) (.d (.int things))=some (.d (.int (i % things))):=fun e i=>aS tp
  have g2:∀(e:En) (i:Int),a9 e (.d (.int i)) (.d (.int (things - 1)))=some (.d (.int (i % (things - 1)))):=fun e i=>aS tq
  have hlen:ts.length < 1000000:=by lia
  by_cases c:shape=4
  · subst c
    refine⟨tE d2 things many 4 odds ws (ts++[⟨0,1,t,b,w⟩]) (some (.d (.int k))) (some (.d (.int n))) (some (.d (.int 0))) (some (.d (.int 1))) (some (.d (.int m))) (some (.d (.tuple [.int 0,.int 1]))),?_,.mk hd2 ⟨by show(0:Int)≤0;decide,by show(0:Int) < 1;decide,by show(1:Int) < things;lia,c2,c3,c4,c5,w2,w3,c6⟩⟩
    simp? [tE,iA,tn,tm,aS,g1,g2,el,b12,b107,ha,c1,w1,jl,gf,hlen]
    decide
  · refine⟨tE d2 things many shape odds ws (ts++[⟨min one ((one+1+(n / 12) % (things - 1)) % things),max one ((one+1+(n / 12) % (things - 1)) % things),t,b,w⟩]) (some (.d (.int k))) (some (.d (.int n))) (some (.d (.int one))) (some (.d (.int ((one+1+(n / 12) % (things - 1)) % things)))) (some (.d (.int m))) (some (.d (.tuple [.int (min one ((one+1+(n / 12) % (things - 1)) % things)),.int (max one ((one+1+(n / 12) % (things - 1)) % things))]))),?_,.mk hd2 ⟨by show 0≤min _ _;lia,by show min _ _ < max _ _;lia,by show max _ _ < _;lia,c2,c3,c4,c5,w2,w3,c6⟩⟩
    simp? [tE,iA,tn,tm,aS,g1,g2,el,b12,b107,ha,c1,w1,jl,gf,hlen,c]
theorem EV(ds:List Int)(things many:Int)(hd:gZ ds)(h2:2≤things)(h12:things≤100)(m0:0≤many)(m1:many≤1000):∃(ts:List qo) (ds':List Int),nU [.l (ds.map .int),.d (.int things),.d (.int many)]=some (.d (.tuple (ts.map gf)),[.l (ds'.map .int),.d (.int things),.d (.int many)])∧gZ ds'∧(ts.length:Int)=many∧∀t∈ts,t.Ok things:=by
  obtain⟨n0,d1,t0, -, -,hd1⟩:=gM hd
  obtain⟨n1,d2,t1, -, -,hd2⟩:=gM hd1
  obtain⟨n2,d3,t2, -, -,hd3⟩:=gM hd2
  obtain⟨e',h1,hI⟩:=dI (own:=[]) (g:=aj 7) (f:=iA) (TI things many (n0 % 6) (n1 % 4) (n2 % 4)) (bx 0 many.toNat) 0 (tE d3 things many (n0 % 6) (n1 % 4) (n2 % 4) [] none none none none none none) (fun i x e hx hI=>by
    obtain⟨rfl,hi⟩:=ey hx
    obtain⟨hd',hl,ht⟩:=hI
    rename_i ts ds' w7 w8 w9 w10 w11 w12
    obtain⟨e9,s1,⟨s2,s3⟩⟩:=GO ds' things many (n0 % 6) (n1 % 4) (n2 % 4) ts (0+(i:Int)) w8 w9 w10 w11 w12 hd' h2 h12 (As (by decide)) (Au (by decide)) (by lia) (by lia)
    exact⟨_,_,rfl,s1,cy,.mk s2 (by simp;lia) fun z hz=>by
      rcases List.mem_append.mp hz with hz | hz
      · exact ht z hz
      · simp at hz;subst hz;exact s3⟩) (.mk hd3 rfl fun t ht=>by cases ht)
  obtain⟨hd',hl,ht⟩:=hI
  rename_i ts ds' w7 w8 w9 w10 w11 w12
  refine⟨ts,ds',?_,hd',by rw [hl,eA];lia,ht⟩
  have hf:∀W,ef W nL (aj 7) iA (tE d3 things many (n0 % 6) (n1 % 4) (n2 % 4) [] none none none none none none)=some (.nx (tE ds' things many (n0 % 6) (n1 % 4) (n2 % 4) ts w7 w8 w9 w10 w11 w12)):=fun W=>by
    rw [ic (show nL _=some (bx 0 many.toNat,[],tE d3 things many (n0 % 6) (n1 % 4) (n2 % 4) [] none none none none none none) from en (n:=many) (by simp? [tE]) (by lia) (by lia))]
    exact h1
  unfold tE at hf
  simp only [List.map_nil] at hf
  simp? [nU,x4,t0,t1,t2,aS,hf]
abbrev wE(ds:List Int)(most tn things many:Int)(ts:List qo)(way:Int)(ps:List Int)(v8 v9:Option Sv):En:=[some (.l (ds.map .int)),some (.d (.int most)),some (.d (.int tn)),some (.d (.int things)),some (.d (.int many)),some (.d (.tuple (ts.map gf))),some (.d (.int way)),some (.l (ps.map .int)),v8,v9]
inductive WI (most tn things many:Int) (ts:List qo) (way:Int) (i:Nat):En→Prop
  | mk {ps ds w8} (hd:gZ ds) (hpl:ps.length=i) (hps:∀p∈ps,0≤p∧p≤20):WI most tn things many ts way i (wE ds most tn things many ts way ps w8 none)
theorem GP(ds:List Int)(most tn:Int)(hd:gZ ds)(m0:0≤most)(m1:most≤12)(k0:0≤tn)(k1:tn≤16):∃(W:aT) (ds':List Int),sN [.l (ds.map .int),.d (.int most),.d (.int tn)]=some (.d (bU W),[.l (ds'.map .int),.d (.int most),.d (.int tn)])∧gZ ds'∧W.Ok∧W.things≤most∧(W.ties.length:Int)≤tn:=by
  obtain⟨n0,d1,t0, -, -,hd1⟩:=gM hd
  obtain⟨n1,d2,t1, -, -,hd2⟩:=gM hd1
  have mp:0 < most+1:=Int.lt_add_one_of_le m0
  have kp:0 < tn+1:=Int.lt_add_one_of_le k0
  have g0:∀(e:En),a9 e (.d (.int n0)) (.d (.int (most+1)))=some (.d (.int (n0 % (most+1)))):=fun e=>aS mp
  have g1':∀(e:En),a9 e (.d (.int n1)) (.d (.int (tn+1)))=some (.d (.int (n1 % (tn+1)))):=fun e=>aS kp
  have th0:0≤n0 % (most+1):=As mp
  have th1:n0 % (most+1) < most+1:=Au mp
  have ti0:0≤n1 % (tn+1):=As kp
  have ti1:n1 % (tn+1) < tn+1:=Au kp
  clear mp kp
  generalize n0 % (most+1)=things at th0 th1 g0
  generalize n1 % (tn+1)=tm at ti0 ti1 g1'
  obtain⟨many,hmany,mm,m00,m01⟩:∃many:Int,many=tm*(if decide (1 < things)=true then 1 else 0)∧(1 < things∨many=0)∧0≤many∧many≤tn:=by
    by_cases c:1 < things
    · exact⟨tm,by simp [c],.inl c,ti0,by lia⟩
    · exact⟨0,by simp [c],.inr rfl,by lia,by lia⟩
  have gm:∀e:En,c_ e (.d (.int tm)) (.d (.int (if decide (1 < things)=true then 1 else 0)))=some (.d (.int many)):=fun e=>by
    rw [cV (rf (by split<;>decide) (by split<;>decide)),hmany]
  have gi:∀e:En,g1 sv e [.d (.bool (decide (1 < things)))]=some (.d (.int (if decide (1 < things)=true then 1 else 0))):=fun e=>rfl
  generalize (if decide (1 < things)=true then 1 else 0:Int)=one at gm gi
  obtain⟨ts,d3,t3,hd3,hlen,hts⟩:=EV d2 (max 2 things) many hd2 (by lia) (by lia) m00 (by lia)
  obtain⟨n4,d4,t4, -, -,hd4⟩:=gM hd3
  obtain⟨e',h1,hI⟩:=dI (own:=[]) (g:=aj 8) (f:=m5) (WI most tn things many ts (n4 % 3)) (bx 0 things.toNat) 0 (wE d4 most tn things many ts (n4 % 3) [] none none) (fun i x e hx hI=>by
    obtain⟨rfl,hi⟩:=ey hx
    obtain⟨hd5,hpl,hps⟩:=hI
    rename_i ps d5 w8
    obtain⟨p1,d6,t6, -, -,hd6⟩:=gM hd5
    obtain⟨p2,d7,t7, -, -,hd7⟩:=gM hd6
    obtain⟨z,hz,ha⟩:=eh (xs:=[PyData.int 20,.int (1+p1 % 3),.int (p2 % 21)]) (i:=n4 % 3) (As (by decide)) (Au (k:=3) (by decide))
    obtain⟨p,rfl,hp⟩:∃r,z=.int r∧0≤r∧r≤20:=by
      simp only [List.mem_cons,List.not_mem_nil,or_false] at hz
      rcases hz with rfl | rfl | rfl<;>exact⟨_,rfl,by lia,by lia⟩
    refine⟨wE d5 most tn things many ts (n4 % 3) ps (some (.d (.int (0+(i:Int))))) none,wE d7 most tn things many ts (n4 % 3) (ps++[p]) (some (.d (.int (0+(i:Int))))) none,rfl,?_,cy,.mk hd7 (by simp;lia) fun q hq=>by
      rcases List.mem_append.mp hq with hq | hq
      · exact hps q hq
      · simp at hq;subst hq;exact hp⟩
    have hlen:ps.length < 1000000:=by lia
    simp? [wE,m5,t6,t7,aS,ha,hlen]) (.mk hd4 rfl fun p hp=>by cases hp)
  obtain⟨hd5,hpl,hps⟩:=hI
  rename_i ps d5 w8
  have hf:∀W,ef W qS (aj 8) m5 (wE d4 most tn things many ts (n4 % 3) [] none none)=some (.nx (wE d5 most tn things many ts (n4 % 3) ps w8 none)):=fun W=>by
    rw [ic (show qS _=some (bx 0 things.toNat,[],wE d4 most tn things many ts (n4 % 3) [] none none) from en (n:=things) (by simp? [wE]) (by lia) (by lia))]
    exact h1
  obtain⟨p1,d6,t6, -, -,hd6⟩:=gM hd5
  obtain⟨p2,d7,t7, -, -,hd7⟩:=gM hd6
  obtain⟨p3,d8,t8, -, -,hd8⟩:=gM hd7
  have xp:0 < max 1 many:=Int.lt_of_lt_of_le Int.zero_lt_one (Int.le_max_left _ _)
  have gx:∀(e:En),a9 e (.d (.int p1)) (.d (.int (max 1 many)))=some (.d (.int (p1 % max 1 many))):=fun e=>aS xp
  have x0:0≤p1 % max 1 many:=As xp
  have x1:p1 % max 1 many < max 1 many:=Au xp
  obtain⟨z,hz,ha⟩:=eh (xs:=[PyData.int 40,.int (1+p1 % max 1 many),.int (p2 % 41)]) (i:=p3 % 3) (As (by decide)) (Au (k:=3) (by decide))
  obtain⟨asks,rfl,hasks⟩:∃r,z=.int r∧0≤r∧r≤40:=by
    simp only [List.mem_cons,List.not_mem_nil,or_false] at hz
    rcases hz with rfl | rfl | rfl<;>exact⟨_,rfl,by lia,by lia⟩
  rw [eA] at hpl
  refine⟨⟨things,ts,ps,asks⟩,d8,?_,hd8,⟨th0,by show things≤12;lia,fun t ht=>?_,by show ts.length≤16;lia,by show(ps.length:Int)=things;lia,hps,hasks.1,hasks.2⟩,by show things≤most;lia,by show(ts.length:Int)≤tn;lia⟩
  · unfold wE at hf
    simp only [List.map_nil] at hf
    simp? [sN,CC,t0,t1,g0,g1',gm,gi,t3,t4,aS,hf,t6,t7,t8,gx,ha,bU]
  · rcases mm with c | c
    · have:=hts t ht
      rw [show max 2 things=things by lia] at this
      exact this
    · have:ts=[]:=List.length_eq_zero_iff.mp (by lia)
      subst this;cases ht
theorem qe{W:aT}{asked:List Int}{thing:Int}(h:∀k∈asked,mf W k)(hl:asked.length≤1000):fU [.d (bU W),.d (.tuple (asked.map .int)),.d (.int thing)]=some (.d (.int (W.many asked thing)),[.d (bU W),.d (.tuple (asked.map .int)),.d (.int thing)]):=by
  let cs:En:=[some (.d (.int thing)),some (.d (bU W))]
  have hc:∀x∈asked.map PyData.int,eK (cs++[some (.d x)])=some (uM (fun k=>W.has k thing) x,cs++[some (.d x)]):=fun x hx=>by
    obtain⟨k,hk,rfl⟩:=List.mem_map.mp hx
    simp? [uM,cs,eK,bU,jf (h k hk),gf,aT.has]
  have he:∀x∈asked.map PyData.int,uM (fun k=>W.has k thing) x=true→eM (cs++[some (.d x)])=some (.d (id x),cs++[some (.d x)]):=fun x hx _=>by
    simp? [cs,eM]
  obtain⟨t',hf⟩:=di (cs:=cs) (ft:=eK) (fe:=eM) (b:=uM (fun k=>W.has k thing)) (y:=id) (asked.map PyData.int) none [] hc he (by simp;lia)
  have hv:=e_ (cp:=[(2,"_law_thing"),(0,"_law_web_here")]) (nT:=1) (fi:=mF) (g:=aj 2) (ft:=eK) (fe:=eM) (e:=[some (.d (bU W)),some (.d (.tuple (asked.map PyData.int))),some (.d (.int thing))]) (cs:=cs) (t:=[none]) (t':=[t']) (nM (fa:=ac 1) rfl) rfl rfl hf
  have hlen:(([]++List.map id (List.filter (uM (fun k=>W.has k thing)) (asked.map PyData.int))).length:Int)=W.many asked thing:=by
    unfold aT.many
    simp [List.filter_map]
    rfl
  simp only [fU,pf,gW,jz,aD,i3,bv,cN,a_,cX,i0,mX,o6,aN,au,lH,ac,vC,bL,ai,aa,aO,aL,ce,jM,uc,j4,C7,ig,ud,jN,o_,eg,cW,cw,bE,sO,dS,gh,ki,cT,bM,oX,rV,bj,aq,aj,bh,bT,aJ,bi,rh,dh,eO,cJ,fK,ib,h_,hX,hV,eP,dM,eQ,dn,eN,mC,j6,jm,mD,jq,ia,jo,jp,eS,eR,dq,eT,mE,jc,ij,jd,je,ml,dk,dj,dJ,hZ,List.replicate, -List.map_nil, -List.map_cons, -List.nil_append, -List.cons_append, -Option.bind_some, -Option.map_some, -getElem?_pos, -List.append_nil,my,mw,mq,mn,ms,mv,mr,mz]
  simp? [hv]
  simpa using hlen
theorem yZ{W:aT}(ok:W.Ok){thing:Int}(h0:0≤thing)(h1:thing < W.things):atI (W.pat.map PyData.int) thing=some (.int (W.pat.getD thing.toNat 0)):=xU h0 (by have:=ok.pl;lia)
theorem GN{W:aT}(ok:W.Ok){asked taken:List Int}{k:Int}(h:∀k∈asked,mf W k)(hl:asked.length≤1000)(hk:mf W k):k7 [.d (bU W),.d (lL asked taken),.d (.int k)]=some (.d (.bool (W.may asked taken k)),[.d (bU W),.d (lL asked taken),.d (.int k)]):=by
  have tk:=hk.ok ok
  have t0:=tk.o0
  have t1:=tk.o1
  have t2:=tk.o2
  have p1:=yZ ok (thing:=(W.tie k).one) (by lia) (by lia)
  have p2:=yZ ok (thing:=(W.tie k).other) (by lia) (by lia)
  have a1:=qe (W:=W) (asked:=asked) (thing:=(W.tie k).one) h hl
  have a2:=qe (W:=W) (asked:=asked) (thing:=(W.tie k).other) h hl
  rw [jj] at a1 a2 ⊢
  unfold aT.may aT.bears
  by_cases c1:asked.contains k=true
  · simp? [k7,ph,lL,c1]
    simp at c1
    simp [c1]
  · by_cases c2:W.asks≤(asked.length:Int)
    · have c1':k∉asked:=by simpa using c1
      simp? [k7,ph,lL,c1',c2]
    · have c1':k∉asked:=by simpa using c1
      have turn:∀(thing:Int) (v5:Option Sv),fU [.d (.tuple [.int W.things,.tuple (W.ties.map gf),.tuple (W.pat.map .int),.int W.asks]),.d (.tuple (asked.map .int)),.d (.int thing)]=some (.d (.int (W.many asked thing)),[.d (.tuple [.int W.things,.tuple (W.ties.map gf),.tuple (W.pat.map .int),.int W.asks]),.d (.tuple (asked.map .int)),.d (.int thing)])→atI (W.pat.map PyData.int) thing=some (.int (W.pat.getD thing.toNat 0))→
          iQ [some (.d (.tuple [.int W.things,.tuple (W.ties.map gf),.tuple (W.pat.map .int),.int W.asks])),some (.d (lL asked taken)),some (.d (.int k)),some (.d (.tuple (asked.map .int))),some (.d (.tuple (taken.map .int))),some (.d (.int thing))]=(if (!taken.contains thing&&decide (W.many asked thing < W.pat.getD thing.toNat 0))=true then some (.nx [some (.d (.tuple [.int W.things,.tuple (W.ties.map gf),.tuple (W.pat.map .int),.int W.asks])),some (.d (lL asked taken)),some (.d (.int k)),some (.d (.tuple (asked.map .int))),some (.d (.tuple (taken.map .int))),some (.d (.int thing))]) else some (.rt (.d (.bool false)) [some (.d (.tuple [.int W.things,.tuple (W.ties.map gf),.tuple (W.pat.map .int),.int W.asks])),some (.d (lL asked taken)),some (.d (.int k)),some (.d (.tuple (asked.map .int))),some (.d (.tuple (taken.map .int))),some (.d (.int thing))])):=by
        intro thing v5 ha hp
        by_cases d1:taken.contains thing=true
        · have d1':thing∈taken:=by simpa using d1
          simp? [iQ,d1']
        · have d1':thing∉taken:=by simpa using d1
          by_cases d2:W.many asked thing < W.pat.getD thing.toNat 0
          · have d2':¬W.pat.getD thing.toNat 0≤W.many asked thing:=by lia
            simp only [List.getD_eq_getElem?_getD] at d2 d2' hp
            simp? [iQ,d1',ha,hp,d2,d2']
          · have d2':W.pat.getD thing.toNat 0≤W.many asked thing:=by lia
            simp only [List.getD_eq_getElem?_getD] at d2 d2' hp
            simp? [iQ,d1',ha,hp,d2,d2']
      have u1:=turn (W.tie k).one none a1 p1
      have u2:=turn (W.tie k).other none a2 p2
      have hf:∀Wl,ef Wl vK (aj 5) iQ [some (.d (.tuple [.int W.things,.tuple (W.ties.map gf),.tuple (W.pat.map .int),.int W.asks])),some (.d (lL asked taken)),some (.d (.int k)),some (.d (.tuple (asked.map .int))),some (.d (.tuple (taken.map .int))),none]=kj [] (aj 5) iQ [.int (W.tie k).one,.int (W.tie k).other] [some (.d (.tuple [.int W.things,.tuple (W.ties.map gf),.tuple (W.pat.map .int),.int W.asks])),some (.d (lL asked taken)),some (.d (.int k)),some (.d (.tuple (asked.map .int))),some (.d (.tuple (taken.map .int))),none]:=fun Wl=>by
        rw [ic]
        exact nM (by simp? [jf hk,gf])
      unfold lL at u1 u2 hf ⊢
      by_cases e1:(!taken.contains (W.tie k).one&&decide (W.many asked (W.tie k).one < W.pat.getD (W.tie k).one.toNat 0))=true
      · by_cases e2:(!taken.contains (W.tie k).other&&decide (W.many asked (W.tie k).other < W.pat.getD (W.tie k).other.toNat 0))=true
        · rw [if_pos e1] at u1
          rw [if_pos e2] at u2
          rw [e1,e2]
          simp only [k7,ph,gW,jz,aD,i3,bv,cN,a_,cX,i0,mX,o6,aN,au,lH,ac,vC,bL,ai,aa,aO,aL,ce,jM,uc,j4,C7,ig,ud,jN,o_,eg,cW,cw,bE,sO,dS,gh,ki,cT,bM,oX,rV,bj,aq,aj,bh,bT,aJ,bi,rh,dh,eO,cJ,fK,ib,h_,hX,hV,eP,dM,eQ,dn,eN,mC,j6,jm,mD,jq,ia,jo,jp,eS,eR,dq,eT,mE,jc,ij,jd,je,ml,dk,dj,dJ,hZ,List.replicate, -List.map_nil, -List.map_cons, -List.nil_append, -List.cons_append, -Option.bind_some, -Option.map_some, -getElem?_pos, -List.append_nil,my,mw,mq,mn,ms,mv,mr,mz]
          simp? [c1',c2,hf,kj,u1,u2,cy]
        · rw [if_pos e1] at u1
          rw [if_neg e2] at u2
          rw [e1,Bool.not_eq_true _ |>.mp e2]
          simp only [k7,ph,gW,jz,aD,i3,bv,cN,a_,cX,i0,mX,o6,aN,au,lH,ac,vC,bL,ai,aa,aO,aL,ce,jM,uc,j4,C7,ig,ud,jN,o_,eg,cW,cw,bE,sO,dS,gh,ki,cT,bM,oX,rV,bj,aq,aj,bh,bT,aJ,bi,rh,dh,eO,cJ,fK,ib,h_,hX,hV,eP,dM,eQ,dn,eN,mC,j6,jm,mD,jq,ia,jo,jp,eS,eR,dq,eT,mE,jc,ij,jd,je,ml,dk,dj,dJ,hZ,List.replicate, -List.map_nil, -List.map_cons, -List.nil_append, -List.cons_append, -Option.bind_some, -Option.map_some, -getElem?_pos, -List.append_nil,my,mw,mq,mn,ms,mv,mr,mz]
          simp? [c1',c2,hf,kj,u1,u2,cy]
      · rw [if_neg e1] at u1
        rw [Bool.not_eq_true _ |>.mp e1]
        simp only [k7,ph,gW,jz,aD,i3,bv,cN,a_,cX,i0,mX,o6,aN,au,lH,ac,vC,bL,ai,aa,aO,aL,ce,jM,uc,j4,C7,ig,ud,jN,o_,eg,cW,cw,bE,sO,dS,gh,ki,cT,bM,oX,rV,bj,aq,aj,bh,bT,aJ,bi,rh,dh,eO,cJ,fK,ib,h_,hX,hV,eP,dM,eQ,dn,eN,mC,j6,jm,mD,jq,ia,jo,jp,eS,eR,dq,eT,mE,jc,ij,jd,je,ml,dk,dj,dJ,hZ,List.replicate, -List.map_nil, -List.map_cons, -List.nil_append, -List.cons_append, -Option.bind_some, -Option.map_some, -getElem?_pos, -List.append_nil,my,mw,mq,mn,ms,mv,mr,mz]
        simp? [c1',c2,hf,kj,u1,cy]
theorem tW{W:aT}{asked taken:List Int}{k:Int}(truth:Bool)(hk:mf W k)(h1:asked.length < 60)(h2:taken.length < 60):eV [.d (bU W),.d (lL asked taken),.d (.int k),.d (.bool truth)]=some (.d (lL (aT.askd asked k) (W.took taken k truth)),[.d (bU W),.d (lL asked taken),.d (.int k),.d (.bool truth)]):=by
  have s1:∀e,g1 iT e [.d (.tuple (asked.map PyData.int++[.int k]))]=some (.l ((jK (asked++[k])).map .int)):=fun e=>by
    have:=nK (e:=e) (ns:=asked++[k]) (by simp;lia)
    simpa using this
  have s2:∀e,g1 iT e [.d (.tuple (taken.map PyData.int++[.int (W.tie k).one,.int (W.tie k).other]))]=some (.l ((jK (taken++[(W.tie k).one,(W.tie k).other])).map .int)):=fun e=>by
    have:=nK (e:=e) (ns:=taken++[(W.tie k).one,(W.tie k).other]) (by simp;lia)
    simpa using this
  have g1':∀e,bD e (.d (.tuple (asked.map .int))) (.d (.tuple [.int k]))=some (.d (.tuple (asked.map .int++[.int k]))):=fun e=>jl (by simp;lia)
  have g2':∀e,bD e (.d (.tuple (taken.map .int))) (.d (.tuple [.int (W.tie k).one,.int (W.tie k).other]))=some (.d (.tuple (taken.map .int++[.int (W.tie k).one,.int (W.tie k).other]))):=fun e=>jl (by simp;lia)
  rw [jj]
  cases truth with
  | true=>simp? [eV,nu,lL,jf hk,gf,g1',g2',s1,s2,aT.askd,aT.took]
  | false=>simp? [eV,nu,lL,g1',s1,aT.askd,aT.took]
theorem xB{W:aT}(ok:W.Ok){asked taken:List Int}(h:∀k∈asked,mf W k)(hl:asked.length≤1000):iI [.d (bU W),.d (lL asked taken)]=some (.l ((W.can asked taken).map .int),[.d (bU W),.d (lL asked taken)]):=by
  let cs:En:=[some (.d (bU W)),some (.d (lL asked taken))]
  have wl:=ok.len
  have hc:∀x∈bx 0 W.ties.length,eJ (cs++[some (.d x)])=some (uM (fun k=>W.may asked taken k) x,cs++[some (.d x)]):=fun x hx=>by
    obtain⟨i,hi⟩:=List.getElem?_of_mem hx
    obtain⟨rfl,hi⟩:=ey hi
    have:=GN ok (taken:=taken) h hl (k:=0+(i:Int)) ⟨by lia,by lia⟩
    simp only [Int.zero_add] at this
    simp? [uM,cs,eJ,this]
  have he:∀x∈bx 0 W.ties.length,uM (fun k=>W.may asked taken k) x=true→eL (cs++[some (.d x)])=some (.d (id x),cs++[some (.d x)]):=fun x hx _=>by
    simp? [cs,eL]
  obtain⟨t',hf⟩:=di (cs:=cs) (ft:=eJ) (fe:=eL) (b:=uM (fun k=>W.may asked taken k)) (y:=id) (bx 0 W.ties.length) none [] hc he (by rw [eA];simp;lia)
  have hv:=e_ (cp:=[(0,"_law_web_here"),(1,"_law_stand")]) (nT:=1) (fi:=js) (g:=aj 2) (ft:=eJ) (fe:=eL) (e:=[some (.d (bU W)),some (.d (lL asked taken))]) (cs:=cs) (t:=[none]) (t':=[t']) (show js [some (.d (bU W)),some (.d (lL asked taken))]=some (bx 0 W.ties.length,[],[some (.d (bU W)),some (.d (lL asked taken))]) from en (n:=(W.ties.length:Int)) (by rw [jj];simp? [List.replicate]) (by lia) (by lia)) rfl rfl hf
  rw [List.nil_append,List.map_id,xm] at hv
  simp only [iI,pe,gW,jz,aD,i3,bv,cN,a_,cX,i0,mX,o6,aN,au,lH,ac,vC,bL,ai,aa,aO,aL,ce,jM,uc,j4,C7,ig,ud,jN,o_,eg,cW,cw,bE,sO,dS,gh,ki,cT,bM,oX,rV,bj,aq,aj,bh,bT,aJ,bi,rh,dh,eO,cJ,fK,ib,h_,hX,hV,eP,dM,eQ,dn,eN,mC,j6,jm,mD,jq,ia,jo,jp,eS,eR,dq,eT,mE,jc,ij,jd,je,ml,dk,dj,dJ,hZ,List.replicate, -List.map_nil, -List.map_cons, -List.nil_append, -List.cons_append, -Option.bind_some, -Option.map_some, -getElem?_pos, -List.append_nil,my,mw,mq,mn,ms,mv,mr,mz]
  simp? [hv]
def gE(ds:List Int)(W:aT)(most:Int)(T:List Nd)(ws:List Wt)(v5 v6 v7 v8 v9 v10:Option Sv):En:=[some (.l (ds.map .int)),some (.d (bU W)),some (.d (.int most)),some (.n (T.map wR)),some (.l (ws.map AH)),v5,v6,v7,v8,v9,v10]
inductive GT (W:aT) (most:Int) (T:List Nd) (ws:List Wt):En→Prop
  | mk {ds T' S' ws' u5 u6 u7 u8 u9 u10} (hd:gZ ds) (hG:qi W T' S' ws') (hU:vj T' ws') (hc:(T'.length=T.length∧ws'.length=ws.length)∨((T.length:Int) < most∧T'.length=T.length+1∧ws'.length=ws.length+2)):GT W most T ws (gE ds W most T' ws' u5 u6 u7 u8 u9 u10)
noncomputable abbrev gC:FT:=jM (aN (au (bO true) (ac 8) (bL ai))) (jM (aN (au xN (fC 3) (ac 2))) (uc (aN (au (bO true) (au a9 (ac 9) (vC (.int 7))) (vC (.int 6)))) (aN (au xN (ac 6) (vC (.int 0))))))
noncomputable abbrev gP:FS:=i3 (aN (au AQ (ac 6) (vC (.int 0)))) (p0 3 (fC 3) (ac 6) (wX (nC 1) (wY 7))) cN
noncomputable abbrev gA(b:Bool)(i:Int):FS:=cX (cw bE (ac 4) (aa (aO (aa (ce 4 eV (aa (ac 1) (aa (ac 5) (aa (ac 10) (aa (vC (.bool b)) ai))))) (aa (fC 3) (aa (vC (.int i)) ai)))) ai))
theorem EW{W:aT}(ok:W.Ok){ds:List Int}{most:Int}{T:List Nd}{S:Nat→dw}{w:Wt}{ws:List Wt}{v5 v6 v7 v8 v9 v10:Option Sv}(hd:gZ ds)(h:qi W T S (w::ws))(hu:vj T (w::ws))(hT:T.length≤1000)(hw:ws.length≤5000):
    ∃e',iz (gE ds W most T (w::ws) v5 v6 v7 v8 v9 v10)=some (.nx e')∧GT W most T ws e':=by
  obtain⟨n,d1,t1, -, -,hd1⟩:=gM hd
  obtain⟨hs,hp⟩:=h.wt w (by simp)
  have hl:=hs.len
  have hl2:=hs.tk
  have wl:=ok.len
  have ta:=xB ok (asked:=w.st.1) (taken:=w.st.2) hs.inw (by lia)
  let E:List Nd→List Wt→Option Sv→En:=fun T ws v10=>gE d1 W most T ws (some (.d (lL w.st.1 w.st.2))) (some (.d (.int w.par))) (some (.d (.int w.side))) (some (.l ((W.can w.st.1 w.st.2).map .int))) (some (.d (.int n))) v10
  have pre:∀R,(i3 gC (aD (a_ 10 (au cD (ac 8) (au a9 (au dm (ac 9) (vC (.int 7))) (aL (g1 fL) (aa (ac 8) ai))))) (aD gP (aD (gA true 0) (aD (gA false 1) (cX (ua 3 (bL (aa (ac 10) (aa (lH kQ (vC (.int 1))) (aa (lH kQ (vC (.int 1))) ai)))))))))) cN (E T ws v10)=R)→iz (gE ds W most T (w::ws) v5 v6 v7 v8 v9 v10)=R:=fun R hR=>by
    refine(cn (e1:=gE ds W most T ws (some (.d (lL w.st.1 w.st.2))) (some (.d (.int w.par))) (some (.d (.int w.side))) v8 v9 v10) ?_).trans ((cn (e1:=gE ds W most T ws (some (.d (lL w.st.1 w.st.2))) (some (.d (.int w.par))) (some (.d (.int w.side))) (some (.l ((W.can w.st.1 w.st.2).map .int))) v9 v10) ?_).trans ((cn (e1:=E T ws v10) ?_).trans hR))
    · simp? [gE,AH]
    · simp? [gE,ta]
    · simp? [gE,E,t1]
  have q8:∀e:En,e[8]?=some (some (.l ((W.can w.st.1 w.st.2).map .int)))→bO true e (.s 8) (.l [])=some (.d (.bool (!((W.can w.st.1 w.st.2).map PyData.int).isEmpty))):=fun e he=>by
    have:=kP (neg:=true) he (jJ _).1
    simpa using this
  have gm:∀e:En,a9 e (.d (.int n)) (.d (.int 7))=some (.d (.int (n % 7))):=fun e=>aS (by decide)
  have tst:gC (E T ws v10)=some (!(W.can w.st.1 w.st.2).isEmpty&&(decide ((T.length:Int) < most)&&(!(n % 7==6) || decide (w.par < 0))),E T ws v10):=by
    by_cases c1:W.can w.st.1 w.st.2=[]
    · rw [c1] at q8
      simp? [E,gC,gE,q8,c1]
    · by_cases c2:(T.length:Int) < most
      · by_cases c3:n % 7=6
        · simp? [E,gC,gE,q8,gm,c1,c2,c3,fC,ci]
        · simp? [E,gC,gE,q8,gm,c1,c2,c3,fC,ci]
      · simp? [E,gC,gE,q8,c1,c2,fC,ci]
  cases hb:(!(W.can w.st.1 w.st.2).isEmpty&&(decide ((T.length:Int) < most)&&(!(n % 7==6) || decide (w.par < 0)))) with
  | false=>
    rw [hb] at tst
    exact⟨E T ws v10,pre _ (C1 tst),.mk hd1 h.less hu.less (.inl ⟨rfl,rfl⟩)⟩
  | true=>
    rw [hb] at tst
    simp only [Bool.and_eq_true,Bool.or_eq_true,Bool.not_eq_true',decide_eq_true_eq] at hb
    obtain⟨c1,c2,c3⟩:=hb
    have cl:0 < (W.can w.st.1 w.st.2).length:=by
      cases z:W.can w.st.1 w.st.2 with
      | nil=>rw [z] at c1;cases c1
      | cons a r=>simp
    have gd:∀e:En,dm e (.d (.int n)) (.d (.int 7))=some (.d (.int (n / 7))):=fun e=>el (by decide) (lK (by decide) (by decide))
    have gx:∀e:En,a9 e (.d (.int (n / 7))) (.d (.int (W.can w.st.1 w.st.2).length))=some (.d (.int (n / 7 % (W.can w.st.1 w.st.2).length))):=fun e=>aS (by lia)
    have x0:0≤n / 7 % ((W.can w.st.1 w.st.2).length:Int):=Int.emod_nonneg _ (by lia)
    have x1:n / 7 % ((W.can w.st.1 w.st.2).length:Int) < (W.can w.st.1 w.st.2).length:=Int.emod_lt_of_pos _ (by lia)
    obtain⟨z,hz,hat⟩:=eh (xs:=(W.can w.st.1 w.st.2).map PyData.int) x0 (by rw [List.length_map];exact x1)
    obtain⟨k,hk,rfl⟩:=List.mem_map.mp hz
    obtain⟨k1,k2⟩:=AC hk
    have b1:=tW (W:=W) (asked:=w.st.1) (taken:=w.st.2) true k1 (by lia) (by lia)
    have b2:=tW (W:=W) (asked:=w.st.1) (taken:=w.st.2) false k1 (by lia) (by lia)
    have more:=h.more ok k1 k2
    refine⟨E ((if 0≤w.par then T.modify w.par.toNat (fun x=>gU x w.side T.length) else T)++[⟨k, -1, -1⟩]) (ws++[⟨L2.nxt W w.st k true,T.length,0⟩,⟨L2.nxt W w.st k false,T.length,1⟩]) (some (.d (.int k))),pre _ ((C2 tst).trans ?_),.mk hd1 more hu.more (.inr ⟨c2,by simp;split<;>simp,by simp⟩)⟩
    refine(cn (e1:=E T ws (some (.d (.int k)))) ?_).trans ?_
    · simp? [E,gE,gd,gx,hat]
    generalize hT':(if 0≤w.par then T.modify w.par.toNat (fun x=>gU x w.side T.length) else T)=T'
    have lT':T'.length=T.length:=by rw [←hT'];split<;>simp
    have hP:gP (E T ws (some (.d (.int k))))=some (.nx (E T' ws (some (.d (.int k))))):=by
      rcases hp with z | ⟨p,x,z1,z2,z3⟩
      · have g0:¬0≤w.par:=by lia
        rw [if_neg g0] at hT'
        subst hT'
        simp? [E,gP,gE,g0]
      · have g0:0≤w.par:=by lia
        have pt:w.par.toNat=p:=by lia
        have pl:p < T.length:=(List.getElem?_eq_some_iff.mp z2).1
        rw [if_pos g0,pt] at hT'
        have hix:mT T.length w.par=some p:=by unfold mT;rw [if_pos g0,if_pos (by lia),pt]
        have i1:mT 3 1=some 1:=rfl
        have i2:mT 3 2=some 2:=rfl
        rcases z3 with ⟨s0,s1⟩ | ⟨s0,s1⟩
        · have sl:=xr (n:=T.length) z2
          rw [s0] at hT'
          rw [hT'] at sl
          simp? [E,gP,gE,g0,fC,ci,p0,wX,nC,wY,hix,i1,i2,z2,s0,wR,←sl]
        · have sl:=xt (n:=T.length) z2
          rw [s0] at hT'
          rw [hT'] at sl
          simp? [E,gP,gE,g0,fC,ci,p0,wX,nC,wY,hix,i1,i2,z2,s0,wR,←sl]
    have wl1:ws.length < 1000000:=by lia
    have wl2:ws.length+1 < 1000000:=by lia
    have tl:T.length < 1000000:=by lia
    refine(cn hP).trans ((cn (e1:=E T' (ws++[⟨L2.nxt W w.st k true,T.length,0⟩]) (some (.d (.int k)))) ?_).trans ((cn (e1:=E T' (ws++[⟨L2.nxt W w.st k true,T.length,0⟩,⟨L2.nxt W w.st k false,T.length,1⟩]) (some (.d (.int k)))) ?_).trans ?_))
    · simp? [E,gA,gE,b1,wl1,lT',fC,ci,nxt,AH]
    · simp? [E,gA,gE,b2,wl2,lT',fC,ci,nxt,AH]
    · simp? [E,gE,lT',tl,ua,ci,wR]
def A_(i:Nat)(e:En):Nat:=match ci e i with
  | some x=>x.length
  | none=>0
def EX:PyData→PyData
  | .list xs=>.tuple xs
  | d=>d
inductive GI (W:aT) (most:Int):En→Prop
  | mk {ds T S ws v5 v6 v7 v8 v9 v10} (hd:gZ ds) (hG:qi W T S ws) (hT:(T.length:Int)≤most) (hws:ws.length≤T.length+1) (hU:vj T ws):GI W most (gE ds W most T ws v5 v6 v7 v8 v9 v10)
theorem Cb{W:aT}(ok:W.Ok){ds:List Int}{most:Int}(hd:gZ ds)(m0:0≤most)(m1:most≤400):∃ds' T S,kZ [.l (ds.map .int),.d (bU W),.d (.int most)]=some (.d (.tuple (T.map cB)),[.l (ds'.map .int),.d (bU W),.d (.int most)])∧gZ ds'∧fD W T S∧(T.length:Int)≤most∧vj T []:=by
  have q4:∀(ws:List Wt) (e:En),e[4]?=some (some (.l (ws.map AH)))→bO true e (.s 4) (.l [])=some (.d (.bool (!(ws.map AH).isEmpty))):=fun ws e he=>by
    have:=kP (neg:=true) he ((Sh.list (n:=8) fun d hd=>by
      obtain⟨k,_,rfl⟩:=List.mem_map.mp hd
      exact Sh.wt).ok (by decide))
    simpa using this
  have tst:∀ds T ws v5 v6 v7 v8 v9 v10,iC (gE ds W most T ws v5 v6 v7 v8 v9 v10)=some (!(ws.map AH).isEmpty,gE ds W most T ws v5 v6 v7 v8 v9 v10):=fun ds T ws v5 v6 v7 v8 v9 v10=>by
    have:=q4 ws (gE ds W most T ws v5 v6 v7 v8 v9 v10) rfl
    unfold gE at this ⊢
    simp? [iC,this]
  obtain⟨e0,e',hw,hI,hf⟩:=gQ (ft:=iC) (f:=iz)
    (GI W most)
    (fun e=>j7 4 e+2*(most.toNat - A_ 3 e)) (fun e hI=>by
      obtain⟨hd1,hG,hT,hws,hU⟩:=hI
      rename_i d1 T S ws v5 v6 v7 v8 v9 v10
      cases ws with
      | nil=>exact .inl ⟨_,tst _ _ _ _ _ _ _ _ _,trivial⟩
      | cons w ws=>
        obtain⟨e9,hb,⟨hd2,hG2,hU2,hc⟩⟩:=EW ok (most:=most) (v5:=v5) (v6:=v6) (v7:=v7) (v8:=v8) (v9:=v9) (v10:=v10) hd1 hG hU (by lia) (by simp at hws;lia)
        simp only [List.length_cons] at hws
        refine .inr ⟨_,_,tst _ _ _ _ _ _ _ _ _,hb,⟨hd2,hG2,?_,?_,hU2⟩,?_⟩
        · rcases hc with hc | hc<;>lia
        · rcases hc with hc | hc<;>lia
        · have l1:∀ds T ws v5 v6 v7 v8 v9 v10,j7 4 (gE ds W most T ws v5 v6 v7 v8 v9 v10)=ws.length:=fun ds T ws v5 v6 v7 v8 v9 v10=>by simp [gE,j7]
          have l2:∀ds T ws v5 v6 v7 v8 v9 v10,A_ 3 (gE ds W most T ws v5 v6 v7 v8 v9 v10)=T.length:=fun ds T ws v5 v6 v7 v8 v9 v10=>by simp [gE,A_,ci]
          simp only [l1,l2,List.length_cons]
          rcases hc with hc | hc<;>lia) (2 ^ 4200) (gE ds W most [] [⟨([],[]), -1,0⟩] none none none none none none)
    (.mk (S:=fun _=>([],[])) hd ⟨fun i x h=>(by simp at h),fun w hw=>(by simp at hw;subst hw;exact⟨lJ.first W,.inl rfl⟩),fun w hw=>(by simp at hw;subst hw;exact .inl rfl)⟩ m0 (by simp) vj.first)
    (kX (m:=20) (by simp [gE,j7,A_,ci];lia) (by decide))
  obtain⟨hd1,hG,hT,hws,hU⟩:=hI
  rename_i d1 T S ws v5 v6 v7 v8 v9 v10
  rw [tst] at hf
  have hw0:ws=[]:=by
    cases ws with
    | nil=>rfl
    | cons a r=>simp at hf
  subst hw0
  simp at hf
  subst hf
  refine⟨d1,T,S,?_,hd1,hG.tr,hT,hU⟩
  obtain⟨t',hc⟩:=di (cs:=[]) (ft:=cS) (fe:=jS) (b:=fun _=>true) (y:=EX) ((T.map wR).map PyData.list) none [] (fun x hx=>rfl) (fun x hx _=>by
    obtain⟨xs,_,rfl⟩:=List.mem_map.mp hx
    simp? [jS,EX]) (by simp;lia)
  have hv:=e_ (cp:=[]) (nT:=1) (fi:=pR) (g:=aj 0) (ft:=cS) (fe:=jS) (e:=gE d1 W most T [] v5 v6 v7 v8 v9 v10) (e1:=(gE d1 W most T [] v5 v6 v7 v8 v9 v10).set 3 (some (.d (.list ((T.map wR).map .list))))) (cs:=[]) (t:=[none]) (t':=[t']) rfl rfl rfl hc
  have hl:([]++(((T.map wR).map PyData.list).filter fun _=>true).map EX)=T.map cB:=by
    rw [List.nil_append,List.filter_eq_self.mpr (fun _ _=>rfl),List.map_map,List.map_map]
    exact List.map_congr_left fun x _=>rfl
  rw [hl] at hv
  have hw':gG (2 ^ 4200) iC iz (gE ds W most [] [⟨([],[]), -1,0⟩] none none none none none none)=some (.nx (gE d1 W most T [] v5 v6 v7 v8 v9 v10)):=hw
  unfold gE at hv hw'
  simp only [List.map_cons,List.map_nil,AH,lL] at hw' hv
  simp only [List.set_cons_succ,List.set_cons_zero] at hv
  simp? [kZ,vw,zQ,hw',hv]
def rE(ds:List Int)(T:List Nd)(ws order:List Int)(v4 v5 v6:Option Sv):En:=[some (.l (ds.map .int)),some (.d (.tuple (T.map cB))),some (.l (ws.map .int)),some (.l (order.map .int)),v4,v5,v6]
theorem Cc{W:aT}(ok:W.Ok){ds:List Int}{T:List Nd}{S:Nat→dw}{ws order:List Int}(hd:gZ ds)(h:fD W T S)(hw:∀w∈ws,0≤w∧w < (T.length:Int))(ho:∀w∈order,0≤w∧w < (T.length:Int))(h0:ws≠[])(hb:order.length+dO S ws≤65535):
    ∃ds' ws' w,cE (rE ds T ws order none none none)=some (.nx (rE ds' T ws' (order++[w]) none none none))∧gZ ds'∧(∀w∈ws',0≤w∧w < (T.length:Int))∧(0≤w∧w < (T.length:Int))∧dO S ws'+1≤dO S ws∧∃k,ws[k]?=some w∧ws'=ws.eraseIdx k++qV (bH T w):=by
  obtain⟨n,d1,t1, -, -,hd1⟩:=gM hd
  have hlen:0 < ws.length:=List.length_pos_iff.mpr h0
  have hl2:=pP ok h hw
  have gx:∀e:En,a9 e (.d (.int n)) (.d (.int ws.length))=some (.d (.int (n % ws.length))):=fun e=>aS (by lia)
  have x0:0≤n % (ws.length:Int):=Int.emod_nonneg _ (by lia)
  have x1:n % (ws.length:Int) < ws.length:=Int.emod_lt_of_pos _ (by lia)
  generalize n % (ws.length:Int)=j at gx x0 x1
  have hj:j.toNat < ws.length:=by lia
  have hw0:ws[j.toNat]?=some ws[j.toNat]:=List.getElem?_eq_getElem hj
  have hwm:ws[j.toNat]∈ws:=List.getElem_mem _
  have hpop:=pQ (S:=S) hj
  generalize ws[j.toNat]=w at hw0 hwm hpop
  obtain⟨w0,w1⟩:=hw w hwm
  have o:=h _ _ (dX w0 w1)
  have hh:=o.hang ok
  have j9:j < 1000000000:=by lia
  have ol:order.length < 1000000:=by lia
  let E:En:=rE d1 T (ws.eraseIdx j.toNat) (order++[w]) none none none
  obtain⟨t',hf⟩:=di (cs:=[]) (ft:=dB) (fe:=dH) (b:=uM fun l=>l != -1) (y:=id) [PyData.int (bH T w).yes,.int (bH T w).no] none [] (fun x hx=>by
    simp only [List.mem_cons,List.not_mem_nil,or_false] at hx
    rcases hx with rfl | rfl<;>simp? [dB,uM,bne]) (fun x hx _=>by
    simp? [dH]) (by simp)
  have hl:([]++([PyData.int (bH T w).yes,.int (bH T w).no].filter (uM fun l=>l != -1)).map id)=(qV (bH T w)).map .int:=by
    rw [List.nil_append,List.map_id,show [PyData.int (bH T w).yes,.int (bH T w).no]=[(bH T w).yes,(bH T w).no].map PyData.int from rfl,List.filter_map]
    rfl
  rw [hl] at hf
  have hi:gn E=some ([PyData.int (bH T w).yes,.int (bH T w).no],[],E):=by
    refine nM ?_
    have a1:atI (order.map PyData.int++[PyData.int w]) (-1)=some (.int w):=wz
    simp? [E,rE,a1,xV w0 w1,cB]
  have hv:=e_ (cp:=[]) (nT:=1) (fi:=gn) (g:=aj 0) (ft:=dB) (fe:=dH) (e:=E) (cs:=[]) (t:=[none]) (t':=[t']) hi rfl rfl hf
  have ln:(ws.eraseIdx j.toNat).length+(qV (bH T w)).length≤1000000:=by
    have:(qV (bH T w)).length≤2:=List.length_filter_le _ _
    rw [List.length_eraseIdx_of_lt hj]
    lia
  refine⟨d1,ws.eraseIdx j.toNat++qV (bH T w),w,?_,hd1,fun v hv=>?_,⟨w0,w1⟩,?_,j.toNat,hw0,rfl⟩
  · simp only [E,rE,List.map_append,List.map_cons,List.map_nil] at hv
    simp only [rE,cE,List.map_append,List.map_cons,List.map_nil]
    simp? [t1,gx,x0,j9,hw0,pK,ol,hv,Cj,ky,ln]
  · rcases List.mem_append.mp hv with hv | hv
    · exact hw v (List.mem_of_mem_eraseIdx hv)
    · exact DK o v hv
  · rw [wL];lia
inductive RI (T:List Nd) (S:Nat→dw) (w0:List Int):En→Prop
  | mk {ds ws order} (hd:gZ ds) (hws:∀w∈ws,0≤w∧w < (T.length:Int)) (ho:∀w∈order,0≤w∧w < (T.length:Int)) (hb:order.length+dO S ws≤65535) (how:qk T ws order) (hru:Ax T w0 ws order):RI T S w0 (rE ds T ws order none none none)
inductive RJ (ds:List Int) (T:List Nd) (order:List Int) (i:Nat):En→Prop
  | mk {nums v5 v6} (hn:jb order T.length nums) (hg:j5 order nums i):RJ ds T order i (rE ds T [] order (some (.l (nums.map .int))) v5 v6)
theorem rR{W:aT}(ok:W.Ok){ds:List Int}{T:List Nd}{S:Nat→dw}(hd:gZ ds)(h:fD W T S)(hT:T.length≤400)(hU:vj T []):∃ds' T' S',dR [.l (ds.map .int),.d (.tuple (T.map cB))]=some (.d (.tuple (T'.map cB)),[.l (ds'.map .int),.d (.tuple (T.map cB))])∧gZ ds'∧fD W T' S'∧T'.length≤65535∧qj T'∧pd T':=by
  have q2:∀(ws:List Int) (e:En),e[2]?=some (some (.l (ws.map .int)))→bO true e (.s 2) (.l [])=some (.d (.bool (!(ws.map PyData.int).isEmpty))):=fun ws e he=>by
    have:=kP (neg:=true) he (jJ _).1
    simpa using this
  have tst:∀ds ws order,cG (rE ds T ws order none none none)=some (!(ws.map PyData.int).isEmpty,rE ds T ws order none none none):=fun ds ws order=>by
    have:=q2 ws (rE ds T ws order none none none) rfl
    unfold rE at this ⊢
    simp? [cG,this]
  let w0:List Int:=if T.length=0 then [] else [0]
  have hw00:w0=[]∨w0=[0]:=by
    simp only [w0]
    split
    · exact .inl rfl
    · exact .inr rfl
  have hw0:∀w∈w0,0≤w∧w < (T.length:Int):=fun w hw=>by
    simp only [w0] at hw
    split at hw
    · cases hw
    · simp at hw;lia
  have hb0:dO S w0≤65535:=by
    simp only [w0]
    split
    · simp [dO]
    · have:2 ^ (16 - (S (0:Int).toNat).1.length)≤2 ^ 16:=Nat.pow_le_pow_right (by decide) (by lia)
      simp [dO,hang] at this ⊢
      lia
  obtain⟨e0,e',hw,hI,hf⟩:=gQ (ft:=cG) (f:=cE)
    (RI T S w0)
    (fun e=>65535 - j7 3 e) (fun e hI=>by
      obtain⟨hd1,hws,ho,hbd,how,hru⟩:=hI
      rename_i d1 ws order
      by_cases c:ws=[]
      · subst c
        exact .inl ⟨_,tst _ _ _,trivial⟩
      · obtain⟨d2,ws',w,hb,hd2,hws',hw',hh,kk,hk1,hk2⟩:=Cc ok hd1 h hws ho c hbd
        have hx1:∀v∈ws,v=w∨v∈ws':=fun v hv=>(wV hk1 hv).imp id fun q=>by rw [hk2];exact List.mem_append_left _ q
        have hx2:∀l∈qV (bH T w),l∈ws':=fun l hl=>by rw [hk2];exact List.mem_append_right _ hl
        have hru2:Ax T w0 ws' (order++[w]):=by
          rw [hk2]
          exact hru.turn hw00 hU.unq hU.rng (fun v hv=>(List.mem_append.mp hv).elim (ho v) (hws v)) hk1
        have hl2:=pP ok h hws
        refine .inr ⟨_,_,(by rw [tst];simp [c]),hb,.mk hd2 hws' (fun v hv=>?_) (by simp;lia) (how.turn hx1 hx2) hru2,?_⟩
        · rcases List.mem_append.mp hv with hv | hv
          · exact ho v hv
          · simp at hv;rw [hv];exact hw'
        · have l1:∀ds ws order,j7 3 (rE ds T ws order none none none)=order.length:=fun ds ws order=>by simp [rE,j7]
          simp only [l1,List.length_append,List.length_cons,List.length_nil]
          lia) (2 ^ 4200) (rE ds T w0 [] none none none)
    (.mk hd hw0 (fun w hw=>(by cases hw)) (by simpa using hb0) qk.first (Ax.first hw00))
    (kX (m:=20) (by simp [rE,j7]) (by decide))
  obtain⟨hd1,hws,ho,hbd,how,hru⟩:=hI
  rename_i d1 ws order
  rw [tst] at hf
  have hw1:ws=[]:=by
    cases ws with
    | nil=>rfl
    | cons a r=>simp at hf
  subst hw1
  simp at hf
  subst hf
  obtain⟨e2,h1,hJ⟩:=dI (own:=[(3,order.map PyData.int)]) (g:=bj (aq (aj 5) (aq (aj 6) bh))) (f:=dz) (RJ d1 T order) (gj 0 (order.map .int)) 0 (rE d1 T [] order (some (.l ((List.replicate (T.length+1) (-1:Int)).map .int))) none none) (fun i x e hx hJ=>by
    obtain⟨hn,hng⟩:=hJ
    rename_i nums v5 v6
    rw [iE,List.getElem?_map,Option.map_map] at hx
    obtain⟨w,hw2,rfl⟩:=Option.map_eq_some_iff.mp hx
    obtain⟨a0,a1⟩:=ho w (List.mem_of_getElem? hw2)
    have hix:mT nums.length w=some w.toNat:=by unfold mT;rw [if_pos a0,if_pos (by rw [hn.len];lia)]
    refine⟨rE d1 T [] order (some (.l (nums.map .int))) (some (.d (.int (i:Int)))) (some (.d (.int w))),rE d1 T [] order (some (.l ((nums.set w.toNat (i:Int)).map .int))) (some (.d (.int (i:Int)))) (some (.d (.int w))),?_,?_,?_,.mk (hn.set hw2 a0 a1) (by
      rw [Nat.zero_add] at hng ⊢
      exact hng.set hw2 (by rw [hn.len];lia))⟩
    · simp? [rE]
    · simp? [rE,dz,xo,ky,hix,List.map_set]
    · intro p hp
      simp at hp
      subst hp
      rfl) (.mk jb.first j5.first)
  obtain⟨hn,hng⟩:=hJ
  rename_i nums v5 v6
  obtain⟨t',hc⟩:=di (cs:=[some (.l (nums.map PyData.int)),some (.d (.tuple (T.map cB)))]) (ft:=cS) (fe:=dG) (b:=fun _=>true) (y:=Hv fun w=>cB (renum T nums w)) (order.map PyData.int) none [] (fun x hx=>rfl) (fun x hx _=>by
    obtain⟨w,hw2,rfl⟩:=List.mem_map.mp hx
    obtain⟨a0,a1⟩:=ho w hw2
    have o:=h _ _ (dX a0 a1)
    have y:=o.yes.rng
    have n:=o.no.rng
    have ny:atI (nums.map PyData.int) (bH T w).yes=some (.int (nm nums (bH T w).yes)):=CS (by rw [hn.len];lia) (by rw [hn.len];lia)
    have nn:atI (nums.map PyData.int) (bH T w).no=some (.int (nm nums (bH T w).no)):=CS (by rw [hn.len];lia) (by rw [hn.len];lia)
    have nd:=xV a0 a1
    simp? [dG,nd,ny,nn,Hv,cB,renum]) (by simp;lia)
  have hv:=xG (cp:=[(4,"_law_numbers"),(1,"_law_tree_here")]) (nT:=1) (fi:=jv) (g:=aj 2) (ft:=cS) (fe:=dG) (e:=rE d1 T [] order (some (.l (nums.map .int))) v5 v6) (cs:=[some (.l (nums.map PyData.int)),some (.d (.tuple (T.map cB)))]) (t:=[none]) (t':=[t']) (own:=[(3,order.map PyData.int)]) rfl rfl rfl rfl hc
  have hl:([]++((order.map PyData.int).filter fun _=>true).map (Hv fun w=>cB (renum T nums w)))=(order.map (renum T nums)).map cB:=by
    rw [List.nil_append,List.filter_eq_self.mpr (fun _ _=>rfl),List.map_map,List.map_map]
    exact List.map_congr_left fun x _=>rfl
  rw [hl] at hv
  have hng':j5 order nums order.length:=by rw [Nat.zero_add,iF,List.length_map] at hng;exact hng
  refine⟨d1,order.map (renum T nums),_,?_,hd1,h.renum ho hn,by rw [List.length_map];lia,xg h ho hn hng' how,uX h hU.unq ho hn hng' how hru⟩
  have hw':gG (2 ^ 4200) cG cE (rE ds T w0 [] none none none)=some (.nx (rE d1 T [] order none none none)):=hw
  have hfor:∀Wl:List Nat,3∉Wl→ef Wl jw (bj (aq (aj 5) (aq (aj 6) bh))) dz (rE d1 T [] order (some (.l ((List.replicate (T.length+1) (-1:Int)).map .int))) none none)=some (.nx (rE d1 T [] order (some (.l (nums.map .int))) v5 v6)):=fun Wl hWl=>by
    rw [zP (own:=[(3,order.map PyData.int)]) (items:=gj 0 (order.map .int)) (e1:=rE d1 T [] order (some (.l ((List.replicate (T.length+1) (-1:Int)).map .int))) none none) rfl (by simp [hWl])]
    exact h1
  have hw0':gS [.int 0] none (some (T.length:Int))=w0.map .int:=by
    rw [Fq]
    simp only [w0]
    split<;>rfl
  have gr:∀e:En,c_ e (.l [.int (-1)]) (.d (.int ((T.length:Int)+1)))=some (.l (List.replicate (T.length+1) (.int (-1)))):=fun e=>by
    rw [CL (by lia) (by lia)]
    congr 3
  have hfor':=hfor [5,6] (by decide)
  unfold rE at hv hw' hfor'
  simp only [List.map_replicate,List.map_nil,List.map_cons,List.replicate_succ] at hfor' hw' hv
  simp? [dR,kD,Fz,hw0',hw',gr,hfor',hv]
theorem Af{W:aT}(ok:W.Ok){ds:List Int}(great:Bool)(hd:gZ ds):∃ds' T S,lV [.l (ds.map .int),.d (bU W),.d (.bool great)]=some (.d (.tuple (T.map cB)),[.l (ds'.map .int),.d (bU W),.d (.bool great)])∧gZ ds'∧fD W T S∧T.length≤65535∧qj T∧pd T:=by
  obtain⟨n1,d1,t1, -, -,hd1⟩:=gM hd
  obtain⟨n2,d2,t2, -, -,hd2⟩:=gM hd1
  obtain⟨n3,d3,t3, -, -,hd3⟩:=gM hd2
  have gi:∀e:En,g1 sv e [.d (.bool great)]=some (.d (.int (if great=true then 1 else 0))):=fun e=>rfl
  have gm:∀e:En,c_ e (.d (.int 260)) (.d (.int (if great=true then 1 else 0)))=some (.d (.int (260*(if great=true then 1 else 0)))):=fun e=>cV (nW (by decide) (by decide))
  have hg:(0:Int)≤260*(if great=true then 1 else 0)∧(260:Int)*(if great=true then 1 else 0)≤260:=by split<;>lia
  generalize (260:Int)*(if great=true then 1 else 0)=g at gm hg
  generalize (if great=true then 1 else 0:Int)=one at gm gi
  obtain⟨z,hz,ha⟩:=eh (xs:=[PyData.int (1+n1 % 8),.int (1+n2 % 40),.int (40+g)]) (i:=n3 % 3) (by lia) (by simp;lia)
  obtain⟨most,rfl,hm0,hm1⟩:∃r,z=.int r∧0≤r∧r≤400:=by
    simp only [List.mem_cons,List.not_mem_nil,or_false] at hz
    rcases hz with rfl | rfl | rfl<;>exact⟨_,rfl,by lia,by lia⟩
  obtain⟨d4,T,S,t4,hd4,hT,hl,hU⟩:=Cb ok hd3 hm0 hm1
  obtain⟨d5,T',S',t5,hd5,hT',hl',hor,htr⟩:=rR ok hd4 hT (by lia) hU
  refine⟨d5,T',S',?_,hd5,hT',hl',hor,htr⟩
  simp? [lV,x5,t1,t2,t3,aS,gi,gm,ha,t4,t5]
def Dw:PyData→Bool
  | .int _=>true
  | .bool _=>true
  | _=>false
def Dv:PyData→Bool
  | .bool _=>true
  | _=>false
def Dy:PyData→Bool
  | .tuple _=>true
  | _=>false
theorem Fx{e:En}{d:PyData}:mR "int" e (.d d)=some (.d (.bool (Dw d))):=by cases d<;>rfl
theorem Hf{e:En}{d:PyData}:mR "bool" e (.d d)=some (.d (.bool (Dv d))):=by cases d<;>rfl
theorem AS{e:En}{d:PyData}:mR "tuple" e (.d d)=some (.d (.bool (Dy d))):=by cases d<;>rfl
theorem AX{d:PyData}(h:Dy d=true):∃ds,d=.tuple ds:=by cases d<;>first | exact⟨_,rfl⟩ | cases h
theorem Dx(d:PyData):CN d=(Dw d&& !Dv d):=by cases d<;>rfl
theorem Ad(d:PyData):dr [.d d]=some (.d (.bool (CN d)),[.d d]):=by
  rw [Dx]
  have g1:=fun e=>Fx (e:=e) (d:=d)
  have g2:=fun e=>Hf (e:=e) (d:=d)
  generalize Dw d=a at*
  generalize Dv d=b at*
  cases a<;>simp? [dr,mh,g1,g2]
def uH:List PyData:=[.none,.bool true,.bool false,.int 0,.int 1,.int (-1),.int 5,.str "",.str "a",.str "0",.tuple [],.tuple [.int 0],.tuple [.int 0,.int 1],.tuple [.tuple [],.tuple []],.list [],.list [.int 0],.dict [],.dict [(.int 0,.int 1)],.tuple [.none],.tuple [.tuple []],.list [.tuple []],.tuple [.bool true,.bool false],.tuple [.tuple [.int 0,.int 1],.tuple [.int 1,.int 2]],.tuple [.tuple [.tuple [],.tuple []]],.tuple [.str "a",.int 1],.tuple [.tuple [.int 0,.int 1]],.int (10 ^ 30)]
theorem C5(n:Int):∃d∈uH,pV [.d (.int n)]=some (.d d,[.d (.int n)]):=by
  have m0:0≤n % 27:=Int.emod_nonneg _ (by decide)
  have m1:n % 27 < 27:=Int.emod_lt_of_pos _ (by decide)
  obtain⟨d,hd,ha⟩:=eh (xs:=uH) m0 (by show n % 27 < 27;exact m1)
  have gm:∀e,a9 e (.d (.int n)) (.d (.int 27))=some (.d (.int (n % 27))):=fun e=>aS (by decide)
  have gp:∀e,qP e (.d (.int 10)) (.d (.int 30))=some (.d (.int (10 ^ 30))):=fun e=>jr (i:=10) (j:=30) (by decide)
  refine⟨d,hd,?_⟩
  generalize n % 27=k at*
  generalize hb:(10 ^ 30:Int)=big at*
  rw [show uH=[.none,.bool true,.bool false,.int 0,.int 1,.int (-1),.int 5,.str "",.str "a",.str "0",.tuple [],.tuple [.int 0],.tuple [.int 0,.int 1],.tuple [.tuple [],.tuple []],.list [],.list [.int 0],.dict [],.dict [(.int 0,.int 1)],.tuple [.none],.tuple [.tuple []],.list [.tuple []],.tuple [.bool true,.bool false],.tuple [.tuple [.int 0,.int 1],.tuple [.int 1,.int 2]],.tuple [.tuple [.tuple [],.tuple []]],.tuple [.str "a",.int 1],.tuple [.tuple [.int 0,.int 1]],.int big] by rw [←hb];rfl] at ha
  have gc:∀(e:En) (xs ys:List PyData),e[1]?=some (some (.l xs))→xs.length+ys.length≤1000000→bD e (.s 1) (.l ys)=some (.l (xs++ys)):=fun e xs ys he h=>qN he h
  simp? [pV,CB,gm,gp,gc,ha,t_]
theorem EU(a b:Bool):nS [.d (.bool a),.d (.bool b)]=some (.d (.bool (a==b)),[.d (.bool a),.d (.bool b)]):=by
  have gi:∀(e:En) (x y:Bool),Fy e (.d (.bool x)) (.d (.bool y))=some (.d (.bool (x==y))):=fun e x y=>rfl
  cases a<;>cases b<;>simp? [nS,xZ,gi]
theorem l9(a b:Int)(hb:Bt 4000 b):bX [.d (.int a),.d (.int b)]=some (.d (.int (Int.gcd a b)),[.d (.int a),.d (.int b)]):=by
  have tst:∀x y:Int,bK [some (.d (.int x)),some (.d (.int y))]=some (!(y==0),[some (.d (.int x)),some (.d (.int y))]):=fun x y=>by simp? [bK]
  obtain⟨e0,e',h1,⟨x,y,he,hg,hy⟩,h3⟩:=gQ (ft:=bK) (f:=cg) (fun e=>∃x y,e=[some (.d (.int x)),some (.d (.int y))]∧Int.gcd x y=Int.gcd a b∧Bt 4000 y) (pW 1) (fun e ⟨x,y,he,hg,hy⟩=>by
    subst he
    rw [tst]
    by_cases c:y=0
    · subst c;exact .inl ⟨_,rfl,trivial⟩
    · refine .inr ⟨_,[some (.d (.int y)),some (.d (.int (x.fmod y)))],by rw [beq_false_of_ne c];rfl,by simp? [cg,yt c],⟨y,x.fmod y,rfl,by rw [sE,hg],?_⟩,?_⟩
      · have:=g_ x c
        exact Bt.of_le hy (by lia)
      · have:=g_ x c
        simpa [pW] using this) (2 ^ 4200) _ ⟨a,b,rfl,rfl,hb⟩ (kX (m:=4000) (by simpa [pW,Bt] using hb) (by decide))
  subst he
  rw [tst] at h3
  have h4:=Prod.mk.inj (Option.some.inj h3)
  have hy0:y=0:=by simpa using h4.1
  subst hy0
  have h5:=h4.2
  subst h5
  have hs:gG (2 ^ 4200) bK cg [some (.d (.int a)),some (.d (.int b))]=some (.nx [some (.d (.int x)),some (.d (.int 0))]):=h1
  have hg':(x.natAbs:Int)=(Int.gcd a b:Int):=by rw [←hg];simp
  simp only [bX,iB,gW,jz,aD,i3,bv,cN,a_,cX,i0,mX,o6,aN,au,lH,ac,vC,bL,ai,aa,aO,aL,ce,jM,uc,j4,C7,ig,ud,jN,o_,eg,cW,cw,bE,sO,dS,gh,ki,cT,bM,oX,rV,bj,aq,aj,bh,bT,aJ,bi,rh,dh,eO,cJ,fK,ib,h_,hX,hV,eP,dM,eQ,dn,eN,mC,j6,jm,mD,jq,ia,jo,jp,eS,eR,dq,eT,mE,jc,ij,jd,je,ml,dk,dj,dJ,hZ,List.replicate, -List.map_nil, -List.map_cons, -List.nil_append, -List.cons_append, -Option.bind_some, -Option.map_some, -getElem?_pos, -List.append_nil,my,mw,mq,mn,ms,mv,mr,mz]
  simp? [hs,hg']
theorem oO(t b:Int)(hb:0 < b)(h:Bt 4000 b):dU [.d (.int t),.d (.int b)]=some (.d (dF (bC t b)),[.d (.int t),.d (.int b)]):=by
  have g0:=qQ (t:=t) (b:=b) (by lia)
  have g1:(Int.gcd t b:Int)≠0:=by lia
  have g8:Bt 8000 (Int.gcd t b:Int):=(yu (t:=t) (by lia) h).mono (by decide)
  have e:bC t b=(t.fdiv (Int.gcd t b:Int),b.fdiv (Int.gcd t b:Int)):=by unfold bC;rw [if_neg (by lia)]
  have nb:¬b < 0:=by lia
  rw [e]
  simp? [dU,r6,l9 t b h,vG g1 g8,nb,dF]
theorem Cd{a b:Fr}{n:Nat}(a2:0 < a.2)(b2:0 < b.2)(ha1:Bt n a.1)(ha:Bt n a.2)(hb1:Bt n b.1)(hb:Bt n b.2)(hn:n≤1900):k9 [.d (dF a),.d (dF b)]=some (.d (dF (tm a b)),[.d (dF a),.d (dF b)]):=by
  have g1:∀e:En,c_ e (.d (.int a.1)) (.d (.int b.1))=some (.d (.int (a.1*b.1))):=fun e=>cV (rc (ha1.mono (by lia)) (hb1.mono (by lia)))
  have g2:∀e:En,c_ e (.d (.int a.2)) (.d (.int b.2))=some (.d (.int (a.2*b.2))):=fun e=>cV (rc (ha.mono (by lia)) (hb.mono (by lia)))
  have tl:=oO (a.1*b.1) (a.2*b.2) (Int.mul_pos a2 b2) ((ha.mul hb).mono (by lia))
  unfold tm
  unfold dF at*
  simp? [k9,vA,g1,g2,tl]
theorem B_{a b:Fr}{n:Nat}(a2:0 < a.2)(b2:0 < b.2)(ha1:Bt n a.1)(ha:Bt n a.2)(hb1:Bt n b.1)(hb:Bt n b.2)(hn:n≤1900):iY [.d (dF a),.d (dF b)]=some (.d (dF (tm a b)),[.d (dF a),.d (dF b)]):=by
  have g1:∀e:En,c_ e (.d (.int a.1)) (.d (.int b.1))=some (.d (.int (a.1*b.1))):=fun e=>cV (rc (ha1.mono (by lia)) (hb1.mono (by lia)))
  have g2:∀e:En,c_ e (.d (.int a.2)) (.d (.int b.2))=some (.d (.int (a.2*b.2))):=fun e=>cV (rc (ha.mono (by lia)) (hb.mono (by lia)))
  have tl:=Ac (a.1*b.1) (a.2*b.2) (Int.mul_pos a2 b2) ((ha.mul hb).mono (by lia))
  unfold tm
  unfold dF at*
  simp? [iY,vy,g1,g2,tl]
theorem uW{W:aT}(ok:W.Ok){k:Int}(hk:mf W k):gv [.d (.tuple [.int (W.tie k).top,.int (W.tie k).bot])]=some (.d (dF (ch W k false)),[.d (.tuple [.int (W.tie k).top,.int (W.tie k).bot])]):=by
  have o:=hk.ok ok
  have b0:=o.b0;have b1:=o.b1
  have tl:=oO ((W.tie k).bot - (W.tie k).top) (W.tie k).bot (by lia) (Bt.mono (m:=7) (by unfold Bt;lia) (by decide))
  rw [yM (by lia) o.cop] at tl
  simp? [gv,nv,tl,ch]
theorem EO{W:aT}{k:Int}:nQ [.d (.tuple [.int (W.tie k).top,.int (W.tie k).bot])]=some (.d (dF (ch W k false)),[.d (.tuple [.int (W.tie k).top,.int (W.tie k).bot])]):=by
  simp? [nQ,xX,ch,dF]
theorem qf(d:PyData)(n:Int):b_ [.d d,.d (.int n)]=some (.d (.bool (mW n d)),[.d d,.d (.int n)]):=by
  have g:=fun e=>AS (e:=e) (d:=d)
  cases c:Dy d with
  | false=>
    rw [c] at g
    have e:mW n d=false:=by cases d<;>first | rfl | cases c
    rw [e]
    simp? [b_,jh,g]
  | true=>
    rw [c] at g
    obtain⟨ds,rfl⟩:=AX c
    simp? [b_,jh,g,mW]
theorem oN{d:PyData}(h:d.showable=true):bB [.d d]=some (.d (.bool (qK d)),[.d d]):=by
  have tr:=qf d 2
  cases c:mW 2 d with
  | false=>
    rw [c] at tr
    have e:qK d=false:=by
      cases q:qK d with
      | false=>rfl
      | true=>
        unfold qK at q
        split at q
        · simp [mW] at c
        · cases q
    rw [e]
    simp? [bB,cx,tr]
  | true=>
    obtain⟨x,y,rfl⟩:=Hz c
    rw [c] at tr
    have nx:=Ad x
    have ny:=Ad y
    cases hx:CN x with
    | false=>
      rw [hx] at nx
      have e:qK (.tuple [x,y])=false:=by cases x<;>first | rfl | simp [CN] at hx
      rw [e]
      simp? [bB,cx,tr,nx]
    | true=>
      obtain⟨t,rfl⟩:=vN hx
      rw [hx] at nx
      cases hy:CN y with
      | false=>
        rw [hy] at ny
        have e:qK (.tuple [.int t,y])=false:=by cases y<;>first | rfl | simp [CN] at hy
        rw [e]
        simp? [bB,cx,tr,nx,ny]
      | true=>
        obtain⟨b,rfl⟩:=vN hy
        rw [hy] at ny
        by_cases c1:b < 1
        · have e:qK (.tuple [.int t,.int b])=false:=by
            simp only [qK,Bool.and_eq_false_iff,decide_eq_false_iff_not];left;lia
          rw [e]
          simp? [bB,cx,tr,nx,ny,c1]
        · simp only [PyData.showable,PyData.showableAll,Bool.and_eq_true,decide_eq_true_eq] at h
          have tl:=oO t b (by lia) (Di h.2.1 (by lia))
          have e:qK (.tuple [.int t,.int b])=((bC t b).1==t&&(bC t b).2==b):=by
            rw [A7 (by lia)]
            show(decide (1≤b)&&_)=_
            rw [decide_eq_true (by lia),Bool.true_and]
          rw [e]
          unfold dF at tl
          have ge:=fun e=>su (e:=e) (a:=(bC t b).1) (b:=(bC t b).2) (c:=t) (d:=b)
          generalize bC t b=p at*
          simp? [bB,cx,tr,nx,ny,c1,tl,ge]
theorem qY{t b:Int}{n:Nat}(hb:0 < b)(h1:Bt n t)(h2:Bt n b):Bt n (bC t b).1∧Bt n (bC t b).2∧0 < (bC t b).2:=by
  obtain⟨d,e1,e2,e3,e4,e5⟩:=iH (t:=t) (b:=b) (by lia)
  have dp:1≤d.natAbs:=by lia
  have k1:(bC t b).1.natAbs≤t.natAbs:=by
    have:=congrArg Int.natAbs e3
    rw [Int.natAbs_mul] at this
    rw [←this]
    exact Nat.le_mul_of_pos_right _ dp
  have k2:(bC t b).2.natAbs≤b.natAbs:=by
    have:=congrArg Int.natAbs e4
    rw [Int.natAbs_mul] at this
    rw [←this]
    exact Nat.le_mul_of_pos_right _ dp
  exact⟨h1.of_le k1,h2.of_le k2,e5⟩
structure FB (n:Nat) (f:Fr):Prop where
  pos:0 < f.2
  top:Bt n f.1
  bot:Bt n f.2
theorem FB.mono{n m:Nat}{f:Fr}(h:FB n f)(hm:n≤m):FB m f:=⟨h.pos,h.top.mono hm,h.bot.mono hm⟩
theorem FB.pl{n:Nat}{a b:Fr}(ha:FB n a)(hb:FB n b):FB (n+n+1) (L2.pl a b):=by
  obtain⟨r1,r2,r3⟩:=qY (t:=a.1*b.2+b.1*a.2) (b:=a.2*b.2) (n:=n+n+1) (Int.mul_pos ha.pos hb.pos) ((ha.top.mul hb.bot).add (hb.top.mul ha.bot)) ((ha.bot.mul hb.bot).mono (by lia))
  exact⟨r3,r1,r2⟩
theorem FB.tm{n:Nat}{a b:Fr}(ha:FB n a)(hb:FB n b):FB (n+n) (L2.tm a b):=by
  obtain⟨r1,r2,r3⟩:=qY (t:=a.1*b.1) (b:=a.2*b.2) (n:=n+n) (Int.mul_pos ha.pos hb.pos) (ha.top.mul hb.top) (ha.bot.mul hb.bot)
  exact⟨r3,r1,r2⟩
theorem FB.ch{W:aT}(ok:W.Ok){k:Int}(hk:mf W k)(b:Bool):FB 7 (L2.ch W k b):=by
  have o:=hk.ok ok
  have:=o.c0;have:=o.c1;have:=o.b0;have:=o.b1
  cases b<;>refine⟨?_,?_,?_⟩<;>simp only [L2.ch,if_true,Bool.false_eq_true,if_false,Bt]<;>lia
def ik(n:Int):PyData→Bool
  | .tuple ds=>((ds.length:Int)==n)&&ds.all qK
  | _=>false
theorem oM{d:PyData}(hs:d.showable=true){n:Int}(hn:n≤65535):bF [.d d,.d (.int n)]=some (.d (.bool (ik n d)),[.d d,.d (.int n)]):=by
  have tr:=qf d n
  cases c:mW n d with
  | false=>
    rw [c] at tr
    have e:ik n d=false:=by
      cases d with
      | tuple ds=>have c':((ds.length:Int)==n)=false:=c;simp only [ik,c',Bool.false_and]
      | _=>rfl
    rw [e]
    simp? [bF,dA,tr]
  | true=>
    cases d with
    | tuple ds=>
      have c':((ds.length:Int)==n)=true:=c
      have c2:(ds.length:Int)=n:=by simpa using c'
      rw [c] at tr
      simp only [PyData.showable] at hs
      obtain⟨t',hf⟩:=di (cs:=[]) (ft:=cS) (fe:=bS) (b:=fun _=>true) (y:=fun d=>.bool (qK d)) ds none [] (fun x _=>rfl) (fun x hx _=>by
        have t:=oN (xQ hs x hx)
        generalize qK x=bb at*
        simp? [bS,t]) (by simp;lia)
      have hv:=e_ (cp:=[]) (nT:=1) (fi:=fx) (g:=aj 0) (ft:=cS) (fe:=bS) (e:=[some (.d (.tuple ds)),some (.d (.int n))]) (cs:=[]) (t:=[none]) (t':=[t']) (nM (fa:=ac 0) rfl) rfl rfl hf
      rw [List.nil_append,show List.filter (fun _=>true) ds=ds from List.filter_eq_self.mpr fun _ _=>rfl] at hv
      have ga:=fun e=>sk (e:=e) qK ds
      rw [show ik n (.tuple ds)=ds.all qK by simp only [ik,c',Bool.true_and]]
      generalize ds.all qK=bb at*
      generalize ds.map (fun d=>PyData.bool (qK d))=M at*
      simp? [bF,dA,tr,hv,ga]
    | _=>simp [mW] at c
theorem ym:∀{ds:List PyData},ds.all qK=true→∃ws:List Fr,ds=ws.map dF∧∀f∈ws,0 < f.2
  | [],_=>⟨[],rfl,fun _ h=>by cases h⟩
  | d::r,h=>by
    rw [List.all_cons,Bool.and_eq_true] at h
    obtain⟨ws,rfl,hw⟩:=ym h.2
    have h1:=h.1
    unfold qK at h1
    split at h1
    · rename_i t b
      simp only [Bool.and_eq_true,decide_eq_true_eq] at h1
      refine⟨(t,b)::ws,rfl,fun f hf=>?_⟩
      rcases List.mem_cons.mp hf with rfl | hf
      · show(0:Int) < b;lia
      · exact hw f hf
    · cases h1
theorem xC{W:aT}(ok:W.Ok){x:Nd}(hk:mf W x.tie):iJ [.d (bU W),.d (cB x)]=some (.l (i_ W x),[.d (bU W),.d (cB x)]):=by
  let E:En:=[some (.d (bU W)),some (.d (cB x)),some (.d (.int x.tie)),some (.d (.int x.yes)),some (.d (.int x.no)),some (.d (.tuple [.int (W.tie x.tie).top,.int (W.tie x.tie).bot]))]
  have tl:=uW ok hk
  have hi:jx E=some ([iq x.yes (ch W x.tie true),iq x.no (ch W x.tie false)],[],E):=nM (by simp? [E,tl,iq,qH])
  have hc:∃t',bQ (bj (aq (aj 0) (aq (aj 1) bh))) cH cI [iq x.yes (ch W x.tie true),iq x.no (ch W x.tie false)] [none,none] []=some (i_ W x,[]++t'):=by
    by_cases c1:x.yes= -1
    · by_cases c2:x.no= -1
      · exact⟨_,by simp? [bQ,iq,i_,c1,c2,cH,cI];rfl⟩
      · exact⟨_,by simp? [bQ,iq,i_,c1,c2,cH,cI];rfl⟩
    · by_cases c2:x.no= -1
      · exact⟨_,by simp? [bQ,iq,i_,c1,c2,cH,cI];rfl⟩
      · exact⟨_,by simp? [bQ,iq,i_,c1,c2,cH,cI];rfl⟩
  obtain⟨t',hc⟩:=hc
  have hv:=e_ (cp:=[]) (nT:=2) (fi:=jx) (g:=bj (aq (aj 0) (aq (aj 1) bh))) (ft:=cH) (fe:=cI) (e:=E) (cs:=[]) (t:=[none,none]) (t':=t') hi rfl rfl hc
  have gw:∀e,cD e (.d (bU W)) (.d (.int 1))=some (.d (.tuple (W.ties.map gf))):=fun e=>by rw [jj,j6,ij];rfl
  have ha:=jf hk
  simp only [E] at hv
  unfold cB gf at*
  simp? [iJ,pk,gw,ha,hv]
theorem wn:∀{xs ys:List PyData} {i:Nat} {x y:PyData},xs[i]?=some x→ys[i]?=some y→(gR xs ys)[i]?=some (.tuple [x,y])
  | [],_,i,x,y,h,_=>by simp at h
  | _::_,[],i,x,y,_,h=>by simp at h
  | a::r,b::s,0,x,y,h1,h2=>by simp at h1 h2;subst h1 h2;rfl
  | a::r,b::s,i+1,x,y,h1,h2=>by
    simp only [gR,List.getElem?_cons_succ] at h1 h2 ⊢
    exact wn h1 h2
theorem jP:∀{xs ys:List PyData},xs.length=ys.length→(gR xs ys).length=xs.length
  | [],[],_=>rfl
  | [],_::_,h=>by simp at h
  | _::_,[],h=>by simp at h
  | a::r,b::s,h=>by simp only [gR,List.length_cons,jP (xs:=r) (ys:=s) (by simpa using h)]
theorem qG:∀{as bs:List Fr},as.map dF=bs.map dF→as=bs
  | [],[],_=>rfl
  | [],_::_,h=>by simp at h
  | _::_,[],h=>by simp at h
  | a::r,b::s,h=>by
    simp only [List.map_cons,List.cons.injEq,dF,PyData.tuple.injEq,PyData.int.injEq,and_true] at h
    obtain⟨⟨h1,h2⟩,h3⟩:=h
    rw [qG h3,Prod.ext h1 h2]
def uB:PyData→En
  | .tuple [a,b]=>[some (.d a),some (.d b)]
  | _=>[none,none]
theorem sA{e:En}{a b c d:Int}:bO true e (.d (.tuple [.int a,.int b])) (.d (.tuple [.int c,.int d]))=some (.d (.bool (!(a==c&&b==d)))):=by
  unfold bO
  have h0:∀x y:Int,SeqAt.shaped (.tuple [.int x,.int y])=true:=fun x y=>by simp [SeqAt.shaped,PyData.canLay0,PyData.canLayAll0,PyData.depth,PyData.depthAll]
  simp only [iD,Option.bind_some,h0,Bool.and_self,if_true]
  simp [PyData.eqv,PyData.eqvAll]
def qB(ws:List Fr)(f:Fr):PyData→Bool
  | .tuple [.int l,.tuple [.int p,.int q]]=>(ws.getD l.toNat (1,1)).1==(tm f (p,q)).1&&(ws.getD l.toNat (1,1)).2==(tm f (p,q)).2
  | _=>false
theorem CW{ws:List Fr}{f c:Fr}{l:Int}:qB ws f (iq l c)=true↔ ws.getD l.toNat (1,1)=tm f c:=by
  show((ws.getD l.toNat (1,1)).1==(tm f c).1&&(ws.getD l.toNat (1,1)).2==(tm f c).2)=true↔ _
  rw [Bool.and_eq_true,beq_iff_eq,beq_iff_eq]
  exact⟨fun h=>Prod.ext h.1 h.2,fun h=>by rw [h];exact⟨rfl,rfl⟩⟩
def fB(W:aT)(ws:List Fr):PyData→List Bool
  | .tuple [.tuple [.int a,.int b,.int c],.tuple [.int p,.int q]]=>(i_ W ⟨a,b,c⟩).map (qB ws (p,q))
  | _=>[]
theorem jO{W:aT}{x:Nd}{d:PyData}:d∈i_ W x↔ ∃b,gu x b≠ -1∧d=iq (gu x b) (ch W x.tie b):=by
  unfold i_
  rw [List.mem_append]
  constructor
  · rintro(h | h)
    · split at h
      · cases h
      · simp at h;exact⟨true,by assumption,h⟩
    · split at h
      · cases h
      · simp at h;exact⟨false,by assumption,h⟩
  · rintro⟨b,n,rfl⟩
    cases b
    · right;rw [if_neg (show ¬x.no= -1 from n)];simp [gu]
    · left;rw [if_neg (show ¬x.yes= -1 from n)];simp [gu]
theorem uf{W:aT}{x:Nd}:(i_ W x).length≤2:=by
  unfold i_
  rw [List.length_append]
  split<;>split<;>simp
theorem oh{W:aT}(ok:W.Ok){T:List Nd}{S:Nat→dw}(h:fD W T S):∀f∈aV W T T.length,FB 140 f:=fun f hf=>by
  obtain⟨j,hj⟩:=List.getElem?_of_mem hf
  have hl:j < T.length:=by rw [←eY (W:=W) (T:=T) T.length];exact(List.getElem?_eq_some_iff.mp hj).1
  have r:=(iO.all ok h T.length).one ok h hl
  rw [List.getD_eq_getElem?_getD,hj,Option.getD_some] at r
  have ba:=nB ok
  have b:=r.bt ba.2 ba.1
  exact⟨r.pos,b.1.mono (by decide),b.2.mono (by decide)⟩
theorem yY{W:aT}(ok:W.Ok){T:List Nd}{S:Nat→dw}(h:fD W T S)(o:qj T)(t:pd T):((aV W T T.length).map dF).all qK=true:=by
  rw [List.all_map,List.all_eq_true]
  intro f hf
  have fb:=oh ok h
  have ln:=eY (W:=W) (T:=T) T.length
  obtain⟨j,hj⟩:=List.getElem?_of_mem hf
  have hl:j < T.length:=by rw [←ln];exact(List.getElem?_eq_some_iff.mp hj).1
  have ej:(aV W T T.length).getD j (1,1)=f:=by rw [List.getD_eq_getElem?_getD,hj,Option.getD_some]
  have pp:=(fb f hf).pos
  have gg:Int.gcd f.1 f.2=1:=by
    by_cases c:j=0
    · subst c
      rw [oo o] at ej
      rw [←ej]
      rfl
    · obtain⟨i,b,e⟩:=t.2 j (by lia) hl
      cases hx:T[i]? with
      | none=>rw [dQ hx] at e;lia
      | some x=>
        rw [cA hx] at e
        have hi:=(List.getElem?_eq_some_iff.mp hx).1
        have q:=jF (W:=W) h o t.1 T.length i hi x b hx (by lia)
        rw [show(gu x b).toNat=j by lia,ej] at q
        have r:=(iO.all ok h T.length).one ok h hi
        have cb:=FB.ch ok (h i x hx).tie b
        rw [q]
        unfold tm
        exact nP (Int.ne_of_gt (Int.mul_pos r.pos cb.pos))
  show(decide (1≤f.2)&&decide (Int.gcd f.1 f.2=1))=true
  rw [decide_eq_true (by lia),decide_eq_true gg];rfl
theorem BZ{W:aT}(ok:W.Ok){T:List Nd}{S:Nat→dw}(h:fD W T S){ws:List Fr}(hl:ws.length=T.length)(fb:∀f∈ws,FB 200 f){i:Nat}{nd:Nd}{f:Fr}(h1:T[i]?=some nd)(h2:ws[i]?=some f)(t:En)(acc:List PyData)(ht:t.length=4)(ha:acc.length+2≤1000000):
    ∃e1 e2 its e3 t',bj (aq (aj 2) (aq (aj 3) bh)) (.tuple [cB nd,dF f]) ([some (.d (.tuple (ws.map dF))),some (.d (bU W))]++t)=some e1∧cS e1=some (true,e2)∧bW e2=some (its,[],e3)∧bQ (bj (aq (aj 4) (aq (aj 5) bh))) cS bJ its e3 acc=some (acc++(fB W ws (.tuple [cB nd,dF f])).map PyData.bool,[some (.d (.tuple (ws.map dF))),some (.d (bU W))]++t')∧t'.length=4:=by
  have o:=h i nd h1
  have tw:=xC ok o.tie
  have ff:=fb f (List.mem_of_getElem? h2)
  rcases t with _ | ⟨t1,_ | ⟨t2,_ | ⟨t3,_ | ⟨t4,_ | ⟨t5,r⟩⟩⟩⟩⟩
  · simp at ht
  · simp at ht
  · simp at ht
  · simp at ht
  · let cs:En:=[some (.d (.tuple (ws.map dF))),some (.d (bU W)),some (.d (cB nd)),some (.d (dF f))]
    obtain⟨t',ht',hf⟩:=kg (cs:=cs) (g:=bj (aq (aj 4) (aq (aj 5) bh))) (ft:=cS) (fe:=bJ) (b:=fun _=>true) (y:=fun x=>.bool (qB ws f x)) (u:=uB) 2 (i_ W nd) [t3,t4] acc rfl (fun x hx t ht=>by
      obtain⟨b,n,rfl⟩:=jO.mp hx
      rcases t with _ | ⟨t1,_ | ⟨t2,_ | ⟨t3,r⟩⟩⟩
      · simp at ht
      · simp at ht
      · unfold iq
        generalize dF (ch W nd.tie b)=A
        generalize dF f=B
        simp? [cs,uB]
      · simp at ht) (fun x hx=>by
      obtain⟨b,n,rfl⟩:=jO.mp hx
      rfl) (fun x _=>rfl) (fun x hx _=>by
      obtain⟨b,n,rfl⟩:=jO.mp hx
      have cb:=FB.ch ok o.tie b
      have rg: -1≤gu nd b∧gu nd b < (T.length:Int):=by
        cases b
        · exact o.no.rng
        · exact o.yes.rng
      have hat:=qt (rs:=ws) (k:=gu nd b) (z:=(1,1)) (by lia) (by rw [hl];exact rg.2)
      have tt:=Cd (a:=f) (b:=ch W nd.tie b) (n:=200) ff.pos cb.pos ff.top ff.bot (cb.top.mono (by decide)) (cb.bot.mono (by decide)) (by decide)
      rw [show qB ws f (iq (gu nd b) (ch W nd.tie b))=((ws.getD (gu nd b).toNat (1,1)).1==(tm f (ch W nd.tie b)).1&&(ws.getD (gu nd b).toNat (1,1)).2==(tm f (ch W nd.tie b)).2) from rfl]
      rw [show uB (iq (gu nd b) (ch W nd.tie b))=[some (.d (.int (gu nd b))),some (.d (dF (ch W nd.tie b)))] from rfl]
      generalize ws.getD (gu nd b).toNat (1,1)=g at*
      have ge:=fun e=>su (e:=e) (a:=g.1) (b:=g.2) (c:=(tm f (ch W nd.tie b)).1) (d:=(tm f (ch W nd.tie b)).2)
      rw [←show dF g=.tuple [.int g.1,.int g.2] from rfl,←show dF (tm f (ch W nd.tie b))=.tuple [.int (tm f (ch W nd.tie b)).1,.int (tm f (ch W nd.tie b)).2] from rfl] at ge
      simp only [cs]
      generalize (g.1==(tm f (ch W nd.tie b)).1&&g.2==(tm f (ch W nd.tie b)).2)=bb at*
      generalize dF (tm f (ch W nd.tie b))=A at*
      generalize dF (ch W nd.tie b)=B at*
      generalize dF g=C at*
      generalize dF f=D at*
      generalize ws.map dF=WW at*
      generalize gu nd b=l at*
      generalize cB nd=N at*
      simp? [bJ,hat,tt,ge]) (by
      have:=uf (W:=W) (x:=nd)
      lia)
    rcases t' with _ | ⟨u3,_ | ⟨u4,_ | ⟨u5,r⟩⟩⟩
    · simp at ht'
    · simp at ht'
    · refine⟨cs++[t3,t4],cs++[t3,t4],i_ W nd,cs++[t3,t4],[some (.d (cB nd)),some (.d (dF f)),u3,u4],?_,rfl,?_,?_,rfl⟩
      · simp only [cs]
        generalize cB nd=N at*
        generalize dF f=D at*
        simp? [List.replicate]
      · unfold bW
        refine yy ?_
        simp only [cs]
        generalize dF f=D at*
        generalize cB nd=N at*
        simp? [tw]
      · rw [hf]
        have:(i_ W nd).filter (fun _=>true)=i_ W nd:=List.filter_eq_self.mpr fun _ _=>rfl
        rw [this]
        have:fB W ws (.tuple [cB nd,dF f])=(i_ W nd).map (qB ws f):=rfl
        rw [this,List.map_map]
        rfl
    · simp at ht'
  · simp at ht
theorem jL{W:aT}(ok:W.Ok){T:List Nd}{S:Nat→dw}(h:fD W T S)(o:qj T)(tr:pd T)(hT:T.length≤65535){d:PyData}(hs:d.showable=true)(hb:∀ws:List Fr,d=.tuple (ws.map dF)→∀f∈ws,Bt 200 f.1∧Bt 200 f.2):
    ∃b,bc [.d (bU W),.d (.tuple (T.map cB)),.d d]=some (.d (.bool b),[.d (bU W),.d (.tuple (T.map cB)),.d d])∧(b=true↔ d=.tuple ((aV W T T.length).map dF)):=by
  have tf:=oM hs (n:=(T.length:Int)) (by lia)
  have ql:((T.map cB).length:Int)=(T.length:Int):=by simp
  cases c:ik (T.length:Int) d with
  | false=>
    rw [c] at tf
    refine⟨false,?_,(fun e=>by cases e),fun e=>?_⟩
    · generalize T.map cB=TT at*
      generalize (T.length:Int)=L at*
      simp? [bc,cF,ql,tf]
    · subst e
      rw [show ik (T.length:Int) (.tuple ((aV W T T.length).map dF))=true by
        simp only [ik,yY ok h o tr,List.length_map,eY,beq_self_eq_true,Bool.and_self]] at c
      cases c
  | true=>
    rw [c] at tf
    cases d with
    | tuple ds=>
      simp only [ik,Bool.and_eq_true,beq_iff_eq] at c
      obtain⟨ws,rfl,hp⟩:=ym c.2
      have hl:ws.length=T.length:=by have:=c.1;rw [List.length_map] at this;lia
      have fb:∀f∈ws,FB 200 f:=fun f hf=>⟨hp f hf,(hb ws rfl f hf).1,(hb ws rfl f hf).2⟩
      by_cases z:ws.getD 0 (1,1)=(1,1)
      case neg=>
        have tp:0 < T.length:=by
          by_cases q:T.length=0
          · refine absurd ?_ z
            rw [List.getD_eq_getElem?_getD,List.getElem?_eq_none (by lia)]
            rfl
          · lia
        have tp':0 < (T.length:Int):=by lia
        have hat:=qt (rs:=ws) (k:=0) (z:=(1,1)) (by lia) (by lia)
        refine⟨false,?_,(fun e=>by cases e),fun e=>?_⟩
        · have ge:=fun e=>sA (e:=e) (a:=(ws.getD 0 (1,1)).1) (b:=(ws.getD 0 (1,1)).2) (c:=1) (d:=1)
          have bf:(!((ws.getD 0 (1,1)).1==1&&(ws.getD 0 (1,1)).2==1))=true:=by
            rw [Bool.not_eq_true',Bool.eq_false_iff]
            intro e
            rw [Bool.and_eq_true,beq_iff_eq,beq_iff_eq] at e
            exact z (Prod.ext e.1 e.2)
          rw [bf] at ge
          rw [show(0:Int).toNat=0 from rfl] at hat
          unfold dF at hat
          have hat:atI (ws.map dF) 0=_:=hat
          clear fb hb c
          generalize (ws.getD 0 (1,1)).1=p1 at*
          generalize (ws.getD 0 (1,1)).2=p2 at*
          generalize T.map cB=TT at*
          generalize ws.map dF=WW at*
          generalize (T.length:Int)=L at*
          simp? [bc,cF,ql,tf,tp',hat,ge]
        · have e':ws=aV W T T.length:=qG (by simpa using e)
          rw [e',oo o] at z
          exact absurd rfl z
      case pos=>
        let cs:En:=[some (.d (.tuple (ws.map dF))),some (.d (bU W))]
        have item:∀x∈gR (T.map cB) (ws.map dF),∃(i:Nat) (nd:Nd) (f:Fr),T[i]?=some nd∧ws[i]?=some f∧x=.tuple [cB nd,dF f]:=fun x hx=>by
          obtain⟨i,hi⟩:=List.getElem?_of_mem hx
          obtain⟨a,b,h1,h2,rfl⟩:=oP hi
          rw [List.getElem?_map] at h1 h2
          obtain⟨nd,h3,rfl⟩:=Option.map_eq_some_iff.mp h1
          obtain⟨f,h4,rfl⟩:=Option.map_eq_some_iff.mp h2
          exact⟨i,nd,f,h3,h4,rfl⟩
        obtain⟨t',ht,hf⟩:=mi (cs:=cs) (g:=bj (aq (aj 2) (aq (aj 3) bh))) (ft:=cS) (fi2:=bW) (g2:=bj (aq (aj 4) (aq (aj 5) bh))) (ft2:=cS) (fe:=bJ) (f:=fun x=>(fB W ws x).map PyData.bool) 4 (gR (T.map cB) (ws.map dF)) [none,none,none,none] [] rfl (fun x hx=>by
          obtain⟨i,nd,f,h1,h2,rfl⟩:=item x hx
          rw [List.length_map,show fB W ws (.tuple [cB nd,dF f])=(i_ W nd).map (qB ws f) from rfl,List.length_map]
          exact uf) (fun x hx t acc ht ha=>by
          obtain⟨i,nd,f,h1,h2,rfl⟩:=item x hx
          exact BZ ok h hl fb h1 h2 t acc ht ha) (by
          rw [jP (by simp [hl])]
          simp
          lia)
        have hv:=xE (cp:=[(2,"thing"),(0,"web")]) (nT:=4) (fi:=iG) (g:=bj (aq (aj 2) (aq (aj 3) bh))) (ft:=cS) (fi2:=bW) (g2:=bj (aq (aj 4) (aq (aj 5) bh))) (ft2:=cS) (fe:=bJ) (e:=[some (.d (bU W)),some (.d (.tuple (T.map cB))),some (.d (.tuple (ws.map dF)))]) (cs:=cs) (t:=[none,none,none,none]) (t':=t') rfl rfl rfl hf
        rw [List.nil_append,←List.map_flatMap] at hv
        have ga:∀e,g1 (kS nJ) e [.l (((gR (T.map cB) (ws.map dF)).flatMap (fB W ws)).map PyData.bool)]=some (.d (.bool (((gR (T.map cB) (ws.map dF)).flatMap (fB W ws)).all id))):=fun e=>sk (e:=e) (id:Bool→Bool) _
        refine⟨((gR (T.map cB) (ws.map dF)).flatMap (fB W ws)).all id,?_,fun e=>?_,fun e=>?_⟩
        · have ge:=fun e=>sA (e:=e) (a:=1) (b:=1) (c:=1) (d:=1)
          have hat:0 < T.length→atI (ws.map dF) 0=some (.tuple [.int 1,.int 1]):=fun q=>by
            have:=qt (rs:=ws) (k:=0) (z:=(1,1)) (by lia) (by lia)
            rw [show(0:Int).toNat=0 from rfl,z] at this
            exact this
          clear item hf c fb hb
          generalize ((gR (T.map cB) (ws.map dF)).flatMap (fB W ws)).all id=bb at*
          generalize ((gR (T.map cB) (ws.map dF)).flatMap (fB W ws)).map PyData.bool=M at*
          generalize T.map cB=TT at*
          generalize ws.map dF=WW at*
          by_cases q:0 < T.length
          · have q':0 < (T.length:Int):=by lia
            have hat:=hat q
            generalize (T.length:Int)=L at*
            simp? [bc,cF,ql,tf,q',hat,ge,hv,ga]
          · have q':¬0 < (T.length:Int):=by lia
            generalize (T.length:Int)=L at*
            simp? [bc,cF,ql,tf,q',hv,ga]
        · rw [xn (W:=W) h o tr hl z fun i x b hx n=>?_]
          have hi:i < ws.length:=by rw [hl];exact(List.getElem?_eq_some_iff.mp hx).1
          have hw:ws[i]?=some ws[i]:=List.getElem?_eq_getElem hi
          generalize ws[i]=f at hw
          have m1:=List.mem_of_getElem? (wn (xs:=T.map cB) (ys:=ws.map dF) (i:=i) (x:=cB x) (y:=dF f) (by rw [List.getElem?_map,hx];rfl) (by rw [List.getElem?_map,hw];rfl))
          have q:=List.all_eq_true.mp e (qB ws f (iq (gu x b) (ch W x.tie b))) (List.mem_flatMap.mpr ⟨_,m1,List.mem_map.mpr ⟨_,jO.mpr ⟨b,n,rfl⟩,rfl⟩⟩)
          have q:=CW.mp (show qB ws f _=true from q)
          rw [q,List.getD_eq_getElem?_getD,hw,Option.getD_some]
        · have e':ws=aV W T T.length:=qG (by simpa using e)
          rw [List.all_eq_true]
          intro x hx
          obtain⟨y,hy,hx2⟩:=List.mem_flatMap.mp hx
          obtain⟨i,nd,f,h1,h2,rfl⟩:=item y hy
          have hx3:x∈(i_ W nd).map (qB ws f):=hx2
          obtain⟨w,hw,rfl⟩:=List.mem_map.mp hx3
          obtain⟨b,n,rfl⟩:=jO.mp hw
          show qB ws f _=true
          rw [CW]
          have q:=jF (W:=W) h o tr.1 T.length i (List.getElem?_eq_some_iff.mp h1).1 nd b h1 n
          rw [←e',List.getD_eq_getElem?_getD (i:=i),h2,Option.getD_some] at q
          exact q
    | _=>simp [ik] at c
structure HJ (d:PyData):Prop where
  shown:eG d=true
  so:PyData.strOk d.shown=true
  sh:d.showable=true
  lay:d.canLay0=true∨∃m,d=.dict m
  dp:d.depth≤60
theorem yk{d:PyData}(h:sV 6 d=true)(hw:wt d≤1000):HJ d:=by
  have a:=xR h
  exact⟨a.ok (by decide) (by lia),a.so,a.sh,.inl a.lay,Nat.le_trans a.dp (by decide)⟩
theorem AM:∀d∈uH,HJ d:=fun d h=>by
  have s0:PyData.strOk ""=true:=br _
  have s1:PyData.strOk "a"=true:=br _
  have s2:PyData.strOk "0"=true:=br _
  have k0:("":Str).length≤10:=by decide
  have k1:("a":Str).length≤10:=by decide
  have k2:("0":Str).length≤10:=by decide
  unfold uH at h
  simp only [List.mem_cons,List.not_mem_nil,or_false] at h
  rcases h with rfl | rfl | rfl | rfl | rfl | rfl | rfl | rfl | rfl | rfl | rfl | rfl | rfl | rfl | rfl | rfl | rfl | rfl | rfl | rfl | rfl | rfl | rfl | rfl | rfl | rfl | rfl
  all_goals first
    | exact yk (by first | rfl | decide | (simp only [sV,jA,s0,s1,s2,k0,k1,k2];first | done | decide)) (by first | decide | (simp only [wt,mN];decide))
    | exact⟨by decide+kernel,by decide+kernel,by decide+kernel,.inr ⟨_,rfl⟩,by simp [PyData.depth,PyData.depthKv]⟩
structure vo (d:PyData):Prop where
  sh:d.showable=true
  bd:∀ws:List Fr,d=.tuple (ws.map dF)→∀f∈ws,Bt 200 f.1∧Bt 200 f.2
  tp:∀ds,d=.tuple ds→eG d=true∧PyData.strOk d.shown=true
theorem yP{k:Nat}{f:Fr}(h:sV k (dF f)=true):Bt 200 f.1∧Bt 200 f.2:=by
  simp only [dF,sV,jA,Bool.and_eq_true,decide_eq_true_eq] at h
  exact⟨Bt.mono (m:=128) h.2.1 (by decide),Bt.mono (m:=128) h.2.2.1 (by decide)⟩
theorem Ag{d:PyData}(h:sV 6 d=true)(hw:wt d≤1000):vo d:=by
  have f:=yk h hw
  refine⟨f.sh,fun ws e g hg=>?_,fun ds e=>⟨f.shown,f.so⟩⟩
  subst e
  simp only [sV,Bool.and_eq_true] at h
  exact yP (lX.mp h.2 (dF g) (List.mem_map_of_mem hg))
theorem wm:∀d∈uH,vo d:=fun d h=>by
  have f:=AM d h
  have key:sV 6 d=true∨∃m,d=.dict m:=by
    have s0:PyData.strOk ""=true:=br _
    have s1:PyData.strOk "a"=true:=br _
    have s2:PyData.strOk "0"=true:=br _
    have k0:("":Str).length≤10:=by decide
    have k1:("a":Str).length≤10:=by decide
    have k2:("0":Str).length≤10:=by decide
    unfold uH at h
    simp only [List.mem_cons,List.not_mem_nil,or_false] at h
    rcases h with rfl | rfl | rfl | rfl | rfl | rfl | rfl | rfl | rfl | rfl | rfl | rfl | rfl | rfl | rfl | rfl | rfl | rfl | rfl | rfl | rfl | rfl | rfl | rfl | rfl | rfl | rfl
    all_goals first
      | exact .inr ⟨_,rfl⟩
      | exact .inl (by first | rfl | decide | (simp only [sV,jA,s0,s1,s2,k0,k1,k2];first | done | decide))
  refine⟨f.sh,fun ws e g hg=>?_,fun ds e=>⟨f.shown,f.so⟩⟩
  rcases key with k | ⟨m,k⟩
  · subst e
    simp only [sV,Bool.and_eq_true] at k
    exact yP (lX.mp k.2 (dF g) (List.mem_map_of_mem hg))
  · rw [k] at e;cases e
theorem l_{W:aT}(ok:W.Ok){T:List Nd}{S:Nat→dw}(h:fD W T S)(hT:T.length≤65535):vo (.tuple ((aV W T T.length).map dF)):=by
  have sz:=(iO.all ok h T.length).shown ok h hT
  refine⟨sz.sh,fun ws e f hf=>?_,fun _ _=>⟨sz.ok (by decide) (by decide),sz.so⟩⟩
  have e':aV W T T.length=ws:=qG (by simpa using e)
  rw [←e'] at hf
  have b:=oh ok h f hf
  exact⟨b.top.mono (by decide),b.bot.mono (by decide)⟩
theorem yq{e:En}{a b:Str}(ha:PyData.strOk a=true)(hb:PyData.strOk b=true):bO false e (.d (.str a)) (.d (.str b))=some (.d (.bool (a==b))):=by
  simp [bO,iD,SeqAt.shaped,PyData.canLay0,PyData.depth,PyData.eqv,ha,hb]
theorem uV{W:aT}(ok:W.Ok){T:List Nd}{S:Nat→dw}(h:fD W T S)(hT:T.length≤65535){d:PyData}(hd:vo d):∃b,de [.d (.tuple ((aV W T T.length).map dF)),.d d]=some (.d (.bool b),[.d (.tuple ((aV W T T.length).map dF)),.d d])∧(b=true↔ d=.tuple ((aV W T T.length).map dF)):=by
  obtain⟨p1,p2⟩:=(l_ ok h hT).tp _ rfl
  have inj:=AU (aV W T T.length)
  generalize aV W T T.length=ws at*
  cases d with
  | tuple ds=>
    obtain⟨q1,q2⟩:=hd.tp _ rfl
    have r1:∀e,g1 kR e [.d (.tuple ds)]=some (.d (.str (PyData.shown (.tuple ds)))):=fun e=>vI q1
    have r2:∀e,g1 kR e [.d (.tuple (ws.map dF))]=some (.d (.str (PyData.shown (.tuple (ws.map dF))))):=fun e=>vI p1
    have ge:=fun e=>yq (e:=e) q2 p2
    refine⟨PyData.shown (.tuple ds)==PyData.shown (.tuple (ws.map dF)),?_,fun e=>xu inj (by simpa using e),fun e=>by rw [e];simp⟩
    generalize PyData.shown (.tuple ds)=A at*
    generalize PyData.shown (.tuple (ws.map dF))=B at*
    generalize ws.map dF=WW at*
    have ts:nR [.d (.tuple ds),.d (.tuple WW)]=some (.d (.bool (A==B)),[.d (.tuple ds),.d (.tuple WW)]):=by
      simp? [nR,xY,r1,r2,ge]
    generalize (A==B)=bb at*
    simp? [de,kc,mR,AY,zZ,EZ,ts]
  | _=>exact⟨false,by simp? [de,kc,mR,AY,zZ,EZ],(fun e=>by cases e),fun e=>by cases e⟩
structure Ap (z:PyData):Prop where
  lay:z.canLay0=true
  sh:z.showable=true
  dp:z.depth≤5
  ln:z.shown.length≤900
  so:PyData.strOk z.shown=true
  bd:∀f,z=dF f→Bt 200 f.1∧Bt 200 f.2
theorem uP{z:PyData}{n dep:Nat}(h:Sz n dep z)(hn:n≤900)(hd:dep≤5)(hl:z.canLay0=true)(bd:∀f,z=dF f→Bt 200 f.1∧Bt 200 f.2):Ap z:=⟨hl,h.sh,Nat.le_trans h.dp hd,Nat.le_trans h.ln hn,h.so,bd⟩
theorem rM:∀{xs:List PyData},(∀x∈xs,Ap x)→PyData.canLayAll0 xs=true∧PyData.showableAll xs=true∧PyData.depthAll xs≤5∧∀t∈PyData.shownAll xs,PyData.strOk t=true
  | [],_=>⟨rfl,rfl,by simp [PyData.depthAll],by simp [PyData.shownAll]⟩
  | d::r,h=>by
    have a:=h d (by simp)
    obtain⟨b1,b2,b3,b4⟩:=rM (xs:=r) fun x hx=>h x (by simp [hx])
    have:=a.dp
    refine⟨by simp only [PyData.canLayAll0,a.lay,b1,Bool.and_self],by simp only [PyData.showableAll,a.sh,b2,Bool.and_self],by simp only [PyData.depthAll];lia,fun t ht=>?_⟩
    simp only [PyData.shownAll,List.mem_cons] at ht
    rcases ht with rfl | ht
    · exact a.so
    · exact b4 t ht
theorem rS{xs:List PyData}(h:∀x∈xs,Ap x)(hp:piled (PyData.shownAll xs)≤16000000):vo (.tuple xs):=by
  obtain⟨b1,b2,b3,b4⟩:=rM h
  have ln:=j3 (PyData.shownAll xs)
  have sl:sizeLine=16777216:=sizeLine_eq
  have lay:PyData.canLay0 (.tuple xs)=true:=by simpa [PyData.canLay0] using b1
  have dp:PyData.depth (.tuple xs)≤60:=by simp only [PyData.depth];lia
  refine⟨b2,fun ws e f hf=>?_,fun ds _=>⟨?_,by simp only [PyData.shown];exact l8 b4⟩⟩
  · have e':xs=ws.map dF:=by simpa using e
    exact(h (dF f) (by rw [e'];exact List.mem_map_of_mem hf)).bd f rfl
  · unfold eG
    rw [PyData.hasDict_of_canLay _ lay,show PyData.showable (.tuple xs)=true from b2,decide_eq_true dp,decide_eq_true (show(PyData.shown (.tuple xs)).length≤sizeLine by rw [sl];simp only [PyData.shown];lia)]
    simp
theorem fP:∀(a b:List PyData),PyData.shownAll (a++b)=PyData.shownAll a++PyData.shownAll b
  | [],b=>rfl
  | x::r,b=>by simp only [List.cons_append,PyData.shownAll,fP r b]
theorem oj:∀{xs:List PyData},(∀x∈xs,x.shown.length≤95)→piled (PyData.shownAll xs)≤97*xs.length
  | [],_=>by simp [PyData.shownAll,piled]
  | d::r,h=>by
    have a:=h d (by simp)
    have b:=oj (xs:=r) fun x hx=>h x (by simp [hx])
    simp only [PyData.shownAll,L2.piled_cons,List.length_cons]
    lia
theorem iN{i:Int}(h:Bt 141 i):Sz 44 2 (.int i):=Sz.int10 (n:=43) h (by decide) (by decide) (Nat.lt_of_lt_of_le h (by decide)) (by decide)
theorem BL{i:Int}(h:Bt 141 i):Ap (.int i):=uP (iN h) (by decide) (by decide) rfl fun f e=>by cases e
theorem cu{a b:Int}(ha:Bt 141 a)(hb:Bt 141 b):Ap (.tuple [.int a,.int b]):=uP (Sz.tup (n:=44) (dep:=2) (m:=2) (fun d hd=>by
  simp only [List.mem_cons,List.not_mem_nil,or_false] at hd
  rcases hd with rfl | rfl
  · exact iN ha
  · exact iN hb) (by simp)) (by decide) (by decide) rfl fun f e=>by
    simp only [dF,PyData.tuple.injEq,List.cons.injEq,PyData.int.injEq,and_true] at e
    rw [←e.1,←e.2]
    exact⟨ha.mono (by decide),hb.mono (by decide)⟩
theorem yH{f:Fr}(ha:Bt 140 f.1)(hb:Bt 140 f.2):(dF f).shown.length≤95:=(Sz.fr140 ha hb).ln
theorem lh{n m:Nat}{xs:List PyData}(h:∀d∈xs,Sz n 2 d)(hl:xs.length≤m)(hn:m*(n+2)+3≤900)(hc:PyData.canLayAll0 xs=true)(hx:∀f,PyData.tuple xs≠dF f):Ap (.tuple xs):=uP (Sz.tup h hl) hn (by decide) (by simpa [PyData.canLay0] using hc) fun f e=>absurd e (hx f)
theorem zr{a b:Int}(ha:Bt 141 a)(hb:Bt 141 b):Ap (.list [.int a,.int b]):=by
  have s1:=iN ha;have s2:=iN hb
  have ln:=sL (PyData.shownAll [.int a,.int b])
  have p:piled (PyData.shownAll [.int a,.int b])≤92:=by
    have:=s1.ln;have:=s2.ln
    simp only [PyData.shownAll,L2.piled_cons,show piled []=0 from rfl]
    lia
  refine⟨rfl,by simp only [PyData.showable,PyData.showableAll];have:=s1.sh;have:=s2.sh;simp only [PyData.showable] at*;simp [*],by simp [PyData.depth,PyData.depthAll],by simp only [PyData.shown];lia,by
    simp only [PyData.shown]
    refine qb fun t ht=>?_
    simp only [PyData.shownAll,List.mem_cons,List.not_mem_nil,or_false] at ht
    rcases ht with rfl | rfl
    · exact s1.so
    · exact s2.so,fun f e=>by cases e⟩
def Gf(t m:Int)(g:PyData):List PyData:=
  [.tuple [.int (t+1),.int m],.tuple [.int (t - 1),.int m],.tuple [.int (2*t),.int (2*m)],.tuple [.int (0 - t),.int (0 - m)],.list [.int t,.int m],.tuple [.int t],
   .tuple [.int t,.int m,.int 1],.tuple [.int t,.int (m+1)],.int t,.tuple [.bool true,.int m],.tuple [.int t,.bool true],.none,.tuple [.str (toString t:String),.int m],
   .tuple [.int 0,.int 1],.tuple [.int 1,.int 1],g,.tuple [.int (0 - t),.int m],.tuple [.int m,.int m],.tuple [.int t,.int 0],.tuple [.int m,.int (max 1 t)]]
theorem Ei{t m:Int}{g:PyData}(ht:Bt 140 t)(hm:Bt 140 m)(hg:Ap g):∀z∈Gf t m g,Ap z:=fun z hz=>by
  have b1:Bt 141 1:=by unfold Bt;decide
  have b0:Bt 141 0:=by unfold Bt;decide
  have T:=ht.mono (n:=141) (by decide)
  have M:=hm.mono (n:=141) (by decide)
  have one:Bt 140 1:=by unfold Bt;decide
  have two:Bt 1 2∨True:=.inr trivial
  have t1:Bt 141 (t+1):=ht.add one
  have t2:Bt 141 (t - 1):=by rw [Int.sub_eq_add_neg];exact ht.add one.neg
  have m1:Bt 141 (m+1):=hm.add one
  have d1:Bt 141 (2*t):=by rw [show 2*t=t+t by lia];exact ht.add ht
  have d2:Bt 141 (2*m):=by rw [show 2*m=m+m by lia];exact hm.add hm
  have n1:Bt 141 (0 - t):=by rw [show 0 - t= -t by lia];exact T.neg
  have n2:Bt 141 (0 - m):=by rw [show 0 - m= -m by lia];exact M.neg
  have mx:Bt 141 (max 1 t):=by
    rcases Int.le_total 1 t with q | q
    · rw [Int.max_eq_right q];exact T
    · rw [Int.max_eq_left q];exact b1
  have sb:Sz 44 2 (.bool true):=Sz.bool.mono (by decide) (by decide)
  have sx:PyData.strOk (Str.ofString (toString t))=true:=br _
  have sl:(Str.ofString (toString t)).length≤44:=by have:=(iN T).ln;simpa only [PyData.shown] using this
  unfold Gf at hz
  simp only [List.mem_cons,List.not_mem_nil,or_false] at hz
  rcases hz with rfl | rfl | rfl | rfl | rfl | rfl | rfl | rfl | rfl | rfl | rfl | rfl | rfl | rfl | rfl | rfl | rfl | rfl | rfl | rfl
  · exact cu t1 M
  · exact cu t2 M
  · exact cu d1 d2
  · exact cu n1 n2
  · exact zr T M
  · exact lh (n:=44) (m:=1) (fun d hd=>by simp at hd;subst hd;exact iN T) (by simp) (by decide) rfl fun f e=>by simp [dF] at e
  · exact lh (n:=44) (m:=3) (fun d hd=>by
      simp only [List.mem_cons,List.not_mem_nil,or_false] at hd
      rcases hd with rfl | rfl | rfl
      · exact iN T
      · exact iN M
      · exact iN b1) (by simp) (by decide) rfl fun f e=>by simp [dF] at e
  · exact cu T m1
  · exact BL T
  · exact lh (n:=44) (m:=2) (fun d hd=>by
      simp only [List.mem_cons,List.not_mem_nil,or_false] at hd
      rcases hd with rfl | rfl
      · exact sb
      · exact iN M) (by simp) (by decide) rfl fun f e=>by simp [dF] at e
  · exact lh (n:=44) (m:=2) (fun d hd=>by
      simp only [List.mem_cons,List.not_mem_nil,or_false] at hd
      rcases hd with rfl | rfl
      · exact iN T
      · exact sb) (by simp) (by decide) rfl fun f e=>by simp [dF] at e
  · exact⟨rfl,rfl,by simp [PyData.depth],by show(Str.ofString "None").length≤900;decide,br _,fun f e=>by cases e⟩
  · exact lh (n:=442) (m:=2) (fun d hd=>by
      simp only [List.mem_cons,List.not_mem_nil,or_false] at hd
      rcases hd with rfl | rfl
      · exact(Sz.str (n:=44) sx sl).mono (by decide) (by decide)
      · exact(iN M).mono (by decide) (by decide)) (by simp) (by decide) (by simp only [PyData.canLayAll0,PyData.canLay0,sx,Bool.and_self]) fun f e=>by simp [dF] at e
  · exact cu b0 b1
  · exact cu b1 b1
  · exact hg
  · exact cu n1 M
  · exact cu M M
  · exact cu T b0
  · exact cu M mx
theorem ES{ws:List Fr}(hw:∀f∈ws,FB 140 f)(hl:ws.length≤65535){ds:List Int}(hd:gZ ds):∃(d:PyData) (ds':List Int),lS [.l (ds.map .int),.d (.tuple (ws.map dF))]=some (.d d,[.l (ds'.map .int),.d (.tuple (ws.map dF))])∧gZ ds'∧vo d:=by
  obtain⟨n0,d1,t1,a1,b1,hd1⟩:=gM hd
  obtain⟨n1,d2,t2,a2,b2,hd2⟩:=gM hd1
  obtain⟨n,d3,t3,a3,b3,hd3⟩:=gM hd2
  have prt:∀x∈ws.map dF,Ap x:=fun x hx=>by
    obtain⟨f,hf,rfl⟩:=List.mem_map.mp hx
    have b:=hw f hf
    exact cu (b.top.mono (by decide)) (b.bot.mono (by decide))
  have len95:∀x∈ws.map dF,x.shown.length≤95:=fun x hx=>by
    obtain⟨f,hf,rfl⟩:=List.mem_map.mp hx
    exact yH (hw f hf).top (hw f hf).bot
  obtain⟨r1,r2,r3,r4⟩:=rM prt
  have sh:SeqAt.shaped (.tuple (ws.map dF))=true:=by
    unfold SeqAt.shaped
    rw [show PyData.canLay0 (.tuple (ws.map dF))=true by simpa [PyData.canLay0] using r1,decide_eq_true (show PyData.depth (.tuple (ws.map dF))≤64 by simp only [PyData.depth];lia)];rfl
  have eq0:=fun e=>yp (e:=e) (neg:=false) sh
  have hO:(ws.map dF).length≤65535:=by simpa using hl
  have gm:∀(e:En) (i j:Int),0 < j→a9 e (.d (.int i)) (.d (.int j))=some (.d (.int (i % j))):=fun e i j hj=>aS hj
  by_cases c:ws=[]
  · subst c
    have g1':=fun e=>gm e n0 (max 1 0) (by decide)
    have g2':=fun e=>gm e n1 (max 1 0) (by decide)
    have g4:=fun e=>gm e n 4 (by decide)
    obtain⟨z,hz,ha⟩:=eh (xs:=[PyData.tuple [.tuple [.int 0,.int 1]],.tuple [.tuple []],.list [],.tuple [.tuple [.int 1,.int 1]]]) (i:=n % 4) (Int.emod_nonneg _ (by decide)) (by have:n % 4 < 4:=Int.emod_lt_of_pos _ (by decide);simpa using this)
    refine⟨z,d3,?_,hd3,?_⟩
    · simp only [List.map_nil,List.isEmpty_nil,Bool.false_eq_true,if_false] at eq0 ⊢
      generalize n % 4=i at*
      have e0:∀e,g2 oY e [.d (.int 1),.d (.int 0)]=some (.d (.int (max 1 0))):=fun e=>dM
      simp? [lS,ul,t1,t2,t3,g1',g2',g4,eq0,ha]
    · simp only [List.mem_cons,List.not_mem_nil,or_false] at hz
      rcases hz with rfl | rfl | rfl | rfl<;>exact Ag (by first | rfl | decide) (by first | decide | simp [wt,mN])
  · have pos:0 < ws.length:=List.length_pos_iff.mpr c
    have fr:∀i:Int,0≤i→i < ((ws.map dF).length:Int)→∃f∈ws,atI (ws.map dF) i=some (dF f):=fun i h0 h1=>by
      obtain⟨x,hx,ax⟩:=eh (xs:=ws.map dF) h0 h1
      obtain⟨f,hf,rfl⟩:=List.mem_map.mp hx
      exact⟨f,hf,ax⟩
    have mp:max 1 ((ws.map dF).length:Int)=((ws.map dF).length:Int):=by rw [List.length_map];lia
    have g1':=fun e=>gm e n0 ((ws.map dF).length:Int) (by rw [List.length_map];lia)
    have g2':=fun e=>gm e n1 ((ws.map dF).length:Int) (by rw [List.length_map];lia)
    have x0:0≤n0 % ((ws.map dF).length:Int):=Int.emod_nonneg _ (by rw [List.length_map];lia)
    have x1:n0 % ((ws.map dF).length:Int) < ((ws.map dF).length:Int):=Int.emod_lt_of_pos _ (by rw [List.length_map];lia)
    have y0:0≤n1 % ((ws.map dF).length:Int):=Int.emod_nonneg _ (by rw [List.length_map];lia)
    have y1:n1 % ((ws.map dF).length:Int) < ((ws.map dF).length:Int):=Int.emod_lt_of_pos _ (by rw [List.length_map];lia)
    obtain⟨f,hf,af⟩:=fr _ x0 x1
    obtain⟨g,hg,ag⟩:=fr _ y0 y1
    have bf:=hw f hf
    have pg:=prt (dF g) (List.mem_map_of_mem hg)
    have ne:(ws.map dF).isEmpty=false:=by
      cases ws with
      | nil=>exact absurd rfl c
      | cons _ _=>rfl
    rw [ne] at eq0
    simp only [Bool.false_eq_true,if_false] at eq0
    obtain⟨z,hz,az⟩:=eh (xs:=Gf f.1 f.2 (dF g)) (i:=n % 20) (Int.emod_nonneg _ (by decide)) (by have:n % 20 < 20:=Int.emod_lt_of_pos _ (by decide);simpa [Gf] using this)
    have pz:=Ei bf.top bf.bot pg z hz
    have g20:=fun e=>gm e n 20 (by decide)
    have f20:∀e,dm e (.d (.int n)) (.d (.int 20))=some (.d (.int (n / 20))):=fun e=>el (by decide) (Bt.mono (m:=7) (by unfold Bt;lia) (by decide))
    have g6:=fun e=>gm e (n / 20) 6 (by decide)
    have m1:∀e,c_ e (.d (.int 2)) (.d (.int f.1))=some (.d (.int (2*f.1))):=fun e=>cV (nW (by decide) (by decide))
    have m2:∀e,c_ e (.d (.int 2)) (.d (.int f.2))=some (.d (.int (2*f.2))):=fun e=>cV (nW (by decide) (by decide))
    have gs:∀e,g1 uv e [.d (.int f.1)]=some (.d (.str (toString f.1:String))):=fun e=>by
      have:f.1.natAbs.log2 < 1900:=Nat.lt_of_lt_of_le (bf.top.log (by decide)) (by decide)
      simp only [g1,uv,if_pos this]
    have gc:∀(e:En) (xs ys:List PyData),e[7]?=some (some (.l xs))→xs.length+ys.length≤1000000→bD e (.s 7) (.l ys)=some (.l (xs++ys)):=fun e xs ys he h=>qN he h
    have gl:∀e,g1 vH e [.d (.tuple (ws.map dF))]=some (.l (ws.map dF)):=fun e=>rfl
    have hdf:dF f=.tuple [.int f.1,.int f.2]:=rfl
    rw [hdf] at af
    simp only [Gf] at az
    generalize dF g=G at*
    generalize f.1=t at*
    generalize f.2=m at*
    have tS:vo (.list (ws.map dF)):=⟨r2,(fun _ e=>by cases e),(fun _ e=>by cases e)⟩
    generalize ws.map dF=O at*
    generalize n0 % (O.length:Int)=i at*
    generalize n1 % (O.length:Int)=j at*
    generalize n % 20=k at*
    have cm:∀lo hi,∀x∈gS O lo hi,x∈O:=fun lo hi x hx=>List.mem_of_mem_drop (List.mem_of_mem_take hx)
    have cl:∀lo hi,(gS O lo hi).length≤65535:=fun lo hi=>Nat.le_trans AG hO
    have cp:∀lo hi,piled (PyData.shownAll (gS O lo hi))≤97*65535:=fun lo hi=>Nat.le_trans (oj fun x hx=>len95 x (cm lo hi x hx)) (Nat.mul_le_mul_left _ (cl lo hi))
    have pO:piled (PyData.shownAll O)≤97*65535:=Nat.le_trans (oj len95) (Nat.mul_le_mul_left _ hO)
    have e1:=cm none (some i);have e2:=cm (some (i+1)) none;have e3:=cm (some i) (some (i+1))
    have l1:=cl none (some i);have l2:=cl (some (i+1)) none;have l3:=cl (some i) (some (i+1))
    have p1:=cp none (some i);have p2:=cp (some (i+1)) none;have p3:=cp (some i) (some (i+1))
    generalize w1:gS O none (some i)=A1 at*
    generalize w2:gS O (some (i+1)) none=A2 at*
    generalize w3:gS O (some i) (some (i+1))=A3 at*
    have k1:∀e,bD e (.d (.tuple A1)) (.d (.tuple [z]))=some (.d (.tuple (A1++[z]))):=fun e=>jl (by simp;lia)
    have k2:∀e,bD e (.d (.tuple (A1++[z]))) (.d (.tuple A2))=some (.d (.tuple (A1++[z]++A2))):=fun e=>jl (by simp;lia)
    have k3:∀e,bD e (.d (.tuple A1)) (.d (.tuple A2))=some (.d (.tuple (A1++A2))):=fun e=>jl (by lia)
    have k4:∀e,bD e (.d (.tuple O)) (.d (.tuple A3))=some (.d (.tuple (O++A3))):=fun e=>jl (by lia)
    have zl:=pz.ln
    have T1:vo (.tuple (A1++[z]++A2)):=rS (fun x hx=>by
      rcases List.mem_append.mp hx with hx | hx
      · rcases List.mem_append.mp hx with hx | hx
        · exact prt x (e1 x hx)
        · simp at hx;subst hx;exact pz
      · exact prt x (e2 x hx)) (by
      simp only [fP,piled_append,PyData.shownAll,L2.piled_cons,show piled []=0 from rfl]
      lia)
    have T2:vo (.tuple (A1++A2)):=rS (fun x hx=>by
      rcases List.mem_append.mp hx with hx | hx
      · exact prt x (e1 x hx)
      · exact prt x (e2 x hx)) (by
      simp only [fP,piled_append]
      lia)
    have T3:vo (.tuple (O++A3)):=rS (fun x hx=>by
      rcases List.mem_append.mp hx with hx | hx
      · exact prt x hx
      · exact prt x (e3 x hx)) (by
      simp only [fP,piled_append]
      lia)
    generalize A1++[z]++A2=B1 at*
    generalize A1++[z]=B0 at*
    generalize A1++A2=B2 at*
    generalize O++A3=B3 at*
    obtain⟨y,hy,ay⟩:=eh (xs:=[PyData.tuple B1,.tuple B1,.tuple B1,.tuple B2,.tuple B3,.list O]) (i:=n / 20 % 6) (Int.emod_nonneg _ (by decide)) (by have:n / 20 % 6 < 6:=Int.emod_lt_of_pos _ (by decide);simpa using this)
    refine⟨y,d3,?_,hd3,?_⟩
    · generalize n / 20 % 6=v at*
      simp only [Int.zero_sub] at az
      generalize Str.ofString (toString t)=St at gs az
      simp? [lS,ul,t1,t2,t3,mp,g1',g2',eq0,af,ag,m1,m2,gs,gc,g20,az,w1,w2,w3,k1,k2,k3,k4,gl,f20,g6,ay]
    · simp only [List.mem_cons,List.not_mem_nil,or_false] at hy
      rcases hy with rfl | rfl | rfl | rfl | rfl | rfl
      · exact T1
      · exact T1
      · exact T1
      · exact T2
      · exact T3
      · exact tS
def pE(W:aT)(T:List Nd)(rs:List Fr)(v3 v4 v5 v6 v7 v8 v9 v10:Option Sv):En:=[some (.d (bU W)),some (.d (.tuple (T.map cB))),some (.l (rs.map dF)),v3,v4,v5,v6,v7,v8,v9,v10]
theorem Ae{W:aT}{T:List Nd}{rs:List Fr}{i:Nat}{k:Int}{b:Bool}{l:Int}{v4 v5 v6 v7 v8:Option Sv}(hi:i < rs.length)(tt:iY [.d (dF (rs.getD i (1,1))),.d (dF (ch W k b))]=some (.d (dF (tm (rs.getD i (1,1)) (ch W k b))),[.d (dF (rs.getD i (1,1))),.d (dF (ch W k b))]))(hl: -1≤l∧l < (rs.length:Int)):
    eI (pE W T rs (some (.d (.int i))) v4 v5 v6 v7 v8 (some (.d (.int l))) (some (.d (dF (ch W k b)))))=some (.nx (pE W T (rstp W rs i k b l) (some (.d (.int i))) v4 v5 v6 v7 v8 (some (.d (.int l))) (some (.d (dF (ch W k b)))))):=by
  have ha:=xT (z:=(1,1)) hi
  by_cases h0:l= -1
  · subst h0
    rw [B6]
    simp? [pE,eI]
  · have hix:mT rs.length l=some l.toNat:=by unfold mT;rw [if_pos (by lia),if_pos hl.2]
    unfold rstp
    rw [if_neg h0]
    generalize rs.getD i (1,1)=r at tt ha
    generalize ch W k b=c at tt
    simp? [pE,eI,h0,ha,tt,xo,ky,hix,List.map_set]
inductive Hb (W:aT) (T:List Nd) (i:Nat):En→Prop
  | mk {v3 v4 v5 v6 v7 v8 v9 v10}:Hb W T i (pE W T (aV W T i) v3 v4 v5 v6 v7 v8 v9 v10)
theorem qd{W:aT}(ok:W.Ok){T:List Nd}{S:Nat→dw}(h:fD W T S)(hT:T.length≤65535):fV [.d (bU W),.d (.tuple (T.map cB))]=some (.d (.tuple ((aV W T T.length).map dF)),[.d (bU W),.d (.tuple (T.map cB))]):=by
  have gw:∀e,cD e (.d (bU W)) (.d (.int 1))=some (.d (.tuple (W.ties.map gf))):=fun e=>by rw [jj,j6,ij];rfl
  obtain⟨e2,h1,hI⟩:=dI (own:=[]) (g:=bj (aq (aj 3) (aq (aj 4) bh))) (f:=gY) (Hb W T) (gj 0 (T.map cB)) 0 (pE W T (aV W T 0) none none none none none none none none) (fun i x e hx hI=>by
    obtain⟨⟩:=hI
    rename_i v3 v4 v5 v6 v7 v8 v9 v10
    obtain⟨y,hy,rfl⟩:=yi hx
    have hi:i < T.length:=(List.getElem?_eq_some_iff.mp hy).1
    have o:=h i y hy
    have s0:=iO.all ok h i
    have s1:=s0.stp ok hi o.tie o.yes
    have e1:Hb W T (0+i+1) (pE W T (mV W (aV W T i) i y) (some (.d (.int i))) (some (.d (cB y))) (some (.d (.int y.tie))) (some (.d (.int y.yes))) (some (.d (.int y.no))) (some (.d (dF (ch W y.tie true)))) (some (.d (.int y.no))) (some (.d (dF (ch W y.tie false))))):=by
      rw [Nat.zero_add,←rL hy]
      exact .mk
    rw [Nat.zero_add] at e1 ⊢
    generalize aV W T i=rs at s0 s1 e1 ⊢
    have ba:=nB ok
    have bb:Bt 113 (W.tie y.tie).bot:=by
      have ot:=o.tie.ok ok
      have:=ot.b0;have:=ot.b1
      exact Bt.mono (m:=7) (by unfold Bt;lia) (by decide)
    have b0:0 < (W.tie y.tie).bot:=by
      have:=(o.tie.ok ok).b0;lia
    have tt:∀(rs:List Fr),iO W S T.length rs→∀b,iY [.d (dF (rs.getD i (1,1))),.d (dF (ch W y.tie b))]=some (.d (dF (tm (rs.getD i (1,1)) (ch W y.tie b))),[.d (dF (rs.getD i (1,1))),.d (dF (ch W y.tie b))]):=fun rs s b=>by
      have r:=s.one ok h hi
      have c:=CG ok o.tie b
      exact B_ r.pos c.pos (r.bt ba.2 ba.1).1 (r.bt ba.2 ba.1).2 (c.bt bb b0).1 (c.bt bb b0).2 (by decide)
    have u1:=Ae (W:=W) (T:=T) (k:=y.tie) (b:=true) (l:=y.yes) (v4:=some (.d (cB y))) (v5:=some (.d (.int y.tie))) (v6:=some (.d (.int y.yes))) (v7:=some (.d (.int y.no))) (v8:=some (.d (dF (ch W y.tie true)))) (by rw [s0.len];exact hi) (tt rs s0 true) (by rw [s0.len];exact o.yes.rng)
    have u2:=Ae (W:=W) (T:=T) (k:=y.tie) (b:=false) (l:=y.no) (v4:=some (.d (cB y))) (v5:=some (.d (.int y.tie))) (v6:=some (.d (.int y.yes))) (v7:=some (.d (.int y.no))) (v8:=some (.d (dF (ch W y.tie true)))) (by rw [s1.len];exact hi) (tt _ s1 false) (by rw [s1.len];exact o.no.rng)
    have tr:=EO (W:=W) (k:=y.tie)
    rw [←qH] at tr
    have hf:∀Wl,ef Wl jt (bj (aq (aj 9) (aq (aj 10) bh))) eI (pE W T rs (some (.d (.int i))) (some (.d (cB y))) (some (.d (.int y.tie))) (some (.d (.int y.yes))) (some (.d (.int y.no))) (some (.d (dF (ch W y.tie true)))) v9 v10)=some (.nx (pE W T (mV W rs i y) (some (.d (.int i))) (some (.d (cB y))) (some (.d (.int y.tie))) (some (.d (.int y.yes))) (some (.d (.int y.no))) (some (.d (dF (ch W y.tie true)))) (some (.d (.int y.no))) (some (.d (dF (ch W y.tie false)))))):=fun Wl=>by
      rw [ic (items:=[iq y.yes (ch W y.tie true),iq y.no (ch W y.tie false)]) (e1:=pE W T rs (some (.d (.int i))) (some (.d (cB y))) (some (.d (.int y.tie))) (some (.d (.int y.yes))) (some (.d (.int y.no))) (some (.d (dF (ch W y.tie true)))) v9 v10) (show jt (pE W T rs (some (.d (.int i))) (some (.d (cB y))) (some (.d (.int y.tie))) (some (.d (.int y.yes))) (some (.d (.int y.no))) (some (.d (dF (ch W y.tie true)))) v9 v10)=_ from yy (by
        generalize hg1:dF (ch W y.tie true)=f1 at tr ⊢
        generalize hg2:dF (ch W y.tie false)=f2 at tr ⊢
        simp? [pE,tr,iq,hg1,hg2]))]
      unfold mV
      unfold pE at u1 u2 ⊢
      simp only [kj,iq,bj,aq,aj,bh,List.set_cons_succ,List.set_cons_zero,Option.bind_some,u1,u2,if_pos cy]
    refine⟨pE W T rs (some (.d (.int i))) (some (.d (cB y))) v5 v6 v7 v8 v9 v10,pE W T (mV W rs i y) (some (.d (.int i))) (some (.d (cB y))) (some (.d (.int y.tie))) (some (.d (.int y.yes))) (some (.d (.int y.no))) (some (.d (dF (ch W y.tie true)))) (some (.d (.int y.no))) (some (.d (dF (ch W y.tie false)))),by simp? [pE],?_,cy,e1⟩
    · have ha:=jf o.tie
      have s1:i0 (ac 4) (bj (aq (aj 5) (aq (aj 6) (aq (aj 7) bh)))) (pE W T rs (some (.d (.int i))) (some (.d (cB y))) v5 v6 v7 v8 v9 v10)=some (.nx (pE W T rs (some (.d (.int i))) (some (.d (cB y))) (some (.d (.int y.tie))) (some (.d (.int y.yes))) (some (.d (.int y.no))) v8 v9 v10)):=by
        simp? [pE,cB]
      have s2:a_ 8 (au cD (au cD (au cD (ac 0) (vC (.int 1))) (ac 5)) (vC (.int 2))) (pE W T rs (some (.d (.int i))) (some (.d (cB y))) (some (.d (.int y.tie))) (some (.d (.int y.yes))) (some (.d (.int y.no))) v8 v9 v10)=some (.nx (pE W T rs (some (.d (.int i))) (some (.d (cB y))) (some (.d (.int y.tie))) (some (.d (.int y.yes))) (some (.d (.int y.no))) (some (.d (dF (ch W y.tie true)))) v9 v10)):=by
        rw [qH]
        simp? [pE,gw,ha,gf]
      unfold gY
      rw [cn s1,cn s2,hf]) (.mk)
  obtain⟨⟩:=hI
  rename_i v3 v4 v5 v6 v7 v8 v9 v10
  rw [Nat.zero_add,iF,List.length_map] at h1
  have hfor:∀Wl,ef Wl mG (bj (aq (aj 3) (aq (aj 4) bh))) gY (pE W T (aV W T 0) none none none none none none none none)=some (.nx (pE W T (aV W T T.length) v3 v4 v5 v6 v7 v8 v9 v10)):=fun Wl=>by
    rw [ic (items:=gj 0 (T.map cB)) (e1:=pE W T (aV W T 0) none none none none none none none none) rfl]
    exact h1
  have gr:∀e:En,c_ e (.l [.tuple [.int 1,.int 1]]) (.d (.int (T.length:Int)))=some (.l ((aV W T 0).map dF)):=fun e=>by
    rw [CL (by lia) (by lia)]
    simp [aV,dF]
  unfold pE at hfor
  simp? [fV,pj,gr,hfor]
abbrev iW(ns ds:List Int)(k:Option Sv)(W:aT)(T U:List Nd)(ws:List Fr)(things:List PyData)(v8:Option Sv):En:=[some (.d (.list (ns.map .int))),some (.l (ds.map .int)),k,some (.d (bU W)),some (.d (.tuple (T.map cB))),some (.d (.tuple (U.map cB))),some (.d (.tuple (ws.map dF))),some (.l things),v8]
theorem Dn{ns ds:List Int}{q:Int}(q0:0≤q)(q1:q < 4){W:aT}{T U:List Nd}{ws:List Fr}{things:List PyData}{v8:Option Sv}(hw:∀f∈ws,FB 140 f)(hl:ws.length≤65535)(hd:gZ ds):∃(ds':List Int) (out:List PyData),ee [(1,"_law_drawn"),(6,"_law_paper")] 1 G3 (aj 2) cS G0 (iW ns ds (some (.d (.int q))) W T U ws things v8)=some (.l out,iW ns ds' (some (.d (.int q))) W T U ws things v8)∧gZ ds'∧out.length≤8∧∀d∈out,vo d:=by
  obtain⟨z,hz,ha⟩:=eh (xs:=[PyData.int 4,.int 8,.int 8,.int 8]) (i:=q) q0 (by simpa using q1)
  obtain⟨c,rfl,c0,c1⟩:∃c:Int,z=.int c∧0≤c∧c≤8:=by
    simp only [List.mem_cons,List.not_mem_nil,or_false] at hz
    rcases hz with rfl | rfl | rfl | rfl<;>exact⟨_,rfl,by decide,by decide⟩
  obtain⟨out,e',h1,h2,h3,⟨ds',v,he,hd'⟩⟩:=pH (g:=aj 2) (ft:=cS) (fe:=G0) (fun i e=>∃ds v,e=[some (.l (ds.map .int)),some (.d (.tuple (ws.map dF))),v]∧gZ ds) vo (bx 0 c.toNat) 0 [some (.l (ds.map .int)),some (.d (.tuple (ws.map dF))),none] [] (fun i x e hx ⟨ds,v,he,hd⟩=>by
    subst he
    obtain⟨d,ds',tb,hd',sz⟩:=ES hw hl hd
    refine⟨_,.d d,d,_,rfl,rfl,?_,rfl,sz,ds',some (.d x),rfl,hd'⟩
    generalize ws.map dF=O at*
    simp? [G0,tb]) ⟨ds,none,rfl,hd⟩ (by rw [eA];simp;lia)
  subst he
  refine⟨ds',out,?_,hd',by rw [h2,eA];lia,h3⟩
  rw [List.nil_append] at h1
  have hi:G3 (iW ns ds (some (.d (.int q))) W T U ws things v8)=some (bx 0 c.toNat,[],iW ns ds (some (.d (.int q))) W T U ws things v8):=en (n:=c) (by simp? [iW,ha]) (by lia) (by lia)
  rw [xH (cp:=[(1,"_law_drawn"),(6,"_law_paper")]) (nT:=1) (fi:=G3) (e:=iW ns ds (some (.d (.int q))) W T U ws things v8) (e1:=iW ns ds (some (.d (.int q))) W T U ws things v8) (items:=bx 0 c.toNat) hi h1 rfl]
  refine congrArg (fun z=>some (Rv.l out,z)) ?_
  rcases v8 with _ | (_ | _ | _)<;>rfl
inductive LI (ns:List Int):En→Prop
  | mk {ds v2 v3 v4 v5 v6 v7 v8} (hd:gZ ds):LI ns [some (.d (.list (ns.map .int))),some (.l (ds.map .int)),v2,v3,v4,v5,v6,v7,v8]
theorem yG(ns:List Int)(hl:ns.length≤63):∃as',nV [.d (.list (ns.map .int))]=some (.d (.bool true),as'):=by
  obtain⟨ds,td,hd⟩:=Ca ns hl
  obtain⟨e2,h1,hI⟩:=dI (own:=[]) (g:=aj 2) (f:=GZ) (fun _=>LI ns) (bx 0 4) 0 [some (.d (.list (ns.map .int))),some (.l (ds.map .int)),none,none,none,none,none,none,none] (fun i x e hx hI=>by
    obtain⟨hd⟩:=hI
    rename_i ds v2 v3 v4 v5 v6 v7 v8
    obtain⟨rfl,hi⟩:=ey hx
    have q0:0≤0+(i:Int):=by lia
    have q1:0+(i:Int) < 4:=by lia
    generalize (0+(i:Int))=q at*
    obtain⟨W,d1,tw,hd1,ok,_,_⟩:=GP ds 12 16 hd (by decide) (by decide) (by decide) (by decide)
    obtain⟨d2,T,S,tt,hd2,hT,lT,oT,rT⟩:=Af ok (q==0) hd1
    obtain⟨d3,U,S2,tu,hd3,hU,lU,oU,rU⟩:=Af ok false hd2
    have p1:=qd ok hT lT
    have p2:=qd ok hU lU
    obtain⟨n1,d4,u1,_,_,hd4⟩:=gM hd3
    obtain⟨o1,ho1,w1⟩:=C5 n1
    obtain⟨n2,d5,u2,_,_,hd5⟩:=gM hd4
    obtain⟨o2,ho2,w2⟩:=C5 n2
    have fb:=oh ok hT
    have lw:(aV W T T.length).length≤65535:=by rw [eY];exact lT
    have tg1:=l_ ok hT lT
    have tg2:=l_ ok hU lU
    obtain⟨d6,out,c1,hd6,l1,s1⟩:=Dn (ns:=ns) q0 q1 (W:=W) (T:=T) (U:=U) (ws:=aV W T T.length) (things:=[.tuple ((aV W T T.length).map dF),.tuple ((aV W U U.length).map dF),.tuple [],o1,o2]) (v8:=v8) fb lw hd5
    have sall:∀d∈[.tuple ((aV W T T.length).map dF),.tuple ((aV W U U.length).map dF),.tuple [],o1,o2]++out,vo d:=fun d h=>by
      rcases List.mem_append.mp h with h | h
      · simp only [List.mem_cons,List.not_mem_nil,or_false] at h
        rcases h with rfl | rfl | rfl | rfl | rfl
        · exact tg1
        · exact tg2
        · exact Ag rfl (by simp [wt,mN])
        · exact wm _ ho1
        · exact wm _ ho2
      · exact s1 d h
    have lall:[.tuple ((aV W T T.length).map dF),.tuple ((aV W U U.length).map dF),.tuple [],o1,o2].length+out.length≤1000000:=by simp;lia
    have lT5:[PyData.tuple ((aV W T T.length).map dF),.tuple ((aV W U U.length).map dF),.tuple [],o1,o2].length≤1000:=by simp
    have both:∀d,vo d→∃b,bc [.d (bU W),.d (.tuple (T.map cB)),.d d]=some (.d (.bool b),[.d (bU W),.d (.tuple (T.map cB)),.d d])∧de [.d (.tuple ((aV W T T.length).map dF)),.d d]=some (.d (.bool b),[.d (.tuple ((aV W T T.length).map dF)),.d d]):=fun d hg=>by
      obtain⟨b,r1,r2⟩:=jL ok hT oT rT lT hg.sh hg.bd
      obtain⟨b',r3,r4⟩:=uV ok hT lT hg
      have:b=b':=by rw [Bool.eq_iff_iff];exact r2.trans r4.symm
      subst this
      exact⟨b,r1,r3⟩
    obtain⟨bp,hp1,hp2⟩:=jL ok hT oT rT lT tg1.sh tg1.bd
    have hbp:bp=true:=hp2.mpr rfl
    subst hbp
    have ca:∀(e:En) (xs ys:List PyData),e[7]?=some (some (.l xs))→xs.length+ys.length≤1000000→bD e (.s 7) (.l ys)=some (.l (xs++ys)):=fun e xs ys he h=>qN he h
    have gb:∀e:En,qO e (.d (.bool true)) (.d (.bool true))=some (.d (.bool false)):=fun e=>rfl
    have gq:∀e:En,bO false e (.d (.int q)) (.d (.int 0))=some (.d (.bool (q==0))):=fun e=>fK
    generalize hTh:[.tuple ((aV W T T.length).map dF),.tuple ((aV W U U.length).map dF),.tuple [],o1,o2]=Th at*
    generalize hT2:Th++out=T2 at*
    obtain⟨e3,h3,⟨w8,he3⟩⟩:=dI (own:=[(7,T2)]) (g:=aj 8) (f:=GY) (fun i e=>∃v8,e=iW ns d6 (some (.d (.int q))) W T U (aV W T T.length) T2 v8) T2 0 (iW ns d6 (some (.d (.int q))) W T U (aV W T T.length) T2 v8) (fun i x e hx ⟨v8,he⟩=>by
      subst he
      obtain⟨b,r1,r2⟩:=both x (sall x (List.mem_of_getElem? hx))
      have r3:=EU b b
      rw [beq_self_eq_true] at r3
      refine⟨iW ns d6 (some (.d (.int q))) W T U (aV W T T.length) T2 (some (.d x)),iW ns d6 (some (.d (.int q))) W T U (aV W T T.length) T2 (some (.d x)),rfl,?_,fun p hp=>by simp at hp;subst hp;rfl,_,rfl⟩
      simp only [iW]
      generalize T.map cB=TT at*
      generalize (aV W T T.length).map dF=PP at*
      simp? [GY,r1,r2,r3]) ⟨v8,rfl⟩
    subst he3
    have hf:ef [8] Hm (aj 8) GY (iW ns d6 (some (.d (.int q))) W T U (aV W T T.length) T2 v8)=some (.nx (iW ns d6 (some (.d (.int q))) W T U (aV W T T.length) T2 w8)):=by
      unfold ef
      rw [show Hm (iW ns d6 (some (.d (.int q))) W T U (aV W T T.length) T2 v8)=some (T2,[(7,T2)],iW ns d6 (some (.d (.int q))) W T U (aV W T T.length) T2 v8) from rfl]
      exact h3
    refine⟨_,iW ns d6 (some (.d (.int q))) W T U (aV W T T.length) T2 w8,rfl,?_,cy,.mk hd6⟩
    simp only [iW]
    simp only [iW] at c1 hf
    clear both sall fb tg1 tg2 s1 hp2
    generalize T.map cB=TT at*
    generalize U.map cB=UU at*
    generalize (aV W T T.length).map dF=PP at*
    generalize (aV W U U.length).map dF=QQ at*
    generalize (q==0)=bq at*
    simp? [GZ,tw,tt,tu,p1,p2,gq,u1,u2,w1,w2,hTh,lT5,c1,ca,lall,hT2,hf,hp1,gb]) (.mk hd)
  obtain⟨hd2⟩:=hI
  rename_i ds2 v2 v3 v4 v5 v6 v7 v8
  have hfor:∀Wl,ef Wl HS (aj 2) GZ [some (.d (.list (ns.map .int))),some (.l (ds.map .int)),none,none,none,none,none,none,none]=some (.nx [some (.d (.list (ns.map .int))),some (.l (ds2.map .int)),v2,v3,v4,v5,v6,v7,v8]):=fun Wl=>by
    rw [ic (items:=bx 0 4) (e1:=[some (.d (.list (ns.map .int))),some (.l (ds.map .int)),none,none,none,none,none,none,none]) rfl]
    exact h1
  simp? [nV,CD,td,hfor]
def kE(P:Params)(k:Str)(t:Tok)(v:Value):DictEntry:=⟨PyData.keyHash P k,.str k t,v⟩
def kF(n:Str)(s:Stmt)(doc pm:Value)(c:Addr):Obj:=⟨.type "function",none,.func (W.fnOf n n (dD s) (cM s) (am s) .none .none doc pm none (.ref c) .none),#[]⟩
def kI(n:Int):Value:=.int n 0
def kC(n:Str)(a:Nat)(l:List Value)(z:Nat):Obj:=⟨.type "code",none,.fields (Value.str n a::Value.str n (a+1)::Value.str "/claim/cut.py" (a+2)::l++[Value.str "/claim/cut.py" z]).toArray,#[]⟩
def kT(l:List Value)(n:Nat):Obj:=⟨.type "tuple",none,.seq l.toArray n,#[]⟩
def CO:Value:=.str "askedpairs.fractions" 187
def CP:Value:=.str "askedpairs.forms" 224
def G4:Value:=.str "askedpairs.worthpaper" 259
def fj:Value:=.str "law_askedpairs_k18_reaches_right_and_bent" 273
def kK(P:Params):W.Frag:=[(3,⟨.type "dict",none,.dict (List.toArray [kE P "__name__" 165 (.str "law_askedpairs_k18_reaches_right_and_bent" 273),kE P "__doc__" 166 (.none),kE P "__package__" 167 (.none),kE P "__loader__" 168 (.builtin "__main__.__loader__#opaque"),kE P "__spec__" 169 (.none),kE P "__annotations__" 170 (.ref 6),kE P "__builtins__" 171 (.ref 4),kE P "__file__" 173 (.str "/claim/cut.py" 172),kE P "__cached__" 174 (.none),kE P "ONE" 191 (.ref 15),kE P "common_divisor" 199 (.ref 22),kE P "lowest" 208 (.ref 29),kE P "times" 216 (.ref 36),kE P "one_less" 223 (.ref 43),kE P "is_number" 232 (.ref 50),kE P "is_row_of" 240 (.ref 57),kE P "is_fraction" 249 (.ref 64),kE P "is_fraction_row" 255 (.ref 69),kE P "END" 258 (.int (-1) 257),kE P "ways_on" 266 (.ref 74),kE P "reaches_hold" 272 (.ref 79),kE P "_law_mixed" 283 (.ref 86),kE P "_law_draws" 294 (.ref 93),kE P "_law_next" 301 (.ref 100),kE P "_law_gcd" 309 (.ref 107),kE P "_law_low" 318 (.ref 114),kE P "_law_times" 326 (.ref 121),kE P "_law_rest" 333 (.ref 128),kE P "_law_same" 341 (.ref 135),kE P "_law_says" 349 (.ref 142),kE P "_law_chance" 358 (.ref 149),kE P "_law_worth" 366 (.ref 156),kE P "_law_ties" 385 (.ref 163),kE P "_law_web" 401 (.ref 170),kE P "_law_asks_of" 407 (.ref 175),kE P "_law_may" 419 (.ref 182),kE P "_law_behind" 432 (.ref 189),kE P "_law_askable" 438 (.ref 194),kE P "_law_grown" 444 (.ref 199),kE P "_law_odd" 452 (.ref 206),kE P "_law_reaches" 469 (.ref 213),kE P "_law_renumbered" 475 (.ref 218),kE P "_law_tree" 485 (.ref 225),kE P "_law_bent" 500 (.ref 232),kE P "_law_is_paper" 508 (.ref 239),kE P "law" 514 (.ref 244)]) 46,#[]⟩),
  (22,kF "common_divisor" bY (.none) CO 21),
  (21,kC "common_divisor" 192 [kI 3,kI 2,kI 0,kI 0,kI 3,.ref 16,.bool true,kI 181,.ref 17,.none,.ref 18,.ref 19,.ref 20,kI 197,kI 3] 198),
  (29,kF "lowest" gH (.none) CO 28),
  (28,kC "lowest" 200 [kI 7,kI 2,kI 0,kI 0,kI 3,.ref 23,.bool true,kI 181,.ref 24,.none,.ref 25,.ref 26,.ref 27,kI 206,kI 7] 207),
  (36,kF "times" lx (.none) CO 35),
  (35,kC "times" 209 [kI 12,kI 2,kI 0,kI 0,kI 3,.ref 30,.bool true,kI 181,.ref 31,.none,.ref 32,.ref 33,.ref 34,kI 214,kI 12] 215),
  (43,kF "one_less" gJ (.none) CO 42),
  (42,kC "one_less" 217 [kI 14,kI 1,kI 0,kI 0,kI 3,.ref 37,.bool true,kI 181,.ref 38,.none,.ref 39,.ref 40,.ref 41,kI 221,kI 14] 222),
  (50,kF "is_number" eZ (.none) CP 49),
  (49,kC "is_number" 226 [kI 17,kI 1,kI 0,kI 0,kI 3,.ref 44,.bool true,kI 181,.ref 45,.none,.ref 46,.ref 47,.ref 48,kI 230,kI 17] 231),
  (57,kF "is_row_of" dt (.none) CP 56),
  (56,kC "is_row_of" 233 [kI 19,kI 2,kI 0,kI 0,kI 3,.ref 51,.bool true,kI 181,.ref 52,.none,.ref 53,.ref 54,.ref 55,kI 238,kI 19] 239),
  (64,kF "is_fraction" cY (.none) CP 63),
  (63,kC "is_fraction" 241 [kI 21,kI 1,kI 0,kI 0,kI 3,.ref 58,.bool true,kI 181,.ref 59,.none,.ref 60,.ref 61,.ref 62,kI 247,kI 21] 248),
  (69,kF "is_fraction_row" bG (.none) CP 68),
  (68,kC "is_fraction_row" 250 [kI 28,kI 2,kI 0,kI 0,kI 3,.ref 65,.bool true,kI 181,.ref 66,.none,.none,.none,.ref 67,kI 253,kI 28] 254),
  (74,kF "ways_on" f9 (.none) G4 73),
  (73,kC "ways_on" 261 [kI 32,kI 2,kI 0,kI 0,kI 3,.ref 70,.bool true,kI 181,.ref 71,.none,.none,.none,.ref 72,kI 264,kI 32] 265),
  (79,kF "reaches_hold" bZ (.none) G4 78),
  (78,kC "reaches_hold" 267 [kI 36,kI 3,kI 0,kI 0,kI 3,.ref 75,.bool true,kI 181,.ref 76,.none,.none,.none,.ref 77,kI 270,kI 36] 271),
  (86,kF "_law_mixed" lr (.none) fj 85),
  (85,kC "_law_mixed" 275 [kI 43,kI 2,kI 0,kI 0,kI 3,.ref 80,.bool true,kI 181,.ref 81,.none,.ref 82,.ref 83,.ref 84,kI 281,kI 43] 282),
  (93,kF "_law_draws" lq (.none) fj 92),
  (92,kC "_law_draws" 284 [kI 46,kI 1,kI 0,kI 0,kI 3,.ref 87,.bool true,kI 181,.ref 88,.none,.ref 89,.ref 90,.ref 91,kI 292,kI 46] 293),
  (100,kF "_law_next" gF (.none) fj 99),
  (99,kC "_law_next" 295 [kI 59,kI 1,kI 0,kI 0,kI 3,.ref 94,.bool true,kI 181,.ref 95,.none,.ref 96,.ref 97,.ref 98,kI 299,kI 59] 300),
  (107,kF "_law_gcd" tH (.none) fj 106),
  (106,kC "_law_gcd" 302 [kI 63,kI 2,kI 0,kI 0,kI 3,.ref 101,.bool true,kI 181,.ref 102,.none,.ref 103,.ref 104,.ref 105,kI 307,kI 63] 308),
  (114,kF "_law_low" pZ (.none) fj 113),
  (113,kC "_law_low" 310 [kI 67,kI 2,kI 0,kI 0,kI 3,.ref 108,.bool true,kI 181,.ref 109,.none,.ref 110,.ref 111,.ref 112,kI 316,kI 67] 317),
  (121,kF "_law_times" ls (.none) fj 120),
  (120,kC "_law_times" 319 [kI 70,kI 2,kI 0,kI 0,kI 3,.ref 115,.bool true,kI 181,.ref 116,.none,.ref 117,.ref 118,.ref 119,kI 324,kI 70] 325),
  (128,kF "_law_rest" ox (.none) fj 127),
  (127,kC "_law_rest" 327 [kI 72,kI 1,kI 0,kI 0,kI 3,.ref 122,.bool true,kI 181,.ref 123,.none,.ref 124,.ref 125,.ref 126,kI 331,kI 72] 332),
  (135,kF "_law_same" oz (.none) fj 134),
  (134,kC "_law_same" 334 [kI 74,kI 2,kI 0,kI 0,kI 3,.ref 129,.bool true,kI 181,.ref 130,.none,.ref 131,.ref 132,.ref 133,kI 339,kI 74] 340),
  (142,kF "_law_says" oA (.none) fj 141),
  (141,kC "_law_says" 342 [kI 76,kI 2,kI 0,kI 0,kI 3,.ref 136,.bool true,kI 181,.ref 137,.none,.ref 138,.ref 139,.ref 140,kI 347,kI 76] 348),
  (149,kF "_law_chance" jH (.none) fj 148),
  (148,kC "_law_chance" 350 [kI 80,kI 2,kI 0,kI 0,kI 3,.ref 143,.bool true,kI 181,.ref 144,.none,.ref 145,.ref 146,.ref 147,kI 356,kI 80] 357),
  (156,kF "_law_worth" lu (.none) fj 155),
  (155,kC "_law_worth" 359 [kI 90,kI 2,kI 0,kI 0,kI 3,.ref 150,.bool true,kI 181,.ref 151,.none,.ref 152,.ref 153,.ref 154,kI 364,kI 90] 365),
  (163,kF "_law_ties" oB (.none) fj 162),
  (162,kC "_law_ties" 367 [kI 92,kI 3,kI 0,kI 0,kI 3,.ref 157,.bool true,kI 181,.ref 158,.none,.ref 159,.ref 160,.ref 161,kI 383,kI 92] 384),
  (170,kF "_law_web" tK (.none) fj 169),
  (169,kC "_law_web" 386 [kI 107,kI 3,kI 0,kI 0,kI 3,.ref 164,.bool true,kI 181,.ref 165,.none,.ref 166,.ref 167,.ref 168,kI 399,kI 107] 400),
  (175,kF "_law_asks_of" fZ (.none) fj 174),
  (174,kC "_law_asks_of" 402 [kI 117,kI 3,kI 0,kI 0,kI 3,.ref 171,.bool true,kI 181,.ref 172,.none,.none,.none,.ref 173,kI 405,kI 117] 406),
  (182,kF "_law_may" tI (.none) fj 181),
  (181,kC "_law_may" 408 [kI 119,kI 3,kI 0,kI 0,kI 3,.ref 176,.bool true,kI 181,.ref 177,.none,.ref 178,.ref 179,.ref 180,kI 417,kI 119] 418),
  (189,kF "_law_behind" jG (.none) fj 188),
  (188,kC "_law_behind" 420 [kI 127,kI 4,kI 0,kI 0,kI 3,.ref 183,.bool true,kI 181,.ref 184,.none,.ref 185,.ref 186,.ref 187,kI 430,kI 127] 431),
  (194,kF "_law_askable" fY (.none) fj 193),
  (193,kC "_law_askable" 433 [kI 133,kI 2,kI 0,kI 0,kI 3,.ref 190,.bool true,kI 181,.ref 191,.none,.none,.none,.ref 192,kI 436,kI 133] 437),
  (199,kF "_law_grown" jZ (.none) fj 198),
  (198,kC "_law_grown" 439 [kI 135,kI 3,kI 0,kI 0,kI 3,.ref 195,.bool true,kI 181,.ref 196,.none,.none,.none,.ref 197,kI 442,kI 135] 443),
  (206,kF "_law_odd" tJ (.none) fj 205),
  (205,kC "_law_odd" 445 [kI 150,kI 1,kI 0,kI 0,kI 3,.ref 200,.bool true,kI 181,.ref 201,.none,.ref 202,.ref 203,.ref 204,kI 450,kI 150] 451),
  (213,kF "_law_reaches" iL (.none) fj 212),
  (212,kC "_law_reaches" 453 [kI 154,kI 2,kI 0,kI 0,kI 3,.ref 207,.bool true,kI 181,.ref 208,.none,.ref 209,.ref 210,.ref 211,kI 467,kI 154] 468),
  (218,kF "_law_renumbered" ck (.none) fj 217),
  (217,kC "_law_renumbered" 470 [kI 163,kI 2,kI 0,kI 0,kI 3,.ref 214,.bool true,kI 181,.ref 215,.none,.none,.none,.ref 216,kI 473,kI 163] 474),
  (225,kF "_law_tree" oC (.none) fj 224),
  (224,kC "_law_tree" 476 [kI 173,kI 3,kI 0,kI 0,kI 3,.ref 219,.bool true,kI 181,.ref 220,.none,.ref 221,.ref 222,.ref 223,kI 483,kI 173] 484),
  (232,kF "_law_bent" ou (.none) fj 231),
  (231,kC "_law_bent" 486 [kI 176,kI 2,kI 0,kI 0,kI 3,.ref 226,.bool true,kI 181,.ref 227,.none,.ref 228,.ref 229,.ref 230,kI 498,kI 176] 499),
  (239,kF "_law_is_paper" gD (.none) fj 238),
  (238,kC "_law_is_paper" 501 [kI 188,kI 2,kI 0,kI 0,kI 3,.ref 233,.bool true,kI 181,.ref 234,.none,.ref 235,.ref 236,.ref 237,kI 506,kI 188] 507),
  (244,kF "law" mJ (.none) fj 243),
  (243,kC "law" 509 [kI 190,kI 1,kI 0,kI 0,kI 3,.ref 240,.bool true,kI 181,.ref 241,.none,.none,.none,.ref 242,kI 512,kI 190] 513),
  (15,kT [.int (1) 189,.int (1) 190] 0)]
def kA:List Addr:=[3,22,21,29,28,36,35,43,42,50,49,57,56,64,63,69,68,74,73,79,78,86,85,93,92,100,99,107,106,114,113,121,120,128,127,135,134,142,141,149,148,156,155,163,162,170,169,175,174,182,181,189,188,194,193,199,198,206,205,213,212,218,217,225,224,232,231,239,238,244,243,15]
def kq:Program:={PySem.Challenge.pw_askedpairs_k18_reaches_right_and_bent with main:={PySem.Challenge.pw_askedpairs_k18_reaches_right_and_bent.main with body:=[top 1,top 2,top 3,top 4,top 5,top 7,top 8,top 9,top 10,top 11,top 13,top 14,top 16,top 17,top 18,top 19,top 20,top 21,top 22,top 23,top 24,top 25,top 26,top 27,top 28,top 29,top 30,top 31,top 32,top 33,top 34,top 35,top 36,top 37,top 38,top 39,top 40]}}
def kH:W.Hook:=W.kHook kK kA (fun _=>by kernel_rfl)
theorem left:W.LeftO PySem.Challenge.pw_askedpairs_k18_reaches_right_and_bent kq [] (fun s=>W.xlAt kq [] s&&W.recOk (W.RowW.records (W.OpenRow.toRowW (W.OpenLaw.row PySem.Challenge.rw_askedpairs_k18_reaches_right_and_bent))) s) (W.Hook.obs kH) (W.Hook.val kH) 2386:=fun w=>by kernel_rfl
theorem CQ{P:List Value→Prop}(h:∀a0,P [a0]):∀us:List Value,us.length=1→P us:=fun us e=>match us,e with | [a0],_=>h a0
theorem qX{P:List Value→Prop}(h:∀a0 a1,P [a0,a1]):∀us:List Value,us.length=2→P us:=fun us e=>match us,e with | [a0,a1],_=>h a0 a1
theorem DL{P:List Value→Prop}(h:∀a0 a1 a2,P [a0,a1,a2]):∀us:List Value,us.length=3→P us:=fun us e=>match us,e with | [a0,a1,a2],_=>h a0 a1 a2
theorem Ii{P:List Value→Prop}(h:∀a0 a1 a2 a3,P [a0,a1,a2,a3]):∀us:List Value,us.length=4→P us:=fun us e=>match us,e with | [a0,a1,a2,a3],_=>h a0 a1 a2 a3
theorem hm{w:World}{h:Heap}{mg:Str→Option Value}{n:Str}{s:Stmt}{a:Addr}{ps:List Str}(c:Addr)(d p:Value)(X:(kK w.params).In h)(G:h.Ns mainGlobals mg)
    (e:(W.nsIn (kK w.params) mainGlobals n,List.lookup a (kK w.params),W.codeIn (kK w.params) (.ref c) n,W.keepIn (kK w.params) (.ref a))=(some (some (.ref a)),some (kF n s d p c),true,true))
    (b:∀(kV doc pm:Value) (an:Option Addr) (cdv ct:Value) (us:List Value),us.length=ps.length→bindArgs (W.fnOf n n (dD s) (cM s) (am s) .none kV doc pm an cdv ct) ⟨us,[]⟩=pure (ps.zip us)):
    bo (kK w.params) mg n s a (W.fnOf n n (dD s) (cM s) (am s) .none .none d p none (.ref c) .none) ps:=Dq X G (congrArg (·.1) e) (congrArg (·.2.1) e) (congrArg (·.2.2.1) e) (congrArg (·.2.2.2) e) b
theorem all_mk{l:W.OpenLaw}{w:World}{h:Heap}{mg:Str→Option Value}{fa:Addr}(X:(kK w.params).In h)(G:h.Ns mainGlobals mg)(hfa:mg "law"=some (.ref fa)):
    ∃fd:FuncData,(∀(s:Shared) (v:Value),BindsTo s fd ⟨[v],[]⟩ [("_law_script",v)])∧∀base:Heap,(kK w.params).In base→base.Ns mainGlobals mg→aM l.prog w (kK w.params) mg base bN 6 fa fd ["_law_script"] (bP (kK w.params) 1 nV):=by
  have e:=hfa.symm.trans (W.mg_of X G (show W.nsIn (kK w.params) mainGlobals "law"=some (some (.ref 244)) by kernel_rfl))
  cases e
  have T:ja mg:=⟨W.mg_none_of X G (show W.nsIn (kK w.params) mainGlobals "abs"=some none by kernel_rfl),W.mg_none_of X G (show W.nsIn (kK w.params) mainGlobals "len"=some none by kernel_rfl),W.mg_none_of X G (show W.nsIn (kK w.params) mainGlobals "min"=some none by kernel_rfl),W.mg_none_of X G (show W.nsIn (kK w.params) mainGlobals "max"=some none by kernel_rfl),W.mg_none_of X G (show W.nsIn (kK w.params) mainGlobals "range"=some none by kernel_rfl),W.mg_none_of X G (show W.nsIn (kK w.params) mainGlobals "repr"=some none by kernel_rfl),W.mg_none_of X G (show W.nsIn (kK w.params) mainGlobals "tuple"=some none by kernel_rfl),W.mg_none_of X G (show W.nsIn (kK w.params) mainGlobals "int"=some none by kernel_rfl),W.mg_none_of X G (show W.nsIn (kK w.params) mainGlobals "sorted"=some none by kernel_rfl),W.mg_none_of X G (show W.nsIn (kK w.params) mainGlobals "zip"=some none by kernel_rfl),W.mg_none_of X G (show W.nsIn (kK w.params) mainGlobals "enumerate"=some none by kernel_rfl),W.mg_none_of X G (show W.nsIn (kK w.params) mainGlobals "isinstance"=some none by kernel_rfl),W.mg_none_of X G (show W.nsIn (kK w.params) mainGlobals "bool"=some none by kernel_rfl),W.mg_none_of X G (show W.nsIn (kK w.params) mainGlobals "all"=some none by kernel_rfl),W.mg_none_of X G (show W.nsIn (kK w.params) mainGlobals "list"=some none by kernel_rfl),W.mg_none_of X G (show W.nsIn (kK w.params) mainGlobals "str"=some none by kernel_rfl)⟩
  have h_common_divisor:bo (kK w.params) mg "common_divisor" bY 22 _ ["one","other"]:=hm 21 (.none) CO X G (by kernel_rfl) fun _ _ _ _ _ _=>qX fun _ _=>rfl
  have h_lowest:bo (kK w.params) mg "lowest" gH 29 _ ["top","bottom"]:=hm 28 (.none) CO X G (by kernel_rfl) fun _ _ _ _ _ _=>qX fun _ _=>rfl
  have h_times:bo (kK w.params) mg "times" lx 36 _ ["one","other"]:=hm 35 (.none) CO X G (by kernel_rfl) fun _ _ _ _ _ _=>qX fun _ _=>rfl
  have h_one_less:bo (kK w.params) mg "one_less" gJ 43 _ ["chance"]:=hm 42 (.none) CO X G (by kernel_rfl) fun _ _ _ _ _ _=>CQ fun _=>rfl
  have h_is_number:bo (kK w.params) mg "is_number" eZ 50 _ ["thing"]:=hm 49 (.none) CP X G (by kernel_rfl) fun _ _ _ _ _ _=>CQ fun _=>rfl
  have h_is_row_of:bo (kK w.params) mg "is_row_of" dt 57 _ ["thing","many"]:=hm 56 (.none) CP X G (by kernel_rfl) fun _ _ _ _ _ _=>qX fun _ _=>rfl
  have h_is_fraction:bo (kK w.params) mg "is_fraction" cY 64 _ ["thing"]:=hm 63 (.none) CP X G (by kernel_rfl) fun _ _ _ _ _ _=>CQ fun _=>rfl
  have h_is_fraction_row:bo (kK w.params) mg "is_fraction_row" bG 69 _ ["thing","many"]:=hm 68 (.none) CP X G (by kernel_rfl) fun _ _ _ _ _ _=>qX fun _ _=>rfl
  have h_ways_on:bo (kK w.params) mg "ways_on" f9 74 _ ["web","node"]:=hm 73 (.none) G4 X G (by kernel_rfl) fun _ _ _ _ _ _=>qX fun _ _=>rfl
  have h_reaches_hold:bo (kK w.params) mg "reaches_hold" bZ 79 _ ["web","tree","thing"]:=hm 78 (.none) G4 X G (by kernel_rfl) fun _ _ _ _ _ _=>DL fun _ _ _=>rfl
  have hLmixed:bo (kK w.params) mg "_law_mixed" lr 86 _ ["_law_cell","_law_k"]:=hm 85 (.none) fj X G (by kernel_rfl) fun _ _ _ _ _ _=>qX fun _ _=>rfl
  have hLdraws:bo (kK w.params) mg "_law_draws" lq 93 _ ["_law_script"]:=hm 92 (.none) fj X G (by kernel_rfl) fun _ _ _ _ _ _=>CQ fun _=>rfl
  have hLnext:bo (kK w.params) mg "_law_next" gF 100 _ ["_law_drawn"]:=hm 99 (.none) fj X G (by kernel_rfl) fun _ _ _ _ _ _=>CQ fun _=>rfl
  have hLgcd:bo (kK w.params) mg "_law_gcd" tH 107 _ ["_law_one","_law_other"]:=hm 106 (.none) fj X G (by kernel_rfl) fun _ _ _ _ _ _=>qX fun _ _=>rfl
  have hLlow:bo (kK w.params) mg "_law_low" pZ 114 _ ["_law_top","_law_bottom"]:=hm 113 (.none) fj X G (by kernel_rfl) fun _ _ _ _ _ _=>qX fun _ _=>rfl
  have hLtimes:bo (kK w.params) mg "_law_times" ls 121 _ ["_law_one","_law_other"]:=hm 120 (.none) fj X G (by kernel_rfl) fun _ _ _ _ _ _=>qX fun _ _=>rfl
  have hLrest:bo (kK w.params) mg "_law_rest" ox 128 _ ["_law_one"]:=hm 127 (.none) fj X G (by kernel_rfl) fun _ _ _ _ _ _=>CQ fun _=>rfl
  have hLsame:bo (kK w.params) mg "_law_same" oz 135 _ ["_law_found","_law_due"]:=hm 134 (.none) fj X G (by kernel_rfl) fun _ _ _ _ _ _=>qX fun _ _=>rfl
  have hLsays:bo (kK w.params) mg "_law_says" oA 142 _ ["_law_found","_law_due"]:=hm 141 (.none) fj X G (by kernel_rfl) fun _ _ _ _ _ _=>qX fun _ _=>rfl
  have hLchance:bo (kK w.params) mg "_law_chance" jH 149 _ ["_law_number","_law_kind"]:=hm 148 (.none) fj X G (by kernel_rfl) fun _ _ _ _ _ _=>qX fun _ _=>rfl
  have hLworth:bo (kK w.params) mg "_law_worth" lu 156 _ ["_law_number","_law_kind"]:=hm 155 (.none) fj X G (by kernel_rfl) fun _ _ _ _ _ _=>qX fun _ _=>rfl
  have hLties:bo (kK w.params) mg "_law_ties" oB 163 _ ["_law_drawn","_law_things","_law_many"]:=hm 162 (.none) fj X G (by kernel_rfl) fun _ _ _ _ _ _=>DL fun _ _ _=>rfl
  have hLweb:bo (kK w.params) mg "_law_web" tK 170 _ ["_law_drawn","_law_most","_law_ties_here"]:=hm 169 (.none) fj X G (by kernel_rfl) fun _ _ _ _ _ _=>DL fun _ _ _=>rfl
  have hLasks_of:bo (kK w.params) mg "_law_asks_of" fZ 175 _ ["_law_web_here","_law_asked","_law_thing"]:=hm 174 (.none) fj X G (by kernel_rfl) fun _ _ _ _ _ _=>DL fun _ _ _=>rfl
  have hLmay:bo (kK w.params) mg "_law_may" tI 182 _ ["_law_web_here","_law_stand","_law_tie"]:=hm 181 (.none) fj X G (by kernel_rfl) fun _ _ _ _ _ _=>DL fun _ _ _=>rfl
  have hLbehind:bo (kK w.params) mg "_law_behind" jG 189 _ ["_law_web_here","_law_stand","_law_tie","_law_truth"]:=hm 188 (.none) fj X G (by kernel_rfl) fun _ _ _ _ _ _=>Ii fun _ _ _ _=>rfl
  have hLaskable:bo (kK w.params) mg "_law_askable" fY 194 _ ["_law_web_here","_law_stand"]:=hm 193 (.none) fj X G (by kernel_rfl) fun _ _ _ _ _ _=>qX fun _ _=>rfl
  have hLgrown:bo (kK w.params) mg "_law_grown" jZ 199 _ ["_law_drawn","_law_web_here","_law_most"]:=hm 198 (.none) fj X G (by kernel_rfl) fun _ _ _ _ _ _=>DL fun _ _ _=>rfl
  have hLodd:bo (kK w.params) mg "_law_odd" tJ 206 _ ["_law_number"]:=hm 205 (.none) fj X G (by kernel_rfl) fun _ _ _ _ _ _=>CQ fun _=>rfl
  have hLreaches:bo (kK w.params) mg "_law_reaches" iL 213 _ ["_law_web_here","_law_tree_here"]:=hm 212 (.none) fj X G (by kernel_rfl) fun _ _ _ _ _ _=>qX fun _ _=>rfl
  have hLrenumbered:bo (kK w.params) mg "_law_renumbered" ck 218 _ ["_law_drawn","_law_tree_here"]:=hm 217 (.none) fj X G (by kernel_rfl) fun _ _ _ _ _ _=>qX fun _ _=>rfl
  have hLtree:bo (kK w.params) mg "_law_tree" oC 225 _ ["_law_drawn","_law_web_here","_law_great"]:=hm 224 (.none) fj X G (by kernel_rfl) fun _ _ _ _ _ _=>DL fun _ _ _=>rfl
  have hLbent:bo (kK w.params) mg "_law_bent" ou 232 _ ["_law_drawn","_law_paper"]:=hm 231 (.none) fj X G (by kernel_rfl) fun _ _ _ _ _ _=>qX fun _ _=>rfl
  have hLis_paper:bo (kK w.params) mg "_law_is_paper" gD 239 _ ["_law_paper","_law_thing"]:=hm 238 (.none) fj X G (by kernel_rfl) fun _ _ _ _ _ _=>qX fun _ _=>rfl
  have h_law:bo (kK w.params) mg "law" mJ 244 _ ["_law_script"]:=hm 243 (.none) fj X G (by kernel_rfl) fun _ _ _ _ _ _=>CQ fun _=>rfl
  have lG_15:List.lookup 15 (kK w.params)=some (kT [.int (1) 189,.int (1) 190] 0):=by kernel_rfl
  have m_ONE:=W.mg_of X G (show W.nsIn (kK w.params) mainGlobals "ONE"=some (some (.ref 15)) by kernel_rfl)
  have c_ONE:∀F,DA (kK w.params) F (.tuple [.int (1),.int (1)]) (.ref 15):=fun F=>by simp only [DA,aP];exact⟨15,[V.int (1),V.int (1)],rfl,.inr ⟨_,_,_,lG_15,rfl,rfl,(by show 2≤sizeLine;decide),(.cons ⟨_,rfl⟩ (.cons ⟨_,rfl⟩ .nil))⟩,⟨_,_,rfl,rfl,⟨_,_,rfl,rfl,rfl⟩⟩⟩
  have m_END:=W.mg_of X G (show W.nsIn (kK w.params) mainGlobals "END"=some (some (.int (-1) 257)) by kernel_rfl)
  refine⟨W.fnOf "law" "law" (dD mJ) (cM mJ) (am mJ) .none .none (.none) fj none (.ref 243) .none,fun s v=>.of_eq rfl,fun base _ _=>?_⟩
  have G_common_divisor:=lb (P:=l.prog) (w:=w) (base:=base) h_common_divisor T
  have G_lowest:=xb (P:=l.prog) (w:=w) (base:=base) h_lowest T h_common_divisor G_common_divisor
  have G_times:=yV (P:=l.prog) (w:=w) (base:=base) h_times T h_lowest G_lowest
  have G_one_less:=sX (P:=l.prog) (w:=w) (base:=base) h_one_less T h_lowest G_lowest
  have G_is_number:=rj (P:=l.prog) (w:=w) (base:=base) h_is_number T
  have G_is_row_of:=rl (P:=l.prog) (w:=w) (base:=base) h_is_row_of T
  have G_is_fraction:=og (P:=l.prog) (w:=w) (base:=base) h_is_fraction T h_is_row_of G_is_row_of h_lowest G_lowest h_is_number G_is_number
  have G_is_fraction_row:=ko (P:=l.prog) (w:=w) (base:=base) h_is_fraction_row T h_is_row_of G_is_row_of h_is_fraction G_is_fraction
  have G_ways_on:=uL (P:=l.prog) (w:=w) (base:=base) h_ways_on T h_one_less G_one_less m_END
  have G_reaches_hold:=mU (P:=l.prog) (w:=w) (base:=base) h_reaches_hold T h_is_fraction_row G_is_fraction_row h_times G_times h_ways_on G_ways_on m_ONE c_ONE
  have GLmixed:=yS (P:=l.prog) (w:=w) (base:=base) hLmixed T
  have GLdraws:=yQ (P:=l.prog) (w:=w) (base:=base) hLdraws T hLmixed GLmixed
  have GLnext:=Be (P:=l.prog) (w:=w) (base:=base) hLnext T
  have GLgcd:=DP (P:=l.prog) (w:=w) (base:=base) hLgcd T
  have GLlow:=DQ (P:=l.prog) (w:=w) (base:=base) hLlow T hLgcd GLgcd
  have GLtimes:=yT (P:=l.prog) (w:=w) (base:=base) hLtimes T hLlow GLlow
  have GLrest:=Bf (P:=l.prog) (w:=w) (base:=base) hLrest T
  have GLsame:=Bg (P:=l.prog) (w:=w) (base:=base) hLsame T
  have GLsays:=Bh (P:=l.prog) (w:=w) (base:=base) hLsays T
  have GLchance:=xa (P:=l.prog) (w:=w) (base:=base) hLchance T hLlow GLlow
  have GLworth:=yU (P:=l.prog) (w:=w) (base:=base) hLworth T
  have GLties:=Bi (P:=l.prog) (w:=w) (base:=base) hLties T hLnext GLnext hLchance GLchance hLworth GLworth
  have GLweb:=DT (P:=l.prog) (w:=w) (base:=base) hLweb T hLties GLties hLnext GLnext
  have GLasks_of:=uJ (P:=l.prog) (w:=w) (base:=base) hLasks_of T
  have GLmay:=DR (P:=l.prog) (w:=w) (base:=base) hLmay T hLasks_of GLasks_of
  have GLbehind:=w_ (P:=l.prog) (w:=w) (base:=base) hLbehind T
  have GLaskable:=uI (P:=l.prog) (w:=w) (base:=base) hLaskable T hLmay GLmay
  have GLgrown:=yR (P:=l.prog) (w:=w) (base:=base) hLgrown T hLaskable GLaskable hLnext GLnext hLbehind GLbehind
  have GLodd:=DS (P:=l.prog) (w:=w) (base:=base) hLodd T
  have GLreaches:=uK (P:=l.prog) (w:=w) (base:=base) hLreaches T hLrest GLrest hLtimes GLtimes
  have GLrenumbered:=o5 (P:=l.prog) (w:=w) (base:=base) hLrenumbered T hLnext GLnext
  have GLtree:=Bj (P:=l.prog) (w:=w) (base:=base) hLtree T hLrenumbered GLrenumbered hLgrown GLgrown hLnext GLnext
  have GLbent:=Bd (P:=l.prog) (w:=w) (base:=base) hLbent T hLnext GLnext
  have GLis_paper:=sW (P:=l.prog) (w:=w) (base:=base) hLis_paper T hLsame GLsame
  have G_law:=DU (P:=l.prog) (w:=w) (base:=base) h_law T hLdraws GLdraws hLweb GLweb hLtree GLtree hLreaches GLreaches hLodd GLodd h_reaches_hold G_reaches_hold hLnext GLnext hLbent GLbent hLsays GLsays hLis_paper GLis_paper
  exact G_law
def Gw(K:W.Frag):Sp:=fun vs H Q _=>∃(a:Addr) (ns:List Int),vs=[.ref a]∧cP K H a (ns.map V.int)∧ns.length≤63∧∀H',Q (.bl true) H'
theorem DG{K:W.Frag}{vs:List V}{H:Hp}{Q:VK}{E:XK}(h:Gw K vs H Q E):bP K 1 nV vs H Q E:=by
  obtain⟨a,ns,rfl,hS,hl,q⟩:=h
  obtain⟨as',hm⟩:=yG ns hl
  exact uU hS hm q
theorem walk{l:W.OpenLaw}{q:Program}{loose:List Str}{XP:(Str→Option Value)→Heap→Prop}{YP:World→Heap→Prop}{d:DefRec}{K:Params→W.Frag}(hn:l.most=some 63)(hdf:d.params.defaults=[])
    (hY:∀(w:World) (h:Heap),YP w h→(K w.params).In h)
    (F:∀(w:World) (mg:Str→Option Value) (fa:Addr) (h:Heap),(K w.params).In h→h.Ns mainGlobals mg→mg d.name=some (.ref fa)→
      ∃fd:FuncData,(∀(s:Shared) (u:Value),BindsTo s fd ⟨[u],[]⟩ [("_law_script",u)])∧∀base:Heap,(K w.params).In base→base.Ns mainGlobals mg→aM l.prog w (K w.params) mg base bN 6 fa fd ["_law_script"] (bP (K w.params) 1 nV)):
    W.WalkO q loose XP YP l.row.toRowW d [] (fun f vs=>PySem.call f vs):=
  L2.walk_of (n:=63) (k:=6) (x:="_law_script") (CX:=fun _=>bN) (sp:=fun w=>bP (K w.params) 1 nV) hn (by decide) hdf ⟨rfl,by decide,by decide,rfl⟩ hY F (fun _ _ a ns hl _ hS=>DG ⟨a,ns,rfl,hS,hl,fun _=>rfl⟩) fun _ _ _ _ _ z=>z
end V18
open PySem PySem.W PyProof.Rows
set_option maxRecDepth 100000 in
set_option maxHeartbeats 0 in
theorem PySem.Challenge.cw_askedpairs_k18_reaches_right_and_bent_holds : PySem.Challenge.rw_askedpairs_k18_reaches_right_and_bent.Holds := by
  w_on;o_law
  refine holds_open (q:=V18.kq) (loose:=[]) (Xt:=fun s=>xlAt V18.kq [] s&&recOk (RowW.records (OpenRow.toRowW (OpenLaw.row PySem.Challenge.rw_askedpairs_k18_reaches_right_and_bent))) s) (XP:=XL V18.kq []) (Yf:=Hook.obs V18.kH) (Ya:=Hook.val V18.kH) (YP:=Hook.says V18.kH) (N:=2386) V18.left (Hook.of V18.kH) (Hook.keeps V18.kH) (fun s e=>xl_of s (Bool.and_eq_true_iff.mp e).1) XL.keeps (by rfl) (by rfl) (by rfl) (fun s e=>recFacts_of (Bool.and_eq_true_iff.mp e).2) (by rfl) (by assumption) (by decide+kernel) ⟨rfl,rfl,rfl,rfl,rfl,by decide+kernel⟩ ?hw ?hc
  case hw=>w_witness2
  case hc=>exact V18.walk (l:=PySem.Challenge.rw_askedpairs_k18_reaches_right_and_bent) rfl rfl (fun w h Y=>kIn_of Y) (fun w mg fa h KX G hmg=>V18.all_mk KX G hmg)
