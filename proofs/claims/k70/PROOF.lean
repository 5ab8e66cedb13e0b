import PyProof.Rows.All
import Wide.All
import OpenK.AllK
import Wide.FinOn
import Lean
import PyProof.EqAt
import PyProof.EqKinds
import PyProof.TupleCall
import PyProof.ReprRoads
import PyProof.IsInstance
import PyProof.IsInstanceH
import PyProof.FitsBits
import PyProof.CompFree
import PyProof.Rows.SumAny
import PyProof.Rows.SortShell
import PyProof.Rows.TupAdd
import PyProof.NeKinds
import PyProof.ConsumeWalk
import PyProof.ZipIter
import PyProof.TupleIter
import PyProof.LayNew
import PyProof.CollectWalk
import PyProof.ListNew
import PyProof.Draws
import PyProof.EnumFor
import PyProof.EnumMake
import PyProof.ListRange
import PyProof.CollectIter
import KE.KRevIter
import PyProof.ListMulRoad
import PyProof.TupleOps
import PyProof.TupleOfStr
import PyProof.WalksMore
import PyProof.FactsAll.range_iterator
import PyProof.IsRules
import PyProof.CompUse
import PyProof.P3In
import PyProof.EqLayable
import KE.KIsAll
import PyProof.Rows.FactsN_isinstance
import PyProof.CallStr
import PyProof.Rows.StrWeight2
import PyProof.Rows.FStr
import PyProof.StrLawsRepr
import PyProof.Rows.SetFrom
import KE.KIntText
import KE.KRevSl
import PyProof.Rows.SeqMore2
import PySem.Challenge.RW_askedpairs_k70_answers_of_groups
set_option Elab.async false
set_option linter.all false
set_option maxRecDepth 100000
namespace L2
open PySem PySem.Spec PyProof.Rows
abbrev dB:=Sum Int Str
def i4:dB→Value→Bool
  | .inl k,v=>Value.isInt k v
  | .inr x,v=>Value.isStrOf x v
def AQ(w:World):dB→Int
  | .inl k=>hashInt k
  | .inr x=>hashStr w x
theorem a_:∀{k:dB} {v:Value},i4 k v=true→(∃i t,k=Sum.inl i∧v=Value.int i t)∨(∃x t,k=Sum.inr x∧v=Value.str x t)
  | .inl i,v,h=>by
    obtain⟨t,e⟩:=Value.isInt_shape (k:=i) (v:=v) h
    exact .inl ⟨i,t,rfl,e⟩
  | .inr x,v,h=>by
    obtain⟨t,e⟩:=Value.isStrOf_shape (x:=x) (v:=v) h
    exact .inr ⟨x,t,rfl,e⟩
theorem pd(i:Int)(t:Tok):i4 (.inl i) (.int i t)=true:=by simp [i4,Value.isInt]
theorem pe(x:Str)(t:Tok):i4 (.inr x) (.str x t)=true:=by simp [i4,Value.isStrOf]
theorem wM(a b:Int):decide ((Sum.inl a:dB)=Sum.inl b)=(a==b):=by
  by_cases e:a=b
  · subst e;simp
  · have h:¬(Sum.inl a:dB)=Sum.inl b:=fun q=>e (Sum.inl.inj q)
    rw [decide_eq_false h]
    exact(beq_eq_false_iff_ne.mpr e).symm
theorem wQ(a b:Str):decide ((Sum.inr a:dB)=Sum.inr b)=decide (a=b):=by
  by_cases e:a=b
  · subst e;simp
  · have h:¬(Sum.inr a:dB)=Sum.inr b:=fun q=>e (Sum.inr.inj q)
    rw [decide_eq_false h,decide_eq_false e]
theorem wN(a:Int)(b:Str):decide ((Sum.inl a:dB)=Sum.inr b)=false:=decide_eq_false (fun q=>nomatch q)
theorem wO(a:Str)(b:Int):decide ((Sum.inr a:dB)=Sum.inl b)=false:=decide_eq_false (fun q=>nomatch q)
def bN(prog:Program)(w:World):PySem.KeyKind prog w dB where
  is:=i4
  hash:=AQ w
  inj:=fun v a b ha hb=>by
    rcases a_ ha with ⟨i,t,rfl,rfl⟩ | ⟨x,t,rfl,rfl⟩
    · rcases a_ hb with ⟨j,u,rfl,e⟩ | ⟨y,u,rfl,e⟩
      · injection e with e1 _;rw [e1]
      · exact nomatch e
    · rcases a_ hb with ⟨j,u,rfl,e⟩ | ⟨y,u,rfl,e⟩
      · exact nomatch e
      · injection e with e1 _;rw [e1]
  byValue:=fun k v h=>by
    rcases a_ h with ⟨i,t,rfl,rfl⟩ | ⟨x,t,rfl,rfl⟩<;>rfl
  pyHash:=fun hv h=>by
    rcases a_ hv with ⟨i,t,rfl,rfl⟩ | ⟨x,t,rfl,rfl⟩
    · exact wpAny_pyHash_int h
    · exact wpAny_pyHash_str h
  eqBool:=fun hu hv h=>by
    rcases a_ hu with ⟨i,t,rfl,rfl⟩ | ⟨x,t,rfl,rfl⟩
    · rcases a_ hv with ⟨j,u,rfl,rfl⟩ | ⟨y,u,rfl,rfl⟩
      · rw [wM] at h;exact wpAny_eqBool_int h
      · rw [wN] at h;exact SeqAt.EqAt.int_str i t y u _ _ _ _ h
    · rcases a_ hv with ⟨j,u,rfl,rfl⟩ | ⟨y,u,rfl,rfl⟩
      · rw [wO] at h;exact SeqAt.EqAt.str_int x t j u _ _ _ _ h
      · rw [wQ] at h;exact wpAny_eqBool_str h
  «strs»:=fun k x t v h=>by
    rcases a_ h with ⟨i,u,rfl,e⟩ | ⟨y,u,rfl,e⟩
    · exact nomatch e
    · injection e with e1 _
      subst e1
      cases v<;>rfl
theorem lQ(prog:Program)(w:World)(i:Int)(t:Tok):(bN prog w).is (.inl i) (.int i t)=true:=pd i t
theorem lR(prog:Program)(w:World)(x:Str)(t:Tok):(bN prog w).is (.inr x) (.str x t)=true:=pe x t
end L2
namespace L2
open PySem PySem.Spec PyProof.Rows
inductive V where
  | non | bl (b:Bool) | int (i:Int) | str (x:Str) | byt (b:Array UInt8) | flt (b:UInt64) | ref (a:Addr) | ty (n:String)
  deriving DecidableEq
def aZ:V→Value→Prop
  | .non,u=>u=Value.none
  | .bl b,u=>u=Value.bool b
  | .int i,u=>∃t,u=Value.int i t
  | .str x,u=>∃t,u=Value.str x t
  | .byt b,u=>∃t,u=Value.bytes b t
  | .flt b,u=>∃t,u=Value.float b t
  | .ref a,u=>u=Value.ref a
  | .ty n,u=>u=Value.type n
abbrev aC:List V→List Value→Prop:=Paired aZ
theorem aC.length{xs:List V}{us:List Value}(r:aC xs us):xs.length=us.length:=Paired.length r
theorem aC.get:∀{xs:List V} {us:List Value} {i:Nat} {x:V},aC xs us→xs[i]?=some x→∃u,us[i]?=some u∧aZ x u
  | _,_,_,_,.nil,e=>by simp at e
  | _,_,0,_,.cons r _,e=>by simp at e;subst e;exact⟨_,rfl,r⟩
  | _,_,i+1,x,.cons _ t,e=>by
    obtain⟨u,h1,h2⟩:=aC.get (i:=i) (x:=x) t (by simpa using e)
    exact⟨u,by simpa using h1,h2⟩
theorem aC.append:∀{xs ys:List V} {us ws:List Value},aC xs us→aC ys ws→aC (xs++ys) (us++ws)
  | _,_,_,_,.nil,s=>s
  | _,_,_,_,.cons r t,s=>.cons r (aC.append t s)
theorem aC.take:∀{xs:List V} {us:List Value} (n:Nat),aC xs us→aC (xs.take n) (us.take n)
  | _,_,0,_=>.nil
  | _,_,_+1,.nil=>.nil
  | _,_,n+1,.cons r t=>.cons r (aC.take n t)
theorem aC.drop:∀{xs:List V} {us:List Value} (n:Nat),aC xs us→aC (xs.drop n) (us.drop n)
  | _,_,0,r=>r
  | _,_,_+1,.nil=>.nil
  | _,_,n+1,.cons _ t=>aC.drop n t
def li:Option V→Option Value→Prop
  | some v,some u=>aZ v u
  | none,none=>True
  | _,_=>False
def KV{κ:Type}:List (κ × V)→List (κ × Value)→Prop:=Paired fun(p:κ × V) (q:κ × Value)=>p.1=q.1∧aZ p.2 q.2
def kV:dB→V
  | .inl i=>.int i
  | .inr x=>.str x
inductive HO where
  /-- a list -/
  | lst (xs:List V)
  /-- a tuple (never changes) -/
  | tup (xs:List V)
  /-- a dict whose keys are ints and texts; one whose keys are tuples of ints and texts (the empty one is both) -/
  | dK (kvs:List (dB × V)) | dT (kvs:List (List dB × V))
  /-- a set of ints: its members, its size -/
  | set (S:Int→Bool) (n:Nat)
  /-- an instance of the class at C, its dict at dx, its attributes -/
  | ins (C dx:Addr) (fs:List (Str × V))
  /-- the dict of the instance at x -/
  | own (x:Addr)
  /-- the dict of an exception -/
  | xd (fs:List (Str × V))
  /-- a bound method, f of x -/
  | met (f x:Addr)
  /-- a range object lo, lo + 1, .. below hi -/
  | rng (lo hi:Int)
  /-- a thing that is known to the object (the script; a dict while a loop walks it): read, never written while it is so -/
  | frz (o:Obj) (u:HO)
  /-- a code object's table -/
  | tbl (ps:Array Value)
  /-- any other thing, by what is true of its one object (a def of one's own: SetO a S n := HO.ext fun h => ..) -/
  | ext (φ:Heap→Prop)
abbrev Hp:=Addr→Option HO
def aQ(H:Hp)(a:Addr)(o:HO):Hp:=fun b=>if b=a then some o else H b
theorem ar{H:Hp}{a:Addr}{o:HO}:aQ H a o a=some o:=by unfold aQ;rw [if_pos rfl]
theorem ap{H:Hp}{a b:Addr}{o:HO}(h:b≠a):aQ H a o b=H b:=by unfold aQ;rw [if_neg h]
theorem cG{H:Hp}{a b:Addr}{o:HO}(h:H a=some o)(h':H b=none):a≠b:=by
  intro e;subst e;rw [h] at h';cases h'
def iA(h:Heap)(a:Addr)(items:Array Value):Prop:=∃o,h.get? a=some o∧o.cls=.type "tuple"∧∃n,o.data=.seq items n∧o.dict=none
theorem iA.tup{h:Heap}{a:Addr}{items:Array Value}(x:iA h a items):IsTup h a items:=let ⟨o,ho,hc,n,hd,_⟩:=x;⟨o,ho,hc,n,hd⟩
theorem iA.new(h:Heap)(items:Array Value):iA (h.push {cls:=.type "tuple",data:=.seq items}) h.objs.size items:=⟨_,Heap.get?_push_size _ rfl,rfl,_,rfl,rfl⟩
section
variable(P:Program)(w:World)
def bP(H:Hp)(h:Heap)(a:Addr):HO→Prop
  | .lst xs=>xs.length≤sizeLine∧∃(its:List Value) (n:Nat),aC xs its∧h.get? a=some {cls:=.type "list",data:=.seq its.toArray n}
  | .tup xs=>xs.length≤sizeLine∧∃its:List Value,aC xs its∧iA h a its.toArray
  | .dK kvs=>kvs.length≤sizeLine∧(a==sysModules)=false∧∃vs,KV kvs vs∧h.DictOf (bN P w) a vs
  | .dT kvs=>kvs.length≤sizeLine∧(a==sysModules)=false∧∃xs:List (List dB × Addr × Value),
      Paired (fun(p:List dB × V) (q:List dB × Addr × Value)=>p.1=q.1∧H q.2.1=some (.tup (p.1.map kV))∧aZ p.2 q.2.2) kvs xs∧
      ∃o es ep,h.get? a=some o∧o.ExactDict∧o.data=.dict es ep∧es.toList=xs.map (entryOfKey (tupleKind (bN P w)))∧(xs.map (·.1)).Nodup
  | .set S n=>h.SetOf (intKind P w) a S n
  | .ins C dx fs=>H dx=some (.own a)∧fs.length≤1000∧dx≠a∧h.get? a=some (PySem.W.instObj C dx)∧
      ∃mA,h.Ns1 dx mA∧(∀f,li (fs.lookup f) (mA f))∧PySem.Within mA (fs.map (·.1))
  | .own _=>∃o,h.get? a=some o
  | .xd fs=>∃mA,h.Ns1 a mA∧∀f,li (fs.lookup f) (mA f)
  | .rng lo hi=>∃t u v,h.get? a=some {cls:=.type "range",data:=.fields #[.int lo t,.int hi u,.int 1 v]}
  | .frz o u=>h.get? a=some o∧bP H h a u
  | .tbl ps=>h.get? a=some {cls:=.none,data:=.fields ps}
  | .met f x=>h.get? a=some (PySem.W.methodObj (.ref f) (.ref x))
  | .ext φ=>φ h∧(∃o,h.get? a=some o)∧∀h1 h2:Heap,φ h1→(∀o,h1.get? a=some o→h2.get? a=some o)→φ h2
def gR(H:Hp)(h:Heap):Prop:=∀a o,H a=some o→bP P w H h a o
end
section
variable{P:Program}{w:World}{H H':Hp}{h h':Heap}{a:Addr}{o:HO}
theorem bP.lt(x:bP P w H h a o):a < h.objs.size:=by
  cases o with
  | lst xs=>obtain⟨_,_,_,_,e⟩:=x;exact Heap.lt_size e
  | tup xs=>obtain⟨_,_,_,p⟩:=x;exact p.tup.lt
  | dK kvs=>obtain⟨_,_,_,_,o,_,_,e,_⟩:=x;exact Heap.lt_size e
  | dT kvs=>obtain⟨_,_,_,_,o,_,_,e,_⟩:=x;exact Heap.lt_size e
  | set S n=>obtain⟨o,_,_,_,e,_⟩:=x;exact Heap.lt_size e
  | ins C dx fs=>obtain⟨_,_,_,e,_⟩:=x;exact Heap.lt_size e
  | own y=>obtain⟨_,e⟩:=x;exact Heap.lt_size e
  | xd fs=>obtain⟨_,⟨_,_,_,e,_⟩,_⟩:=x;exact Heap.lt_size e
  | rng lo hi=>obtain⟨_,_,_,e⟩:=x;exact Heap.lt_size e
  | frz ob u=>obtain⟨e,_⟩:=x;exact Heap.lt_size e
  | tbl ps=>exact Heap.lt_size (show h.get? a=some _ from x)
  | met f y=>exact Heap.lt_size (show h.get? a=some _ from x)
  | ext φ=>obtain⟨_,⟨_,e⟩,_⟩:=x;exact Heap.lt_size e
theorem Paired.mapP{α β:Type}{F G:α→β→Prop}:∀{l₁:List α} {l₂:List β},Paired F l₁ l₂→(∀a b,F a b→G a b)→Paired G l₁ l₂
  | _,_,.nil,_=>.nil
  | _,_,.cons r t,f=>.cons (f _ _ r) (Paired.mapP t f)
theorem bP.stay(x:bP P w H h a o)(k:∀b u,(b=a∨H b=some (.own a))→h.get? b=some u→h'.get? b=some u)
    (ho:∀b,H b=some (.own a)→H' b=some (.own a))(ht:∀b xs,H b=some (.tup xs)→H' b=some (.tup xs)):bP P w H' h' a o:=by
  induction o with
  | lst xs=>obtain⟨z,its,n,r,e⟩:=x;exact⟨z,its,n,r,k _ _ (.inl rfl) e⟩
  | tup xs=>obtain⟨z,its,r,ob,e,c⟩:=x;exact⟨z,its,r,ob,k _ _ (.inl rfl) e,c⟩
  | dK kvs=>obtain⟨z,y,vs,r,ob,es,ep,e,c⟩:=x;exact⟨z,y,vs,r,ob,es,ep,k _ _ (.inl rfl) e,c⟩
  | dT kvs=>
    obtain⟨z,y,xs,r,ob,es,ep,e,c⟩:=x
    exact⟨z,y,xs,Paired.mapP r fun p q z=>⟨z.1,ht _ _ z.2.1,z.2.2⟩,ob,es,ep,k _ _ (.inl rfl) e,c⟩
  | set S n=>obtain⟨ob,es,ep,t,e,c⟩:=x;exact⟨ob,es,ep,t,k _ _ (.inl rfl) e,c⟩
  | ins C dx fs=>
    obtain⟨d,z,ne,e,mA,⟨od,es,ep,e2,c⟩,r⟩:=x
    exact⟨ho _ d,z,ne,k _ _ (.inl rfl) e,mA,⟨od,es,ep,k _ _ (.inr d) e2,c⟩,r⟩
  | own y=>obtain⟨ob,e⟩:=x;exact⟨ob,k _ _ (.inl rfl) e⟩
  | xd fs=>obtain⟨mA,⟨od,es,ep,e,c⟩,r⟩:=x;exact⟨mA,⟨od,es,ep,k _ _ (.inl rfl) e,c⟩,r⟩
  | rng lo hi=>obtain⟨t,u,v,e⟩:=x;exact⟨t,u,v,k _ _ (.inl rfl) e⟩
  | frz ob u ih=>obtain⟨e,q⟩:=x;exact⟨k _ _ (.inl rfl) e,ih q⟩
  | tbl ps=>
    have e:h.get? a=some {cls:=.none,data:=.fields ps}:=x
    show h'.get? a=some {cls:=.none,data:=.fields ps}
    exact k a _ (.inl rfl) e
  | met f y=>
    have e:h.get? a=some (PySem.W.methodObj (.ref f) (.ref y)):=x
    show h'.get? a=some (PySem.W.methodObj (.ref f) (.ref y))
    exact k a _ (.inl rfl) e
  | ext φ=>obtain⟨p,⟨o,e⟩,st⟩:=x;exact⟨st _ _ p fun o q=>k _ _ (.inl rfl) q,⟨o,k _ _ (.inl rfl) e⟩,st⟩
theorem gR.lt(x:gR P w H h)(e:H a=some o):a < h.objs.size:=(x a o e).lt
theorem gR.fresh(x:gR P w H h)(e:h.objs.size≤a):H a=none:=by
  cases q:H a with
  | none=>rfl
  | some u=>exact absurd (Nat.lt_of_lt_of_le (x.lt q) e) (Nat.lt_irrefl _)
theorem gR.kept(x:gR P w H h)(k:∀b u,h.get? b=some u→h'.get? b=some u):gR P w H h':=fun a o e=>
  (x a o e).stay (fun b u _ q=>k b u q) (fun _ q=>q) fun _ _ q=>q
theorem gR.laid(x:gR P w H h)(k:∀b u,h.get? b=some u→h'.get? b=some u)(hp:h.objs.size≤a)(new:bP P w (aQ H a o) h' a o):gR P w (aQ H a o) h':=fun b u e=>by
  have hn:=x.fresh hp
  by_cases hb:b=a
  · subst hb;rw [ar] at e;cases e;exact new
  · rw [ap hb] at e
    exact(x b u e).stay (fun c v _ q=>k c v q) (fun c q=>by rw [ap (cG q hn)];exact q) fun c xs q=>by rw [ap (cG q hn)];exact q
end
def Rd(H:Hp)(a:Addr)(u:HO):Prop:=H a=some u∨∃o,H a=some (.frz o u)
theorem Rd.ok{P:Program}{w:World}{H:Hp}{h:Heap}{a:Addr}{u:HO}(r:Rd H a u)(x:gR P w H h):bP P w H h a u:=by
  rcases r with r | ⟨o,r⟩
  · exact x a u r
  · obtain⟨_,q⟩:=x a _ r
    exact q
def yI:Option HO→Prop
  | some (.lst _)=>True
  | some (.dK _)=>True
  | some (.dT _)=>True
  | some (.set _ _)=>True
  | some (.ins _ _ _)=>True
  | some (.ext _)=>True
  | _=>False
section
variable{P:Program}{w:World}{H:Hp}{h h':Heap}{x e:Addr}{o':HO}
theorem gR.write(ok:gR P w H h)(mu:yI (H x))(he:e=x∨H e=some (.own x))(k:∀b u,b≠e→h.get? b=some u→h'.get? b=some u)(heo:∃u,h'.get? e=some u)
    (new:bP P w (aQ H x o') h' x o'):gR P w (aQ H x o') h':=fun b u q=>by
  have nown:∀c y,H c=some (.own y)→c≠x:=fun c y r z=>by subst z;rw [r] at mu;exact mu
  have ntup:∀c xs,H c=some (.tup xs)→c≠x:=fun c xs r z=>by subst z;rw [r] at mu;exact mu
  by_cases hb:b=x
  · subst hb;rw [ar] at q;cases q;exact new
  · rw [ap hb] at q
    by_cases hbe:b=e
    · have q':H b=some (.own x):=by
        rcases he with z | z
        · exact absurd (hbe.trans z) hb
        · rw [hbe];exact z
      rw [q] at q';cases q'
      obtain⟨v,hv⟩:=heo
      exact⟨v,by rw [hbe];exact hv⟩
    · refine(ok b u q).stay (fun c v hc r=>k c v ?_ r) (fun c r=>by rw [ap (nown c b r)];exact r) fun c xs r=>by rw [ap (ntup c xs r)];exact r
      rcases hc with rfl | hc
      · exact hbe
      · rintro rfl
        rcases he with z | z
        · exact nown c b hc z
        · rw [hc] at z;cases z;exact hb rfl
end
structure Un (fs ex:List Addr) (H H':Hp) (h h':Heap):Prop where
  keep:∀b o,h.get? b=some o→H b=none→b∉fs→b∉ex→h'.get? b=some o
  slot:∀b o,h.get? b=some o→H b=none→b∈fs→b∉ex→∃sl,h'.get? b=some {o with slots:=sl}
  free:∀b o,h.get? b=some o→H b=none→b∉ex→H' b=none
  there:∀b o,h.get? b=some o→b∉ex→∃o',h'.get? b=some o'
  tups:∀b xs,H b=some (.tup xs)→H' b=some (.tup xs)
  frzs:∀b o u,H b=some (.frz o u)→H' b=some (.frz o u)
  tbls:∀b ps,H b=some (.tbl ps)→∃more,H' b=some (.tbl (ps++more))
section
variable{fs fs' ex ex':List Addr}{H H1 H2:Hp}{h h1 h2 h':Heap}{a x e:Addr}{o:HO}
theorem Un.any(u:Un fs ex H H1 h h1){b:Addr}{ob:Obj}(q:h.get? b=some ob)(n:H b=none)(hx:b∉ex):∃sl,h1.get? b=some {ob with slots:=sl}:=by
  by_cases hb:b∈fs
  · exact u.slot b ob q n hb hx
  · exact⟨ob.slots,u.keep b ob q n hb hx⟩
theorem Un.kept(k:∀b u,h.get? b=some u→h'.get? b=some u):Un fs ex H H h h':=
  ⟨fun b ob q _ _ _=>k b ob q,fun b ob q _ _ _=>⟨ob.slots,k b ob q⟩,fun _ _ _ n _=>n,fun b ob q _=>⟨ob,k b ob q⟩,fun _ _ q=>q,fun _ _ _ q=>q,fun _ ps q=>⟨#[],by rw [q];simp⟩⟩
theorem Un.refl:Un fs ex H H h h:=Un.kept fun _ _ q=>q
theorem Un.laid(k:∀b u,h.get? b=some u→h'.get? b=some u)(hp:h.objs.size≤a)(hn:H a=none):Un fs ex H (aQ H a o) h h' where
  keep:=fun b u q _ _ _=>k b u q
  slot:=fun b u q _ _ _=>⟨u.slots,k b u q⟩
  free:=fun b u q n _=>by rw [ap (Nat.ne_of_lt (Nat.lt_of_lt_of_le (Heap.lt_size q) hp))];exact n
  there:=fun b u q _=>⟨u,k b u q⟩
  tups:=fun b xs q=>by rw [ap (cG q hn)];exact q
  frzs:=fun b u xs q=>by rw [ap (cG q hn)];exact q
  tbls:=fun b ps q=>⟨#[],by rw [ap (cG q hn),q];simp⟩
theorem Un.write(mu:yI (H x))(he:e=x∨H e=some (.own x))(k:∀b u,b≠e→h.get? b=some u→h'.get? b=some u)(heo:∃u,h'.get? e=some u):Un fs ex H (aQ H x o) h h':=by
  have hx:∀b,H b=none→b≠x:=fun b n z=>by subst z;rw [n] at mu;exact mu
  have hb:∀b,H b=none→b≠e:=fun b n z=>by
    subst z
    rcases he with r | r
    · exact hx b n r
    · rw [n] at r;cases r
  have hm:∀b u,H b=some u→¬yI (some u)→b≠x:=fun b u q nm z=>by subst z;rw [q] at mu;exact nm mu
  refine⟨fun b u q n _ _=>k b u (hb b n) q,fun b u q n _ _=>⟨u.slots,k b u (hb b n) q⟩,fun b u q n _=>by rw [ap (hx b n)];exact n,fun b u q _=>?_,
    fun b xs q=>by rw [ap (hm b _ q fun z=>z)];exact q,fun b u xs q=>by rw [ap (hm b _ q fun z=>z)];exact q,fun b ps q=>⟨#[],by rw [ap (hm b _ q fun z=>z),q];simp⟩⟩
  by_cases hbe:b=e
  · subst hbe;exact heo
  · exact⟨u,k b u hbe q⟩
end
def Ak(h:Heap)(H:Hp):List Addr:=(List.range h.objs.size).filter fun a=>(H a).isSome
def kP(h:Heap)(H:Hp):Heap:=PySem.W.hideAll h (Ak h H)
theorem o6(h:Heap)(H:Hp):(kP h H).objs.size=h.objs.size:=PySem.W.hideAll_size _ _
theorem qD{h:Heap}{H:Hp}{b:Addr}{o:Obj}(e:h.get? b=some o)(n:H b=none):(kP h H).get? b=some o:=
  PySem.W.hideAll_get _ e fun hm=>by
    have q:(H b).isSome=true:=(List.mem_filter.mp hm).2
    rw [n] at q;simp at q
theorem tI{h:Heap}{H:Hp}{b:Addr}{o:Obj}(e:(kP h H).get? b=some o):h.get? b=some o∧H b=none:=by
  have e':h.get? b=some o:=PySem.W.of_hideAll (Ak h H) e
  refine⟨e',?_⟩
  cases q:H b with
  | none=>rfl
  | some x=>
    have hm:b∈Ak h H:=List.mem_filter.mpr ⟨List.mem_range.mpr (Heap.lt_size e'),by simp [q]⟩
    have z:(kP h H).get? b=none:=PySem.W.hideAll_none (Ak h H) hm
    rw [z] at e;cases e
def ko(g h:Heap)(L:Addr):List (Addr × Obj):=(List.range h.objs.size).filterMap fun a=>if a=L∨(g.get? a).isSome=true then none else(h.get? a).map fun o=>(a,o)
theorem ja{g h:Heap}{L:Addr}{p:Addr × Obj}(hp:p∈ko g h L):p.1≠L∧g.get? p.1=none∧h.get? p.1=some p.2:=by
  obtain⟨b,_,e⟩:=List.mem_filterMap.mp hp
  split at e
  · cases e
  · rename_i hn
    cases q:h.get? b with
    | none=>rw [q] at e;simp at e
    | some u=>
      rw [q] at e
      simp only [Option.map_some,Option.some.injEq] at e
      subst e
      refine⟨fun z=>hn (.inl z),?_,q⟩
      show g.get? b=none
      cases r:g.get? b with
      | none=>rfl
      | some v=>exact(hn (.inr (by simp [r]))).elim
def eM(g h:Heap)(L d:Addr):List (Addr × Obj):=(ko g h L).filter fun p=>decide (p.1≠d)
theorem qS{g h:Heap}{L:Addr}:News g L h (ko g h L):=fun p hp=>let ⟨a,b,c⟩:=ja hp;⟨c,a,b⟩
end L2
namespace L2
open PySem PySem.Spec PyProof.Rows
structure Mod (K:PySem.W.Frag) (mg:Str→Option Value) (base:Heap):Prop where
  kin:K.In base
  glob:base.Ns mainGlobals mg
  blt:∃mb,base.Ns builtinsNs mb∧∀x:Str,x≠"__name__"→mb x=bootBuiltins x
  nolimit:base.NoLimit
structure Cx where
  prog:Program
  w:World
  K:PySem.W.Frag
  mg:Str→Option Value
  base:Heap
  A:Around
  N:List Str
  s₀:Shared
  H₀:Hp
  env:Env
  outer:List Env
  stack:List Env
  ex:List Addr
  fn:Str→Bool
  calm:Bool
  pn:List (Addr × Obj)
  xe:Value→Shared→Prop
def qi(l:List Env):List Addr:=l.filterMap (·.frame)
abbrev Cx.fs(X:Cx):List Addr:=qi X.outer
def sC(sc:Scope)(x:Str):Prop:=sc.names.lookup x=some .local∨sc.names.lookup x=some .cell∨sc.names.lookup x=some .free
def v_(sc:Scope)(x:Str):Prop:=sc.names.lookup x=some .local∨sc.names.lookup x=some .cell
def Ap(env:Env)(h:Heap)(m:Str→Option Value)(x:Str)(u:Value):Prop:=
  (env.kindOf x=some .local∧m x=some u)∨((env.kindOf x=some .cell∨env.kindOf x=some .free)∧∃c,env.cells.lookup x=some c∧h.IsCell c (some u))
structure Cx.Ok (X:Cx):Prop where
  mod:Mod X.K X.mg X.base
  kind:X.env.scope.kind=.function
  glob:X.env.globals=mainGlobals
  blt:X.env.builtins=builtinsNs
  above:X.s₀.heap.objs.size≤X.env.locals
  inj:∀x y c,X.env.cells.lookup x=some c→X.env.cells.lookup y=some c→x=y
  has:∀x,(X.env.kindOf x=some .cell∨X.env.kindOf x=some .free)→∃c,X.env.cells.lookup x=some c
  cab:∀x c,X.fn x=true→X.env.cells.lookup x=some c→X.s₀.heap.objs.size≤c
  hd:X.calm=true→X.A.handled=none
  frames:X.A.frames=some X.stack
  stk:X.stack=X.outer∨(X.stack=X.env::X.outer∧X.env.frame=some X.env.locals)
  exf:∀b∈X.ex,b≠X.env.locals∧∀x c,X.env.cells.lookup x=some c→c≠b
  bs:∀b o,X.base.get? b=some o→X.s₀.heap.get? b=some o∧X.H₀ b=none
  bsz:X.base.objs.size≤X.s₀.heap.objs.size
  noex:∀b o,X.base.get? b=some o→b∉X.ex
  exfs:∀b∈X.ex,b∉X.fs
  funs:X.s₀.heap.FunFrames X.base X.outer
  frf:∀b∈X.fs,X.H₀ b=none
structure av (X:Cx) (pins:List (Addr × Obj)) (σ:List (Option V)) (H:Hp) (s:Shared):Prop where
  ok:X.Ok
  os:s.os=X.s₀.os
  bare:AllBare s.gens
  base:Un X.fs X.ex X.H₀ H X.s₀.heap s.heap
  loc:∃m,s.heap.Ns X.env.locals m∧∀(i:Nat) (x:Str) (v:V),X.N[i]?=some x→σ[i]?=some (some v)→sC X.env.scope x→∃u,aZ v u∧Ap X.env s.heap m x u
  cell:∀x c,X.env.cells.lookup x=some c→∃v,s.heap.IsCell c v
  free:H X.env.locals=none
  freeC:∀x c,X.env.cells.lookup x=some c→H c=none
  pin:∀p∈X.pn++pins,s.heap.get? p.1=some p.2∧H p.1=none∧p.1≠X.env.locals∧p.1∉X.fs∧∀v,p.2.data≠.cell v
  hok:gR X.prog X.w H s.heap
  len:σ.length=X.N.length
section
variable{X:Cx}{pins:List (Addr × Obj)}{σ:List (Option V)}{H H':Hp}{s:Shared}{h':Heap}
theorem Cx.Ok.nofr(ok:X.Ok){b:Addr}{o:Obj}(e:X.base.get? b=some o):b∉X.fs:=fun hb=>by
  have:=(ok.funs.mem hb).1
  rw [e] at this;cases this
theorem av.bs(I:av X pins σ H s):∀b o,X.base.get? b=some o→s.heap.get? b=some o∧H b=none:=fun b o e=>
  ⟨I.base.keep b o (I.ok.bs b o e).1 (I.ok.bs b o e).2 (I.ok.nofr e) (I.ok.noex b o e),I.base.free b o (I.ok.bs b o e).1 (I.ok.bs b o e).2 (I.ok.noex b o e)⟩
theorem av.bk(I:av X pins σ H s):∀b o,X.base.get? b=some o→s.heap.get? b=some o:=fun b o e=>(I.bs b o e).1
theorem av.mod(I:av X pins σ H s):Mod X.K X.mg X.base:=I.ok.mod
theorem av.kIn(I:av X pins σ H s):X.K.In s.heap:=I.ok.mod.kin.keeps I.bk
theorem av.fr(I:av X pins σ H s):∃m,Fr X.base X.env.locals s.heap m:=
  let ⟨m,hn,_⟩:=I.loc
  ⟨m,hn,I.bk,Nat.le_trans I.ok.bsz I.ok.above⟩
theorem av.lt(I:av X pins σ H s):X.env.locals < s.heap.objs.size:=let ⟨_,hn,_⟩:=I.loc;hn.lt
theorem av.sz(I:av X pins σ H s):X.s₀.heap.objs.size≤s.heap.objs.size:=Nat.le_trans I.ok.above (Nat.le_of_lt I.lt)
theorem av.nofs(I:av X pins σ H s){a:Addr}(h:s.heap.objs.size≤a):a∉X.fs:=fun hb=>by
  obtain⟨_,o,ho,_⟩:=I.ok.funs.mem hb
  exact absurd (Nat.lt_of_lt_of_le (Heap.lt_size ho) (Nat.le_trans I.sz h)) (Nat.lt_irrefl _)
theorem av.cne(I:av X pins σ H s):∀x c,X.env.cells.lookup x=some c→c≠X.env.locals:=fun x c e z=>by
  obtain⟨v,o,ho,hd⟩:=I.cell x c e
  obtain⟨m,⟨o',es,ep,ho',hd',_⟩,_⟩:=I.loc
  rw [z,ho'] at ho;cases ho;rw [hd'] at hd;cases hd
theorem av.funs(I:av X pins σ H s):s.heap.FunFrames X.base X.outer:=by
  have all:∀(l:List Env),(∀b∈qi l,b∈X.fs)→X.s₀.heap.FunFrames X.base l→s.heap.FunFrames X.base l:=by
    intro l
    induction l with
    | nil=>intro _ _;trivial
    | cons env r ih=>
      intro hs hl
      obtain⟨hk,⟨L,o,hf,hn,ho,hd⟩,hr⟩:=hl
      have hL:L∈X.fs:=hs L (by unfold qi;rw [List.filterMap_cons,hf];exact List.mem_cons_self)
      obtain⟨sl,e⟩:=I.base.slot L o ho (I.ok.frf L hL) hL fun z=>I.ok.exfs L z hL
      exact⟨hk,⟨L,_,hf,hn,e,hd⟩,ih (fun b hb=>hs b (by unfold qi;rw [List.filterMap_cons,hf];exact List.mem_cons_of_mem _ hb)) hr⟩
  exact all X.outer (fun _ hb=>hb) I.ok.funs
theorem av.stack(I:av X pins σ H s):s.heap.FunFrames X.base X.stack:=by
  rcases I.ok.stk with e | ⟨e,hf⟩
  · rw [e];exact I.funs
  · rw [e]
    obtain⟨m,hn,_⟩:=I.loc
    refine .cons (by rw [I.ok.kind];decide) hf hn ?_ I.funs
    exact Heap.get?_none_of_le (Nat.le_trans I.ok.bsz I.ok.above)
theorem av.stkSub(I:av X pins σ H s):∀b∈qi X.stack,b∈X.env.locals::X.fs:=fun b hb=>by
  rcases I.ok.stk with e | ⟨e,hf⟩
  · rw [e] at hb;exact List.mem_cons_of_mem _ hb
  · rw [e] at hb
    unfold qi at hb
    rw [List.filterMap_cons,hf] at hb
    exact hb
theorem av.stkFree(I:av X pins σ H s):∀b∈qi X.stack,H b=none:=fun b hb=>by
  rcases List.mem_cons.mp (I.stkSub b hb) with e | hb
  · rw [e];exact I.free
  · obtain⟨_,o,ho,_⟩:=I.ok.funs.mem hb
    exact I.base.free b o ho (I.ok.frf b hb) fun z=>I.ok.exfs b z hb
theorem av.step{g':Array GenState}{t':Nat}{d':Drawn}{ch:List Addr}(I:av X pins σ H s)
    (hch:∀b∈ch,(b∈X.ex∨X.s₀.heap.objs.size≤b)∧b≠X.env.locals∧(∀x c,X.env.cells.lookup x=some c→c≠b)∧∀p∈X.pn++pins,p.1≠b)
    (keep:∀b o,b≠X.env.locals→b∉X.fs→b∉ch→s.heap.get? b=some o→H b=none→h'.get? b=some o)
    (slot:∀b o,b≠X.env.locals→b∈X.fs→b∉ch→s.heap.get? b=some o→H b=none→∃sl,h'.get? b=some {o with slots:=sl})(free:∀b o,b∉ch→s.heap.get? b=some o→H b=none→H' b=none)
    (there:∀b o,b∉ch→s.heap.get? b=some o→∃o',h'.get? b=some o')
    (tups:∀b xs,H b=some (.tup xs)→H' b=some (.tup xs))(frzs:∀b o u,H b=some (.frz o u)→H' b=some (.frz o u))(tbls:∀b ps,H b=some (.tbl ps)→∃more,H' b=some (.tbl (ps++more)))
    (ns:∀m,s.heap.Ns X.env.locals m→h'.Ns X.env.locals m)(hok:gR X.prog X.w H' h')(hg:AllBare g'):
    av X pins σ H' {s with heap:=h',gens:=g',drawn:=d',toks:=t'}:=by
  have neL:∀b o,X.s₀.heap.get? b=some o→b≠X.env.locals:=fun b o e=>Nat.ne_of_lt (Nat.lt_of_lt_of_le (Heap.lt_size e) I.ok.above)
  have neC:∀b o,X.s₀.heap.get? b=some o→b∉X.ex→b∉ch:=fun b o e hx hb=>by
    rcases(hch b hb).1 with z | z
    · exact hx z
    · exact absurd (Nat.lt_of_lt_of_le (Heap.lt_size e) z) (Nat.lt_irrefl _)
  have cellK:∀x c,X.env.cells.lookup x=some c→∀v,s.heap.IsCell c v→h'.IsCell c v:=fun x c e v ⟨o,ho,hd⟩=>by
    have nch:c∉ch:=fun z=>(hch c z).2.2.1 x c e rfl
    by_cases hc:c∈X.fs
    · obtain⟨sl,q⟩:=slot c o (I.cne x c e) hc nch ho (I.freeC x c e)
      exact⟨_,q,hd⟩
    · exact⟨o,keep c o (I.cne x c e) hc nch ho (I.freeC x c e),hd⟩
  refine⟨I.ok,I.os,hg,⟨fun b o e n hb hx=>?_,fun b o e n hb hx=>?_,fun b o e n hx=>?_,fun b o e hx=>?_,fun b xs e=>tups b xs (I.base.tups b xs e),fun b o xs e=>frzs b o xs (I.base.frzs b o xs e),fun b ps e=>?_⟩,?_,fun x c e=>?_,?_,fun x c e=>?_,fun p hp=>?_,hok,I.len⟩
  · exact keep b o (neL b o e) hb (neC b o e hx) (I.base.keep b o e n hb hx) (I.base.free b o e n hx)
  · obtain⟨sl,e1⟩:=I.base.slot b o e n hb hx
    obtain⟨sl',e2⟩:=slot b _ (neL b o e) hb (neC b o e hx) e1 (I.base.free b o e n hx)
    exact⟨sl',e2⟩
  · obtain⟨o',e1⟩:=I.base.there b o e hx
    exact free b o' (neC b o e hx) e1 (I.base.free b o e n hx)
  · obtain⟨o',e1⟩:=I.base.there b o e hx
    exact there b o' (neC b o e hx) e1
  · obtain⟨m1,e1⟩:=I.base.tbls b ps e
    obtain⟨m2,e2⟩:=tbls b _ e1
    exact⟨m1++m2,by rw [e2,Array.append_assoc]⟩
  · obtain⟨m,hn,hl⟩:=I.loc
    refine⟨m,ns m hn,fun i x v e1 e2 e3=>?_⟩
    obtain⟨u,r,l⟩:=hl i x v e1 e2 e3
    refine⟨u,r,?_⟩
    rcases l with l | ⟨k,c,e,z⟩
    · exact .inl l
    · exact .inr ⟨k,c,e,cellK x c e _ z⟩
  · obtain⟨v,z⟩:=I.cell x c e
    exact⟨v,cellK x c e v z⟩
  · obtain⟨m,⟨o,_,_,ho,_⟩,_⟩:=I.loc
    exact free _ o (fun z=>(hch _ z).2.1 rfl) ho I.free
  · obtain⟨v,o,ho,hd⟩:=I.cell x c e
    exact free c o (fun z=>(hch c z).2.2.1 x c e rfl) ho (I.freeC x c e)
  · obtain⟨e,n,ne,nf,d⟩:=I.pin p hp
    have nch:p.1∉ch:=fun z=>(hch p.1 z).2.2.2 p hp rfl
    exact⟨keep p.1 p.2 ne nf nch e n,free p.1 p.2 nch e n,ne,nf,d⟩
theorem av.un{t':Nat}(I:av X pins σ H s)(u:Un X.fs [] H H' s.heap h')(hok:gR X.prog X.w H' h'):av X pins σ H' {s with heap:=h',toks:=t'}:=by
  obtain⟨m,⟨o,es,ep,ho,r⟩,_⟩:=id I.loc
  obtain⟨sl,hL⟩:=u.any ho I.free (by simp)
  exact I.step (g':=s.gens) (d':=s.drawn) (ch:=[]) (fun _ z=>nomatch z) (fun b o _ hb _ e n=>u.keep b o e n hb (by simp)) (fun b o _ hb _ e n=>u.slot b o e n hb (by simp)) (fun b o _ e n=>u.free b o e n (by simp)) (fun b o _ e=>u.there b o e (by simp)) u.tups u.frzs u.tbls (fun m' hm=>by
    obtain⟨o',es',ep',ho',r'⟩:=hm
    rw [ho] at ho';cases ho'
    exact⟨_,es',ep',hL,r'⟩) hok I.bare
theorem av.call{g':Array GenState}{t':Nat}{d':Drawn}{ch:List Addr}(I:av X pins σ H s)(u:Un (qi X.stack) ch H H' s.heap h')(hok:gR X.prog X.w H' h')(hg:AllBare g')
    (hch:∀b∈ch,(b∈X.ex∨X.s₀.heap.objs.size≤b)∧b≠X.env.locals∧(∀x c,X.env.cells.lookup x=some c→c≠b)∧∀p∈X.pn++pins,p.1≠b):
    av X pins σ H' {s with heap:=h',gens:=g',drawn:=d',toks:=t'}:=by
  obtain⟨m,⟨o,es,ep,ho,r⟩,_⟩:=id I.loc
  obtain⟨sl,hL⟩:=u.any ho I.free fun z=>(hch _ z).2.1 rfl
  exact I.step (ch:=ch) hch (fun b o hL hb hc e n=>u.keep b o e n (fun z=>(List.mem_cons.mp (I.stkSub b z)).elim hL hb) hc) (fun b o _ _ hc e n=>u.any e n hc) (fun b o hc e n=>u.free b o e n hc) (fun b o hc e=>u.there b o e hc) u.tups u.frzs u.tbls (fun m' hm=>by
    obtain⟨o',es',ep',ho',r'⟩:=hm
    rw [ho] at ho';cases ho'
    exact⟨_,es',ep',hL,r'⟩) hok hg
theorem av.turned{t':Nat}{it:Addr}(I:av X pins σ H s)(k:∀b o,b≠it→s.heap.get? b=some o→h'.get? b=some o)(hn:H it=none)(hL:it≠X.env.locals)
    (h1:it∈X.ex∨X.s₀.heap.objs.size≤it)(h2:∀x c,X.env.cells.lookup x=some c→c≠it)(h3:∀p∈X.pn++pins,p.1≠it):av X pins σ H {s with heap:=h',toks:=t'}:=by
  have nit:∀b u,H b=some u→b≠it:=fun b u e z=>by rw [z,hn] at e;cases e
  refine I.step (g':=s.gens) (d':=s.drawn) (ch:=[it]) (fun b hb=>?_) (fun b o _ _ hc e _=>k b o (fun z=>hc (by simp [z])) e) (fun b o _ _ hc e _=>⟨o.slots,k b o (fun z=>hc (by simp [z])) e⟩) (fun _ _ _ _ n=>n)
    (fun b o hc e=>⟨o,k b o (fun z=>hc (by simp [z])) e⟩) (fun _ _ e=>e) (fun _ _ _ e=>e) (fun b ps e=>⟨#[],by rw [e];simp⟩) (fun m hm=>?_) (fun b u e=>?_) I.bare
  · have e:b=it:=by simpa using hb
    subst e
    exact⟨h1,hL,h2,h3⟩
  · obtain⟨o,es,ep,ho,r⟩:=hm
    exact⟨o,es,ep,k _ o (Ne.symm hL) ho,r⟩
  · refine(I.hok b u e).stay (fun c v hc q=>k c v ?_ q) (fun _ q=>q) fun _ _ q=>q
    rcases hc with z | z
    · rw [z];exact nit b u e
    · exact nit c _ z
theorem av.tok(I:av X pins σ H s)(t:Nat):av X pins σ H {s with toks:=t}:=I.un (h':=s.heap) (t':=t) Un.refl I.hok
theorem av.kept{t':Nat}(I:av X pins σ H s)(k:∀b u,s.heap.get? b=some u→h'.get? b=some u):av X pins σ H {s with heap:=h',toks:=t'}:=I.un (Un.kept k) (I.hok.kept k)
theorem av.laid{a:Addr}{o:HO}{t':Nat}(I:av X pins σ H s)(k:∀b u,s.heap.get? b=some u→h'.get? b=some u)(hp:s.heap.objs.size≤a)(new:bP X.prog X.w (aQ H a o) h' a o):
    av X pins σ (aQ H a o) {s with heap:=h',toks:=t'}:=I.un (Un.laid k hp (I.hok.fresh hp)) (I.hok.laid k hp new)
theorem av.write{x e:Addr}{o:HO}{t':Nat}(I:av X pins σ H s)(mu:yI (H x))(he:e=x∨H e=some (.own x))(k:∀b u,b≠e→s.heap.get? b=some u→h'.get? b=some u)(heo:∃u,h'.get? e=some u)
    (new:bP X.prog X.w (aQ H x o) h' x o):av X pins σ (aQ H x o) {s with heap:=h',toks:=t'}:=I.un (Un.write mu he k heo) (I.hok.write mu he k heo new)
theorem av.pins_of{pins':List (Addr × Obj)}(I:av X pins σ H s)(h:∀p∈pins',s.heap.get? p.1=some p.2∧H p.1=none∧p.1≠X.env.locals∧p.1∉X.fs∧∀v,p.2.data≠.cell v):av X pins' σ H s:=
  ⟨I.ok,I.os,I.bare,I.base,I.loc,I.cell,I.free,I.freeC,fun p hp=>(List.mem_append.mp hp).elim (fun z=>I.pin p (List.mem_append_left _ z)) (h p),I.hok,I.len⟩
theorem lV{N:List Str}(hN:N.Nodup){i j:Nat}{x:Str}(a:N[i]?=some x)(b:N[j]?=some x):i=j:=by
  obtain⟨h1,e1⟩:=List.getElem?_eq_some_iff.mp a
  obtain⟨h2,e2⟩:=List.getElem?_eq_some_iff.mp b
  exact(List.getElem_inj hN).mp (e1.trans e2.symm)
theorem kf{M:Model}{A:Around}{E:Value→Shared→Prop}{i:Nat}{x:Str}{v:V}{u:Value}{Q:Unit→Shared→Prop}(I:av X pins σ H s)(hN:X.N.Nodup)(hi:X.N[i]?=some x)(hx:v_ X.env.scope x)(r:aZ v u)
    (h:∀s',av X pins (σ.set i (some v)) H s'→(∃a,Heap.SameBut a s.heap s'.heap∧(a=X.env.locals∨X.env.cells.lookup x=some a))→Q () s')(hf:X.fn x=true∨X.env.scope.names.lookup x=some .local:=by first | exact .inl rfl | exact .inr rfl | assumption):wpAny M A (storeName X.env x u) Q E s:=by
  obtain⟨m,hn,hl⟩:=id I.loc
  have hcls:(X.env.scope.kind==.class || (X.env.scope.kind==.module&&X.env.locals != X.env.globals))=false:=by rw [I.ok.kind];rfl
  have hiσ:i < σ.length:=by rw [I.len];exact(List.getElem?_eq_some_iff.mp hi).1
  have cne:=I.cne
  have tracked:∀{a:Addr} {h':Heap},(∃o,s.heap.get? a=some o∧H a=none)→Heap.SameBut a s.heap h'→gR X.prog X.w H h':=fun{a h'} ha hs b ob e=>by
    obtain⟨_,_,hfree⟩:=ha
    refine(I.hok b ob e).stay (fun c w' hc q=>(hs.2 c ?_).trans q) (fun _ q=>q) fun _ _ q=>q
    rintro rfl
    rcases hc with rfl | hc
    · rw [hfree] at e;cases e
    · rw [hfree] at hc;cases hc
  rcases hx with hk | hk
  · refine wpAny_storeName_local hk hn (fun h' hn' hs=>?_) hcls
    obtain⟨oL,_,_,hoL,_⟩:=id hn
    refine h _ ⟨I.ok,I.os,I.bare,⟨fun b o e n hb hx=>?_,fun b o e n hb hx=>?_,I.base.free,fun b o e hx=>?_,I.base.tups,I.base.frzs,I.base.tbls⟩,⟨_,hn',fun j y v' e1 e2 e3=>?_⟩,fun y c e=>?_,I.free,I.freeC,fun p hp=>?_,tracked ⟨oL,hoL,I.free⟩ hs,by simpa using I.len⟩ ⟨_,hs,.inl rfl⟩
    · exact(hs.2 b (Nat.ne_of_lt (Nat.lt_of_lt_of_le (Heap.lt_size e) I.ok.above))).trans (I.base.keep b o e n hb hx)
    · obtain⟨sl,e1⟩:=I.base.slot b o e n hb hx
      exact⟨sl,(hs.2 b (Nat.ne_of_lt (Nat.lt_of_lt_of_le (Heap.lt_size e) I.ok.above))).trans e1⟩
    · obtain⟨o',e1⟩:=I.base.there b o e hx
      exact⟨o',(hs.2 b (Nat.ne_of_lt (Nat.lt_of_lt_of_le (Heap.lt_size e) I.ok.above))).trans e1⟩
    · by_cases hj:j=i
      · subst hj
        rw [hi] at e1;cases e1
        rw [List.getElem?_set_self hiσ] at e2
        cases e2
        exact⟨u,r,.inl ⟨hk,by simp⟩⟩
      · rw [List.getElem?_set_ne (Ne.symm hj)] at e2
        obtain⟨u',r',q⟩:=hl j y v' e1 e2 e3
        refine⟨u',r',?_⟩
        rcases q with ⟨k,e⟩ | ⟨k,c,e,z⟩
        · refine .inl ⟨k,?_⟩
          have:y≠x:=fun e=>hj (lV hN e1 (e ▸ hi))
          simp [this,e]
        · exact .inr ⟨k,c,e,z.sameBut hs (cne y c e)⟩
    · obtain⟨w',z⟩:=I.cell y c e
      exact⟨w',z.sameBut hs (cne y c e)⟩
    · obtain⟨e,n,ne,nf,d⟩:=I.pin p hp
      exact⟨(hs.2 p.1 ne).trans e,n,ne,nf,d⟩
  · have hfn:X.fn x=true:=by
      rcases hf with z | z
      · exact z
      · rw [z] at hk;cases hk
    obtain⟨c,hc⟩:=I.ok.has x (.inl hk)
    obtain⟨w',z⟩:=I.cell x c hc
    refine wpAny_storeName_cell I.ok.kind hk hc z (fun h' hc' hs=>?_)
    obtain⟨oc,hoc,hocd⟩:=id z
    refine h {s with heap:=h'} ⟨I.ok,I.os,I.bare,⟨fun b o e n hb hx=>?_,fun b o e n hb hx=>?_,I.base.free,fun b o e hx=>?_,I.base.tups,I.base.frzs,I.base.tbls⟩,⟨m,hn.sameBut hs (Ne.symm (cne x c hc)),fun j y v' e1 e2 e3=>?_⟩,fun y c' e=>?_,I.free,I.freeC,fun p hp=>?_,tracked ⟨oc,hoc,I.freeC x c hc⟩ hs,by simpa using I.len⟩ ⟨c,hs,.inr hc⟩
    · exact(hs.2 b (Nat.ne_of_lt (Nat.lt_of_lt_of_le (Heap.lt_size e) (I.ok.cab x c hfn hc)))).trans (I.base.keep b o e n hb hx)
    · obtain⟨sl,e1⟩:=I.base.slot b o e n hb hx
      exact⟨sl,(hs.2 b (Nat.ne_of_lt (Nat.lt_of_lt_of_le (Heap.lt_size e) (I.ok.cab x c hfn hc)))).trans e1⟩
    · obtain⟨o',e1⟩:=I.base.there b o e hx
      exact⟨o',(hs.2 b (Nat.ne_of_lt (Nat.lt_of_lt_of_le (Heap.lt_size e) (I.ok.cab x c hfn hc)))).trans e1⟩
    · by_cases hj:j=i
      · subst hj
        rw [hi] at e1;cases e1
        rw [List.getElem?_set_self hiσ] at e2
        cases e2
        exact⟨u,r,.inr ⟨.inl hk,c,hc,hc'⟩⟩
      · rw [List.getElem?_set_ne (Ne.symm hj)] at e2
        obtain⟨u',r',q⟩:=hl j y v' e1 e2 e3
        refine⟨u',r',?_⟩
        rcases q with q | ⟨k,c',e,z'⟩
        · exact .inl q
        · refine .inr ⟨k,c',e,z'.sameBut hs ?_⟩
          rintro rfl
          exact hj (lV hN e1 (I.ok.inj _ _ _ e hc ▸ hi))
    · by_cases hcc:c'=c
      · subst hcc;exact⟨_,hc'⟩
      · obtain⟨w2,z2⟩:=I.cell y c' e
        exact⟨w2,z2.sameBut hs hcc⟩
    · obtain⟨e,n,ne,nf,d⟩:=I.pin p hp
      refine⟨(hs.2 p.1 ?_).trans e,n,ne,nf,d⟩
      intro q
      rw [q,hoc] at e
      have q':oc=p.2:=Option.some.inj e
      exact d w' (by rw [←q'];exact hocd)
theorem gN{M:Model}{A:Around}{E:Value→Shared→Prop}{i:Nat}{x:Str}{v:V}{u:Value}{Q:Unit→Shared→Prop}(I:av X pins σ H s)(hN:X.N.Nodup)(hi:X.N[i]?=some x)(hx:v_ X.env.scope x)(r:aZ v u)
    (h:∀s',av X pins (σ.set i (some v)) H s'→Q () s')(hf:X.fn x=true∨X.env.scope.names.lookup x=some .local:=by first | exact .inl rfl | exact .inr rfl | assumption):wpAny M A (storeName X.env x u) Q E s:=
  kf I hN hi hx r (fun s' I' _=>h s' I') hf
theorem av.call'{s':Shared}{ch:List Addr}(I:av X pins σ H s)(ho:s'.os=s.os)(u:Un (qi X.stack) ch H H' s.heap s'.heap)(hok:gR X.prog X.w H' s'.heap)(hg:AllBare s'.gens)
    (hch:∀b∈ch,(b∈X.ex∨X.s₀.heap.objs.size≤b)∧b≠X.env.locals∧(∀x c,X.env.cells.lookup x=some c→c≠b)∧∀p∈X.pn++pins,p.1≠b):av X pins σ H' s':=by
  obtain⟨h',g',d',t',o'⟩:=s'
  have e:o'=s.os:=ho
  subst e
  exact I.call (g':=g') (t':=t') (d':=d') u hok hg hch
end
abbrev XK:=Value→Option Addr→Hp→Prop
abbrev St:=List (Option V)
abbrev VK:=V→Hp→Prop
abbrev TE:=St→Hp→VK→Prop
abbrev TT:=St→Hp→(Bool→Hp→Prop)→Prop
abbrev TA:=St→Hp→(List V→Hp→Prop)→Prop
structure mH where
  nx:St→Hp→Prop
  rt:VK
  bk:St→Hp→Prop:=fun _ _=>False
  ct:St→Hp→Prop:=fun _ _=>False
abbrev TS:=mH→St→Hp→Prop
def EP(X:Cx)(pins:List (Addr × Obj))(σ:St)(Q:VK)(u:Value)(s':Shared):Prop:=∃v H',av X pins σ H' s'∧aZ v u∧Q v H'
def TP(X:Cx)(pins:List (Addr × Obj))(σ:St)(Q:Bool→Hp→Prop)(b:Bool)(s':Shared):Prop:=∃H',av X pins σ H' s'∧Q b H'
def AP(X:Cx)(pins:List (Addr × Obj))(σ:St)(Q:List V→Hp→Prop)(us:List Value)(s':Shared):Prop:=∃vs H',av X pins σ H' s'∧aC vs us∧Q vs H'
def SP(X:Cx)(pins:List (Addr × Obj))(D:mH)(f:Flow)(s':Shared):Prop:=
  match f with
  | .next=>∃σ' H',av X pins σ' H' s'∧D.nx σ' H'
  | .brk=>∃σ' H',av X pins σ' H' s'∧D.bk σ' H'
  | .cont=>∃σ' H',av X pins σ' H' s'∧D.ct σ' H'
  | .ret u=>∃v σ' H',av X pins σ' H' s'∧aZ v u∧D.rt v H'
def PE(X:Cx)(e:Expr)(t:TE):Prop:=
  ∀(pins:List (Addr × Obj)) (s:Shared) (σ:St) (H:Hp) (Q:VK),av X pins σ H s→t σ H Q→wpAny (model X.prog X.w) X.A (eval e X.env) (EP X pins σ Q) X.xe s
def PT(X:Cx)(e:Expr)(t:TT):Prop:=
  ∀(pins:List (Addr × Obj)) (s:Shared) (σ:St) (H:Hp) (Q:Bool→Hp→Prop),av X pins σ H s→t σ H Q→wpAny (model X.prog X.w) X.A (isTrue e X.env (eval e X.env)) (TP X pins σ Q) X.xe s
def PW(X:Cx)(e:Expr)(t:TT):Prop:=
  ∀(whole:Sem Value) (pins:List (Addr × Obj)) (s:Shared) (σ:St) (H:Hp) (Q:Bool→Hp→Prop),av X pins σ H s→t σ H Q→wpAny (model X.prog X.w) X.A (isTrue e X.env whole) (TP X pins σ Q) X.xe s
theorem PW.pt{X:Cx}{e:Expr}{t:TT}(h:PW X e t):PT X e t:=h _
def PA(X:Cx)(es:List Expr)(t:TA):Prop:=
  ∀(pos:Pos) (pins:List (Addr × Obj)) (s:Shared) (σ:St) (H:Hp) (Q:List V→Hp→Prop),av X pins σ H s→t σ H Q→wpAny (model X.prog X.w) X.A (spliced (backTo pos (starEach es X.env))) (AP X pins σ Q) X.xe s
def PS(X:Cx)(st:Stmt)(t:TS):Prop:=
  ∀(pins:List (Addr × Obj)) (s:Shared) (σ:St) (H:Hp) (D:mH),av X pins σ H s→t D σ H→wpAny (model X.prog X.w) X.A (exec st X.env) (SP X pins D) X.xe s
def iB(X:Cx)(st:List Stmt)(t:TS):Prop:=
  ∀(pins:List (Addr × Obj)) (s:Shared) (σ:St) (H:Hp) (D:mH),av X pins σ H s→t D σ H→wpAny (model X.prog X.w) X.A (execs st X.env) (SP X pins D) X.xe s
theorem bz{α:Type}{t:Sem α}{Q Q':α→Shared→Prop}{M:Model}{A:Around}{E:Value→Shared→Prop}{s:Shared}(h:wpAny M A t Q E s)(hQ:∀a s,Q a s→Q' a s):wpAny M A t Q' E s:=wpAny_mono h hQ fun _ _ x=>x
end L2
namespace L2
open PySem PySem.Spec PyProof.Rows
section
variable{X:Cx}
def k_(i:Nat):TE:=fun σ H Q=>∃v,σ[i]?=some (some v)∧Q v H
def tC(v:V):TE:=fun _ H Q=>Q v H
theorem eE{i:Nat}{x:Str}{pos:Pos}(hN:X.N[i]?=some x)(hv:sC X.env.scope x)(hd:(x==("__debug__":Str))=false:=by decide)(hcd:(x==("__classdict__":Str))=false:=by decide):PE X (.Name x pos) (k_ i):=by
  intro pins s σ H Q I h
  obtain⟨v,e,h⟩:=h
  obtain⟨m,hn,hl⟩:=I.loc
  obtain⟨u,r,l⟩:=hl i x v hN e hv
  have fin:EP X pins σ Q u s:=⟨v,H,I,r,h⟩
  rcases l with ⟨hk,hm⟩ | ⟨hk,c,hc,hcell⟩
  · exact wpAny_Name (wpAny_loadName_local I.ok.kind hk hn hm fin) hd
  · rcases hk with hk | hk
    · exact wpAny_Name (wpAny_loadName_cell I.ok.kind hk hc hcell fin) hd
    · exact wpAny_Name (wpAny_loadName_free I.ok.kind hk hc hcell fin hcd) hd
theorem xA{i j pos}:PE X (.Constant (.int i) j pos) (tC (.int i)):=fun _ _ _ H _ I h=>wpAny_Constant_int ⟨.int i,H,I.tok _,⟨_,rfl⟩,h⟩
theorem zu{b j pos}:PE X (.Constant (.bool b) j pos) (tC (.bl b)):=fun _ _ _ H _ I h=>Constant_bool ⟨.bl b,H,I,rfl,h⟩
def Gl(X:Cx)(x:Str):Prop:=X.env.kindOf x=some .globalImplicit
theorem tu{E:Value→Shared→Prop}{pins:List (Addr × Obj)}{s:Shared}{σ:St}{H:Hp}{x:Str}{u:Value}{pos:Pos}{Q:Value→Shared→Prop}(I:av X pins σ H s)(hg:Gl X x)(hm:X.mg x=some u)(h:Q u s)
    (hd:(x==("__debug__":Str))=false:=by decide):wpAny (model X.prog X.w) X.A (eval (.Name x pos) X.env) Q E s:=
  Calls.Name_function_global I.ok.kind hg (Calls.loadGlobal_global (by rw [I.ok.glob];exact I.mod.glob.keeps I.bk) hm h) hd
theorem fX{E:Value→Shared→Prop}{pins:List (Addr × Obj)}{s:Shared}{σ:St}{H:Hp}{x:Str}{u:Value}{pos:Pos}{Q:Value→Shared→Prop}(I:av X pins σ H s)(hg:Gl X x)(hm:X.mg x=none)(hv:bootBuiltins x=some u)(h:Q u s)
    (hn:x≠"__name__":=by decide)(hd:(x==("__debug__":Str))=false:=by decide):wpAny (model X.prog X.w) X.A (eval (.Name x pos) X.env) Q E s:=by
  obtain⟨mb,h1,h2⟩:=I.mod.blt
  exact Calls.Name_function_global I.ok.kind hg (Calls.loadGlobal_builtin (by rw [I.ok.glob];exact I.mod.glob.keeps I.bk) hm (by rw [I.ok.blt];exact h1.keeps I.bk) ((h2 x hn).trans hv) h) hd
variable{a b:Expr}{ta tb:TE}{pos:Pos}
def tB(t:TE):TT:=fun σ H Q=>t σ H fun x H1=>∃c,x=.bl c∧Q c H1
theorem xK{e:Expr}{t:TE}(h:PE X e t)(he:∀whole,isTrue e X.env whole=(do let v ←whole;standAt e.pos;holding [v] (truthy v)):=by intro _;rfl):PT X e (tB t):=by
  intro pins s σ H Q I hw
  refine isTrue_plain (bz (h pins s σ H _ I hw) fun v s1 ⟨x,H1,I1,r1,q1⟩=>?_) (he _)
  obtain⟨d,rfl,q⟩:=q1
  cases r1
  exact wpAny_truthy_bool ⟨H1,I1,q⟩
variable{tA tB':TT}{eM:List Expr}
def zP(t u:TT):TT:=fun σ H Q=>t σ H fun c H1=>if c=true then u σ H1 Q else Q false H1
def Bp(t u:TT):TT:=fun σ H Q=>t σ H fun c H1=>if c=true then Q true H1 else u σ H1 Q
def zT(t:TT):TT:=fun σ H Q=>t σ H fun c H1=>Q (!c) H1
theorem um(ha:PT X a tA):PW X (.BoolOp .And [a] pos) tA:=by
  intro wh pins s σ H Q I h
  refine isTrue_and (bz (ha pins s σ H Q I h) fun c s1 e=>?_)
  cases c with
  | true=>exact isTrue_and_nil e
  | false=>exact e
theorem xN(ha:PT X a tA):PW X (.BoolOp .Or [a] pos) tA:=by
  intro wh pins s σ H Q I h
  refine isTrue_or (bz (ha pins s σ H Q I h) fun c s1 e=>?_)
  cases c with
  | false=>exact isTrue_or_nil e
  | true=>exact e
theorem xM(ha:PT X a tA)(hb:PW X (.BoolOp .And (b::eM) pos) tB'):PW X (.BoolOp .And (a::b::eM) pos) (zP tA tB'):=by
  intro wh pins s σ H Q I h
  refine isTrue_and (bz (ha pins s σ H _ I h) fun c s1 ⟨H1,I1,q1⟩=>?_)
  cases c with
  | true=>exact hb wh pins s1 σ H1 Q I1 q1
  | false=>exact⟨H1,I1,q1⟩
theorem zy(ha:PT X a tA)(hb:PW X (.BoolOp .Or (b::eM) pos) tB'):PW X (.BoolOp .Or (a::b::eM) pos) (Bp tA tB'):=by
  intro wh pins s σ H Q I h
  refine isTrue_or (bz (ha pins s σ H _ I h) fun c s1 ⟨H1,I1,q1⟩=>?_)
  cases c with
  | true=>exact⟨H1,I1,q1⟩
  | false=>exact hb wh pins s1 σ H1 Q I1 q1
theorem xJ(ha:PT X a tA):PT X (.UnaryOp .Not a pos) (zT tA):=by
  intro pins s σ H Q I h
  exact isTrue_not (ha pins s σ H (fun c H1=>Q (!c) H1) I h)
end
end L2
namespace L2
open PySem PySem.Spec PyProof.Rows
def er(K:PySem.W.Frag)(H:Hp)(a:Addr)(xs:List V):Prop:=
  Rd H a (.lst xs)∨
    ∃(o:Obj) (its:Array Value) (n:Nat),K.lookup a=some o∧o.cls=.type "list"∧o.dict=none∧o.data=.seq its n∧its.size≤sizeLine∧aC xs its.toList
def bR(K:PySem.W.Frag)(H:Hp)(a:Addr)(xs:List V):Prop:=
  Rd H a (.tup xs)∨
    ∃(o:Obj) (its:Array Value) (n:Nat),K.lookup a=some o∧o.cls=.type "tuple"∧o.dict=none∧o.data=.seq its n∧its.size≤sizeLine∧aC xs its.toList
def Ax:Value→Option V
  | .none=>some .non
  | .bool b=>some (.bl b)
  | .int i _=>some (.int i)
  | .str x _=>some (.str x)
  | .bytes b _=>some (.byt b)
  | .float b _=>some (.flt b)
  | .ref a=>some (.ref a)
  | .type n=>some (.ty n)
  | _=>none
theorem aZ.abs{x:V}{u:Value}(r:aZ x u):Ax u=some x:=by
  cases x with
  | non=>cases r;rfl
  | bl _=>cases r;rfl
  | int _=>obtain⟨t,rfl⟩:=r;rfl
  | str _=>obtain⟨t,rfl⟩:=r;rfl
  | byt _=>obtain⟨t,rfl⟩:=r;rfl
  | flt _=>obtain⟨t,rfl⟩:=r;rfl
  | ref _=>cases r;rfl
  | ty _=>cases r;rfl
theorem aZ.inj{x y:V}{u:Value}(r:aZ x u)(q:aZ y u):x=y:=Option.some.inj (r.abs.symm.trans q.abs)
theorem aC.inj:∀{xs ys:List V} {us:List Value},aC xs us→aC ys us→xs=ys
  | _,_,_,.nil,.nil=>rfl
  | _,_,_,.cons r t,.cons r' t'=>by rw [r.inj r',aC.inj t t']
section
variable{X:Cx}{pins:List (Addr × Obj)}{σ:St}{H:Hp}{s:Shared}{a:Addr}{xs ys:List V}
theorem er.of{K:PySem.W.Frag}(h:H a=some (.lst xs)):er K H a xs:=.inl (.inl h)
theorem bR.of{K:PySem.W.Frag}(h:H a=some (.tup xs)):bR K H a xs:=.inl (.inl h)
theorem av.list(I:av X pins σ H s)(h:er X.K H a xs):∃its:List Value,aC xs its∧PlainL s.heap a its.toArray∧xs.length≤sizeLine:=by
  rcases h with h | ⟨o,its,n,hk,hc,hd,hs,hz,r⟩
  · obtain⟨z,its,n,r,e⟩:=h.ok I.hok
    exact⟨its,r,⟨_,n,e,rfl,rfl,rfl⟩,z⟩
  · refine⟨its.toList,r,⟨o,n,I.kIn a o hk,hc,hd,by simpa using hs⟩,?_⟩
    have e:=r.length
    simp only [Array.length_toList] at e
    lia
theorem av.tuple(I:av X pins σ H s)(h:bR X.K H a xs):∃its:List Value,aC xs its∧IsTup s.heap a its.toArray∧xs.length≤sizeLine:=by
  rcases h with h | ⟨o,its,n,hk,hc,_,hs,hz,r⟩
  · obtain⟨z,its,r,p⟩:=h.ok I.hok
    exact⟨its,r,p.tup,z⟩
  · refine⟨its.toList,r,⟨o,I.kIn a o hk,hc,n,by simpa using hs⟩,?_⟩
    have e:=r.length
    simp only [Array.length_toList] at e
    lia
theorem av.list_inj(I:av X pins σ H s)(h:er X.K H a xs)(h':er X.K H a ys):xs=ys:=by
  obtain⟨its,r,⟨o,n,e,_,_,d⟩,_⟩:=I.list h
  obtain⟨its',r',⟨o',n',e',_,_,d'⟩,_⟩:=I.list h'
  rw [e] at e';cases e'
  rw [d] at d'
  injection d' with d1 _
  have:its=its':=by simpa using congrArg Array.toList d1
  subst this
  exact r.inj r'
theorem av.tuple_inj(I:av X pins σ H s)(h:bR X.K H a xs)(h':bR X.K H a ys):xs=ys:=by
  obtain⟨its,r,⟨o,e,_,n,d⟩,_⟩:=I.tuple h
  obtain⟨its',r',⟨o',e',_,n',d'⟩,_⟩:=I.tuple h'
  rw [e] at e';cases e'
  rw [d] at d'
  injection d' with d1 _
  have:its=its':=by simpa using congrArg Array.toList d1
  subst this
  exact r.inj r'
end
abbrev Cx.wish(X:Cx)(E:Value→Shared→Prop):Cx:={X with xe:=E}
abbrev Cx.nox(X:Cx):Cx:=X.wish fun _ _=>False
theorem Cx.Ok.wish{X:Cx}(ok:X.Ok)(E:Value→Shared→Prop):(X.wish E).Ok:=
  ⟨ok.mod,ok.kind,ok.glob,ok.blt,ok.above,ok.inj,ok.has,ok.cab,ok.hd,ok.frames,ok.stk,ok.exf,ok.bs,ok.bsz,ok.noex,ok.exfs,ok.funs,ok.frf⟩
theorem Cx.Ok.unwish{X:Cx}{E:Value→Shared→Prop}(ok:(X.wish E).Ok):X.Ok:=
  ⟨ok.mod,ok.kind,ok.glob,ok.blt,ok.above,ok.inj,ok.has,ok.cab,ok.hd,ok.frames,ok.stk,ok.exf,ok.bs,ok.bsz,ok.noex,ok.exfs,ok.funs,ok.frf⟩
section
variable{X:Cx}{pins:List (Addr × Obj)}{σ:St}{H:Hp}{s:Shared}{E:Value→Shared→Prop}
theorem av.wish(I:av X pins σ H s)(E:Value→Shared→Prop):av (X.wish E) pins σ H s:=⟨I.ok.wish E,I.os,I.bare,I.base,I.loc,I.cell,I.free,I.freeC,I.pin,I.hok,I.len⟩
theorem av.unwish(I:av (X.wish E) pins σ H s):av X pins σ H s:=⟨I.ok.unwish,I.os,I.bare,I.base,I.loc,I.cell,I.free,I.freeC,I.pin,I.hok,I.len⟩
theorem SP.unwish{D:mH}{f:Flow}{s':Shared}(h:SP (X.wish E) pins D f s'):SP X pins D f s':=by
  cases f with
  | next=>obtain⟨σ',H',I,q⟩:=h;exact⟨σ',H',I.unwish,q⟩
  | brk=>obtain⟨σ',H',I,q⟩:=h;exact⟨σ',H',I.unwish,q⟩
  | cont=>obtain⟨σ',H',I,q⟩:=h;exact⟨σ',H',I.unwish,q⟩
  | ret u=>obtain⟨v,σ',H',I,r,q⟩:=h;exact⟨v,σ',H',I.unwish,r,q⟩
theorem iB.nox{st:List Stmt}{t:TS}(h:iB X.nox st t):iB X st t:=fun pins s σ H D I hw=>
  wpAny_mono (h pins s σ H D (I.wish _) hw) (fun _ _ q=>q.unwish) fun _ _ z=>False.elim z
end
section
variable{X:Cx}{st:Stmt}{eM:List Stmt}{t u:TS}{e:Expr}{te:TE}{pos:Pos}
def zS:TS:=fun D σ H=>D.nx σ H
def A_(t u:TS):TS:=fun D σ H=>t {D with nx:=u D} σ H
theorem ui:iB X [] zS:=fun _ _ σ H _ I h=>wpAny_execs_nil ⟨σ,H,I,h⟩
theorem rB(h1:PS X st t)(h2:iB X eM u):iB X (st::eM) (A_ t u):=by
  intro pins s σ H D I h
  refine wpAny_execs_cons (bz (h1 pins s σ H {D with nx:=u D} I h) fun f s1 q=>?_)
  cases f with
  | next=>
    obtain⟨σ',H',I',q⟩:=q
    exact h2 pins s1 σ' H' D I' q
  | ret v=>exact q
  | brk=>exact q
  | cont=>exact q
theorem uj(h1:PS X st t):iB X [st] t:=by
  intro pins s σ H D I h
  refine wpAny_execs_cons (bz (h1 pins s σ H D I h) fun f s1 q=>?_)
  cases f with
  | next=>exact wpAny_execs_nil q
  | ret v=>exact q
  | brk=>exact q
  | cont=>exact q
theorem av.quiet{pins:List (Addr × Obj)}{σ:St}{H:Hp}{s:Shared}(I:av X pins σ H s):interactive X.env=false:=by simp [interactive,I.ok.kind]
def zR(te:TE):TS:=fun D σ H=>te σ H fun _ H1=>D.nx σ H1
theorem uh(he:PE X e te)(hs:swapsWith e none pos.line X.env=pure false:=by rfl):PS X (.Expr e pos) (zR te):=by
  intro pins s σ H D I h
  exact wpAny_Expr_any (bz (he pins s σ H _ I h) fun v s1 ⟨x,H1,I1,r1,q1⟩=>⟨σ,H1,I1,q1⟩) I.quiet hs
def A9(te:TE):TS:=fun D σ H=>te σ H D.rt
theorem xI(he:PE X e te):PS X (.Return (some e) pos) (A9 te):=by
  intro pins s σ H D I h
  exact wpAny_Return_some (bz (he pins s σ H _ I h) fun v s1 ⟨x,H1,I1,r1,q1⟩=>⟨x,σ,H1,I1,r1,q1⟩)
def A4(c:TT)(t u:TS):TS:=fun D σ H=>c σ H fun b H1=>if b=true then t D σ H1 else u D σ H1
theorem zx{c:Expr}{a b:List Stmt}{tc:TT}(hc:PT X c tc)(ha:iB X a t)(hb:iB X b u):PS X (.If c a b pos) (A4 tc t u):=by
  intro pins s σ H D I h
  refine wpAny_If (bz (hc pins s σ H _ I h) fun d s1 ⟨H1,I1,q1⟩=>?_)
  cases d with
  | true=>exact ha pins s1 σ H1 D I1 q1
  | false=>exact hb pins s1 σ H1 D I1 q1
end
abbrev TG:=V→St→Hp→(St→Hp→Prop)→Prop
abbrev sA:=List V→St→Hp→(St→Hp→Prop)→Prop
def PG(X:Cx)(target:Expr)(t:TG):Prop:=
  ∀(pins:List (Addr × Obj)) (s:Shared) (σ:St) (H:Hp) (v:V) (u:Value) (Q:St→Hp→Prop),av X pins σ H s→aZ v u→t v σ H Q→
    wpAny (model X.prog X.w) X.A (assign target X.env u) (fun _ s'=>∃σ' H',av X pins σ' H' s'∧Q σ' H') X.xe s
def pR(X:Cx)(ts:List Expr)(t:sA):Prop:=
  ∀(pins:List (Addr × Obj)) (s:Shared) (σ:St) (H:Hp) (vs:List V) (us:List Value) (Q:St→Hp→Prop),av X pins σ H s→aC vs us→t vs σ H Q→
    wpAny (model X.prog X.w) X.A (assignInOrder ((assignEach ts X.env).map (·.2)) us) (fun _ s'=>∃σ' H',av X pins σ' H' s'∧Q σ' H') X.xe s
section
variable{X:Cx}{pos:Pos}
def qu(i:Nat):TG:=fun v σ H Q=>Q (σ.set i (some v)) H
theorem t9{i:Nat}{x:Str}(hN:X.N.Nodup)(hi:X.N[i]?=some x)(hx:v_ X.env.scope x)(hf:X.fn x=true∨X.env.scope.names.lookup x=some .local:=by first | exact .inl rfl | exact .inr rfl | assumption):PG X (.Name x pos) (qu i):=by
  intro pins s σ H v u Q I r h
  exact wpAny_assign_Name (gN I hN hi hx r (fun s' I'=>⟨_,H,I',h⟩) hf)
def AC:sA:=fun vs σ H Q=>vs=[]∧Q σ H
def yY(t:TG)(u:sA):sA:=fun vs σ H Q=>∃v r,vs=v::r∧t v σ H fun σ' H'=>u r σ' H' Q
theorem ua:pR X [] AC:=by
  intro pins s σ H vs us Q I r h
  obtain⟨e,h⟩:=h
  subst e
  cases r
  exact assignInOrder_nil ⟨σ,H,I,h⟩
theorem rh{e:Expr}{es:List Expr}{t:TG}{u:sA}(h1:PG X e t)(h2:pR X es u)
    (hs:(assignEach (e::es) X.env).map (·.2)=assign e X.env::(assignEach es X.env).map (·.2):=by rfl):pR X (e::es) (yY t u):=by
  intro pins s σ H vs us Q I r h
  obtain⟨v,vr,e1,h⟩:=h
  subst e1
  cases r with
  | cons r rr=>
    rw [hs]
    refine assignInOrder_cons (bz (h1 pins s σ H _ _ _ I r h) fun _ s1 ⟨σ1,H1,I1,q1⟩=>?_)
    exact h2 pins s1 σ1 H1 _ _ Q I1 rr q1
def y2(K:PySem.W.Frag)(n:Nat)(t:sA):TG:=fun v σ H Q=>∃a xs,v=.ref a∧bR K H a xs∧xs.length=n∧t xs σ H Q
theorem xC{es:List Expr}{k:Nat}{t:sA}{n:Nat}(hc:X.calm=true)(h:pR X es t)
    (hn:(assignEach es X.env).length=n:=by rfl)(hst:(assignEach es X.env).findIdx? (·.1)=none:=by rfl):PG X (.Tuple es k pos) (y2 X.K n t):=by
  intro pins s σ H v u Q I r hw
  obtain⟨a,xs,e1,hq,hl,hw⟩:=hw
  subst e1
  cases r
  obtain⟨its,rv,ht,hz⟩:=I.tuple hq
  refine assign_Tuple_tuple (I.ok.hd hc) ht (by simp [hn,←hl,rv.length]) hst fun h' hx=>?_
  have I1:av X pins σ H {s with heap:=h'}:=I.kept (t':=s.toks) fun b o e=>hx b o (Nat.ne_of_lt (Heap.lt_size e)) e
  exact h pins _ σ H xs _ Q I1 (by simpa using rv) hw
def yd(te:TE)(g:TG):TS:=fun D σ H=>te σ H fun x H1=>g x σ H1 D.nx
theorem xF{tg e:Expr}{te:TE}{g:TG}(he:PE X e te)(hg:PG X tg g)(hs:swapsWithSole [tg] e pos.line X.env=pure false:=by rfl)(hw:swappedStores [tg] e X.env=pure none:=by rfl)
    (h1:(assignEach [tg] X.env).map (·.2)=[assign tg X.env]:=by rfl):PS X (.Assign [tg] e pos) (yd te g):=by
  intro pins s σ H D I h
  refine wpAny_Assign_stores (bz (he pins s σ H _ I h) fun v s1 ⟨x,H1,I1,r1,q1⟩=>?_) hs hw
  rw [h1]
  exact bz (hg pins s1 σ H1 x v _ I1 r1 q1) fun _ s2 q=>q
theorem rq{i:Nat}{x:Str}{e:Expr}{te:TE}{pos':Pos}(hN:X.N.Nodup)(hi:X.N[i]?=some x)(hx:v_ X.env.scope x)(he:PE X e te)(hs:swapsWith e (some (.Name x pos')) pos.line X.env=pure false:=by rfl)(hf:X.fn x=true∨X.env.scope.names.lookup x=some .local:=by first | exact .inl rfl | exact .inr rfl | assumption):
    PS X (.Assign [.Name x pos'] e pos) (yd te (qu i)):=by
  intro pins s σ H D I h
  refine wpAny_Assign_Name (bz (he pins s σ H _ I h) fun v s1 ⟨y,H1,I1,r1,q1⟩=>?_) hs
  exact gN I1 hN hi hx r1 (fun s2 I2=>⟨_,H1,I2,q1⟩) hf
def A8(i j:Nat)(ta:TA):TS:=fun D σ H=>ta σ H fun vs H1=>∃v w,vs=[v,w]∧D.nx ((σ.set i (some v)).set j (some w)) H1
theorem xH{i j:Nat}{x y:Str}{a b:Expr}{ta:TA}{px py pt:Pos}{kt k2 pt2}(hc:X.calm=true)(hN:X.N.Nodup)(hi:X.N[i]?=some x)(hj:X.N[j]?=some y)(hij:i≠j)
    (hx:X.env.scope.names.lookup x=some .local)(hy:X.env.scope.names.lookup y=some .local)(ha:PA X [a,b] ta)
    (hw:swappedStores [.Tuple [.Name x px,.Name y py] kt pt] (.Tuple [a,b] k2 pt2) X.env=pure (some [x,y]))
    (hs:swapsWithSole [.Tuple [.Name x px,.Name y py] kt pt] (.Tuple [a,b] k2 pt2) pos.line X.env=pure false:=by rfl):
    PS X (.Assign [.Tuple [.Name x px,.Name y py] kt pt] (.Tuple [a,b] k2 pt2) pos) (A8 i j ta):=by
  intro pins s σ H D I h
  rw [exec_Assign_arm]
  refine wpAny_bind (wpAny_standAt ?_)
  rw [hs]
  refine wpAny_bind (wpAny_pure ?_)
  rw [if_neg (by decide)]
  refine wpAny_bind (Tuple_ (bz (ha _ pins s σ H _ I h) fun us s1 ⟨vs,H1,I1,r1,q1⟩=>?_))
  obtain⟨v,w,e1,q1⟩:=q1
  subst e1
  obtain⟨u1,u2,rfl,rv,rw'⟩:∃u1 u2,us=[u1,u2]∧aZ v u1∧aZ w u2:=by
    cases r1 with
    | cons p q=>
      cases q with
      | cons p' q'=>
        cases q'
        exact⟨_,_,rfl,p,p'⟩
  refine wpAny_newObj_type ?_ (by show 2≤sizeLine;decide)
  have I2:av X pins σ H1 {s1 with heap:=s1.heap.push {cls:=.type "tuple",data:=.seq [u1,u2].toArray}}:=I1.kept (t':=s1.toks) fun b o e=>Heap.get?_push_of_some _ e
  rw [hw]
  refine wpAny_bind (wpAny_pure ?_)
  show wpAny (model X.prog X.w) X.A (do rule "assign.swapped-stores";let items ←unpackItems (.ref s1.heap.objs.size) 2 none;assignInOrder [fun v=>bindName X.env y v,fun v=>bindName X.env x v] items.reverse;pure Flow.next) _ _ _
  refine wpAny_bind (wpAny_rule (wpAny_bind (unpackItems_tuple (items:=#[u1,u2]) (I.ok.hd hc) (IsTup.new s1.heap _) fun h' hx'=>?_)))
  have I3:=I2.kept (h':=h') (t':=s1.toks) fun b o e=>hx' b o (Nat.ne_of_lt (Heap.lt_size e)) e
  show wpAny _ _ (assignInOrder [fun v=>bindName X.env y v,fun v=>bindName X.env x v] [u2,u1] >>= fun _=>pure Flow.next) _ _ _
  refine wpAny_bind (assignInOrder_cons (wpAny_bindName (gN I3 hN hj (.inl hy) rw' (fun s2 I4=>?_) (.inr hy))))
  refine assignInOrder_cons (wpAny_bindName (gN I4 hN hi (.inl hx) rv (fun s3 I5=>assignInOrder_nil (wpAny_pure ?_)) (.inr hx)))
  rw [List.set_comm _ _ (Ne.symm hij)] at I5
  exact⟨_,H1,I5,q1⟩
end
section
variable{X:Cx}{pos:Pos}
def yg(c:TT)(tb:TS):TS:=fun D σ H=>∃W:Nat→St→Hp→Prop,(∃m,W m σ H)∧∀m σ H,W m σ H→
  c σ H fun b H1=>if b=true then ∃N:St→Hp→Prop,(∀σ' H',N σ' H'→∃m',m' < m∧W m' σ' H')∧tb {D with nx:=N,ct:=N,bk:=D.nx} σ H1 else D.nx σ H1
theorem rA{c:Expr}{body:List Stmt}{tc:TT}{tb:TS}(hp:PassesOwn (model X.prog X.w) X.A X.env X.xe)(hc:PT X c tc)(hb:iB X body tb):PS X (.While c body [] pos) (yg tc tb):=by
  intro pins s σ H D I h
  obtain⟨W,⟨m0,w0⟩,turn⟩:=h
  refine wpAny_While (codeAny_whileLoop (fun n s'=>∃σ' H',av X pins σ' H' s'∧W n σ' H') ?_ m0 ⟨σ,H,I,w0⟩)
  rintro n s1 ⟨σ1,H1,I1,w1⟩
  refine wpAny_passesOwn hp (bz (hc pins s1 σ1 H1 _ I1 (turn n σ1 H1 w1)) fun b s2 ⟨H2,I2,q2⟩=>?_)
  cases b with
  | true=>
    obtain⟨N,hN,q2⟩:=q2
    rw [if_pos rfl]
    refine wpAny_passesOwn hp (bz (hb pins s2 σ1 H2 _ I2 q2) fun f s3 q3=>?_)
    cases f with
    | next=>
      obtain⟨σ3,H3,I3,n3⟩:=q3
      obtain⟨m',hm,w3⟩:=hN σ3 H3 n3
      exact⟨m',hm,σ3,H3,I3,w3⟩
    | cont=>
      obtain⟨σ3,H3,I3,n3⟩:=q3
      obtain⟨m',hm,w3⟩:=hN σ3 H3 n3
      exact⟨m',hm,σ3,H3,I3,w3⟩
    | brk=>exact q3
    | ret v=>exact q3
  | false=>
    rw [if_neg Bool.false_ne_true]
    exact wpAny_execs_nil ⟨σ1,H2,I2,q2⟩
end
structure It where
  go:Nat→Hp→Prop
  yld:Nat→Hp→V→Hp→Prop
  stop:Nat→Hp→Prop
def dY(X:Cx)(pins:List (Addr × Obj))(H:Hp)(b:Addr):Prop:=
  H b=none∧b≠X.env.locals∧b∉X.fs∧(b∈X.ex∨X.s₀.heap.objs.size≤b)∧(∀x c,X.env.cells.lookup x=some c→c≠b)∧∀p∈X.pn++pins,p.1≠b
theorem av.fpOk{X:Cx}{pins:List (Addr × Obj)}{σ:St}{H H':Hp}{s:Shared}{b:Addr}(I:av X pins σ H s)(hb:s.heap.objs.size≤b)(hn:H' b=none):dY X pins H' b:=by
  refine⟨hn,Nat.ne_of_gt (Nat.lt_of_lt_of_le I.lt hb),I.nofs hb,.inr (Nat.le_trans I.sz hb),fun x c e z=>?_,fun p hp z=>?_⟩
  · obtain⟨v,q⟩:=I.cell x c e
    exact absurd (Nat.lt_of_lt_of_le q.lt (by rw [z];exact hb)) (Nat.lt_irrefl _)
  · exact absurd (Nat.lt_of_lt_of_le (Heap.lt_size (I.pin p hp).1) (by rw [z];exact hb)) (Nat.lt_irrefl _)
structure mK (P:Program) (w:World) (K:PySem.W.Frag) (tg:Expr) (J:It) (fp:List Addr) (it:Addr) (tn:Nat→Heap→Prop):Prop where
  mem:it∈fp
  obj:∀i h,tn i h→∀b∈fp,∃o,h.get? b=some o∧∀v,o.data≠.cell v
  keep:∀i h h',tn i h→(∀b∈fp,∀o,h.get? b=some o→h'.get? b=some o)→tn i h'
  item:∀(X:Cx),X.prog=P→X.w=w→X.K=K→X.calm=true→∀(i:Nat) (pins:List (Addr × Obj)) (s:Shared) (σ:St) (H:Hp) (E:Value→Shared→Prop),av X pins σ H s→(∀b∈fp,dY X pins H b)→tn i s.heap→J.go i H→
    wpAny (model P w) X.A (pyNext (.ref it)) (fun r s1=>∃u,r=some u∧
      wpAny (model P w) X.A (letOwnedTupleGo tg (.ref it) u) (fun _ s2=>∃x H',av X pins σ H' s2∧aZ x u∧J.yld i H x H'∧tn (i+1) s2.heap∧∀b∈fp,H' b=none) E s1) E s
  done:∀(X:Cx),X.prog=P→X.w=w→X.K=K→X.calm=true→∀(i:Nat) (pins:List (Addr × Obj)) (s:Shared) (σ:St) (H:Hp) (E:Value→Shared→Prop),av X pins σ H s→(∀b∈fp,dY X pins H b)→tn i s.heap→J.stop i H→
    wpAny (model P w) X.A (pyNext (.ref it)) (fun r s1=>r=none∧av X pins σ H s1) E s
  self:∀(A:Around) (i:Nat) (s:Shared) (Q:Value→Shared→Prop) (E:Value→Shared→Prop),tn i s.heap→Q (.ref it) s→wpAny (model P w) A (pyIter (.ref it)) Q E s
abbrev TI:=St→Hp→(It→Hp→Prop)→Prop
def Bg(X:Cx)(pins:List (Addr × Obj))(σ:St)(tg:Expr)(R:It→Hp→Prop)(itv:Value)(s2:Shared):Prop:=
  ∃(it:Addr) (fp:List Addr) (tn:Nat→Heap→Prop) (J:It) (H':Hp),itv=.ref it∧av X pins σ H' s2∧mK X.prog X.w X.K tg J fp it tn∧tn 0 s2.heap∧(∀b∈fp,dY X pins H' b)∧R J H'
def PI(X:Cx)(tg iter:Expr)(wi:TI):Prop:=
  ∀(pins:List (Addr × Obj)) (s:Shared) (σ:St) (H:Hp) (R:It→Hp→Prop),av X pins σ H s→wi σ H R→
    wpAny (model X.prog X.w) X.A (eval iter X.env) (fun v s1=>wpAny (model X.prog X.w) X.A (pyIter v) (Bg X pins σ tg R) X.xe s1) X.xe s
theorem qC{M:Model}{A:Around}{E:Value→Shared→Prop}{s:Shared}{tg:Expr}{it:Addr}{u:Value}{o:Obj}{n:String}{vs:Array Value}{Q:Unit→Shared→Prop}(ho:s.heap.get? it=some o)(hc:o.cls=.type n)(hd:o.data=.fields vs)
    (hn:["enumerate","zip","dict_itemiterator","dict_reverseitemiterator","odict_iterator","itertools.zip_longest","itertools.pairwise"].contains n=false)(hQ:Q () s):wpAny M A (letOwnedTupleGo tg (.ref it) u) Q E s:=by
  unfold letOwnedTupleGo
  cases tg<;>first
    | exact wpAny_pure hQ
    | (cases u<;>first
        | exact wpAny_pure hQ
        | (refine wpAny_bind (wpAny_load ho ?_)
           rw [hc,hd]
           show wpAny M A (if (["enumerate","zip","dict_itemiterator","dict_reverseitemiterator","odict_iterator","itertools.zip_longest","itertools.pairwise"].contains n&&vs[0]?==some (rawInt _))=true then _ else _) Q E s
           rw [if_neg (by intro h;rw [hn,Bool.false_and] at h;cases h)]
           exact wpAny_pure hQ))
def Am(K:PySem.W.Frag)(a:Addr):It:=
  ⟨fun i H=>∃xs x,er K H a xs∧xs[i]?=some x,fun i H x H'=>H'=H∧∀xs,er K H a xs→xs[i]?=some x,fun i H=>∃xs,er K H a xs∧xs.length≤i⟩
def An(K:PySem.W.Frag)(a:Addr):It:=
  ⟨fun i H=>∃xs x,bR K H a xs∧xs[i]?=some x,fun i H x H'=>H'=H∧∀xs,bR K H a xs→xs[i]?=some x,fun i H=>∃xs,bR K H a xs∧xs.length≤i⟩
def Ab(lo:Int)(n:Nat):It:=⟨fun i _=>i < n,fun i H x H'=>H'=H∧x=.int (lo+i),fun i _=>n≤i⟩
theorem pO{P:Program}{w:World}{K:PySem.W.Frag}{tg:Expr}(a it:Addr):mK P w K tg (Am K a) [it] it (fun i h=>h.IsListIter it a i) where
  mem:=by simp
  obj:=fun i h st b hb=>by
    have e:b=it:=by simpa using hb
    subst e
    obtain⟨o,e,c,d⟩:=st
    exact⟨o,e,fun v z=>by rw [d] at z;cases z⟩
  keep:=fun i h h' st k=>st.at fun o e=>k it (by simp) o e
  item:=by
    intro X hP hw hK hc i pins s σ H E I hf st hg
    subst hP hw hK
    obtain⟨xs,x,hq,hx⟩:=hg
    obtain⟨its,rv,p,hz⟩:=I.list hq
    obtain⟨u,hu,ru⟩:=rv.get hx
    obtain⟨f0,f1,f2,f3,f4,f5⟩:=hf it (by simp)
    refine wpAny_pyNext_list_item st p.isList (x:=u) (by simpa using hu) fun h' st' sb=>?_
    have I1:av X pins σ H {s with heap:=h'}:=I.turned (t':=s.toks) (fun b o hb e=>(sb.2 b hb).trans e) f0 f1 f3 f4 f5
    obtain⟨o,e,c,d⟩:=id st'
    exact⟨u,rfl,qC (s:={s with heap:=h'}) e c d (by decide) ⟨x,H,I1,ru,⟨rfl,fun ys hy=>by rw [I.list_inj hy hq];exact hx⟩,st',fun b hb=>(hf b hb).1⟩⟩
  done:=by
    intro X hP hw hK hc i pins s σ H E I hf st hg
    subst hP hw hK
    obtain⟨xs,hq,hx⟩:=hg
    obtain⟨its,rv,p,hz⟩:=I.list hq
    obtain⟨f0,f1,f2,f3,f4,f5⟩:=hf it (by simp)
    have hl:=rv.length
    exact wpAny_pyNext_list_end (I.ok.hd hc) st p.isList (by simp;lia) fun h' eb=>⟨rfl,I.turned (t':=s.toks) (fun b o hb e=>eb b o hb e) f0 f1 f3 f4 f5⟩
  self:=fun _ _ _ _ _ st h=>wpAny_pyIter_listiter st h
theorem nA{P:Program}{w:World}{K:PySem.W.Frag}{tg:Expr}(a it:Addr):mK P w K tg (An K a) [it] it (fun i h=>h.IsTupleIter it a i) where
  mem:=by simp
  obj:=fun i h st b hb=>by
    have e:b=it:=by simpa using hb
    subst e
    obtain⟨o,e,c,d⟩:=st
    exact⟨o,e,fun v z=>by rw [d] at z;cases z⟩
  keep:=fun i h h' st k=>st.at fun o e=>k it (by simp) o e
  item:=by
    intro X hP hw hK hc i pins s σ H E I hf st hg
    subst hP hw hK
    obtain⟨xs,x,hq,hx⟩:=hg
    obtain⟨its,rv,p,hz⟩:=I.tuple hq
    obtain⟨u,hu,ru⟩:=rv.get hx
    obtain⟨f0,f1,f2,f3,f4,f5⟩:=hf it (by simp)
    refine wpAny_pyNext_tuple_item st (show s.heap.IsTuple a its.toArray from p) (x:=u) (by simpa using hu) fun h' st' sb=>?_
    have I1:av X pins σ H {s with heap:=h'}:=I.turned (t':=s.toks) (fun b o hb e=>(sb.2 b hb).trans e) f0 f1 f3 f4 f5
    obtain⟨o,e,c,d⟩:=id st'
    exact⟨u,rfl,qC (s:={s with heap:=h'}) e c d (by decide) ⟨x,H,I1,ru,⟨rfl,fun ys hy=>by rw [I.tuple_inj hy hq];exact hx⟩,st',fun b hb=>(hf b hb).1⟩⟩
  done:=by
    intro X hP hw hK hc i pins s σ H E I hf st hg
    subst hP hw hK
    obtain⟨xs,hq,hx⟩:=hg
    obtain⟨its,rv,p,hz⟩:=I.tuple hq
    obtain⟨f0,f1,f2,f3,f4,f5⟩:=hf it (by simp)
    have hl:=rv.length
    exact wpAny_pyNext_tuple_end (I.ok.hd hc) st (show s.heap.IsTuple a its.toArray from p) (by simp;lia) fun h' eb=>⟨rfl,I.turned (t':=s.toks) (fun b o hb e=>eb b o hb e) f0 f1 f3 f4 f5⟩
  self:=fun _ _ _ _ _ st h=>wpAny_pyIter_tupleiter st h
theorem ny{P:Program}{w:World}{K:PySem.W.Frag}{tg:Expr}(it:Addr)(lo:Int)(n:Nat):mK P w K tg (Ab lo n) [it] it (fun i h=>IsRangeIter h it (lo+(i:Nat)*1) ((n:Int) - (i:Nat)) 1) where
  mem:=by simp
  obj:=fun i h st b hb=>by
    have e:b=it:=by simpa using hb
    subst e
    exact⟨_,st,fun v z=>by
      have z':Data.fields _=Data.cell v:=z
      cases z'⟩
  keep:=fun i h h' st k=>k it (by simp) _ st
  item:=by
    intro X hP hw hK hc i pins s σ H E I hf st hg
    subst hP hw hK
    obtain⟨f0,f1,f2,f3,f4,f5⟩:=hf it (by simp)
    have W:=Walks.range (prog:=X.prog) (w:=X.w) (I.ok.hd hc) it lo 1 n
    refine W.item i s _ _ hg st fun v h' tk hv st' kk=>?_
    obtain⟨t,rfl⟩:=hv
    have I1:av X pins σ H {s with heap:=h',toks:=tk}:=I.turned (fun b o hb e=>kk b o (by simpa using hb) e) f0 f1 f3 f4 f5
    refine⟨_,rfl,qC (s:={s with heap:=h',toks:=tk}) (n:="range_iterator") st' rfl rfl (by decide) ⟨.int (lo+i),H,I1,⟨t,?_⟩,⟨rfl,rfl⟩,st',fun b hb=>(hf b hb).1⟩⟩
    rw [Int.mul_one]
  done:=by
    intro X hP hw hK hc i pins s σ H E I hf st hg
    subst hP hw hK
    obtain⟨f0,f1,f2,f3,f4,f5⟩:=hf it (by simp)
    exact wpAny_pyNext_range_end (I.ok.hd hc) st (by have:n≤i:=hg;lia) fun h' eb=>⟨rfl,I.turned (t':=s.toks) (fun b o hb e=>eb b o hb e) f0 f1 f3 f4 f5⟩
  self:=fun _ _ _ _ _ st h=>wpAny_pyIter_rangeiter st h
end L2
namespace L2
open PySem PySem.Spec PyProof.Rows
section
variable{X:Cx}{tg:Expr}
def vF(K:PySem.W.Frag)(tl:TE):TI:=fun σ H R=>tl σ H fun x H1=>∃a,x=.ref a∧(∃xs,er K H1 a xs)∧R (Am K a) H1
def wJ(K:PySem.W.Frag)(tl:TE):TI:=fun σ H R=>tl σ H fun x H1=>∃a,x=.ref a∧(∃xs,bR K H1 a xs)∧R (An K a) H1
theorem uc{l:Expr}{tl:TE}(hl:PE X l tl):PI X tg l (vF X.K tl):=by
  intro pins s σ H R I h
  refine bz (hl pins s σ H _ I h) fun v s1 ⟨x,H1,I1,r1,q1⟩=>?_
  obtain⟨a,e,⟨xs,hq⟩,q⟩:=q1
  subst e
  cases r1
  obtain⟨its,rv,p,hz⟩:=I1.list hq
  refine wpAny_pyIter_list p.isList ?_
  refine⟨s1.heap.objs.size,[s1.heap.objs.size],_,_,H1,rfl,I1.kept (t':=s1.toks) fun b o e=>Heap.get?_push_of_some _ e,pO a _,⟨_,Heap.get?_push_size _ rfl,rfl,rfl⟩,fun b hb=>?_,q⟩
  have e:b=s1.heap.objs.size:=by simpa using hb
  subst e
  exact I1.fpOk (Nat.le_refl _) (I1.hok.fresh (Nat.le_refl _))
theorem rl{l:Expr}{tl:TE}(hl:PE X l tl):PI X tg l (wJ X.K tl):=by
  intro pins s σ H R I h
  refine bz (hl pins s σ H _ I h) fun v s1 ⟨x,H1,I1,r1,q1⟩=>?_
  obtain⟨a,e,⟨xs,hq⟩,q⟩:=q1
  subst e
  cases r1
  obtain⟨its,rv,p,hz⟩:=I1.tuple hq
  refine wpAny_pyIter_tuple (show s1.heap.IsTuple a its.toArray from p) ?_
  refine⟨s1.heap.objs.size,[s1.heap.objs.size],_,_,H1,rfl,I1.kept (t':=s1.toks) fun b o e=>Heap.get?_push_of_some _ e,nA a _,⟨_,Heap.get?_push_size _ rfl,rfl,rfl⟩,fun b hb=>?_,q⟩
  have e:b=s1.heap.objs.size:=by simpa using hb
  subst e
  exact I1.fpOk (Nat.le_refl _) (I1.hok.fresh (Nat.le_refl _))
theorem rS{pins:List (Addr × Obj)}{σ:St}{H:Hp}{s:Shared}{R:It→Hp→Prop}{E:Value→Shared→Prop}{lo hi:Int}{t u v:Tok}{tk:Nat}(I:av X pins σ H s)(h1: -(2 ^ 62)≤lo)(h2:lo < 2 ^ 62)(h3: -(2 ^ 62)≤hi)(h4:hi < 2 ^ 62)
    (q:R (Ab lo (hi - lo).toNat) H):wpAny (model X.prog X.w) X.A (pyIter (.ref s.heap.objs.size)) (Bg X pins σ tg R) E {s with heap:=s.heap.push {cls:=.type "range",data:=.fields #[.int lo t,.int hi u,.int 1 v]},toks:=tk}:=by
  refine wpAny_pyIter_range (IsRange.new ..) (small_one h1 h2 h3 h4) ?_
  have I1:av X pins σ H {s with heap:=s.heap.push {cls:=.type "range",data:=.fields #[.int lo t,.int hi u,.int 1 v]},toks:=tk}:=I.kept fun b o e=>Heap.get?_push_of_some _ e
  refine⟨(s.heap.push {cls:=.type "range",data:=.fields #[.int lo t,.int hi u,.int 1 v]}).objs.size,[(s.heap.push {cls:=.type "range",data:=.fields #[.int lo t,.int hi u,.int 1 v]}).objs.size],_,_,H,rfl,
    I1.kept (t':=tk) fun b o e=>Heap.get?_push_of_some _ e,ny _ lo (hi - lo).toNat,?_,fun b hb=>?_,q⟩
  · have e1:lo+((0:Nat):Int)*1=lo:=by simp
    have e2:(((hi - lo).toNat:Nat):Int) - ((0:Nat):Int)=Builtin.Range.rangeSize lo hi 1:=by rw [rangeSize_one];split<;>lia
    show IsRangeIter _ _ (lo+((0:Nat):Int)*1) ((((hi - lo).toNat:Nat):Int) - ((0:Nat):Int)) 1
    rw [e1,e2]
    exact Heap.get?_push_size _ rfl
  · have e:b=(s.heap.push {cls:=.type "range",data:=.fields #[.int lo t,.int hi u,.int 1 v]}).objs.size:=by simpa using hb
    subst e
    exact I1.fpOk (Nat.le_refl _) (I1.hok.fresh (Nat.le_refl _))
def y3(ta:TA):TI:=fun σ H R=>ta σ H fun vs H1=>∃j:Int,vs=[.int j]∧ -(2 ^ 62)≤j∧j < 2 ^ 62∧R (Ab 0 j.toNat) H1
theorem pD{a:Expr}{ta:TA}{p pos:Pos}(hg:Gl X "range")(hm:X.mg "range"=none)(ha:PA X [a] ta)(hs:starEach [a] X.env=[(false,eval a X.env)]:=by rfl):PI X tg (.Call (.Name "range" p) [a] [] pos) (y3 ta):=by
  intro pins s σ H R I h
  refine Call_ (fX I hg hm boot_range (PyProof.Rows.callWith_type1 (bz (ha pos pins s σ H _ I h) fun us s1 ⟨vs,H1,I1,r1,q1⟩=>?_) hs rfl))
  obtain⟨j,e,q1,q2,q⟩:=q1
  subst e
  cases r1 with
  | cons r rr=>
    cases rr
    obtain⟨t,rfl⟩:=r
    exact call_range_1 (rS I1 (by lia) (by lia) q1 q2 (by simpa using q))
def A0(wi:TI)(g:TG)(tb:TS):TS:=fun D σ H=>wi σ H fun J H1=>∃W:Nat→Nat→St→Hp→Prop,(∃m,W 0 m σ H1)∧∀i m σ H,W i m σ H→
  (J.stop i H∧D.nx σ H)∨(J.go i H∧∃N:St→Hp→Prop,(∀σ' H',N σ' H'→∃m',m' < m∧W (i+1) m' σ' H')∧∀x H',J.yld i H x H'→g x σ H' fun σ2 H2=>tb {D with nx:=N,ct:=N,bk:=D.nx} σ2 H2)
def eX(fp:List Addr)(h:Heap):List (Addr × Obj):=fp.filterMap fun b=>(h.get? b).map fun o=>(b,o)
theorem bc{fp:List Addr}{h:Heap}{b:Addr}{o:Obj}(hb:b∈fp)(e:h.get? b=some o):(b,o)∈eX fp h:=List.mem_filterMap.mpr ⟨b,hb,by rw [e];rfl⟩
theorem pz{fp:List Addr}{h:Heap}{p:Addr × Obj}(hp:p∈eX fp h):p.1∈fp∧h.get? p.1=some p.2:=by
  obtain⟨b,hb,e⟩:=List.mem_filterMap.mp hp
  cases q:h.get? b with
  | none=>rw [q] at e;cases e
  | some o=>
    rw [q] at e
    have e':(b,o)=p:=Option.some.inj e
    subst e'
    exact⟨hb,q⟩
theorem av.pinned{pins:List (Addr × Obj)}{σ:St}{H:Hp}{s:Shared}{fp:List Addr}(I:av X pins σ H s)(hf:∀b∈fp,dY X pins H b)(ho:∀b∈fp,∃o,s.heap.get? b=some o∧∀v,o.data≠.cell v):av X (pins++eX fp s.heap) σ H s:=
  I.pins_of fun p hp=>(List.mem_append.mp hp).elim (fun z=>I.pin p (List.mem_append_right _ z)) fun z=>by
    obtain⟨hb,e⟩:=pz z
    obtain⟨f0,f1,f2,_⟩:=hf p.1 hb
    obtain⟨o,e',d⟩:=ho p.1 hb
    rw [e] at e';cases e'
    exact⟨e,f0,f1,f2,d⟩
theorem av.unpinned{pins pl:List (Addr × Obj)}{σ:St}{H:Hp}{s:Shared}(I:av X (pins++pl) σ H s):av X pins σ H s:=I.pins_of fun p hp=>I.pin p (List.mem_append_right _ (List.mem_append_left _ hp))
theorem xG{iter:Expr}{body:List Stmt}{wi:TI}{g:TG}{tb:TS}{pos:Pos}(hp:PassesOwn (model X.prog X.w) X.A X.env X.xe)(hc:X.calm=true)(hi:PI X tg iter wi)(hg:PG X tg g)(hb:iB X body tb)
    (hs:∀x,foldedSetIterable iter X.env x=pure x:=by intro _;rfl):PS X (.For tg iter body [] pos) (A0 wi g tb):=by
  intro pins s σ H D I h
  refine wpAny_For (bz (hi pins s σ H _ I h) fun v s1 h1=>bz h1 fun itv s2 h2=>?_) hs
  obtain⟨it,fp,tn,J,H2,e,I2,T,st2,f2,W,⟨m0,w0⟩,turn⟩:=h2
  subst e
  have stat:∀{H':Hp},(∀b∈fp,H' b=none)→∀b∈fp,dY X pins H' b:=fun hn b hb=>⟨hn b hb,(f2 b hb).2⟩
  refine codeAny_forLoop_any (fun n s'=>∃i σ' H',av X pins σ' H' s'∧tn i s'.heap∧(∀b∈fp,H' b=none)∧W i n σ' H') ?_ m0 ⟨0,σ,H2,I2,st2,fun b hb=>(f2 b hb).1,w0⟩
  rintro n s3 ⟨i,σ3,H3,I3,st3,fr3,w3⟩
  rcases turn i n σ3 H3 w3 with ⟨stop,qn⟩ | ⟨go,N,hN,step⟩
  · refine wpAny_passesOwn hp (bz (T.done X rfl rfl rfl hc i pins s3 σ3 H3 X.xe I3 (stat fr3) st3 stop) fun r s4 ⟨hr,I4⟩=>?_)
    subst hr
    exact wpAny_execs_nil ⟨σ3,H3,I4,qn⟩
  · refine wpAny_passesOwn hp (bz (T.item X rfl rfl rfl hc i pins s3 σ3 H3 X.xe I3 (stat fr3) st3 go) fun r s4 ⟨u,hr,h4⟩=>?_)
    subst hr
    refine wpAny_passesOwn hp (bz h4 fun _ s5 ⟨x,H5,I5,r5,y5,st5,fr5⟩=>?_)
    have I5':=I5.pinned (stat fr5) (T.obj _ _ st5)
    refine wpAny_passesOwn hp (bz (hg _ s5 σ3 H5 x u _ I5' r5 (step x H5 y5)) fun _ s6 ⟨σ6,H6,I6,q6⟩=>?_)
    refine wpAny_passesOwn hp (bz (hb _ s6 σ6 H6 _ I6 q6) fun f s7 q7=>?_)
    have again:∀{σ7:St} {H7:Hp},av X (pins++eX fp s5.heap) σ7 H7 s7→N σ7 H7→∃m,m < n∧∃i σ' H',av X pins σ' H' s7∧tn i s7.heap∧(∀b∈fp,H' b=none)∧W i m σ' H':=fun{σ7 H7} I7 n7=>by
      obtain⟨m',hm,w7⟩:=hN σ7 H7 n7
      refine⟨m',hm,i+1,σ7,H7,I7.unpinned,T.keep _ _ _ st5 fun b hb o e=>(I7.pin (b,o) (List.mem_append_right _ (List.mem_append_right _ (bc hb e)))).1,fun b hb=>?_,w7⟩
      obtain⟨o,e,d⟩:=T.obj _ _ st5 b hb
      exact(I7.pin (b,o) (List.mem_append_right _ (List.mem_append_right _ (bc hb e)))).2.1
    cases f with
    | next=>obtain⟨σ7,H7,I7,n7⟩:=q7;exact again I7 n7
    | cont=>obtain⟨σ7,H7,I7,n7⟩:=q7;exact again I7 n7
    | brk=>obtain⟨σ7,H7,I7,q7⟩:=q7;exact⟨σ7,H7,I7.unpinned,q7⟩
    | ret v=>obtain⟨x7,σ7,H7,I7,r7,q7⟩:=q7;exact⟨x7,σ7,H7,I7.unpinned,r7,q7⟩
end
end L2
namespace L2
open PySem PySem.Spec PyProof.Rows
abbrev R2:=V→V→Hp→VK→Prop
def eJ(X:Cx)(f:Value→Value→Sem Value)(r:R2):Prop:=
  ∀(pins:List (Addr × Obj)) (s:Shared) (σ:St) (H:Hp) (x y:V) (v u:Value) (Q:VK),av X pins σ H s→aZ x v→aZ y u→r x y H Q→
    wpAny (model X.prog X.w) X.A (f v u) (EP X pins σ Q) X.xe s
def dG(X:Cx)(f:Value)(r:List V→Hp→VK→Prop):Prop:=
  ∀(pins:List (Addr × Obj)) (s:Shared) (σ:St) (H:Hp) (xs:List V) (us:List Value) (Q:VK),av X pins σ H s→aC xs us→r xs H Q→
    wpAny (model X.prog X.w) X.A (call f us) (EP X pins σ Q) X.xe s
def zU(r:R2)(ta tb:TE):TE:=fun σ H Q=>ta σ H fun x H1=>tb σ H1 fun y H2=>r x y H2 Q
def BR(r:V→Hp→VK→Prop)(ta:TE):TE:=fun σ H Q=>ta σ H fun x H1=>r x H1 Q
def rI(C:Int→Int→Prop)(g:Int→Int→V):R2:=fun x y H Q=>∃i j,x=.int i∧y=.int j∧C i j∧Q (g i j) H
def pH(g:Int→Int→V):R2:=fun x y H Q=>∃i j,x=.int i∧y=.int j∧Q (g i j) H
section
variable{X:Cx}{a b c:Expr}{ta tb tc:TE}{pos:Pos}
theorem wj(ha:PE X a ta)(hb:PE X b tb){pins:List (Addr × Obj)}{s:Shared}{σ:St}{H:Hp}{R:V→V→Hp→Prop}(I:av X pins σ H s)
    (h:ta σ H fun x H1=>tb σ H1 fun y H2=>R x y H2){Q:Value→Shared→Prop}{f:Value→Value→Sem Value}
    (hf:∀v u s2 x y H2,av X pins σ H2 s2→aZ x v→aZ y u→R x y H2→wpAny (model X.prog X.w) X.A (f v u) Q X.xe s2):
    wpAny (model X.prog X.w) X.A (eval a X.env) (fun v s₁=>wpAny (model X.prog X.w) X.A (eval b X.env) (fun u s₂=>wpAny (model X.prog X.w) X.A (f v u) Q X.xe s₂) X.xe s₁) X.xe s:=by
  refine bz (ha pins s σ H _ I h) fun v s1 ⟨x,H1,I1,r1,q1⟩=>?_
  refine bz (hb pins s1 σ H1 _ I1 q1) fun u s2 ⟨y,H2,I2,r2,q2⟩=>?_
  exact hf v u s2 x y H2 I2 r1 r2 q2
theorem zv{op:Operator}{r:R2}(ho:eJ X (binaryOp op) r)(ha:PE X a ta)(hb:PE X b tb):PE X (.BinOp a op b pos) (zU r ta tb):=by
  intro pins s σ H Q I h
  exact wpAny_BinOp (wj ha hb I h fun v u s2 x y H2 I2 rx ry q=>ho pins s2 σ H2 x y v u Q I2 rx ry q)
theorem yB{f:Value→Value→Sem Value}{C:Int→Int→Prop}{g:Int→Int→Int}
    (rule:∀(i j:Int) (t u:Tok) (s:Shared) (Q:Value→Shared→Prop) (E:Value→Shared→Prop),C i j→Q (.int (g i j) s.toks) {s with toks:=s.toks+1}→wpAny (model X.prog X.w) X.A (f (.int i t) (.int j u)) Q E s):
    eJ X f (rI C fun i j=>.int (g i j)):=by
  intro pins s σ H x y v u Q I rx ry h
  obtain⟨i,j,rfl,rfl,hc,q⟩:=h
  obtain⟨t,rfl⟩:=rx
  obtain⟨t',rfl⟩:=ry
  exact rule i j t t' s _ _ hc ⟨.int (g i j),H,I.tok _,⟨_,rfl⟩,q⟩
theorem zo{f:Value→Value→Sem Value}{g:Int→Int→Int}
    (rule:∀(i j:Int) (t u:Tok) (s:Shared) (Q:Value→Shared→Prop) (E:Value→Shared→Prop),Q (.int (g i j) s.toks) {s with toks:=s.toks+1}→wpAny (model X.prog X.w) X.A (f (.int i t) (.int j u)) Q E s):
    eJ X f (pH fun i j=>.int (g i j)):=by
  intro pins s σ H x y v u Q I rx ry h
  obtain⟨i,j,rfl,rfl,q⟩:=h
  obtain⟨t,rfl⟩:=rx
  obtain⟨t',rfl⟩:=ry
  exact rule i j t t' s _ _ ⟨.int (g i j),H,I.tok _,⟨_,rfl⟩,q⟩
theorem xc{f:Value→Value→Sem Value}{g:Int→Int→Bool}
    (rule:∀(i j:Int) (t u:Tok) (s:Shared) (Q:Value→Shared→Prop) (E:Value→Shared→Prop),Q (.bool (g i j)) s→wpAny (model X.prog X.w) X.A (f (.int i t) (.int j u)) Q E s):
    eJ X f (pH fun i j=>.bl (g i j)):=by
  intro pins s σ H x y v u Q I rx ry h
  obtain⟨i,j,rfl,rfl,q⟩:=h
  obtain⟨t,rfl⟩:=rx
  obtain⟨t',rfl⟩:=ry
  exact rule i j t t' s _ _ ⟨.bl (g i j),H,I,rfl,q⟩
def pV(i j:Int):Prop:=0≤j∧j≤1000000∧i.natAbs < 2 ^ 64
def sG(i j:Int):Prop:=(-(2 ^ 64) < i∧i < 2 ^ 64)∨(-(2 ^ 64) < j∧j < 2 ^ 64)
theorem sG.ok{i j:Int}(h:sG i j):IntMulOk i j:=by
  rcases h with ⟨h1,h2⟩ | ⟨h1,h2⟩
  · exact .of_left (intBits_le_64 h1 h2)
  · exact .of_right (intBits_le_64 h1 h2)
theorem xf:eJ X (binaryOp .Add) (pH fun i j=>.int (i+j)):=zo fun _ _ _ _ _ _ _ q=>add_int q
theorem xw:eJ X (binaryOp .Sub) (pH fun i j=>.int (i - j)):=zo fun _ _ _ _ _ _ _ q=>sub_int q
theorem xo:eJ X (binaryOp .Mult) (rI sG fun i j=>.int (i*j)):=yB fun _ _ _ _ _ _ _ hc q=>mul_int q hc.ok
theorem tR:eJ X (binaryOp .Mod) (rI (fun _ j=>j≠0) fun i j=>.int (i.fmod j)):=yB fun _ _ _ _ _ _ _ hc q=>mod_int' hc q
theorem xr:eJ X (binaryOp .Pow) (rI pV fun i j=>.int (i ^ j.toNat)):=yB fun _ _ _ _ _ _ _ hc q=>pow_int_small hc.1 hc.2.1 hc.2.2 q
theorem xu:eJ X (binaryOp .LShift) (rI pV fun i j=>.int (i*2 ^ j.toNat)):=yB fun _ _ _ _ _ _ _ hc q=>lshift_int_small hc.1 hc.2.1 hc.2.2 q
end
section
variable{X:Cx}{a b c:Expr}{ta tb tc:TE}{pos:Pos}
theorem wz{pins:List (Addr × Obj)}{σ:St}{H:Hp}{s:Shared}{Q:VK}{k k':Bool}(I:av X pins σ H s)(q:Q (.bl k) H)(e:k=k'):EP X pins σ Q (.bool k') s:=by
  subst e
  exact⟨.bl k,H,I,rfl,q⟩
theorem zr:eJ X (compareOp .Lt) (pH fun i j=>.bl (decide (i < j))):=xc fun _ _ _ _ _ _ _ q=>lt_int q
theorem zq:eJ X (compareOp .Gt) (pH fun i j=>.bl (decide (j < i))):=xc fun _ _ _ _ _ _ _ q=>gt_int q
theorem zp:eJ X (compareOp .GtE) (pH fun i j=>.bl (decide (j≤i))):=xc fun _ _ _ _ _ _ _ q=>ge_int q
theorem xn:eJ X (compareOp .Is) (fun x y H Q=>y=.non∧Q (.bl (decide (x=.non))) H):=by
  intro pins s σ H x y v u Q I rx ry h
  obtain⟨rfl,q⟩:=h
  cases ry
  refine is_none_gen (wz I q ?_)
  cases x<;>first
    | (cases rx;rfl)
    | (obtain⟨t,rfl⟩:=rx;rfl)
theorem eJ.or{f:Value→Value→Sem Value}{r r':R2}(h:eJ X f r)(h':eJ X f r'):eJ X f (fun x y H Q=>r x y H Q∨r' x y H Q):=by
  intro pins s σ H x y v u Q I rx ry q
  rcases q with q | q
  · exact h pins s σ H x y v u Q I rx ry q
  · exact h' pins s σ H x y v u Q I rx ry q
theorem bg(b:Expr){op:CmpOp}(h:op≠.In:=by decide)(h2:op≠.NotIn:=by decide):behindInMarks op b=false:=by
  have e1:(op==CmpOp.In)=false:=by cases op<;>first | rfl | exact absurd rfl h
  have e2:(op==CmpOp.NotIn)=false:=by cases op<;>first | rfl | exact absurd rfl h2
  cases b<;>simp [behindInMarks,e1,e2]
theorem tX{op:CmpOp}{r:R2}(ho:eJ X (compareOp op) r)(ha:PE X a ta)(hb:PE X b tb)(hm:behindInMarks op b=false):PE X (.Compare a [op] [b] pos) (zU r ta tb):=by
  intro pins s σ H Q I h
  exact wpAny_Compare1 (wj ha hb I h fun v u s2 x y H2 I2 rx ry q=>ho pins s2 σ H2 x y v u Q I2 rx ry q) hm
def zW(t:TE):TT:=fun σ H Q=>t σ H fun x H'=>∃k,x=.bl k∧Q k H'
theorem uk{op:CmpOp}{r:R2}(ho:eJ X (compareOp op) r)(ha:PE X a ta)(hb:PE X b tb)(hm:behindInMarks op b=false):PT X (.Compare a [op] [b] pos) (zW (zU r ta tb)):=by
  intro pins s σ H Q I h
  refine wpAny_isTrue_Compare1 (bz (ha pins s σ H _ I h) fun v s1 ⟨x,H1,I1,r1,q1⟩=>bz (hb pins s1 σ H1 _ I1 q1) fun u s2 ⟨y,H2,I2,r2,q2⟩=>
    bz (ho pins s2 σ H2 x y v u _ I2 r1 r2 q2) fun c s3 ⟨z,H3,I3,r3,k,e,q3⟩=>?_) hm
  subst e
  cases r3
  exact wpAny_truthy_bool ⟨H3,I3,q3⟩
theorem m5:(sizeLine:Nat) < 2 ^ 63:=by rw [sizeLine_eq];decide
theorem mC{x:V}{us:List Value}(r:aC [x] us):∃u,us=[u]∧aZ x u:=by
  cases r with
  | cons r1 r2=>cases r2;exact⟨_,rfl,r1⟩
theorem vU{x y:V}{us:List Value}(r:aC [x,y] us):∃u w',us=[u,w']∧aZ x u∧aZ y w':=by
  cases r with
  | cons r1 r2=>
    cases r2 with
    | cons r3 r4=>cases r4;exact⟨_,_,rfl,r1,r3⟩
theorem p_:dG X (.builtin "abs") (fun xs H Q=>∃i,xs=[.int i]∧Q (.int (if i < 0 then -i else i)) H):=by
  intro pins s σ H xs us Q I r h
  obtain⟨i,rfl,q⟩:=h
  obtain⟨u,rfl,t,rfl⟩:=mC r
  exact call_abs_int fun u tk=>⟨.int (if i < 0 then -i else i),H,I.tok _,⟨_,rfl⟩,q⟩
theorem oR(hc:X.calm=true):dG X (.builtin "max") (fun xs H Q=>∃i j,xs=[.int i,.int j]∧Q (.int (if j > i then j else i)) H):=by
  intro pins s σ H xs us Q I r h
  obtain⟨i,j,rfl,q⟩:=h
  obtain⟨u,w',rfl,⟨t,rfl⟩,⟨t',rfl⟩⟩:=vU r
  refine max_two_ints (I.ok.hd hc) fun h' tk k=>⟨_,H,I.kept k,?_,q⟩
  by_cases hj:j > i
  · rw [if_pos hj,if_pos hj];exact⟨_,rfl⟩
  · rw [if_neg hj,if_neg hj];exact⟨_,rfl⟩
theorem oS(hc:X.calm=true):dG X (.builtin "min") (fun xs H Q=>∃i j,xs=[.int i,.int j]∧Q (.int (if j < i then j else i)) H):=by
  intro pins s σ H xs us Q I r h
  obtain⟨i,j,rfl,q⟩:=h
  obtain⟨u,w',rfl,⟨t,rfl⟩,⟨t',rfl⟩⟩:=vU r
  refine min_two_ints (I.ok.hd hc) fun h' tk k=>⟨_,H,I.kept k,?_,q⟩
  by_cases hj:j < i
  · rw [if_pos hj,if_pos hj];exact⟨_,rfl⟩
  · rw [if_neg hj,if_neg hj];exact⟨_,rfl⟩
theorem oQ:dG X (.type "int") (fun xs H Q=>(∃i,xs=[.int i]∧Q (.int i) H)∨∃k,xs=[.bl k]∧Q (.int (if k then 1 else 0)) H):=by
  intro pins s σ H xs us Q I r h
  rcases h with ⟨i,rfl,q⟩ | ⟨k,rfl,q⟩
  · obtain⟨u,rfl,t,rfl⟩:=mC r
    exact call_int_int ⟨.int i,H,I,⟨_,rfl⟩,q⟩
  · obtain⟨u,rfl,r1⟩:=mC r
    cases r1
    exact call_int_bool ⟨.int (if k then 1 else 0),H,I.tok _,⟨_,rfl⟩,q⟩
end
end L2
namespace L2
open PySem PySem.Spec PyProof.Rows
structure Bz (h:Heap) (x dx C:Addr) (mA:Str→Option Value):Prop where
  obj:h.get? x=some (PySem.W.instObj C dx)
  ns:h.Ns1 dx mA
  ne:dx≠x
section
variable{prog:Program}{w:World}{A:Around}{E:Value→Shared→Prop}{s:Shared}{K:PySem.W.Frag}{x dx C f:Addr}{mA:Str→Option Value}{name:Str}{v:Value}
end
theorem li.some_of{v:V}{o:Option Value}(r:li (some v) o):∃u,o=some u∧aZ v u:=by
  cases o with
  | none=>exact(show False from r).elim
  | some u=>exact⟨u,rfl,r⟩
section
variable{P:Program}{w:World}{H H':Hp}{h h':Heap}{a C dx:Addr}{fs fs':List (Str × V)}
end
structure Bu (K:PySem.W.Frag) (C:Addr):Prop where
  pg:PySem.W.plainGet K C Str.empty=true
  hd:PySem.W.hasDictIn K C=true
  po:PySem.W.plainOver K C=true
  sa:PySem.W.findIn K (.ref C) "__setattr__"=some (some (.builtin "object.__setattr__"))
structure BS (K:PySem.W.Frag) (C:Addr) (f:Str) (v:V) (u:Value):Prop where
  at_:PySem.W.findIn K (.ref C) f=some (some u)
  rel:aZ v u
  get:PySem.W.specialIn K u "__get__"=some none
  cp:PySem.W.copiedNames.contains f=false
structure By (K:PySem.W.Frag) (C:Addr) (m:Str) (f:Addr):Prop where
  at_:PySem.W.findIn K (.ref C) m=some (some (.ref f))
  fn:PySem.W.isFn K (.ref f)=true
  kp:PySem.W.keepIn K (.ref f)=true
section
variable{X:Cx}{pins:List (Addr × Obj)}{σ:St}{H:Hp}{s:Shared}{a C dx:Addr}{fs:List (Str × V)}{f:Str}{v:V}{A:Around}{E:Value→Shared→Prop}
end
section
variable{X:Cx}{o e value:Expr}{f:Str}{pos pos' tpos:Pos}{ta tv:TE}
end
section
variable{X:Cx}{pins:List (Addr × Obj)}{σ:St}{H:Hp}{s:Shared}{A:Around}{E:Value→Shared→Prop}{Q:Value→Shared→Prop}{c:Value}{b:Bool}
inductive iM (K:PySem.W.Frag) (H:Hp):V→Value→Prop where
  | non:iM K H .non (.type "NoneType")
  | bl (x:Bool):iM K H (.bl x) (.type "bool")
  | int (i:Int):iM K H (.int i) (.type "int")
  | str (x:Str):iM K H (.str x) (.type "str")
  | flt (x:UInt64):iM K H (.flt x) (.type "float")
  | lst {a:Addr} {xs:List V} (e:H a=some (.lst xs)):iM K H (.ref a) (.type "list")
  | frz {a:Addr} {o:Obj} {xs:List V} (e:H a=some (.frz o (.lst xs))):iM K H (.ref a) (.type "list")
  | tup {a:Addr} {xs:List V} (e:H a=some (.tup xs)):iM K H (.ref a) (.type "tuple")
  | dK {a:Addr} {kvs:List (dB × V)} (e:H a=some (.dK kvs)):iM K H (.ref a) (.type "dict")
  | dT {a:Addr} {kvs:List (List dB × V)} (e:H a=some (.dT kvs)):iM K H (.ref a) (.type "dict")
  | ins {a C dx:Addr} {fs:List (Str × V)} (e:H a=some (.ins C dx fs)) (cl:Bu K C) (ha:PySem.W.findIn K (.ref C) "__class__"=some (some (.builtin "object.__class__")))
      (hn:PySem.W.specialIn K (.builtin "object.__class__") "__get__"=some (some (.builtin "getset_descriptor.__get__"))) (htk:PySem.W.takesIn K (.builtin "object.__class__")=some true)
      (hm:PySem.W.mroIn K C (.type "object")=some true):iM K H (.ref a) (.ref C)
end
end L2
namespace L2
open PySem PySem.Spec PyProof.Rows
structure cF (k:Nat) (A:Around):Prop where
  hd:A.handled=none
  dp:A.depth+3*k+5 < recursionLimit
  un:A.units+16*k+200 < cLine
  gd:A.guards=some []
theorem cF.mono{j k:Nat}{A:Around}(r:cF k A)(h:j≤k):cF j A:=⟨r.hd,by have:=r.dp;lia,by have:=r.un;lia,r.gd⟩
theorem cF.deeper{k:Nat}{A:Around}(r:cF (k+1) A)(env:Env):cF k (A.deeper env):=
  ⟨r.hd,by have:=r.dp;show A.depth+1+3*k+5 < _;lia,by have:=r.un;show A.units+3+16*k+200 < _;lia,r.gd⟩
theorem cF.depth{k:Nat}{A:Around}(r:cF k A):A.depth < recursionLimit:=by have:=r.dp;lia
theorem cF.units{k:Nat}{A:Around}(r:cF k A):A.units+64 < cLine:=by have:=r.un;lia
def yf:TA:=fun _ H Q=>Q [] H
def ms(ta:TE)(tr:TA):TA:=fun σ H Q=>ta σ H fun x H1=>tr σ H1 fun xs H2=>Q (x::xs) H2
section
variable{X:Cx}{e:Expr}{es:List Expr}{te:TE}{t:TA}{pos:Pos}
theorem jb:PA X [] yf:=fun _ _ _ _ H Q I h=>Calls.spliced_nil ⟨[],H,I,.nil,h⟩
theorem kW(ha:PE X e te)(hr:PA X es t)(hs:starEach (e::es) X.env=(false,eval e X.env)::starEach es X.env:=by rfl):PA X (e::es) (ms te t):=by
  intro pos pins s σ H Q I h
  rw [hs]
  show wpAny _ _ (spliced ((false,eval e X.env)::backTo pos (starEach es X.env))) _ _ s
  refine Calls.spliced_cons (bz (ha pins s σ H _ I h) fun u s1 ⟨x,H1,I1,r1,q1⟩=>?_)
  exact bz (hr pos pins s1 σ H1 _ I1 q1) fun us s2 ⟨xs,H2,I2,r2,q2⟩=>⟨x::xs,H2,I2,.cons r1 r2,q2⟩
def zX(t:TA):TE:=fun σ H Q=>t σ H fun xs H1=>xs.length≤sizeLine∧∀p,H1 p=none→Q (.ref p) (aQ H1 p (.tup xs))
def A6(t:TA):TE:=fun σ H Q=>t σ H fun xs H1=>xs.length≤sizeLine∧∀p,H1 p=none→Q (.ref p) (aQ H1 p (.lst xs))
theorem xB{x1}(h:PA X es t):PE X (.Tuple es x1 pos) (zX t):=by
  intro pins s σ H Q I hq
  refine wpAny_Tuple_spliced (bz (h pos pins s σ H _ I hq) fun us s1 ⟨xs,H1,I1,r,z,q⟩=>⟨by rw [←r.length];exact z,?_⟩)
  have hf:H1 s1.heap.objs.size=none:=I1.hok.fresh (Nat.le_refl _)
  refine⟨.ref s1.heap.objs.size,aQ H1 s1.heap.objs.size (.tup xs),I1.laid (t':=s1.toks) (fun b u e=>Heap.get?_push_of_some _ e) (Nat.le_refl _) ?_,rfl,q _ hf⟩
  exact⟨z,us,r,⟨_,Heap.get?_push_size _ rfl,rfl,_,rfl,rfl⟩⟩
theorem q_(h:PA X es t):PE X (.List es pos) (A6 t):=by
  intro pins s σ H Q I hq
  refine wpAny_List_spliced (bz (h pos pins s σ H _ I hq) fun us s1 ⟨xs,H1,I1,r,z,q⟩=>⟨by rw [←r.length];exact z,?_⟩)
  have hf:H1 s1.heap.objs.size=none:=I1.hok.fresh (Nat.le_refl _)
  refine⟨.ref s1.heap.objs.size,aQ H1 s1.heap.objs.size (.lst xs),I1.laid (t':=s1.toks) (fun b u e=>Heap.get?_push_of_some _ e) (Nat.le_refl _) ?_,rfl,q _ hf⟩
  exact⟨z,us,0,r,Heap.get?_push_size _ rfl⟩
end
abbrev Sp:=List V→Hp→VK→XK→Prop
abbrev oP:=List Env→Hp→Shared→XK→Value→Shared→Prop
structure sI (P:Program) (w:World) (K:PySem.W.Frag) (mg:Str→Option Value) (base:Heap) (A:Around) (outer:List Env) (s:Shared) (H:Hp):Prop where
  frames:A.frames=some outer
  mod:Mod K mg base
  bs:∀b o,base.get? b=some o→s.heap.get? b=some o∧H b=none
  bsz:base.objs.size≤s.heap.objs.size
  funs:s.heap.FunFrames base outer
  frf:∀b∈qi outer,H b=none
  hok:gR P w H s.heap
  bare:AllBare s.gens
def CE(outer:List Env)(P:Program)(w:World)(H:Hp)(s:Shared)(Q:VK)(u:Value)(s':Shared):Prop:=
  ∃v H',s'.os=s.os∧AllBare s'.gens∧Un (qi outer) [] H H' s.heap s'.heap∧gR P w H' s'.heap∧aZ v u∧Q v H'
def CR(CX:oP)(outer:List Env)(P:Program)(w:World)(H:Hp)(s:Shared)(Q:VK)(E:XK)(r:Result)(s':Shared):Prop:=
  match r with
  | .ok (.ret u)=>CE outer P w H s Q u s'
  | .ok _=>False
  | .error e=>CX outer H s E e s'
structure a' (P:Program) (w:World) (K:PySem.W.Frag) (mg:Str→Option Value) (base:Heap) (CX:oP) (k:Nat) (f:Addr) (fd:FuncData) (ps:List Str) (sp:Sp):Prop where
  len:∀vs H Q E,sp vs H Q E→vs.length=ps.length
  run:∀(A:Around) (outer:List Env) (s:Shared) (H:Hp) (args:Args) (us:List Value) (vs:List V) (Q:VK) (E:XK),cF k A→sI P w K mg base A outer s H→BindsTo s fd args (ps.zip us)→aC vs us→sp vs H Q E→
    codeAny (model P w) A (.call (.ref f) args) (CR CX outer P w H s Q E) s
section
variable{X:Cx}{pins:List (Addr × Obj)}{σ:St}{H:Hp}{s s':Shared}
theorem av.env0(I:av X pins σ H s):sI X.prog X.w X.K X.mg X.base X.A X.stack s H:=
  ⟨I.ok.frames,I.ok.mod,I.bs,Nat.le_trans I.ok.bsz I.sz,I.stack,I.stkFree,I.hok,I.bare⟩
theorem av.after{Q:VK}{u:Value}(I:av X pins σ H s)(h:CE X.stack X.prog X.w H s Q u s'):EP X pins σ Q u s':=by
  obtain⟨v,H',os,bare,un,hok,r,q⟩:=h
  obtain⟨hh,g,d,t,os'⟩:=s'
  obtain rfl:os'=s.os:=os
  exact⟨v,H',I.call (h':=hh) (g':=g) (d':=d) (t':=t) (ch:=[]) un hok bare (fun b z=>absurd z (by simp)),r,q⟩
end
def sd(sp:Sp)(dvs:List V)(E:XK)(t:TA):TE:=fun σ H Q=>t σ H fun vs H1=>sp (vs++dvs) H1 Q E
def jL(K:PySem.W.Frag)(fd:FuncData)(ps:List Str)(ds:List Value):Prop:=
  ∀(s:Shared) (us:List Value),K.In s.heap→(us++ds).length=ps.length→BindsTo s fd ⟨us,[]⟩ (ps.zip (us++ds))
theorem jL.all{K:PySem.W.Frag}{fd:FuncData}{ps:List Str}(h:∀us:List Value,us.length=ps.length→bindArgs fd ⟨us,[]⟩=pure (ps.zip us)):jL K fd ps []:=fun s us _ hl=>by
  rw [List.append_nil] at hl ⊢
  exact .of_eq (h us hl)
def mJ(CX:oP)(X:Cx)(E:XK):Prop:=∀(pins:List (Addr × Obj)) (σ:St) (H:Hp) (s:Shared) (e:Value) (s':Shared),av X pins σ H s→CX X.stack H s E e s'→X.xe e s'
section
variable{X:Cx}{CX:oP}{k:Nat}{f C:Addr}{fd:FuncData}{ps:List Str}{sp:Sp}{dvs:List V}{ds:List Value}{E:XK}{x m:Str}{p pos apos:Pos}{e o:Expr}{es:List Expr}{ta:TE}{t:TA}
theorem x9{pins:List (Addr × Obj)}{σ:St}{H:Hp}{s:Shared}{Q:VK}{us:List Value}{vs:List V}(F:a' X.prog X.w X.K X.mg X.base CX k f fd ps sp)(hr:cF k X.A)(hb:jL X.K fd ps ds)(hd:aC dvs ds)(hx:mJ CX X E)
    (I:av X pins σ H s)(r:aC vs us)(h:sp (vs++dvs) H Q E):wpAny (model X.prog X.w) X.A (call (.ref f) us) (EP X pins σ Q) X.xe s:=by
  have r2:aC (vs++dvs) (us++ds):=r.append hd
  have hl:(us++ds).length=ps.length:=by rw [←r2.length];exact F.len _ _ _ _ h
  refine wpAny_call (codeAny_mono (F.run X.A X.stack s H ⟨us,[]⟩ (us++ds) (vs++dvs) Q E hr I.env0 (hb s us I.kIn hl) r2 h) fun r s' hq=>?_)
  cases r with
  | error e=>exact hx pins σ H s e s' I hq
  | ok fl=>
    cases fl with
    | ret u=>exact I.after hq
    | next=>exact False.elim hq
    | brk=>exact False.elim hq
    | cont=>exact False.elim hq
theorem tW(F:a' X.prog X.w X.K X.mg X.base CX k f fd ps sp)(hr:cF k X.A)(hg:Gl X x)(hm:X.mg x=some (.ref f))(hk:PySem.W.keepIn X.K (.ref f)=true)(hb:jL X.K fd ps ds)(hd:aC dvs ds)(hx:mJ CX X E)
    (ha:PA X (e::es) t)(hdb:(x==("__debug__":Str))=false:=by decide)(he:starEach (e::es) X.env=(false,eval e X.env)::starEach es X.env:=by rfl)(hpl:(backTo pos (starEach es X.env)).any (·.1)=false:=by rfl):
    PE X (.Call (.Name x p) (e::es) [] pos) (sd sp dvs E t):=by
  intro pins s σ H Q I h
  refine wpAny_Call_Name_kw (tu I hg hm ?_ hdb)
  refine PySem.W.callWith_K (h₀:=X.base) I.ok.mod.kin hk (bz (ha pos pins s σ H _ I h) fun us s1 ⟨vs,H1,I1,r,q⟩=>⟨I1.kIn,?_⟩) he hpl
  exact x9 F hr hb hd hx I1 r q
structure Mk (K:PySem.W.Frag) (C f:Addr):Prop where
  makes:PySem.W.makesIn K C=true
  init:PySem.W.findIn K (.ref C) "__init__"=some (some (.ref f))
  fn:PySem.W.isFn K (.ref f)=true
  kp:PySem.W.keepIn K (.ref C)=true
end
section
variable{X:Cx}{CX:oP}{k:Nat}{f C:Addr}{fd:FuncData}{ps ks:List Str}{sp:Sp}{E:XK}{x m:Str}{p pos apos kpos:Pos}{e o:Expr}{es:List Expr}{kws:List Keyword}{te ta:TE}{t tk:TA}{nm:Option Str}
structure Ao (K:PySem.W.Frag) (fd:FuncData) (ps ks:List Str) (g:List Value→List Value→List Value) (gV:List V→List V→List V):Prop where
  to:∀(s:Shared) (us ws:List Value),K.In s.heap→(g us ws).length=ps.length→BindsTo s fd ⟨us,ks.zip ws⟩ (ps.zip (g us ws))
  rel:∀{vs:List V} {us:List Value} {zs:List V} {ws:List Value},aC vs us→aC zs ws→aC (gV vs zs) (g us ws)
variable{g:List Value→List Value→List Value}{gV:List V→List V→List V}
end
structure aX (N P:List Str) (sc:Scope):Prop where
  kind:sc.kind=.function
  co:sc.isCoroutine=false
  gen:sc.isGenerator=false
  nd:N.Nodup
  pre:N.take P.length=P
  par:∀x∈P,sc.names.lookup x=some .local∨sc.names.lookup x=some .cell
  nofree:∀y∈sc.names,y.2≠.free
theorem jS{kindOf:Str→Option NameKind}{x:Str}:∀{binds:List (Str × Value)} {m:Str→Option Value},(∀v,(x,v)∉binds)→bindL kindOf binds m x=m x
  | [],_,_=>rfl
  | (n,v)::r,m,h=>by
    unfold bindL
    rw [jS fun w hw=>h w (List.mem_cons_of_mem _ hw)]
    split
    · have:x≠n:=by rintro rfl;exact h v List.mem_cons_self
      simp [this]
    · rfl
theorem jQ{kindOf:Str→Option NameKind}{x:Str}:∀{binds:List (Str × Value)} {m:Str→Option Value},(∀v,(x,v)∉binds)→bindC kindOf binds m x=m x
  | [],_,_=>rfl
  | (n,v)::r,m,h=>by
    unfold bindC
    rw [jQ fun w hw=>h w (List.mem_cons_of_mem _ hw)]
    split
    · rfl
    · have:x≠n:=by rintro rfl;exact h v List.mem_cons_self
      simp [this]
theorem jR{kindOf:Str→Option NameKind}{x:Str}{v:Value}:∀{P:List Str} {vs:List Value} {i:Nat} {m:Str→Option Value},P.Nodup→P[i]?=some x→vs[i]?=some v→kindOf x=some .local→
    bindL kindOf (P.zip vs) m x=some v
  | [],_,_,_,_,h,_,_=>by simp at h
  | _::_,[],_,_,_,_,h,_=>by simp at h
  | p::P,w::vs,0,m,nd,h1,h2,hk=>by
    simp at h1 h2;subst h1;subst h2
    show bindL kindOf ((p,w)::P.zip vs) m p=_
    unfold bindL
    rw [jS fun v hv=>(List.nodup_cons.mp nd).1 (List.of_mem_zip hv).1,if_pos hk]
    simp
  | p::P,w::vs,i+1,m,nd,h1,h2,hk=>by
    show bindL kindOf ((p,w)::P.zip vs) m x=_
    unfold bindL
    exact jR (i:=i) (List.nodup_cons.mp nd).2 (by simpa using h1) (by simpa using h2) hk
theorem jP{kindOf:Str→Option NameKind}{x:Str}{v:Value}:∀{P:List Str} {vs:List Value} {i:Nat} {m:Str→Option Value},P.Nodup→P[i]?=some x→vs[i]?=some v→kindOf x≠some .local→
    bindC kindOf (P.zip vs) m x=some v
  | [],_,_,_,_,h,_,_=>by simp at h
  | _::_,[],_,_,_,_,h,_=>by simp at h
  | p::P,w::vs,0,m,nd,h1,h2,hk=>by
    simp at h1 h2;subst h1;subst h2
    show bindC kindOf ((p,w)::P.zip vs) m p=_
    unfold bindC
    rw [jQ fun v hv=>(List.nodup_cons.mp nd).1 (List.of_mem_zip hv).1,if_neg hk]
    simp
  | p::P,w::vs,i+1,m,nd,h1,h2,hk=>by
    show bindC kindOf ((p,w)::P.zip vs) m x=_
    unfold bindC
    exact jP (i:=i) (List.nodup_cons.mp nd).2 (by simpa using h1) (by simpa using h2) hk
def cV(N:List Str)(vs:List V):St:=vs.map some++List.replicate (N.length - vs.length) none
def mR(CX:oP)(P:Program)(w:World)(K:PySem.W.Frag)(mg:Str→Option Value)(base:Heap)(N:List Str)(qual:Str)(scope:Scope)(f:Addr)(cd:Value)(A:Around)(outer:List Env)(s:Shared)(H:Hp)(E:XK):Cx where
  prog:=P
  w:=w
  K:=K
  mg:=mg
  base:=base
  A:=A.deeper (envOfC qual scope s.heap.objs.size f cd)
  N:=N
  s₀:=s
  H₀:=H
  env:=envOfC qual scope s.heap.objs.size f cd
  outer:=outer
  stack:=envOfC qual scope s.heap.objs.size f cd::outer
  ex:=[]
  calm:=true
  fn:=fun _=>true
  pn:=[]
  xe:=fun e s'=>wpAny (model P w) (A.deeper (envOfC qual scope s.heap.objs.size f cd)) (leaving (envOfC qual scope s.heap.objs.size f cd) e) (fun _ s''=>CX outer H s E e s'') (fun e' s''=>CX outer H s E e' s'') s'
theorem ls{sc:Scope}{n:Nat}{x:Str}(h:sc.names.lookup x=some .cell):∃c,(cellsFrom n sc.names []).lookup x=some c:=by
  have q:=PySem.W.cellsFrom_some sc.names n [] (.inl h)
  exact Option.isSome_iff_exists.mp q
theorem pb{CX:oP}{P:Program}{w:World}{K:PySem.W.Frag}{mg:Str→Option Value}{base:Heap}{N ps:List Str}{qual:Str}{scope:Scope}{f:Addr}{cd:Value}{A:Around}{outer:List Env}{s s1:Shared}{H:Hp}{E:XK}{us:List Value}{vs:List V}
    (S:aX N ps scope)(hd:A.handled=none)(e0:sI P w K mg base A outer s H)(hl:vs.length=ps.length)(r:aC vs us)
    (x:InCallC s s.heap.objs.size (bindL (envOfC qual scope s.heap.objs.size f cd).kindOf (ps.zip us) fun _=>none) (cellsFrom (s.heap.objs.size+1) scope.names []) (bindC (envOfC qual scope s.heap.objs.size f cd).kindOf (ps.zip us) fun _=>none) s1):
    av (mR CX P w K mg base N qual scope f cd A outer s H E) [] (cV N vs) H s1:=by
  have hpl:ps.length≤N.length:=by have:=congrArg List.length S.pre;rw [List.length_take] at this;lia
  obtain⟨h1,tk,rfl,hk⟩:=x.done
  have noA:∀b:Addr,b∉(mR CX P w K mg base N qual scope f cd A outer s H E).ex:=fun b z=>absurd (show b∈([]:List Addr) from z) (by simp)
  refine⟨⟨e0.mod,S.kind,rfl,rfl,Nat.le_refl _,fun y z c h1 h2=>?_,fun y hy=>?_,fun y c _ h=>?_,fun _=>hd,Around.frames_deeper e0.frames,.inr ⟨rfl,rfl⟩,fun b z=>absurd z (noA b),e0.bs,e0.bsz,fun b _ _=>noA b,fun b z=>absurd z (noA b),e0.funs,e0.frf⟩,
    rfl,e0.bare,Un.kept hk,⟨_,x.toInCall.ns,fun i y v h1 h2 h3=>?_⟩,fun y c h=>⟨_,x.cell y c h⟩,e0.hok.fresh (Nat.le_refl _),fun y c h=>?_,fun p hp=>absurd (show p∈([]:List (Addr × Obj)) from hp) (by simp),e0.hok.kept hk,?_⟩
  · exact name_of_addr x.apart (PySem.mem_of_lookup h1) (PySem.mem_of_lookup h2)
  · have hy:scope.names.lookup y=some .cell∨scope.names.lookup y=some .free:=hy
    rcases hy with hy | hy
    · exact ls hy
    · exact absurd rfl (S.nofree _ (PySem.mem_of_lookup hy))
  · exact Nat.le_of_lt (x.above y c (PySem.mem_of_lookup h))
  · have hi:i < vs.length:=by
      unfold cV at h2
      by_cases hi:i < vs.length
      · exact hi
      · rw [List.getElem?_append_right (by simpa using hi)] at h2
        rw [List.getElem?_replicate] at h2
        split at h2<;>cases h2
    have ha:vs[i]?=some v:=by
      unfold cV at h2
      rw [List.getElem?_append_left (by simpa using hi),List.getElem?_map] at h2
      cases e:vs[i]? with
      | none=>rw [e] at h2;cases h2
      | some a=>rw [e] at h2;cases h2;rfl
    obtain⟨u,hu,rv⟩:=r.get ha
    have hp:ps[i]?=some y:=by
      rw [←S.pre,List.getElem?_take_of_lt (by lia)];exact h1
    have ndP:ps.Nodup:=by rw [←S.pre];exact S.nd.sublist (List.take_sublist _ _)
    refine⟨u,rv,?_⟩
    rcases S.par y (List.mem_of_getElem? hp) with k | k
    · exact .inl ⟨k,jR ndP hp hu k⟩
    · obtain⟨c,e⟩:=ls (n:=s.heap.objs.size+1) k
      refine .inr ⟨.inl k,c,e,?_⟩
      have q:=x.cell y c e
      rw [jP ndP hp hu (by show scope.names.lookup y≠_;rw [k];decide)] at q
      exact q
  · exact e0.hok.fresh (Nat.le_of_lt (x.above y c (PySem.mem_of_lookup h)))
  · unfold cV
    show _=N.length
    rw [List.length_append,List.length_map,List.length_replicate]
    lia
theorem yX{CX:oP}{P:Program}{w:World}{K:PySem.W.Frag}{mg:Str→Option Value}{base:Heap}{k:Nat}{f:Addr}{name qual:Str}{params:Arguments}{body:List Stmt}{scope:Scope}{dV kV doc pm cdv ct oc:Value}{an od:Option Addr}
    {osl:Array (Option Value)}{N ps:List Str}{sp:Sp}(lk:K.lookup f=some ⟨oc,od,.func (PySem.W.fnOf name qual params body scope dV kV doc pm an cdv ct),osl⟩)(hcd:PySem.W.codeIn K cdv qual=true)(S:aX N ps scope)
    (len:∀vs H Q E,sp vs H Q E→vs.length=ps.length)
    (hbody:∀(A:Around) (outer:List Env) (s:Shared) (H:Hp) (vs:List V) (Q:VK) (E:XK),cF k (A.deeper (envOfC qual scope s.heap.objs.size f cdv))→sp vs H Q E→
      ∃t,iB (mR CX P w K mg base N qual scope f cdv A outer s H E) body t∧t {nx:=fun _ H'=>Q .non H',rt:=Q} (cV N vs) H):
    a' P w K mg base CX (k+1) f (PySem.W.fnOf name qual params body scope dV kV doc pm an cdv ct) ps sp:=by
  refine⟨len,fun A outer s H args us vs Q E hr e0 hb r hsp=>?_⟩
  have hl:=len _ _ _ _ hsp
  have KX:K.In s.heap:=e0.mod.kin.keeps fun b o e=>(e0.bs b o e).1
  have lim:s.heap.NoLimit:=e0.mod.nolimit.keeps fun b o e=>(e0.bs b o e).1
  have hkind:∀y∈ps.zip us,scope.names.lookup y.1=some .local∨(scope.names.lookup y.1=some .cell∧((cellsFrom (s.heap.objs.size+1) scope.names []).lookup y.1).isSome=true):=fun⟨n,v⟩ hy=>by
    rcases S.par n (List.of_mem_zip hy).1 with q | q
    · exact .inl q
    · exact .inr ⟨q,PySem.W.cellsFrom_some _ _ _ (.inl q)⟩
  refine codeAny_call_function hr.depth (KX _ _ lk) rfl S.co S.gen rfl (PySem.W.codeRec_of KX hcd) (hb _ _ _ _ ?_)
  refine wpAny_newFunctionEnv_cells S.kind hkind fun env he s1 x=>?_
  subst he
  refine⟨lim.keeps x.toInCall.keep,codeAny_func ?_⟩
  obtain⟨t,ht,hq⟩:=hbody A outer s H vs Q E (hr.deeper _) hsp
  have I:av (mR CX P w K mg base N qual scope f cdv A outer s H E) [] (cV N vs) H s1:=pb S hr.hd e0 hl r x
  refine wpAny_mono (ht [] s1 (cV N vs) H _ I hq) (fun fl s' hs=>?_) fun e s' hs=>hs
  have fin:∀{σ':St} {H':Hp} {v:V} {u:Value},av (mR CX P w K mg base N qual scope f cdv A outer s H E) [] σ' H' s'→aZ v u→Q v H'→CE outer P w H s Q u s':=
    fun{σ' H' v u} J rv q=>⟨v,H',J.os,J.bare,J.base,J.hok,rv,q⟩
  cases fl with
  | ret u=>
    obtain⟨v,σ',H',J,rv,q⟩:=hs
    exact fin J rv q
  | next=>
    obtain⟨σ',H',J,q⟩:=hs
    exact fin (v:=V.non) (u:=Value.none) J rfl q
  | brk=>
    obtain⟨_,_,_,q⟩:=hs
    exact False.elim q
  | cont=>
    obtain⟨_,_,_,q⟩:=hs
    exact False.elim q
end L2
namespace L2
open PySem PySem.Spec PyProof.Rows
section
variable{X:Cx}{x:Str}{p pos:Pos}{e:Expr}{es:List Expr}{t:TA}{id T:String}{r:List V→Hp→VK→Prop}
def AY(r:List V→Hp→VK→Prop)(t:TA):TE:=fun σ H Q=>t σ H fun vs H1=>r vs H1 Q
theorem lZ(hc:dG X (.builtin id) r)(hg:Gl X x)(hm:X.mg x=none)(hv:bootBuiltins x=some (.builtin id))(ha:PA X (e::es) t)(hn:x≠"__name__":=by decide)(hdb:(x==("__debug__":Str))=false:=by decide)
    (he:starEach (e::es) X.env=(false,eval e X.env)::starEach es X.env:=by rfl)(hpl:(backTo pos (starEach es X.env)).any (·.1)=false:=by rfl):PE X (.Call (.Name x p) (e::es) [] pos) (AY r t):=by
  intro pins s σ H Q I h
  refine wpAny_Call_Name_kw (fX I hg hm hv ?_ hn hdb)
  exact PyProof.Rows.callWith_builtin1 (bz (ha pos pins s σ H _ I h) fun us s1 ⟨vs,H1,I1,r1,q1⟩=>hc pins s1 σ H1 vs us Q I1 r1 q1) he hpl
theorem pB(hc:dG X (.type T) r)(hg:Gl X x)(hm:X.mg x=none)(hv:bootBuiltins x=some (.type T))(ha:PA X (e::es) t)(hn:x≠"__name__":=by decide)(hdb:(x==("__debug__":Str))=false:=by decide)
    (he:starEach (e::es) X.env=(false,eval e X.env)::starEach es X.env:=by rfl)(hpl:(backTo pos (starEach es X.env)).any (·.1)=false:=by rfl):PE X (.Call (.Name x p) (e::es) [] pos) (AY r t):=by
  intro pins s σ H Q I h
  refine wpAny_Call_Name_kw (fX I hg hm hv ?_ hn hdb)
  exact PyProof.Rows.callWith_type1 (bz (ha pos pins s σ H _ I h) fun us s1 ⟨vs,H1,I1,r1,q1⟩=>hc pins s1 σ H1 vs us Q I1 r1 q1) he hpl
end
end L2
namespace HT
open PySem PyProof.Rows
section
open PySem.SeqAt
open PySem.AutoSeq1 (wpAny_loadPart')
open PySem.MeetsSeq PySem.MeetsSeq2 PySem.MeetsSeq3
end
section
variable{prog:Program}{w:World}{A:Around}{E:Value→Shared→Prop}{s:Shared}
theorem cat_tup{t b:Addr}{vs ws:List Value}{Q:Value→Shared→Prop}(ht:IsTup s.heap t vs.toArray)(hb:IsTup s.heap b ws.toArray)(hv:vs≠[])
    (h1:ws=[]→Q (.ref t) s)(h2:ws≠[]→Q (.ref s.heap.objs.size) {s with heap:=s.heap.push {cls:=.type "tuple",data:=.seq (vs++ws).toArray}})
    (hsz:vs.length+ws.length≤sizeLine):wpAny (model prog w) A (binaryOp .Add (.ref t) (.ref b)) Q E s:=by
  obtain⟨⟨cls,dd,data,sl⟩,ho,hc,n,hd⟩:=id ht
  obtain⟨⟨cls2,dd2,data2,sl2⟩,ho2,hc2,n2,hd2⟩:=id hb
  simp only at hc hd hc2 hd2
  subst hc hd hc2 hd2
  have e:vs.toArray++ws.toArray=(vs++ws).toArray:=by simp
  by_cases hw:ws=[]
  · exact concat_meets ⟨_,ho,rfl⟩ ⟨_,ho2,rfl⟩ noFill_tuple_add seq_tuple_add PySem.F.slot_tuple_add PySem.F.entry_tuple_add (PySem.F.args_tuple_add_2 _ _)
      (tuple_addW1 t b vs.toArray ws.toArray n n2 dd dd2 sl sl2 (by simpa using hv) (by simp [hw])) ⟨ho,ho2,h1 hw⟩
  · refine concat_meets ⟨_,ho,rfl⟩ ⟨_,ho2,rfl⟩ noFill_tuple_add seq_tuple_add PySem.F.slot_tuple_add PySem.F.entry_tuple_add (PySem.F.args_tuple_add_2 _ _)
      (tuple_addW2 t b vs.toArray ws.toArray n n2 dd dd2 sl sl2 (by simpa using hv) (by simpa using hw) (by rw [List.size_toArray,List.size_toArray];exact hsz)) ⟨ho,ho2,?_⟩
    rw [e]
    exact h2 hw
def sIx(n d:Nat):Option Int→Nat
  | none=>d
  | some v=>if v < 0 then(v+(n:Int)).toNat else min v.toNat n
theorem x_(n d:Nat)(hd:d≤n)(o:Option Int):sIx n d o≤n:=by
  cases o with
  | none=>exact hd
  | some v=>
    show(if v < 0 then(v+(n:Int)).toNat else min v.toNat n)≤n
    by_cases hv:v < 0
    · rw [if_pos hv];lia
    · rw [if_neg hv];exact Nat.min_le_right _ _
theorem nR(v:Int)(n d:Nat):(if v < 0 then max (v+(n:Int)) 0 else min v (n:Int))=((sIx n d (some v):Nat):Int):=by
  show(if v < 0 then max (v+(n:Int)) 0 else min v (n:Int))=(((if v < 0 then(v+(n:Int)).toNat else min v.toNat n):Nat):Int)
  by_cases hv:v < 0
  · simp only [if_pos hv];lia
  · simp only [if_neg hv];lia
theorem mL(lo hi:Option Int)(n:Nat):Builtin.Slice.sliceAdjust lo hi 1 (n:Int)=(((sIx n 0 lo:Nat):Int),((sIx n n hi:Nat):Int)):=by
  have h1:¬((1:Int) < 0):=by lia
  unfold Builtin.Slice.sliceAdjust
  simp only [h1,if_false]
  refine Prod.ext ?_ ?_
  · cases lo with
    | none=>rfl
    | some v=>exact nR v n 0
  · cases hi with
    | none=>rfl
    | some v=>exact nR v n n
theorem nh(i j:Nat):Builtin.Slice.slicePlaces (i:Int) (j:Int) 1=j - i:=by
  unfold Builtin.Slice.slicePlaces
  have h1:(1:Int) > 0:=by lia
  simp only [h1,if_true,Int.ediv_one]
  split<;>lia
theorem jp{v:Value}{o:Option Int}{Q:Option Int→Shared→Prop}(p:IsPart v o)(h:Q o s):wpAny (model prog w) A (Builtin.Slice.slicePartIndex v) Q E s:=by
  cases p with
  | none=>exact slicePart_none h
  | int i t=>exact slicePart_int h
theorem en{sl:Addr}{vl vu:Value}{lo hi:Option Int}{n:Nat}{Q:Int × Int × Nat→Shared→Prop}(hs:s.heap.IsSliceOf sl vl vu .none)(pl:IsPart vl lo)(pu:IsPart vu hi)
    (h:Q (((sIx n 0 lo:Nat):Int),1,sIx n n hi - sIx n 0 lo) s):wpAny (model prog w) A (Builtin.Slice.sliceApplied (.ref sl) (pure (n:Int))) Q E s:=by
  obtain⟨os,hos,hcs,hds⟩:=id hs
  unfold Builtin.Slice.sliceApplied Builtin.Slice.sliceFields
  refine wpAny_bind (wpAny_bind (wpAny_field hos hds (x:=vl) rfl (wpAny_bind (wpAny_field hos hds (x:=vu) rfl (wpAny_bind (wpAny_field hos hds (x:=.none) rfl (wpAny_pure ?_)))))))
  refine wpAny_bind (slicePart_none ?_)
  show wpAny _ _ (if ((1:Int)==0)=true then _ else _) _ _ s
  rw [if_neg (by decide)]
  refine wpAny_bind (jp pl (wpAny_bind (jp pu (wpAny_bind (wpAny_pure ?_)))))
  show wpAny _ _ (match Builtin.Slice.sliceAdjust lo hi 1 (n:Int) with | (lo,hi)=>pure (lo,(1:Int),Builtin.Slice.slicePlaces lo hi 1)) _ _ s
  rw [mL lo hi n]
  show wpAny _ _ (pure (((sIx n 0 lo:Nat):Int),(1:Int),Builtin.Slice.slicePlaces ((sIx n 0 lo:Nat):Int) ((sIx n n hi:Nat):Int) 1)) _ _ s
  rw [nh]
  exact wpAny_pure h
theorem rm(xs:Array Value)(i k:Nat):((List.range k).filterMap fun(m:Nat)=>xs[((i:Int)+(m:Int)*1).toNat]?).toArray=((xs.toList.drop i).take k).toArray:=by
  have e:(fun(m:Nat)=>xs[((i:Int)+(m:Int)*1).toNat]?)=fun m=>xs[i+m]?:=by
    funext m
    have:((i:Int)+(m:Int)*1).toNat=i+m:=by lia
    rw [this]
  rw [e]
  have:=pick_run xs i k
  rw [List.filterMap_map] at this
  have e2:((fun x=>xs[x]?) ∘ fun x=>i+x)=fun m=>xs[i+m]?:=rfl
  rw [e2] at this
  rw [this]
theorem getItem_tuple_cut{t sl:Addr}{items:Array Value}{vl vu:Value}{lo hi:Option Int}{Q:Value→Shared→Prop}(ht:IsTup s.heap t items)(hs:s.heap.IsSliceOf sl vl vu .none)(pl:IsPart vl lo)(pu:IsPart vu hi)
    (hw:¬(sIx items.size 0 lo=0∧sIx items.size items.size hi=items.size))
    (h:Q (.ref s.heap.objs.size) {s with heap:=s.heap.push {cls:=.type "tuple",data:=.seq ((items.toList.drop (sIx items.size 0 lo)).take (sIx items.size items.size hi - sIx items.size 0 lo)).toArray}})
    (hsz:items.size≤sizeLine):wpAny (model prog w) A (getItem (.ref t) (.ref sl)) Q E s:=by
  have htake:sizeOk (.seq ((items.toList.drop (sIx items.size 0 lo)).take (sIx items.size items.size hi - sIx items.size 0 lo)).toArray):=by
    show((items.toList.drop (sIx items.size 0 lo)).take (sIx items.size items.size hi - sIx items.size 0 lo)).toArray.size≤sizeLine
    rw [List.size_toArray,List.length_take,List.length_drop,Array.length_toList]
    lia
  have hj:sIx items.size items.size hi≤items.size:=x_ _ _ (Nat.le_refl _) hi
  obtain⟨os,hos,hcs,hds⟩:=id hs
  have hTs:s.TypeIs (.ref sl) "slice":=⟨os,hos,hcs⟩
  unfold getItem
  try with_reducible refine wpAny_holding ?_
  first | refine wpAny_bind (wpAny_pure ?_) | skip
  refine wpAny_bind (wpAny_sequenceKey ht.typeIs (by decide) ?_)
  refine wpAny_bind (wpAny_callSpecial?_slot (name:=Str.ofString "__getitem__") ht.typeIs PyProof.Rows.slot_tuple_getitem
    (wpAny_call_entry PyProof.Rows.slot_tuple_getitem ht.typeIs entry_tuple_getitem ?_ (args_tuple_getitem _ _)))
  show wpAny _ _ (Builtin.Tuple.tupleItemsOf (.ref t) >>= _) _ _ s
  refine wpAny_bind (tupleItemsOf_ ht ?_)
  refine wpAny_bind (wpAny_typeOf hTs ?_)
  rw [if_pos (by decide)]
  refine wpAny_bind (en hs pl pu ?_)
  have hno:¬((((sIx items.size 0 lo:Nat):Int)==0&&(1:Int)==1&&(sIx items.size items.size hi - sIx items.size 0 lo)==items.size)=true):=by
    intro q
    rw [Bool.and_eq_true,Bool.and_eq_true] at q
    have q1:((sIx items.size 0 lo:Nat):Int)=0:=eq_of_beq q.1.1
    have q2:sIx items.size items.size hi - sIx items.size 0 lo=items.size:=eq_of_beq q.2
    exact hw ⟨by lia,by lia⟩
  show wpAny _ _ (if (((sIx items.size 0 lo:Nat):Int)==0&&(1:Int)==1&&(sIx items.size items.size hi - sIx items.size 0 lo)==items.size)=true then _ else _) _ _ s
  rw [if_neg hno,rm]
  first
    | exact wpAny_bind (m:=Builtin.Tuple.tupleExact _) (wpAny_newObj_type (wpAny_pure ⟨_,rfl,wpAny_pure h⟩) htake)
    | exact wpAny_bind (m:=Builtin.Tuple.tupleExact _) (wpAny_newObj_type (wpAny_bind (wpAny_pure (wpAny_pure ⟨_,rfl,wpAny_pure h⟩))) htake)
    | exact wpAny_bind (wpAny_bind (m:=Builtin.Tuple.tupleExact _) (wpAny_newObj_type (wpAny_pure (wpAny_pure ⟨_,rfl,wpAny_pure h⟩)) htake))
    | exact wpAny_bind (wpAny_bind (m:=Builtin.Tuple.tupleExact _) (wpAny_newObj_type (wpAny_pure ⟨_,rfl,wpAny_pure h⟩) htake))
end
end HT
namespace L2
open PySem PySem.Spec PyProof.Rows
abbrev TO:=St→Hp→(Option Int→Hp→Prop)→Prop
def PO(X:Cx)(e:Option Expr)(t:TO):Prop:=
  ∀(pins:List (Addr × Obj)) (s:Shared) (σ:St) (H:Hp) (Q:Option Int→Hp→Prop),av X pins σ H s→t σ H Q→
    wpAny (model X.prog X.w) X.A (evalPart e X.env) (fun u s'=>∃o H',av X pins σ H' s'∧IsPart u o∧Q o H') X.xe s
def uK:TO:=fun _ H Q=>Q none H
def zV(t:TE):TO:=fun σ H Q=>t σ H fun x H1=>∃i,x=.int i∧Q (some i) H1
section
variable{X:Cx}{e:Expr}{te:TE}{lo hi:Option Expr}{tl th:TO}{pos p2:Pos}
theorem ue:PO X none uK:=by
  intro pins s σ H Q I h
  rw [evalPart_none]
  exact wpAny_pure ⟨none,H,I,.none,h⟩
theorem uf(h:PE X e te):PO X (some e) (zV te):=by
  intro pins s σ H Q I hw
  rw [evalPart_some]
  refine bz (h pins s σ H _ I hw) fun u s1 ⟨x,H1,I1,r1,q1⟩=>?_
  obtain⟨i,rfl,q⟩:=q1
  obtain⟨t,rfl⟩:=r1
  exact⟨some i,H1,I1,.int i t,q⟩
def sJ(X:Cx)(r:V→Option Int→Option Int→Hp→VK→Prop):Prop:=
  ∀(pins:List (Addr × Obj)) (s:Shared) (σ:St) (H:Hp) (x:V) (v vl vu:Value) (lo hi:Option Int) (sl:Addr) (Q:VK),av X pins σ H s→aZ x v→s.heap.IsSliceOf sl vl vu .none→IsPart vl lo→IsPart vu hi→r x lo hi H Q→
    ∃T id,typeLookup (.type T) "__getitem__"=pure (some (.builtin id))∧s.TypeIs v T∧wpAny (model X.prog X.w) X.A (getItem v (.ref sl)) (EP X pins σ Q) X.xe s
theorem sJ.or{r r':V→Option Int→Option Int→Hp→VK→Prop}(h:sJ X r)(h':sJ X r'):sJ X (fun x lo hi H Q=>r x lo hi H Q∨r' x lo hi H Q):=by
  intro pins s σ H x v vl vu lo hi sl Q I rx hs pl pu q
  rcases q with q | q
  · exact h pins s σ H x v vl vu lo hi sl Q I rx hs pl pu q
  · exact h' pins s σ H x v vl vu lo hi sl Q I rx hs pl pu q
def BQ(r:V→Option Int→Option Int→Hp→VK→Prop)(te:TE)(tl th:TO):TE:=fun σ H Q=>te σ H fun x H1=>tl σ H1 fun l H2=>th σ H2 fun u H3=>r x l u H3 Q
theorem rf{r:V→Option Int→Option Int→Hp→VK→Prop}(hr:sJ X r)(he:PE X e te)(hl:PO X lo tl)(hu:PO X hi th):PE X (.Subscript e (.Slice lo hi none p2) pos) (BQ r te tl th):=by
  intro pins s σ H Q I h
  refine Subscript_ (bz (he pins s σ H _ I h) fun v s1 ⟨x,H1,I1,r1,q1⟩=>?_)
  refine wpAny_Slice (bz (hl pins s1 σ H1 _ I1 q1) fun vl s2 ⟨l,H2,I2,pl,q2⟩=>bz (hu pins s2 σ H2 _ I2 q2) fun vu s3 ⟨u,H3,I3,pu,q3⟩=>?_)
  rw [evalPart_none]
  refine wpAny_pure ?_
  have I4:av X pins σ H3 {s3 with heap:=s3.heap.push {cls:=.type "slice",data:=.fields #[vl,vu,.none]}}:=I3.kept (t':=s3.toks) fun b ob q=>Heap.get?_push_of_some _ q
  obtain⟨T,id,hT,ht,hg⟩:=hr pins {s3 with heap:=s3.heap.push {cls:=.type "slice",data:=.fields #[vl,vu,.none]}} σ H3 x v vl vu l u s3.heap.objs.size Q I4 r1 (Heap.IsSliceOf.new ..) pl pu q3
  show wpAny (model X.prog X.w) X.A (subscriptTail e (.Slice lo hi none p2) v (.ref s3.heap.objs.size)) (EP X pins σ Q) X.xe {s3 with heap:=s3.heap.push {cls:=.type "slice",data:=.fields #[vl,vu,.none]}}
  exact tail_any (ops:=[.ref s3.heap.objs.size,v]) ht hT hg (by with_unfolding_all rfl)
def jH(xs:List V)(lo hi:Option Int):List V:=(xs.drop (HT.sIx xs.length 0 lo)).take (HT.sIx xs.length xs.length hi - HT.sIx xs.length 0 lo)
theorem ip(xs:List V)(lo hi:Option Int):(jH xs lo hi).length≤xs.length:=by
  unfold jH
  rw [List.length_take,List.length_drop]
  lia
def zI(K:PySem.W.Frag):V→Option Int→Option Int→Hp→VK→Prop:=fun x lo hi H Q=>∃a xs,x=.ref a∧bR K H a xs∧
  ¬(HT.sIx xs.length 0 lo=0∧HT.sIx xs.length xs.length hi=xs.length)∧∀p,H p=none→Q (.ref p) (aQ H p (.tup (jH xs lo hi)))
theorem yc:sJ X (zI X.K):=by
  intro pins s σ H x v vl vu lo hi sl Q I rx hs pl pu h
  obtain⟨a,xs,rfl,hx,hw,q⟩:=h
  cases rx
  obtain⟨its,r,ht,hz⟩:=I.tuple hx
  have hlen:its.toArray.size=xs.length:=by rw [List.size_toArray];exact r.length.symm
  refine⟨"tuple",_,PyProof.Rows.slot_tuple_getitem.lookup,ht.typeIs,?_⟩
  refine HT.getItem_tuple_cut ht hs pl pu (by rw [hlen];exact hw) ?_ (by rw [hlen];exact hz)
  rw [hlen]
  refine⟨.ref s.heap.objs.size,_,I.laid (t':=s.toks) (o:=.tup (jH xs lo hi)) (fun b ob q=>Heap.get?_push_of_some _ q) (Nat.le_refl _) ?_,rfl,q _ (I.hok.fresh (Nat.le_refl _))⟩
  exact⟨Nat.le_trans (ip xs lo hi) hz,_,(r.drop (HT.sIx xs.length 0 lo)).take (HT.sIx xs.length xs.length hi - HT.sIx xs.length 0 lo),iA.new _ _⟩
def zD(K:PySem.W.Frag):R2:=fun x y H Q=>∃a b xs ys,x=.ref a∧y=.ref b∧bR K H a xs∧bR K H b ys∧xs≠[]∧xs.length+ys.length≤sizeLine∧
  (ys=[]→Q (.ref a) H)∧(ys≠[]→∀p,H p=none→Q (.ref p) (aQ H p (.tup (xs++ys))))
theorem aC.nil_iff{xs:List V}{us:List Value}(r:aC xs us):us=[]↔ xs=[]:=by
  cases r with
  | nil=>simp
  | cons _ _=>simp
theorem tQ:eJ X (binaryOp .Add) (zD X.K):=by
  intro pins s σ H x y v u Q I rx ry h
  obtain⟨a,b,xs,ys,rfl,rfl,ha,hb,hx,hz,q1,q2⟩:=h
  cases rx
  cases ry
  obtain⟨its,r1,p1,_⟩:=I.tuple ha
  obtain⟨its2,r2,p2,_⟩:=I.tuple hb
  refine HT.cat_tup p1 p2 (fun z=>hx (r1.nil_iff.mp z)) (fun z=>⟨.ref a,H,I,rfl,q1 (r2.nil_iff.mp z)⟩) (fun z=>?_) (by rw [←r1.length,←r2.length];exact hz)
  refine⟨.ref s.heap.objs.size,_,I.laid (t':=s.toks) (o:=.tup (xs++ys)) (fun b ob q=>Heap.get?_push_of_some _ q) (Nat.le_refl _) ?_,rfl,q2 (fun w=>z (r2.nil_iff.mpr w)) _ (I.hok.fresh (Nat.le_refl _))⟩
  exact⟨by rw [List.length_append];exact hz,_,r1.append r2,iA.new _ _⟩
end
end L2
namespace L2
open PySem PySem.Spec PyProof.Rows
def sE(n:Nat)(i:Int):Option Nat:=if 0≤i then(if i < n then some i.toNat else none) else if -(n:Int)≤i then some (i+n).toNat else none
def atI{α:Type}(xs:List α)(i:Int):Option α:=(sE xs.length i).bind fun j=>xs[j]?
theorem tj{n:Nat}{i:Int}{j:Nat}(h:sE n i=some j):seqIndex? i n=some j∧j < n∧ -(n:Int)≤i∧i < n:=by
  unfold sE at h
  by_cases h0:0≤i
  · rw [if_pos h0] at h
    by_cases h1:i < n
    · rw [if_pos h1] at h
      have e:i.toNat=j:=Option.some.inj h
      exact⟨by rw [seqIndex_of h0 h1,e],by lia,by lia,h1⟩
    · rw [if_neg h1] at h;cases h
  · rw [if_neg h0] at h
    by_cases h1: -(n:Int)≤i
    · rw [if_pos h1] at h
      have e:(i+n).toNat=j:=Option.some.inj h
      exact⟨by rw [seqIndex_neg (by lia) h1,e],by lia,h1,by lia⟩
    · rw [if_neg h1] at h;cases h
theorem nK{α:Type}{xs:List α}{i:Int}{v:α}(h:atI xs i=some v):∃j,seqIndex? i xs.length=some j∧xs[j]?=some v∧j < xs.length∧ -(xs.length:Int)≤i∧i < xs.length:=by
  unfold atI at h
  cases e:sE xs.length i with
  | none=>rw [e] at h;cases h
  | some j=>
    rw [e] at h
    obtain⟨h1,h2,h3,h4⟩:=tj e
    exact⟨j,h1,h,h2,h3,h4⟩
def iD(b:Expr):Prop:=∀o i,subscripted b false o i=operate [o,i] (getItem o i)
def sy(X:Cx)(r:R2):Prop:=
  ∀(value slice:Expr) (pins:List (Addr × Obj)) (s:Shared) (σ:St) (H:Hp) (x y:V) (v u:Value) (Q:VK),av X pins σ H s→aZ x v→aZ y u→r x y H Q→
    subscripted slice false v u=operate [v,u] (getItem v u)→wpAny (model X.prog X.w) X.A (subscriptTail value slice v u) (EP X pins σ Q) X.xe s
def Be(X:Cx)(id:String)(r:V→List V→Hp→VK→Prop):Prop:=
  ∀(pins:List (Addr × Obj)) (s:Shared) (σ:St) (H:Hp) (x:V) (xs:List V) (v:Value) (us:List Value) (Q:VK),av X pins σ H s→aZ x v→aC xs us→r x xs H Q→
    wpAny (model X.prog X.w) X.A (call (.builtin id) (v::us)) (EP X pins σ Q) X.xe s
section
variable{X:Cx}{a b:Expr}{ta tb:TE}{pos:Pos}
theorem sy.or{r r':R2}(h:sy X r)(h':sy X r'):sy X (fun x y H Q=>r x y H Q∨r' x y H Q):=by
  intro value slice pins s σ H x y v u Q I rx ry q hs
  rcases q with q | q
  · exact h value slice pins s σ H x y v u Q I rx ry q hs
  · exact h' value slice pins s σ H x y v u Q I rx ry q hs
theorem vJ{r:R2}(hr:sy X r)(ha:PE X a ta)(hb:PE X b tb)(hs:iD b):PE X (.Subscript a b pos) (zU r ta tb):=by
  intro pins s σ H Q I h
  exact Subscript_ (wj ha hb I h fun v u s2 x y H2 I2 rx ry q=>hr a b pins s2 σ H2 x y v u Q I2 rx ry q (hs _ _))
def xY(K:PySem.W.Frag):R2:=fun x y H Q=>∃p xs i v,x=.ref p∧y=.int i∧er K H p xs∧atI xs i=some v∧Q v H
def zG(K:PySem.W.Frag):R2:=fun x y H Q=>∃p xs i v,x=.ref p∧y=.int i∧bR K H p xs∧atI xs i=some v∧Q v H
theorem ol:sy X (xY X.K):=by
  intro value slice pins s σ H x y v u Q I rx ry h hs
  obtain⟨p,xs,i,z,rfl,rfl,hq,he,q⟩:=h
  cases rx
  obtain⟨t,rfl⟩:=ry
  obtain⟨its,r,pl,hz⟩:=I.list hq
  obtain⟨j,h1,h2,h3,h4,h5⟩:=nK he
  obtain⟨w,ew,rw'⟩:=r.get h2
  have hl:=r.length
  have hn:=m5
  have fin:EP X pins σ Q w s:=⟨z,H,I,rw',q⟩
  by_cases h0:0≤i
  · have hj:i.toNat=j:=by
      rw [seqIndex_of h0 h5] at h1
      exact Option.some.inj h1
    exact item_listR pl.isList h0 (by lia) (by rw [hj];simpa using ew) fin hs
  · have hj:(i+(its.toArray.size:Int)).toNat=j:=by
      rw [seqIndex_neg (by lia) h4] at h1
      rw [List.size_toArray,←hl]
      exact Option.some.inj h1
    exact subscriptTail_builtinR (x:=w) pl.isList.typeIs slot_list_getitem.lookup
      (wpAny_getItem_list_neg (Q:=fun r s'=>r=w∧EP X pins σ Q r s') pl.isList (by lia) (by rw [List.size_toArray]<;>lia) (by lia) (by rw [hj];simpa using ew) ⟨rfl,fin⟩) hs
theorem wL:sy X (zG X.K):=by
  intro value slice pins s σ H x y v u Q I rx ry h hs
  obtain⟨p,xs,i,z,rfl,rfl,hq,he,q⟩:=h
  cases rx
  obtain⟨t,rfl⟩:=ry
  obtain⟨its,r,pl,hz⟩:=I.tuple hq
  obtain⟨j,h1,h2,h3,h4,h5⟩:=nK he
  obtain⟨w,ew,rw'⟩:=r.get h2
  have hl:=r.length
  have hn:=m5
  have fin:EP X pins σ Q w s:=⟨z,H,I,rw',q⟩
  exact subscriptTail_builtinR (x:=w) pl.typeIs slot_tuple_getitem.lookup
    (getItem_tuple (j:=j) (Q:=fun r s'=>r=w∧EP X pins σ Q r s') pl (by lia) (by lia) (by rw [List.size_toArray,←hl];exact h1) (by simpa using ew) ⟨rfl,fin⟩) hs
theorem k9(lo hi:Option Int)(n:Nat):(sliceBounds lo hi none n).1=((HT.sIx n 0 lo:Nat):Int)∧(sliceBounds lo hi none n).2.1=((HT.sIx n n hi:Nat):Int)∧(sliceBounds lo hi none n).2.2=1:=by
  refine⟨?_,?_,rfl⟩
  · cases lo with
    | none=>simp [sliceBounds,HT.sIx]
    | some i=>
      simp only [sliceBounds,HT.sIx,Option.getD_none,show(1:Int) > 0 by decide,if_true]
      by_cases h:i < 0
      · simp only [h,if_true]<;>lia
      · simp only [h,if_false]<;>lia
  · cases hi with
    | none=>simp [sliceBounds,HT.sIx]
    | some i=>
      simp only [sliceBounds,HT.sIx,Option.getD_none,show(1:Int) > 0 by decide,if_true]
      by_cases h:i < 0
      · simp only [h,if_true]<;>lia
      · simp only [h,if_false]<;>lia
theorem jJ(its:List Value)(lo hi:Option Int):slicePick its.toArray lo hi none=((its.drop (HT.sIx its.length 0 lo)).take (HT.sIx its.length its.length hi - HT.sIx its.length 0 lo)).toArray:=by
  obtain⟨h1,h2,h3⟩:=k9 lo hi its.toArray.size
  unfold slicePick
  rw [h1,h2,h3]
  simp only [sliceRange_one,pick_run,List.size_toArray]<;>rfl
def zH(K:PySem.W.Frag):V→Option Int→Option Int→Hp→VK→Prop:=fun x lo hi H Q=>∃a xs,x=.ref a∧er K H a xs∧∀p,H p=none→Q (.ref p) (aQ H p (.lst (jH xs lo hi)))
theorem uG:sJ X (zH X.K):=by
  intro pins s σ H x v vl vu lo hi sl Q I rx hs pl pu h
  obtain⟨a,xs,rfl,hx,q⟩:=h
  cases rx
  obtain⟨its,r,ht,hz⟩:=I.list hx
  have hlen:=r.length
  refine⟨"list",_,slot_list_getitem.lookup,ht.isList.typeIs,?_⟩
  refine wpAny_getItem_list_slice ht.isList hs pl pu .none (by simp) ?_ (by rw [List.size_toArray]<;>lia)
  rw [jJ,←hlen]
  refine⟨.ref s.heap.objs.size,_,I.laid (t':=s.toks) (o:=.lst (jH xs lo hi)) (fun b ob q=>Heap.get?_push_of_some _ q) (Nat.le_refl _) ?_,rfl,q _ (I.hok.fresh (Nat.le_refl _))⟩
  exact⟨Nat.le_trans (ip xs lo hi) hz,_,0,(r.drop (HT.sIx xs.length 0 lo)).take (HT.sIx xs.length xs.length hi - HT.sIx xs.length 0 lo),Heap.get?_push_size _ rfl⟩
theorem kz:dG X (.builtin "len") (fun xs H Q=>∃p ys,xs=[.ref p]∧(er X.K H p ys∨bR X.K H p ys)∧Q (.int ys.length) H):=by
  intro pins s σ H xs us Q I r h
  obtain⟨p,ys,rfl,hq,q⟩:=h
  obtain⟨u,rfl,rx⟩:=mC r
  cases rx
  have hn:=m5
  rcases hq with hq | hq
  · obtain⟨its,r',pl,hz⟩:=I.list hq
    have hlen:=r'.length
    exact Calls.call_len_list pl.isList (by simp only [List.size_toArray]<;>lia) ⟨.int ys.length,H,I.tok _,⟨s.toks+1,by rw [List.size_toArray,hlen]⟩,q⟩
  · obtain⟨its,r',pl,hz⟩:=I.tuple hq
    have hlen:=r'.length
    exact len_tuple pl (by simp only [List.size_toArray]<;>lia) ⟨.int ys.length,H,I.tok _,⟨s.toks+1,by rw [List.size_toArray,hlen]⟩,q⟩
theorem jD:dG X (.type "tuple") (fun xs H Q=>∃p ys,xs=[.ref p]∧((er X.K H p ys∧∀l,H l=none→Q (.ref l) (aQ H l (.tup ys)))∨(bR X.K H p ys∧Q (.ref p) H))):=by
  intro pins s σ H xs us Q I r h
  obtain⟨p,ys,rfl,h⟩:=h
  obtain⟨u,rfl,rx⟩:=mC r
  cases rx
  rcases h with ⟨hq,q⟩ | ⟨hq,q⟩
  · obtain⟨its,r',pl,hz⟩:=I.list hq
    have hlen:=r'.length
    refine call_tuple_list pl.isList (fun h' kp=>?_) (by simp only [List.size_toArray]<;>lia)
    have I1:av X pins σ H {s with heap:=h'}:=I.kept (t':=s.toks) kp
    have I2:av X pins σ (aQ H h'.objs.size (.tup ys)) {s with heap:=h'.push {cls:=.type "tuple",data:=.seq its.toArray}}:=
      I1.laid (t':=s.toks) (fun b o e=>Heap.get?_push_of_some _ e) (Nat.le_refl _) (show bP X.prog X.w _ _ _ (.tup ys) from⟨hz,its,r',iA.new _ _⟩)
    exact⟨.ref h'.objs.size,_,I2,rfl,q _ (I1.hok.fresh (Nat.le_refl _))⟩
  · obtain⟨its,r',pl,hz⟩:=I.tuple hq
    exact call_tuple_same pl ⟨.ref p,H,I,rfl,q⟩
def Bq(K:PySem.W.Frag)(T:String)(x:V)(H:Hp):Prop:=match x with
  | .str _=>T="str"
  | .int _=>T="int"
  | .ref p=>(T="list"∧∃xs,er K H p xs)∨(T="tuple"∧∃o,K.lookup p=some o∧o.cls=.type "tuple"∧o.dict=none)∨
      (T="dict"∧((∃kvs,H p=some (.dK kvs))∨∃kvs,H p=some (.dT kvs)))∨(T="set"∧∃S n,H p=some (.set S n))
  | _=>False
theorem yn{pins:List (Addr × Obj)}{σ:St}{H:Hp}{s:Shared}{T:String}{x:V}{v:Value}(I:av X pins σ H s)(r:aZ x v)(ty:Bq X.K T x H):
    s.TypeIs v T∧∀a,v=.ref a→∃ob,s.heap.get? a=some ob∧ob.dict=none:=by
  cases x with
  | str z=>
    obtain⟨t,rfl⟩:=r
    cases (show T="str" from ty)
    exact⟨typeIs_str s z t,fun _ e=>nomatch e⟩
  | int i=>
    obtain⟨t,rfl⟩:=r
    cases (show T="int" from ty)
    exact⟨typeIs_int s i t,fun _ e=>nomatch e⟩
  | ref p=>
    cases r
    rcases ty with ⟨rfl,xs,hq⟩ | ⟨rfl,o,hk,hc,hd⟩ | ⟨rfl,hk⟩ | ⟨rfl,S,n,hk⟩
    · obtain⟨its,_,pl,_⟩:=I.list hq
      refine⟨pl.isList.typeIs,fun a e=>?_⟩
      cases e
      obtain⟨o,n,e,c,hd,_⟩:=pl
      exact⟨o,e,hd⟩
    · refine⟨⟨o,I.kIn p o hk,hc⟩,fun a e=>?_⟩
      cases e
      exact⟨o,I.kIn _ o hk,hd⟩
    · have z:∃o,s.heap.get? p=some o∧o.ExactDict:=by
        rcases hk with ⟨kvs,hk⟩ | ⟨kvs,hk⟩
        · obtain⟨_,_,_,_,o,_,_,e,ex,_⟩:=I.hok p _ hk
          exact⟨o,e,ex⟩
        · obtain⟨_,_,_,_,o,_,_,e,ex,_⟩:=I.hok p _ hk
          exact⟨o,e,ex⟩
      obtain⟨o,e,ex⟩:=z
      refine⟨⟨o,e,ex.1⟩,fun a e2=>?_⟩
      cases e2
      exact⟨o,e,ex.2.1⟩
    · obtain⟨o,_,_,_,e,ex,_⟩:=I.hok p _ hk
      refine⟨⟨o,e,ex.1⟩,fun a e2=>?_⟩
      cases e2
      exact⟨o,e,ex.2.1⟩
  | _=>exact False.elim ty
def Bo(K:PySem.W.Frag)(T:String)(r:V→List V→Hp→VK→Prop)(to:TE)(t:TA):TE:=fun σ H Q=>to σ H fun x H1=>Bq K T x H1∧t σ H1 fun xs H2=>r x xs H2 Q
variable{o e:Expr}{es:List Expr}{to:TE}{t:TA}{name:Str}{apos cpos:Pos}{T id:String}{r:V→List V→Hp→VK→Prop}
theorem qZ(pa:PlainAttrs T)(slot:Slot T name id)(hty:typeOf (.builtin id)=pure (.type "method_descriptor"))(hm:Be X id r)(ho:PE X o to)(ha:PA X (e::es) t)
    (hbase:attributeBase o name X.env (eval o X.env)=eval o X.env:=by rfl)
    (hfew:((backTo cpos (starEach (e::es) X.env)).all (fun x=> !x.1)&&(backToKw cpos (keywordEach [] X.env)).all (fun x=>x.1.isSome)
      &&decide ((e::es).length+([]:List Keyword).length+(if ([]:List Keyword).isEmpty then 0 else 1) < 30))=true:=by rfl)
    (hline:(apos.endLine==cpos.line)=true:=by rfl)(hs:starEach (e::es) X.env=(false,eval e X.env)::starEach es X.env:=by rfl)(hplain:(backTo cpos (starEach es X.env)).any (·.1)=false:=by rfl):
    PE X (.Call (.Attribute o name apos) (e::es) [] cpos) (Bo X.K T r to t):=by
  intro pins s σ H Q I h
  refine wpAny_Call_method_late hbase hfew hline rfl (bz (ho pins s σ H _ I h) fun v s1 ⟨x,H1,I1,r1,ty,q1⟩=>?_)
  obtain⟨h1,h2⟩:=yn I1 r1 ty
  refine⟨T,id,pa,slot,hty,h1,h2,?_⟩
  have hA:=ha cpos pins s1 σ H1 _ I1 q1
  rw [hs] at hA ⊢
  refine Calls.callWith_builtin (by show(false || (backTo cpos (starEach es X.env)).any (·.1))=false;rw [hplain]<;>rfl) (Calls.evalArgs_plain ?_)
  exact bz hA fun us s2 ⟨vs,H2,I2,r2,q2⟩=>hm pins s2 σ H2 x vs v us Q I2 r1 r2 q2
end
end L2
namespace L2
open PySem PySem.Spec PyProof.Rows
def Bd(X:Cx)(id:String)(r:V→List V→Hp→VK→Prop):Prop:=
  ∀(pins:List (Addr × Obj)) (s:Shared) (σ:St) (H:Hp) (x:V) (xs:List V) (v:Value) (us:List Value) (Q:VK),av X pins σ H s→aZ x v→aC xs us→r x xs H Q→
    wpAny (model X.prog X.w) X.A (call (.builtin id) (v::us)) (EP X pins σ Q) X.xe s
theorem aC.one:∀{x:V} {us:List Value},aC [x] us→∃u,us=[u]∧aZ x u
  | _,_,.cons r .nil=>⟨_,rfl,r⟩
theorem aC.eraseIdx:∀{xs:List V} {us:List Value} (i:Nat),aC xs us→aC (xs.eraseIdx i) (us.eraseIdx i)
  | _,_,_,.nil=>.nil
  | _,_,0,.cons _ t=>t
  | _,_,i+1,.cons r t=>.cons r (aC.eraseIdx i t)
theorem aC.rep{xs:List V}{us:List Value}(h:aC xs us):∀k:Nat,aC (List.replicate k xs).flatten (List.replicate k us).flatten
  | 0=>.nil
  | k+1=>by
    rw [List.replicate_succ,List.replicate_succ,List.flatten_cons,List.flatten_cons]
    exact aC.append h (aC.rep h k)
theorem j5{α:Type}:∀(l:List α) (i:Nat),(l.eraseIdx i).length≤l.length
  | [],_=>Nat.le_refl _
  | _::_,0=>Nat.le_succ _
  | _::r,i+1=>Nat.succ_le_succ (j5 r i)
theorem jW(its:List Value):∀(k:Nat) (acc:List Value),
    List.foldl (fun x1 x2=>x1++x2) acc.toArray (List.replicate k its.toArray)=(acc++(List.replicate k its).flatten).toArray
  | 0,acc=>by simp
  | k+1,acc=>by
    have e:acc.toArray++its.toArray=(acc++its).toArray:=by simp
    have e2:(acc++its)++(List.replicate k its).flatten=acc++(List.replicate (k+1) its).flatten:=by
      rw [List.replicate_succ,List.flatten_cons,List.append_assoc]
    rw [←e2,←jW its k (acc++its),←e,List.replicate_succ,List.foldl_cons]
section
variable{X:Cx}{pins:List (Addr × Obj)}{σ:St}{H:Hp}{s:Shared}{l b:Addr}{xs ys zs:List V}
theorem av.lset{its its':List Value}{n:Nat}{f:Array Value→Array Value}{t':Nat}(I:av X pins σ H s)(hH:H l=some (.lst xs))
    (e:s.heap.get? l=some {cls:=.type "list",data:=.seq its.toArray n})(hf:f its.toArray=its'.toArray)(hv:aC ys its')(hz:ys.length≤sizeLine):
    av X pins σ (aQ H l (.lst ys)) {s with heap:=s.heap.update l (Obj.mapSeq f),toks:=t'}:=by
  have q:=PySem.IsL.update e f
  rw [hf] at q
  refine I.write (x:=l) (e:=l) (by rw [hH];exact trivial) (.inl rfl) (fun b' u hb hu=>(Heap.get?_update_other s.heap (Obj.mapSeq f) (Ne.symm hb)).trans hu) ⟨_,q⟩ ?_
  exact⟨hz,its',_,hv,q⟩
theorem av.lnew{its:List Value}{t':Nat}(I:av X pins σ H s)(hv:aC ys its)(hz:ys.length≤sizeLine):
    av X pins σ (aQ H s.heap.objs.size (.lst ys)) {s with heap:=s.heap.push {cls:=.type "list",data:=.seq its.toArray},toks:=t'}:=
  I.laid (fun _ _ q=>Heap.get?_push_of_some _ q) (Nat.le_refl _) ⟨hz,its,0,hv,Heap.get?_push_size _ rfl⟩
theorem av.fresh(I:av X pins σ H s):H s.heap.objs.size=none:=I.hok.fresh (Nat.le_refl _)
theorem av.lstM(I:av X pins σ H s)(hH:H l=some (.lst xs)):xs.length≤sizeLine∧∃(its:List Value) (n:Nat),aC xs its∧xs.length=its.length∧s.heap.get? l=some {cls:=.type "list",data:=.seq its.toArray n}:=by
  obtain⟨z,its,n,r,e⟩:=I.hok l _ hH
  exact⟨z,its,n,r,r.length,e⟩
theorem qT{n:Nat}(h:n≤sizeLine):Builtin.List.listTooLong n=false:=by
  unfold Builtin.List.listTooLong
  exact decide_eq_false (by lia)
end
section
variable{X:Cx}
def oz:V→List V→Hp→VK→Prop:=fun x vs H Q=>∃l xs y,x=.ref l∧vs=[y]∧H l=some (.lst xs)∧xs.length < sizeLine∧Q .non (aQ H l (.lst (xs++[y])))
theorem ee:Bd X "list.append" oz:=by
  intro pins s σ H x vs v us Q I rx rv h
  obtain⟨l,xs,y,rfl,rfl,hH,hz,q⟩:=h
  cases rx
  obtain⟨u,rfl,ru⟩:=rv.one
  obtain⟨z,its,n,r,hl,e⟩:=I.lstM hH
  refine call_meets F.slot_list_append ⟨_,e,rfl⟩ F.entry_list_append (F.args_list_append_2 _ _) (PySem.list_append l its.toArray n u (by rw [List.size_toArray];lia)) ⟨e,?_⟩
  refine⟨.non,_,I.lset (its':=its++[u]) hH e (by simp) (r.append (.cons ru .nil)) ?_,rfl,q⟩
  rw [List.length_append,List.length_singleton]
  lia
def rP:V→List V→Hp→VK→Prop:=fun x vs H Q=>∃l xs i k y,x=.ref l∧vs=[.int i]∧H l=some (.lst xs)∧ -(2 ^ 63)≤i∧i < 2 ^ 63∧seqIndex? i xs.length=some k∧xs[k]?=some y∧Q y (aQ H l (.lst (xs.eraseIdx k)))
theorem qO:Bd X "list.pop" rP:=by
  intro pins s σ H x vs v us Q I rx rv h
  obtain⟨l,xs,i,k,y,rfl,rfl,hH,h1,h2,hk,hy,q⟩:=h
  cases rx
  obtain⟨u,rfl,ru⟩:=rv.one
  obtain⟨t,rfl⟩:=ru
  obtain⟨z,its,n,r,hl,e⟩:=I.lstM hH
  obtain⟨w,hw,rw'⟩:=r.get hy
  refine call_meets F.slot_list_pop ⟨_,e,rfl⟩ F.entry_list_pop (F.args_list_pop_2 _ _)
    (MeetsSeq.list_pop_at l its.toArray n i t k w (fitsIndex_both h1 h2) (by rw [List.size_toArray,←hl];exact hk) (by rw [←Array.getElem?_toList];exact hw) (by rw [List.size_toArray];lia)) ⟨e,?_⟩
  refine⟨y,_,I.lset (its':=its.eraseIdx k) hH e ?_ (r.eraseIdx k) ?_,rw',q⟩
  · show its.toArray.eraseIdxIfInBounds k=(its.eraseIdx k).toArray
    rw [List.eraseIdxIfInBounds_toArray]
  · have:=j5 xs k
    lia
def xW:R2:=fun x y H Q=>∃l b xs zs,x=.ref l∧y=.ref b∧H l=some (.lst xs)∧H b=some (.lst zs)∧xs.length+zs.length≤sizeLine∧∀p,H p=none→Q (.ref p) (aQ H p (.lst (xs++zs)))
theorem xg:eJ X (binaryOp .Add) xW:=by
  intro pins s σ H x y v u Q I rx ry h
  obtain⟨l,b,xs,zs,rfl,rfl,hH,hB,hz,q⟩:=h
  cases rx
  cases ry
  obtain⟨z,its,n,r,hl,e⟩:=I.lstM hH
  obtain⟨z2,its2,n2,r2,hl2,e2⟩:=I.lstM hB
  refine PySem.P.add_list e e2 ?_ (by rw [List.size_toArray,List.size_toArray];lia)
  have ea:its.toArray++its2.toArray=(its++its2).toArray:=by simp
  rw [ea]
  exact⟨.ref _,_,I.lnew (t':=s.toks) (r.append r2) (by rw [List.length_append];lia),rfl,q _ I.fresh⟩
def xZ:R2:=fun x y H Q=>∃l k xs,x=.ref l∧y=.int k∧H l=some (.lst xs)∧ -(2 ^ 63)≤k∧k < 2 ^ 63∧xs.length*k.toNat≤sizeLine∧
  ∀p,H p=none→Q (.ref p) (aQ H p (.lst (List.replicate k.toNat xs).flatten))
theorem tD{α:Type}(xs:List α)(k:Nat):(List.replicate k xs).flatten.length=k*xs.length:=by
  induction k with
  | zero=>simp
  | succ k ih=>rw [List.replicate_succ,List.flatten_cons,List.length_append,ih,Nat.succ_mul,Nat.add_comm]
theorem xt:eJ X (binaryOp .Mult) xZ:=by
  intro pins s σ H x y v u Q I rx ry h
  obtain⟨l,k,xs,rfl,rfl,hH,h1,h2,hz,q⟩:=h
  cases rx
  obtain⟨t,rfl⟩:=ry
  obtain⟨z,its,n,r,hl,e⟩:=I.lstM hH
  have hlen:its.toArray.size*k.toNat≤sizeLine:=by rw [List.size_toArray,←hl];exact hz
  have hcap:¬its.toArray.size*k.toNat > (2 ^ 63 - 1) / 8:=by
    have:(sizeLine:Nat)≤(2 ^ 63 - 1) / 8:=by decide
    lia
  have hfit:¬(!Builtin.List.listFitsIndex k)=true:=by
    rw [fitsIndex_both h1 h2]
    exact Bool.false_ne_true
  have hlong:¬Builtin.List.listTooLong (its.toArray.size*k.toNat)=true:=by
    rw [qT hlen]
    exact Bool.false_ne_true
  have hnew:List.foldl (fun x1 x2=>x1++x2) #[] (List.replicate (if its.toArray.isEmpty=true then 0 else k.toNat) its.toArray)=(List.replicate k.toNat its).flatten.toArray:=by
    have f0:∀m:Nat,List.foldl (fun x1 x2=>x1++x2) #[] (List.replicate m its.toArray)=(List.replicate m its).flatten.toArray:=fun m=>by
      have:=jW its m []
      rw [List.nil_append] at this
      exact this
    rw [f0]
    cases its with
    | nil=>simp
    | cons a r'=>rw [if_neg (by simp)]
  refine wpAny_binaryOp_repeat_ref (T:="list") (U:="int") (by decide) ⟨_,e,rfl⟩ (fun s'=>typeIs_int s' k t) noFill_list_mul F.fills_int_mul F.slot_int_rmul repeat_list F.slot_int_index.lookup
    (call_meets F.slot_int_rmul (typeIs_int s k t) F.entry_int_rmul (F.args_int_rmul_2 _ _) (int___rmul___int_list k t l its.toArray n)
      ⟨e,rfl,⟨_,e,rfl⟩,call_meets F.slot_list_mul ⟨_,e,rfl⟩ F.entry_list_mul (F.args_list_mul_2 _ _) (AutoListH.list___mul___list_int_3 l its.toArray n k t hfit hcap hlong) ⟨e,?_⟩⟩)
  rw [hnew]
  exact⟨.ref _,_,I.lnew (t':=s.toks) (r.rep k.toNat) (by rw [tD,Nat.mul_comm];exact hz),rfl,q _ I.fresh⟩
end
section
variable{prog:Program}{w:World}{A:Around}{E:Value→Shared→Prop}{s:Shared}
end
section
variable{X:Cx}
end
end L2
namespace Att
open PySem PySem.W PySem.Calls PyProof.Rows
theorem iC{P:Params}{h:Heap}:∀(ns:List Int) (vs:List Value),WellAll P h vs (ns.map WData.int)→IntsAre vs ns:=by
  intro ns
  induction ns with
  | nil=>
    intro vs w
    rw [List.map_nil] at w
    cases w
    exact .nil
  | cons n ns ih=>
    intro vs w
    rw [List.map_cons] at w
    cases w with
    | cons a b=>
      cases a
      exact .cons _ _ (ih _ b)
theorem pJ{l:OpenLaw}{n:Nat}(hn:l.most=some n){P:Params}{h:Heap}{args:List WData}{vals:List Value}
    (hpre:l.row.toRowW.claim.pre args=true)(hwl:WellAll P h vals args):
    ∃a vs ns,vals=[Value.ref a]∧args=[WData.list (ns.map WData.int)]∧h.get? a=some {cls:=.type "list",data:=.seq vs.toArray}∧IntsAre vs ns∧ns.length≤n:=by
  have hsh:WShape.hasAll [] args [.list .int]=true:=(pre_splitW hpre).1
  have hc:l.pre.holds [] {args:=args}=true:=(pre_splitW hpre).2
  obtain⟨d,r,rfl,h1,h2⟩:=hasAllW_cons hsh
  obtain rfl:=hasAllW_nil h2
  obtain⟨xs,rfl,h3⟩:=hasW_list h1
  obtain⟨ns,rfl⟩:=items_int h3
  have hlen:ns.length≤n:=by
    unfold OpenLaw.pre at hc
    have h4:(WTm.not (.lt (.lit (.int (n:Int))) (.len (.arg 0)))).holds [] {args:=[.list (ns.map .int)]}=true:=by
      have h4:=(holds_andW hc).1
      rw [hn] at h4
      exact h4
    have h5:=condW_of h4 (w_not (w_lt w_lit (w_len_list (w_arg rfl))))
    rw [List.length_map] at h5
    refine Nat.le_of_not_lt fun q=>?_
    have q':(n:Int) < ((ns.length:Nat):Int):=by lia
    first
      | (rw [decide_eq_true q'] at h5;exact absurd h5 (by decide))
      | (simp at h5;lia)
  cases hwl with
  | cons w1 w2=>
    cases w2
    cases w1 with
    | list ho hall=>exact⟨_,_,ns,rfl,rfl,ho,iC ns _ hall,hlen⟩
theorem pE(l:OpenLaw)(args:List WData):l.row.toRowW.claim.post args (.bool true) args=true:=
  postW_of (r:=l.row.toRowW) (X:=(true==true))
    (show WShape.has [] (.bool true) .bool=true by first | rfl | decide | simp [WShape.has,WShape.arms,WShape.armsAll])
    (show(WTm.eq .res (.lit (.bool true))).value [] {args:=args,res:=some (.bool true),after:=args}=some (.bool (true==true)) from w_eq_bool (w_res rfl) w_lit) rfl
theorem attach_call{l:OpenLaw}{n:Nat}{q:Program}{loose:List Str}{XP:(Str→Option Value)→Heap→Prop}{YP:World→Heap→Prop}{d:DefRec}
    (hn:l.most=some n)(hdf:d.params.defaults=[])
    (call:∀(w:World) (s₀ s₁:Shared) (mg mb:Str→Option Value) (fa:Addr) (o:Obj) (pm cd doc:Value) (a:Addr) (vs:List Value) (ns:List Int),
      Ground q loose [] XP w s₀ mg mb s₁.heap→YP w s₁.heap→
      s₁.heap.get? fa=some o→o.data=.func (docDef d.name d.params d.body d.scope pm cd doc)→s₁.heap.CodeRec cd d.name→mg d.name=some (.ref fa)→
      s₁.heap.get? a=some {cls:=.type "list",data:=.seq vs.toArray}→IntsAre vs ns→ns.length≤n→s₁.gens=#[]→
      codeAny (model l.prog w) callerA (.call (.ref fa) ⟨[.ref a],[]⟩) (fun r s'=>r=.ok (.ret (.bool true))∧OldK s₁.heap s'.heap∧s'.os=s₁.os∧AllBare s'.gens) s₁):
    WalkO q loose XP YP l.row.toRowW d [] (fun f vs=>PySem.call f vs):=by
  intro w s₀ s₁ mg mb G Y fa o pm cd doc dV kV ho hd hcd hD hmg hg args vals as hpre hlay hrd hwl hlo
  obtain rfl:dV=.none:=Dflts.none hD hdf
  obtain rfl:kV=.none:=Dflts.noKw hD
  obtain⟨a,vs,ns,rfl,rfl,hobj,hints,hlen⟩:=pJ hn hpre hwl
  refine enter_call (codeAny_mono (call w s₀ s₁ mg mb fa o pm cd doc a vs ns G Y ho (fd_plain hd) hcd hmg hobj hints hlen hg) fun r s' hq=>?_)
  obtain⟨rfl,h2,h3,h4⟩:=hq
  exact⟨.inl ⟨.bool true,.bool true,[],rfl,fun _=>rfl,.bool true,pE l _,fun _=>⟨List.Pairwise.nil,fun _ hm=>(nomatch hm)⟩⟩,h2,h3,h4⟩
section
variable{prog:Program}{w:World}{A:Around}{E:Value→Shared→Prop}{s:Shared}{K:Frag}
end
end Att
namespace L2
open PySem PySem.Spec PyProof.Rows
theorem kl:∀{vs:List Value} {ns:List Int},IntsAre vs ns→aC (ns.map V.int) vs
  | _,_,.nil=>.nil
  | _,_,.cons n t h=>.cons ⟨t,rfl⟩ (kl h)
def wb(H:Hp):Prop:=∀b,H b=none∨∃o xs,H b=some (.frz o (.lst xs))
theorem qJ{P:Program}{w:World}{K:PySem.W.Frag}{mg mb:Str→Option Value}{CX:oP}{k:Nat}{fa a:Addr}{fd:FuncData}{x:Str}{sp:Sp}{s₁:Shared}{vs:List Value}{ns:List Int}
    (KX:K.In s₁.heap)(hns:s₁.heap.Ns mainGlobals mg)(hb:s₁.heap.Ns builtinsNs mb)(hbb:∀x:Str,x≠"__name__"→mb x=bootBuiltins x)(hlim:s₁.heap.NoLimit)(hg:s₁.gens=#[])
    (ha:s₁.heap.get? a=some {cls:=.type "list",data:=.seq vs.toArray})(hi:IntsAre vs ns)(hl:ns.length≤sizeLine)(hr:cF k callerA)
    (F:∀base:Heap,K.In base→base.Ns mainGlobals mg→a' P w K mg base CX k fa fd [x] sp)(hbind:∀(s:Shared) (u:Value),BindsTo s fd ⟨[u],[]⟩ [(x,u)])
    (hsp:∀H:Hp,wb H→er K H a (ns.map V.int)→sp [.ref a] H (fun v _=>v=.bl true) fun _ _ _=>False)
    (hCX:∀H e s',CX [] H s₁ (fun _ _ _=>False) e s'→False):
    codeAny (model P w) callerA (.call (.ref fa) ⟨[.ref a],[]⟩) (fun r s'=>r=.ok (.ret (.bool true))∧OldK s₁.heap s'.heap∧s'.os=s₁.os∧AllBare s'.gens) s₁:=by
  have rv:=kl hi
  have lenV:=hi.length
  have core:∀H:Hp,wb H→er K H a (ns.map V.int)→gR P w H s₁.heap→(∀b,H b≠none→b=a)→(H a≠none→K.lookup a=none)→
      codeAny (model P w) callerA (.call (.ref fa) ⟨[.ref a],[]⟩) (fun r s'=>r=.ok (.ret (.bool true))∧OldK s₁.heap s'.heap∧s'.os=s₁.os∧AllBare s'.gens) s₁:=by
    intro H hO hS hok hA hK
    have base_of:∀{b:Addr} {o:Obj},s₁.heap.get? b=some o→H b=none→(kP s₁.heap H).get? b=some o:=fun e n=>qD e n
    have noA:∀{b:Addr} {o:Obj} {es:Array DictEntry} {ep:Nat},s₁.heap.get? b=some o→o.data=.dict es ep→H b=none:=fun{b o es ep} e d=>by
      cases q:H b with
      | none=>rfl
      | some u=>
        have e':b=a:=hA b (by rw [q];simp)
        subst e'
        rw [ha] at e;cases e
        have d':Data.seq vs.toArray _=Data.dict es ep:=d
        cases d'
    have nsK:∀{b:Addr} {m:Str→Option Value},s₁.heap.Ns b m→(kP s₁.heap H).Ns b m:=fun{b m} ⟨o,es,ep,e,d,r⟩=>⟨o,es,ep,base_of e (noA e d),d,r⟩
    have hKb:K.In (kP s₁.heap H):=fun b o e=>base_of (KX b o e) (by
      cases q:H b with
      | none=>rfl
      | some u=>
        have e':b=a:=hA b (by rw [q];simp)
        subst e'
        rw [hK (by rw [q];simp)] at e;cases e)
    have hM:Mod K mg (kP s₁.heap H):=⟨hKb,nsK hns,⟨mb,nsK hb,hbb⟩,let ⟨mc,h1,h2⟩:=hlim;⟨mc,nsK h1,h2⟩⟩
    have e0:sI P w K mg (kP s₁.heap H) callerA [] s₁ H:=⟨rfl,hM,fun b o e=>tI e,Nat.le_of_eq (o6 _ _),trivial,fun b hb=>absurd (show b∈([]:List Addr) from hb) (by simp),hok,.of_eq hg⟩
    refine codeAny_mono ((F _ hKb (nsK hns)).run callerA [] s₁ H ⟨[.ref a],[]⟩ [.ref a] [.ref a] _ _ hr e0 (hbind s₁ (.ref a)) (.cons rfl .nil) (hsp H hO hS)) fun r s' h=>?_
    cases r with
    | error e=>exact(hCX H e s' h).elim
    | ok fl=>
      cases fl with
      | next=>exact False.elim h
      | brk=>exact False.elim h
      | cont=>exact False.elim h
      | ret u=>
        obtain⟨v,H',os,bare,un,hok',r',q⟩:=h
        have q':v=.bl true:=q
        subst q'
        obtain rfl:u=Value.bool true:=r'
        refine⟨rfl,OldK.of_keep fun b o e=>?_,os,bare⟩
        cases q:H b with
        | none=>exact un.keep b o e q (by intro z;exact absurd (show b∈([]:List Addr) from z) (by simp)) (by simp)
        | some u=>
          rcases hO b with z | ⟨ob,xs,z⟩
          · rw [q] at z;cases z
          · have z2:=un.frzs b ob _ z
            obtain⟨e1,_⟩:=hok b _ z
            obtain⟨e2,_⟩:=hok' b _ z2
            rw [e] at e1;cases e1
            exact e2
  cases hk:K.lookup a with
  | some o=>
    have e:=KX a o hk
    rw [ha] at e
    cases e
    refine core (fun _=>none) (fun _=>.inl rfl) (.inr ⟨_,vs.toArray,_,hk,rfl,rfl,rfl,by rw [List.size_toArray,lenV];exact hl,by simpa using rv⟩) (fun b u z=>by have z':(none:Option HO)=some u:=z;cases z') (fun b z=>absurd rfl z) fun z=>absurd rfl z
  | none=>
    refine core (fun b=>if b=a then some (.frz {cls:=.type "list",data:=.seq vs.toArray} (.lst (ns.map V.int))) else none) (fun b=>?_) (.inl (.inr ⟨{cls:=.type "list",data:=.seq vs.toArray},if_pos rfl⟩)) (fun b u z=>?_) (fun b z=>?_) fun _=>hk
    · by_cases hb:b=a
      · exact .inr ⟨_,_,if_pos hb⟩
      · exact .inl (if_neg hb)
    · by_cases hb:b=a
      · have z':=(if_pos hb).symm.trans z
        cases z'
        subst hb
        exact⟨ha,by rw [List.length_map];exact hl,vs,_,rv,ha⟩
      · have z':=(if_neg hb).symm.trans z
        cases z'
    · by_cases hb:b=a
      · exact hb
      · exact absurd (if_neg hb) z
end L2
namespace L2
open PySem PySem.Spec PyProof.Rows
theorem walk_of{l:PySem.W.OpenLaw}{n k:Nat}{q:Program}{loose:List Str}{XP:(Str→Option Value)→Heap→Prop}{YP:World→Heap→Prop}{d:DefRec}{K:Params→PySem.W.Frag}{CX:World→oP}{sp:World→Sp}{x:Str}
    (hn:l.most=some n)(hn2:n≤sizeLine)(hdf:d.params.defaults=[])(hr:cF k callerA)
    (hY:∀(w:World) (h:Heap),YP w h→(K w.params).In h)
    (F:∀(w:World) (mg:Str→Option Value) (fa:Addr) (h:Heap),(K w.params).In h→h.Ns mainGlobals mg→mg d.name=some (.ref fa)→
      ∃fd:FuncData,(∀(s:Shared) (u:Value),BindsTo s fd ⟨[u],[]⟩ [(x,u)])∧
        ∀base:Heap,(K w.params).In base→base.Ns mainGlobals mg→a' l.prog w (K w.params) mg base (CX w) k fa fd [x] (sp w))
    (hsp:∀(w:World) (H:Hp) (a:Addr) (ns:List Int),ns.length≤n→wb H→er (K w.params) H a (ns.map V.int)→sp w [.ref a] H (fun v _=>v=.bl true) fun _ _ _=>False)
    (hCX:∀(w:World) (H:Hp) (s:Shared) (e:Value) (s':Shared),CX w [] H s (fun _ _ _=>False) e s'→False):
    PySem.W.WalkO q loose XP YP l.row.toRowW d [] (fun f vs=>PySem.call f vs):=by
  refine Att.attach_call hn hdf fun w s₀ s₁ mg mb fa o pm cd doc a vs ns G Y ho hd hcd hmg hobj hints hlen hg=>?_
  have KX:=hY w _ Y
  obtain⟨fd,hb,hF⟩:=F w mg fa _ KX G.T.g hmg
  exact qJ KX G.T.g G.T.b G.T.builtins G.T.nolimit hg hobj hints (Nat.le_trans hlen hn2) hr hF hb (fun H hO hS=>hsp w H a ns hlen hO hS) fun H e s'=>hCX w H s₁ e s'
end L2
namespace L2
open PySem PySem.Spec PyProof.Rows
def cw(s:Stmt):Arguments:=match s with
  | .FunctionDef _ a _ _ _ _ _ _ _ _=>a
  | _=>{posonlyargs:=[],args:=[],vararg:=none,kwonlyargs:=[],kw_defaults:=[],kwarg:=none,defaults:=[]}
def bL(s:Stmt):List Stmt:=match s with
  | .FunctionDef _ _ b _ _ _ _ _ _ _=>b
  | _=>[]
def ao(s:Stmt):Scope:=match s with
  | .FunctionDef _ _ _ _ _ _ sc _ _ _=>sc
  | _=>{kind:=.function,names:=[],isGenerator:=false,isCoroutine:=false}
abbrev dA:oP:=fun _ _ _ _ _ _=>False
abbrev E0:XK:=fun _ _ _=>False
theorem zt{X:Cx}:mJ dA X E0:=fun _ _ _ _ _ _ _ h=>h.elim
structure yw (K:PySem.W.Frag) (x qual:Str) (st:Stmt) (f:Addr) (fd:FuncData):Prop where
  ex:∃(oc:Value) (od:Option Addr) (kV doc pm:Value) (an:Option Addr) (cdv ct:Value) (osl:Array (Option Value)),
    fd=PySem.W.fnOf x qual (cw st) (bL st) (ao st) .none kV doc pm an cdv ct∧K.lookup f=some ⟨oc,od,.func fd,osl⟩∧PySem.W.codeIn K cdv qual=true
  kp:PySem.W.keepIn K (.ref f)=true
section
variable{P:Program}{w:World}{K:PySem.W.Frag}{mg:Str→Option Value}{base:Heap}
theorem yw.ok{x qual:Str}{st:Stmt}{f:Addr}{fd:FuncData}{N ps:List Str}{k:Nat}{sp:Sp}(F:yw K x qual st f fd)(S:aX N ps (ao st))(len:∀vs H Q E,sp vs H Q E→vs.length=ps.length)
    (hbody:∀(cdv:Value) (A:Around) (outer:List Env) (s:Shared) (H:Hp) (vs:List V) (Q:VK) (E:XK),cF k (A.deeper (envOfC qual (ao st) s.heap.objs.size f cdv))→sp vs H Q E→
      ∃t,iB (mR dA P w K mg base N qual (ao st) f cdv A outer s H E).nox (bL st) t∧t {nx:=fun _ H'=>Q .non H',rt:=Q} (cV N vs) H):a' P w K mg base dA (k+1) f fd ps sp:=by
  obtain⟨oc,od,kV,doc,pm,an,cdv,ct,osl,rfl,lk,hcd⟩:=F.ex
  refine yX lk hcd S len fun A outer s H vs Q E hr hsp=>?_
  obtain⟨t,h,q⟩:=hbody cdv A outer s H vs Q E hr hsp
  exact⟨t,h.nox,q⟩
theorem yw.binds{x qual:Str}{st:Stmt}{f:Addr}{fd:FuncData}{ps:List Str}(F:yw K x qual st f fd)
    (h:∀(kV doc pm:Value) (an:Option Addr) (cdv ct:Value) (us:List Value),us.length=ps.length→bindArgs (PySem.W.fnOf x qual (cw st) (bL st) (ao st) .none kV doc pm an cdv ct) ⟨us,[]⟩=pure (ps.zip us)):jL K fd ps []:=by
  obtain⟨oc,od,kV,doc,pm,an,cdv,ct,osl,rfl,lk,hcd⟩:=F.ex
  exact .all (h kV doc pm an cdv ct)
theorem qj{x qual:Str}{st:Stmt}{f:Addr}{oc:Value}{od an:Option Addr}{osl:Array (Option Value)}{kV doc pm cdv ct:Value}(l:K.lookup f=some ⟨oc,od,.func (PySem.W.fnOf x qual (cw st) (bL st) (ao st) .none kV doc pm an cdv ct),osl⟩)
    (c:PySem.W.codeIn K cdv qual=true)(k:PySem.W.keepIn K (.ref f)=true):yw K x qual st f (PySem.W.fnOf x qual (cw st) (bL st) (ao st) .none kV doc pm an cdv ct):=⟨⟨oc,od,kV,doc,pm,an,cdv,ct,osl,rfl,l,c⟩,k⟩
end
theorem ke{n:Nat}(h:n≤1000):n < sizeLine:=Nat.lt_of_le_of_lt h (by decide)
section
variable{X:Cx}
theorem pv(i:Nat){x:Str}{pos:Pos}(hN:X.N[i]?=some x:=by rfl)(hv:sC X.env.scope x:=by first | exact Or.inl rfl | exact Or.inr (Or.inl rfl) | exact Or.inr (Or.inr rfl))(hd:(x==("__debug__":Str))=false:=by decide)
    (hcd:(x==("__classdict__":Str))=false:=by decide):PE X (.Name x pos) (k_ i):=eE hN hv hd hcd
end
theorem y_{A B:Prop}(h:B):if false=true then A else B:=by
  rw [if_neg Bool.false_ne_true]
  exact h
theorem ti{A B:Prop}(h:A):if true=true then A else B:=by
  rw [if_pos rfl]
  exact h
def aq(H H':Hp):Prop:=∀b o,H b=some o→H' b=some o
theorem aq.refl(H:Hp):aq H H:=fun _ _ h=>h
theorem aq.trans{H H1 H2:Hp}(a:aq H H1)(b:aq H1 H2):aq H H2:=fun c o h=>b c o (a c o h)
theorem aq.free{H H':Hp}(e:aq H H'){l:Addr}(h:H' l=Option.none):H l=Option.none:=by
  cases q:H l with
  | none=>rfl
  | some o=>
    rw [e l o q] at h
    cases h
theorem aq.seq{K:PySem.W.Frag}{H H':Hp}{a:Addr}{xs:List V}(e:aq H H')(h:er K H a xs):er K H' a xs:=by
  rcases h with (h | ⟨o,h⟩) | h
  · exact .inl (.inl (e _ _ h))
  · exact .inl (.inr ⟨o,e _ _ h⟩)
  · exact .inr h
end L2
set_option maxHeartbeats 4000000
namespace L2
open PySem PySem.Spec PyProof.Rows
def Bt(n:Nat)(i:Int):Prop:=i.natAbs < 2 ^ n
theorem Bt.mono{m n:Nat}{i:Int}(h:Bt m i)(hm:m≤n):Bt n i:=Nat.lt_of_lt_of_le h (Nat.pow_le_pow_right (by decide) hm)
theorem Bt.log{m:Nat}{i:Int}(h:Bt m i)(hm:0 < m):i.natAbs.log2 < m:=by
  unfold Bt at h
  rcases Nat.eq_zero_or_pos i.natAbs with h0 | hp
  · rw [h0];exact hm
  · exact(Nat.log2_lt (by lia)).mpr h
theorem Bt.bits{m:Nat}{i:Int}(h:Bt m i)(hm:0 < m):Builtin.Int.intBits i≤m:=by
  unfold Builtin.Int.intBits
  split
  · exact Nat.zero_le _
  · exact h.log hm
theorem Bt.of_le{m:Nat}{i:Int}{j:Int}(h:Bt m j)(e:i.natAbs≤j.natAbs):Bt m i:=Nat.lt_of_le_of_lt e h
section
variable{X:Cx}
def u9(i j:Int):Prop:=Bt 4000 i∧Bt 4000 j
theorem tU:eJ X (binaryOp .Mult) (rI u9 fun i j=>.int (i*j)):=yB fun _ _ _ _ _ _ _ hc q=>
  mul_int q (.of_bits (Nat.le_trans (hc.1.bits (by decide)) (by decide)) (Nat.le_trans (hc.2.bits (by decide)) (by decide)))
def uZ(i j:Int):Prop:=j≠0∧Bt 8000 j
theorem qY:eJ X (binaryOp .FloorDiv) (rI uZ fun i j=>.int (i.fdiv j)):=yB fun _ _ _ _ _ _ _ hc q=>
  floordiv_int hc.1 q (.inl (PyProof.noPylong_of_log2 (Nat.lt_trans (hc.2.log (by decide)) (by decide))))
theorem xl:eJ X (compareOp .Is) (fun x y H Q=>∃b c,x=.bl b∧y=.bl c∧Q (.bl (b==c)) H):=by
  intro pins s σ H x y v u Q I rx ry h
  obtain⟨b,c,rfl,rfl,q⟩:=h
  cases rx;cases ry
  exact is_bool ⟨.bl _,H,I,rfl,q⟩
end
def io(H H':Hp):Prop:=∀a o,H a=some o→(∀xs,o≠.lst xs)→(∀ob xs,o≠.frz ob (.lst xs))→H' a=some o
theorem io.trans{H H1 H2:Hp}(a:io H H1)(b:io H1 H2):io H H2:=fun c o h n m=>b c o (a c o h n m) n m
theorem aq.ts{H H':Hp}(h:aq H H'):io H H':=fun a o e _ _=>h a o e
theorem io.tup{K:PySem.W.Frag}{H H':Hp}(h:io H H'){a:Addr}{xs:List V}(q:bR K H a xs):bR K H' a xs:=by
  rcases q with (q | ⟨o,q⟩) | q
  · exact .inl (.inl (h _ _ q (fun _ e=>nomatch e) (fun _ _ e=>nomatch e)))
  · exact .inl (.inr ⟨o,h _ _ q (fun _ e=>nomatch e) (fun _ _ e=>nomatch e)⟩)
  · exact .inr q
section
variable{X:Cx}
end
end L2
namespace L2
open PySem PySem.Spec PyProof.Rows
structure cB (K:PySem.W.Frag) (mg:Str→Option Value) (x:Str) (st:Stmt) (f:Addr) (fd:FuncData) (ps:List Str):Prop where
  F:yw K x x st f fd
  m:mg x=some (.ref f)
  b:jL K fd ps []
theorem wG{K:PySem.W.Frag}{mg:Str→Option Value}{h:Heap}{x:Str}{st:Stmt}{f:Addr}{ps:List Str}{oc:Value}{od an:Option Addr}{osl:Array (Option Value)}{kV doc pm cdv ct:Value}(X:K.In h)(G:h.Ns mainGlobals mg)(a:PySem.W.nsIn K mainGlobals x=some (some (.ref f)))
    (l:K.lookup f=some ⟨oc,od,.func (PySem.W.fnOf x x (cw st) (bL st) (ao st) .none kV doc pm an cdv ct),osl⟩)(c:PySem.W.codeIn K cdv x=true)(k:PySem.W.keepIn K (.ref f)=true)
    (hb:∀(kV doc pm:Value) (an:Option Addr) (cdv ct:Value) (us:List Value),us.length=ps.length→bindArgs (PySem.W.fnOf x x (cw st) (bL st) (ao st) .none kV doc pm an cdv ct) ⟨us,[]⟩=pure (ps.zip us)):
    cB K mg x st f (PySem.W.fnOf x x (cw st) (bL st) (ao st) .none kV doc pm an cdv ct) ps:=⟨qj l c k,PySem.W.mg_of X G a,(qj l c k).binds hb⟩
theorem AU{X:Cx}{x:Str}{st:Stmt}{f:Addr}{fd:FuncData}{ps:List Str}{k:Nat}{sp:Sp}{e:Expr}{es:List Expr}{t:TA}{p pos:Pos}(h:cB X.K X.mg x st f fd ps)(G:a' X.prog X.w X.K X.mg X.base dA k f fd ps sp)(hr:cF k X.A)(ha:PA X (e::es) t)
    (hg:Gl X x:=by rfl)(hdb:(x==("__debug__":Str))=false:=by decide)(he:starEach (e::es) X.env=(false,eval e X.env)::starEach es X.env:=by rfl)(hpl:(backTo pos (starEach es X.env)).any (·.1)=false:=by rfl):
    PE X (.Call (.Name x p) (e::es) [] pos) (sd sp [] E0 t):=tW G hr hg h.m h.F.kp h.b .nil zt ha hdb he hpl
theorem aq.new{H:Hp}{p:Addr}{o:HO}(h:H p=none):aq H (aQ H p o):=fun b u e=>by
  rw [ap (cG e h)];exact e
theorem aq.tup{K:PySem.W.Frag}{H H':Hp}{a:Addr}{xs:List V}(e:aq H H')(h:bR K H a xs):bR K H' a xs:=e.ts.tup h
end L2
namespace L2
open PySem PySem.Spec PyProof.Rows
def cS(t b:Int):Int × Int:=if b < 0 then(t.fdiv (-(Int.gcd t b:Int)),b.fdiv (-(Int.gcd t b:Int))) else(t.fdiv (Int.gcd t b:Int),b.fdiv (Int.gcd t b:Int))
theorem qB(x y:Int):Int.gcd y (x.fmod y)=Int.gcd x y:=by
  rw [Int.fmod_def,Int.gcd_sub_mul_left_right,Int.gcd_comm]
theorem ir(x:Int){y:Int}(h:y≠0):(x.fmod y).natAbs < y.natAbs:=by
  rcases Int.lt_or_gt_of_ne h with h | h
  · have h1:x.fmod y= -((-x).fmod (-y)):=by
      have:=Int.neg_fmod_neg x y
      lia
    have h2:=Int.fmod_nonneg_of_pos (-x) (b:= -y) (by lia)
    have h3:=Int.fmod_lt_of_pos (-x) (b:= -y) (by lia)
    lia
  · have h2:=Int.fmod_nonneg_of_pos x h
    have h3:=Int.fmod_lt_of_pos x h
    lia
theorem oi{t b:Int}(h:b≠0):(0:Int) < Int.gcd t b:=by
  have:=Int.gcd_pos_of_ne_zero_right t h
  lia
theorem j6{t b:Int}(h:b≠0):∃d:Int,d.natAbs=Int.gcd t b∧d≠0∧(cS t b).1*d=t∧(cS t b).2*d=b∧0 < (cS t b).2:=by
  have hg:=oi (t:=t) h
  have d1:(Int.gcd t b:Int) ∣ t:=Int.gcd_dvd_left ..
  have d2:(Int.gcd t b:Int) ∣ b:=Int.gcd_dvd_right ..
  unfold cS
  split
  · rename_i hb
    have e1:t.fdiv (-(Int.gcd t b:Int))*(-(Int.gcd t b:Int))=t:=Int.fdiv_mul_cancel (Int.neg_dvd.mpr d1)
    have e2:b.fdiv (-(Int.gcd t b:Int))*(-(Int.gcd t b:Int))=b:=Int.fdiv_mul_cancel (Int.neg_dvd.mpr d2)
    refine⟨-(Int.gcd t b:Int),by lia,by lia,e1,e2,?_⟩
    show 0 < b.fdiv (-(Int.gcd t b:Int))
    have h3:b.fdiv (-(Int.gcd t b:Int))*(Int.gcd t b:Int)= -b:=by rw [Int.mul_neg] at e2;lia
    exact Int.pos_of_mul_pos_left (by lia) (by lia) (b:=(Int.gcd t b:Int))
  · rename_i hb
    have e1:t.fdiv (Int.gcd t b:Int)*(Int.gcd t b:Int)=t:=Int.fdiv_mul_cancel d1
    have e2:b.fdiv (Int.gcd t b:Int)*(Int.gcd t b:Int)=b:=Int.fdiv_mul_cancel d2
    refine⟨(Int.gcd t b:Int),by lia,by lia,e1,e2,?_⟩
    show 0 < b.fdiv (Int.gcd t b:Int)
    exact Int.pos_of_mul_pos_left (by lia) (by lia) (b:=(Int.gcd t b:Int))
theorem qN{t b:Int}(h:b≠0):Int.gcd (cS t b).1 (cS t b).2=1:=by
  obtain⟨d,h1,h2,h3,h4,h5⟩:=j6 (t:=t) h
  have e:Int.gcd ((cS t b).1*d) ((cS t b).2*d)=Int.gcd (cS t b).1 (cS t b).2*d.natAbs:=Int.gcd_mul_right ..
  rw [h3,h4,←h1] at e
  have hd:0 < d.natAbs:=by lia
  exact(Nat.eq_of_mul_eq_mul_right hd (by rw [Nat.one_mul];exact e)).symm
theorem wF{t b:Int}(h:b≠0){n:Nat}(hb:Bt n b):Bt n (Int.gcd t b:Int):=by
  refine hb.of_le ?_
  have h1:=Nat.le_of_dvd (show 0 < b.natAbs by lia) (Int.ofNat_dvd.mp (by rw [Int.dvd_natAbs];exact Int.gcd_dvd_right t b))
  lia
mutual
def cnt:PyData→Nat
  | .tuple ds=>1+fR ds
  | .str _=>0
  | _=>1
def fR:List PyData→Nat
  | []=>0
  | d::ds=>cnt d+fR ds
end
mutual
def i_:PyData→Bool
  | .tuple ds=>ef ds
  | .str _=>false
  | .list _=>false
  | .dict _=>false
  | _=>true
def ef:List PyData→Bool
  | []=>true
  | d::ds=>i_ d&&ef ds
end
theorem jI{a:Int}(h:a.natAbs.log2 < 1920):(Str.ofString (toString a)).length≤1921:=by
  have e:=int_text_length_le (k:=1920) (by decide) h
  rw [PySem.ofString_length];lia
theorem eF(x:Str)(r:List Str):piled (x::r)=x.length+2+piled r:=by
  simp [piled]
theorem ij(ts:List Str):(tupleText ts).length≤piled ts+3:=by
  unfold tupleText
  rw [strLen_append,strLen_append]
  have h1:(("(":Str)).length=1:=by decide
  have h2:(Str.ofString (if (ts.length==1)=true then ",)" else ")")).length≤2:=by split<;>decide
  have h3:(Str.join ", " ts).length≤piled ts:=by
    cases ts with
    | nil=>show(Str.join ", " []).length≤0;decide
    | cons x r=>have:=join_length_add (x::r) (by simp);lia
  lia
mutual
theorem kd:∀{d:PyData},i_ d=true→d.showable=true→d.shown.length+2≤2000*cnt d
  | .none,_,_=>by show(Str.ofString "None").length+2≤2000*1;decide
  | .bool b,_,_=>by
    cases b
    · show(Str.ofString "False").length+2≤2000*1;decide
    · show(Str.ofString "True").length+2≤2000*1;decide
  | .int i,_,hs=>by
    simp only [PyData.showable,decide_eq_true_eq] at hs
    have:=jI hs
    show(Str.ofString (toString i)).length+2≤2000*1
    lia
  | .tuple ds,hn,hs=>by
    simp only [PyData.showable] at hs
    simp only [i_] at hn
    have h1:=gM hn hs
    have h2:=ij (PyData.shownAll ds)
    simp only [PyData.shown,cnt]
    lia
  | .str _,hn,_=>by simp [i_] at hn
  | .list _,hn,_=>by simp [i_] at hn
  | .dict _,hn,_=>by simp [i_] at hn
theorem gM:∀{ds:List PyData},ef ds=true→PyData.showableAll ds=true→piled (PyData.shownAll ds)≤2000*fR ds
  | [],_,_=>by simp [PyData.shownAll,piled]
  | d::ds,hn,hs=>by
    simp only [ef,Bool.and_eq_true] at hn
    simp only [PyData.showableAll,Bool.and_eq_true] at hs
    have h1:=kd hn.1 hs.1
    have h2:=gM hn.2 hs.2
    simp only [PyData.shownAll,fR,eF]
    lia
end
end L2
namespace L2
open PySem PySem.Spec PyProof.Rows
def dq(env:Env):List (Str × NameKind)→List (Str × Addr)→List (Str × Addr)
  | [],cs=>cs
  | (n,k)::r,cs=>dq env r (if k==.free then(n,(env.cells.lookup n).getD 0)::cs else cs)
theorem gn{env:Env}:∀(names:List (Str × NameKind)) (cs:List (Str × Addr)),(∀y∈names,y.2=.free→∃c,env.cells.lookup y.1=some c)→
    (forIn names cs (fun(x:Str × NameKind) (r:List (Str × Addr))=>(if (x.2==NameKind.free)=true then do let a ←cellOf env x.1;pure (ForInStep.yield ((x.1,a)::r)) else pure (ForInStep.yield r):Sem (ForInStep (List (Str × Addr))))):Sem (List (Str × Addr)))=pure (dq env names cs)
  | [],cs,_=>rfl
  | (n,k)::r,cs,h=>by
    rw [List.forIn_cons]
    have ih:=fun cs'=>gn (env:=env) r cs' (fun y hy=>h y (List.mem_cons_of_mem _ hy))
    by_cases hk:(k==NameKind.free)=true
    · have hk':k=.free:=by simpa using hk
      obtain⟨c,hc⟩:=h (n,k) List.mem_cons_self hk'
      have e:cellOf env n=pure c:=by unfold cellOf;rw [hc]
      simp only [hk,if_true,e,pure_bind,dq,hc,Option.getD_some]
      exact ih _
    · have hk':(k==NameKind.free)=false:=by simpa using hk
      simp only [hk',Bool.false_eq_true,if_false,pure_bind,dq]
      exact ih _
theorem fQ{scope:Scope}{env:Env}(h:∀y∈scope.names,y.2=.free→∃c,env.cells.lookup y.1=some c):closureFor scope env=pure (dq env scope.names []):=by
  have e:=gn (env:=env) scope.names [] h
  unfold closureFor
  simp only [pure_bind,bind_pure] at e ⊢
  exact e
theorem eB{env:Env}:∀(names:List (Str × NameKind)) (cs:List (Str × Addr)) (x:Str) (c:Addr),(∀y∈names,y.2=.free→∃c,env.cells.lookup y.1=some c)→(∀x c,cs.lookup x=some c→env.cells.lookup x=some c)→(dq env names cs).lookup x=some c→env.cells.lookup x=some c
  | [],cs,x,c,_,hs,h=>hs x c h
  | (n,k)::r,cs,x,c,hn,hs,h=>by
    refine eB r _ x c (fun y hy=>hn y (List.mem_cons_of_mem _ hy)) (fun x' c' e=>?_) h
    by_cases hk:(k==NameKind.free)=true
    · rw [if_pos hk] at e
      obtain⟨c0,hc⟩:=hn (n,k) List.mem_cons_self (by simpa using hk)
      rw [List.lookup_cons] at e
      cases hx:x'==n with
      | true=>
        rw [hx] at e
        have e1:x'=n:=by simpa using hx
        subst e1
        simp only [hc,Option.getD_some,Option.some.injEq] at e
        rw [←e];exact hc
      | false=>rw [hx] at e;exact hs x' c' e
    · rw [if_neg hk] at e
      exact hs x' c' e
theorem gh{env:Env}:∀(names:List (Str × NameKind)) (cs:List (Str × Addr)) (x:Str),((∃y∈names,y.1=x∧y.2=.free)∨∃c,cs.lookup x=some c)→∃c,(dq env names cs).lookup x=some c
  | [],cs,x,h=>by
    rcases h with ⟨y,hy,_⟩ | h
    · cases hy
    · exact h
  | (n,k)::r,cs,x,h=>by
    refine gh r _ x ?_
    by_cases hk:(k==NameKind.free)=true
    · rw [if_pos hk,List.lookup_cons]
      cases hx:x==n with
      | true=>exact .inr ⟨_,rfl⟩
      | false=>
        rcases h with ⟨y,hy,e1,e2⟩ | h
        · rcases List.mem_cons.mp hy with z | z
          · subst z;subst e1;simp at hx
          · exact .inl ⟨y,z,e1,e2⟩
        · exact .inr h
    · rw [if_neg hk]
      rcases h with ⟨y,hy,e1,e2⟩ | h
      · rcases List.mem_cons.mp hy with z | z
        · subst z;exact absurd (by simpa using e2) hk
        · exact .inl ⟨y,z,e1,e2⟩
      · exact .inr h
theorem br{env:Env}:∀{names:List (Str × NameKind)} {x:Str},(∀y∈names,y.2≠.cell)→(names.map fun(n,k)=>if (k==NameKind.free&&env.scope.kind==.function&&env.kindOf n==some .cell) then(n,NameKind.cell) else(n,k)).lookup x=some .cell∨
    (names.map fun(n,k)=>if (k==NameKind.free&&env.scope.kind==.function&&env.kindOf n==some .cell) then(n,NameKind.cell) else(n,k)).lookup x=some .free→∃y∈names,y.1=x∧y.2=.free
  | [],x,_,h=>by simp at h
  | (n,k)::r,x,hc,h=>by
    have ih:=@br env r x (fun y hy=>hc y (List.mem_cons_of_mem _ hy))
    have nc:k≠.cell:=hc (n,k) List.mem_cons_self
    rw [List.map_cons] at h
    cases hx:x==n with
    | true=>
      have e1:x=n:=by simpa using hx
      subst e1
      refine⟨(x,k),List.mem_cons_self,rfl,?_⟩
      by_cases q:(k==NameKind.free&&env.scope.kind==.function&&env.kindOf x==some .cell)=true
      · simp only [Bool.and_eq_true,beq_iff_eq] at q;exact q.1.1
      · simp only [q,Bool.false_eq_true,if_false,List.lookup_cons,beq_self_eq_true,Option.some.injEq] at h
        rcases h with h | h
        · exact absurd h nc
        · exact h
    | false=>
      have e2:∀(l:List (Str × NameKind)),((if (k==NameKind.free&&env.scope.kind==.function&&env.kindOf n==some .cell)=true then(n,NameKind.cell) else(n,k))::l).lookup x=l.lookup x:=fun l=>by
        split<;>simp [List.lookup_cons,hx]
      simp only [e2] at h
      obtain⟨y,hy,z⟩:=ih h
      exact⟨y,List.mem_cons_of_mem _ hy,z⟩
theorem b_{env:Env}:∀{names:List (Str × NameKind)} {x:Str},names.lookup x=some .free→
    (names.map fun(n,k)=>if (k==NameKind.free&&env.scope.kind==.function&&env.kindOf n==some .cell) then(n,NameKind.cell) else(n,k)).lookup x≠some .local
  | [],x,h=>by simp at h
  | (n,k)::r,x,h=>by
    rw [List.map_cons]
    cases hx:x==n with
    | true=>
      simp only [hx,List.lookup_cons] at h
      cases h
      show List.lookup x ((if (NameKind.free==NameKind.free&&env.scope.kind==.function&&env.kindOf n==some .cell)=true then(n,NameKind.cell) else(n,NameKind.free))::_)≠_
      split<;>simp [List.lookup_cons,hx]
    | false=>
      simp only [hx,List.lookup_cons] at h
      have ih:=@b_ env r x h
      have e2:∀(l:List (Str × NameKind)),((if (k==NameKind.free&&env.scope.kind==.function&&env.kindOf n==some .cell)=true then(n,NameKind.cell) else(n,k))::l).lookup x=l.lookup x:=fun l=>by
        split<;>simp [List.lookup_cons,hx]
      simp only [e2]
      exact ih
def am(X:Cx)(scope:Scope)(cp:List (Nat × Str))(tgN:List Str)(C:Addr)(s0:Shared)(H0:Hp)(fp:List Addr):Cx where
  prog:=X.prog
  w:=X.w
  K:=X.K
  mg:=X.mg
  base:=X.base
  A:=X.A
  N:=cp.map (·.2)++tgN
  s₀:=s0
  H₀:=H0
  env:=compEnvC scope (dq X.env scope.names []) C X.env
  outer:=X.stack
  stack:=X.stack
  ex:=fp
  fn:=fun x=>scope.names.lookup x==some .local
  calm:=X.calm
  pn:=[]
  xe:=fun _ _=>False
def nI(X:Cx)(ifs:List Expr)(t:TT):Prop:=
  ∀(pins:List (Addr × Obj)) (s:Shared) (σ:L2.St) (H:Hp) (Q:Bool→Hp→Prop),av X pins σ H s→t σ H Q→
    wpAny (model X.prog X.w) X.A (forIn ifs true fun c r=>if r=true then do let ok ←isTrue c X.env (eval c X.env);pure (ForInStep.yield ok) else pure (ForInStep.yield r)) (TP X pins σ Q) X.xe s
theorem kX{X:Cx}:nI X [] (fun _ H Q=>Q true H):=fun _ _ _ H _ I h=>wpAny_tests_nil ⟨H,I,h⟩
theorem ul{X:Cx}{c:Expr}{t:TT}(h:PT X c t):nI X [c] t:=fun pins s σ H Q I q=>wpAny_tests_one (h pins s σ H Q I q)
abbrev j9:Value→Shared→Prop:=fun _ _=>False
def wo(prog:Program)(w:World)(A:Around)(elt tg:Expr)(ifs:List Expr)(env:Env)(it acc:Value)(onward:Shared→Prop)(v:Value)(u:Shared):Prop:=
  wpAny (model prog w) A (letOwnedTupleGo tg it v) (fun _ u1=>wpAny (model prog w) A (assign tg env v) (fun _ u2=>wpAny (model prog w) A
    (forIn ifs true fun c r=>if r=true then do let ok ←isTrue c env (eval c env);pure (ForInStep.yield ok) else pure (ForInStep.yield r)) (fun ok u3=>if ok=true then wpAny (model prog w) A (eval elt env) (fun x u4=>wpAny (model prog w) A (call (.builtin "list.append") [acc,x]) (fun _ u5=>onward u5) j9 u4) j9 u3 else onward u3) j9 u2) j9 u1) j9 u
theorem gp{prog:Program}{w:World}{A:Around}{R:Result→Shared→Prop}{elt tg iter:Expr}{ifs:List Expr}{scope:Scope}{pos:Pos}{it acc:Value}{env:Env}(J:Nat→Shared→Prop)
    (turn:∀n u,J n u→wpAny (model prog w) A (pyNext it) (fun r u1=>(r=none→R (.ok .next) u1)∧∀v,r=some v→wo prog w A elt tg ifs env it acc (fun u2=>∃m,m < n∧J m u2) v u1) j9 u){n0:Nat}{u0:Shared}(cV:J n0 u0):
    codeAny (model prog w) A (.compLoop (.ListComp elt [⟨tg,iter,ifs,0⟩] scope pos) 0 it acc env) R u0:=by
  refine codeAny_loop rfl J (fun n u ju=>?_) n0 cV
  show wpAny _ A ((compTurn (.ListComp elt [⟨tg,iter,ifs,0⟩] scope pos) 0 it acc env).onRaise _) _ _ u;refine wpAny_noted ?_;rw [compTurn_list]
  refine wpAny_bind (wpAny_standAt (wpAny_bind (wpAny_mono (turn n u ju) (fun r u1 k1=>?_) fun _ _ z=>z.elim)))
  cases r with
  | none=>exact wpAny_pure (k1.1 rfl)
  | some v=>
    refine wpAny_bind (wpAny_mono (k1.2 v rfl) (fun _ u2 k2=>wpAny_bind (wpAny_mono k2 (fun _ u3 k3=>wpAny_bind (wpAny_mono k3 (fun ok u4 k4=>?_) fun _ _ z=>z.elim)) fun _ _ z=>z.elim)) fun _ _ z=>z.elim)
    cases ok with
    | false=>rw [if_neg Bool.false_ne_true] at k4;exact wpAny_pure ⟨rfl,k4⟩
    | true=>
      rw [if_pos rfl] at k4
      refine wpAny_bind (wpAny_bind (wpAny_mono k4 (fun x u5 k5=>wpAny_bind (wpAny_mono k5 (fun _ u6 k6=>?_) fun _ _ z=>z.elim)) fun _ _ z=>z.elim));exact wpAny_pure (wpAny_pure ⟨rfl,k6⟩)
def cA(cp:List (Nat × Str))(nT:Nat)(σ:L2.St):L2.St:=cp.map (fun p=>(σ[p.1]?).join)++List.replicate nT none
structure oG (cp:List (Nat × Str)) (nT:Nat) (wi:TI) (g:TG) (tc:TT) (te:TE) (σ:L2.St) (H:Hp) (Q:VK):Prop where
  go:wi σ H fun J H1=>∀l,H1 l=none→
  ∃W:Nat→Nat→L2.St→Hp→Prop,(∃m,W 0 m (cA cp nT σ) (aQ H1 l (.lst [])))∧∀i m σ' H',W i m σ' H'→
    (J.stop i H'∧Q (.ref l) H')∨(J.go i H'∧∃N:L2.St→Hp→Prop,(∀σ2 H2,N σ2 H2→∃m',m' < m∧W (i+1) m' σ2 H2)∧
      ∀x H2,J.yld i H' x H2→g x σ' H2 fun σ2 H3=>tc σ2 H3 fun b H4=>if b=true then te σ2 H4 fun v H5=>∃ys,H5 l=some (.lst ys)∧ys.length < sizeLine∧N σ2 (aQ H5 l (.lst (ys++[v]))) else N σ2 H4)
theorem tY{X:Cx}{elt iter tg:Expr}{ifs:List Expr}{scope:Scope}{pos:Pos}{wi:TI}{g:TG}{tc:TT}{te:TE}(sc0:Scope)(N0:List Str)(cp:List (Nat × Str))(tgN:List Str)
    (hc:X.calm=true)(hsc:X.env.scope=sc0)(hN0:X.N=N0)(hi:PI X tg iter wi)
    (hg:∀C s0 H0 fp,PG (am X scope cp tgN C s0 H0 fp) tg g)
    (ht:∀C s0 H0 fp,nI (am X scope cp tgN C s0 H0 fp) ifs tc)
    (he:∀C s0 H0 fp,PE (am X scope cp tgN C s0 H0 fp) elt te)
    (hk:scope.kind=.function)(hcell:∀y∈scope.names,y.2≠.cell)(hnames:∀y∈scope.names,y.2=.local→scope.names.lookup y.1=some .local)
    (hfr:∀y∈scope.names,y.2=.free→scope.names.lookup y.1=some .free∧sc0.names.lookup y.1=some .cell)
    (hcp:∀p∈cp,N0[p.1]?=some p.2)(hcq:∀p∈cp,sc0.names.lookup p.2=some .cell∧scope.names.lookup p.2=some .free)
    (hs:∀x,foldedSetIterable iter X.env x=pure x:=by intro _;rfl):
    PE X (.ListComp elt [⟨tg,iter,ifs,0⟩] scope pos) (oG cp tgN.length wi g tc te):=by
  intro pins s σ H Q I h
  have hkind:∀x,X.env.kindOf x=sc0.names.lookup x:=fun x=>by unfold Env.kindOf;rw [hsc]
  have hfree:∀y∈scope.names,y.2=.free→∃c,X.env.cells.lookup y.1=some c:=fun y hy e=>I.ok.has y.1 (.inl (by rw [hkind];exact(hfr y hy e).2))
  rw [eval_ListComp]
  refine wpAny_comprehension_free (use:=none) rfl hs (fQ hfree) hk hnames (wpAny_mono (hi pins s σ H _ I h.go) (fun xv s₁ h₁=>wpAny_mono h₁ (fun itv s₂ h₂=>?_) fun _ _ e=>e) fun _ _ e=>e)
  obtain⟨it,fp,tn,J,H2,rfl,I2,T,st2,f2,hq⟩:=h₂
  refine wpAny_newObj_type ?_
  have hlF:H2 s₂.heap.objs.size=none:=I2.hok.fresh (Nat.le_refl _)
  have I3:av X pins σ (aQ H2 s₂.heap.objs.size (.lst [])) {s₂ with heap:=s₂.heap.push {cls:=.type "list",data:=.seq ([]:List Value).toArray}}:=I2.lnew (t':=s₂.toks) .nil (Nat.zero_le _)
  obtain⟨W,⟨m0,w0⟩,turn⟩:=hq _ hlF
  have f3:∀b∈fp,dY X pins (aQ H2 s₂.heap.objs.size (.lst [])) b:=fun b hb=>by
    obtain⟨f0,fr⟩:=f2 b hb
    obtain⟨o,ho,_⟩:=T.obj _ _ st2 b hb
    exact⟨by rw [ap (Nat.ne_of_lt (Heap.lt_size ho))];exact f0,fr⟩
  have st3:tn 0 (s₂.heap.push {cls:=.type "list",data:=.seq ([]:List Value).toArray}):=T.keep _ _ _ st2 fun b _ o e=>Heap.get?_push_of_some _ e
  generalize hD:s₂.heap.objs.size=D at*
  generalize hs3:({s₂ with heap:=s₂.heap.push {cls:=.type "list",data:=.seq ([]:List Value).toArray}}:Shared)=s₃ at*
  have hst3:tn 0 s₃.heap:=by rw [←hs3];exact st3
  refine wpAny_newFunctionEnv hcell (by intro y hy;simp at hy) (fun h₁ hns₁ hsb₁=>?_) hk
  generalize hC:s₃.heap.objs.size=C at*
  have old:∀b o,s₃.heap.get? b=some o→h₁.get? b=some o:=fun b o e=>hsb₁.extBut b o (by rw [←hC];exact Nat.ne_of_lt (Heap.lt_size e)) (Heap.get?_push_of_some _ e)
  have nC:∀b o,s₃.heap.get? b=some o→b≠C:=fun b o e=>by rw [←hC];exact Nat.ne_of_lt (Heap.lt_size e)
  have hHC:(aQ H2 D (.lst [])) C=none:=I3.hok.fresh (by rw [hC];exact Nat.le_refl _)
  have clS:∀x c,(dq X.env scope.names []).lookup x=some c→X.env.cells.lookup x=some c:=fun x c e=>eB _ _ x c hfree (fun _ _ z=>by simp at z) e
  have clH:∀x,(∃y∈scope.names,y.1=x∧y.2=.free)→∃c,(dq X.env scope.names []).lookup x=some c:=fun x e=>gh _ _ x (.inl e)
  have ok':(am X scope cp tgN C s₃ (aQ H2 D (.lst [])) fp).Ok:=by
    refine⟨I.ok.mod,hk,I.ok.glob,I.ok.blt,by rw [←hC];exact Nat.le_refl _,fun x y c e1 e2=>I.ok.inj x y c (clS _ _ e1) (clS _ _ e2),fun x e=>clH x (br hcell e),fun x c e1 e2=>?_,I.ok.hd,I.ok.frames,.inl rfl,fun b hb=>?_,fun b o e=>I3.bs b o e,?_,fun b o e hb=>?_,fun b hb z=>?_,I3.stack,fun b hb=>I3.stkFree b hb⟩
    · exfalso
      have e1':scope.names.lookup x=some .local:=by simpa [am] using e1
      have e2':=clS x c e2
      obtain⟨c',hc'⟩:∃y∈scope.names,y.1=x∧y.2=.free:=by
        by_cases q:∃y∈scope.names,y.1=x∧y.2=.free
        · exact q
        · exfalso
          have:∀(names:List (Str × NameKind)) (cs:List (Str × Addr)),(¬∃y∈names,y.1=x∧y.2=.free)→cs.lookup x=none→(dq X.env names cs).lookup x=none:=by
            intro names
            induction names with
            | nil=>intro cs _ h;exact h
            | cons y r ih=>
              intro cs hn hcs
              obtain⟨n,k⟩:=y
              refine ih _ (fun⟨y,hy,z⟩=>hn ⟨y,List.mem_cons_of_mem _ hy,z⟩) ?_
              by_cases hk:(k==NameKind.free)=true
              · rw [if_pos hk,List.lookup_cons]
                cases hx:x==n with
                | true=>exact absurd ⟨(n,k),List.mem_cons_self,(by simpa using hx:x=n).symm,by simpa using hk⟩ hn
                | false=>exact hcs
              · rw [if_neg hk];exact hcs
          have z:=this scope.names [] q rfl
          have e2'':(dq X.env scope.names []).lookup x=some c:=e2
          rw [z] at e2'';cases e2''
      have z:=(hfr c' hc'.1 hc'.2.2).1
      rw [hc'.2.1,e1'] at z;cases z
    · obtain⟨f0,f1,f4,f5,f6,f7⟩:=f3 b hb
      obtain⟨o,ho,_⟩:=T.obj _ _ hst3 b hb
      exact⟨nC b o ho,fun x c e=>f6 x c (clS x c e)⟩
    · exact Nat.le_trans I.ok.bsz I3.sz
    · obtain⟨f0,f1,f4,f5,f6,f7⟩:=f3 b hb
      rcases f5 with z | z
      · exact I.ok.noex b o e z
      · have:=(I.ok.bs b o e).1
        exact absurd (Nat.lt_of_lt_of_le (Heap.lt_size this) z) (Nat.lt_irrefl _)
    · obtain⟨f0,f1,f4,f5,f6,f7⟩:=f3 b hb
      rcases List.mem_cons.mp (I3.stkSub b z) with z | z
      · exact f1 z
      · exact f4 z
  have I4:av (am X scope cp tgN C s₃ (aQ H2 D (.lst [])) fp) [] (cA cp tgN.length σ) (aQ H2 D (.lst [])) {s₃ with heap:=h₁,toks:=s₃.toks+([]:List (Str × Value)).length}:=by
    refine⟨ok',rfl,I3.bare,Un.kept old,⟨_,hns₁,fun i x v e1 e2 e3=>?_⟩,fun x c e=>?_,hHC,fun x c e=>I3.freeC x c (clS x c e),fun p hp=>by simp [am] at hp,I3.hok.kept old,by simp [cA,am]⟩
    · have hlt:i < cp.length:=by
        by_cases q:i < cp.length
        · exact q
        · exfalso
          unfold cA at e2
          rw [List.getElem?_append_right (by simp;lia)] at e2
          rw [List.getElem?_replicate] at e2
          split at e2<;>cases e2
      have e1':(cp.map (·.2))[i]?=some x:=by
        have e1'':(cp.map (·.2)++tgN)[i]?=some x:=e1
        rwa [List.getElem?_append_left (by simp;exact hlt)] at e1''
      have e2':(cp.map (fun p=>(σ[p.1]?).join))[i]?=some (some v):=by
        unfold cA at e2
        rwa [List.getElem?_append_left (by simp;exact hlt)] at e2
      rw [List.getElem?_map,List.getElem?_eq_getElem hlt] at e1' e2'
      have ex:(cp[i]).2=x:=by simpa using e1'
      have ev:(σ[(cp[i]).1]?).join=some v:=by simpa using e2'
      have ev':σ[(cp[i]).1]?=some (some v):=by
        cases q:σ[(cp[i]).1]? with
        | none=>rw [q] at ev;cases ev
        | some z=>rw [q] at ev;simp only [Option.join_some] at ev;rw [ev]
      have hN:=hcp cp[i] (List.getElem_mem hlt)
      rw [←hN0] at hN
      obtain⟨hcl,hcf⟩:=hcq cp[i] (List.getElem_mem hlt)
      rw [ex] at hN hcl hcf
      obtain⟨m,hn,hl⟩:=I3.loc
      obtain⟨u,r,l⟩:=hl _ x v hN ev' (.inr (.inl (by rw [hsc];exact hcl)))
      refine⟨u,r,.inr ?_⟩
      rcases l with ⟨k1,_⟩ | ⟨k1,c,hcc,o,ho,hd⟩
      · rw [hkind,hcl] at k1;cases k1
      · have e3':(relabel scope X.env).names.lookup x=some .local∨(relabel scope X.env).names.lookup x=some .cell∨(relabel scope X.env).names.lookup x=some .free:=e3
        have nl:(relabel scope X.env).names.lookup x=some .cell∨(relabel scope X.env).names.lookup x=some .free:=by
          rcases e3' with z | z | z
          · exact absurd z (b_ hcf)
          · exact .inl z
          · exact .inr z
        obtain⟨c',hc'⟩:=clH x (br hcell nl)
        have:=clS x c' hc'
        rw [hcc] at this;cases this
        exact⟨nl,c,hc',o,old c o ho,hd⟩
    · obtain⟨v,o,ho,hd⟩:=I3.cell x c (clS x c e)
      exact⟨v,o,old c o ho,hd⟩
  have hst4:tn 0 h₁:=T.keep _ _ _ hst3 fun b _ o e=>old b o e
  have loop:codeAny (model X.prog X.w) X.A (.compLoop (.ListComp elt [⟨tg,iter,ifs,0⟩] scope pos) 0 (.ref it) (.ref D) (compEnvC scope (dq X.env scope.names []) C X.env))
      (compPost (model X.prog X.w) X.A X.xe none (EP X pins σ Q) (.ref D) C) {s₃ with heap:=h₁,toks:=s₃.toks+([]:List (Str × Value)).length}:=by
    refine gp (fun n s'=>∃i σ' H',av (am X scope cp tgN C s₃ (aQ H2 D (.lst [])) fp) [] σ' H' s'∧tn i s'.heap∧(∀b∈fp,H' b=none)∧W i n σ' H') ?_ (n0:=m0) ⟨0,_,_,I4,hst4,fun b hb=>(f3 b hb).1,w0⟩
    rintro n s5 ⟨i,σ5,H5,I5,st5,fr5,w5⟩
    have stat:∀{H':Hp},(∀b∈fp,H' b=none)→∀b∈fp,dY (am X scope cp tgN C s₃ (aQ H2 D (.lst [])) fp) [] H' b:=fun hn b hb=>
      ⟨hn b hb,(ok'.exf b hb).1,ok'.exfs b hb,.inl hb,(ok'.exf b hb).2,fun p hp=>by simp [am] at hp⟩
    rcases turn i n σ5 H5 w5 with ⟨stop,qn⟩ | ⟨go,N,hN,step⟩
    · refine bz (T.done (am X scope cp tgN C s₃ (aQ H2 D (.lst [])) fp) rfl rfl rfl hc i [] s5 σ5 H5 (fun _ _=>False) I5 (stat fr5) st5 stop) fun r s6 ⟨hr,I6⟩=>?_
      subst hr
      refine⟨fun _=>?_,fun v z=>by cases z⟩
      obtain⟨m,hn,_⟩:=I6.loc
      refine⟨m,hn,fun h' sb=>⟨.ref D,H5,?_,rfl,qn⟩⟩
      have ub:=I6.base
      have kp:∀b u,b≠C→s6.heap.get? b=some u→h'.get? b=some u:=fun b u ne e=>sb.extBut b u ne e
      have nit:∀b u,H5 b=some u→b≠C:=fun b u e z=>by
        have:=I6.free
        rw [z] at e
        rw [show H5 C=none from this] at e;cases e
      refine I3.call' (s':={s6 with heap:=h'}) (ch:=fp) I6.os ⟨fun b o e n hb hx=>kp b o (nC b o e) (ub.keep b o e n hb hx),fun b o e n hb hx=>?_,ub.free,fun b o e hx=>?_,ub.tups,ub.frzs,ub.tbls⟩ (fun b u e=>?_) I6.bare (fun b hb=>?_)
      · obtain⟨sl,q⟩:=ub.slot b o e n hb hx
        exact⟨sl,kp b _ (nC b o e) q⟩
      · obtain⟨o',q⟩:=ub.there b o e hx
        exact⟨o',kp b _ (nC b o e) q⟩
      · refine(I6.hok b u e).stay (fun c v hc q=>kp c v ?_ q) (fun _ q=>q) fun _ _ q=>q
        rcases hc with z | z
        · rw [z];exact nit b u e
        · exact nit c _ z
      · obtain⟨f0,f1,f4,f5,f6,f7⟩:=f3 b hb
        exact⟨f5,f1,f6,f7⟩
    · refine bz (T.item (am X scope cp tgN C s₃ (aQ H2 D (.lst [])) fp) rfl rfl rfl hc i [] s5 σ5 H5 (fun _ _=>False) I5 (stat fr5) st5 go) fun r s6 ⟨u,hr,h6⟩=>?_
      subst hr
      refine⟨fun z=>(by cases z),fun v z=>?_⟩
      cases z
      refine bz h6 fun _ s7 ⟨x,H7,I7,r7,y7,st7,fr7⟩=>?_
      have I7':=I7.pinned (stat fr7) (T.obj _ _ st7)
      have again:∀{σ8:L2.St} {H8:Hp} {s8:Shared},av (am X scope cp tgN C s₃ (aQ H2 D (.lst [])) fp) ([]++eX fp s7.heap) σ8 H8 s8→N σ8 H8→∃m,m < n∧∃i σ' H',av (am X scope cp tgN C s₃ (aQ H2 D (.lst [])) fp) [] σ' H' s8∧tn i s8.heap∧(∀b∈fp,H' b=none)∧W i m σ' H':=fun{σ8 H8 s8} I8 n8=>by
        obtain⟨m',hm,w8⟩:=hN σ8 H8 n8
        refine⟨m',hm,i+1,σ8,H8,I8.unpinned,T.keep _ _ _ st7 fun b hb o e=>(I8.pin (b,o) (List.mem_append_right _ (List.mem_append_right _ (bc hb e)))).1,fun b hb=>?_,w8⟩
        obtain⟨o,e,d⟩:=T.obj _ _ st7 b hb
        exact(I8.pin (b,o) (List.mem_append_right _ (List.mem_append_right _ (bc hb e)))).2.1
      refine bz (hg C s₃ (aQ H2 D (.lst [])) fp _ s7 σ5 H7 x u _ I7' r7 (step x H7 y7)) fun _ s8 ⟨σ8,H8,I8,q8⟩=>?_
      refine bz (ht C s₃ (aQ H2 D (.lst [])) fp _ s8 σ8 H8 _ I8 q8) fun ok s9 ⟨H9,I9,q9⟩=>?_
      cases ok with
      | false=>
        rw [if_neg Bool.false_ne_true] at q9 ⊢
        exact again I9 q9
      | true=>
        rw [if_pos rfl] at q9 ⊢
        refine bz (he C s₃ (aQ H2 D (.lst [])) fp _ s9 σ8 H9 _ I9 q9) fun v s10 ⟨xv,H10,I10,r10,ys,hl,hz,n10⟩=>?_
        refine bz (ee _ s10 σ8 H10 (.ref D) [xv] (.ref D) [v] (fun _ H=>N σ8 H) I10 rfl (.cons r10 .nil) ⟨D,ys,xv,rfl,rfl,hl,hz,n10⟩) fun _ s11 ⟨_,H11,I11,_,q11⟩=>?_
        exact again I11 q11
  exact codeAny_compStart_list loop (T.self X.A 0 _ _ _ hst4 loop)
end L2
namespace L2
open PySem PySem.Spec PyProof.Rows
section
variable{X:Cx}
def rO(K:PySem.W.Frag):R2:=fun x y H Q=>∃a b xs ys,x=.ref a∧y=.ref b∧bR K H a xs∧bR K H b ys∧xs.length+ys.length≤sizeLine∧∀p H',aq H H'→bR K H' p (xs++ys)→Q (.ref p) H'
theorem tP:eJ X (binaryOp .Add) (rO X.K):=by
  intro pins s σ H x y v u Q I rx ry h
  obtain⟨a,b,xs,ys,rfl,rfl,ha,hb,hz,q⟩:=h
  cases rx;cases ry
  by_cases hx:xs=[]
  · obtain⟨i1,r1,p1,_⟩:=I.tuple ha
    obtain⟨i2,r2,p2,_⟩:=I.tuple hb
    obtain⟨m,F⟩:=I.fr
    have e1:i1=[]:=by subst hx;cases r1;rfl
    refine add_tuples F (qS (g:=X.base)) p1 p2 (fun _=>?_) (fun z1 _=>absurd e1 z1) (fun z1 _ _ _ _=>absurd e1 z1) (by rw [←r1.length,←r2.length];exact hz)
    exact⟨.ref b,H,I,rfl,q b H (aq.refl H) (by rw [hx];exact hb)⟩
  · exact tQ pins s σ H (.ref a) (.ref b) _ _ Q I rfl rfl ⟨a,b,xs,ys,rfl,rfl,ha,hb,hx,hz,fun z=>q a H (aq.refl H) (by rw [z,List.append_nil];exact ha),fun _ p hp=>q p _ (aq.new hp) (bR.of ar)⟩
theorem m_{x:V}{us:List Value}(r:aC [x] us):∃u,us=[u]∧aZ x u:=by
  cases r with
  | cons p p'=>cases p';exact⟨_,rfl,p⟩
end
end L2
namespace L2
open PySem PySem.Spec PyProof.Rows
section
variable{X:Cx}
end
theorem pL{e:Expr}{es:List Expr}{env:Env}(h:PySem.W.isStarred e=false):starEach (e::es) env=(false,eval e env)::starEach es env:=by
  cases e<;>first | rfl | cases h
theorem xx{X:Cx}{e:Expr}{es:List Expr}{te:TE}{t:TA}(ha:PE X e te)(hr:PA X es t)(h:PySem.W.isStarred e=false:=by rfl):PA X (e::es) (ms te t):=kW ha hr (pL h)
def oJ:List (Int × Int)→TA
  | []=>yf
  | p::r=>ms (zX (ms (tC (.int p.1)) (ms (tC (.int p.2)) yf))) (oJ r)
@[irreducible] def A7(ps:List (Int × Int)):TA:=oJ ps
structure dC where
  one:Int
  other:Int
  top:Int
  bot:Int
  worth:Int
structure bu where
  things:Int
  ties:List dC
  pat:List Int
  asks:Int
structure dC.Ok (n:Int) (t:dC):Prop where
  o0:0≤t.one
  o1:t.one < t.other
  o2:t.other < n
  c0:0≤t.top
  c1:t.top≤t.bot
  b0:1≤t.bot
  b1:t.bot≤100
  w0:0≤t.worth
  w1:t.worth≤1000
  cop:Int.gcd t.top t.bot=1
structure bu.Ok (w:bu):Prop where
  t0:0≤w.things
  t1:w.things≤12
  ties:∀t∈w.ties,t.Ok w.things
  len:w.ties.length≤16
  pl:(w.pat.length:Int)=w.things
  pat:∀p∈w.pat,0≤p∧p≤20
  a0:0≤w.asks
  a1:w.asks≤40
def yK(K:PySem.W.Frag)(H:Hp)(v:V)(t:dC):Prop:=∃p q,v=.ref p∧bR K H p [.int t.one,.int t.other,.ref q,.int t.worth]∧bR K H q [.int t.top,.int t.bot]
inductive km (K:PySem.W.Frag) (H:Hp):List V→List dC→Prop
  | nil:km K H [] []
  | cons {v vs t ts}:yK K H v t→km K H vs ts→km K H (v::vs) (t::ts)
structure Bj (K:PySem.W.Frag) (H:Hp) (v:V) (w:bu):Prop where
  ex:∃a b c ts,v=.ref a∧bR K H a [.int w.things,.ref b,.ref c,.int w.asks]∧bR K H b ts∧km K H ts w.ties∧bR K H c (w.pat.map V.int)
section
variable{K:PySem.W.Frag}{H H':Hp}
end
theorem m6{t b:Int}(hb:0 < b)(h0:0≤t)(h1:t≤b)(h2:b≤100):0≤(cS t b).1∧(cS t b).1≤(cS t b).2∧1≤(cS t b).2∧(cS t b).2≤100:=by
  obtain⟨d,e1,e2,e3,e4,e5⟩:=j6 (t:=t) (b:=b) (by lia)
  generalize (cS t b).1=x at*
  generalize (cS t b).2=y at*
  have dp:0 < d:=by
    rcases Int.lt_or_gt_of_ne e2 with z | z
    · exfalso
      have:y*d < 0:=Int.mul_neg_of_pos_of_neg e5 z
      lia
    · exact z
  have x0:0≤x:=by
    rcases Int.lt_or_le x 0 with z | z
    · have:x*d < 0:=Int.mul_neg_of_neg_of_pos z dp
      lia
    · exact z
  have xy:x≤y:=by
    rcases Int.lt_or_le y x with z | z
    · have:y*d < x*d:=Int.mul_lt_mul_of_pos_right z dp
      lia
    · exact z
  have yb:y≤y*d:=by
    have:=Int.mul_le_mul_of_nonneg_left (show(1:Int)≤d by lia) (show 0≤y by lia)
    lia
  exact⟨x0,xy,by lia,by lia⟩
end L2
namespace L2
open PySem PySem.Spec PyProof.Rows
inductive iz {α β:Type} (R:α→β→Prop):List α→List β→Prop
  | nil:iz R [] []
  | cons {a b as bs}:R a b→iz R as bs→iz R (a::as) (b::bs)
namespace iz
variable{α β:Type}{R S:α→β→Prop}
theorem mono(h:∀a b,R a b→S a b):∀{as:List α} {bs:List β},iz R as bs→iz S as bs
  | _,_,.nil=>.nil
  | _,_,.cons x r=>.cons (h _ _ x) (mono h r)
theorem len:∀{as:List α} {bs:List β},iz R as bs→as.length=bs.length
  | _,_,.nil=>rfl
  | _,_,.cons _ r=>by simp [len r]
theorem snoc{a:α}{b:β}(h:R a b):∀{as:List α} {bs:List β},iz R as bs→iz R (as++[a]) (bs++[b])
  | _,_,.nil=>.cons h .nil
  | _,_,.cons x r=>.cons x (snoc h r)
theorem get:∀{as:List α} {bs:List β} {i:Nat} {b:β},iz R as bs→bs[i]?=some b→∃a,as[i]?=some a∧R a b
  | _,_,_,_,.nil,e=>by simp at e
  | _,_,0,_,.cons x _,e=>by simp at e;subst e;exact⟨_,rfl,x⟩
  | _,_,i+1,b,.cons _ r,e=>by
    obtain⟨v,h1,h2⟩:=get (i:=i) (b:=b) r (by simpa using e)
    exact⟨v,by simpa using h1,h2⟩
end iz
section
variable{K:PySem.W.Frag}{a l:Addr}{xs:List V}{g:TG}{tc:TT}{te:TE}{Q:VK}{σ:L2.St}{H:Hp}{α β:Type}{us:List α}{cp:List (Nat × Str)}{nT:Nat}
def Ac(aJ:Hp→V→β→Prop)(SI:L2.St→Prop)(us:List α)(f:α→Option β)(H:Hp)(l:Addr)(i:Nat)(σ:L2.St)(H':Hp):Prop:=SI σ∧aq H H'∧∃vs,H' l=some (.lst vs)∧vs.length≤i∧iz (aJ H') vs ((us.take i).filterMap f)
end
def mr(ns:List Int):List Int:=ns.mergeSort
theorem jq(ns:List Int):(mr ns).Perm ns:=List.mergeSort_perm ns _
theorem yD{ns:List Int}{x:Int}:x∈mr ns↔ x∈ns:=(jq ns).mem_iff
theorem yC(ns:List Int):(mr ns).length=ns.length:=(jq ns).length_eq
section
variable{X:Cx}{K:PySem.W.Frag}{pos:Pos}
theorem qG(h:X.K=K):sy X (xY K):=h ▸ ol
theorem t_{es:List Expr}{k:Nat}{t:sA}{n:Nat}(hK:X.K=K)(hc:X.calm=true)(h:pR X es t)(hn:(assignEach es X.env).length=n:=by rfl)(hst:(assignEach es X.env).findIdx? (·.1)=none:=by rfl):PG X (.Tuple es k pos) (y2 K n t):=hK ▸ xC hc h hn hst
theorem ud{tg l:Expr}{tl:TE}(h:X.K=K)(hl:PE X l tl):PI X tg l (wJ K tl):=h ▸ rl hl
theorem l4{tg l:Expr}{tl:TE}(h:X.K=K)(hl:PE X l tl):PI X tg l (vF K tl):=h ▸ uc hl
end
instance:Inhabited dC:=⟨⟨0,1,1,1,0⟩⟩
def bu.tie(W:bu)(k:Int):dC:=W.ties.getD k.toNat default
def bu.has(W:bu)(k thing:Int):Bool:=(W.tie k).one==thing || (W.tie k).other==thing
def bu.many(W:bu)(asked:List Int)(thing:Int):Int:=((asked.filter fun k=>W.has k thing).length:Nat)
def bu.bears(W:bu)(asked taken:List Int)(thing:Int):Bool:= !taken.contains thing&&decide (W.many asked thing < W.pat.getD thing.toNat 0)
def bu.may(W:bu)(asked taken:List Int)(k:Int):Bool:= !(asked.contains k || decide (W.asks≤(asked.length:Int)))&&(W.bears asked taken (W.tie k).one&&W.bears asked taken (W.tie k).other)
def bu.askd(asked:List Int)(k:Int):List Int:=mr (asked++[k])
def bu.took(W:bu)(taken:List Int)(k:Int)(truth:Bool):List Int:=if truth then mr (taken++[(W.tie k).one,(W.tie k).other]) else taken
def bu.rng(W:bu):List Int:=(List.range W.ties.length).map Int.ofNat
def nG(W:bu)(k:Int):Prop:=0≤k∧k < (W.ties.length:Int)
theorem nG.get{W:bu}{k:Int}(h:nG W k):W.ties[k.toNat]?=some (W.tie k):=by
  have hk:k.toNat < W.ties.length:=by have:=h.1;have:=h.2;lia
  unfold bu.tie
  rw [List.getD_eq_getElem?_getD,List.getElem?_eq_getElem hk];rfl
theorem nG.ok{W:bu}{k:Int}(h:nG W k)(o:W.Ok):(W.tie k).Ok W.things:=o.ties _ (List.mem_of_getElem? h.get)
theorem Aj{W:bu}{k:Int}:k∈W.rng↔ nG W k:=by
  unfold bu.rng nG
  rw [List.mem_map]
  constructor
  · rintro⟨n,hn,rfl⟩
    have:=List.mem_range.mp hn
    exact⟨Int.natCast_nonneg n,by simp;lia⟩
  · rintro⟨h0,h1⟩
    exact⟨k.toNat,List.mem_range.mpr (by lia),by simp;lia⟩
def wd(K:PySem.W.Frag)(H:Hp)(v:V)(asked taken:List Int):Prop:=∃a b c,v=.ref a∧bR K H a [.ref b,.ref c]∧bR K H b (asked.map V.int)∧bR K H c (taken.map V.int)
theorem wd.ts{K:PySem.W.Frag}{H H':Hp}(s:io H H'){v:V}{asked taken:List Int}(h:wd K H v asked taken):wd K H' v asked taken:=by
  obtain⟨a,b,c,e,h1,h2,h3⟩:=h
  exact⟨a,b,c,e,s.tup h1,s.tup h2,s.tup h3⟩
section
variable{K:PySem.W.Frag}{σ:L2.St}{H:Hp}{Q:VK}{i j:Nat}{vW:V}{W:bu}{k:Int}
end
def vP(k:Int):Prop:= -1000000≤k∧k≤1000000
def Dk(n dep:Nat)(d:PyData):Prop:=d.showable=true∧i_ d=true∧L2.cnt d≤n∧d.depth≤dep
theorem Dk.mono{n m dep e:Nat}{d:PyData}(h:Dk n dep d)(h1:n≤m)(h2:dep≤e):Dk m e d:=⟨h.1,h.2.1,Nat.le_trans h.2.2.1 h1,Nat.le_trans h.2.2.2 h2⟩
theorem Dk.int{k:Int}(h:vP k):Dk 1 2 (.int k):=by
  refine⟨?_,rfl,Nat.le_refl _,by simp [PyData.depth]⟩
  show decide (k.natAbs.log2 < 1920)=true
  rw [decide_eq_true_eq]
  exact Nat.lt_trans ((show Bt 64 k by have:=h.1;have:=h.2;unfold Bt;lia).log (by decide)) (by decide)
theorem Dk.bool(b:Bool):Dk 1 2 (.bool b):=⟨rfl,rfl,Nat.le_refl _,by simp [PyData.depth]⟩
theorem Dk.none:Dk 1 2 .none:=⟨rfl,rfl,Nat.le_refl _,by simp [PyData.depth]⟩
theorem Dk.all{n dep:Nat}:∀{ds:List PyData},(∀d∈ds,Dk n dep d)→PyData.showableAll ds=true∧ef ds=true∧fR ds≤ds.length*n∧PyData.depthAll ds≤dep
  | [],_=>⟨rfl,rfl,by simp [fR],by simp [PyData.depthAll]⟩
  | d::r,h=>by
    obtain⟨a1,a2,a3,a4⟩:=h d (by simp)
    obtain⟨b1,b2,b3,b4⟩:=Dk.all (ds:=r) fun x hx=>h x (by simp [hx])
    refine⟨?_,?_,?_,?_⟩
    · simp only [PyData.showableAll,a1,b1,Bool.and_self]
    · simp only [ef,a2,b2,Bool.and_self]
    · simp only [fR,List.length_cons,Nat.succ_mul]
      lia
    · simp only [PyData.depthAll];lia
theorem Dk.tup{n dep m:Nat}{ds:List PyData}(h:∀d∈ds,Dk n dep d)(hl:ds.length≤m):Dk (1+m*n) (dep+2) (.tuple ds):=by
  obtain⟨b1,b2,b3,b4⟩:=Dk.all h
  refine⟨b1,b2,?_,?_⟩
  · simp only [L2.cnt]
    have:=Nat.mul_le_mul_right n hl
    lia
  · simp only [PyData.depth];lia
theorem Dk.ok{n dep:Nat}{d:PyData}(h:Dk n dep d)(h1:n≤8000)(h2:dep≤60):d.showable=true∧d.depth≤60∧d.shown.length≤sizeLine:=by
  have:=kd h.2.1 h.1
  have sl:sizeLine=16777216:=sizeLine_eq
  have:=h.2.2.1
  exact⟨h.1,Nat.le_trans h.2.2.2 h2,by lia⟩
theorem Dk.ints{ns:List Int}{m:Nat}(hl:ns.length≤m)(h:∀r∈ns,vP r):Dk (1+m) 4 (.tuple (ns.map .int)):=by
  have:=Dk.tup (n:=1) (dep:=2) (m:=m) (ds:=ns.map PyData.int) (fun d hd=>by
    obtain⟨x,hx,rfl⟩:=List.mem_map.mp hd
    exact Dk.int (h x hx)) (by rw [List.length_map];exact hl)
  simpa using this
section
variable{K:PySem.W.Frag}{H:Hp}
def aM(t:dC):PyData:=.tuple [.int t.one,.int t.other,.tuple [.int t.top,.int t.bot],.int t.worth]
def aU(W:bu):PyData:=.tuple [.int W.things,.tuple (W.ties.map aM),.tuple (W.pat.map .int),.int W.asks]
def B6(asked taken:List Int):PyData:=.tuple [.tuple (asked.map .int),.tuple (taken.map .int)]
end
end L2
namespace L2
open PySem PySem.Spec PyProof.Rows
section
variable{X:Cx}
end
end L2
namespace L2
end L2
namespace L2
open PySem PySem.Spec PyProof.Rows
section
variable{prog:Program}{w:World}{A:Around}{E:Value→Shared→Prop}{s:Shared}
theorem sj{it t:Addr}{i:Nat}{ys}{x:Value}{Q:Value→Shared→Prop}(hi:s.heap.IsTupleIter it t i)(ht:s.heap.IsTuple t ys)(hx:ys[i]?=some x)
    (q:∀g,g.IsTupleIter it t (i+1)→Heap.SameBut it s.heap g→Q x {s with heap:=g}):wpAny (model prog w) A (Builtin.SmallTypes.nextOf (.ref it)) Q E s:=by
  obtain⟨o,ho,hc,hd⟩:=id hi;obtain⟨p,hp,_,n,hpd⟩:=ht;unfold Builtin.SmallTypes.nextOf
  refine wpAny_bind (wpAny_callSpecial?_slot (name:=Str.ofString "__next__") hi.typeIs F.slot_tuple_iterator_next (wpAny_call_entry F.slot_tuple_iterator_next hi.typeIs F.entry_tuple_iterator_next ?_ (F.args_tuple_iterator_next_1 _)))
  show wpAny _ _ (field (.ref it) 0 >>= _) _ _ s;refine wpAny_bind (wpAny_field ho hd (x:=.ref t) rfl ?_)
  show wpAny _ _ (if (Value.ref t==Value.none)=true then _ else _) _ _ s;rw [if_neg (show ¬((Value.ref t==Value.none)=true) from Bool.false_ne_true)]
  show wpAny _ _ (field (.ref it) 1 >>= _) _ _ s;refine wpAny_bind (wpAny_field ho hd (x:=.int i 0) rfl ?_)
  show wpAny _ _ (seqItems? (.ref t) >>= _) _ _ s;refine wpAny_bind (wpAny_seqItems hp hpd ?_)
  simp only [Int.toNat_natCast,hx];refine wpAny_bind (wpAny_setField ho hd (by simp) (wpAny_pure ⟨x,rfl,wpAny_pure (q _ ?_ (Heap.SameBut.update ..))⟩))
  refine⟨_,Heap.get?_update_self _ ho (Obj.isFreed_of_fields (Obj.data_mapFields hd _)),(Obj.cls_mapFields ..).trans hc,?_⟩;rw [Obj.data_mapFields hd];simp [rawInt]
theorem si{it t:Addr}{i:Nat}{ys}{Q:Value→Shared→Prop}(hh:A.handled=none)(hi:s.heap.IsTupleIter it t i)(ht:s.heap.IsTuple t ys)(hx:ys[i]?=none)
    (q:∀g e,Heap.ExtBut it s.heap g→(∃o,g.get? e=some o∧o.cls=.type "StopIteration")→E (.ref e) {s with heap:=g}):wpAny (model prog w) A (Builtin.SmallTypes.nextOf (.ref it)) Q E s:=by
  obtain⟨o,ho,hc,hd⟩:=id hi;obtain⟨p,hp,_,n,hpd⟩:=ht;unfold Builtin.SmallTypes.nextOf
  refine wpAny_bind (wpAny_callSpecial?_slot (name:=Str.ofString "__next__") hi.typeIs F.slot_tuple_iterator_next (wpAny_call_entry F.slot_tuple_iterator_next hi.typeIs F.entry_tuple_iterator_next ?_ (F.args_tuple_iterator_next_1 _)))
  show wpAny _ _ (field (.ref it) 0 >>= _) _ _ s;refine wpAny_bind (wpAny_field ho hd (x:=.ref t) rfl ?_)
  show wpAny _ _ (if (Value.ref t==Value.none)=true then _ else _) _ _ s;rw [if_neg (show ¬((Value.ref t==Value.none)=true) from Bool.false_ne_true)]
  show wpAny _ _ (field (.ref it) 1 >>= _) _ _ s;refine wpAny_bind (wpAny_field ho hd (x:=.int i 0) rfl ?_)
  show wpAny _ _ (seqItems? (.ref t) >>= _) _ _ s;refine wpAny_bind (wpAny_seqItems hp hpd ?_)
  simp only [Int.toNat_natCast,hx];refine wpAny_bind (wpAny_rule (wpAny_bind (wpAny_setField ho hd (by simp) ?_)))
  show wpAny _ _ (newExc (.type "StopIteration") [] >>= _) _ _ _;refine wpAny_bind ?_;simp only [newExc,newTuple]
  refine wpAny_bind (wpAny_newObj_type ?_ (by size_fits));refine wpAny_bind (m:=firstArgMember _ _) (wpAny_of_eq (a:=Value.none) (by first | rfl | (simp only [firstArgMember];rfl)) ?_)
  refine wpAny_newObj_type ?_ (by size_fits);simp only [raiseNew];refine wpAny_bind (wpAny_handled ?_);first | rw [show A.in1.handled=none from hh] | rw [hh]
  refine wpAny_bind (wpAny_pure (wpAny_throw ?_));exact q _ _ (((Heap.SameBut.update ..).extBut.push _).push _) ⟨_,Heap.get?_push_size _ rfl,rfl⟩
end
structure Sc (prog:Program) (w:World) (it l:Addr) (St:Nat→Heap→Prop) (Sq:Heap→Array Value→Prop):Prop where
  stay:∀{k h h'},St k h→(∀o,h.get? it=some o→h'.get? it=some o)→St k h'
  live:∀{k h},St k h→∃o,h.get? it=some o∧∀v,o.data≠.cell v
  row:∀{h h' xs},Sq h xs→(∀o,h.get? l=some o→h'.get? l=some o)→Sq h' xs
  next:∀{A:Around} {s:Shared} {E:Value→Shared→Prop} {Q:Value→Shared→Prop} {k:Nat} {xs:Array Value} {x:Value},St k s.heap→Sq s.heap xs→xs[k]?=some x→(∀g,St (k+1) g→Heap.SameBut it s.heap g→Q x {s with heap:=g})→wpAny (model prog w) A (Builtin.SmallTypes.nextOf (.ref it)) Q E s
  last:∀{A:Around} {s:Shared} {E:Value→Shared→Prop} {Q:Value→Shared→Prop} {k:Nat} {xs:Array Value},A.handled=none→St k s.heap→Sq s.heap xs→xs[k]?=none→(∀g e,Heap.ExtBut it s.heap g→(∃o,g.get? e=some o∧o.cls=.type "StopIteration")→E (.ref e) {s with heap:=g})→wpAny (model prog w) A (Builtin.SmallTypes.nextOf (.ref it)) Q E s
theorem ig{prog:Program}{w:World}(it l:Addr):Sc prog w it l (fun k h=>h.IsTupleIter it l k) (fun h xs=>h.IsTuple l xs) where
  stay:=fun st k=>st.at fun o e=>k o e
  live:=fun st=>by
    obtain⟨o,e,c,d⟩:=st
    exact⟨o,e,fun v z=>by rw [d] at z;cases z⟩
  row:=fun q k=>by
    obtain⟨o,e,r⟩:=q
    exact⟨o,k o e,r⟩
  next:=fun st sq hx q=>sj st sq hx q
  last:=fun hh st sq hx q=>si hh st sq hx q
theorem oF{prog:Program}{w:World}(it l:Addr):Sc prog w it l (fun k h=>h.IsListIter it l k) (fun h xs=>h.IsList l xs) where
  stay:=fun st k=>st.at fun o e=>k o e
  live:=fun st=>by
    obtain⟨o,e,c,d⟩:=st
    exact⟨o,e,fun v z=>by rw [d] at z;cases z⟩
  row:=fun q k=>by
    obtain⟨o,e,r⟩:=q
    exact⟨o,k o e,r⟩
  next:=fun st sq hx q=>wpAny_nextOf_list_item st sq hx q
  last:=fun hh st sq hx q=>wpAny_nextOf_list_end hh st sq hx q
structure jK (z TI TO i1 i2 l1 l2:Addr):Prop where
  a1:TO≠z
  a2:i1≠z
  a3:i2≠z
  a4:TO≠i1
  a5:TO≠i2
  a6:i1≠i2
  b1:l1≠z
  b2:l1≠TO
  b3:l1≠i1
  b4:l1≠i2
  c1:l2≠z
  c2:l2≠TO
  c3:l2≠i1
  c4:l2≠i2
section
variable{prog:Program}{w:World}{A:Around}{E:Value→Shared→Prop}{s:Shared}{z TI TO i1 i2 l1 l2:Addr}{k:Nat}{xs ys:Array Value}{a b:Value}{S1 S2:Nat→Heap→Prop}{R1 R2:Heap→Array Value→Prop}
theorem yv{x y:Value}{Q:Value→Shared→Prop}(P1:Sc prog w i1 l1 S1 R1)(P2:Sc prog w i2 l2 S2 R2)(D:jK z TI TO i1 i2 l1 l2)(hz:IsZip s.heap z TI TO .none)(hI:IsPair s.heap TI (.ref i1) (.ref i2))(hO:IsPair s.heap TO a b)(u1:S1 k s.heap)(u2:S2 k s.heap)(r1:R1 s.heap xs)(r2:R2 s.heap ys)(hx:xs[k]?=some x)(hy:ys[k]?=some y)
    (q:∀g,IsZip g z TI TO (rawInt s.heap.objs.size)→IsPair g TO x y→S1 (k+1) g→S2 (k+1) g→IsPair g s.heap.objs.size x y→g.objs.size=s.heap.objs.size+1→(∀c o,c≠z→c≠TO→c≠i1→c≠i2→s.heap.get? c=some o→g.get? c=some o)→Q (.ref s.heap.objs.size) {s with heap:=g}):
    wpAny (model prog w) A (Builtin.«zip.__next__» ⟨[.ref z],[]⟩) (fun f s'=>∃v,f=.done (.ret v)∧Q v s') E s:=by
  show wpAny _ _ (field (.ref z) 2 >>= _) _ _ _;refine wpAny_bind (wpAny_field hz rfl (x:=.bool false) rfl ?_)
  show wpAny _ _ (field (.ref z) 3 >>= _) _ _ _;refine wpAny_bind (wpAny_field hz rfl (x:=.ref TI) rfl ?_);refine wpAny_bind (wpAny_seqItems hI rfl ?_)
  show wpAny _ _ (Builtin.SmallTypes.ownedTupleIsFree (.ref z) >>= _) _ _ _;refine wpAny_bind ?_;unfold Builtin.SmallTypes.ownedTupleIsFree
  refine wpAny_bind (wpAny_field hz rfl (x:=.none) rfl (wpAny_pure ?_));simp only [if_true];refine wpAny_bind (wpAny_rule ?_)
  refine wpAny_bind (wpAny_field hz rfl (x:=.ref TO) rfl ?_);refine wpAny_bind (wpAny_setField_rec hz (by simp) fun g1 z1 e1=>?_)
  replace z1:IsZip g1 z TI TO .ellipsis:=z1;refine wpAny_bind ?_;simp only [List.zipIdx_cons,List.zipIdx_nil,List.forIn_cons,List.forIn_nil]
  refine wpAny_bind (wpAny_bind (wpAny_onRaise ?_));show wpAny _ _ (Builtin.SmallTypes.nextOf (.ref i1) >>= _) _ _ _
  refine wpAny_bind (P1.next (P1.stay u1 fun o e=>e1.extBut _ _ D.a2 e) (P1.row r1 fun o e=>e1.extBut _ _ D.b1 e) hx fun g2 v1 e2=>wpAny_pure ?_)
  have O2:IsPair g2 TO a b:=e2.extBut _ _ D.a4 (e1.extBut _ _ D.a1 hO)
  refine wpAny_bind (wpAny_seqItems O2 rfl ?_);refine wpAny_bind (wpAny_updateSeq_pair O2 fun g3 O3 e3=>?_);replace O3:IsPair g3 TO x b:=O3;refine wpAny_bind (wpAny_letGo (wpAny_pure ?_))
  refine wpAny_bind (wpAny_bind (wpAny_onRaise ?_));show wpAny _ _ (Builtin.SmallTypes.nextOf (.ref i2) >>= _) _ _ _
  have up3:∀c o,c≠z→c≠i1→c≠TO→s.heap.get? c=some o→g3.get? c=some o:=fun c o n1 n2 n3 e=>e3.extBut _ _ n3 (e2.extBut _ _ n2 (e1.extBut _ _ n1 e))
  refine wpAny_bind (P2.next (P2.stay u2 fun o e=>up3 _ _ D.a3 D.a6.symm D.a5.symm e) (P2.row r2 fun o e=>up3 _ _ D.c1 D.c3 D.c2 e) hy fun g4 v2 e4=>wpAny_pure ?_)
  have O4:IsPair g4 TO x b:=e4.extBut _ _ D.a5 O3
  refine wpAny_bind (wpAny_seqItems O4 rfl ?_);refine wpAny_bind (wpAny_updateSeq_pair O4 fun g5 O5 e5=>?_);replace O5:IsPair g5 TO x y:=O5;refine wpAny_bind (wpAny_letGo (wpAny_pure (wpAny_pure ?_)))
  refine wpAny_bind (wpAny_seqItems O5 rfl ?_);refine wpAny_bind (wpAny_newTuple ?_)
  have sz:g5.objs.size=s.heap.objs.size:=by rw [e5.1,e4.1,e3.1,e2.1,e1.1]
  have z5:IsZip g5 z TI TO .ellipsis:=e5.extBut _ _ D.a1.symm (e4.extBut _ _ D.a3.symm (e3.extBut _ _ D.a1.symm (e2.extBut _ _ D.a2.symm z1)))
  have k5:∀c o,c≠z→c≠TO→c≠i1→c≠i2→s.heap.get? c=some o→g5.get? c=some o:=fun c o n1 n2 n3 n4 e=>e5.extBut _ _ n2 (e4.extBut _ _ n4 (up3 c o n1 n3 n2 e))
  have w1:S1 (k+1) g5:=P1.stay v1 fun o e=>e5.extBut _ _ D.a4.symm (e4.extBut _ _ D.a6 (e3.extBut _ _ D.a4.symm e))
  have w2:S2 (k+1) g5:=P2.stay v2 fun o e=>e5.extBut _ _ D.a5.symm e
  have lz:z < g5.objs.size:=Heap.lt_size z5
  show wpAny _ _ (Builtin.SmallTypes.ownedTupleHandOut (.ref z) (.ref g5.objs.size) >>= _) _ _ _;refine wpAny_bind ?_;unfold Builtin.SmallTypes.ownedTupleHandOut
  have z6:IsZip (g5.push {cls:=.type "tuple",data:=.seq #[x,y]}) z TI TO .ellipsis:=Heap.get?_push_of_some _ z5
  refine wpAny_bind (wpAny_setField_rec z6 (by simp) fun g7 z7 e7=>?_);replace z7:IsZip g7 z TI TO (rawInt g5.objs.size):=z7
  refine wpAny_setField_rec z7 (by simp) fun g8 z8 e8=>?_;replace z8:IsZip g8 z TI TO (rawInt g5.objs.size):=z8
  have up:∀c o,c≠z→g5.get? c=some o→g8.get? c=some o:=fun c o n e=>e8.extBut _ _ n (e7.extBut _ _ n (Heap.get?_push_of_some _ e))
  have T8:IsPair g8 g5.objs.size x y:=e8.extBut _ _ (Nat.ne_of_gt lz) (e7.extBut _ _ (Nat.ne_of_gt lz) (Heap.get?_push_size _ rfl))
  have n8:g8.objs.size=g5.objs.size+1:=by rw [e8.1,e7.1,Heap.size_push]
  rw [sz] at z8 T8 n8;refine wpAny_pure ⟨_,rfl,?_⟩;show Q (.ref g5.objs.size) _;rw [sz]
  exact q g8 z8 (up _ _ D.a1 O5) (P1.stay w1 fun o e=>up _ o D.a2 e) (P2.stay w2 fun o e=>up _ o D.a3 e) T8 n8 fun c o n1 n2 n3 n4 e=>up c o n1 (k5 c o n1 n2 n3 n4 e)
theorem uX{Q:Fin→Shared→Prop}(hh:A.handled=none)(P1:Sc prog w i1 l1 S1 R1)(P2:Sc prog w i2 l2 S2 R2)(D:jK z TI TO i1 i2 l1 l2)(hz:IsZip s.heap z TI TO .none)(hI:IsPair s.heap TI (.ref i1) (.ref i2))(hO:IsPair s.heap TO a b)(u1:S1 k s.heap)(u2:S2 k s.heap)(r1:R1 s.heap xs)(r2:R2 s.heap ys)(hn:xs[k]?=none∨ys[k]?=none)
    (q:∀g e,(∀c o,c≠z→c≠TO→c≠i1→c≠i2→s.heap.get? c=some o→g.get? c=some o)→(∃o,g.get? e=some o∧o.cls=.type "StopIteration")→E (.ref e) {s with heap:=g}):
    wpAny (model prog w) A (Builtin.«zip.__next__» ⟨[.ref z],[]⟩) Q E s:=by
  show wpAny _ _ (field (.ref z) 2 >>= _) _ _ _;refine wpAny_bind (wpAny_field hz rfl (x:=.bool false) rfl ?_)
  show wpAny _ _ (field (.ref z) 3 >>= _) _ _ _;refine wpAny_bind (wpAny_field hz rfl (x:=.ref TI) rfl ?_);refine wpAny_bind (wpAny_seqItems hI rfl ?_)
  show wpAny _ _ (Builtin.SmallTypes.ownedTupleIsFree (.ref z) >>= _) _ _ _;refine wpAny_bind ?_;unfold Builtin.SmallTypes.ownedTupleIsFree
  refine wpAny_bind (wpAny_field hz rfl (x:=.none) rfl (wpAny_pure ?_));simp only [if_true];refine wpAny_bind (wpAny_rule ?_)
  refine wpAny_bind (wpAny_field hz rfl (x:=.ref TO) rfl ?_);refine wpAny_bind (wpAny_setField_rec hz (by simp) fun g1 z1 e1=>?_)
  replace z1:IsZip g1 z TI TO .ellipsis:=z1;refine wpAny_bind ?_;simp only [List.zipIdx_cons,List.zipIdx_nil,List.forIn_cons,List.forIn_nil]
  refine wpAny_bind (wpAny_bind (wpAny_onRaise ?_));show wpAny _ _ (Builtin.SmallTypes.nextOf (.ref i1) >>= _) _ _ _
  cases hx:xs[k]? with
  | none=>
    refine wpAny_bind (P1.last hh (P1.stay u1 fun o e=>e1.extBut _ _ D.a2 e) (P1.row r1 fun o e=>e1.extBut _ _ D.b1 e) hx fun g2 e e2 he=>?_)
    obtain⟨oe,h1,h2⟩:=he;have z2:IsZip g2 z TI TO .ellipsis:=e2 _ _ D.a2.symm z1
    have nz:e≠z:=fun x=>by subst x;rw [z2] at h1;cases h1;simp at h2
    refine wpAny_setField_rec z2 (by simp) fun g3 _ e3=>q g3 e (fun c o n1 _ n3 _ x=>e3.extBut _ _ n1 (e2 _ _ n3 (e1.extBut _ _ n1 x))) ⟨oe,e3.extBut _ _ nz h1,h2⟩
  | some x=>
    have hy:ys[k]?=none:=by
      rcases hn with h | h
      · rw [hx] at h;cases h
      · exact h
    refine wpAny_bind (P1.next (P1.stay u1 fun o e=>e1.extBut _ _ D.a2 e) (P1.row r1 fun o e=>e1.extBut _ _ D.b1 e) hx fun g2 v1 e2=>wpAny_pure ?_)
    have O2:IsPair g2 TO a b:=e2.extBut _ _ D.a4 (e1.extBut _ _ D.a1 hO)
    refine wpAny_bind (wpAny_seqItems O2 rfl ?_);refine wpAny_bind (wpAny_updateSeq_pair O2 fun g3 O3 e3=>?_);refine wpAny_bind (wpAny_letGo (wpAny_pure ?_))
    refine wpAny_bind (wpAny_bind (wpAny_onRaise ?_));show wpAny _ _ (Builtin.SmallTypes.nextOf (.ref i2) >>= _) _ _ _
    have up3:∀c o,c≠z→c≠i1→c≠TO→s.heap.get? c=some o→g3.get? c=some o:=fun c o n1 n2 n3 e=>e3.extBut _ _ n3 (e2.extBut _ _ n2 (e1.extBut _ _ n1 e))
    refine wpAny_bind (P2.last hh (P2.stay u2 fun o e=>up3 _ _ D.a3 D.a6.symm D.a5.symm e) (P2.row r2 fun o e=>up3 _ _ D.c1 D.c3 D.c2 e) hy fun g4 e e4 he=>?_)
    obtain⟨oe,h1,h2⟩:=he;have z4:IsZip g4 z TI TO .ellipsis:=e4 _ _ D.a3.symm (e3.extBut _ _ D.a1.symm (e2.extBut _ _ D.a2.symm z1))
    have nz:e≠z:=fun x=>by subst x;rw [z4] at h1;cases h1;simp at h2
    refine wpAny_setField_rec z4 (by simp) fun g5 _ e5=>q g5 e (fun c o n1 n2 n3 n4 x=>e5.extBut _ _ n1 (e4 _ _ n4 (up3 c o n1 n3 n2 x))) ⟨oe,e5.extBut _ _ nz h1,h2⟩
theorem sv{x y:Value}{Q:Option Value→Shared→Prop}(P1:Sc prog w i1 l1 S1 R1)(P2:Sc prog w i2 l2 S2 R2)(D:jK z TI TO i1 i2 l1 l2)(hz:IsZip s.heap z TI TO .none)(hI:IsPair s.heap TI (.ref i1) (.ref i2))(hO:IsPair s.heap TO a b)(u1:S1 k s.heap)(u2:S2 k s.heap)(r1:R1 s.heap xs)(r2:R2 s.heap ys)(hx:xs[k]?=some x)(hy:ys[k]?=some y)
    (q:∀g,IsZip g z TI TO (rawInt s.heap.objs.size)→IsPair g TO x y→S1 (k+1) g→S2 (k+1) g→IsPair g s.heap.objs.size x y→g.objs.size=s.heap.objs.size+1→(∀c o,c≠z→c≠TO→c≠i1→c≠i2→s.heap.get? c=some o→g.get? c=some o)→Q (some (.ref s.heap.objs.size)) {s with heap:=g}):
    wpAny (model prog w) A (pyNext (.ref z)) Q E s:=by
  have hT:s.TypeIs (.ref z) "zip":=⟨_,hz,rfl⟩;unfold pyNext
  refine wpAny_bind (wpAny_attempt (wpAny_callSpecial?_slot (name:=Str.ofString "__next__") hT F.slot_zip_next (wpAny_call_entry F.slot_zip_next hT F.entry_zip_next ?_ (F.args_zip_next_1 _))))
  exact yv P1 P2 D hz hI hO u1 u2 r1 r2 hx hy fun g b1 b2 b3 b4 b5 b6 b7=>wpAny_pure (q g b1 b2 b3 b4 b5 b6 b7)
theorem sx{Q:Option Value→Shared→Prop}(hh:A.handled=none)(P1:Sc prog w i1 l1 S1 R1)(P2:Sc prog w i2 l2 S2 R2)(D:jK z TI TO i1 i2 l1 l2)(hz:IsZip s.heap z TI TO .none)(hI:IsPair s.heap TI (.ref i1) (.ref i2))(hO:IsPair s.heap TO a b)(u1:S1 k s.heap)(u2:S2 k s.heap)(r1:R1 s.heap xs)(r2:R2 s.heap ys)(hn:xs[k]?=none∨ys[k]?=none)
    (q:∀g,(∀c o,c≠z→c≠TO→c≠i1→c≠i2→s.heap.get? c=some o→g.get? c=some o)→Q none {s with heap:=g}):wpAny (model prog w) A (pyNext (.ref z)) Q E s:=by
  have hT:s.TypeIs (.ref z) "zip":=⟨_,hz,rfl⟩;unfold pyNext
  refine wpAny_bind (wpAny_attempt (wpAny_callSpecial?_slot (name:=Str.ofString "__next__") hT F.slot_zip_next (wpAny_call_entry F.slot_zip_next hT F.entry_zip_next (uX hh P1 P2 D hz hI hO u1 u2 r1 r2 hn fun g e hk he=>?_) (F.args_zip_next_1 _))))
  obtain⟨o,ho,hc⟩:=he;refine wpAny_bind (wpAny_isInstance (T:="StopIteration") (b:=true) ⟨o,ho,hc⟩ isSubtype_stop ?_);exact wpAny_pure (q _ hk)
end
end L2
namespace L2
open PySem PySem.Spec PyProof.Rows
section
variable{X:Cx}{pins:List (Addr × Obj)}{σ:L2.St}{H:Hp}{s:Shared}{h':Heap}
theorem av.turnedL{t':Nat}{fp:List Addr}(I:av X pins σ H s)(hf:∀b∈fp,dY X pins H b)(k:∀b o,b∉fp→s.heap.get? b=some o→h'.get? b=some o):av X pins σ H {s with heap:=h',toks:=t'}:=by
  have hL:X.env.locals∉fp:=fun z=>(hf _ z).2.1 rfl
  have nit:∀b u,H b=some u→b∉fp:=fun b u e z=>by have:=(hf b z).1;rw [this] at e;cases e
  refine I.step (g':=s.gens) (d':=s.drawn) (ch:=fp) (fun b hb=>?_) (fun b o _ _ hc e _=>k b o hc e) (fun b o _ _ hc e _=>⟨o.slots,k b o hc e⟩) (fun _ _ _ _ n=>n) (fun b o hc e=>⟨o,k b o hc e⟩) (fun _ _ e=>e) (fun _ _ _ e=>e) (fun b ps e=>⟨#[],by rw [e];simp⟩) (fun m hm=>?_) (fun b u e=>?_) I.bare
  · obtain⟨f0,f1,f2,f3,f4,f5⟩:=hf b hb
    exact⟨f3,f1,f4,f5⟩
  · obtain⟨o,es,ep,ho,r⟩:=hm
    exact⟨o,es,ep,k _ o hL ho,r⟩
  · refine(I.hok b u e).stay (fun c v hc q=>k c v ?_ q) (fun _ q=>q) fun _ _ q=>q
    rcases hc with z | z
    · rw [z];exact nit b u e
    · exact nit c _ z
theorem aT(I:av X pins σ H s){b l:Addr}{xs:List V}(f:dY X pins H b)(q:bR X.K H l xs):l≠b:=by
  intro z
  subst z
  rcases q with (q | ⟨o,q⟩) | ⟨o,its,n,hk,_⟩
  · rw [f.1] at q;cases q
  · rw [f.1] at q;cases q
  · have hb:X.base.get? l=some o:=I.ok.mod.kin l o hk
    rcases f.2.2.2.1 with z | z
    · exact I.ok.noex l o hb z
    · exact absurd (Nat.lt_of_lt_of_le (Heap.lt_size (I.ok.bs l o hb).1) z) (Nat.lt_irrefl _)
end
def Bc(K:PySem.W.Frag)(l1 l2:Addr):It:=
  ⟨fun i H=>∃xs ys x y,bR K H l1 xs∧bR K H l2 ys∧xs[i]?=some x∧ys[i]?=some y,
   fun i H v H'=>∃p x y,v=.ref p∧H p=none∧H'=aQ H p (.tup [x,y])∧∀xs ys,bR K H l1 xs→bR K H l2 ys→xs[i]?=some x∧ys[i]?=some y,
   fun i H=>∃xs ys,bR K H l1 xs∧bR K H l2 ys∧(xs.length≤i∨ys.length≤i)⟩
def vV(z TI TO i1 i2 l1 l2:Addr)(i:Nat)(h:Heap):Prop:=IsZip h z TI TO .none∧IsPair h TI (.ref i1) (.ref i2)∧(∃a b,IsPair h TO a b)∧h.IsTupleIter i1 l1 i∧h.IsTupleIter i2 l2 i
theorem sk{P:Program}{w:World}{K:PySem.W.Frag}{es:List Expr}{k0:Nat}{pos:Pos}{z TI TO i1 i2:Addr}(l1 l2:Addr)(n1:TO≠z)(n2:i1≠z)(n3:i2≠z)(n4:TO≠i1)(n5:TO≠i2)(n6:i1≠i2)(n7:TI≠z)(n8:TI≠TO)(n9:TI≠i1)(n10:TI≠i2):
    mK P w K (.Tuple es k0 pos) (Bc K l1 l2) [z,TI,TO,i1,i2] z (vV z TI TO i1 i2 l1 l2) where
  mem:=by simp
  obj:=fun i h st b hb=>by
    obtain⟨hz,hI,⟨a,c,hO⟩,u1,u2⟩:=st
    simp only [List.mem_cons,List.not_mem_nil,or_false] at hb
    rcases hb with rfl | rfl | rfl | rfl | rfl
    · exact⟨_,hz,fun v z=>by cases z⟩
    · exact⟨_,hI,fun v z=>by cases z⟩
    · exact⟨_,hO,fun v z=>by cases z⟩
    · obtain⟨o,e,c,d⟩:=u1
      exact⟨o,e,fun v z=>by rw [d] at z;cases z⟩
    · obtain⟨o,e,c,d⟩:=u2
      exact⟨o,e,fun v z=>by rw [d] at z;cases z⟩
  keep:=fun i h h' st k=>by
    obtain⟨hz,hI,⟨a,c,hO⟩,u1,u2⟩:=st
    exact⟨k _ (by simp) _ hz,k _ (by simp) _ hI,⟨a,c,k _ (by simp) _ hO⟩,u1.at fun o e=>k _ (by simp) o e,u2.at fun o e=>k _ (by simp) o e⟩
  item:=by
    intro X hP hw hK hc i pins s σ H E I hf st hg
    subst hP hw hK
    obtain⟨xs,ys,x,y,q1,q2,hx,hy⟩:=hg
    obtain⟨hz,hI,⟨a,b,hO⟩,u1,u2⟩:=id st
    obtain⟨its1,rv1,p1,z1⟩:=I.tuple q1
    obtain⟨its2,rv2,p2,z2⟩:=I.tuple q2
    obtain⟨ux,hux,rux⟩:=rv1.get hx
    obtain⟨uy,huy,ruy⟩:=rv2.get hy
    have fz:=hf z (by simp);have fO:=hf TO (by simp);have f1:=hf i1 (by simp);have f2:=hf i2 (by simp)
    have D:jK z TI TO i1 i2 l1 l2:=⟨n1,n2,n3,n4,n5,n6,aT I fz q1,aT I fO q1,aT I f1 q1,aT I f2 q1,aT I fz q2,aT I fO q2,aT I f1 q2,aT I f2 q2⟩
    refine sv (xs:=its1.toArray) (ys:=its2.toArray) (ig i1 l1) (ig i2 l2) D hz hI hO u1 u2 p1 p2 (by simpa using hux) (by simpa using huy) fun g gz gO g1 g2 gT gs gk=>?_
    refine⟨_,rfl,wpAny_letOwnedTupleGo_zip gz fun g' gz' ge=>?_⟩
    have lt:∀b∈[z,TI,TO,i1,i2],b < s.heap.objs.size:=fun b hb=>by
      simp only [List.mem_cons,List.not_mem_nil,or_false] at hb
      rcases hb with rfl | rfl | rfl | rfl | rfl
      · exact Heap.lt_size hz
      · exact Heap.lt_size hI
      · exact Heap.lt_size hO
      · obtain⟨o,e,_⟩:=u1;exact Heap.lt_size e
      · obtain⟨o,e,_⟩:=u2;exact Heap.lt_size e
    have hT:H s.heap.objs.size=none:=I.hok.fresh (Nat.le_refl _)
    have vv:aC [x,y] [ux,uy]:=.cons rux (.cons ruy .nil)
    have I1:av X pins σ (aQ H s.heap.objs.size (.tup [x,y])) {s with heap:=s.heap.push {cls:=.type "tuple",data:=.seq #[ux,uy]},toks:=s.toks}:=
      I.laid (t':=s.toks) (fun b u e=>Heap.get?_push_of_some _ e) (Nat.le_refl _) ⟨(by show 2≤sizeLine;decide),[ux,uy],vv,iA.new _ _⟩
    have hf1:∀b∈[z,TI,TO,i1,i2],dY X pins (aQ H s.heap.objs.size (.tup [x,y])) b:=fun b hb=>by
      obtain⟨f0,fr⟩:=hf b hb
      exact⟨by rw [ap (Nat.ne_of_lt (lt b hb))];exact f0,fr⟩
    have nzT:s.heap.objs.size≠z:=Nat.ne_of_gt (lt z (by simp))
    have I2:av X pins σ (aQ H s.heap.objs.size (.tup [x,y])) {s with heap:=g',toks:=s.toks}:=by
      refine I1.turnedL (t':=s.toks) hf1 fun b o nb e=>?_
      have nb':b≠z∧b≠TI∧b≠TO∧b≠i1∧b≠i2:=by simpa using nb
      refine ge.extBut _ _ nb'.1 ?_
      rcases Heap.get?_push_cases e with ⟨rfl,rfl⟩ | e
      · exact gT
      · exact gk b o nb'.1 nb'.2.2.1 nb'.2.2.2.1 nb'.2.2.2.2 e
    refine⟨.ref s.heap.objs.size,_,I2,rfl,⟨_,x,y,rfl,hT,rfl,fun xs' ys' w1 w2=>?_⟩,⟨gz',ge.extBut _ _ n7 (gk _ _ n7 n8 n9 n10 hI),⟨ux,uy,ge.extBut _ _ n1 gO⟩,g1.at fun o e=>ge.extBut _ _ n2 e,g2.at fun o e=>ge.extBut _ _ n3 e⟩,fun b hb=>(hf1 b hb).1⟩
    rw [I.tuple_inj w1 q1,I.tuple_inj w2 q2]
    exact⟨hx,hy⟩
  done:=by
    intro X hP hw hK hc i pins s σ H E I hf st hg
    subst hP hw hK
    obtain⟨xs,ys,q1,q2,hn⟩:=hg
    obtain⟨hz,hI,⟨a,b,hO⟩,u1,u2⟩:=id st
    obtain⟨its1,rv1,p1,z1⟩:=I.tuple q1
    obtain⟨its2,rv2,p2,z2⟩:=I.tuple q2
    have fz:=hf z (by simp);have fO:=hf TO (by simp);have f1:=hf i1 (by simp);have f2:=hf i2 (by simp)
    have D:jK z TI TO i1 i2 l1 l2:=⟨n1,n2,n3,n4,n5,n6,aT I fz q1,aT I fO q1,aT I f1 q1,aT I f2 q1,aT I fz q2,aT I fO q2,aT I f1 q2,aT I f2 q2⟩
    have e1:=rv1.length
    have e2:=rv2.length
    refine sx (xs:=its1.toArray) (ys:=its2.toArray) (I.ok.hd hc) (ig i1 l1) (ig i2 l2) D hz hI hO u1 u2 p1 p2 ?_ fun g gk=>⟨rfl,I.turnedL (t':=s.toks) hf fun b o nb e=>?_⟩
    · rcases hn with hn | hn
      · exact .inl (by simp;lia)
      · exact .inr (by simp;lia)
    · have nb':b≠z∧b≠TI∧b≠TO∧b≠i1∧b≠i2:=by simpa using nb
      exact gk b o nb'.1 nb'.2.2.1 nb'.2.2.2.1 nb'.2.2.2.2 e
  self:=fun A i s Q E st h=>wpAny_pyIter_zip st.1 h
theorem uY(l1 l2:Addr)(xs ys:Array Value):
    Meets (Builtin.«zip.__new__» ⟨[.type "zip",.ref l1,.ref l2],[]⟩) (fun _ R s=>s.heap.IsTuple l1 xs∧s.heap.IsTuple l2 ys∧
      R (.ok (.ret (.ref (s.heap.objs.size+4)))) {s with heap:=((((s.heap.push {cls:=.type "tuple_iterator",data:=.fields #[.ref l1,.int 0 0]}).push {cls:=.type "tuple_iterator",data:=.fields #[.ref l2,.int 0 0]}).push {cls:=.type "tuple",data:=.seq #[.ref s.heap.objs.size,.ref (s.heap.objs.size+1)]}).push {cls:=.type "tuple",data:=.seq #[.none,.none]}).push {cls:=.type "zip",data:=.fields #[.none,.bool false,.bool false,.ref (s.heap.objs.size+2),.ref (s.heap.objs.size+3)]}}):=
  .of_wp fun prog w A R s h=>by
    obtain⟨hp,g,d,tk,os⟩:=s;obtain⟨t1,t2,h⟩:=h;have sz:=PySem.sub_zip
    have T1:Heap.IsTuple (Shared.heap ⟨hp,g,d,tk,os⟩) l1 xs:=t1
    have T2:Heap.IsTuple (Shared.heap ⟨hp.push {cls:=.type "tuple_iterator",data:=.fields #[.ref l1,.int 0 0]},g,d,tk,os⟩) l2 ys:=Heap.IsTuple.push t2 _
    wp_walk using wpAny_pyIter_tuple T1,wpAny_pyIter_tuple T2
    refine⟨_,rfl,?_⟩
    simp only [Heap.size_push]
    exact h
section
variable{prog:Program}{w:World}{A:Around}{E:Value→Shared→Prop}{s:Shared}
theorem su{l1 l2:Addr}{xs ys:Array Value}{Q:Value→Shared→Prop}(t1:s.heap.IsTuple l1 xs)(t2:s.heap.IsTuple l2 ys)
    (h:∀g,vV (s.heap.objs.size+4) (s.heap.objs.size+2) (s.heap.objs.size+3) s.heap.objs.size (s.heap.objs.size+1) l1 l2 0 g→(∀c o,s.heap.get? c=some o→g.get? c=some o)→Q (.ref (s.heap.objs.size+4)) {s with heap:=g}):
    wpAny (model prog w) A (call (.type "zip") [.ref l1,.ref l2]) Q E s:=by
  refine callType_new F.called_zip (by decide) (F.typeCall_zip_2 _ _) (F.newCall_zip_2 _ _) (fun obj=>F.args_object_init_3 obj _ _) F.entry_zip_new (uY l1 l2 xs ys) ⟨t1,t2,?_⟩
  have at5:∀(g:Heap) (o:Obj) (a:Addr),o.isFreed=false→a=g.objs.size→(g.push o).get? a=some o:=fun g o a hf e=>by rw [e];exact Heap.get?_push_size _ hf
  have g5:=at5 ((((s.heap.push {cls:=.type "tuple_iterator",data:=.fields #[.ref l1,.int 0 0]}).push {cls:=.type "tuple_iterator",data:=.fields #[.ref l2,.int 0 0]}).push {cls:=.type "tuple",data:=.seq #[.ref s.heap.objs.size,.ref (s.heap.objs.size+1)]}).push {cls:=.type "tuple",data:=.seq #[.none,.none]}) {cls:=.type "zip",data:=.fields #[.none,.bool false,.bool false,.ref (s.heap.objs.size+2),.ref (s.heap.objs.size+3)]} (s.heap.objs.size+4) rfl (by simp only [Heap.size_push])
  have g4:=at5 (((s.heap.push {cls:=.type "tuple_iterator",data:=.fields #[.ref l1,.int 0 0]}).push {cls:=.type "tuple_iterator",data:=.fields #[.ref l2,.int 0 0]}).push {cls:=.type "tuple",data:=.seq #[.ref s.heap.objs.size,.ref (s.heap.objs.size+1)]}) {cls:=.type "tuple",data:=.seq #[.none,.none]} (s.heap.objs.size+3) rfl (by simp only [Heap.size_push])
  have g3:=at5 ((s.heap.push {cls:=.type "tuple_iterator",data:=.fields #[.ref l1,.int 0 0]}).push {cls:=.type "tuple_iterator",data:=.fields #[.ref l2,.int 0 0]}) {cls:=.type "tuple",data:=.seq #[.ref s.heap.objs.size,.ref (s.heap.objs.size+1)]} (s.heap.objs.size+2) rfl (by simp only [Heap.size_push])
  have g2:=at5 (s.heap.push {cls:=.type "tuple_iterator",data:=.fields #[.ref l1,.int 0 0]}) {cls:=.type "tuple_iterator",data:=.fields #[.ref l2,.int 0 0]} (s.heap.objs.size+1) rfl (by simp only [Heap.size_push])
  have g1:=at5 s.heap {cls:=.type "tuple_iterator",data:=.fields #[.ref l1,.int 0 0]} s.heap.objs.size rfl rfl
  have up:∀{g:Heap} {a:Addr} {u:Obj} (o:Obj),g.get? a=some u→(g.push o).get? a=some u:=fun o e=>Heap.get?_push_of_some o e
  refine⟨⟨_,g5,rfl⟩,h _ ⟨g5,up _ (up _ g3),⟨_,_,up _ g4⟩,⟨_,up _ (up _ (up _ (up _ g1))),rfl,rfl⟩,⟨_,up _ (up _ (up _ g2)),rfl,rfl⟩⟩ fun c o x=>up _ (up _ (up _ (up _ (up _ x))))⟩
end
theorem p9:PySem.bootBuiltins "zip"=some (.type "zip"):=by decide+kernel
def AK(K:PySem.W.Frag)(ta:TA):TI:=fun σ H R=>ta σ H fun vs H1=>∃a b,vs=[.ref a,.ref b]∧(∃xs,bR K H1 a xs)∧(∃ys,bR K H1 b ys)∧R (Bc K a b) H1
theorem xD{X:Cx}{K:PySem.W.Frag}{es:List Expr}{k0:Nat}{tp:Pos}{a b:Expr}{ta:TA}{p pos:Pos}(hK:X.K=K)(hg:Gl X "zip")(hm:X.mg "zip"=none)(ha:PA X [a,b] ta)(hs:starEach [a,b] X.env=[(false,eval a X.env),(false,eval b X.env)]:=by rfl)(hs2:starEach [b] X.env=[(false,eval b X.env)]:=by rfl):
    PI X (.Tuple es k0 tp) (.Call (.Name "zip" p) [a,b] [] pos) (AK K ta):=by
  intro pins s σ H R I h
  subst hK
  refine Call_ (fX I hg hm p9 (PyProof.Rows.callWith_type1 (bz (ha pos pins s σ H _ I h) fun us s1 ⟨vs,H1,I1,r1,q1⟩=>?_) (by rw [hs,hs2]) (by rw [hs2];rfl)))
  obtain⟨a,b,e,⟨xs,qx⟩,⟨ys,qy⟩,q⟩:=q1
  subst e
  cases r1 with
  | cons r rr=>
    cases rr with
    | cons r' rr=>
      cases rr
      cases r
      cases r'
      obtain⟨i1,v1,p1,_⟩:=I1.tuple qx
      obtain⟨i2,v2,p2,_⟩:=I1.tuple qy
      refine su p1 p2 fun g st hk=>wpAny_pyIter_zip st.1 ?_
      have I2:av X pins σ H1 {s1 with heap:=g,toks:=s1.toks}:=I1.kept (t':=s1.toks) fun b o e=>hk b o e
      refine⟨s1.heap.objs.size+4,[s1.heap.objs.size+4,s1.heap.objs.size+2,s1.heap.objs.size+3,s1.heap.objs.size,s1.heap.objs.size+1],_,_,H1,rfl,I2,sk a b (show((s1.heap.objs.size+3:Nat)≠s1.heap.objs.size+4) by lia) (show((s1.heap.objs.size:Nat)≠s1.heap.objs.size+4) by lia) (show((s1.heap.objs.size+1:Nat)≠s1.heap.objs.size+4) by lia) (show((s1.heap.objs.size+3:Nat)≠s1.heap.objs.size) by lia) (show((s1.heap.objs.size+3:Nat)≠s1.heap.objs.size+1) by lia) (show((s1.heap.objs.size:Nat)≠s1.heap.objs.size+1) by lia) (show((s1.heap.objs.size+2:Nat)≠s1.heap.objs.size+4) by lia) (show((s1.heap.objs.size+2:Nat)≠s1.heap.objs.size+3) by lia) (show((s1.heap.objs.size+2:Nat)≠s1.heap.objs.size) by lia) (show((s1.heap.objs.size+2:Nat)≠s1.heap.objs.size+1) by lia),st,fun c hc=>?_,q⟩
      have le:s1.heap.objs.size≤c:=by
        simp only [List.mem_cons,List.not_mem_nil,or_false] at hc
        rcases hc with rfl | rfl | rfl | rfl | rfl
        · exact Nat.le_add_right _ 4
        · exact Nat.le_add_right _ 2
        · exact Nat.le_add_right _ 3
        · exact Nat.le_refl _
        · exact Nat.le_add_right _ 1
      have f:=I1.fpOk (H':=H1) le (I1.hok.fresh le)
      exact f
end L2
namespace L2
open PySem PySem.Spec PyProof.Rows
def vX(h:Heap)(z TI TO:Addr)(a:Addr)(f:Bool):Prop:=h.get? z=some {cls:=.type "zip",data:=.fields #[rawInt a,.bool f,.bool false,.ref TI,.ref TO]}
section
variable{prog:Program}{w:World}{A:Around}{E:Value→Shared→Prop}{s:Shared}{z TI TO i1 i2 l1 l2:Addr}{k:Nat}{xs ys:Array Value}{a:Addr}{f:Bool}{S1 S2:Nat→Heap→Prop}{R1 R2:Heap→Array Value→Prop}
end
end L2
namespace L2
open PySem PySem.Spec PyProof.Rows
structure ZL (S z TI TO i1 i2 l1 l2:Addr) (xs ys:Array Value) (i:Nat) (h:Heap):Prop where
  pr:IsPair h TI (.ref i1) (.ref i2)
  t1:h.IsTupleIter i1 l1 i
  t2:h.IsTupleIter i2 l2 i
  s1:h.IsTuple l1 xs
  s2:h.IsTuple l2 ys
  ot:∃o,h.get? TO=some o
  zs:(IsZip h z TI TO .none∧∃a b,IsPair h TO a b)∨∃a f oa,vX h z TI TO a f∧h.get? a=some oa∧a≠S∧a≠z∧a≠i1∧a≠i2
structure Bb (S z TO i1 i2:Addr) (xs ys:Array Value) (h:Heap) (acc:Array Value) (i:Nat):Prop where
  sz:acc.size=i
  at_:∀(j:Nat) (v:Value),acc[j]?=some v→∃(p:Addr) (x y:Value),v=.ref p∧xs[j]?=some x∧ys[j]?=some y∧IsPair h p x y∧p≠S∧p≠z∧p≠TO∧p≠i1∧p≠i2
  lo:∀(j:Nat) (p:Addr),acc[j]?=some (.ref p)→S < p
  BK:∀(i j:Nat) (p q:Addr),i < j→acc[i]?=some (.ref p)→acc[j]?=some (.ref q)→p < q
section
variable{prog:Program}{w:World}{A:Around}{R:Result→Shared→Prop}{S z TI TO i1 i2 l1 l2:Addr}{xs ys:Array Value}{n:Nat}
end
end L2
namespace L2
open PySem PySem.Spec PyProof.Rows
section
variable{X:Cx}{pins:List (Addr × Obj)}{σ:L2.St}{H H':Hp}{s:Shared}{h':Heap}
end
end L2
namespace L2
open PySem PySem.Spec PyProof.Rows
section
variable{prog:Program}{w:World}{A:Around}{E:Value→Shared→Prop}{s:Shared}{e it l:Addr}{k:Nat}{xs:Array Value}{S:Nat→Heap→Prop}{R:Heap→Array Value→Prop}
theorem mn(P1:Sc prog w it l S R)(hh:A.handled=none)(hne:l≠it)(xs:Array Value):Draws prog w A it [it,l] xs.size (fun i v=>xs[i]?=some v) (fun i h=>S i h∧R h xs) where
  live:=fun _ _ st=>let ⟨o,ho,_⟩:=P1.live st.1;⟨o,ho⟩
  frame:=fun _ _ _ st hk=>⟨P1.stay st.1 fun o e=>hk it (by simp) o e,P1.row st.2 fun o e=>hk l (by simp) o e⟩
  item:=fun i s Q E hi st hQ=>P1.next st.1 st.2 (x:=xs[i]) (by simp [hi]) fun g h1 h2=>hQ _ g s.toks (by simp [hi]) ⟨h1,P1.row st.2 fun o e=>h2.extBut _ _ hne e⟩ h2
  done:=fun s Q E st hE=>P1.last hh st.1 st.2 (by simp) hE
theorem jV{i:Int}{old:Value}{Q:Option Value→Shared→Prop}(P1:Sc prog w it l S R)(hh:A.handled=none)(he:IsEnum s.heap e it i old)(st:S k s.heap)(sq:R s.heap xs)(hx:xs[k]?=none)(q:∀g,Heap.ExtBut it s.heap g→Q none {s with heap:=g}):wpAny (model prog w) A (pyNext (.ref e)) Q E s:=by
  have hT:s.TypeIs (.ref e) "enumerate":=⟨_,he,rfl⟩;unfold pyNext
  refine wpAny_bind (wpAny_attempt (wpAny_callSpecial?_slot (name:=Str.ofString "__next__") hT F.slot_enumerate_next (wpAny_call_entry F.slot_enumerate_next hT F.entry_enumerate_next ?_ (F.args_enumerate_next_1 _))))
  show wpAny _ _ (field (.ref e) 2 >>= _) _ _ _;refine wpAny_bind (wpAny_field he rfl (x:=.ref it) rfl ?_)
  refine wpAny_bind (P1.last hh st sq hx fun g x hk hx'=>?_);obtain⟨o,ho,hc⟩:=hx'
  refine wpAny_bind (wpAny_isInstance (T:="StopIteration") (b:=true) ⟨o,ho,hc⟩ isSubtype_stop ?_);exact wpAny_pure (q _ hk)
theorem fg{i:Int}{old:Value}{Q:Value→Shared→Prop}(he:IsEnum s.heap e it i old)(h:Q (.ref e) s):wpAny (model prog w) A (pyIter (.ref e)) Q E s:=by
  have hT:s.TypeIs (.ref e) "enumerate":=⟨_,he,rfl⟩
  refine wpAny_pyIter_slot hT F.slot_enumerate_iter (wpAny_call_entry F.slot_enumerate_iter hT F.entry_enumerate_iter ?_ (F.args_enumerate_iter_1 _))
  show wpAny _ _ (ret (.ref e)) _ _ s;exact wpAny_pure ⟨_,rfl,"enumerate",_,hT,F.slot_enumerate_next.lookup,h⟩
end
section
variable{X:Cx}{pins:List (Addr × Obj)}{σ:L2.St}{H:Hp}{s:Shared}
theorem jM(I:av X pins σ H s){b l:Addr}{xs:List V}(f:dY X pins H b)(q:er X.K H l xs):l≠b:=by
  intro z
  subst z
  rcases q with (q | ⟨o,q⟩) | ⟨o,its,n,hk,_⟩
  · rw [f.1] at q;cases q
  · rw [f.1] at q;cases q
  · have hb:X.base.get? l=some o:=I.ok.mod.kin l o hk
    rcases f.2.2.2.1 with z | z
    · exact I.ok.noex l o hb z
    · exact absurd (Nat.lt_of_lt_of_le (Heap.lt_size (I.ok.bs l o hb).1) z) (Nat.lt_irrefl _)
end
def vZ(K:PySem.W.Frag)(l:Addr):It:=
  ⟨fun i H=>∃xs x,bR K H l xs∧xs[i]?=some x,fun i H v H'=>∃p x,v=.ref p∧H p=none∧H'=aQ H p (.tup [.int i,x])∧∀xs,bR K H l xs→xs[i]?=some x,fun i H=>∃xs,bR K H l xs∧xs.length≤i⟩
def nS(e it l:Addr)(i:Nat)(h:Heap):Prop:=(∃old,IsEnum h e it i old)∧h.IsTupleIter it l i
theorem nv{P:Program}{w:World}{K:PySem.W.Frag}{es:List Expr}{k0:Nat}{pos:Pos}{e it:Addr}(l:Addr)(ne:e≠it):mK P w K (.Tuple es k0 pos) (vZ K l) [e,it] e (nS e it l) where
  mem:=by simp
  obj:=fun i h st b hb=>by
    obtain⟨⟨old,he⟩,u⟩:=st
    simp only [List.mem_cons,List.not_mem_nil,or_false] at hb
    rcases hb with rfl | rfl
    · exact⟨_,he,fun v z=>by cases z⟩
    · obtain⟨o,e,c,d⟩:=u
      exact⟨o,e,fun v z=>by rw [d] at z;cases z⟩
  keep:=fun i h h' st k=>by
    obtain⟨⟨old,he⟩,u⟩:=st
    exact⟨⟨old,k _ (by simp) _ he⟩,u.at fun o e=>k _ (by simp) o e⟩
  item:=by
    intro X hP hw hK hc i pins s σ H E I hf st hg
    subst hP hw hK
    obtain⟨xs,x,q1,hx⟩:=hg
    obtain⟨⟨old,he⟩,u⟩:=id st
    obtain⟨its,rv,p,hz⟩:=I.tuple q1
    obtain⟨ux,hux,rux⟩:=rv.get hx
    have fe:=hf e (by simp);have ft:=hf it (by simp)
    have n1:l≠e:=aT I fe q1
    have n2:l≠it:=aT I ft q1
    have hi:i < its.toArray.size:=by have:=(List.getElem?_eq_some_iff.mp hux).1;simpa using this
    refine wpAny_pyNext_enum_itemD (mn (A:=X.A.in1) (ig it l) (show X.A.in1.handled=none from I.ok.hd hc) n2 its.toArray) he ⟨u,p⟩ hi ne (by simpa using ⟨ne,fun z=>n1 z.symm⟩) fun x' g tk hP ho hs hT hsz hk=>?_
    have ex:x'=ux:=by
      have:its[i]?=some x':=by simpa using hP
      rw [hux] at this;exact(Option.some.inj this).symm
    subst ex
    refine⟨_,rfl,wpAny_letOwnedTupleGo_enum ho fun g' he' ge=>?_⟩
    have lt:∀b∈[e,it],b < s.heap.objs.size:=fun b hb=>by
      simp only [List.mem_cons,List.not_mem_nil,or_false] at hb
      rcases hb with rfl | rfl
      · exact Heap.lt_size he
      · obtain⟨o,e,_⟩:=u;exact Heap.lt_size e
    have hTn:H s.heap.objs.size=none:=I.hok.fresh (Nat.le_refl _)
    have vv:aC [.int i,x] [.int i tk,x']:=.cons ⟨tk,rfl⟩ (.cons rux .nil)
    have I1:av X pins σ (aQ H s.heap.objs.size (.tup [.int i,x])) {s with heap:=s.heap.push {cls:=.type "tuple",data:=.seq #[.int i tk,x']},toks:=s.toks}:=
      I.laid (t':=s.toks) (fun b u e=>Heap.get?_push_of_some _ e) (Nat.le_refl _) ⟨(by show 2≤sizeLine;decide),[.int i tk,x'],vv,iA.new _ _⟩
    have hf1:∀b∈[e,it],dY X pins (aQ H s.heap.objs.size (.tup [.int i,x])) b:=fun b hb=>by
      obtain⟨f0,fr⟩:=hf b hb
      exact⟨by rw [ap (Nat.ne_of_lt (lt b hb))];exact f0,fr⟩
    have I2:av X pins σ (aQ H s.heap.objs.size (.tup [.int i,x])) {s with heap:=g',toks:=tk+1}:=by
      refine I1.turnedL (t':=tk+1) hf1 fun b o nb eb=>?_
      have nb':b≠e∧b≠it:=by simpa using nb
      refine ge.extBut _ _ nb'.1 ?_
      rcases Heap.get?_push_cases eb with ⟨rfl,rfl⟩ | eb
      · exact hT
      · exact hk b o nb'.1 nb'.2 eb
    refine⟨.ref s.heap.objs.size,_,I2,rfl,⟨_,x,rfl,hTn,rfl,fun xs' w1=>by rw [I.tuple_inj w1 q1];exact hx⟩,⟨⟨_,by simpa using he'⟩,hs.1.at fun o e=>ge.extBut _ _ (fun z=>ne z.symm) e⟩,fun b hb=>(hf1 b hb).1⟩
  done:=by
    intro X hP hw hK hc i pins s σ H E I hf st hg
    subst hP hw hK
    obtain⟨xs,q1,hn⟩:=hg
    obtain⟨⟨old,he⟩,u⟩:=id st
    obtain⟨its,rv,p,hz⟩:=I.tuple q1
    have e1:=rv.length
    refine jV (xs:=its.toArray) (ig it l) (I.ok.hd hc) he u p (by simp;lia) fun g gk=>⟨rfl,I.turnedL (t':=s.toks) hf fun b o nb eb=>?_⟩
    have nb':b≠e∧b≠it:=by simpa using nb
    exact gk b o nb'.2 eb
  self:=fun A i s Q E st h=>by
    obtain⟨⟨old,he⟩,u⟩:=st
    exact fg he h
def vY(K:PySem.W.Frag)(l:Addr):It:=
  ⟨fun i H=>∃xs x,er K H l xs∧xs[i]?=some x,fun i H v H'=>∃p x,v=.ref p∧H p=none∧H'=aQ H p (.tup [.int i,x])∧∀xs,er K H l xs→xs[i]?=some x,fun i H=>∃xs,er K H l xs∧xs.length≤i⟩
def sR(e it l:Addr)(i:Nat)(h:Heap):Prop:=(∃old,IsEnum h e it i old)∧h.IsListIter it l i
theorem nu{P:Program}{w:World}{K:PySem.W.Frag}{es:List Expr}{k0:Nat}{pos:Pos}{e it:Addr}(l:Addr)(ne:e≠it):mK P w K (.Tuple es k0 pos) (vY K l) [e,it] e (sR e it l) where
  mem:=by simp
  obj:=fun i h st b hb=>by
    obtain⟨⟨old,he⟩,u⟩:=st
    simp only [List.mem_cons,List.not_mem_nil,or_false] at hb
    rcases hb with rfl | rfl
    · exact⟨_,he,fun v z=>by cases z⟩
    · obtain⟨o,e,c,d⟩:=u
      exact⟨o,e,fun v z=>by rw [d] at z;cases z⟩
  keep:=fun i h h' st k=>by
    obtain⟨⟨old,he⟩,u⟩:=st
    exact⟨⟨old,k _ (by simp) _ he⟩,u.at fun o e=>k _ (by simp) o e⟩
  item:=by
    intro X hP hw hK hc i pins s σ H E I hf st hg
    subst hP hw hK
    obtain⟨xs,x,q1,hx⟩:=hg
    obtain⟨⟨old,he⟩,u⟩:=id st
    obtain⟨its,rv,p,hz⟩:=I.list q1
    obtain⟨ux,hux,rux⟩:=rv.get hx
    have fe:=hf e (by simp);have ft:=hf it (by simp)
    have n1:l≠e:=jM I fe q1
    have n2:l≠it:=jM I ft q1
    have hi:i < its.toArray.size:=by have:=(List.getElem?_eq_some_iff.mp hux).1;simpa using this
    refine wpAny_pyNext_enum_itemD (mn (A:=X.A.in1) (oF it l) (show X.A.in1.handled=none from I.ok.hd hc) n2 its.toArray) he ⟨u,p.isList⟩ hi ne (by simpa using ⟨ne,fun z=>n1 z.symm⟩) fun x' g tk hP ho hs hT hsz hk=>?_
    have ex:x'=ux:=by
      have:its[i]?=some x':=by simpa using hP
      rw [hux] at this;exact(Option.some.inj this).symm
    subst ex
    refine⟨_,rfl,wpAny_letOwnedTupleGo_enum ho fun g' he' ge=>?_⟩
    have lt:∀b∈[e,it],b < s.heap.objs.size:=fun b hb=>by
      simp only [List.mem_cons,List.not_mem_nil,or_false] at hb
      rcases hb with rfl | rfl
      · exact Heap.lt_size he
      · obtain⟨o,e,_⟩:=u;exact Heap.lt_size e
    have hTn:H s.heap.objs.size=none:=I.hok.fresh (Nat.le_refl _)
    have vv:aC [.int i,x] [.int i tk,x']:=.cons ⟨tk,rfl⟩ (.cons rux .nil)
    have I1:av X pins σ (aQ H s.heap.objs.size (.tup [.int i,x])) {s with heap:=s.heap.push {cls:=.type "tuple",data:=.seq #[.int i tk,x']},toks:=s.toks}:=
      I.laid (t':=s.toks) (fun b u e=>Heap.get?_push_of_some _ e) (Nat.le_refl _) ⟨(by show 2≤sizeLine;decide),[.int i tk,x'],vv,iA.new _ _⟩
    have hf1:∀b∈[e,it],dY X pins (aQ H s.heap.objs.size (.tup [.int i,x])) b:=fun b hb=>by
      obtain⟨f0,fr⟩:=hf b hb
      exact⟨by rw [ap (Nat.ne_of_lt (lt b hb))];exact f0,fr⟩
    have I2:av X pins σ (aQ H s.heap.objs.size (.tup [.int i,x])) {s with heap:=g',toks:=tk+1}:=by
      refine I1.turnedL (t':=tk+1) hf1 fun b o nb eb=>?_
      have nb':b≠e∧b≠it:=by simpa using nb
      refine ge.extBut _ _ nb'.1 ?_
      rcases Heap.get?_push_cases eb with ⟨rfl,rfl⟩ | eb
      · exact hT
      · exact hk b o nb'.1 nb'.2 eb
    refine⟨.ref s.heap.objs.size,_,I2,rfl,⟨_,x,rfl,hTn,rfl,fun xs' w1=>by rw [I.list_inj w1 q1];exact hx⟩,⟨⟨_,by simpa using he'⟩,hs.1.at fun o e=>ge.extBut _ _ (fun z=>ne z.symm) e⟩,fun b hb=>(hf1 b hb).1⟩
  done:=by
    intro X hP hw hK hc i pins s σ H E I hf st hg
    subst hP hw hK
    obtain⟨xs,q1,hn⟩:=hg
    obtain⟨⟨old,he⟩,u⟩:=id st
    obtain⟨its,rv,p,hz⟩:=I.list q1
    have e1:=rv.length
    refine jV (xs:=its.toArray) (oF it l) (I.ok.hd hc) he u p.isList (by simp;lia) fun g gk=>⟨rfl,I.turnedL (t':=s.toks) hf fun b o nb eb=>?_⟩
    have nb':b≠e∧b≠it:=by simpa using nb
    exact gk b o nb'.2 eb
  self:=fun A i s Q E st h=>by
    obtain⟨⟨old,he⟩,u⟩:=st
    exact fg he h
end L2
namespace L2
open PySem PySem.Spec PyProof.Rows
def jf(n:Nat):List Int:=(List.range n).map Int.ofNat
theorem jg(n:Nat):(jf n).length=n:=by simp [jf]
section
variable{X:Cx}{a:Expr}{ta:TA}{p p2 pos pos2:Pos}
end
end L2
namespace L2
open PySem PySem.Spec PyProof.Rows
theorem pj:fillsNumberSlot (.type "tuple") "mul"=pure false:=
  PySem.fillsNumberSlot_seq (id:="tuple.__mul__") (r:=some (.builtin "tuple.__rmul__")) F.slot_tuple_mul.lookup (by decide+kernel) F.slot_tuple_rmul.lookup (by decide+kernel)
theorem x6:seqRepeat? (.type "tuple")=pure (some (.builtin "tuple.__mul__")):=by
  unfold seqRepeat?;rw [PySem.seqSlot_of (T:="tuple") (name:="__mul__") (id:="tuple.__mul__") F.slot_tuple_mul.lookup (by decide+kernel),PySem.seqSlot_of (T:="tuple") (name:="__rmul__") (id:="tuple.__rmul__") F.slot_tuple_rmul.lookup (by decide+kernel)];rfl
theorem uD(a:Int)(t:Tok)(l:Addr)(items:Array Value)(n:Nat)(dd:Option Addr)(sl:Array (Option Value)):
    Meets (Builtin.«int.__rmul__» ⟨[.int a t,.ref l],[]⟩) (fun _ R s=>s.heap.get? l=some {cls:=.type "tuple",dict:=dd,data:=.seq items n,slots:=sl}∧R (.ok (.ret Value.notImplemented)) s):=
  .of_wp fun prog w A R s h=>by obtain⟨hp,g,d,tk,os⟩:=s;obtain⟨hl,h⟩:=h;wp_walk;exact⟨_,rfl,h⟩
theorem wW(l:Addr)(x:Value)(n:Nat)(k:Int)(u:Tok)(dd:Option Addr)(sl:Array (Option Value))(h0:2≤k)(h1:k≤100000):
    Meets (Builtin.«tuple.__mul__» ⟨[.ref l,.int k u],[]⟩) (fun _ R s=>s.heap.get? l=some {cls:=.type "tuple",dict:=dd,data:=.seq #[x] n,slots:=sl}∧
      R (.ok (.ret (.ref s.heap.objs.size))) {s with heap:=s.heap.push {cls:=.type "tuple",data:=.seq (List.replicate k.toNat x).toArray}}):=
  .of_wp fun prog w A R s h=>by
    obtain⟨hp,g,d,tk,os⟩:=s;obtain⟨hl,h⟩:=h
    have f1:=AutoSeq1.idx_int
    have c1:¬(decide (k < -(2 ^ 63)) || decide (k≥2 ^ 63))=true:=by simp;lia
    have c2:¬((#[x]:Array Value).isEmpty || k==1)=true:=by simp;lia
    have c3:¬(decide (k≤0) || (#[x]:Array Value).isEmpty)=true:=by simp;lia
    have c4:¬(((#[x]:Array Value).size:Int)*k > (2 ^ 63 - 1) / 8):=by simp;lia
    have c5:¬Builtin.Tuple.tupleTooMany (((#[x]:Array Value).size:Int)*k)=true:=by
      unfold Builtin.Tuple.tupleTooMany;rw [sizeLine_eq];simp;lia
    wp_walk using wpAny_loadPart' hl
    rw [if_neg c1]
    wp_walk using wpAny_loadPart' hl
    rw [if_neg c2]
    wp_walk using wpAny_loadPart' hl
    rw [if_neg c3]
    wp_walk using wpAny_loadPart' hl
    rw [if_neg c4]
    show wpAny _ _ (if Builtin.Tuple.tupleTooMany (((#[x]:Array Value).size:Int)*k)=true then _ else _) _ _ _
    rw [if_neg c5]
    have f0:∀(m:Nat) (acc:Array Value),List.foldl (fun x1 x2=>x1++x2) acc (List.replicate m #[x])=acc++(List.replicate m x).toArray:=by
      intro m
      induction m with
      | zero=>intro acc;simp
      | succ m ih=>intro acc;rw [List.replicate_succ,List.foldl_cons,ih,List.replicate_succ];apply Array.toList_inj.mp;simp
    have e:List.foldl (fun x1 x2=>x1++x2) #[] (List.replicate k.toNat #[x])=(List.replicate k.toNat x).toArray:=by rw [f0];simp
    show wpAny _ _ (Builtin.Tuple.tupleExact (List.foldl (fun x1 x2=>x1++x2) #[] (List.replicate k.toNat #[x])) >>= fun v=>ret v) _ _ _
    rw [e]
    unfold Builtin.Tuple.tupleExact
    refine wpAny_bind (wpAny_newObj_type ?_ (by show(List.replicate k.toNat x).toArray.size≤sizeLine;rw [List.size_toArray,List.length_replicate,sizeLine_eq];lia))
    exact wpAny_pure ⟨_,rfl,h⟩
theorem tG(l:Addr)(x:Value)(n:Nat)(u:Tok)(dd:Option Addr)(sl:Array (Option Value)):
    Meets (Builtin.«tuple.__mul__» ⟨[.ref l,.int 0 u],[]⟩) (fun _ R s=>s.heap.get? l=some {cls:=.type "tuple",dict:=dd,data:=.seq #[x] n,slots:=sl}∧R (.ok (.ret (.ref s.heap.objs.size))) {s with heap:=s.heap.push {cls:=.type "tuple",data:=.seq #[]}}):=
  .of_wp fun prog w A R s h=>by
    obtain⟨hp,g,d,tk,os⟩:=s;obtain⟨hl,h⟩:=h;have f1:=AutoSeq1.idx_int
    have c2:¬((#[x]:Array Value).isEmpty || (0:Int)==1)=true:=by simp
    wp_walk using wpAny_loadPart' hl
    first | rw [if_neg c2] | skip
    wp_walk using wpAny_loadPart' hl
    exact⟨_,rfl,h⟩
theorem tH(l:Addr)(x:Value)(n:Nat)(u:Tok)(dd:Option Addr)(sl:Array (Option Value)):
    Meets (Builtin.«tuple.__mul__» ⟨[.ref l,.int 1 u],[]⟩) (fun _ R s=>s.heap.get? l=some {cls:=.type "tuple",dict:=dd,data:=.seq #[x] n,slots:=sl}∧R (.ok (.ret (.ref l))) s):=
  .of_wp fun prog w A R s h=>by
    obtain⟨hp,g,d,tk,os⟩:=s;obtain⟨hl,h⟩:=h;have f1:=AutoSeq1.idx_int
    wp_walk using wpAny_loadPart' hl
    exact⟨_,rfl,h⟩
section
variable{X:Cx}
def rQ(K:PySem.W.Frag):R2:=fun x y H Q=>∃a k v,x=.ref a∧y=.int k∧bR K H a [v]∧0≤k∧k≤100000∧∀p H',aq H H'→bR K H' p (List.replicate k.toNat v)→Q (.ref p) H'
theorem tV:eJ X (binaryOp .Mult) (rQ X.K):=by
  intro pins s σ H x y v u Q I rx ry h
  obtain⟨a,k,z,rfl,rfl,ha,k0,k1,q⟩:=h
  cases rx
  obtain⟨t,rfl⟩:=ry
  obtain⟨its,r,p,hz⟩:=I.tuple ha
  obtain⟨uz,rfl,rz⟩:=m_ r
  obtain⟨⟨cls,dd,data,sl⟩,ho,hc,n,hd⟩:=id p
  simp only at hc hd
  subst hc hd
  refine wpAny_binaryOp_repeat_ref (T:="tuple") (U:="int") (by decide) ⟨_,ho,rfl⟩ (fun s'=>PySem.typeIs_int s' k t) pj F.fills_int_mul F.slot_int_rmul x6 F.slot_int_index.lookup (call_meets F.slot_int_rmul (PySem.typeIs_int s k t) F.entry_int_rmul (F.args_int_rmul_2 _ _) (uD k t a #[uz] n dd sl) ⟨ho,rfl,⟨_,ho,rfl⟩,?_⟩)
  have new:∀m:Nat,m=k.toNat→EP X pins σ Q (.ref s.heap.objs.size) {s with heap:=s.heap.push {cls:=.type "tuple",data:=.seq (List.replicate m uz).toArray},toks:=s.toks}:=fun m hm=>by
    have hf:H s.heap.objs.size=none:=I.hok.fresh (Nat.le_refl _)
    have vv:∀j:Nat,aC (List.replicate j z) (List.replicate j uz):=fun j=>by
      induction j with
      | zero=>exact .nil
      | succ j ih=>exact .cons rz ih
    refine⟨.ref s.heap.objs.size,_,I.laid (t':=s.toks) (o:=.tup (List.replicate m z)) (fun b ob q=>Heap.get?_push_of_some _ q) (Nat.le_refl _) ⟨by rw [List.length_replicate,sizeLine_eq];lia,_,vv m,iA.new _ _⟩,rfl,q _ _ (aq.new hf) (bR.of (by rw [ar,hm]))⟩
  rcases(by lia:k=0∨k=1∨2≤k) with e | e | e
  · subst e
    exact call_meets F.slot_tuple_mul ⟨_,ho,rfl⟩ F.entry_tuple_mul (F.args_tuple_mul_2 _ _) (tG a uz n t dd sl) ⟨ho,new 0 rfl⟩
  · subst e
    exact call_meets F.slot_tuple_mul ⟨_,ho,rfl⟩ F.entry_tuple_mul (F.args_tuple_mul_2 _ _) (tH a uz n t dd sl) ⟨ho,⟨.ref a,H,I,rfl,q a H (aq.refl H) ha⟩⟩
  · exact call_meets F.slot_tuple_mul ⟨_,ho,rfl⟩ F.entry_tuple_mul (F.args_tuple_mul_2 _ _) (wW a uz n k t dd sl e k1) ⟨ho,new _ rfl⟩
end
end L2
namespace L2
open PySem PySem.Spec PyProof.Rows
section
variable{prog:Program}{w:World}{A:Around}{E:Value→Shared→Prop}{s:Shared}
end
section
variable{X:Cx}{a:Expr}{ta:TA}{p p2 p3 pos pos2 pos3:Pos}
end
end L2
namespace L2
open PySem PySem.Spec PyProof.Rows
theorem oW(l:Addr)(xs:Array Value):
    Meets (Builtin.«enumerate.__new__» ⟨[.type "enumerate",.ref l],[]⟩) (fun _ R s=>s.heap.IsTuple l xs∧R (.ok (.ret (.ref (s.heap.objs.size+1)))) {s with heap:=(s.heap.push {cls:=.type "tuple_iterator",data:=.fields #[.ref l,.int 0 0]}).push {cls:=.type "enumerate",data:=.fields #[.none,.bool false,.ref s.heap.objs.size,rawInt 0,.none,.none]}}):=
  .of_wp fun prog w A R s h=>by
    obtain⟨hp,g,d,tk,os⟩:=s;obtain⟨ht,h⟩:=h;have a1:=sub_enumerate
    have T1:Heap.IsTuple (Shared.heap ⟨hp,g,d,tk,os⟩) l xs:=ht
    obtain⟨⟨cls,dd,data,sl⟩,ho,hc,n,hd⟩:=id ht
    simp only at hc hd
    subst hc hd
    wp_walk using wpAny_loadPart' ho
    refine wpAny_stack_any fun st=>wpAny_pure ?_
    split
    · rename_i c _ _ _ _ _
      cases (c==Value.type "enumerate")
      · wp_walk using wpAny_loadPart' ho,wpAny_pyIter_tuple T1
        refine⟨_,rfl,?_⟩
        simp only [Heap.size_push]
        exact h
      · wp_walk using wpAny_loadPart' ho,wpAny_pyIter_tuple T1
        refine⟨_,rfl,?_⟩
        simp only [Heap.size_push]
        exact h
    · wp_walk using wpAny_loadPart' ho,wpAny_pyIter_tuple T1
      refine⟨_,rfl,?_⟩
      simp only [Heap.size_push]
      exact h
section
variable{prog:Program}{w:World}{A:Around}{E:Value→Shared→Prop}{s:Shared}
theorem mU{l:Addr}{xs:Array Value}{Q:Value→Shared→Prop}(t1:s.heap.IsTuple l xs)(h:∀g,nS (s.heap.objs.size+1) s.heap.objs.size l 0 g→(∀c o,s.heap.get? c=some o→g.get? c=some o)→Q (.ref (s.heap.objs.size+1)) {s with heap:=g}):wpAny (model prog w) A (call (.type "enumerate") [.ref l]) Q E s:=by
  refine callType_new F.called_enumerate (by decide) (F.typeCall_enumerate_1 _) (F.newCall_enumerate_1 _) (fun obj=>F.args_object_init_2 obj _) F.entry_enumerate_new (oW l xs) ⟨t1,?_⟩
  have g2:((s.heap.push {cls:=.type "tuple_iterator",data:=.fields #[.ref l,.int 0 0]}).push {cls:=.type "enumerate",data:=.fields #[.none,.bool false,.ref s.heap.objs.size,rawInt 0,.none,.none]}).get? (s.heap.objs.size+1)=some {cls:=.type "enumerate",data:=.fields #[.none,.bool false,.ref s.heap.objs.size,rawInt 0,.none,.none]}:=by
    have e:s.heap.objs.size+1=(s.heap.push {cls:=.type "tuple_iterator",data:=.fields #[.ref l,.int 0 0]}).objs.size:=by simp only [Heap.size_push]
    rw [e];exact Heap.get?_push_size _ rfl
  exact⟨⟨_,g2,rfl⟩,h _ ⟨⟨.none,g2⟩,⟨_,Heap.get?_push_of_some _ (Heap.get?_push_size _ rfl),rfl,rfl⟩⟩ fun c o x=>Heap.get?_push_of_some _ (Heap.get?_push_of_some _ x)⟩
end
theorem eP:PySem.bootBuiltins "enumerate"=some (.type "enumerate"):=by decide+kernel
def AH(K:PySem.W.Frag)(ta:TA):TI:=fun σ H R=>ta σ H fun vs H1=>∃a,vs=[.ref a]∧(∃xs,bR K H1 a xs)∧R (vZ K a) H1
def AG(K:PySem.W.Frag)(ta:TA):TI:=fun σ H R=>ta σ H fun vs H1=>∃a,vs=[.ref a]∧(∃xs,er K H1 a xs)∧R (vY K a) H1
section
variable{X:Cx}{K:PySem.W.Frag}{es:List Expr}{k0:Nat}{tp:Pos}{a:Expr}{ta:TA}{p pos:Pos}
theorem rk(hK:X.K=K)(hg:Gl X "enumerate")(hm:X.mg "enumerate"=none)(ha:PA X [a] ta)(hs:starEach [a] X.env=[(false,eval a X.env)]:=by rfl):PI X (.Tuple es k0 tp) (.Call (.Name "enumerate" p) [a] [] pos) (AH K ta):=by
  intro pins s σ H R I h
  subst hK
  refine Call_ (fX I hg hm eP (PyProof.Rows.callWith_type1 (bz (ha pos pins s σ H _ I h) fun us s1 ⟨vs,H1,I1,r1,q1⟩=>?_) hs rfl))
  obtain⟨a,e,⟨xs,qx⟩,q⟩:=q1
  subst e
  obtain⟨u,rfl,ru⟩:=m_ r1
  cases ru
  obtain⟨i1,v1,p1,_⟩:=I1.tuple qx
  refine mU p1 fun g st hk=>?_
  obtain⟨⟨old,he⟩,hit⟩:=id st
  refine fg he ?_
  have I2:av X pins σ H1 {s1 with heap:=g,toks:=s1.toks}:=I1.kept (t':=s1.toks) fun b o e=>hk b o e
  refine⟨s1.heap.objs.size+1,[s1.heap.objs.size+1,s1.heap.objs.size],_,_,H1,rfl,I2,nv a (show((s1.heap.objs.size+1:Nat)≠s1.heap.objs.size) by lia),st,fun c hc=>?_,q⟩
  have le:s1.heap.objs.size≤c:=by
    simp only [List.mem_cons,List.not_mem_nil,or_false] at hc
    rcases hc with rfl | rfl
    · exact Nat.le_add_right _ 1
    · exact Nat.le_refl _
  exact I1.fpOk (H':=H1) le (I1.hok.fresh le)
theorem rj(hK:X.K=K)(hg:Gl X "enumerate")(hm:X.mg "enumerate"=none)(ha:PA X [a] ta)(hs:starEach [a] X.env=[(false,eval a X.env)]:=by rfl):PI X (.Tuple es k0 tp) (.Call (.Name "enumerate" p) [a] [] pos) (AG K ta):=by
  intro pins s σ H R I h
  subst hK
  refine Call_ (fX I hg hm eP (PyProof.Rows.callWith_type1 (bz (ha pos pins s σ H _ I h) fun us s1 ⟨vs,H1,I1,r1,q1⟩=>?_) hs rfl))
  obtain⟨a,e,⟨xs,qx⟩,q⟩:=q1
  subst e
  obtain⟨u,rfl,ru⟩:=m_ r1
  cases ru
  obtain⟨i1,v1,p1,_⟩:=I1.list qx
  refine call_enumerate_list p1.isList fun g he hit hsz hk=>?_
  refine fg he ?_
  have I2:av X pins σ H1 {s1 with heap:=g,toks:=s1.toks}:=I1.kept (t':=s1.toks) fun b o e=>hk b o e
  refine⟨s1.heap.objs.size+1,[s1.heap.objs.size+1,s1.heap.objs.size],_,_,H1,rfl,I2,nu a (show((s1.heap.objs.size+1:Nat)≠s1.heap.objs.size) by lia),⟨⟨_,he⟩,hit⟩,fun c hc=>?_,q⟩
  have le:s1.heap.objs.size≤c:=by
    simp only [List.mem_cons,List.not_mem_nil,or_false] at hc
    rcases hc with rfl | rfl
    · exact Nat.le_add_right _ 1
    · exact Nat.le_refl _
  exact I1.fpOk (H':=H1) le (I1.hok.fresh le)
end
end L2
namespace L2
open PySem PySem.Spec PyProof.Rows
section
variable{prog:Program}{w:World}{A:Around}{E:Value→Shared→Prop}{s:Shared}
end
section
variable{prog:Program}{w:World}{A:Around}{E:Value→Shared→Prop}{s:Shared}
end
section
variable{prog:Program}{w:World}{A:Around}{E:Value→Shared→Prop}{s:Shared}
end
end L2
namespace L2
open PySem PySem.Spec PyProof.Rows
theorem ni{X:Cx}{ix:Nat}{nm:Str}{posn poss:Pos}{elt iter tg:Expr}{ifs:List Expr}{scope:Scope}{pos:Pos}{wi:TI}{g:TG}{tc:TT}{te:TE}(sc0:Scope)(N0:List Str)(cp:List (Nat × Str))(tgN:List Str)
    (hc:X.calm=true)(hsc:X.env.scope=sc0)(hN0:X.N=N0)(hi:PI X tg iter wi)
    (hg:∀C s0 H0 fp,PG (am X scope cp tgN C s0 H0 fp) tg g)
    (ht:∀C s0 H0 fp,nI (am X scope cp tgN C s0 H0 fp) ifs tc)
    (he:∀C s0 H0 fp,PE (am X scope cp tgN C s0 H0 fp) elt te)
    (hk:scope.kind=.function)(hcell:∀y∈scope.names,y.2≠.cell)(hnames:∀y∈scope.names,y.2=.local→scope.names.lookup y.1=some .local)
    (hfr:∀y∈scope.names,y.2=.free→scope.names.lookup y.1=some .free∧sc0.names.lookup y.1=some .cell)
    (hcp:∀p∈cp,N0[p.1]?=some p.2)(hcq:∀p∈cp,sc0.names.lookup p.2=some .cell∧scope.names.lookup p.2=some .free)
    (hNd:X.N.Nodup)(hix:X.N[ix]?=some nm)(hlc:X.env.scope.names.lookup nm=some .local)(hsw:swapsWith (.ListComp elt [⟨tg,iter,ifs,0⟩] scope pos) (some (.Name nm posn)) poss.line X.env=pure true)
    (hs:∀x,foldedSetIterable iter X.env x=pure x:=by intro _;rfl):
    PS X (.Assign [.Name nm posn] (.ListComp elt [⟨tg,iter,ifs,0⟩] scope pos) poss) (yd (oG cp tgN.length wi g tc te) (qu ix)):=by
  intro pins s σ H D0 I h
  let Q:VK:=fun x H1=>D0.nx (σ.set ix (some x)) H1
  have h:oG cp tgN.length wi g tc te σ H Q:=h
  have hkind:∀x,X.env.kindOf x=sc0.names.lookup x:=fun x=>by unfold Env.kindOf;rw [hsc]
  have hfree:∀y∈scope.names,y.2=.free→∃c,X.env.cells.lookup y.1=some c:=fun y hy e=>I.ok.has y.1 (.inl (by rw [hkind];exact(hfr y hy e).2))
  rw [exec_Assign_Name_used _ _ _ _ hsw]
  refine wpAny_bind (wpAny_standAt (wpAny_bind ?_))
  unfold evalThenUse
  refine wpAny_bind ?_
  refine wpAny_comprehension_free (use:=some (assign (.Name nm posn) X.env)) rfl hs (fQ hfree) hk hnames (wpAny_mono (hi pins s σ H _ I h.go) (fun xv s₁ h₁=>wpAny_mono h₁ (fun itv s₂ h₂=>?_) fun _ _ e=>e) fun _ _ e=>e)
  obtain⟨it,fp,tn,J,H2,rfl,I2,T,st2,f2,hq⟩:=h₂
  refine wpAny_newObj_type ?_
  have hlF:H2 s₂.heap.objs.size=none:=I2.hok.fresh (Nat.le_refl _)
  have I3:av X pins σ (aQ H2 s₂.heap.objs.size (.lst [])) {s₂ with heap:=s₂.heap.push {cls:=.type "list",data:=.seq ([]:List Value).toArray}}:=I2.lnew (t':=s₂.toks) .nil (Nat.zero_le _)
  obtain⟨W,⟨m0,w0⟩,turn⟩:=hq _ hlF
  have f3:∀b∈fp,dY X pins (aQ H2 s₂.heap.objs.size (.lst [])) b:=fun b hb=>by
    obtain⟨f0,fr⟩:=f2 b hb
    obtain⟨o,ho,_⟩:=T.obj _ _ st2 b hb
    exact⟨by rw [ap (Nat.ne_of_lt (Heap.lt_size ho))];exact f0,fr⟩
  have st3:tn 0 (s₂.heap.push {cls:=.type "list",data:=.seq ([]:List Value).toArray}):=T.keep _ _ _ st2 fun b _ o e=>Heap.get?_push_of_some _ e
  generalize hD:s₂.heap.objs.size=D at*
  generalize hs3:({s₂ with heap:=s₂.heap.push {cls:=.type "list",data:=.seq ([]:List Value).toArray}}:Shared)=s₃ at*
  have hst3:tn 0 s₃.heap:=by rw [←hs3];exact st3
  refine wpAny_newFunctionEnv hcell (by intro y hy;simp at hy) (fun h₁ hns₁ hsb₁=>?_) hk
  generalize hC:s₃.heap.objs.size=C at*
  have old:∀b o,s₃.heap.get? b=some o→h₁.get? b=some o:=fun b o e=>hsb₁.extBut b o (by rw [←hC];exact Nat.ne_of_lt (Heap.lt_size e)) (Heap.get?_push_of_some _ e)
  have nC:∀b o,s₃.heap.get? b=some o→b≠C:=fun b o e=>by rw [←hC];exact Nat.ne_of_lt (Heap.lt_size e)
  have hHC:(aQ H2 D (.lst [])) C=none:=I3.hok.fresh (by rw [hC];exact Nat.le_refl _)
  have clS:∀x c,(dq X.env scope.names []).lookup x=some c→X.env.cells.lookup x=some c:=fun x c e=>eB _ _ x c hfree (fun _ _ z=>by simp at z) e
  have clH:∀x,(∃y∈scope.names,y.1=x∧y.2=.free)→∃c,(dq X.env scope.names []).lookup x=some c:=fun x e=>gh _ _ x (.inl e)
  have ok':(am X scope cp tgN C s₃ (aQ H2 D (.lst [])) fp).Ok:=by
    refine⟨I.ok.mod,hk,I.ok.glob,I.ok.blt,by rw [←hC];exact Nat.le_refl _,fun x y c e1 e2=>I.ok.inj x y c (clS _ _ e1) (clS _ _ e2),fun x e=>clH x (br hcell e),fun x c e1 e2=>?_,I.ok.hd,I.ok.frames,.inl rfl,fun b hb=>?_,fun b o e=>I3.bs b o e,?_,fun b o e hb=>?_,fun b hb z=>?_,I3.stack,fun b hb=>I3.stkFree b hb⟩
    · exfalso
      have e1':scope.names.lookup x=some .local:=by simpa [am] using e1
      have e2':=clS x c e2
      obtain⟨c',hc'⟩:∃y∈scope.names,y.1=x∧y.2=.free:=by
        by_cases q:∃y∈scope.names,y.1=x∧y.2=.free
        · exact q
        · exfalso
          have:∀(names:List (Str × NameKind)) (cs:List (Str × Addr)),(¬∃y∈names,y.1=x∧y.2=.free)→cs.lookup x=none→(dq X.env names cs).lookup x=none:=by
            intro names
            induction names with
            | nil=>intro cs _ h;exact h
            | cons y r ih=>
              intro cs hn hcs
              obtain⟨n,k⟩:=y
              refine ih _ (fun⟨y,hy,z⟩=>hn ⟨y,List.mem_cons_of_mem _ hy,z⟩) ?_
              by_cases hk:(k==NameKind.free)=true
              · rw [if_pos hk,List.lookup_cons]
                cases hx:x==n with
                | true=>exact absurd ⟨(n,k),List.mem_cons_self,(by simpa using hx:x=n).symm,by simpa using hk⟩ hn
                | false=>exact hcs
              · rw [if_neg hk];exact hcs
          have z:=this scope.names [] q rfl
          have e2'':(dq X.env scope.names []).lookup x=some c:=e2
          rw [z] at e2'';cases e2''
      have z:=(hfr c' hc'.1 hc'.2.2).1
      rw [hc'.2.1,e1'] at z;cases z
    · obtain⟨f0,f1,f4,f5,f6,f7⟩:=f3 b hb
      obtain⟨o,ho,_⟩:=T.obj _ _ hst3 b hb
      exact⟨nC b o ho,fun x c e=>f6 x c (clS x c e)⟩
    · exact Nat.le_trans I.ok.bsz I3.sz
    · obtain⟨f0,f1,f4,f5,f6,f7⟩:=f3 b hb
      rcases f5 with z | z
      · exact I.ok.noex b o e z
      · have:=(I.ok.bs b o e).1
        exact absurd (Nat.lt_of_lt_of_le (Heap.lt_size this) z) (Nat.lt_irrefl _)
    · obtain⟨f0,f1,f4,f5,f6,f7⟩:=f3 b hb
      rcases List.mem_cons.mp (I3.stkSub b z) with z | z
      · exact f1 z
      · exact f4 z
  have I4:av (am X scope cp tgN C s₃ (aQ H2 D (.lst [])) fp) [] (cA cp tgN.length σ) (aQ H2 D (.lst [])) {s₃ with heap:=h₁,toks:=s₃.toks+([]:List (Str × Value)).length}:=by
    refine⟨ok',rfl,I3.bare,Un.kept old,⟨_,hns₁,fun i x v e1 e2 e3=>?_⟩,fun x c e=>?_,hHC,fun x c e=>I3.freeC x c (clS x c e),fun p hp=>by simp [am] at hp,I3.hok.kept old,by simp [cA,am]⟩
    · have hlt:i < cp.length:=by
        by_cases q:i < cp.length
        · exact q
        · exfalso
          unfold cA at e2
          rw [List.getElem?_append_right (by simp;lia)] at e2
          rw [List.getElem?_replicate] at e2
          split at e2<;>cases e2
      have e1':(cp.map (·.2))[i]?=some x:=by
        have e1'':(cp.map (·.2)++tgN)[i]?=some x:=e1
        rwa [List.getElem?_append_left (by simp;exact hlt)] at e1''
      have e2':(cp.map (fun p=>(σ[p.1]?).join))[i]?=some (some v):=by
        unfold cA at e2
        rwa [List.getElem?_append_left (by simp;exact hlt)] at e2
      rw [List.getElem?_map,List.getElem?_eq_getElem hlt] at e1' e2'
      have ex:(cp[i]).2=x:=by simpa using e1'
      have ev:(σ[(cp[i]).1]?).join=some v:=by simpa using e2'
      have ev':σ[(cp[i]).1]?=some (some v):=by
        cases q:σ[(cp[i]).1]? with
        | none=>rw [q] at ev;cases ev
        | some z=>rw [q] at ev;simp only [Option.join_some] at ev;rw [ev]
      have hN:=hcp cp[i] (List.getElem_mem hlt)
      rw [←hN0] at hN
      obtain⟨hcl,hcf⟩:=hcq cp[i] (List.getElem_mem hlt)
      rw [ex] at hN hcl hcf
      obtain⟨m,hn,hl⟩:=I3.loc
      obtain⟨u,r,l⟩:=hl _ x v hN ev' (.inr (.inl (by rw [hsc];exact hcl)))
      refine⟨u,r,.inr ?_⟩
      rcases l with ⟨k1,_⟩ | ⟨k1,c,hcc,o,ho,hd⟩
      · rw [hkind,hcl] at k1;cases k1
      · have e3':(relabel scope X.env).names.lookup x=some .local∨(relabel scope X.env).names.lookup x=some .cell∨(relabel scope X.env).names.lookup x=some .free:=e3
        have nl:(relabel scope X.env).names.lookup x=some .cell∨(relabel scope X.env).names.lookup x=some .free:=by
          rcases e3' with z | z | z
          · exact absurd z (b_ hcf)
          · exact .inl z
          · exact .inr z
        obtain⟨c',hc'⟩:=clH x (br hcell nl)
        have:=clS x c' hc'
        rw [hcc] at this;cases this
        exact⟨nl,c,hc',o,old c o ho,hd⟩
    · obtain⟨v,o,ho,hd⟩:=I3.cell x c (clS x c e)
      exact⟨v,o,old c o ho,hd⟩
  have hst4:tn 0 h₁:=T.keep _ _ _ hst3 fun b _ o e=>old b o e
  have loop:codeAny (model X.prog X.w) X.A (.compLoop (.ListComp elt [⟨tg,iter,ifs,0⟩] scope pos) 0 (.ref it) (.ref D) (compEnvC scope (dq X.env scope.names []) C X.env))
      (compPost (model X.prog X.w) X.A X.xe (some (assign (.Name nm posn) X.env)) (fun _ s'=>wpAny (model X.prog X.w) X.A (pure ()) (fun _ s''=>wpAny (model X.prog X.w) X.A (pure Flow.next) (SP X pins D0) X.xe s'') X.xe s') (.ref D) C) {s₃ with heap:=h₁,toks:=s₃.toks+([]:List (Str × Value)).length}:=by
    refine gp (fun n s'=>∃i σ' H',av (am X scope cp tgN C s₃ (aQ H2 D (.lst [])) fp) [] σ' H' s'∧tn i s'.heap∧(∀b∈fp,H' b=none)∧W i n σ' H') ?_ (n0:=m0) ⟨0,_,_,I4,hst4,fun b hb=>(f3 b hb).1,w0⟩
    rintro n s5 ⟨i,σ5,H5,I5,st5,fr5,w5⟩
    have stat:∀{H':Hp},(∀b∈fp,H' b=none)→∀b∈fp,dY (am X scope cp tgN C s₃ (aQ H2 D (.lst [])) fp) [] H' b:=fun hn b hb=>
      ⟨hn b hb,(ok'.exf b hb).1,ok'.exfs b hb,.inl hb,(ok'.exf b hb).2,fun p hp=>by simp [am] at hp⟩
    rcases turn i n σ5 H5 w5 with ⟨stop,qn⟩ | ⟨go,N,hN,step⟩
    · refine bz (T.done (am X scope cp tgN C s₃ (aQ H2 D (.lst [])) fp) rfl rfl rfl hc i [] s5 σ5 H5 (fun _ _=>False) I5 (stat fr5) st5 stop) fun r s6 ⟨hr,I6⟩=>?_
      subst hr
      refine⟨fun _=>?_,fun v z=>by cases z⟩
      obtain⟨m,hn,_⟩:=I6.loc
      have I7:av X pins σ H5 s6:=by
        have key:∀h':Heap,Heap.SameBut C s6.heap h'→av X pins σ H5 {s6 with heap:=h'}:=fun h' sb=>by
          have ub:=I6.base
          have kp:∀b u,b≠C→s6.heap.get? b=some u→h'.get? b=some u:=fun b u ne e=>sb.extBut b u ne e
          have nit:∀b u,H5 b=some u→b≠C:=fun b u e z=>by
            have:=I6.free
            rw [z] at e
            rw [show H5 C=none from this] at e;cases e
          refine I3.call' (s':={s6 with heap:=h'}) (ch:=fp) I6.os ⟨fun b o e n hb hx=>kp b o (nC b o e) (ub.keep b o e n hb hx),fun b o e n hb hx=>?_,ub.free,fun b o e hx=>?_,ub.tups,ub.frzs,ub.tbls⟩ (fun b u e=>?_) I6.bare (fun b hb=>?_)
          · obtain⟨sl,q⟩:=ub.slot b o e n hb hx
            exact⟨sl,kp b _ (nC b o e) q⟩
          · obtain⟨o',q⟩:=ub.there b o e hx
            exact⟨o',kp b _ (nC b o e) q⟩
          · refine(I6.hok b u e).stay (fun c v hc q=>kp c v ?_ q) (fun _ q=>q) fun _ _ q=>q
            rcases hc with z | z
            · rw [z];exact nit b u e
            · exact nit c _ z
          · obtain⟨f0,f1,f4,f5,f6,f7⟩:=f3 b hb
            exact⟨f5,f1,f6,f7⟩
        exact key s6.heap ⟨rfl,fun _ _=>rfl⟩
      have fC:dY X pins H5 C:=I3.fpOk (by rw [hC];exact Nat.le_refl _) I6.free
      show wpAny (model X.prog X.w) X.A (assign (.Name nm posn) X.env (.ref D)) _ X.xe s6
      refine wpAny_assign_Name (kf (v:=.ref D) I7 hNd hix (Or.inl hlc) rfl (fun s' I' hsb=>?_) (Or.inr hlc))
      obtain⟨a,sb,ha⟩:=hsb
      have nCa:C≠a:=by
        rcases ha with z | z
        · rw [z];exact fC.2.1
        · exact fun e=>fC.2.2.2.2.1 _ _ z e.symm
      obtain⟨oN,esN,epN,hoN,rN⟩:=hn
      refine⟨m,⟨oN,esN,epN,(sb.2 C nCa).trans hoN,rN⟩,fun h' sb'=>wpAny_pure (wpAny_pure ?_)⟩
      have I8:av X pins (σ.set ix (some (.ref D))) H5 {s' with heap:=h',toks:=s'.toks}:=I'.turnedL (t':=s'.toks) (fp:=[C]) (fun b hb=>by rw [List.mem_singleton.mp hb];exact fC) fun b o nb e=>sb'.extBut b o (by simpa using nb) e
      exact⟨_,H5,I8,qn⟩
    · refine bz (T.item (am X scope cp tgN C s₃ (aQ H2 D (.lst [])) fp) rfl rfl rfl hc i [] s5 σ5 H5 (fun _ _=>False) I5 (stat fr5) st5 go) fun r s6 ⟨u,hr,h6⟩=>?_
      subst hr
      refine⟨fun z=>(by cases z),fun v z=>?_⟩
      cases z
      refine bz h6 fun _ s7 ⟨x,H7,I7,r7,y7,st7,fr7⟩=>?_
      have I7':=I7.pinned (stat fr7) (T.obj _ _ st7)
      have again:∀{σ8:L2.St} {H8:Hp} {s8:Shared},av (am X scope cp tgN C s₃ (aQ H2 D (.lst [])) fp) ([]++eX fp s7.heap) σ8 H8 s8→N σ8 H8→∃m,m < n∧∃i σ' H',av (am X scope cp tgN C s₃ (aQ H2 D (.lst [])) fp) [] σ' H' s8∧tn i s8.heap∧(∀b∈fp,H' b=none)∧W i m σ' H':=fun{σ8 H8 s8} I8 n8=>by
        obtain⟨m',hm,w8⟩:=hN σ8 H8 n8
        refine⟨m',hm,i+1,σ8,H8,I8.unpinned,T.keep _ _ _ st7 fun b hb o e=>(I8.pin (b,o) (List.mem_append_right _ (List.mem_append_right _ (bc hb e)))).1,fun b hb=>?_,w8⟩
        obtain⟨o,e,d⟩:=T.obj _ _ st7 b hb
        exact(I8.pin (b,o) (List.mem_append_right _ (List.mem_append_right _ (bc hb e)))).2.1
      refine bz (hg C s₃ (aQ H2 D (.lst [])) fp _ s7 σ5 H7 x u _ I7' r7 (step x H7 y7)) fun _ s8 ⟨σ8,H8,I8,q8⟩=>?_
      refine bz (ht C s₃ (aQ H2 D (.lst [])) fp _ s8 σ8 H8 _ I8 q8) fun ok s9 ⟨H9,I9,q9⟩=>?_
      cases ok with
      | false=>
        rw [if_neg Bool.false_ne_true] at q9 ⊢
        exact again I9 q9
      | true=>
        rw [if_pos rfl] at q9 ⊢
        refine bz (he C s₃ (aQ H2 D (.lst [])) fp _ s9 σ8 H9 _ I9 q9) fun v s10 ⟨xv,H10,I10,r10,ys,hl,hz,n10⟩=>?_
        refine bz (ee _ s10 σ8 H10 (.ref D) [xv] (.ref D) [v] (fun _ H=>N σ8 H) I10 rfl (.cons r10 .nil) ⟨D,ys,xv,rfl,rfl,hl,hz,n10⟩) fun _ s11 ⟨_,H11,I11,_,q11⟩=>?_
        exact again I11 q11
  exact codeAny_compStart_list loop (T.self X.A 0 _ _ _ hst4 loop)
end L2
namespace L2
open PySem PySem.Spec PyProof.Rows
inductive fJ where
  | vi (k:Int)
  | vb (x:Bool)
  | vn
def fJ.toV:fJ→V
  | .vi k=>.int k
  | .vb x=>.bl x
  | .vn=>.non
def fJ.toD:fJ→PyData
  | .vi k=>.int k
  | .vb x=>.bool x
  | .vn=>.none
mutual
def DA(K:PySem.W.Frag)(F:Hp):PyData→V→Prop
  | .none,v=>v=.non
  | .bool b,v=>v=.bl b
  | .int i,v=>v=.int i
  | .str x,v=>v=.str x
  | .tuple ds,v=>∃a xs,v=.ref a∧bR K F a xs∧ay K F ds xs
  | .list ds,v=>∃a xs,v=.ref a∧er K F a xs∧ay K F ds xs
  | .dict kvs,v=>∃(a:Addr) (m:List (Int × fJ)),v=.ref a∧F a=some (.dK (m.map fun p=>(Sum.inl p.1,p.2.toV)))∧kvs=m.map fun p=>(PyData.int p.1,p.2.toD)
def ay(K:PySem.W.Frag)(F:Hp):List PyData→List V→Prop
  | [],xs=>xs=[]
  | d::ds,xs=>∃x r,xs=x::r∧DA K F d x∧ay K F ds r
end
mutual
theorem DA.mono{K:PySem.W.Frag}{F F':Hp}(h:aq F F'):∀{d:PyData} {v:V},DA K F d v→DA K F' d v
  | .none,_,q=>by simp only [DA] at q ⊢;exact q
  | .bool b,_,q=>by simp only [DA] at q ⊢;exact q
  | .int i,_,q=>by simp only [DA] at q ⊢;exact q
  | .str x,_,q=>by simp only [DA] at q ⊢;exact q
  | .tuple ds,_,q=>by
    simp only [DA] at q ⊢
    obtain⟨a,xs,e,s,r⟩:=q
    exact⟨a,xs,e,h.tup s,ay.mono h r⟩
  | .list ds,_,q=>by
    simp only [DA] at q ⊢
    obtain⟨a,xs,e,s,r⟩:=q
    exact⟨a,xs,e,h.seq s,ay.mono h r⟩
  | .dict _,_,q=>by
    simp only [DA] at q ⊢
    obtain⟨a,m,e,s,k⟩:=q
    exact⟨a,m,e,h _ _ s,k⟩
theorem ay.mono{K:PySem.W.Frag}{F F':Hp}(h:aq F F'):∀{ds:List PyData} {xs:List V},ay K F ds xs→ay K F' ds xs
  | [],_,q=>by simp only [ay] at q ⊢;exact q
  | d::ds,_,q=>by
    simp only [ay] at q ⊢
    obtain⟨x,r,e,a,b⟩:=q
    exact⟨x,r,e,DA.mono h a,ay.mono h b⟩
end
section
variable{K:PySem.W.Frag}{F:Hp}
theorem ay.len:∀{ds:List PyData} {xs:List V},ay K F ds xs→ds.length=xs.length
  | [],_,q=>by simp only [ay] at q;subst q;rfl
  | d::ds,_,q=>by
    simp only [ay] at q
    obtain⟨x,r,e,a,b⟩:=q
    subst e
    simp [ay.len b]
theorem ay.get:∀{ds:List PyData} {xs:List V} {i:Nat} {d:PyData},ay K F ds xs→ds[i]?=some d→∃v,xs[i]?=some v∧DA K F d v
  | [],_,_,_,_,h=>by simp at h
  | d::ds,_,i,d',q,h=>by
    simp only [ay] at q
    obtain⟨x,r,e,a,b⟩:=q
    subst e
    cases i with
    | zero=>simp at h;subst h;exact⟨x,rfl,a⟩
    | succ i=>
      obtain⟨v,h1,h2⟩:=ay.get (i:=i) b (by simpa using h)
      exact⟨v,by simpa using h1,h2⟩
theorem ay.append:∀{ds es:List PyData} {xs ys:List V},ay K F ds xs→ay K F es ys→ay K F (ds++es) (xs++ys)
  | [],_,_,_,q,s=>by simp only [ay] at q;subst q;simpa using s
  | d::ds,es,_,ys,q,s=>by
    simp only [ay] at q
    obtain⟨x,r,e,a,b⟩:=q
    subst e
    simp only [List.cons_append,ay]
    exact⟨x,_,rfl,a,ay.append b s⟩
theorem ay.one{d:PyData}{v:V}(h:DA K F d v):ay K F [d] [v]:=by simp only [ay];exact⟨_,_,rfl,h,rfl⟩
theorem ay.nil:ay K F [] []:=by simp only [ay]
theorem ay.cons{d:PyData}{v:V}{ds:List PyData}{vs:List V}(h:DA K F d v)(r:ay K F ds vs):ay K F (d::ds) (v::vs):=by simp only [ay];exact⟨_,_,rfl,h,r⟩
theorem ay.drop:∀{ds:List PyData} {xs:List V} (n:Nat),ay K F ds xs→ay K F (ds.drop n) (xs.drop n)
  | _,_,0,q=>q
  | [],_,n+1,q=>by simp only [ay] at q;subst q;exact ay.nil
  | d::ds,_,n+1,q=>by
    simp only [ay] at q
    obtain⟨x,r,e,a,b⟩:=q
    subst e
    simpa using ay.drop n b
theorem ay.take:∀{ds:List PyData} {xs:List V} (n:Nat),ay K F ds xs→ay K F (ds.take n) (xs.take n)
  | _,_,0,q=>by simpa using ay.nil
  | [],_,n+1,q=>by simp only [ay] at q;subst q;exact ay.nil
  | d::ds,_,n+1,q=>by
    simp only [ay] at q
    obtain⟨x,r,e,a,b⟩:=q
    subst e
    simpa using ay.cons a (ay.take n b)
theorem ay.erase:∀{ds:List PyData} {xs:List V} (n:Nat),ay K F ds xs→ay K F (ds.eraseIdx n) (xs.eraseIdx n)
  | [],_,_,q=>by simp only [ay] at q;subst q;exact ay.nil
  | e::ds,_,n,q=>by
    simp only [ay] at q
    obtain⟨x,r,e,a,b⟩:=q
    subst e
    cases n with
    | zero=>exact b
    | succ n=>exact ay.cons a (ay.erase n b)
theorem ay.ints:∀{ns:List Int} {xs:List V},ay K F (ns.map .int) xs↔ xs=ns.map V.int
  | [],xs=>by simp [ay]
  | n::ns,xs=>by
    simp only [List.map_cons,ay,DA]
    constructor
    · rintro⟨x,r,e,rfl,q⟩;rw [e,ay.ints.mp q]
    · rintro rfl;exact⟨_,_,rfl,rfl,ay.ints.mpr rfl⟩
theorem ba{i:Int}{v:V}:DA K F (.int i) v↔ v=.int i:=by simp only [DA]
theorem cv{b:Bool}{v:V}:DA K F (.bool b) v↔ v=.bl b:=by simp only [DA]
theorem dI{v:V}:DA K F .none v↔ v=.non:=by simp only [DA]
theorem mS{x:Str}{v:V}:DA K F (.str x) v↔ v=.str x:=by simp only [DA]
theorem bo{ds:List PyData}{v:V}:DA K F (.tuple ds) v↔ ∃a xs,v=.ref a∧bR K F a xs∧ay K F ds xs:=by simp only [DA]
theorem bG{ds:List PyData}{v:V}:DA K F (.list ds) v↔ ∃a xs,v=.ref a∧er K F a xs∧ay K F ds xs:=by simp only [DA]
end
inductive Sv where
  | d (x:PyData)
  | l (xs:List PyData)
  /-- a list of lists that nobody else holds -/
  | n (xss:List (List PyData))
abbrev En:=List (Option Sv)
inductive Rv where
  | d (x:PyData)
  | l (xs:List PyData)
  | s (i:Nat)
def Fp(σ:L2.St)(e:En)(H:Hp)(i:Nat)(a:Addr):Prop:=(∃xs:List PyData,e[i]?=some (some (Sv.l xs))∧σ[i]?=some (some (.ref a)))∨
  ∃(xss:List (List PyData)) (l:Addr) (bs:List Addr),e[i]?=some (some (Sv.n xss))∧σ[i]?=some (some (.ref l))∧H l=some (.lst (bs.map V.ref))∧(a=l∨a∈bs)
def bK(σ:L2.St)(e:En)(H:Hp)(a:Addr):Prop:=∃i,Fp σ e H i a
structure aJ (K:PySem.W.Frag) (F H:Hp) (σ:L2.St) (e:En):Prop where
  sm:aq F H
  len:σ.length=e.length
  dat:∀(i:Nat) (x:PyData),e[i]?=some (some (.d x))→∃v,σ[i]?=some (some v)∧DA K F x v
  own:∀(i:Nat) (xs:List PyData),e[i]?=some (some (.l xs))→∃l vs,σ[i]?=some (some (.ref l))∧F l=none∧H l=some (.lst vs)∧ay K F xs vs
  nst:∀(i:Nat) (xss:List (List PyData)),e[i]?=some (some (.n xss))→∃(l:Addr) (bs:List Addr),σ[i]?=some (some (.ref l))∧F l=none∧H l=some (.lst (bs.map V.ref))∧bs.length=xss.length∧bs.Nodup∧l∉bs∧
    ∀(k:Nat) (b:Addr) (ys:List PyData),bs[k]?=some b→xss[k]?=some ys→F b=none∧∃us,H b=some (.lst us)∧ay K F ys us
  fp:∀(i j:Nat) (a:Addr),Fp σ e H i a→Fp σ e H j a→i=j
theorem aJ.inj{K:PySem.W.Frag}{F H:Hp}{σ:L2.St}{e:En}(R:aJ K F H σ e)(i j:Nat)(xs ys:List PyData)(l:Addr)(h1:e[i]?=some (some (.l xs)))(h2:e[j]?=some (some (.l ys)))(h3:σ[i]?=some (some (.ref l)))(h4:σ[j]?=some (some (.ref l))):i=j:=R.fp i j l (.inl ⟨xs,h1,h3⟩) (.inl ⟨ys,h2,h4⟩)
theorem aJ.fpAt{K:PySem.W.Frag}{F H:Hp}{σ:L2.St}{e:En}(R:aJ K F H σ e){i:Nat}{a:Addr}(h:Fp σ e H i a):F a=none∧∃vs,H a=some (.lst vs):=by
  rcases h with ⟨xs,h1,h2⟩ | ⟨xss,l,bs,h1,h2,h3,h4⟩
  · obtain⟨l,vs,g1,g2,g3,_⟩:=R.own i xs h1
    rw [h2] at g1;cases g1
    exact⟨g2,vs,g3⟩
  · obtain⟨l',bs',g1,g2,g3,g4,g5,g6,g7⟩:=R.nst i xss h1
    rw [h2] at g1;cases g1
    rw [h3] at g3
    have e1:bs=bs':=by
      have:=HO.lst.inj (Option.some.inj g3)
      exact List.map_inj_right (fun _ _ z=>V.ref.inj z) |>.mp this
    subst e1
    rcases h4 with rfl | h4
    · exact⟨g2,_,h3⟩
    · obtain⟨k,hk⟩:=List.getElem?_of_mem h4
      have hk2:k < xss.length:=by rw [←g4];exact(List.getElem?_eq_some_iff.mp hk).1
      obtain⟨c1,us,c2,_⟩:=g7 k a xss[k] hk (List.getElem?_eq_getElem hk2)
      exact⟨c1,us,c2⟩
structure cK (σ:L2.St) (F H:Hp) (e:En) (F' H':Hp) (e':En):Prop where
  sf:aq F F'
  dom:∀a,H' a=none→H a=none
  fr:∀a vs,F a=none→H a=some (.lst vs)→¬bK σ e H a→F' a=none
  lst:∀a vs,H a=some (.lst vs)→∃vs',H' a=some (.lst vs')
  tmp:∀a o,H a=some o→¬bK σ e H a→H' a=some o
  shp:∀i:Nat,(∃xs,e'[i]?=some (some (.l xs)))↔ (∃xs,e[i]?=some (some (.l xs)))
  ow:∀a,bK σ e' H' a→bK σ e H a∨H a=none
theorem cK.refl(σ:L2.St)(F H:Hp)(e:En):cK σ F H e F H e:=⟨aq.refl _,fun _ h=>h,fun _ _ h _ _=>h,fun _ vs h=>⟨vs,h⟩,fun _ _ h _=>h,fun _=>Iff.rfl,fun _ h=>.inl h⟩
theorem cK.trans{σ:L2.St}{F H F1 H1 F2 H2:Hp}{e e1 e2:En}(x:cK σ F H e F1 H1 e1)(y:cK σ F1 H1 e1 F2 H2 e2):cK σ F H e F2 H2 e2:=
  ⟨x.sf.trans y.sf,fun a h=>x.dom a (y.dom a h),fun a vs h n no=>let ⟨vs',q⟩:=x.lst a vs n;y.fr a vs' (x.fr a vs h n no) q (fun z=>(x.ow a z).elim no fun z=>by rw [n] at z;cases z),fun a vs h=>let ⟨vs',q⟩:=x.lst a vs h;y.lst a vs' q,
    fun a o h n=>y.tmp a o (x.tmp a o h n) (fun z=>(x.ow a z).elim n fun z=>by rw [h] at z;cases z),fun i=>(y.shp i).trans (x.shp i),fun a h=>(y.ow a h).elim (x.ow a) fun z=>.inr (x.dom a z)⟩
def bD(K:PySem.W.Frag)(σ:L2.St)(H0 F H:Hp)(e:En):Rv→V→Prop
  | .d x,v=>DA K F x v
  | .l xs,v=>∃l vs,v=.ref l∧H0 l=none∧F l=none∧H l=some (.lst vs)∧ay K F xs vs∧¬bK σ e H l
  | .s i,v=>σ[i]?=some (some v)∧∃xs,e[i]?=some (some (.l xs))
section
variable{K:PySem.W.Frag}{σ:L2.St}{H0 F H F' H':Hp}{e e':En}{r:Rv}{v:V}
theorem bD.ext(h:bD K σ H0 F H e r v)(x:cK σ F H e F' H' e'):bD K σ H0 F' H' e' r v:=by
  cases r with
  | d y=>exact DA.mono x.sf h
  | l xs=>
    obtain⟨l,vs,e1,h1,h2,h3,h4,h5⟩:=h
    exact⟨l,vs,e1,h1,x.fr l _ h2 h3 h5,x.tmp l _ h3 h5,ay.mono x.sf h4,fun z=>(x.ow l z).elim h5 fun z=>by rw [h3] at z;cases z⟩
  | s i=>exact⟨h.1,(x.shp i).mpr h.2⟩
theorem bD.weak{H1:Hp}(h:bD K σ H1 F H e r v)(d:∀a,H1 a=none→H0 a=none):bD K σ H0 F H e r v:=by
  cases r with
  | d y=>exact h
  | l xs=>
    obtain⟨l,vs,e1,h1,r⟩:=h
    exact⟨l,vs,e1,d l h1,r⟩
  | s i=>exact h
theorem aJ.ownH(R:aJ K F H σ e)(a:Addr)(h:bK σ e H a):H a≠none:=by
  obtain⟨i,h⟩:=h
  obtain⟨_,vs,h2⟩:=R.fpAt h
  rw [h2];simp
theorem aJ.freeF(R:aJ K F H σ e){p:Addr}(hp:H p=none):F p=none:=R.sm.free hp
theorem sT(R:aJ K F H σ e)(h:∀l bs,H l=some (.lst bs)→bK σ e H l→H' l=some (.lst bs)){i:Nat}{a:Addr}:Fp σ e H' i a↔ Fp σ e H i a:=by
  have key:∀xss l,e[i]?=some (some (.n xss))→σ[i]?=some (some (.ref l))→H' l=H l:=fun xss l h1 h2=>by
    obtain⟨l',bs,g1,g2,g3,_⟩:=R.nst i xss h1
    rw [h2] at g1;cases g1
    rw [g3]
    exact h l _ g3 ⟨i,.inr ⟨xss,l,bs,h1,h2,g3,.inl rfl⟩⟩
  constructor
  · rintro(h1 | ⟨xss,l,bs,h1,h2,h3,h4⟩)
    · exact .inl h1
    · exact .inr ⟨xss,l,bs,h1,h2,by rw [←key xss l h1 h2];exact h3,h4⟩
  · rintro(h1 | ⟨xss,l,bs,h1,h2,h3,h4⟩)
    · exact .inl h1
    · exact .inr ⟨xss,l,bs,h1,h2,by rw [key xss l h1 h2];exact h3,h4⟩
theorem aJ.keep(R:aJ K F H σ e)(sF:aq F F')(sm:aq F' H')(hf:∀a,bK σ e H a→F' a=none)(hh:∀a o,bK σ e H a→H a=some o→H' a=some o):aJ K F' H' σ e∧∀a,bK σ e H' a↔ bK σ e H a:=by
  have fs:∀{i a},Fp σ e H' i a↔ Fp σ e H i a:=fun{i a}=>sT R fun l bs h1 h2=>hh l _ h2 h1
  refine⟨⟨sm,R.len,fun i x h=>let ⟨v,h1,h2⟩:=R.dat i x h;⟨v,h1,DA.mono sF h2⟩,fun i xs h=>?_,fun i xss h=>?_,fun i j a h1 h2=>R.fp i j a (fs.mp h1) (fs.mp h2)⟩,fun a=>⟨fun⟨i,h⟩=>⟨i,fs.mp h⟩,fun⟨i,h⟩=>⟨i,fs.mpr h⟩⟩⟩
  · obtain⟨l,vs,h1,h2,h3,h4⟩:=R.own i xs h
    have o:bK σ e H l:=⟨i,.inl ⟨xs,h,h1⟩⟩
    exact⟨l,vs,h1,hf l o,hh l _ o h3,h4.mono sF⟩
  · obtain⟨l,bs,h1,h2,h3,h4,h5,h6,h7⟩:=R.nst i xss h
    have o:bK σ e H l:=⟨i,.inr ⟨xss,l,bs,h,h1,h3,.inl rfl⟩⟩
    refine⟨l,bs,h1,hf l o,hh l _ o h3,h4,h5,h6,fun k b ys g1 g2=>?_⟩
    obtain⟨c1,us,c2,c3⟩:=h7 k b ys g1 g2
    have ob:bK σ e H b:=⟨i,.inr ⟨xss,l,bs,h,h1,h3,.inr (List.mem_of_getElem? g1)⟩⟩
    exact⟨hf b ob,us,hh b _ ob c2,c3.mono sF⟩
theorem aJ.same(R:aJ K F H σ e)(s:aq H H'):aJ K F H' σ e∧cK σ F H e F H' e:=by
  obtain⟨R',o'⟩:=R.keep (aq.refl F) (R.sm.trans s) (fun a ⟨i,h⟩=>(R.fpAt h).1) fun a o _ h=>s a o h
  exact⟨R',⟨aq.refl _,fun a h=>s.free h,fun _ _ h _ _=>h,fun a vs h=>⟨vs,s _ _ h⟩,fun a o h _=>s a o h,fun _=>Iff.rfl,fun a h=>.inl ((o' a).mp h)⟩⟩
theorem aJ.freeze(R:aJ K F H σ e){p:Addr}{o:HO}(hF:F p=none)(hp:H p=some o)(hn:¬bK σ e H p):aJ K (aQ F p o) H σ e∧aq F (aQ F p o):=by
  have sF:aq F (aQ F p o):=aq.new hF
  refine⟨(R.keep sF (fun b u q=>?_) (fun a ha=>?_) fun _ _ _ h=>h).1,sF⟩
  · by_cases z:b=p
    · subst z;rw [ar] at q;cases q;exact hp
    · rw [ap z] at q;exact R.sm _ _ q
  · obtain⟨i,hi⟩:=ha
    have z:a≠p:=fun z=>hn ⟨i,by rw [←z];exact hi⟩
    rw [ap z];exact(R.fpAt hi).1
theorem aJ.notOwn(R:aJ K F H σ e){p:Addr}{o:HO}(hp:H p=some o)(hl:∀vs,o≠.lst vs):¬bK σ e H p:=fun⟨i,h⟩=>by
  obtain⟨_,vs,g⟩:=R.fpAt h
  rw [hp] at g;cases g
  exact hl _ rfl
theorem aJ.newT(R:aJ K F H σ e){p:Addr}{vs:List V}(hp:H p=none):aJ K (aQ F p (.tup vs)) (aQ H p (.tup vs)) σ e∧cK σ F H e (aQ F p (.tup vs)) (aQ H p (.tup vs)) e:=by
  have hF:=R.freeF hp
  obtain⟨R1,X1⟩:=R.same (aq.new hp (o:=.tup vs))
  obtain⟨R2,s2⟩:=R1.freeze (p:=p) hF ar (R1.notOwn ar (fun _ z=>nomatch z))
  refine⟨R2,⟨s2,X1.dom,fun a ws h n _=>?_,X1.lst,X1.tmp,X1.shp,X1.ow⟩⟩
  have z:a≠p:=fun z=>by rw [z,hp] at n;cases n
  rw [ap z];exact h
theorem aJ.sameOwn(R:aJ K F H σ e)(s:aq H H')(a:Addr):bK σ e H' a↔ bK σ e H a:=(R.keep (aq.refl F) (R.sm.trans s) (fun a ⟨i,h⟩=>(R.fpAt h).1) fun a o _ h=>s a o h).2 a
theorem aJ.newL(R:aJ K F H σ e){p:Addr}{vs:List V}(hp:H p=none):aJ K F (aQ H p (.lst vs)) σ e∧cK σ F H e F (aQ H p (.lst vs)) e∧F p=none∧¬bK σ e (aQ H p (.lst vs)) p:=
  ⟨(R.same (aq.new hp)).1,(R.same (aq.new hp)).2,R.freeF hp,fun z=>R.ownH p ((R.sameOwn (aq.new hp) p).mp z) hp⟩
theorem aJ.growT(R:aJ K F H σ e){p:Addr}{xs:List V}(s:aq H H')(hp:bR K H' p xs):∃F',aJ K F' H' σ e∧cK σ F H e F' H' e∧bR K F' p xs:=by
  obtain⟨R1,X1⟩:=R.same s
  rcases hp with hp | hp
  · have key:∀o,H' p=some o→(∀vs,o≠.lst vs)→(∀G:Hp,G p=some o→Rd G p (.tup xs))→∃F',aJ K F' H' σ e∧cK σ F H e F' H' e∧bR K F' p xs:=by
      intro o ho hl hr
      cases q:F p with
      | some u=>
        have:=R1.sm _ _ q
        rw [ho] at this;cases this
        exact⟨F,R1,X1,.inl (hr F q)⟩
      | none=>
        obtain⟨R2,s2⟩:=R1.freeze q ho (R1.notOwn ho hl)
        refine⟨_,R2,⟨s2,X1.dom,fun a ws h n _=>?_,X1.lst,X1.tmp,X1.shp,X1.ow⟩,.inl (hr _ ar)⟩
        have z:a≠p:=fun z=>by rw [z] at n;rw [s _ _ n] at ho;cases ho;exact hl _ rfl
        rw [ap z];exact h
    rcases hp with hp | ⟨ob,hp⟩
    · exact key _ hp (fun _ z=>nomatch z) fun G g=>.inl g
    · exact key _ hp (fun _ z=>nomatch z) fun G g=>.inr ⟨ob,g⟩
  · exact⟨F,R1,X1,.inr hp⟩
theorem bD.frozen(R:aJ K F H σ e){xs:List PyData}(h:bD K σ H0 F H e (.l xs) v):∃F',aJ K F' H σ e∧aq F F'∧DA K F' (.list xs) v∧(∀a,F a=none→H0 a≠none→F' a=none):=by
  obtain⟨l,vs,rfl,h1,h2,h3,h4,h5⟩:=h
  obtain⟨R2,s2⟩:=R.freeze h2 h3 h5
  refine⟨_,R2,s2,?_,fun a ha hn=>?_⟩
  · rw [bG]
    exact⟨l,vs,rfl,.inl (.inl ar),ay.mono s2 h4⟩
  · have z:a≠l:=fun z=>hn (by rw [z];exact h1)
    rw [ap z];exact ha
def dD(e:En):Rv→Option (Bool × List PyData)
  | .d (.tuple xs)=>some (false,xs)
  | .d (.list xs)=>some (true,xs)
  | .l xs=>some (true,xs)
  | .s i=>match e[i]? with
    | some (some (.l xs))=>some (true,xs)
    | _=>none
  | _=>none
theorem eG(R:aJ K F H σ e)(h:bD K σ H0 F H e r v){b:Bool}{xs:List PyData}(q:dD e r=some (b,xs)):
    ∃p vs,v=.ref p∧ay K F xs vs∧(if b=true then er K H p vs else bR K H p vs):=by
  cases r with
  | d x=>
    cases x with
    | tuple ds=>
      cases q
      obtain⟨a,ys,e1,e2,e3⟩:=bo.mp h
      exact⟨a,ys,e1,e3,R.sm.tup e2⟩
    | list ds=>
      cases q
      obtain⟨a,ys,e1,e2,e3⟩:=bG.mp h
      exact⟨a,ys,e1,e3,R.sm.seq e2⟩
    | _=>cases q
  | l ys=>
    cases q
    obtain⟨l,vs,e1,h1,h2,h3,h4,_⟩:=h
    exact⟨l,vs,e1,h4,.inl (.inl h3)⟩
  | s i=>
    obtain⟨h1,ys,h2⟩:=h
    simp only [dD,h2] at q
    cases q
    obtain⟨l,vs,e1,e2,e3,e4⟩:=R.own i _ h2
    rw [h1] at e1;cases e1
    exact⟨l,vs,rfl,e4,.inl (.inl e3)⟩
end
end L2
namespace L2
open PySem PySem.Spec PyProof.Rows
abbrev FE:=En→Option (Rv × En)
abbrev FT:=En→Option (Bool × En)
abbrev FA:=En→Option (List Rv × En)
def cE(K:PySem.W.Frag)(σ:L2.St)(H0 F H:Hp)(e:En):List Rv→List V→Prop
  | [],vs=>vs=[]
  | r::rs,vs=>∃v ws,vs=v::ws∧bD K σ H0 F H e r v∧cE K σ H0 F H e rs ws
def fE(K:PySem.W.Frag)(f:FE):TE:=fun σ H Q=>∃F e r e',aJ K F H σ e∧f e=some (r,e')∧∀F' H' v,cK σ F H e F' H' e'→aJ K F' H' σ e'→bD K σ H F' H' e' r v→Q v H'
def fT(K:PySem.W.Frag)(f:FT):TT:=fun σ H Q=>∃F e b e',aJ K F H σ e∧f e=some (b,e')∧∀F' H',cK σ F H e F' H' e'→aJ K F' H' σ e'→Q b H'
def fA(K:PySem.W.Frag)(f:FA):TA:=fun σ H Q=>∃F e rs e',aJ K F H σ e∧f e=some (rs,e')∧∀F' H' vs,cK σ F H e F' H' e'→aJ K F' H' σ e'→cE K σ H F' H' e' rs vs→Q vs H'
theorem PE.mono{X:Cx}{e:Expr}{t t':TE}(h:PE X e t)(m:∀σ H Q,t' σ H Q→t σ H Q):PE X e t':=fun pins s σ H Q I q=>h pins s σ H Q I (m σ H Q q)
theorem PT.mono{X:Cx}{e:Expr}{t t':TT}(h:PT X e t)(m:∀σ H Q,t' σ H Q→t σ H Q):PT X e t':=fun pins s σ H Q I q=>h pins s σ H Q I (m σ H Q q)
theorem PW.mono{X:Cx}{e:Expr}{t t':TT}(h:PW X e t)(m:∀σ H Q,t' σ H Q→t σ H Q):PW X e t':=fun wh pins s σ H Q I q=>h wh pins s σ H Q I (m σ H Q q)
theorem PA.mono{X:Cx}{es:List Expr}{t t':TA}(h:PA X es t)(m:∀σ H Q,t' σ H Q→t σ H Q):PA X es t':=fun pos pins s σ H Q I q=>h pos pins s σ H Q I (m σ H Q q)
section
variable{K:PySem.W.Frag}{σ:L2.St}{H0 F H F' H':Hp}{e e':En}
theorem cE.weak{H1:Hp}(d:∀a,H1 a=none→H0 a=none):∀{rs:List Rv} {vs:List V},cE K σ H1 F H e rs vs→cE K σ H0 F H e rs vs
  | [],_,h=>h
  | r::rs,_,h=>by
    obtain⟨v,ws,rfl,h1,h2⟩:=h
    exact⟨v,ws,rfl,h1.weak d,cE.weak d h2⟩
theorem cK.frz{F'':Hp}(x:cK σ F H e F' H' e')(s:aq F' F'')(h:∀a,F' a=none→H a≠none→F'' a=none):cK σ F H e F'' H' e':=
  ⟨x.sf.trans s,x.dom,fun a vs h1 h2 h3=>h a (x.fr a vs h1 h2 h3) (by rw [h2];simp),x.lst,x.tmp,x.shp,x.ow⟩
def gq:List Rv→Option (List PyData)
  | []=>some []
  | .d x::rs=>(gq rs).map (x::·)
  | .l xs::rs=>(gq rs).map (.list xs::·)
  | .s _::_=>none
theorem cE.frozen:∀{rs:List Rv} {vs:List V} {ds:List PyData} {F:Hp},aJ K F H σ e→cE K σ H0 F H e rs vs→gq rs=some ds→
    ∃F',aJ K F' H σ e∧aq F F'∧ay K F' ds vs∧(∀a,F a=none→H0 a≠none→F' a=none)
  | [],_,_,F,R,h,q=>by
    cases q
    have h':_=[]:=h
    subst h'
    exact⟨F,R,aq.refl _,ay.nil,fun _ h _=>h⟩
  | .d x::rs,_,ds,F,R,h,q=>by
    obtain⟨v,ws,rfl,h1,h2⟩:=h
    obtain⟨ds',q1,rfl⟩:=Option.map_eq_some_iff.mp q
    obtain⟨F',R',s',d',f'⟩:=cE.frozen R h2 q1
    exact⟨F',R',s',.cons (DA.mono s' h1) d',f'⟩
  | .l xs::rs,_,ds,F,R,h,q=>by
    obtain⟨v,ws,rfl,h1,h2⟩:=h
    obtain⟨ds',q1,rfl⟩:=Option.map_eq_some_iff.mp q
    obtain⟨F',R',s',d',f'⟩:=cE.frozen R h2 q1
    obtain⟨l,us,rfl,g1,g2,g3,g4,g5⟩:=h1
    cases hl:F' l with
    | none=>
      have h1':bD K σ H0 F' H e (.l xs) (.ref l):=⟨l,us,rfl,g1,hl,g3,ay.mono s' g4,g5⟩
      obtain⟨F2,R2,s2,d2,f2⟩:=h1'.frozen R'
      exact⟨F2,R2,s'.trans s2,.cons d2 (ay.mono s2 d'),fun a ha hn=>f2 a (f' a ha hn) hn⟩
    | some o=>
      have:=R'.sm _ _ hl
      rw [g3] at this;cases this
      exact⟨F',R',s',.cons (bG.mpr ⟨l,us,rfl,.inl (.inl hl),ay.mono s' g4⟩) d',f'⟩
end
section
variable{X:Cx}{K:PySem.W.Frag}{a b c:Expr}{fa fb:FE}{ft fu:FT}{pos:Pos}{es:List Expr}{fs:FA}
def af(i:Nat):FE:=fun e=>match e[i]? with
  | some (some (.d x))=>some (.d x,e)
  | some (some (.l _))=>some (.s i,e)
  | _=>none
def vC(x:PyData):FE:=fun e=>some (.d x,e)
theorem uV{i:Nat}{σ:L2.St}{H:Hp}{Q:VK}(h:fE K (af i) σ H Q):k_ i σ H Q:=by
  obtain⟨F,e,r,e',R,hf,q⟩:=h
  unfold af at hf
  match h1:e[i]?,hf with
  | some (some (.d x)),hf=>
    cases hf
    obtain⟨v,h2,h3⟩:=R.dat i x h1
    exact⟨v,h2,q F H v (cK.refl _ _ _ _) R h3⟩
  | some (some (.n _)),hf=>cases hf
  | some (some (.l xs)),hf=>
    cases hf
    obtain⟨l,vs,h2,h3⟩:=R.own i xs h1
    exact⟨_,h2,q F H _ (cK.refl _ _ _ _) R ⟨h2,xs,h1⟩⟩
  | some none,hf=>cases hf
  | none,hf=>cases hf
theorem qv(i:Nat){x:Str}{pos:Pos}(hN:X.N[i]?=some x)(hv:sC X.env.scope x)(hd:(x==("__debug__":Str))=false)(hcd:(x==("__classdict__":Str))=false):PE X (.Name x pos) (fE K (af i)):=(eE hN hv hd hcd).mono fun _ _ _ h=>uV h
theorem vS{x:PyData}{v:V}{σ:L2.St}{H:Hp}{Q:VK}(hx:∀F,DA K F x v)(h:fE K (vC x) σ H Q):tC v σ H Q:=by
  obtain⟨F,e,r,e',R,hf,q⟩:=h
  cases hf
  exact q F H v (cK.refl _ _ _ _) R (hx F)
theorem ae{i j pos}:PE X (.Constant (.int i) j pos) (fE K (vC (.int i))):=xA.mono fun _ _ _ h=>vS (fun _=>ba.mpr rfl) h
theorem fP{b j pos}:PE X (.Constant (.bool b) j pos) (fE K (vC (.bool b))):=zu.mono fun _ _ _ h=>vS (fun _=>cv.mpr rfl) h
def et(K:PySem.W.Frag)(r:R2)(g:En→Rv→Rv→Option Rv):Prop:=
  ∀(σ:L2.St) (H0 F H:Hp) (e:En) (x y z:Rv) (v u:V) (Q:VK),aJ K F H σ e→bD K σ H0 F H e x v→bD K σ H0 F H e y u→g e x y=some z→
    (∀F' H' w,cK σ F H e F' H' e→aJ K F' H' σ e→bD K σ H F' H' e z w→Q w H')→r v u H Q
def ax(g:En→Rv→Rv→Option Rv)(fa fb:FE):FE:=fun e=>(fa e).bind fun p=>(fb p.2).bind fun q=>(g q.2 p.1 q.1).map fun z=>(z,q.2)
theorem jy{r:R2}{g:En→Rv→Rv→Option Rv}(ho:et K r g){σ:L2.St}{H:Hp}{Q:VK}(h:fE K (ax g fa fb) σ H Q):zU r (fE K fa) (fE K fb) σ H Q:=by
  obtain⟨F,e,z,e2,R,hf,q⟩:=h
  unfold ax at hf
  obtain⟨⟨x,e1⟩,h1,hf⟩:=Option.bind_eq_some_iff.mp hf
  obtain⟨⟨y,e2'⟩,h2,hf⟩:=Option.bind_eq_some_iff.mp hf
  obtain⟨z',h3,hf⟩:=Option.map_eq_some_iff.mp hf
  cases hf
  refine⟨F,e,x,e1,R,h1,fun F1 H1 v X1 R1 A1=>⟨F1,e1,y,_,R1,h2,fun F2 H2 u X2 R2 A2=>?_⟩⟩
  have X12:=X1.trans X2
  refine ho σ H F2 H2 _ x y _ v u Q R2 (A1.ext X2) (A2.weak X1.dom) h3 fun F3 H3 w X3 R3 A3=>?_
  exact q F3 H3 w (X12.trans X3) R3 (A3.weak X12.dom)
theorem jc{op:Operator}{r:R2}{g:En→Rv→Rv→Option Rv}(hr:eJ X (binaryOp op) r)(ho:et K r g)(ha:PE X a (fE K fa))(hb:PE X b (fE K fb)):PE X (.BinOp a op b pos) (fE K (ax g fa fb)):=(zv hr ha hb).mono fun _ _ _ h=>jy ho h
theorem xQ{op:CmpOp}{r:R2}{g:En→Rv→Rv→Option Rv}(hr:eJ X (compareOp op) r)(ho:et K r g)(ha:PE X a (fE K fa))(hb:PE X b (fE K fb))(hm:behindInMarks op b=false):PE X (.Compare a [op] [b] pos) (fE K (ax g fa fb)):=(tX hr ha hb hm).mono fun _ _ _ h=>jy ho h
theorem zB{r:R2}{g:En→Rv→Rv→Option Rv}(hr:sy X r)(ho:et K r g)(ha:PE X a (fE K fa))(hb:PE X b (fE K fb))(hs:iD b):PE X (.Subscript a b pos) (fE K (ax g fa fb)):=(vJ hr ha hb hs).mono fun _ _ _ h=>jy ho h
def yG(g:En→Rv→Option Rv)(fa:FE):FE:=fun e=>(fa e).bind fun p=>(g p.2 p.1).map fun z=>(z,p.2)
def Av(K:PySem.W.Frag)(r:V→Hp→VK→Prop)(g:En→Rv→Option Rv):Prop:=
  ∀(σ:L2.St) (H0 F H:Hp) (e:En) (x z:Rv) (v:V) (Q:VK),aJ K F H σ e→bD K σ H0 F H e x v→g e x=some z→
    (∀F' H' w,cK σ F H e F' H' e→aJ K F' H' σ e→bD K σ H F' H' e z w→Q w H')→r v H Q
theorem yr{r:V→Hp→VK→Prop}{g:En→Rv→Option Rv}(ho:Av K r g){σ:L2.St}{H:Hp}{Q:VK}(h:fE K (yG g fa) σ H Q):BR r (fE K fa) σ H Q:=by
  obtain⟨F,e,z,e2,R,hf,q⟩:=h
  unfold yG at hf
  obtain⟨⟨x,e1⟩,h1,hf⟩:=Option.bind_eq_some_iff.mp hf
  obtain⟨z',h3,hf⟩:=Option.map_eq_some_iff.mp hf
  cases hf
  refine⟨F,e,x,_,R,h1,fun F1 H1 v X1 R1 A1=>?_⟩
  refine ho σ H F1 H1 _ x _ v Q R1 A1 h3 fun F3 H3 w X3 R3 A3=>?_
  exact q F3 H3 w (X1.trans X3) R3 (A3.weak X1.dom)
def dQ:Rv→Option Bool
  | .d (.bool b)=>some b
  | _=>none
theorem gY{σ:L2.St}{H0 F H:Hp}{e:En}{r:Rv}{v:V}{b:Bool}(h:bD K σ H0 F H e r v)(q:dQ r=some b):v=.bl b:=by
  unfold dQ at q
  split at q
  · cases q;exact cv.mp (show DA K F (.bool _) v from h)
  · cases q
theorem fD{σ:L2.St}{H0 F H:Hp}{e:En}{b:Bool}:bD K σ H0 F H e (.d (.bool b)) (.bl b):=(cv (K:=K) (F:=F)).mpr rfl
def bf(f:FE):FT:=fun e=>(f e).bind fun p=>(dQ p.1).map fun b=>(b,p.2)
theorem mB{σ:L2.St}{H:Hp}{Q:Bool→Hp→Prop}(h:fT K (bf fa) σ H Q):fE K fa σ H fun x H'=>∃k,x=.bl k∧Q k H':=by
  obtain⟨F,e,b,e1,R,hf,q⟩:=h
  unfold bf at hf
  obtain⟨⟨x,e1'⟩,h1,hf⟩:=Option.bind_eq_some_iff.mp hf
  obtain⟨b',h3,hf⟩:=Option.map_eq_some_iff.mp hf
  cases hf
  exact⟨F,e,x,_,R,h1,fun F1 H1 v X1 R1 A1=>⟨_,gY A1 h3,q F1 H1 X1 R1⟩⟩
theorem xT{op:CmpOp}{r:R2}{g:En→Rv→Rv→Option Rv}(hr:eJ X (compareOp op) r)(ho:et K r g)(ha:PE X a (fE K fa))(hb:PE X b (fE K fb))(hm:behindInMarks op b=false):PT X (.Compare a [op] [b] pos) (fT K (bf (ax g fa fb))):=
  (uk hr ha hb hm).mono fun σ H Q h=>by
    obtain⟨F,e,z,e2,R,hf,q⟩:=mB h
    exact jy ho ⟨F,e,z,e2,R,hf,q⟩
theorem jd{e:Expr}(h:PE X e (fE K fa))(he:∀whole,isTrue e X.env whole=(do let v ←whole;standAt e.pos;holding [v] (truthy v))):PT X e (fT K (bf fa)):=(xK h he).mono fun _ _ _ h=>mB h
def nB(f g:FT):FT:=fun e=>(f e).bind fun p=>if p.1=true then g p.2 else some (false,p.2)
def yF(f g:FT):FT:=fun e=>(f e).bind fun p=>if p.1=true then some (true,p.2) else g p.2
def lc(f:FT):FT:=fun e=>(f e).map fun p=>(!p.1,p.2)
theorem uT{σ:L2.St}{H:Hp}{Q:Bool→Hp→Prop}(h:fT K (nB ft fu) σ H Q):zP (fT K ft) (fT K fu) σ H Q:=by
  obtain⟨F,e,b,e1,R,hf,q⟩:=h
  unfold nB at hf
  obtain⟨⟨x,e1'⟩,h1,hf⟩:=Option.bind_eq_some_iff.mp hf
  refine⟨F,e,x,e1',R,h1,fun F1 H1 X1 R1=>?_⟩
  cases x with
  | true=>exact⟨F1,e1',b,e1,R1,hf,fun F2 H2 X2 R2=>q F2 H2 (X1.trans X2) R2⟩
  | false=>cases hf;exact q F1 H1 X1 R1
theorem yp{σ:L2.St}{H:Hp}{Q:Bool→Hp→Prop}(h:fT K (yF ft fu) σ H Q):Bp (fT K ft) (fT K fu) σ H Q:=by
  obtain⟨F,e,b,e1,R,hf,q⟩:=h
  unfold yF at hf
  obtain⟨⟨x,e1'⟩,h1,hf⟩:=Option.bind_eq_some_iff.mp hf
  refine⟨F,e,x,e1',R,h1,fun F1 H1 X1 R1=>?_⟩
  cases x with
  | false=>exact⟨F1,e1',b,e1,R1,hf,fun F2 H2 X2 R2=>q F2 H2 (X1.trans X2) R2⟩
  | true=>cases hf;exact q F1 H1 X1 R1
theorem uU{σ:L2.St}{H:Hp}{Q:Bool→Hp→Prop}(h:fT K (lc ft) σ H Q):zT (fT K ft) σ H Q:=by
  obtain⟨F,e,b,e1,R,hf,q⟩:=h
  unfold lc at hf
  obtain⟨⟨x,e1'⟩,h1,hf⟩:=Option.map_eq_some_iff.mp hf
  cases hf
  exact⟨F,e,x,_,R,h1,fun F1 H1 X1 R1=>q F1 H1 X1 R1⟩
variable{eM:List Expr}
theorem oy(ha:PT X a (fT K ft)):PW X (.BoolOp .And [a] pos) (fT K ft):=um ha
theorem xV(ha:PT X a (fT K ft)):PW X (.BoolOp .Or [a] pos) (fT K ft):=xN ha
theorem rM(ha:PT X a (fT K ft))(hb:PW X (.BoolOp .And (b::eM) pos) (fT K fu)):PW X (.BoolOp .And (a::b::eM) pos) (fT K (nB ft fu)):=(xM ha hb).mono fun _ _ _ h=>uT h
theorem zC(ha:PT X a (fT K ft))(hb:PW X (.BoolOp .Or (b::eM) pos) (fT K fu)):PW X (.BoolOp .Or (a::b::eM) pos) (fT K (yF ft fu)):=(zy ha hb).mono fun _ _ _ h=>yp h
theorem kY(ha:PT X a (fT K ft)):PT X (.UnaryOp .Not a pos) (fT K (lc ft)):=(xJ ha).mono fun _ _ _ h=>uU h
theorem xU{e:Expr}(h:PW X e (fT K ft)):PT X e (fT K ft):=h.pt
def vR(f g:FE):FE:=fun e=>(f e).bind fun p=>(dQ p.1).bind fun b=>if b=true then g p.2 else some (.d (.bool false),p.2)
def z_(f g:FE):FE:=fun e=>(f e).bind fun p=>(dQ p.1).bind fun b=>if b=true then some (.d (.bool true),p.2) else g p.2
def vT(f:FE):FE:=fun e=>(f e).bind fun p=>(dQ p.1).map fun b=>(.d (.bool (!b)),p.2)
def Br(t:FT)(f g:FE):FE:=fun e=>(t e).bind fun p=>if p.1=true then f p.2 else g p.2
def aj:FA:=fun e=>some ([],e)
def ab(fa:FE)(fs:FA):FA:=fun e=>(fa e).bind fun p=>(fs p.2).map fun q=>(p.1::q.1,q.2)
theorem ac:PA X [] (fA K aj):=jb.mono fun σ H Q h=>by
  obtain⟨F,e,r,e',R,hf,q⟩:=h
  cases hf
  exact q F H [] (cK.refl _ _ _ _) R rfl
theorem AV(ha:PE X a (fE K fa))(hr:PA X es (fA K fs))(h:PySem.W.isStarred a=false):PA X (a::es) (fA K (ab fa fs)):=(xx ha hr h).mono fun σ H Q h=>by
  obtain⟨F,e,z,e2,R,hf,q⟩:=h
  unfold ab at hf
  obtain⟨⟨x,e1⟩,h1,hf⟩:=Option.bind_eq_some_iff.mp hf
  obtain⟨⟨xs,e2'⟩,h2,hf⟩:=Option.map_eq_some_iff.mp hf
  cases hf
  refine⟨F,e,x,e1,R,h1,fun F1 H1 v X1 R1 A1=>⟨F1,e1,xs,_,R1,h2,fun F2 H2 vs X2 R2 A2=>?_⟩⟩
  exact q F2 H2 (v::vs) (X1.trans X2) R2 ⟨v,vs,rfl,A1.ext X2,A2.weak X1.dom⟩
def dz(fs:FA):FE:=fun e=>(fs e).bind fun p=>(gq p.1).bind fun ds=>if ds.length≤1000 then some (.d (.tuple ds),p.2) else none
def dU(fs:FA):FE:=fun e=>(fs e).bind fun p=>(gq p.1).bind fun ds=>if ds.length≤1000 then some (.l ds,p.2) else none
theorem bA{x1}(h:PA X es (fA K fs)):PE X (.Tuple es x1 pos) (fE K (dz fs)):=(xB h).mono fun σ H Q h=>by
  obtain⟨F,e,z,e2,R,hf,q⟩:=h
  unfold dz at hf
  obtain⟨⟨rs,e1⟩,h1,hf⟩:=Option.bind_eq_some_iff.mp hf
  obtain⟨ds,h2,hf⟩:=Option.bind_eq_some_iff.mp hf
  split at hf
  case isFalse=>cases hf
  case isTrue hl=>
  cases hf
  refine⟨F,e,rs,_,R,h1,fun F1 H1 vs X1 R1 A1=>?_⟩
  obtain⟨F2,R2,s2,d2,f2⟩:=cE.frozen R1 A1 h2
  have hlen:=d2.len
  refine⟨Nat.le_of_lt (ke (by lia)),fun p hp=>?_⟩
  obtain⟨R3,X3⟩:=R2.newT (vs:=vs) hp
  exact q _ _ _ ((X1.frz s2 f2).trans X3) R3 (bo.mpr ⟨p,vs,rfl,.inl (.inl ar),ay.mono X3.sf d2⟩)
theorem cg(h:PA X es (fA K fs)):PE X (.List es pos) (fE K (dU fs)):=(q_ h).mono fun σ H Q h=>by
  obtain⟨F,e,z,e2,R,hf,q⟩:=h
  unfold dU at hf
  obtain⟨⟨rs,e1⟩,h1,hf⟩:=Option.bind_eq_some_iff.mp hf
  obtain⟨ds,h2,hf⟩:=Option.bind_eq_some_iff.mp hf
  split at hf
  case isFalse=>cases hf
  case isTrue hl=>
  cases hf
  refine⟨F,e,rs,_,R,h1,fun F1 H1 vs X1 R1 A1=>?_⟩
  obtain⟨F2,R2,s2,d2,f2⟩:=cE.frozen R1 A1 h2
  have hlen:=d2.len
  refine⟨Nat.le_of_lt (ke (by lia)),fun p hp=>?_⟩
  obtain⟨R3,X3,hF,no⟩:=R2.newL (vs:=vs) hp
  exact q _ _ _ ((X1.frz s2 f2).trans X3) R3 ⟨p,vs,rfl,X1.dom p hp,hF,ar,d2,no⟩
def dF(K:PySem.W.Frag)(r:List V→Hp→VK→Prop)(g:En→List Rv→Option Rv):Prop:=
  ∀(σ:L2.St) (H0 F H:Hp) (e:En) (xs:List Rv) (z:Rv) (vs:List V) (Q:VK),aJ K F H σ e→cE K σ H0 F H e xs vs→g e xs=some z→
    (∀F' H' w,cK σ F H e F' H' e→aJ K F' H' σ e→bD K σ H F' H' e z w→Q w H')→r vs H Q
def aR(g:En→List Rv→Option Rv)(fs:FA):FE:=fun e=>(fs e).bind fun p=>(g p.2 p.1).map fun z=>(z,p.2)
theorem mx{r:List V→Hp→VK→Prop}{g:En→List Rv→Option Rv}(ho:dF K r g){σ:L2.St}{H:Hp}{Q:VK}(h:fE K (aR g fs) σ H Q):AY r (fA K fs) σ H Q:=by
  obtain⟨F,e,z,e2,R,hf,q⟩:=h
  unfold aR at hf
  obtain⟨⟨x,e1⟩,h1,hf⟩:=Option.bind_eq_some_iff.mp hf
  obtain⟨z',h3,hf⟩:=Option.map_eq_some_iff.mp hf
  cases hf
  refine⟨F,e,x,_,R,h1,fun F1 H1 vs X1 R1 A1=>?_⟩
  refine ho σ H F1 H1 _ x _ vs Q R1 A1 h3 fun F3 H3 w X3 R3 A3=>?_
  exact q F3 H3 w (X1.trans X3) R3 (A3.weak X1.dom)
theorem rH{x:Str}{p pos:Pos}{id:String}{r:List V→Hp→VK→Prop}{g:En→List Rv→Option Rv}(hc:dG X (.builtin id) r)(ho:dF K r g)(hg:Gl X x)(hm:X.mg x=none)(hv:bootBuiltins x=some (.builtin id))(ha:PA X (a::es) (fA K fs))(hn:x≠"__name__")(hdb:(x==("__debug__":Str))=false)
    (he:starEach (a::es) X.env=(false,eval a X.env)::starEach es X.env)(hpl:(backTo pos (starEach es X.env)).any (·.1)=false):PE X (.Call (.Name x p) (a::es) [] pos) (fE K (aR g fs)):=(lZ hc hg hm hv ha hn hdb he hpl).mono fun _ _ _ h=>mx ho h
theorem pG{x:Str}{p pos:Pos}{T:String}{r:List V→Hp→VK→Prop}{g:En→List Rv→Option Rv}(hc:dG X (.type T) r)(ho:dF K r g)(hg:Gl X x)(hm:X.mg x=none)(hv:bootBuiltins x=some (.type T))(ha:PA X (a::es) (fA K fs))(hn:x≠"__name__")(hdb:(x==("__debug__":Str))=false)
    (he:starEach (a::es) X.env=(false,eval a X.env)::starEach es X.env)(hpl:(backTo pos (starEach es X.env)).any (·.1)=false):PE X (.Call (.Name x p) (a::es) [] pos) (fE K (aR g fs)):=(pB hc hg hm hv ha hn hdb he hpl).mono fun _ _ _ h=>mx ho h
end
end L2
namespace L2
open PySem PySem.Spec PyProof.Rows
mutual
theorem DA.reads{X:Cx}{pins:List (Addr × Obj)}{σ:L2.St}{H:Hp}{s:Shared}(I:av X pins σ H s):∀{d:PyData} {v:V} {u:Value},d.canLay0=true→DA X.K H d v→aZ v u→∃as,Reads s.heap u d as
  | .none,_,_,_,q,r=>by
    simp only [DA] at q;subst q;cases r;exact⟨_,.none⟩
  | .bool b,_,_,_,q,r=>by
    simp only [DA] at q;subst q;cases r;exact⟨_,.bool b⟩
  | .int i,_,_,_,q,r=>by
    simp only [DA] at q;subst q;obtain⟨t,rfl⟩:=r;exact⟨_,.int i t⟩
  | .str x,_,_,_,q,r=>by
    simp only [DA] at q;subst q;obtain⟨t,rfl⟩:=r;exact⟨_,.str x t⟩
  | .tuple ds,_,_,c,q,r=>by
    simp only [DA] at q
    obtain⟨a,xs,e,hs,rr⟩:=q
    subst e;cases r
    obtain⟨its,rv,⟨o,ho,hc,n,hd⟩,hz⟩:=I.tuple hs
    obtain⟨as,q⟩:=ay.reads I (by simpa [PyData.canLay0] using c) rr rv
    exact⟨_,.tuple ho hc hd q⟩
  | .list ds,_,_,c,q,r=>by
    simp only [DA] at q
    obtain⟨a,xs,e,hs,rr⟩:=q
    subst e;cases r
    obtain⟨its,rv,ht,hz⟩:=I.list hs
    obtain⟨o,ho,hc,n,hd⟩:=ht.isList
    obtain⟨as,q⟩:=ay.reads I (by simpa [PyData.canLay0] using c) rr rv
    exact⟨_,.list ho hc hd q⟩
  | .dict _,_,_,c,_,_=>by simp [PyData.canLay0] at c
theorem ay.reads{X:Cx}{pins:List (Addr × Obj)}{σ:L2.St}{H:Hp}{s:Shared}(I:av X pins σ H s):∀{ds:List PyData} {xs:List V} {us:List Value},PyData.canLayAll0 ds=true→ay X.K H ds xs→aC xs us→∃as,ReadsAll s.heap us ds as
  | [],_,_,_,q,r=>by
    simp only [ay] at q;subst q;cases r;exact⟨_,.nil⟩
  | d::ds,_,_,c,q,r=>by
    simp only [ay] at q
    simp only [PyData.canLayAll0,Bool.and_eq_true] at c
    obtain⟨x,rr,e,a,b⟩:=q
    subst e
    cases r with
    | cons p p'=>
      obtain⟨as,q1⟩:=DA.reads I c.1 a p
      obtain⟨bs,q2⟩:=ay.reads I c.2 b p'
      exact⟨_,.cons q1 q2⟩
end
def eS(e:En):Rv→Option PyData
  | .d x=>some x
  | .l xs=>some (.list xs)
  | .s i=>match e[i]? with
    | some (some (.l xs))=>some (.list xs)
    | _=>none
theorem iQ{K:PySem.W.Frag}{σ:L2.St}{H0 F H:Hp}{e:En}{r:Rv}{v:V}{d:PyData}(R:aJ K F H σ e)(h:bD K σ H0 F H e r v)(q:eS e r=some d):DA K H d v:=by
  cases r with
  | d x=>cases q;exact DA.mono R.sm h
  | l xs=>
    cases q
    obtain⟨l,vs,rfl,h1,h2,h3,h4,_⟩:=h
    exact bG.mpr ⟨l,vs,rfl,.inl (.inl h3),ay.mono R.sm h4⟩
  | s i=>
    obtain⟨h1,ys,h2⟩:=h
    simp only [eS,h2] at q
    cases q
    obtain⟨l,vs,e1,e2,e3,e4⟩:=R.own i _ h2
    rw [h1] at e1;cases e1
    exact bG.mpr ⟨l,vs,rfl,.inl (.inl e3),ay.mono R.sm e4⟩
section
variable{X:Cx}{K:PySem.W.Frag}
def bJ:Rv→Option Int
  | .d (.int i)=>some i
  | _=>none
theorem bV{σ:L2.St}{H0 F H:Hp}{e:En}{r:Rv}{v:V}{i:Int}(h:bD K σ H0 F H e r v)(q:bJ r=some i):v=.int i:=by
  unfold bJ at q
  split at q
  · cases q;exact ba.mp (show DA K F (.int _) v from h)
  · cases q
theorem kZ{σ:L2.St}{H0 F H:Hp}{e:En}{i:Int}:bD K σ H0 F H e (.d (.int i)) (.int i):=(ba (K:=K) (F:=F)).mpr rfl
def gI(C:Int→Int→Bool)(f:Int→Int→PyData):En→Rv→Rv→Option Rv:=fun _ x y=>(bJ x).bind fun i=>(bJ y).bind fun j=>if C i j=true then some (.d (f i j)) else none
theorem j'{C:Int→Int→Prop}{c:Int→Int→Bool}{g:Int→Int→V}{f:Int→Int→PyData}(hc:∀i j,c i j=true→C i j)(hf:∀F i j,DA K F (f i j) (g i j)):et K (rI C g) (gI c f):=by
  intro σ H0 F H e x y z v u Q R A B hg q
  unfold gI at hg
  obtain⟨i,h1,hg⟩:=Option.bind_eq_some_iff.mp hg
  obtain⟨j,h2,hg⟩:=Option.bind_eq_some_iff.mp hg
  split at hg
  case isFalse=>cases hg
  case isTrue hh=>
  cases hg
  exact⟨i,j,bV A h1,bV B h2,hc i j hh,q F H _ (cK.refl _ _ _ _) R (hf F i j)⟩
theorem fY{g:Int→Int→V}{f:Int→Int→PyData}(hf:∀F i j,DA K F (f i j) (g i j)):et K (pH g) (gI (fun _ _=>true) f):=by
  intro σ H0 F H e x y z v u Q R A B hg q
  obtain⟨i,j,h1,h2,h3,h4⟩:=j' (K:=K) (C:=fun _ _=>True) (c:=fun _ _=>true) (g:=g) (f:=f) (fun _ _ _=>trivial) hf σ H0 F H e x y z v u Q R A B hg q
  exact⟨i,j,h1,h2,h4⟩
def qz(g g':En→Rv→Rv→Option Rv):En→Rv→Rv→Option Rv:=fun e x y=>(g e x y).or (g' e x y)
theorem et.or{r r':R2}{g g':En→Rv→Rv→Option Rv}(h:et K r g)(h':et K r' g'):et K (fun x y H Q=>r x y H Q∨r' x y H Q) (qz g g'):=by
  intro σ H0 F H e x y z v u Q R A B hg q
  unfold qz at hg
  cases e1:g e x y with
  | some w=>
    rw [e1] at hg
    cases hg
    exact .inl (h σ H0 F H e x y _ v u Q R A B e1 q)
  | none=>
    rw [e1] at hg
    exact .inr (h' σ H0 F H e x y _ v u Q R A B hg q)
def qk:=gI (fun _ _=>true) fun i j=>.int (i+j)
def hJ:=gI (fun _ _=>true) fun i j=>.int (i - j)
def eH(i:Int):Bool:=decide (-(2 ^ 64) < i)&&decide (i < 2 ^ 64)
def yQ(n:Nat)(i:Int):Bool:=decide (i.natAbs < 2 ^ n)
theorem gb{n:Nat}{i:Int}:yQ n i=true↔ Bt n i:=by unfold yQ Bt;exact decide_eq_true_iff
def h_(i j:Int):Bool:=eH i || eH j || (yQ 4000 i&&yQ 4000 j)
def lF:=gI h_ fun i j=>.int (i*j)
def cj:=gI (fun _ j=>j != 0&&yQ 8000 j) fun i j=>.int (i.fdiv j)
def aO:=gI (fun _ j=>j != 0) fun i j=>.int (i.fmod j)
def pF(i j:Int):Bool:=decide (0≤j)&&decide (j≤1000000)&&eH i
def mW:=gI pF fun i j=>.int (i ^ j.toNat)
def sZ:=gI pF fun i j=>.int (i*2 ^ j.toNat)
theorem f9{i:Int}(h:eH i=true): -(2 ^ 64) < i∧i < 2 ^ 64:=by
  unfold eH at h
  rw [Bool.and_eq_true,decide_eq_true_iff,decide_eq_true_iff] at h
  exact h
theorem oo{i j:Int}(h:pF i j=true):pV i j:=by
  unfold pF at h
  rw [Bool.and_eq_true,Bool.and_eq_true,decide_eq_true_iff,decide_eq_true_iff] at h
  have:=f9 h.2
  exact⟨h.1.1,h.1.2,by lia⟩
def nE(i j:Int):Prop:=sG i j∨u9 i j
theorem tT:eJ X (binaryOp .Mult) (rI nE fun i j=>.int (i*j)):=by
  intro pins s σ H x y v u Q I rx ry h
  obtain⟨i,j,e1,e2,h1,q⟩:=h
  rcases h1 with h1 | h1
  · exact xo pins s σ H x y v u Q I rx ry ⟨i,j,e1,e2,h1,q⟩
  · exact tU pins s σ H x y v u Q I rx ry ⟨i,j,e1,e2,h1,q⟩
theorem tJ{i j:Int}(h:h_ i j=true):nE i j:=by
  unfold h_ at h
  rw [Bool.or_eq_true,Bool.or_eq_true,Bool.and_eq_true] at h
  rcases h with (h | h) | h
  · exact .inl (.inl (f9 h))
  · exact .inl (.inr (f9 h))
  · exact .inr ⟨gb.mp h.1,gb.mp h.2⟩
theorem wV:et K (rI nE fun i j=>.int (i*j)) lF:=j' (fun _ _ h=>tJ h) fun _ _ _=>ba.mpr rfl
theorem zO:et K (pH fun i j=>.int (i - j)) hJ:=fY fun _ _ _=>ba.mpr rfl
theorem wy:et K (rI uZ fun i j=>.int (i.fdiv j)) cj:=j' (fun i j h=>by
  rw [Bool.and_eq_true] at h
  exact⟨by simpa using h.1,gb.mp h.2⟩) fun _ _ _=>ba.mpr rfl
theorem zl:et K (rI (fun _ j=>j≠0) fun i j=>.int (i.fmod j)) aO:=j' (fun i j h=>by simpa using h) fun _ _ _=>ba.mpr rfl
theorem zw:et K (rI pV fun i j=>.int (i ^ j.toNat)) mW:=j' (fun _ _ h=>oo h) fun _ _ _=>ba.mpr rfl
theorem zM:et K (rI pV fun i j=>.int (i*2 ^ j.toNat)) sZ:=j' (fun _ _ h=>oo h) fun _ _ _=>ba.mpr rfl
def lB:En→Rv→Rv→Option Rv:=fun e x y=>match dD e x,dD e y with
  | some (false,xs),some (false,ys)=>if xs.length+ys.length≤1000000 then some (.d (.tuple (xs++ys))) else none
  | _,_=>none
theorem wn:et K (rO K) lB:=by
  intro σ H0 F H e x y z v u Q R A B hg q
  unfold lB at hg
  match h1:dD e x,h2:dD e y,hg with
  | some (false,xs),some (false,ys),hg=>
    obtain⟨p,vs,rfl,d1,s1⟩:=eG R A h1
    obtain⟨p',us,rfl,d2,s2⟩:=eG R B h2
    dsimp only at hg
    split at hg
    case isFalse=>cases hg
    case isTrue hl=>
    cases hg
    have l1:=d1.len
    have l2:=d2.len
    have sl:sizeLine=16777216:=sizeLine_eq
    refine⟨p,p',vs,us,rfl,rfl,s1,s2,by lia,fun t H' sm hT=>?_⟩
    obtain⟨F',R',X',hF⟩:=R.growT sm hT
    exact q F' H' _ X' R' (bo.mpr ⟨t,_,rfl,hF,(d1.append d2).mono X'.sf⟩)
def ph(e:En):Rv→Option (List PyData)
  | .l xs=>some xs
  | .s i=>match e[i]? with
    | some (some (.l xs))=>some xs
    | _=>none
  | _=>none
theorem kS{σ:L2.St}{H0 F H:Hp}{e:En}{r:Rv}{v:V}(R:aJ K F H σ e)(h:bD K σ H0 F H e r v){xs:List PyData}(q:ph e r=some xs):∃p vs,v=.ref p∧F p=none∧H p=some (.lst vs)∧ay K F xs vs:=by
  cases r with
  | d x=>cases q
  | l ys=>
    cases q
    obtain⟨l,vs,e1,h1,h2,h3,h4,_⟩:=h
    exact⟨l,vs,e1,h2,h3,h4⟩
  | s i=>
    obtain⟨h1,ys,h2⟩:=h
    simp only [ph,h2] at q
    cases q
    obtain⟨l,vs,e1,e2,e3,e4⟩:=R.own i _ h2
    rw [h1] at e1;cases e1
    exact⟨l,vs,rfl,e2,e3,e4⟩
def nV:En→Rv→Rv→Option Rv:=fun e x y=>(ph e x).bind fun xs=>(ph e y).bind fun ys=>if xs.length+ys.length≤1000000 then some (.l (xs++ys)) else none
theorem wm:et K xW nV:=by
  intro σ H0 F H e x y z v u Q R A B hg q
  unfold nV at hg
  obtain⟨xs,h1,hg⟩:=Option.bind_eq_some_iff.mp hg
  obtain⟨ys,h2,hg⟩:=Option.bind_eq_some_iff.mp hg
  split at hg
  case isFalse=>cases hg
  case isTrue hl=>
  cases hg
  obtain⟨p,vs,rfl,f1,s1,d1⟩:=kS R A h1
  obtain⟨p',us,rfl,f2,s2,d2⟩:=kS R B h2
  have l1:=d1.len
  have l2:=d2.len
  have sl:sizeLine=16777216:=sizeLine_eq
  refine⟨p,p',vs,us,rfl,rfl,s1,s2,by lia,fun t ht=>?_⟩
  obtain⟨R3,X3,hF,no⟩:=R.newL (vs:=vs++us) ht
  exact q _ _ _ X3 R3 ⟨t,_,rfl,ht,hF,ar,d1.append d2,no⟩
def cy:En→Rv→Rv→Option Rv:=qz qk (qz lB nV)
def vM(K:PySem.W.Frag):R2:=fun x y H Q=>pH (fun i j=>.int (i+j)) x y H Q∨(rO K x y H Q∨xW x y H Q)
theorem tO:eJ X (binaryOp .Add) (vM X.K):=xf.or (tP.or xg)
theorem yM:et K (vM K) cy:=et.or (fY fun _ _ _=>ba.mpr rfl) (et.or wn wm)
def lH:En→Rv→Rv→Option Rv:=fun e x y=>match dD e x,bJ y with
  | some (false,[d]),some k=>if 0≤k∧k≤100000 then some (.d (.tuple (List.replicate k.toNat d))) else none
  | _,_=>none
theorem ay.rep{F:Hp}{d:PyData}{v:V}(h:DA K F d v):∀n,ay K F (List.replicate n d) (List.replicate n v)
  | 0=>ay.nil
  | n+1=>ay.cons h (ay.rep h n)
theorem x5:et K (rQ K) lH:=by
  intro σ H0 F H e x y z v u Q R A B hg q
  unfold lH at hg
  match h1:dD e x,h2:bJ y,hg with
  | some (false,[d]),some k,hg=>
    obtain⟨p,vs,rfl,d1,s1⟩:=eG R A h1
    dsimp only at hg
    split at hg
    case isFalse=>cases hg
    case isTrue hl=>
    cases hg
    have hd:=d1
    simp only [ay] at hd
    obtain⟨w,r,e1,hw,e2⟩:=hd
    subst e2 e1
    refine⟨p,k,w,rfl,bV B h2,s1,hl.1,hl.2,fun t H' sm hT=>?_⟩
    obtain⟨F',R',X',hF⟩:=R.growT sm hT
    exact q F' H' _ X' R' (bo.mpr ⟨t,_,rfl,hF,(ay.rep hw _).mono X'.sf⟩)
def qA:En→Rv→Rv→Option Rv:=fun e x y=>(ph e x).bind fun xs=>(bJ y).bind fun k=>if -100000≤k∧k≤100000∧xs.length*k.toNat≤1000000 then some (.l (List.replicate k.toNat xs).flatten) else none
theorem ay.reps{F:Hp}{ds:List PyData}{vs:List V}(h:ay K F ds vs):∀n,ay K F (List.replicate n ds).flatten (List.replicate n vs).flatten
  | 0=>ay.nil
  | n+1=>by simpa [List.replicate_succ] using ay.append h (ay.reps h n)
theorem x4:et K xZ qA:=by
  intro σ H0 F H e x y z v u Q R A B hg q
  unfold qA at hg
  obtain⟨xs,h1,hg⟩:=Option.bind_eq_some_iff.mp hg
  obtain⟨k,h2,hg⟩:=Option.bind_eq_some_iff.mp hg
  split at hg
  case isFalse=>cases hg
  case isTrue hl=>
  cases hg
  obtain⟨p,vs,rfl,f1,s1,d1⟩:=kS R A h1
  have l1:=d1.len
  have sl:sizeLine=16777216:=sizeLine_eq
  refine⟨p,k,vs,rfl,bV B h2,s1,by lia,by lia,by rw [←l1];lia,fun t ht=>?_⟩
  obtain⟨R3,X3,hF,no⟩:=R.newL (vs:=(List.replicate k.toNat vs).flatten) ht
  exact q _ _ _ X3 R3 ⟨t,_,rfl,ht,hF,ar,ay.reps d1 _,no⟩
def fK:En→Rv→Rv→Option Rv:=qz lF (qz lH qA)
def vN(K:PySem.W.Frag):R2:=fun x y H Q=>rI nE (fun i j=>.int (i*j)) x y H Q∨(rQ K x y H Q∨xZ x y H Q)
theorem tS:eJ X (binaryOp .Mult) (vN X.K):=tT.or (tV.or xt)
theorem zm:et K (vN K) fK:=et.or wV (et.or x5 x4)
def yz:=gI (fun _ _=>true) fun i j=>.bool (decide (i < j))
def BG:=gI (fun _ _=>true) fun i j=>.bool (decide (i≤j))
def y0:=gI (fun _ _=>true) fun i j=>.bool (decide (j < i))
def yZ:=gI (fun _ _=>true) fun i j=>.bool (decide (j≤i))
theorem AS:et K (pH fun i j=>.bl (decide (i < j))) yz:=fY fun _ _ _=>cv.mpr rfl
theorem AF:et K (pH fun i j=>.bl (decide (j < i))) y0:=fY fun _ _ _=>cv.mpr rfl
theorem AE:et K (pH fun i j=>.bl (decide (j≤i))) yZ:=fY fun _ _ _=>cv.mpr rfl
def xX(K:PySem.W.Frag)(neg:Bool):R2:=fun x y H Q=>∃a b,DA K H a x∧DA K H b y∧SeqAt.shaped a=true∧SeqAt.shaped b=true∧Q (.bl (if neg then !PyData.eqv a b else PyData.eqv a b)) H
theorem xh{k:Nat}(hr:cF k X.A):eJ X (compareOp .Eq) (xX X.K false):=by
  intro pins s σ H x y v u Q I rx ry h
  obtain⟨a,b,ha,hb,s1,s2,q⟩:=h
  obtain⟨as,ra⟩:=DA.reads I (SeqAt.canLay_of_shaped s1) ha rx
  obtain⟨bs,rb⟩:=DA.reads I (SeqAt.canLay_of_shaped s2) hb ry
  exact SeqAt.compareEq_shaped ra rb s1 s2 hr.units ⟨.bl _,H,I,rfl,q⟩
theorem xq{k:Nat}(hr:cF k X.A):eJ X (compareOp .NotEq) (xX X.K true):=by
  intro pins s σ H x y v u Q I rx ry h
  obtain⟨a,b,ha,hb,s1,s2,q⟩:=h
  obtain⟨as,ra⟩:=DA.reads I (SeqAt.canLay_of_shaped s1) ha rx
  obtain⟨bs,rb⟩:=DA.reads I (SeqAt.canLay_of_shaped s2) hb ry
  exact SeqAt.compareNe_shaped ra rb s1 s2 hr.units ⟨.bl _,H,I,rfl,q⟩
def cO(neg:Bool):En→Rv→Rv→Option Rv:=fun e x y=>(eS e x).bind fun a=>(eS e y).bind fun b=>if (SeqAt.shaped a&&SeqAt.shaped b)=true then some (.d (.bool (if neg then !PyData.eqv a b else PyData.eqv a b))) else none
theorem vk{neg:Bool}:et K (xX K neg) (cO neg):=by
  intro σ H0 F H e x y z v u Q R A B hg q
  unfold cO at hg
  obtain⟨a,h1,hg⟩:=Option.bind_eq_some_iff.mp hg
  obtain⟨b,h2,hg⟩:=Option.bind_eq_some_iff.mp hg
  split at hg
  case isFalse=>cases hg
  case isTrue hl=>
  cases hg
  rw [Bool.and_eq_true] at hl
  exact⟨a,b,iQ R A h1,iQ R B h2,hl.1,hl.2,q F H _ (cK.refl _ _ _ _) R fD⟩
def Az(neg:Bool):En→Rv→Rv→Option Rv:=fun e x y=>(eS e x).bind fun a=>(dD e y).bind fun p=>if (a.canLay0&&decide (a.depth≤60)&&PyData.canLayAll0 p.2)=true then some (.d (.bool (if neg then !(p.2.any fun y=>PyData.eqv y a) else p.2.any fun y=>PyData.eqv y a))) else none
def kR:PyData→Bool
  | .none=>true
  | _=>false
theorem oU{F:Hp}{d:PyData}{v:V}(h:DA K F d v):decide (v=.non)=kR d:=by
  cases d with
  | none=>rw [dI.mp h];rfl
  | bool b=>rw [cv.mp h];rfl
  | int b=>rw [ba.mp h];rfl
  | str b=>rw [mS.mp h];rfl
  | tuple b=>obtain⟨a,_,e,_⟩:=bo.mp h;rw [e];rfl
  | list b=>obtain⟨a,_,e,_⟩:=bG.mp h;rw [e];rfl
  | dict b=>simp only [DA] at h;obtain⟨a,m,rfl,_⟩:=h;rfl
def wB(neg:Bool):En→Rv→Rv→Option Rv:=fun e x y=>(eS e x).bind fun a=>match y with
  | .d .none=>some (.d (.bool (if neg then !kR a else kR a)))
  | _=>none
def wA(neg:Bool):En→Rv→Rv→Option Rv:=fun e x y=>(dQ x).bind fun a=>(dQ y).bind fun b=>some (.d (.bool (if neg then !(a==b) else a==b)))
theorem y8:et K (fun x y H Q=>y=.non∧Q (.bl (decide (x=.non))) H) (wB false):=by
  intro σ H0 F H e x y z v u Q R A B hg q
  unfold wB at hg
  obtain⟨a,h1,hg⟩:=Option.bind_eq_some_iff.mp hg
  split at hg
  · cases hg
    refine⟨dI.mp (show DA K F .none u from B),?_⟩
    rw [oU (iQ R A h1)]
    exact q F H _ (cK.refl _ _ _ _) R fD
  · cases hg
theorem y6:et K (fun x y H Q=>∃b c,x=.bl b∧y=.bl c∧Q (.bl (b==c)) H) (wA false):=by
  intro σ H0 F H e x y z v u Q R A B hg q
  unfold wA at hg
  obtain⟨a,h1,hg⟩:=Option.bind_eq_some_iff.mp hg
  obtain⟨b,h2,hg⟩:=Option.bind_eq_some_iff.mp hg
  cases hg
  exact⟨a,b,gY A h1,gY B h2,q F H _ (cK.refl _ _ _ _) R fD⟩
def y1:En→Rv→Rv→Option Rv:=qz (wB false) (wA false)
def zE:R2:=fun x y H Q=>(y=.non∧Q (.bl (decide (x=.non))) H)∨∃b c,x=.bl b∧y=.bl c∧Q (.bl (b==c)) H
theorem xj:eJ X (compareOp .Is) zE:=xn.or xl
theorem AM:et K zE y1:=et.or y8 y6
def cT:En→Rv→Rv→Option Rv:=fun e x y=>(dD e x).bind fun p=>(bJ y).bind fun i=>(atI p.2 i).map .d
def zF(K:PySem.W.Frag):R2:=fun x y H Q=>xY K x y H Q∨zG K x y H Q
theorem AN:sy X (zF X.K):=ol.or wL
theorem ay.atI{F:Hp}{ds:List PyData}{vs:List V}(h:ay K F ds vs){i:Int}{d:PyData}(q:atI ds i=some d):∃v,L2.atI vs i=some v∧DA K F d v:=by
  unfold L2.atI at q ⊢
  obtain⟨j,h1,h2⟩:=Option.bind_eq_some_iff.mp q
  obtain⟨v,h3,h4⟩:=h.get h2
  exact⟨v,by rw [←h.len,h1];exact h3,h4⟩
theorem AO:et K (zF K) cT:=by
  intro σ H0 F H e x y z v u Q R A B hg q
  unfold cT at hg
  obtain⟨⟨b,xs⟩,h1,hg⟩:=Option.bind_eq_some_iff.mp hg
  obtain⟨i,h2,hg⟩:=Option.bind_eq_some_iff.mp hg
  obtain⟨d,h3,hg⟩:=Option.map_eq_some_iff.mp hg
  cases hg
  obtain⟨p,vs,rfl,d1,s1⟩:=eG R A h1
  obtain⟨w,h4,h5⟩:=d1.atI h3
  have fin:=q F H w (cK.refl _ _ _ _) R h5
  cases b with
  | true=>exact .inl ⟨p,vs,i,w,rfl,bV B h2,s1,h4,fin⟩
  | false=>exact .inr ⟨p,vs,i,w,rfl,bV B h2,s1,h4,fin⟩
end
end L2
namespace HT
open PySem PySem.Spec PyProof.Rows
section
variable{prog:Program}{w:World}{A:Around}{E:Value→Shared→Prop}{s:Shared}
theorem getItem_tuple_all{t sl:Addr}{items:Array Value}{vl vu:Value}{lo hi:Option Int}{Q:Value→Shared→Prop}(ht:IsTup s.heap t items)(hs:s.heap.IsSliceOf sl vl vu .none)(pl:IsPart vl lo)(pu:IsPart vu hi)
    (hw:sIx items.size 0 lo=0∧sIx items.size items.size hi=items.size)
    (h:Q (.ref t) s):wpAny (model prog w) A (getItem (.ref t) (.ref sl)) Q E s:=by
  obtain⟨os,hos,hcs,hds⟩:=id hs
  have hTs:s.TypeIs (.ref sl) "slice":=⟨os,hos,hcs⟩
  unfold getItem
  try with_reducible refine wpAny_holding ?_
  first | refine wpAny_bind (wpAny_pure ?_) | skip
  refine wpAny_bind (wpAny_sequenceKey ht.typeIs (by decide) ?_)
  refine wpAny_bind (wpAny_callSpecial?_slot (name:=Str.ofString "__getitem__") ht.typeIs PyProof.Rows.slot_tuple_getitem
    (wpAny_call_entry PyProof.Rows.slot_tuple_getitem ht.typeIs entry_tuple_getitem ?_ (args_tuple_getitem _ _)))
  show wpAny _ _ (Builtin.Tuple.tupleItemsOf (.ref t) >>= _) _ _ s
  refine wpAny_bind (tupleItemsOf_ ht ?_)
  refine wpAny_bind (wpAny_typeOf hTs ?_)
  rw [if_pos (by decide)]
  refine wpAny_bind (en hs pl pu ?_)
  have hno:(((sIx items.size 0 lo:Nat):Int)==0&&(1:Int)==1&&(sIx items.size items.size hi - sIx items.size 0 lo)==items.size)=true:=by
    rw [hw.1,hw.2];simp
  show wpAny _ _ (if (((sIx items.size 0 lo:Nat):Int)==0&&(1:Int)==1&&(sIx items.size items.size hi - sIx items.size 0 lo)==items.size)=true then _ else _) _ _ s
  rw [if_pos hno]
  unfold Builtin.Tuple.tupleIsExact
  refine wpAny_bind (wpAny_bind (wpAny_typeOf ht.typeIs (wpAny_pure ?_)))
  rw [if_pos (by decide)]
  exact wpAny_bind (wpAny_rule (wpAny_pure ⟨_,rfl,wpAny_pure h⟩))
end
end HT
namespace L2
open PySem PySem.Spec PyProof.Rows
section
variable{X:Cx}{K:PySem.W.Frag}{a:Expr}{fa:FE}{lo hi:Option Expr}{pos p2:Pos}
def cutD(xs:List PyData)(lo hi:Option Int):List PyData:=(xs.drop (HT.sIx xs.length 0 lo)).take (HT.sIx xs.length xs.length hi - HT.sIx xs.length 0 lo)
def zJ(K:PySem.W.Frag):V→Option Int→Option Int→Hp→VK→Prop:=fun x lo hi H Q=>∃a xs,x=.ref a∧bR K H a xs∧
  (HT.sIx xs.length 0 lo=0∧HT.sIx xs.length xs.length hi=xs.length)∧Q (.ref a) H
theorem uH:sJ X (zJ X.K):=by
  intro pins s σ H x v vl vu lo hi sl Q I rx hs pl pu h
  obtain⟨a,xs,rfl,hx,hw,q⟩:=h
  cases rx
  obtain⟨its,r,ht,hz⟩:=I.tuple hx
  have hlen:its.toArray.size=xs.length:=by rw [List.size_toArray];exact r.length.symm
  refine⟨"tuple",_,PyProof.Rows.slot_tuple_getitem.lookup,ht.typeIs,?_⟩
  exact HT.getItem_tuple_all ht hs pl pu (by rw [hlen];exact hw) ⟨.ref a,H,I,rfl,q⟩
def AW(K:PySem.W.Frag):V→Option Int→Option Int→Hp→VK→Prop:=fun x lo hi H Q=>zI K x lo hi H Q∨(zJ K x lo hi H Q∨zH K x lo hi H Q)
theorem AX:sJ X (AW X.K):=yc.or (uH.or uG)
abbrev FO:=En→Option (Option Int × En)
def fO(K:PySem.W.Frag)(f:FO):TO:=fun σ H Q=>∃F e o e',aJ K F H σ e∧f e=some (o,e')∧∀F' H',cK σ F H e F' H' e'→aJ K F' H' σ e'→Q o H'
theorem PO.mono{e:Option Expr}{t t':TO}(h:PO X e t)(m:∀σ H Q,t' σ H Q→t σ H Q):PO X e t':=fun pins s σ H Q I q=>h pins s σ H Q I (m σ H Q q)
def lX:FO:=fun e=>some (none,e)
def j_(f:FE):FO:=fun e=>(f e).bind fun p=>(bJ p.1).map fun i=>(some i,p.2)
theorem uu:PO X none (fO K lX):=ue.mono fun σ H Q h=>by
  obtain⟨F,e,o,e',R,hf,q⟩:=h
  cases hf
  exact q F H (cK.refl _ _ _ _) R
theorem uv(h:PE X a (fE K fa)):PO X (some a) (fO K (j_ fa)):=(uf h).mono fun σ H Q h=>by
  obtain⟨F,e,o,e',R,hf,q⟩:=h
  unfold j_ at hf
  obtain⟨⟨x,e1⟩,h1,hf⟩:=Option.bind_eq_some_iff.mp hf
  obtain⟨i,h2,hf⟩:=Option.map_eq_some_iff.mp hf
  cases hf
  exact⟨F,e,x,_,R,h1,fun F1 H1 v X1 R1 A1=>⟨i,bV A1 h2,q F1 H1 X1 R1⟩⟩
def AD(e:En)(x:Rv)(lo hi:Option Int):Option Rv:=(dD e x).map fun p=>if p.1=true then .l (cutD p.2 lo hi) else .d (.tuple (cutD p.2 lo hi))
def yq(fa:FE)(fl fh:FO):FE:=fun e=>(fa e).bind fun p=>(fl p.2).bind fun l=>(fh l.2).bind fun h=>(AD h.2 p.1 l.1 h.1).map fun z=>(z,h.2)
theorem qb{F:Hp}{ds:List PyData}{vs:List V}(h:ay K F ds vs)(lo hi:Option Int):ay K F (cutD ds lo hi) (jH vs lo hi):=by
  unfold cutD jH
  rw [h.len]
  exact(h.drop _).take _
theorem sO{α:Type}{xs:List α}{lo hi:Option Int}(h:HT.sIx xs.length 0 lo=0∧HT.sIx xs.length xs.length hi=xs.length):(xs.drop (HT.sIx xs.length 0 lo)).take (HT.sIx xs.length xs.length hi - HT.sIx xs.length 0 lo)=xs:=by
  rw [h.1,h.2];simp
theorem rJ{fl fh:FO}(he:PE X a (fE X.K fa))(hl:PO X lo (fO X.K fl))(hh:PO X hi (fO X.K fh)):PE X (.Subscript a (.Slice lo hi none p2) pos) (fE X.K (yq fa fl fh)):=(rf AX he hl hh).mono fun σ H Q h=>by
  obtain⟨F,e,z,e',R,hf,q⟩:=h
  unfold yq at hf
  obtain⟨⟨x,e1⟩,h1,hf⟩:=Option.bind_eq_some_iff.mp hf
  obtain⟨⟨l,e2⟩,h2,hf⟩:=Option.bind_eq_some_iff.mp hf
  obtain⟨⟨u,e3⟩,h3,hf⟩:=Option.bind_eq_some_iff.mp hf
  obtain⟨z',h4,hf⟩:=Option.map_eq_some_iff.mp hf
  cases hf
  refine⟨F,e,x,e1,R,h1,fun F1 H1 v X1 R1 A1=>⟨F1,e1,l,e2,R1,h2,fun F2 H2 X2 R2=>⟨F2,e2,u,_,R2,h3,fun F3 H3 X3 R3=>?_⟩⟩⟩
  have X12:=X1.trans X2
  have X13:=X12.trans X3
  have A3:=(A1.ext X2).ext X3
  unfold AD at h4
  obtain⟨⟨b,xs⟩,h5,h4⟩:=Option.map_eq_some_iff.mp h4
  obtain⟨p,vs,rfl,d1,s1⟩:=eG R3 A3 h5
  cases b with
  | true=>
    rw [if_pos rfl] at h4;cases h4
    refine .inr (.inr ⟨p,vs,rfl,s1,fun t ht=>?_⟩)
    obtain⟨R4,X4,hF,no⟩:=R3.newL (vs:=jH vs l u) ht
    exact q _ _ _ (X13.trans X4) R4 ⟨t,_,rfl,X13.dom _ ht,hF,ar,qb d1 l u,no⟩
  | false=>
    rw [if_neg (by simp)] at h4;cases h4
    by_cases hw:HT.sIx vs.length 0 l=0∧HT.sIx vs.length vs.length u=vs.length
    · refine .inr (.inl ⟨p,vs,rfl,s1,hw,?_⟩)
      have e5:cutD xs l u=xs:=by unfold cutD;exact sO (by rw [d1.len];exact hw)
      rw [e5] at q
      obtain⟨F4,R4,X4,hF⟩:=R3.growT (aq.refl _) s1
      exact q _ _ _ (X13.trans X4) R4 (bo.mpr ⟨p,vs,rfl,hF,d1.mono X4.sf⟩)
    · refine .inl ⟨p,vs,rfl,s1,hw,fun t ht=>?_⟩
      obtain⟨R4,X4⟩:=R3.newT (vs:=jH vs l u) ht
      exact q _ _ _ (X13.trans X4) R4 (bo.mpr ⟨t,_,rfl,.inl (.inl ar),(qb d1 l u).mono X4.sf⟩)
end
section
variable{X:Cx}{K:PySem.W.Frag}
theorem gE{σ:L2.St}{H0 F H:Hp}{e:En}{x:Rv}{vs:List V}(h:cE K σ H0 F H e [x] vs):∃v,vs=[v]∧bD K σ H0 F H e x v:=by
  obtain⟨v,ws,rfl,h1,h2⟩:=h
  have h2':ws=[]:=h2
  subst h2'
  exact⟨v,rfl,h1⟩
theorem k8{σ:L2.St}{H0 F H:Hp}{e:En}{x y:Rv}{vs:List V}(h:cE K σ H0 F H e [x,y] vs):∃v u,vs=[v,u]∧bD K σ H0 F H e x v∧bD K σ H0 F H e y u:=by
  obtain⟨v,ws,rfl,h1,h2⟩:=h
  obtain⟨u,rfl,h3⟩:=gE h2
  exact⟨v,u,rfl,h1,h3⟩
def g1(g:En→Rv→Option Rv):En→List Rv→Option Rv:=fun e xs=>match xs with
  | [x]=>g e x
  | _=>none
def g2(g:En→Rv→Rv→Option Rv):En→List Rv→Option Rv:=fun e xs=>match xs with
  | [x,y]=>g e x y
  | _=>none
theorem gg{r:List V→Hp→VK→Prop}{g:En→Rv→Option Rv}(h:Av K (fun v H Q=>r [v] H Q) g):dF K r (g1 g):=by
  intro σ H0 F H e xs z vs Q R A hg q
  unfold g1 at hg
  match xs,hg with
  | [x],hg=>
    obtain⟨v,rfl,h1⟩:=gE A
    exact h σ H0 F H e x z v Q R h1 hg q
theorem nQ{r:List V→Hp→VK→Prop}{g:En→Rv→Rv→Option Rv}(h:et K (fun v u H Q=>r [v,u] H Q) g):dF K r (g2 g):=by
  intro σ H0 F H e xs z vs Q R A hg q
  unfold g2 at hg
  match xs,hg with
  | [x,y],hg=>
    obtain⟨v,u,rfl,h1,h2⟩:=k8 A
    exact h σ H0 F H e x y z v u Q R h1 h2 hg q
def cC:En→Rv→Option Rv:=fun e x=>(dD e x).map fun p=>.d (.int p.2.length)
theorem zc:dF K (fun xs H Q=>∃p ys,xs=[.ref p]∧(er K H p ys∨bR K H p ys)∧Q (.int ys.length) H) (g1 cC):=gg fun σ H0 F H e x z v Q R A hg q=>by
  obtain⟨⟨b,xs⟩,h5,h4⟩:=Option.map_eq_some_iff.mp hg
  obtain⟨p,vs,rfl,d1,s1⟩:=eG R A h5
  cases h4
  refine⟨p,vs,rfl,?_,?_⟩
  · cases b with
    | true=>exact .inl s1
    | false=>exact .inr s1
  · rw [←d1.len]
    exact q F H _ (cK.refl _ _ _ _) R kZ
def oY:En→Rv→Option Rv:=fun _ x=>(bJ x).map fun i=>.d (.int (if i < 0 then -i else i))
theorem yL:dF K (fun xs H Q=>∃i,xs=[.int i]∧Q (.int (if i < 0 then -i else i)) H) (g1 oY):=gg fun σ H0 F H e x z v Q R A hg q=>by
  obtain⟨i,h5,h4⟩:=Option.map_eq_some_iff.mp hg
  cases h4
  exact⟨i,by rw [bV A h5],q F H _ (cK.refl _ _ _ _) R kZ⟩
def oZ:En→Rv→Option Rv:=fun _ x=>match x with
  | .d (.int i)=>some (.d (.int i))
  | .d (.bool k)=>some (.d (.int (if k then 1 else 0)))
  | _=>none
theorem y4:dF K (fun xs H Q=>(∃i,xs=[.int i]∧Q (.int i) H)∨∃k,xs=[.bl k]∧Q (.int (if k then 1 else 0)) H) (g1 oZ):=gg fun σ H0 F H e x z v Q R A hg q=>by
  unfold oZ at hg
  split at hg
  · cases hg
    exact .inl ⟨_,by rw [ba.mp (show DA K F (.int _) v from A)],q F H _ (cK.refl _ _ _ _) R kZ⟩
  · cases hg
    exact .inr ⟨_,by rw [cv.mp (show DA K F (.bool _) v from A)],q F H _ (cK.refl _ _ _ _) R kZ⟩
  · cases hg
def qt:=gI (fun _ _=>true) fun i j=>.int (if j < i then j else i)
def o5:=gI (fun _ _=>true) fun i j=>.int (if j > i then j else i)
theorem zi:dF K (fun xs H Q=>∃i j,xs=[.int i,.int j]∧Q (.int (if j < i then j else i)) H) (g2 qt):=nQ fun σ H0 F H e x y z v u Q R A B hg q=>by
  obtain⟨i,j,h1,h2,h3⟩:=fY (K:=K) (g:=fun i j=>.int (if j < i then j else i)) (fun _ _ _=>ba.mpr rfl) σ H0 F H e x y z v u Q R A B hg q
  exact⟨i,j,by rw [h1,h2],h3⟩
theorem zh:dF K (fun xs H Q=>∃i j,xs=[.int i,.int j]∧Q (.int (if j > i then j else i)) H) (g2 o5):=nQ fun σ H0 F H e x y z v u Q R A B hg q=>by
  obtain⟨i,j,h1,h2,h3⟩:=fY (K:=K) (g:=fun i j=>.int (if j > i then j else i)) (fun _ _ _=>ba.mpr rfl) σ H0 F H e x y z v u Q R A B hg q
  exact⟨i,j,by rw [h1,h2],h3⟩
def bQ:En→Rv→Option Rv:=fun e x=>(dD e x).map fun p=>.d (.tuple p.2)
theorem uR:dF K (fun xs H Q=>∃p ys,xs=[.ref p]∧((er K H p ys∧∀l,H l=none→Q (.ref l) (aQ H l (.tup ys)))∨(bR K H p ys∧Q (.ref p) H))) (g1 bQ):=gg fun σ H0 F H e x z v Q R A hg q=>by
  obtain⟨⟨b,xs⟩,h5,h4⟩:=Option.map_eq_some_iff.mp hg
  obtain⟨p,vs,rfl,d1,s1⟩:=eG R A h5
  cases h4
  refine⟨p,vs,rfl,?_⟩
  cases b with
  | true=>
    refine .inl ⟨s1,fun t ht=>?_⟩
    obtain⟨R4,X4⟩:=R.newT (vs:=vs) ht
    exact q _ _ _ X4 R4 (bo.mpr ⟨t,_,rfl,.inl (.inl ar),d1.mono X4.sf⟩)
  | false=>
    obtain⟨F4,R4,X4,hF⟩:=R.growT (aq.refl _) s1
    exact .inr ⟨s1,q _ _ _ X4 R4 (bo.mpr ⟨p,vs,rfl,hF,d1.mono X4.sf⟩)⟩
mutual
def bi:PyData→Bool
  | .tuple ds=>aS ds
  | .list _=>false
  | .dict _=>false
  | _=>true
def aS:List PyData→Bool
  | []=>true
  | d::r=>bi d&&aS r
end
mutual
def dt:PyData→Bool
  | .list _=>false
  | .tuple ds=>cQ ds
  | _=>true
def cQ:List PyData→Bool
  | []=>true
  | d::r=>dt d&&cQ r
end
theorem je{h:Heap}:∀{m:List (Int × fJ)} {es:List DictEntry} {vs:List (dB × Value)} {P:Program} {w:World},KV (m.map fun p=>((Sum.inl p.1:dB),p.2.toV)) vs→Pairs (bN P w) es vs→
    ReadsAll h (es.map (·.key)) (m.map fun p=>PyData.int p.1) []∧ReadsAll h (es.map (·.val)) (m.map fun p=>p.2.toD) []
  | [],es,vs,P,w,r,q=>by
    cases r
    cases q
    exact⟨.nil,.nil⟩
  | p::m,es,vs,P,w,r,q=>by
    rw [List.map_cons] at r
    cases r with
    | @cons a b as bs h1 t=>
      cases q with
      | @cons e kv es' kvs' h2 h3 h4=>
        obtain⟨z1,z2⟩:=h1
        obtain⟨c1,c2⟩:=je t h4
        have k1:i4 (Sum.inl p.1) e.key=true:=by
          have:b.1=Sum.inl p.1:=z1.symm
          rw [←this];exact h2
        rcases a_ k1 with ⟨i,t',e1,e2⟩ | ⟨x,t',e1,e2⟩
        · cases e1
          refine⟨?_,?_⟩
          · simp only [List.map_cons,e2]
            exact ReadsAll.cons (as:=[]) (bs:=[]) (.int p.1 t') c1
          · simp only [List.map_cons,h3]
            refine ReadsAll.cons (as:=[]) (bs:=[]) ?_ c2
            obtain⟨k,at_⟩:=p
            cases at_ with
            | vi n=>obtain⟨tk,z2⟩:=z2;rw [z2];exact .int n tk
            | vb x=>rw [show b.2=Value.bool x from z2];exact .bool x
            | vn=>rw [show b.2=Value.none from z2];exact .none
        · cases e1
mutual
theorem DA.readsR{X:Cx}{pins:List (Addr × Obj)}{σ:L2.St}{H:Hp}{s:Shared}(I:av X pins σ H s):∀{d:PyData} {v:V} {u:Value},DA X.K H d v→aZ v u→∃as,Reads s.heap u d as∧(dt d=true→sysModules∉as)
  | .none,_,_,q,r=>by
    simp only [DA] at q;subst q;cases r;exact⟨_,.none,fun _=>by simp⟩
  | .bool b,_,_,q,r=>by
    simp only [DA] at q;subst q;cases r;exact⟨_,.bool b,fun _=>by simp⟩
  | .int i,_,_,q,r=>by
    simp only [DA] at q;subst q;obtain⟨t,rfl⟩:=r;exact⟨_,.int i t,fun _=>by simp⟩
  | .str x,_,_,q,r=>by
    simp only [DA] at q;subst q;obtain⟨t,rfl⟩:=r;exact⟨_,.str x t,fun _=>by simp⟩
  | .tuple ds,_,_,q,r=>by
    simp only [DA] at q
    obtain⟨a,xs,e,hs,rr⟩:=q
    subst e;cases r
    obtain⟨its,rv,⟨o,ho,hc,n,hd⟩,hz⟩:=I.tuple hs
    obtain⟨as,q,z⟩:=ay.readsR I rr rv
    exact⟨_,.tuple ho hc hd q,fun c=>z (by simpa [dt] using c)⟩
  | .list ds,_,_,q,r=>by
    simp only [DA] at q
    obtain⟨a,xs,e,hs,rr⟩:=q
    subst e;cases r
    obtain⟨its,rv,ht,hz⟩:=I.list hs
    obtain⟨o,ho,hc,n,hd⟩:=ht.isList
    obtain⟨as,q,z⟩:=ay.readsR I rr rv
    exact⟨_,.list ho hc hd q,fun c=>by simp [dt] at c⟩
  | .dict kvs,_,_,q,r=>by
    simp only [DA] at q
    obtain⟨a,m,e,hs,rfl⟩:=q
    subst e;cases r
    obtain⟨_,hS,vs,kv,o,es,ep,ho,hx,hd,_,hp,_⟩:=(show bP X.prog X.w H s.heap a (.dK (m.map fun p=>(Sum.inl p.1,p.2.toV))) from I.hok a _ hs)
    obtain⟨c1,c2⟩:=je (h:=s.heap) kv hp
    refine⟨_,Reads.dict (as:=[]) (bs:=[]) ho hx.1 hd ?_ ?_,fun _=>?_⟩
    · rw [List.map_map];exact c1
    · rw [List.map_map];exact c2
    · have:a≠sysModules:=by simpa using hS
      simpa using this.symm
theorem ay.readsR{X:Cx}{pins:List (Addr × Obj)}{σ:L2.St}{H:Hp}{s:Shared}(I:av X pins σ H s):∀{ds:List PyData} {xs:List V} {us:List Value},ay X.K H ds xs→aC xs us→∃as,ReadsAll s.heap us ds as∧(cQ ds=true→sysModules∉as)
  | [],_,_,q,r=>by
    simp only [ay] at q;subst q;cases r;exact⟨_,.nil,fun _=>by simp⟩
  | d::ds,_,_,q,r=>by
    simp only [ay] at q
    obtain⟨x,rr,e,a,b⟩:=q
    subst e
    cases r with
    | cons p p'=>
      obtain⟨as,q1,z1⟩:=DA.readsR I a p
      obtain⟨bs,q2,z2⟩:=ay.readsR I b p'
      refine⟨_,.cons q1 q2,fun c=>?_⟩
      simp only [cQ,Bool.and_eq_true] at c
      intro z
      rcases List.mem_append.mp z with z | z
      · exact z1 c.1 z
      · exact z2 c.2 z
end
def gL(d:PyData):Bool:=(bi d || (!d.hasDict || dt d))&&d.showable&&decide (d.depth≤60)&&decide (d.shown.length≤sizeLine)
def iu:En→Rv→Option Rv:=fun _ x=>match x with
  | .d d=>if gL d=true then some (.d (.str d.shown)) else none
  | _=>none
def rR(K:PySem.W.Frag):List V→Hp→VK→Prop:=fun xs H Q=>∃x d,xs=[x]∧DA K H d x∧(d.hasDict=true→dt d=true)∧d.showable=true∧d.depth≤60∧d.shown.length≤sizeLine∧Q (.str d.shown) H
mutual
theorem eU:∀(d:PyData),bi d=true→d.hasDict=false
  | .none,_=>rfl
  | .bool _,_=>rfl
  | .int _,_=>rfl
  | .str _,_=>rfl
  | .tuple ds,h=>by simp only [PyData.hasDict];exact gr ds (by simpa [bi] using h)
  | .list ds,h=>by simp [bi] at h
  | .dict _,h=>by simp [bi] at h
theorem gr:∀(ds:List PyData),aS ds=true→PyData.hasDictAll ds=false
  | [],_=>rfl
  | d::r,h=>by
    simp only [aS,Bool.and_eq_true] at h
    simp only [PyData.hasDictAll,eU d h.1,gr r h.2,Bool.or_self]
end
theorem mQ{X:Cx}{k:Nat}(hr:cF k X.A):dG X (.builtin "repr") (rR X.K):=by
  intro pins s σ H xs us Q I r h
  obtain⟨x,d,rfl,ha,hdl,hsh,hdp,hsz,q⟩:=h
  obtain⟨u,rfl,ru⟩:∃u,us=[u]∧aZ x u:=by
    cases r with
    | cons p p'=>cases p';exact⟨_,rfl,p⟩
  have hun:=hr.un
  obtain⟨as,rd,hm⟩:=DA.readsR I ha ru
  have fin:∀a,u=.ref a→wpAny (model X.prog X.w) X.A (call (.builtin "repr") [u]) (EP X pins σ Q) X.xe s:=fun a e=>by
    subst e
    exact repr_of_reads' rd hsh (fun z=>hm (hdl z)) hr.gd (by lia) (fun _ _ e=>e) (fun h' u tk hk=>⟨.str _,H,I.kept hk,⟨_,rfl⟩,q⟩) hsz
  cases d with
  | none=>simp only [DA] at ha;subst ha;cases ru;exact P.repr_of_none ⟨.str _,H,I.tok _,⟨_,rfl⟩,q⟩
  | bool b=>simp only [DA] at ha;subst ha;cases ru;exact P.repr_of_bool ⟨.str _,H,I.tok _,⟨_,rfl⟩,q⟩
  | int i=>
    simp only [DA] at ha;subst ha;obtain⟨t,rfl⟩:=ru
    simp only [PyData.showable,decide_eq_true_eq] at hsh
    exact P.repr_of_int hsh ⟨.str _,H,I.tok _,⟨_,rfl⟩,q⟩
  | str y=>simp only [DA] at ha;subst ha;obtain⟨t,rfl⟩:=ru;exact P.repr_of_str ⟨.str _,H,I.tok _,⟨_,rfl⟩,q⟩ hsz
  | list ds=>obtain⟨a,_,e,_⟩:=bG.mp ha;subst e;exact fin a ru
  | dict ds=>simp only [DA] at ha;obtain⟨a,_,e,_⟩:=ha;subst e;exact fin a ru
  | tuple ds=>obtain⟨a,_,e,_⟩:=bo.mp ha;subst e;exact fin a ru
theorem x8:dF K (rR K) (g1 iu):=gg fun σ H0 F H e x z v Q R A hg q=>by
  unfold iu at hg
  split at hg
  case h_2=>cases hg
  case h_1 d=>
  split at hg
  case isFalse=>cases hg
  case isTrue hl=>
  cases hg
  unfold gL at hl
  rw [Bool.and_eq_true,Bool.and_eq_true,Bool.and_eq_true,decide_eq_true_iff,decide_eq_true_iff] at hl
  refine⟨v,d,rfl,DA.mono R.sm A,fun z=>?_,hl.1.1.2,hl.1.2,hl.2,q F H _ (cK.refl _ _ _ _) R ((mS (K:=K) (F:=F)).mpr rfl)⟩
  have c:=hl.1.1.1
  cases hf:bi d with
  | true=>rw [eU d hf] at z;cases z
  | false=>rw [hf,z] at c;simpa using c
end
end L2
namespace L2
open PySem PySem.Spec PyProof.Rows
section
variable{K:PySem.W.Frag}{σ:L2.St}{H0 F H F' H':Hp}{e e':En}
theorem aJ.upd1(R:aJ K F H σ e){σ':L2.St}(i:Nat)(hl:σ'.length=e'.length)(hσ:∀j,j≠i→σ'[j]?=σ[j]?)(he:∀j,j≠i→e'[j]?=e[j]?)(sF:aq F F')(sm:aq F' H')(hf:∀j a,j≠i→Fp σ e H j a→F' a=none)
    (hh:∀j a o,j≠i→Fp σ e H j a→H a=some o→H' a=some o)(hd:∀x,e'[i]?=some (some (.d x))→∃v,σ'[i]?=some (some v)∧DA K F' x v)
    (ho:∀xs,e'[i]?=some (some (.l xs))→∃l vs,σ'[i]?=some (some (.ref l))∧F' l=none∧H' l=some (.lst vs)∧ay K F' xs vs)
    (hn:∀xss,e'[i]?=some (some (.n xss))→∃(l:Addr) (bs:List Addr),σ'[i]?=some (some (.ref l))∧F' l=none∧H' l=some (.lst (bs.map V.ref))∧bs.length=xss.length∧bs.Nodup∧l∉bs∧
      ∀(k:Nat) (b:Addr) (ys:List PyData),bs[k]?=some b→xss[k]?=some ys→F' b=none∧∃us,H' b=some (.lst us)∧ay K F' ys us)
    (hi:∀a j,j≠i→Fp σ' e' H' i a→¬Fp σ e H j a):aJ K F' H' σ' e'∧∀j a,j≠i→(Fp σ' e' H' j a↔ Fp σ e H j a):=by
  have fs:∀j a,j≠i→(Fp σ' e' H' j a↔ Fp σ e H j a):=by
    intro j a hj
    have key:∀xss l,e[j]?=some (some (.n xss))→σ[j]?=some (some (.ref l))→H' l=H l:=fun xss l h1 h2=>by
      obtain⟨l',bs,g1,g2,g3,_⟩:=R.nst j xss h1
      rw [h2] at g1;cases g1
      rw [g3]
      exact hh j l _ hj (.inr ⟨xss,l,bs,h1,h2,g3,.inl rfl⟩) g3
    unfold Fp
    rw [he j hj,hσ j hj]
    constructor
    · rintro(h1 | ⟨xss,l,bs,h1,h2,h3,h4⟩)
      · exact .inl h1
      · exact .inr ⟨xss,l,bs,h1,h2,by rw [←key xss l h1 h2];exact h3,h4⟩
    · rintro(h1 | ⟨xss,l,bs,h1,h2,h3,h4⟩)
      · exact .inl h1
      · exact .inr ⟨xss,l,bs,h1,h2,by rw [key xss l h1 h2];exact h3,h4⟩
  refine⟨⟨sm,hl,fun j x q=>?_,fun j xs q=>?_,fun j xss q=>?_,fun j k a q1 q2=>?_⟩,fs⟩
  · by_cases z:j=i
    · subst z;exact hd x q
    · rw [he j z] at q
      obtain⟨v,h1,h2⟩:=R.dat j x q
      exact⟨v,by rw [hσ j z];exact h1,DA.mono sF h2⟩
  · by_cases z:j=i
    · subst z;exact ho xs q
    · rw [he j z] at q
      obtain⟨l,vs,h1,h2,h3,h4⟩:=R.own j xs q
      have o:Fp σ e H j l:=.inl ⟨xs,q,h1⟩
      exact⟨l,vs,by rw [hσ j z];exact h1,hf j l z o,hh j l _ z o h3,h4.mono sF⟩
  · by_cases z:j=i
    · subst z;exact hn xss q
    · rw [he j z] at q
      obtain⟨l,bs,h1,h2,h3,h4,h5,h6,h7⟩:=R.nst j xss q
      have o:Fp σ e H j l:=.inr ⟨xss,l,bs,q,h1,h3,.inl rfl⟩
      refine⟨l,bs,by rw [hσ j z];exact h1,hf j l z o,hh j l _ z o h3,h4,h5,h6,fun k b ys g1 g2=>?_⟩
      obtain⟨c1,us,c2,c3⟩:=h7 k b ys g1 g2
      have ob:Fp σ e H j b:=.inr ⟨xss,l,bs,q,h1,h3,.inr (List.mem_of_getElem? g1)⟩
      exact⟨hf j b z ob,us,hh j b _ z ob c2,c3.mono sF⟩
  · by_cases zj:j=i
    · subst zj
      by_cases zk:k=j
      · exact zk.symm
      · exact absurd ((fs k a zk).mp q2) (hi a k zk q1)
    · by_cases zk:k=i
      · subst zk
        exact absurd ((fs j a zj).mp q1) (hi a j zj q2)
      · exact R.fp j k a ((fs j a zj).mp q1) ((fs k a zk).mp q2)
theorem aJ.putL(R:aJ K F H σ e){i:Nat}{xs ys:List PyData}{l:Addr}{vs:List V}(hi:e[i]?=some (some (.l xs)))(hl:σ[i]?=some (some (.ref l)))(hd:ay K F ys vs):
    aJ K F (aQ H l (.lst vs)) σ (e.set i (some (.l ys)))∧cK σ F H e F (aQ H l (.lst vs)) (e.set i (some (.l ys))):=by
  obtain⟨l',vs',h1,h2,h3,h4⟩:=R.own i xs hi
  rw [hl] at h1;cases h1
  have hlt:i < e.length:=(List.getElem?_eq_some_iff.mp hi).1
  have fi:Fp σ e H i l:=.inl ⟨xs,hi,hl⟩
  have gi:(e.set i (some (Sv.l ys)))[i]?=some (some (.l ys)):=List.getElem?_set_self hlt
  obtain⟨R',fs⟩:=R.upd1 (F':=F) (H':=aQ H l (.lst vs)) (e':=e.set i (some (.l ys))) i (by rw [List.length_set];exact R.len) (fun _ _=>rfl) (fun j hj=>List.getElem?_set_ne (Ne.symm hj)) (aq.refl F)
    (fun b o q=>by
      have z:b≠l:=fun z=>by rw [z,h2] at q;cases q
      rw [ap z];exact R.sm b o q)
    (fun j a _ q=>(R.fpAt q).1)
    (fun j a o hj q ha=>by
      have z:a≠l:=fun z=>hj (R.fp j i a q (by rw [z];exact fi))
      rw [ap z];exact ha)
    (fun x q=>by rw [gi] at q;cases q) (fun zs q=>by rw [gi] at q;cases q;exact⟨l,vs,hl,h2,ar,hd⟩) (fun xss q=>by rw [gi] at q;cases q)
    (fun a j hj q q2=>by
      rcases q with ⟨zs,_,q⟩ | ⟨xss,_,_,q,_⟩
      · rw [hl] at q;cases q
        exact hj (R.fp j i _ q2 fi)
      · rw [gi] at q;cases q)
  refine⟨R',⟨aq.refl _,fun a q=>?_,fun _ _ q _ _=>q,fun a ws q=>?_,fun a o q n=>?_,fun j=>?_,fun a ⟨j,q⟩=>?_⟩⟩
  · by_cases z:a=l
    · rw [z,ar] at q;cases q
    · rw [ap z] at q;exact q
  · by_cases z:a=l
    · rw [z];exact⟨vs,ar⟩
    · rw [ap z];exact⟨ws,q⟩
  · have z:a≠l:=fun z=>n ⟨i,by rw [z];exact fi⟩
    rw [ap z];exact q
  · by_cases z:j=i
    · subst z;rw [gi];exact⟨fun _=>⟨xs,hi⟩,fun _=>⟨ys,rfl⟩⟩
    · rw [List.getElem?_set_ne (Ne.symm z)]
  · by_cases z:j=i
    · subst z
      rcases q with ⟨zs,_,q⟩ | ⟨xss,_,_,q,_⟩
      · rw [hl] at q;cases q;exact .inl ⟨j,fi⟩
      · rw [gi] at q;cases q
    · exact .inl ⟨j,(fs j a z).mp q⟩
theorem aJ.setD(R:aJ K F H σ e)(i:Nat){x:PyData}{v:V}(h:DA K F x v):aJ K F H (σ.set i (some v)) (e.set i (some (.d x)))∧∀a,bK (σ.set i (some v)) (e.set i (some (.d x))) H a→bK σ e H a:=by
  have gi:∀s,(e.set i (some (Sv.d x)))[i]?=some (some s)→s=.d x∧i < e.length:=fun s q=>by
    have hlt:i < e.length:=by have:=(List.getElem?_eq_some_iff.mp q).1;simpa using this
    rw [List.getElem?_set_self hlt] at q
    exact⟨(Option.some.inj (Option.some.inj q)).symm,hlt⟩
  have nofp:∀a,¬Fp (σ.set i (some v)) (e.set i (some (.d x))) H i a:=fun a q=>by
    rcases q with ⟨zs,q,_⟩ | ⟨xss,_,_,q,_⟩
    · cases (gi _ q).1
    · cases (gi _ q).1
  obtain⟨R',fs⟩:=R.upd1 (F':=F) (H':=H) (σ':=σ.set i (some v)) (e':=e.set i (some (.d x))) i (by rw [List.length_set,List.length_set];exact R.len) (fun j hj=>List.getElem?_set_ne (Ne.symm hj)) (fun j hj=>List.getElem?_set_ne (Ne.symm hj)) (aq.refl F) R.sm
    (fun j a _ q=>(R.fpAt q).1) (fun j a o _ _ ha=>ha)
    (fun y q=>by
      obtain⟨z,hlt⟩:=gi _ q
      cases z
      exact⟨v,List.getElem?_set_self (by rw [R.len];exact hlt),h⟩)
    (fun zs q=>by cases (gi _ q).1) (fun xss q=>by cases (gi _ q).1) (fun a j hj q=>absurd q (nofp a))
  refine⟨R',fun a ⟨j,q⟩=>?_⟩
  by_cases z:j=i
  · subst z;exact absurd q (nofp a)
  · exact⟨j,(fs j a z).mp q⟩
theorem aJ.setL(R:aJ K F H σ e)(i:Nat){xs:List PyData}{l:Addr}{vs:List V}(h1:F l=none)(h2:H l=some (.lst vs))(h3:ay K F xs vs)(h4:¬bK σ e H l):aJ K F H (σ.set i (some (.ref l))) (e.set i (some (.l xs)))∧∀a,bK (σ.set i (some (.ref l))) (e.set i (some (.l xs))) H a→bK σ e H a∨a=l:=by
  have gi:∀s,(e.set i (some (Sv.l xs)))[i]?=some (some s)→s=.l xs∧i < e.length:=fun s q=>by
    have hlt:i < e.length:=by have:=(List.getElem?_eq_some_iff.mp q).1;simpa using this
    rw [List.getElem?_set_self hlt] at q
    exact⟨(Option.some.inj (Option.some.inj q)).symm,hlt⟩
  have onefp:∀a,Fp (σ.set i (some (.ref l))) (e.set i (some (.l xs))) H i a→a=l:=fun a q=>by
    rcases q with ⟨zs,q,q2⟩ | ⟨xss,_,_,q,_⟩
    · obtain⟨_,hlt⟩:=gi _ q
      rw [List.getElem?_set_self (by rw [R.len];exact hlt)] at q2
      cases q2;rfl
    · cases (gi _ q).1
  obtain⟨R',fs⟩:=R.upd1 (F':=F) (H':=H) (σ':=σ.set i (some (.ref l))) (e':=e.set i (some (.l xs))) i (by rw [List.length_set,List.length_set];exact R.len) (fun j hj=>List.getElem?_set_ne (Ne.symm hj)) (fun j hj=>List.getElem?_set_ne (Ne.symm hj)) (aq.refl F) R.sm
    (fun j a _ q=>(R.fpAt q).1) (fun j a o _ _ ha=>ha) (fun y q=>by cases (gi _ q).1)
    (fun zs q=>by
      obtain⟨z,hlt⟩:=gi _ q
      cases z
      exact⟨l,vs,List.getElem?_set_self (by rw [R.len];exact hlt),h1,h2,h3⟩)
    (fun xss q=>by cases (gi _ q).1) (fun a j hj q q2=>h4 ⟨j,by rw [onefp a q] at q2;exact q2⟩)
  refine⟨R',fun a ⟨j,q⟩=>?_⟩
  by_cases z:j=i
  · subst z;exact .inr (onefp a q)
  · exact .inl ⟨j,(fs j a z).mp q⟩
end
section
variable{X:Cx}{K:PySem.W.Frag}{o a:Expr}{es:List Expr}{fo:FE}{fs:FA}{name:Str}{apos cpos:Pos}{id:String}
def nH(K:PySem.W.Frag)(r:V→List V→Hp→VK→Prop)(g:List PyData→List PyData→Option (PyData × List PyData)):Prop:=
  ∀(F H:Hp) (l:Addr) (xs ys ds:List PyData) (z:PyData) (vs us:List V) (Q:VK),F l=none→aq F H→H l=some (.lst vs)→ay K F xs vs→ay K F ds us→g xs ds=some (z,ys)→
    (∀w ws,DA K F z w→ay K F ys ws→Q w (aQ H l (.lst ws)))→r (.ref l) us H Q
def cX(g:List PyData→List PyData→Option (PyData × List PyData))(fo:FE)(fs:FA):FE:=fun e=>(fo e).bind fun p=>match p.1 with
  | .s i=>(fs p.2).bind fun q=>(gq q.1).bind fun ds=>match q.2[i]? with
    | some (some (.l xs))=>(g xs ds).map fun z=>(.d z.1,q.2.set i (some (.l z.2)))
    | _=>none
  | _=>none
theorem sr{r:V→List V→Hp→VK→Prop}{g:List PyData→List PyData→Option (PyData × List PyData)}(hm:nH K r g){σ:L2.St}{H:Hp}{Q:VK}(h:fE K (cX g fo fs) σ H Q):Bo K "list" r (fE K fo) (fA K fs) σ H Q:=by
  obtain⟨F,e,z,e',R,hf,q⟩:=h
  unfold cX at hf
  obtain⟨⟨x,e1⟩,h1,hf⟩:=Option.bind_eq_some_iff.mp hf
  match x,h1,hf with
  | .s i,h1,hf=>
  dsimp only at hf
  obtain⟨⟨rs,e2⟩,h2,hf⟩:=Option.bind_eq_some_iff.mp hf
  obtain⟨ds,h3,hf⟩:=Option.bind_eq_some_iff.mp hf
  refine⟨F,e,_,e1,R,h1,fun F1 H1 v X1 R1 A1=>?_⟩
  obtain⟨g1,zs,g2⟩:=A1
  obtain⟨l,vs,c1,c2,c3,c4⟩:=R1.own i zs g2
  rw [g1] at c1;cases c1
  refine⟨.inl ⟨rfl,vs,.inl (.inl c3)⟩,F1,e1,rs,e2,R1,h2,fun F2 H2 us X2 R2 A2=>?_⟩
  match h4:e2[i]?,hf with
  | some (some (.l xs)),hf=>
  dsimp only at hf
  obtain⟨⟨zd,ys⟩,h5,hf⟩:=Option.map_eq_some_iff.mp hf
  cases hf
  obtain⟨F3,R3,s3,d3,f3⟩:=cE.frozen R2 A2 h3
  obtain⟨l',vs',k1,k2,k3,k4⟩:=R3.own i xs h4
  rw [g1] at k1;cases k1
  refine hm F3 H2 l xs ys ds zd vs' us Q k2 R3.sm k3 k4 d3 h5 fun w ws hw hws=>?_
  obtain⟨R4,X4⟩:=R3.putL h4 g1 hws
  exact q _ _ _ ((X1.trans (X2.frz s3 f3)).trans X4) R4 hw
theorem vL{r:V→List V→Hp→VK→Prop}{g:List PyData→List PyData→Option (PyData × List PyData)}(slot:Slot "list" name id)(hty:typeOf (.builtin id)=pure (.type "method_descriptor"))(hm:Be X id r)(hf:nH X.K r g)(ho:PE X o (fE X.K fo))(ha:PA X (a::es) (fA X.K fs))
    (hbase:attributeBase o name X.env (eval o X.env)=eval o X.env)
    (hfew:((backTo cpos (starEach (a::es) X.env)).all (fun x=> !x.1)&&(backToKw cpos (keywordEach [] X.env)).all (fun x=>x.1.isSome)
      &&decide ((a::es).length+([]:List Keyword).length+(if ([]:List Keyword).isEmpty then 0 else 1) < 30))=true)
    (hline:(apos.endLine==cpos.line)=true)(hs:starEach (a::es) X.env=(false,eval a X.env)::starEach es X.env)(hplain:(backTo cpos (starEach es X.env)).any (·.1)=false):
    PE X (.Call (.Attribute o name apos) (a::es) [] cpos) (fE X.K (cX g fo fs)):=(qZ PySem.F.plainAttrs_list slot hty hm ho ha hbase hfew hline hs hplain).mono fun _ _ _ h=>sr hf h
def bM:List PyData→List PyData→Option (PyData × List PyData):=fun xs ds=>match ds with
  | [d]=>if xs.length < 1000000 then some (.none,xs++[d]) else none
  | _=>none
theorem pY:nH K oz bM:=by
  intro F H l xs ys ds z vs us Q hF sm hl d1 d2 hg q
  unfold bM at hg
  match ds,hg,d2 with
  | [d],hg,d2=>
    simp only [ay] at d2
    obtain⟨w,r,rfl,hw,rfl⟩:=d2
    dsimp only at hg
    split at hg
    case isFalse=>cases hg
    case isTrue hlt=>
    cases hg
    have:=d1.len
    have sl:sizeLine=16777216:=sizeLine_eq
    exact⟨l,vs,w,rfl,rfl,hl,by lia,q _ _ (dI.mpr rfl) (d1.append (ay.one hw))⟩
def zg:List PyData→List PyData→Option (PyData × List PyData):=fun xs ds=>match ds with
  | []=>(xs[xs.length - 1]?).map fun d=>(d,xs.dropLast)
  | _=>none
def hZ:List PyData→List PyData→Option (PyData × List PyData):=fun xs ds=>match ds with
  | [.int i]=>if 0≤i∧i < 1000000000 then(xs[i.toNat]?).map fun d=>(d,xs.eraseIdx i.toNat) else none
  | _=>none
theorem ug:nH K rP hZ:=by
  intro F H l xs ys ds z vs us Q hF sm hl d1 d2 hg q
  unfold hZ at hg
  match ds,hg,d2 with
  | [.int i],hg,d2=>
    simp only [ay,DA] at d2
    obtain⟨w,r,rfl,rfl,rfl⟩:=d2
    dsimp only at hg
    split at hg
    case isFalse=>cases hg
    case isTrue hlt=>
    obtain⟨d,h1,h2⟩:=Option.map_eq_some_iff.mp hg
    cases h2
    obtain⟨v,g1,g2⟩:=d1.get h1
    have hlt2:i.toNat < vs.length:=(List.getElem?_eq_some_iff.mp g1).1
    exact⟨l,vs,i,i.toNat,v,rfl,rfl,hl,by lia,by lia,seqIndex_of hlt.1 (by lia),g1,q _ _ g2 (d1.erase _)⟩
end
end L2
namespace L2
open PySem PySem.Spec PyProof.Rows
inductive Fl where
  | nx (e:En)
  | bk (e:En)
  | ct (e:En)
  | rt (r:Rv) (e:En)
abbrev FS:=En→Option Fl
structure bS (W:List Nat) (σ:L2.St) (F H:Hp) (e:En) (σ':L2.St) (F' H':Hp) (e':En):Prop where
  sf:aq F F'
  dom:∀a,H' a=none→H a=none
  fr:∀a vs,F a=none→H a=some (.lst vs)→¬bK σ e H a→F' a=none
  lst:∀a vs,H a=some (.lst vs)→∃vs',H' a=some (.lst vs')
  tmp:∀a o,H a=some o→¬bK σ e H a→H' a=some o
  own:∀a,bK σ' e' H' a→bK σ e H a∨H a=none
  wr:∀j,j∉W→σ'[j]?=σ[j]?
section
variable{K:PySem.W.Frag}{W W1 W2:List Nat}{σ σ1 σ2 σ':L2.St}{H0 F H F1 H1 F2 H2 F' H':Hp}{e e1 e2 e':En}
theorem bS.refl:bS W σ F H e σ F H e:=⟨aq.refl _,fun _ h=>h,fun _ _ h _ _=>h,fun _ vs h=>⟨vs,h⟩,fun _ _ h _=>h,fun _ h=>.inl h,fun _ _=>rfl⟩
theorem cK.s(x:cK σ F H e F' H' e'):bS W σ F H e σ F' H' e':=⟨x.sf,x.dom,x.fr,x.lst,x.tmp,x.ow,fun _ _=>rfl⟩
theorem bS.trans(x:bS W σ F H e σ1 F1 H1 e1)(y:bS W σ1 F1 H1 e1 σ2 F2 H2 e2):bS W σ F H e σ2 F2 H2 e2:=
  ⟨x.sf.trans y.sf,fun a h=>x.dom a (y.dom a h),fun a vs h n no=>let ⟨vs',q⟩:=x.lst a vs n;y.fr a vs' (x.fr a vs h n no) q (fun z=>(x.own a z).elim no fun z=>by rw [n] at z;cases z),fun a vs h=>let ⟨vs',q⟩:=x.lst a vs h;y.lst a vs' q,
    fun a o h n=>y.tmp a o (x.tmp a o h n) (fun z=>(x.own a z).elim n fun z=>by rw [h] at z;cases z),
    fun a h=>(y.own a h).elim (x.own a) (fun z=>.inr (x.dom a z)),
    fun j h=>(y.wr j h).trans (x.wr j h)⟩
theorem bS.mono(x:bS W1 σ F H e σ' F' H' e')(h:∀j,j∈W1→j∈W):bS W σ F H e σ' F' H' e':=⟨x.sf,x.dom,x.fr,x.lst,x.tmp,x.own,fun j n=>x.wr j fun z=>n (h j z)⟩
end
def iS(K:PySem.W.Frag)(W:List Nat)(σ:L2.St)(F H:Hp)(e:En)(D:mH):Fl→Prop
  | .nx e'=>∀F' H' σ',bS W σ F H e σ' F' H' e'→aJ K F' H' σ' e'→D.nx σ' H'
  | .bk e'=>∀F' H' σ',bS W σ F H e σ' F' H' e'→aJ K F' H' σ' e'→D.bk σ' H'
  | .ct e'=>∀F' H' σ',bS W σ F H e σ' F' H' e'→aJ K F' H' σ' e'→D.ct σ' H'
  | .rt r e'=>∀F' H' σ' v,bS W σ F H e σ' F' H' e'→aJ K F' H' σ' e'→bD K σ' H F' H' e' r v→D.rt v H'
def fS(K:PySem.W.Frag)(f:FS)(W:List Nat):TS:=fun D σ H=>∃F e fl,aJ K F H σ e∧f e=some fl∧iS K W σ F H e D fl
theorem PS.mono{X:Cx}{st:Stmt}{t t':TS}(h:PS X st t)(m:∀D σ H,t' D σ H→t D σ H):PS X st t':=fun pins s σ H D I q=>h pins s σ H D I (m D σ H q)
theorem iB.mono{X:Cx}{st:List Stmt}{t t':TS}(h:iB X st t)(m:∀D σ H,t' D σ H→t D σ H):iB X st t':=fun pins s σ H D I q=>h pins s σ H D I (m D σ H q)
theorem iS.later{K:PySem.W.Frag}{W W1 W2:List Nat}{σ σ1:L2.St}{F H F1 H1:Hp}{e e1:En}{D:mH}{fl:Fl}(h:iS K W σ F H e D fl)(x:bS W1 σ F H e σ1 F1 H1 e1)(h1:∀j,j∈W1→j∈W)(h2:∀j,j∈W2→j∈W):iS K W2 σ1 F1 H1 e1 D fl:=by
  cases fl with
  | nx e'=>exact fun F' H' σ' y R=>h F' H' σ' ((x.mono h1).trans (y.mono h2)) R
  | bk e'=>exact fun F' H' σ' y R=>h F' H' σ' ((x.mono h1).trans (y.mono h2)) R
  | ct e'=>exact fun F' H' σ' y R=>h F' H' σ' ((x.mono h1).trans (y.mono h2)) R
  | rt r e'=>exact fun F' H' σ' v y R A=>h F' H' σ' v ((x.mono h1).trans (y.mono h2)) R (A.weak x.dom)
section
variable{X:Cx}{K:PySem.W.Frag}{W W1 W2:List Nat}{st:Stmt}{eM:List Stmt}{f g:FS}{a b:Expr}{fa:FE}{ft:FT}{pos:Pos}
def eZ:FS:=fun e=>some (.nx e)
def aH(f g:FS):FS:=fun e=>(f e).bind fun fl=>match fl with
  | .nx e1=>g e1
  | fl=>some fl
theorem bO:iB X [] (fS K eZ []):=ui.mono fun D σ H h=>by
  obtain⟨F,e,fl,R,hf,q⟩:=h
  cases hf
  exact q F H σ bS.refl R
theorem ag(h1:PS X st (fS K f W1))(h2:iB X eM (fS K g W2)):iB X (st::eM) (fS K (aH f g) (W1++W2)):=(rB h1 h2).mono fun D σ H h=>by
  obtain⟨F,e,fl,R,hf,q⟩:=h
  unfold aH at hf
  obtain⟨fl1,h1,hf⟩:=Option.bind_eq_some_iff.mp hf
  have s1:∀j,j∈W1→j∈W1++W2:=fun j h=>List.mem_append.mpr (.inl h)
  have s2:∀j,j∈W2→j∈W1++W2:=fun j h=>List.mem_append.mpr (.inr h)
  refine⟨F,e,fl1,R,h1,?_⟩
  cases fl1 with
  | nx e1=>exact fun F' H' σ' x R'=>⟨F',e1,fl,R',hf,q.later x s1 s2⟩
  | bk e1=>cases hf;exact fun F' H' σ' x R'=>q F' H' σ' (x.mono s1) R'
  | ct e1=>cases hf;exact fun F' H' σ' x R'=>q F' H' σ' (x.mono s1) R'
  | rt r e1=>cases hf;exact fun F' H' σ' v x R' A=>q F' H' σ' v (x.mono s1) R' A
theorem au(h1:PS X st (fS K f W)):iB X [st] (fS K f W):=uj h1
def eg(fa:FE):FS:=fun e=>(fa e).map fun p=>.nx p.2
theorem c_(he:PE X a (fE K fa))(hs:swapsWith a none pos.line X.env=pure false):PS X (.Expr a pos) (fS K (eg fa) []):=(uh he hs).mono fun D σ H h=>by
  obtain⟨F,e,fl,R,hf,q⟩:=h
  obtain⟨⟨x,e1⟩,h1,hf⟩:=Option.map_eq_some_iff.mp hf
  cases hf
  exact⟨F,e,x,e1,R,h1,fun F1 H1 v X1 R1 A1=>q F1 H1 σ X1.s R1⟩
def cD(fa:FE):FS:=fun e=>(fa e).map fun p=>.rt p.1 p.2
theorem aY(he:PE X a (fE K fa)):PS X (.Return (some a) pos) (fS K (cD fa) []):=(xI he).mono fun D σ H h=>by
  obtain⟨F,e,fl,R,hf,q⟩:=h
  obtain⟨⟨x,e1⟩,h1,hf⟩:=Option.map_eq_some_iff.mp hf
  cases hf
  exact⟨F,e,x,e1,R,h1,fun F1 H1 v X1 R1 A1=>q F1 H1 σ v X1.s R1 A1⟩
def jh(ft:FT)(f g:FS):FS:=fun e=>(ft e).bind fun p=>if p.1=true then f p.2 else g p.2
theorem dO{c:Expr}{bs cs:List Stmt}(hc:PT X c (fT K ft))(ha:iB X bs (fS K f W1))(hb:iB X cs (fS K g W2)):PS X (.If c bs cs pos) (fS K (jh ft f g) (W1++W2)):=(zx hc ha hb).mono fun D σ H h=>by
  obtain⟨F,e,fl,R,hf,q⟩:=h
  unfold jh at hf
  obtain⟨⟨x,e1⟩,h1,hf⟩:=Option.bind_eq_some_iff.mp hf
  refine⟨F,e,x,e1,R,h1,fun F1 H1 X1 R1=>?_⟩
  cases x with
  | true=>exact⟨F1,e1,fl,R1,hf,q.later (W1:=[]) X1.s (fun j h=>by cases h) fun j h=>List.mem_append.mpr (.inl h)⟩
  | false=>exact⟨F1,e1,fl,R1,hf,q.later (W1:=[]) X1.s (fun j h=>by cases h) fun j h=>List.mem_append.mpr (.inr h)⟩
def rD(i:Nat)(r:Rv)(e:En):Option En:=match r with
  | .d x=>some (e.set i (some (.d x)))
  | .l xs=>some (e.set i (some (.l xs)))
  | .s _=>none
theorem rE{σ:L2.St}{H F H1 F1:Hp}{e e1 e2:En}{i:Nat}{r:Rv}{v:V}(R:aJ K F H σ e)(X1:cK σ F H e F1 H1 e1)(R1:aJ K F1 H1 σ e1)(A1:bD K σ H F1 H1 e1 r v)(h:rD i r e1=some e2):
    bS [i] σ F H e (σ.set i (some v)) F1 H1 e2∧aJ K F1 H1 (σ.set i (some v)) e2:=by
  have wr:∀j,j∉[i]→(σ.set i (some v))[j]?=σ[j]?:=fun j n=>List.getElem?_set_ne (fun z=>n (by simp [z]))
  cases r with
  | d x=>
    cases h
    obtain⟨R2,o2⟩:=R1.setD i A1
    exact⟨⟨X1.sf,X1.dom,X1.fr,X1.lst,X1.tmp,fun a h=>X1.ow a (o2 a h),wr⟩,R2⟩
  | l xs=>
    cases h
    obtain⟨l,vs,rfl,h1,h2,h3,h4,h5⟩:=A1
    obtain⟨R2,o2⟩:=R1.setL i h2 h3 h4 h5
    refine⟨⟨X1.sf,X1.dom,X1.fr,X1.lst,X1.tmp,fun a h=>?_,wr⟩,R2⟩
    rcases o2 a h with z | z
    · exact X1.ow a z
    · exact .inr (by rw [z];exact h1)
  | s j=>cases h
def a9(i:Nat)(fa:FE):FS:=fun e=>(fa e).bind fun p=>(rD i p.1 p.2).map .nx
theorem aF{i:Nat}{x:Str}{pos':Pos}(hN:X.N.Nodup)(hi:X.N[i]?=some x)(hx:v_ X.env.scope x)(he:PE X a (fE K fa))(hs:swapsWith a (some (.Name x pos')) pos.line X.env=pure false)(hf:X.fn x=true∨X.env.scope.names.lookup x=some .local):
    PS X (.Assign [.Name x pos'] a pos) (fS K (a9 i fa) [i]):=(rq hN hi hx he hs hf).mono fun D σ H h=>by
  obtain⟨F,e,fl,R,hf,q⟩:=h
  unfold a9 at hf
  obtain⟨⟨r,e1⟩,h1,hf⟩:=Option.bind_eq_some_iff.mp hf
  obtain⟨e2,h2,hf⟩:=Option.map_eq_some_iff.mp hf
  cases hf
  refine⟨F,e,r,e1,R,h1,fun F1 H1 v X1 R1 A1=>?_⟩
  obtain⟨x,R2⟩:=rE R X1 R1 A1 h2
  exact q F1 H1 _ x R2
abbrev FG:=PyData→En→Option En
def fG(K:PySem.W.Frag)(g:FG)(W:List Nat):TG:=fun v σ H Q=>∃F e x e',aJ K F H σ e∧DA K F x v∧g x e=some e'∧∀σ',bS W σ F H e σ' F H e'→aJ K F H σ' e'→Q σ' H
abbrev u_:=List PyData→En→Option En
def Ag(K:PySem.W.Frag)(g:u_)(W:List Nat):sA:=fun vs σ H Q=>∃F e xs e',aJ K F H σ e∧ay K F xs vs∧g xs e=some e'∧∀σ',bS W σ F H e σ' F H e'→aJ K F H σ' e'→Q σ' H
theorem PG.mono{tg:Expr}{t t':TG}(h:PG X tg t)(m:∀v σ H Q,t' v σ H Q→t v σ H Q):PG X tg t':=fun pins s σ H v u Q I r q=>h pins s σ H v u Q I r (m v σ H Q q)
theorem pR.mono{tg:List Expr}{t t':sA}(h:pR X tg t)(m:∀v σ H Q,t' v σ H Q→t v σ H Q):pR X tg t':=fun pins s σ H v u Q I r q=>h pins s σ H v u Q I r (m v σ H Q q)
def ah(i:Nat):FG:=fun x e=>some (e.set i (some (.d x)))
def bj:u_:=fun xs e=>match xs with
  | []=>some e
  | _=>none
def aw(g:FG)(gs:u_):u_:=fun xs e=>match xs with
  | x::r=>(g x e).bind fun e1=>gs r e1
  | _=>none
def bB(gs:u_):FG:=fun x e=>match x with
  | .tuple xs=>gs xs e
  | _=>none
theorem aI{i:Nat}{x:Str}(hN:X.N.Nodup)(hi:X.N[i]?=some x)(hx:v_ X.env.scope x)(hf:X.fn x=true∨X.env.scope.names.lookup x=some .local):PG X (.Name x pos) (fG K (ah i) [i]):=(t9 hN hi hx hf).mono fun v σ H Q h=>by
  obtain⟨F,e,x,e',R,hx,hg,q⟩:=h
  cases hg
  obtain⟨R2,o2⟩:=R.setD i hx
  exact q _ ⟨aq.refl _,fun _ h=>h,fun _ _ h _ _=>h,fun _ vs h=>⟨vs,h⟩,fun _ _ h _=>h,fun a h=>.inl (o2 a h),fun j n=>List.getElem?_set_ne (fun z=>n (by simp [z]))⟩ R2
theorem fB:pR X [] (Ag K bj []):=ua.mono fun v σ H Q h=>by
  obtain⟨F,e,x,e',R,hx,hg,q⟩:=h
  unfold bj at hg
  split at hg
  · cases hg
    simp only [ay] at hx
    exact⟨hx,q σ bS.refl R⟩
  · cases hg
theorem bv{es:List Expr}{g1:FG}{gs:u_}(h1:PG X a (fG K g1 W1))(h2:pR X es (Ag K gs W2))
    (hs:(assignEach (a::es) X.env).map (·.2)=assign a X.env::(assignEach es X.env).map (·.2)):pR X (a::es) (Ag K (aw g1 gs) (W1++W2)):=(rh h1 h2 hs).mono fun v σ H Q h=>by
  obtain⟨F,e,xs,e',R,hx,hg,q⟩:=h
  unfold aw at hg
  match xs,hg,hx with
  | x::r,hg,hx=>
    simp only [ay] at hx
    obtain⟨w,ws,e1,hw,hr⟩:=hx
    dsimp only at hg
    obtain⟨e1',h3,h4⟩:=Option.bind_eq_some_iff.mp hg
    refine⟨w,ws,e1,F,e,x,e1',R,hw,h3,fun σ1 x1 R1=>⟨F,e1',r,e',R1,hr,h4,fun σ2 x2 R2=>?_⟩⟩
    exact q σ2 ((x1.mono fun j h=>List.mem_append.mpr (.inl h)).trans (x2.mono fun j h=>List.mem_append.mpr (.inr h))) R2
theorem ie{es:List Expr}{k n:Nat}{gs:u_}(hK:X.K=K)(hc:X.calm=true)(h:pR X es (Ag K gs W))(hl:∀xs e e',gs xs e=some e'→xs.length=n)(hn:(assignEach es X.env).length=n)(hst:(assignEach es X.env).findIdx? (·.1)=none):PG X (.Tuple es k pos) (fG K (bB gs) W):=(t_ hK hc h hn hst).mono fun v σ H Q h=>by
  obtain⟨F,e,x,e',R,hx,hg,q⟩:=h
  unfold bB at hg
  match x,hg,hx with
  | .tuple xs,hg,hx=>
    obtain⟨p,vs,e1,e2,e3⟩:=bo.mp hx
    exact⟨p,vs,e1,R.sm.tup e2,by rw [←e3.len];exact hl xs e e' hg,F,e,xs,e',R,e3,hg,q⟩
theorem hR(xs:List PyData)(e e':En)(h:bj xs e=some e'):xs.length=0:=by
  unfold bj at h
  split at h
  · rfl
  · cases h
theorem bZ{g:FG}{gs:u_}{n:Nat}(hl:∀xs e e',gs xs e=some e'→xs.length=n)(xs:List PyData)(e e':En)(h:aw g gs xs e=some e'):xs.length=n+1:=by
  unfold aw at h
  match xs,h with
  | x::r,h=>
    obtain⟨e1,h3,h4⟩:=Option.bind_eq_some_iff.mp h
    simp [hl r e1 e' h4]
def pI(fa:FE)(g:FG):FS:=fun e=>(fa e).bind fun p=>match p.1 with
  | .d x=>(g x p.2).map .nx
  | _=>none
theorem rL{tg:Expr}{g:FG}(he:PE X a (fE K fa))(hg:PG X tg (fG K g W))(hs:swapsWithSole [tg] a pos.line X.env=pure false)(hw:swappedStores [tg] a X.env=pure none)
    (h1:(assignEach [tg] X.env).map (·.2)=[assign tg X.env]):PS X (.Assign [tg] a pos) (fS K (pI fa g) W):=(xF he hg hs hw h1).mono fun D σ H h=>by
  obtain⟨F,e,fl,R,hf,q⟩:=h
  unfold pI at hf
  obtain⟨⟨r,e1⟩,h1,hf⟩:=Option.bind_eq_some_iff.mp hf
  match r,h1,hf with
  | .d x,h1,hf=>
    obtain⟨e2,h2,hf⟩:=Option.map_eq_some_iff.mp hf
    cases hf
    exact⟨F,e,_,e1,R,h1,fun F1 H1 v X1 R1 A1=>⟨F1,e1,x,e2,R1,A1,h2,fun σ' x2 R2=>q F1 H1 σ' (X1.s.trans x2) R2⟩⟩
def rY(i j:Nat)(fs:FA):FS:=fun e=>(fs e).bind fun p=>match p.1 with
  | [.d x,.d y]=>some (.nx ((p.2.set i (some (.d x))).set j (some (.d y))))
  | _=>none
theorem xS{i j:Nat}{x y:Str}{fs:FA}{px py pt:Pos}{kt k2 pt2}(hc:X.calm=true)(hN:X.N.Nodup)(hi:X.N[i]?=some x)(hj:X.N[j]?=some y)(hij:i≠j)
    (hx:X.env.scope.names.lookup x=some .local)(hy:X.env.scope.names.lookup y=some .local)(ha:PA X [a,b] (fA K fs))
    (hw:swappedStores [.Tuple [.Name x px,.Name y py] kt pt] (.Tuple [a,b] k2 pt2) X.env=pure (some [x,y]))
    (hs:swapsWithSole [.Tuple [.Name x px,.Name y py] kt pt] (.Tuple [a,b] k2 pt2) pos.line X.env=pure false):
    PS X (.Assign [.Tuple [.Name x px,.Name y py] kt pt] (.Tuple [a,b] k2 pt2) pos) (fS K (rY i j fs) [i,j]):=(xH hc hN hi hj hij hx hy ha hw hs).mono fun D σ H h=>by
  obtain⟨F,e,fl,R,hf,q⟩:=h
  unfold rY at hf
  obtain⟨⟨rs,e1⟩,h1,hf⟩:=Option.bind_eq_some_iff.mp hf
  refine⟨F,e,rs,e1,R,h1,fun F1 H1 vs X1 R1 A1=>?_⟩
  match rs,hf,A1 with
  | [.d x,.d y],hf,A1=>
    cases hf
    obtain⟨v,u,rfl,a1,a2⟩:=k8 A1
    obtain⟨R2,o2⟩:=R1.setD i a1
    obtain⟨R3,o3⟩:=R2.setD j a2
    refine⟨v,u,rfl,q F1 H1 _ ⟨X1.sf,X1.dom,X1.fr,X1.lst,X1.tmp,fun a h=>X1.ow a (o2 a (o3 a h)),fun m n=>?_⟩ R3⟩
    rw [List.getElem?_set_ne (fun z=>n (by simp [z])),List.getElem?_set_ne (fun z=>n (by simp [z]))]
def mT:Rv→Option PyData
  | .d x=>some x
  | .l xs=>some (.list xs)
  | .s _=>none
theorem oV{r:Rv}{d:PyData}(h:mT r=some d):gq [r]=some [d]:=by
  cases r with
  | d x=>cases h;rfl
  | l xs=>cases h;rfl
  | s i=>cases h
def eI(ft:FT)(f:FS):Nat→FS
  | 0,_=>none
  | n+1,e=>(ft e).bind fun p=>if p.1=true then(f p.2).bind fun fl=>match fl with
      | .nx e1=>eI ft f n e1
      | .ct e1=>eI ft f n e1
      | .bk e1=>some (.nx e1)
      | .rt r e1=>some (.rt r e1)
    else some (.nx p.2)
def jl(n:Nat)(ft:FT)(f:FS):FS:=eI ft f n
theorem l7{n:Nat}{c:Expr}{body:List Stmt}(hp:PassesOwn (model X.prog X.w) X.A X.env X.xe)(hc:PT X c (fT K ft))(hb:iB X body (fS K f W)):PS X (.While c body [] pos) (fS K (jl n ft f) W):=(rA hp hc hb).mono fun D σ H h=>by
  refine⟨fun m σ H=>∃F e fl,aJ K F H σ e∧eI ft f m e=some fl∧iS K W σ F H e D fl,⟨n,h⟩,?_⟩
  rintro m σ H ⟨F,e,fl,R,hf,q⟩
  cases m with
  | zero=>cases hf
  | succ m=>
    unfold eI at hf
    obtain⟨⟨x,e1⟩,h1,hf⟩:=Option.bind_eq_some_iff.mp hf
    refine⟨F,e,x,e1,R,h1,fun F1 H1 X1 R1=>?_⟩
    have sub:∀j,j∈([]:List Nat)→j∈W:=fun j h=>by cases h
    cases x with
    | false=>
      rw [if_neg (by simp)] at hf
      cases hf
      exact y_ (q F1 H1 σ X1.s R1)
    | true=>
      rw [if_pos rfl] at hf
      refine ti ?_
      obtain⟨fl1,h2,hf⟩:=Option.bind_eq_some_iff.mp hf
      have q1:iS K W σ F1 H1 e1 D fl:=q.later (W1:=[]) X1.s sub fun j h=>h
      refine⟨fun σ' H'=>∃F' e',aJ K F' H' σ' e'∧eI ft f m e'=some fl∧iS K W σ' F' H' e' D fl,fun σ' H' ⟨F',e',r1,r2,r3⟩=>⟨m,Nat.lt_succ_self m,F',e',fl,r1,r2,r3⟩,F1,e1,fl1,R1,h2,?_⟩
      cases fl1 with
      | nx e2=>exact fun F2 H2 σ2 x R2=>⟨F2,e2,R2,hf,q1.later x (fun j h=>h) fun j h=>h⟩
      | ct e2=>exact fun F2 H2 σ2 x R2=>⟨F2,e2,R2,hf,q1.later x (fun j h=>h) fun j h=>h⟩
      | bk e2=>cases hf;exact fun F2 H2 σ2 x R2=>q1 F2 H2 σ2 x R2
      | rt r e2=>cases hf;exact fun F2 H2 σ2 v x R2 A=>q1 F2 H2 σ2 v x R2 A
end
end L2
namespace L2
open PySem PySem.Spec PyProof.Rows
theorem PI.mono{X:Cx}{tg iter:Expr}{t t':TI}(h:PI X tg iter t)(m:∀σ H R,t' σ H R→t σ H R):PI X tg iter t':=fun pins s σ H R I q=>h pins s σ H R I (m σ H R q)
theorem PI.or{X:Cx}{tg iter:Expr}{t t':TI}(h:PI X tg iter t)(h':PI X tg iter t'):PI X tg iter (fun σ H R=>t σ H R∨t' σ H R):=fun pins s σ H R I q=>by
  rcases q with q | q
  · exact h pins s σ H R I q
  · exact h' pins s σ H R I q
abbrev eu:=List (Nat × List PyData)
def pW(K:PySem.W.Frag)(σ:L2.St)(F H:Hp)(own:eu):Prop:=∀p∈own,∃l vs,σ[p.1]?=some (some (.ref l))∧H l=some (.lst vs)∧ay K F p.2 vs
def mI(K:PySem.W.Frag)(σ:L2.St)(J:It)(items:List PyData)(own:eu)(F0:Hp):Prop:=∀F H,aq F0 F→aq F H→pW K σ F H own→
  (∀i,i < items.length→J.go i H)∧(∀i,items.length≤i→J.stop i H)∧∀i d x H',items[i]?=some d→J.yld i H x H'→∃F',aq H H'∧aq F F'∧aq F' H'∧(∀a,F a=none→H a≠none→F' a=none)∧DA K F' d x
abbrev FI:=En→Option (List PyData × eu × En)
def keeps(own:eu)(e:En):Prop:=∀p∈own,e[p.1]?=some (some (.l p.2))
def fI(K:PySem.W.Frag)(f:FI):TI:=fun σ H R=>∃F e items own e',aJ K F H σ e∧f e=some (items,own,e')∧∀J F' H',cK σ F H e F' H' e'→aJ K F' H' σ e'→keeps own e'→mI K σ J items own F'→R J H'
section
variable{K:PySem.W.Frag}{σ:L2.St}{H0 F H F' H':Hp}{e e':En}
theorem aJ.held(R:aJ K F H σ e){own:eu}(h:keeps own e):pW K σ F H own:=fun p hp=>by
  obtain⟨l,vs,h1,h2,h3,h4⟩:=R.own p.1 p.2 (h p hp)
  exact⟨l,vs,h1,h3,h4⟩
theorem aJ.step(R:aJ K F H σ e)(s:aq H H')(sF:aq F F')(sm:aq F' H')(fz:∀a,F a=none→H a≠none→F' a=none):aJ K F' H' σ e∧cK σ F H e F' H' e:=by
  obtain⟨R',o'⟩:=R.keep sF sm (fun a ⟨i,h⟩=>by
    obtain⟨h1,vs,h2⟩:=R.fpAt h
    exact fz a h1 (by rw [h2];simp)) fun a o _ h=>s a o h
  exact⟨R',⟨sF,fun a h=>s.free h,fun a vs h1 h2 _=>fz a h1 (by rw [h2];simp),fun a vs h=>⟨vs,s _ _ h⟩,fun a o h _=>s a o h,fun _=>Iff.rfl,fun a h=>.inl ((o' a).mp h)⟩⟩
inductive pS (K:PySem.W.Frag) (σ:L2.St) (F:Hp) (p:Addr):Bool→List PyData→eu→Prop
  | tup {xs vs}:bR K F p vs→ay K F xs vs→pS K σ F p false xs []
  | lst {xs vs}:er K F p vs→ay K F xs vs→pS K σ F p true xs []
  | own {i xs}:σ[i]?=some (some (.ref p))→pS K σ F p true xs [(i,xs)]
theorem pS.at{p:Addr}{b:Bool}{xs:List PyData}{own:eu}{F0:Hp}(h:pS K σ F0 p b xs own)(s0:aq F0 F)(s1:aq F H){own':eu}(hh:pW K σ F H own')(hs:∀q∈own,q∈own'):∃vs,ay K F xs vs∧(if b=true then er K H p vs else bR K H p vs):=by
  cases h with
  | tup h1 h2=>exact⟨_,h2.mono s0,(s0.trans s1).tup h1⟩
  | lst h1 h2=>exact⟨_,h2.mono s0,(s0.trans s1).seq h1⟩
  | @own i xs h1=>
    obtain⟨l,vs,g1,g2,g3⟩:=hh (i,xs) (hs (i,xs) (by simp))
    dsimp only at g1 g3
    rw [h1] at g1;cases g1
    exact⟨vs,g3,.inl (.inl g2)⟩
def pK(e:En):Rv→Option (Bool × List PyData × eu)
  | .d (.tuple xs)=>some (false,xs,[])
  | .d (.list xs)=>some (true,xs,[])
  | .l xs=>some (true,xs,[])
  | .s i=>match e[i]? with
    | some (some (.l xs))=>some (true,xs,[(i,xs)])
    | _=>none
  | _=>none
theorem iK{r:Rv}{v:V}{b:Bool}{xs:List PyData}{own:eu}(R:aJ K F H σ e)(A:bD K σ H0 F H e r v)(h:pK e r=some (b,xs,own)):
    ∃F' p,aJ K F' H σ e∧aq F F'∧(∀a,F a=none→H0 a≠none→F' a=none)∧v=.ref p∧pS K σ F' p b xs own∧keeps own e:=by
  cases r with
  | d x=>
    cases x with
    | tuple ds=>
      cases h
      obtain⟨a,ys,e1,e2,e3⟩:=bo.mp A
      exact⟨F,a,R,aq.refl _,fun _ h _=>h,e1,.tup e2 e3,fun p hp=>by cases hp⟩
    | list ds=>
      cases h
      obtain⟨a,ys,e1,e2,e3⟩:=bG.mp A
      exact⟨F,a,R,aq.refl _,fun _ h _=>h,e1,.lst e2 e3,fun p hp=>by cases hp⟩
    | _=>cases h
  | l ys=>
    cases h
    obtain⟨F',R',s',d',f'⟩:=A.frozen R
    obtain⟨a,ys,e1,e2,e3⟩:=bG.mp d'
    exact⟨F',a,R',s',f',e1,.lst e2 e3,fun p hp=>by cases hp⟩
  | s i=>
    obtain⟨h1,ys,h2⟩:=A
    simp only [pK,h2] at h
    cases h
    obtain⟨l,vs,e1,e2,e3,e4⟩:=R.own i _ h2
    rw [h1] at e1;cases e1
    exact⟨F,l,R,aq.refl _,fun _ h _=>h,rfl,.own h1,fun p hp=>by simp only [List.mem_singleton] at hp;subst hp;exact h2⟩
theorem j3{p:Addr}{xs:List PyData}{own:eu}{F0:Hp}(h:pS K σ F0 p true xs own):mI K σ (Am K p) xs own F0:=by
  intro F H s0 s1 hh
  obtain⟨vs,d,q⟩:=h.at s0 s1 hh fun _ h=>h
  have q:er K H p vs:=q
  refine⟨fun i hi=>⟨vs,vs[i]'(by rw [←d.len];exact hi),q,List.getElem?_eq_getElem _⟩,fun i hi=>⟨vs,q,by rw [←d.len];exact hi⟩,fun i x v H' hx hy=>?_⟩
  obtain⟨rfl,hy⟩:=hy
  obtain⟨w,g1,g2⟩:=d.get hx
  have e:=hy vs q
  rw [g1] at e;cases e
  exact⟨F,aq.refl _,aq.refl _,s1,fun _ h _=>h,g2⟩
theorem lM{p:Addr}{xs:List PyData}{own:eu}{F0:Hp}(h:pS K σ F0 p false xs own):mI K σ (An K p) xs own F0:=by
  intro F H s0 s1 hh
  obtain⟨vs,d,q⟩:=h.at s0 s1 hh fun _ h=>h
  have q:bR K H p vs:=q
  refine⟨fun i hi=>⟨vs,vs[i]'(by rw [←d.len];exact hi),q,List.getElem?_eq_getElem _⟩,fun i hi=>⟨vs,q,by rw [←d.len];exact hi⟩,fun i x v H' hx hy=>?_⟩
  obtain⟨rfl,hy⟩:=hy
  obtain⟨w,g1,g2⟩:=d.get hx
  have e:=hy vs q
  rw [g1] at e;cases e
  exact⟨F,aq.refl _,aq.refl _,s1,fun _ h _=>h,g2⟩
theorem i9{p:Addr}{x y:V}{a b:PyData}(s1:aq F H)(hp:H p=none)(hx:DA K F a x)(hy:DA K F b y):∃F',aq H (aQ H p (.tup [x,y]))∧aq F F'∧aq F' (aQ H p (.tup [x,y]))∧(∀c,F c=none→H c≠none→F' c=none)∧DA K F' (.tuple [a,b]) (.ref p):=by
  have hF:F p=none:=s1.free hp
  have sF:aq F (aQ F p (.tup [x,y])):=aq.new hF
  refine⟨aQ F p (.tup [x,y]),aq.new hp,sF,fun b o q=>?_,fun c h n=>?_,bo.mpr ⟨p,_,rfl,.inl (.inl ar),.cons (DA.mono sF hx) (.one (DA.mono sF hy))⟩⟩
  · by_cases z:b=p
    · subst z;rw [ar] at q ⊢;exact q
    · rw [ap z] at q ⊢;exact s1 _ _ q
  · have z:c≠p:=fun z=>n (by rw [z];exact hp)
    rw [ap z];exact h
def cx:Nat→List PyData→List PyData
  | _,[]=>[]
  | n,x::r=>.tuple [.int n,x]::cx (n+1) r
theorem ed:∀{xs:List PyData} {n i:Nat},(cx n xs)[i]?=(xs[i]?).map fun x=>.tuple [.int ((n+i:Nat):Int),x]
  | [],n,i=>by simp [cx]
  | x::r,n,0=>by simp [cx]
  | x::r,n,i+1=>by
    simp only [cx,List.getElem?_cons_succ]
    rw [ed (xs:=r) (n:=n+1) (i:=i)]
    congr 1
    funext y
    rw [show n+1+i=n+(i+1) by lia]
theorem dh:∀(xs:List PyData) (n:Nat),(cx n xs).length=xs.length
  | [],_=>rfl
  | x::r,n=>by simp [cx,dh r (n+1)]
theorem mY{p:Addr}{xs:List PyData}{own:eu}{F0:Hp}(h:pS K σ F0 p true xs own):mI K σ (vY K p) (cx 0 xs) own F0:=by
  intro F H s0 s1 hh
  obtain⟨vs,d,q⟩:=h.at s0 s1 hh fun _ h=>h
  have q:er K H p vs:=q
  rw [dh]
  refine⟨fun i hi=>⟨vs,vs[i]'(by rw [←d.len];exact hi),q,List.getElem?_eq_getElem _⟩,fun i hi=>⟨vs,q,by rw [←d.len];exact hi⟩,fun i x v H' hx hy=>?_⟩
  obtain⟨t,y,rfl,ht,rfl,hy⟩:=hy
  rw [ed] at hx
  obtain⟨x',hx2,rfl⟩:=Option.map_eq_some_iff.mp hx
  obtain⟨w,g1,g2⟩:=d.get hx2
  have e:=hy vs q
  rw [g1] at e;cases e
  exact i9 s1 ht (ba.mpr (by simp)) g2
theorem mZ{p:Addr}{xs:List PyData}{own:eu}{F0:Hp}(h:pS K σ F0 p false xs own):mI K σ (vZ K p) (cx 0 xs) own F0:=by
  intro F H s0 s1 hh
  obtain⟨vs,d,q⟩:=h.at s0 s1 hh fun _ h=>h
  have q:bR K H p vs:=q
  rw [dh]
  refine⟨fun i hi=>⟨vs,vs[i]'(by rw [←d.len];exact hi),q,List.getElem?_eq_getElem _⟩,fun i hi=>⟨vs,q,by rw [←d.len];exact hi⟩,fun i x v H' hx hy=>?_⟩
  obtain⟨t,y,rfl,ht,rfl,hy⟩:=hy
  rw [ed] at hx
  obtain⟨x',hx2,rfl⟩:=Option.map_eq_some_iff.mp hx
  obtain⟨w,g1,g2⟩:=d.get hx2
  have e:=hy vs q
  rw [g1] at e;cases e
  exact i9 s1 ht (ba.mpr (by simp)) g2
def dW:List PyData→List PyData→List PyData
  | x::r,y::s=>.tuple [x,y]::dW r s
  | _,_=>[]
theorem mE:∀{xs ys:List PyData} {i:Nat} {d:PyData},(dW xs ys)[i]?=some d→∃x y,xs[i]?=some x∧ys[i]?=some y∧d=.tuple [x,y]
  | [],ys,i,d,h=>by simp [dW] at h
  | x::r,[],i,d,h=>by simp [dW] at h
  | x::r,y::s,0,d,h=>by
    simp only [dW,List.getElem?_cons_zero] at h
    cases h;exact⟨x,y,rfl,rfl,rfl⟩
  | x::r,y::s,i+1,d,h=>by
    simp only [dW,List.getElem?_cons_succ] at h
    obtain⟨a,b,h1,h2,h3⟩:=mE h
    exact⟨a,b,by simpa using h1,by simpa using h2,h3⟩
theorem mF:∀(xs ys:List PyData),(dW xs ys).length=min xs.length ys.length
  | [],ys=>by simp [dW]
  | x::r,[]=>by simp [dW]
  | x::r,y::s=>by simp [dW,mF r s]
theorem qF{P Q:Hp→Addr→List V→Prop}{J:It}{l1 l2:Addr}{b1 b2:Bool}{xs ys:List PyData}{own1 own2:eu}{F0:Hp}(h1:pS K σ F0 l1 b1 xs own1)(h2:pS K σ F0 l2 b2 ys own2)
    (hP:∀H vs,(if b1=true then er K H l1 vs else bR K H l1 vs)→P H l1 vs)(hQ:∀H vs,(if b2=true then er K H l2 vs else bR K H l2 vs)→Q H l2 vs)
    (go:∀i H vs us x y,P H l1 vs→Q H l2 us→vs[i]?=some x→us[i]?=some y→J.go i H)(stop:∀i H vs us,P H l1 vs→Q H l2 us→(vs.length≤i∨us.length≤i)→J.stop i H)
    (yld:∀i H v H',J.yld i H v H'→∃p x y,v=.ref p∧H p=none∧H'=aQ H p (.tup [x,y])∧∀xs ys,P H l1 xs→Q H l2 ys→xs[i]?=some x∧ys[i]?=some y):
    mI K σ J (dW xs ys) (own1++own2) F0:=by
  intro F H s0 s1 hh
  obtain⟨vs,d1,q1⟩:=h1.at s0 s1 hh fun _ h=>List.mem_append.mpr (.inl h)
  obtain⟨us,d2,q2⟩:=h2.at s0 s1 hh fun _ h=>List.mem_append.mpr (.inr h)
  have q1:=hP H vs q1
  have q2:=hQ H us q2
  have l1':=d1.len
  have l2':=d2.len
  rw [mF]
  refine⟨fun i hi=>go i H vs us (vs[i]'(by lia)) (us[i]'(by lia)) q1 q2 (List.getElem?_eq_getElem _) (List.getElem?_eq_getElem _),fun i hi=>stop i H vs us q1 q2 (by lia),fun i x v H' hx hy=>?_⟩
  obtain⟨t,a,b,rfl,ht,rfl,hy3⟩:=yld i H v H' hy
  obtain⟨x',y',hx2,hy',rfl⟩:=mE hx
  obtain⟨w,g1,g2⟩:=d1.get hx2
  obtain⟨w',g3,g4⟩:=d2.get hy'
  obtain⟨e1,e2⟩:=hy3 vs us q1 q2
  rw [g1] at e1;cases e1
  rw [g3] at e2;cases e2
  exact i9 s1 ht g2 g4
def aL(lo:Int)(n:Nat):List PyData:=(List.range n).map fun(i:Nat)=>.int (lo+(i:Int))
theorem m4{lo:Int}{n:Nat}{F0:Hp}:mI K σ (Ab lo n) (aL lo n) [] F0:=by
  intro F H s0 s1 hh
  unfold aL
  rw [List.length_map,List.length_range]
  refine⟨fun i hi=>hi,fun i hi=>hi,fun i x v H' hx hy=>?_⟩
  obtain⟨rfl,rfl⟩:=hy
  rw [List.getElem?_map] at hx
  obtain⟨k,h1,rfl⟩:=Option.map_eq_some_iff.mp hx
  have h2:=(List.getElem?_eq_some_iff.mp h1).2
  simp at h2
  subst h2
  exact⟨F,aq.refl _,aq.refl _,s1,fun _ h _=>h,ba.mpr rfl⟩
end
inductive Al (K:PySem.W.Frag) (own:eu) (σ0:L2.St) (F1:Hp) (P:En→Prop) (G:L2.St→Hp→Hp→En→Prop) (σ:L2.St) (H:Hp):Prop
  | mk {F:Hp} {e:En} (R:aJ K F H σ e) (kp:keeps own e) (hσ:∀p∈own,σ[p.1]?=σ0[p.1]?) (sF:aq F1 F) (hf:P e) (q:G σ F H e):Al K own σ0 F1 P G σ H
section
variable{X:Cx}{K:PySem.W.Frag}{tg a b:Expr}{es:List Expr}{fa:FE}{fs:FA}{pos p tp:Pos}{k0:Nat}
def o8(fa:FE):FI:=fun e=>(fa e).bind fun p=>(pK p.2 p.1).map fun s=>(s.2.1,s.2.2,p.2)
theorem rK(hK:X.K=K)(h:PE X a (fE K fa)):PI X tg a (fI K (o8 fa)):=((l4 (tg:=tg) hK h).or (ud (tg:=tg) hK h)).mono fun σ H R hh=>by
  obtain⟨F,e,items,own,e',R0,hf,q⟩:=hh
  unfold o8 at hf
  obtain⟨⟨r,e1⟩,h1,hf⟩:=Option.bind_eq_some_iff.mp hf
  obtain⟨⟨b,xs,ow⟩,h2,hf⟩:=Option.map_eq_some_iff.mp hf
  cases hf
  cases b with
  | true=>
    refine .inl ⟨F,e,r,e1,R0,h1,fun F1 H1 v X1 R1 A1=>?_⟩
    obtain⟨F2,p,R2,s2,f2,rfl,sc,kp⟩:=iK R1 A1 h2
    obtain⟨vs,_,c⟩:=sc.at (aq.refl _) R2.sm (R2.held kp) fun _ h=>h
    exact⟨p,rfl,⟨vs,c⟩,q _ F2 H1 (X1.frz s2 f2) R2 kp (j3 sc)⟩
  | false=>
    refine .inr ⟨F,e,r,e1,R0,h1,fun F1 H1 v X1 R1 A1=>?_⟩
    obtain⟨F2,p,R2,s2,f2,rfl,sc,kp⟩:=iK R1 A1 h2
    obtain⟨vs,_,c⟩:=sc.at (aq.refl _) R2.sm (R2.held kp) fun _ h=>h
    exact⟨p,rfl,⟨vs,c⟩,q _ F2 H1 (X1.frz s2 f2) R2 kp (lM sc)⟩
def j1(fs:FA):FI:=fun e=>(fs e).bind fun p=>match p.1 with
  | [r]=>(pK p.2 r).map fun s=>(cx 0 s.2.1,s.2.2,p.2)
  | _=>none
theorem ou(hK:X.K=K)(hg:Gl X "enumerate")(hm:X.mg "enumerate"=none)(ha:PA X [a] (fA K fs))(hs:starEach [a] X.env=[(false,eval a X.env)]):PI X (.Tuple es k0 tp) (.Call (.Name "enumerate" p) [a] [] pos) (fI K (j1 fs)):=((rj (es:=es) (k0:=k0) (tp:=tp) hK hg hm ha hs).or (rk (es:=es) (k0:=k0) (tp:=tp) hK hg hm ha hs)).mono fun σ H R hh=>by
  obtain⟨F,e,items,own,e',R0,hf,q⟩:=hh
  unfold j1 at hf
  obtain⟨⟨rs,e1⟩,h1,hf⟩:=Option.bind_eq_some_iff.mp hf
  match rs,h1,hf with
  | [r],h1,hf=>
  obtain⟨⟨b,xs,ow⟩,h2,hf⟩:=Option.map_eq_some_iff.mp hf
  cases hf
  cases b with
  | true=>
    refine .inl ⟨F,e,_,e1,R0,h1,fun F1 H1 vs X1 R1 A1=>?_⟩
    obtain⟨v,rfl,A2⟩:=gE A1
    obtain⟨F2,p,R2,s2,f2,rfl,sc,kp⟩:=iK R1 A2 h2
    obtain⟨vs,_,c⟩:=sc.at (aq.refl _) R2.sm (R2.held kp) fun _ h=>h
    exact⟨p,rfl,⟨vs,c⟩,q _ F2 H1 (X1.frz s2 f2) R2 kp (mY sc)⟩
  | false=>
    refine .inr ⟨F,e,_,e1,R0,h1,fun F1 H1 vs X1 R1 A1=>?_⟩
    obtain⟨v,rfl,A2⟩:=gE A1
    obtain⟨F2,p,R2,s2,f2,rfl,sc,kp⟩:=iK R1 A2 h2
    obtain⟨vs,_,c⟩:=sc.at (aq.refl _) R2.sm (R2.held kp) fun _ h=>h
    exact⟨p,rfl,⟨vs,c⟩,q _ F2 H1 (X1.frz s2 f2) R2 kp (mZ sc)⟩
def rU(j:Int):Bool:=decide (-1000000≤j)&&decide (j≤1000000)
theorem rV{j:Int}(h:rU j=true): -1000000≤j∧j≤1000000:=by
  unfold rU at h
  rw [Bool.and_eq_true,decide_eq_true_iff,decide_eq_true_iff] at h
  exact h
def bC(fs:FA):FI:=fun e=>(fs e).bind fun p=>match p.1 with
  | [r]=>(bJ r).bind fun j=>if rU j=true then some (aL 0 j.toNat,[],p.2) else none
  | _=>none
theorem bx(hg:Gl X "range")(hm:X.mg "range"=none)(ha:PA X [a] (fA K fs))(hs:starEach [a] X.env=[(false,eval a X.env)]):PI X tg (.Call (.Name "range" p) [a] [] pos) (fI K (bC fs)):=(pD hg hm ha hs).mono fun σ H R hh=>by
  obtain⟨F,e,items,own,e',R0,hf,q⟩:=hh
  unfold bC at hf
  obtain⟨⟨rs,e1⟩,h1,hf⟩:=Option.bind_eq_some_iff.mp hf
  match rs,h1,hf with
  | [r],h1,hf=>
  obtain⟨j,h2,hf⟩:=Option.bind_eq_some_iff.mp hf
  split at hf
  case isFalse=>cases hf
  case isTrue hj=>
  cases hf
  refine⟨F,e,_,e1,R0,h1,fun F1 H1 vs X1 R1 A1=>?_⟩
  obtain⟨v,rfl,A2⟩:=gE A1
  have:=rV hj
  exact⟨j,by rw [bV A2 h2],by lia,by lia,q _ F1 H1 X1 R1 (fun _ h=>by cases h) m4⟩
open Classical in
noncomputable def g_(own:eu)(g:FG)(f:FS):List PyData→FS
  | [],e=>some (.nx e)
  | x::r,e=>(g x e).bind fun e1=>(f e1).bind fun fl=>match fl with
    | .nx e2=>if keeps own e2 then g_ own g f r e2 else none
    | .ct e2=>if keeps own e2 then g_ own g f r e2 else none
    | .bk e2=>some (.nx e2)
    | .rt v e2=>some (.rt v e2)
noncomputable def dc(W:List Nat)(fi:FI)(g:FG)(f:FS):FS:=fun e=>(fi e).bind fun p=>if (p.2.1.all fun q=> !W.contains q.1)=true then g_ p.2.1 g f p.1 p.2.2 else none
theorem dS{W1 W2:List Nat}{iter:Expr}{body:List Stmt}{fi:FI}{g:FG}{f:FS}(hp:PassesOwn (model X.prog X.w) X.A X.env X.xe)(hc:X.calm=true)(hi:PI X tg iter (fI K fi))(hg:PG X tg (fG K g W1))(hb:iB X body (fS K f W2))(hs:∀x,foldedSetIterable iter X.env x=pure x):
    PS X (.For tg iter body [] pos) (fS K (dc (W1++W2) fi g f) (W1++W2)):=(xG hp hc hi hg hb hs).mono fun D σ0 H0 hh=>by
  obtain⟨F0,e0,fl,R0,hf,q0⟩:=hh
  unfold dc at hf
  obtain⟨⟨items,own,e1⟩,h1,hf⟩:=Option.bind_eq_some_iff.mp hf
  dsimp only at hf
  split at hf
  case isFalse=>cases hf
  case isTrue hW=>
  have hW':∀p∈own,p.1∉W1++W2:=fun p hp=>by
    have:=List.all_eq_true.mp hW p hp
    simpa using this
  refine⟨F0,e0,items,own,e1,R0,h1,fun J F1 H1 X1 R1 kp ok=>?_⟩
  have s1:∀j,j∈W1→j∈W1++W2:=fun j h=>List.mem_append.mpr (.inl h)
  have s2:∀j,j∈W2→j∈W1++W2:=fun j h=>List.mem_append.mpr (.inr h)
  have q1:iS K (W1++W2) σ0 F1 H1 e1 D fl:=q0.later (W1:=[]) X1.s (fun j h=>by cases h) fun j h=>h
  refine⟨fun i m σ H=>m=items.length - i∧i≤items.length∧Al K own σ0 F1 (fun e=>g_ own g f (items.drop i) e=some fl) (fun σ F H e=>iS K (W1++W2) σ F H e D fl) σ H,
    ⟨items.length,by simp,Nat.zero_le _,.mk R1 kp (fun _ _=>rfl) (aq.refl _) hf q1⟩,?_⟩
  rintro i m σ H ⟨rfl,hi,⟨R,kp,hσ,sF,hf,q⟩⟩
  rename_i F e
  have held:pW K σ0 F H own:=fun p hp=>by
    obtain⟨l,vs,g1,g2⟩:=R.held kp p hp
    exact⟨l,vs,by rw [←hσ p hp];exact g1,g2⟩
  obtain⟨go,stop,yld⟩:=ok F H sF R.sm held
  by_cases hlt:i < items.length
  · have hd:items.drop i=items[i]::items.drop (i+1):=List.drop_eq_getElem_cons hlt
    rw [hd] at hf
    unfold g_ at hf
    obtain⟨e2,h2,hf⟩:=Option.bind_eq_some_iff.mp hf
    obtain⟨fl2,h3,hf⟩:=Option.bind_eq_some_iff.mp hf
    refine .inr ⟨go i hlt,Al K own σ0 F1 (fun e=>g_ own g f (items.drop (i+1)) e=some fl) (fun σ F H e=>iS K (W1++W2) σ F H e D fl),
      fun σ' H' r=>⟨items.length - (i+1),by lia,rfl,hlt,r⟩,fun x H' hy=>?_⟩
    obtain⟨F',sH,sF',sm',fz,hx⟩:=yld i items[i] x H' (List.getElem?_eq_getElem hlt) hy
    obtain⟨R',X'⟩:=R.step sH sF' sm' fz
    refine⟨F',e,items[i],e2,R',hx,h2,fun σ2 x2 R2=>⟨F',e2,fl2,R2,h3,?_⟩⟩
    have q2:iS K (W1++W2) σ2 F' H' e2 D fl:=(q.later (W1:=[]) (W2:=W1++W2) X'.s (fun j h=>by cases h) fun j h=>h).later x2 s1 fun j h=>h
    have w2:∀p∈own,σ2[p.1]?=σ0[p.1]?:=fun p hp=>(x2.wr p.1 fun z=>hW' p hp (s1 _ z)).trans (hσ p hp)
    cases fl2 with
    | nx e3=>
      intro F3 H3 σ3 x3 R3
      dsimp only at hf
      split at hf
      case isFalse=>cases hf
      case isTrue kp3=>
      exact .mk R3 kp3 (fun p hp=>(x3.wr p.1 fun z=>hW' p hp (s2 _ z)).trans (w2 p hp)) (sF.trans (sF'.trans x3.sf)) hf (q2.later x3 s2 fun j h=>h)
    | ct e3=>
      intro F3 H3 σ3 x3 R3
      dsimp only at hf
      split at hf
      case isFalse=>cases hf
      case isTrue kp3=>
      exact .mk R3 kp3 (fun p hp=>(x3.wr p.1 fun z=>hW' p hp (s2 _ z)).trans (w2 p hp)) (sF.trans (sF'.trans x3.sf)) hf (q2.later x3 s2 fun j h=>h)
    | bk e3=>
      cases hf
      exact fun F3 H3 σ3 x3 R3=>q2 F3 H3 σ3 (x3.mono s2) R3
    | rt r e3=>
      cases hf
      exact fun F3 H3 σ3 v x3 R3 A3=>q2 F3 H3 σ3 v (x3.mono s2) R3 A3
  · have hd:items.drop i=[]:=List.drop_eq_nil_of_le (by lia)
    rw [hd] at hf
    cases hf
    exact .inl ⟨stop i (by lia),q F H σ bS.refl R⟩
end
end L2
namespace L2
open PySem PySem.Spec PyProof.Rows
def sD:Option (Option Sv)→Bool
  | some (some (.l _))=>true
  | _=>false
theorem tf{s:Option (Option Sv)}:sD s=true↔ ∃xs,s=some (some (.l xs)):=by
  unfold sD
  split
  · simp
  · rename_i h
    constructor
    · intro z;cases z
    · rintro⟨xs,rfl⟩;exact absurd rfl (h xs)
def gQ(pos:Nat→Option Nat)(ei e:En):En:=e.mapIdx fun i s=>match s with
  | some (.l xs)=>match pos i with
    | some k=>(ei[k]?).join
    | none=>some (.l xs)
  | s=>s
theorem bh{pos:Nat→Option Nat}{ei e:En}{i:Nat}:(gQ pos ei e)[i]?=(e[i]?).map fun s=>match s with
  | some (.l xs)=>match pos i with
    | some k=>(ei[k]?).join
    | none=>some (.l xs)
  | s=>s:=by unfold gQ;rw [List.getElem?_mapIdx]
structure lj (σ:L2.St) (e:En) (σi:L2.St) (ei:En) (pos:Nat→Option Nat):Prop where
  a:∀(i k:Nat) (xs:List PyData),e[i]?=some (some (.l xs))→pos i=some k→σi[k]?=σ[i]?
  b:∀(k:Nat) (ys:List PyData),ei[k]?=some (some (.l ys))→∃(i:Nat) (xs:List PyData),e[i]?=some (some (.l xs))∧pos i=some k∧σi[k]?=σ[i]?
section
variable{K:PySem.W.Frag}{σ σi σi':L2.St}{F H F' H':Hp}{e ei ei':En}{pos:Nat→Option Nat}
def yA(e:En):Prop:=∀(i:Nat) (xss:List (List PyData)),e[i]?≠some (some (.n xss))
theorem lj.own(s:lj σ e σi ei pos)(hn:yA ei){a:Addr}{H H':Hp}(h:bK σi ei H a):∃(i k:Nat) (xs:List PyData),e[i]?=some (some (.l xs))∧pos i=some k∧σ[i]?=some (some (.ref a)):=by
  obtain⟨k,⟨ys,h1,h2⟩ | ⟨xss,_,_,h1,_⟩⟩:=h
  · obtain⟨i,xs,g1,g2,g3⟩:=s.b k ys h1
    exact⟨i,k,xs,g1,g2,by rw [←g3];exact h2⟩
  · exact absurd h1 (hn k xss)
theorem jt(R:aJ K F H σ e)(s:lj σ e σi ei pos)(hnn:yA ei)(sf:aq F F')(dom:∀a,H' a=none→H a=none)(fr:∀a vs,F a=none→H a=some (.lst vs)→¬bK σi ei H a→F' a=none)(lst:∀a vs,H a=some (.lst vs)→∃vs',H' a=some (.lst vs'))
    (tmp:∀a o,H a=some o→¬bK σi ei H a→H' a=some o)(R':aJ K F' H' σi' ei')(hσ:∀(i k:Nat) (xs:List PyData),e[i]?=some (some (.l xs))→pos i=some k→σi'[k]?=σi[k]?)(hsh:∀(i k:Nat) (xs:List PyData),e[i]?=some (some (.l xs))→pos i=some k→∃ys,ei'[k]?=some (some (.l ys))):
    aJ K F' H' σ (gQ pos ei' e)∧cK σ F H e F' H' (gQ pos ei' e)∧∀a,bK σ (gQ pos ei' e) H' a→bK σ e H a:=by
  have shp:∀i:Nat,(∃xs,(gQ pos ei' e)[i]?=some (some (.l xs)))↔ (∃xs,e[i]?=some (some (.l xs))):=by
    intro i
    rw [bh]
    match h:e[i]? with
    | none=>simp
    | some none=>simp
    | some (some (.d x))=>simp
    | some (some (.n x))=>simp
    | some (some (.l xs))=>
      simp only [Option.map_some]
      constructor
      · intro _;exact⟨xs,rfl⟩
      · intro _
        match hp:pos i with
        | none=>exact⟨xs,rfl⟩
        | some k=>
          obtain⟨ys,g⟩:=hsh i k xs h hp
          exact⟨ys,by show some ((ei'[k]?).join)=_;rw [g];rfl⟩
  have oth:∀(i:Nat) (s:Sv),(∀xs,s≠.l xs)→((gQ pos ei' e)[i]?=some (some s)↔ e[i]?=some (some s)):=by
    intro i s hs
    constructor
    · intro h
      rw [bh] at h
      match h1:e[i]?,h with
      | some (some (.d y)),h=>exact h
      | some (some (.n y)),h=>exact h
      | some (some (.l ys)),h=>
        simp only [Option.map_some,Option.some.injEq] at h
        match hp:pos i,h with
        | none,h=>cases h;exact absurd rfl (hs _)
        | some k,h=>
          obtain⟨zs,g⟩:=hsh i k ys h1 hp
          change (ei'[k]?).join=_ at h
          rw [g] at h;cases h;exact absurd rfl (hs _)
      | some none,h=>simp at h
      | none,h=>simp at h
    · intro h
      rw [bh,h]
      cases s with
      | d y=>rfl
      | n y=>rfl
      | l y=>exact absurd rfl (hs y)
  have out:∀i a,Fp σ e H i a→(∀k xs,e[i]?=some (some (.l xs))→pos i≠some k)→¬bK σi ei H a:=by
    intro i a hi hp z
    obtain⟨j,k,ws,d1,d2,d3⟩:=s.own hnn (H':=H') z
    have:i=j:=R.fp i j a hi (.inl ⟨ws,d1,d3⟩)
    subst this
    exact hp k ws d1 d2
  have keep:∀i a o,Fp σ e H i a→(∀k xs,e[i]?=some (some (.l xs))→pos i≠some k)→H a=some o→H' a=some o:=fun i a o hi hp ha=>tmp a o ha (out i a hi hp)
  have sown:∀a,bK σi ei H a→bK σ e H a:=fun a z=>by
    obtain⟨j,k,ws,d1,d2,d3⟩:=s.own hnn (H':=H') z
    exact⟨j,.inl ⟨ws,d1,d3⟩⟩
  have fs:∀i a,Fp σ (gQ pos ei' e) H' i a↔ Fp σ e H i a:=by
    intro i a
    have key:∀xss l,e[i]?=some (some (.n xss))→σ[i]?=some (some (.ref l))→H' l=H l:=fun xss l h1 h2=>by
      obtain⟨l',bs,g1,g2,g3,_⟩:=R.nst i xss h1
      rw [h2] at g1;cases g1
      rw [g3]
      exact keep i l _ (.inr ⟨xss,l,bs,h1,h2,g3,.inl rfl⟩) (fun k xs z=>by rw [h1] at z;cases z) g3
    constructor
    · rintro(⟨xs,h1,h2⟩ | ⟨xss,l,bs,h1,h2,h3,h4⟩)
      · obtain⟨ys,h⟩:=(shp i).mp ⟨xs,h1⟩
        exact .inl ⟨ys,h,h2⟩
      · have h1':=(oth i (.n xss) (fun _ z=>nomatch z)).mp h1
        exact .inr ⟨xss,l,bs,h1',h2,by rw [←key xss l h1' h2];exact h3,h4⟩
    · rintro(⟨xs,h1,h2⟩ | ⟨xss,l,bs,h1,h2,h3,h4⟩)
      · obtain⟨ys,h⟩:=(shp i).mpr ⟨xs,h1⟩
        exact .inl ⟨ys,h,h2⟩
      · exact .inr ⟨xss,l,bs,(oth i (.n xss) (fun _ z=>nomatch z)).mpr h1,h2,by rw [key xss l h1 h2];exact h3,h4⟩
  refine⟨⟨R'.sm,?_,fun i x h=>?_,fun i xs h=>?_,fun i xss h=>?_,fun i j a h1 h2=>R.fp i j a ((fs i a).mp h1) ((fs j a).mp h2)⟩,⟨sf,dom,fun a vs h1 h2 n=>fr a vs h1 h2 fun z=>n (sown a z),lst,fun a o h n=>tmp a o h fun z=>n (sown a z),shp,fun a ⟨i,h⟩=>.inl ⟨i,(fs i a).mp h⟩⟩,fun a ⟨i,h⟩=>⟨i,(fs i a).mp h⟩⟩
  · unfold gQ;rw [List.length_mapIdx];exact R.len
  · obtain⟨v,g1,g2⟩:=R.dat i x ((oth i (.d x) (fun _ z=>nomatch z)).mp h)
    exact⟨v,g1,DA.mono sf g2⟩
  · obtain⟨ys,h1⟩:=(shp i).mp ⟨xs,h⟩
    obtain⟨l,vs,g1,g2,g3,g4⟩:=R.own i ys h1
    rw [bh,h1] at h
    simp only [Option.map_some,Option.some.injEq] at h
    match hp:pos i,h with
    | none,h=>
      cases h
      have np:∀k xs,e[i]?=some (some (Sv.l xs))→pos i≠some k:=fun k xs _ z=>by rw [hp] at z;cases z
      have fi:Fp σ e H i l:=.inl ⟨_,h1,g1⟩
      exact⟨l,vs,g1,fr l vs g2 g3 (out i l fi np),keep i l _ fi np g3,g4.mono sf⟩
    | some k,h=>
      obtain⟨zs,c1⟩:=hsh i k ys h1 hp
      change (ei'[k]?).join=_ at h
      rw [c1] at h;cases h
      obtain⟨l',vs',d1,d2,d3,d4⟩:=R'.own k _ c1
      rw [hσ i k ys h1 hp,s.a i k ys h1 hp] at d1
      exact⟨l',vs',d1,d2,d3,d4⟩
  · have h1:=(oth i (.n xss) (fun _ z=>nomatch z)).mp h
    obtain⟨l,bs,g1,g2,g3,g4,g5,g6,g7⟩:=R.nst i xss h1
    have np:∀k xs,e[i]?=some (some (Sv.l xs))→pos i≠some k:=fun k xs z=>by rw [h1] at z;cases z
    have fi:Fp σ e H i l:=.inr ⟨xss,l,bs,h1,g1,g3,.inl rfl⟩
    refine⟨l,bs,g1,fr l _ g2 g3 (out i l fi np),keep i l _ fi np g3,g4,g5,g6,fun k b ys q1 q2=>?_⟩
    obtain⟨c1,us,c2,c3⟩:=g7 k b ys q1 q2
    have fb:Fp σ e H i b:=.inr ⟨xss,l,bs,h1,g1,g3,.inr (List.mem_of_getElem? q1)⟩
    exact⟨fr b _ c1 c2 (out i b fb np),us,keep i b _ fb np c2,c3.mono sf⟩
end
def cq(e:En):List Rv→Option (List Sv)
  | []=>some []
  | .d x::r=>(cq e r).map (.d x::·)
  | .l xs::r=>(cq e r).map (.d (.list xs)::·)
  | .s i::r=>match e[i]? with
    | some (some (.l xs))=>(cq e r).map (.l xs::·)
    | _=>none
def aA:List Rv→List Nat
  | []=>[]
  | .s i::r=>i::aA r
  | .d _::r=>aA r
  | .l _::r=>aA r
def fZ(rs:List Rv)(i:Nat):Option Nat:=rs.findIdx? fun r=>match r with
  | .s j=>j==i
  | _=>false
def noS:Rv→Prop
  | .s _=>False
  | _=>True
abbrev FM:=List Sv→Option (Rv × List Sv)
def dP(K:PySem.W.Frag)(n:Nat)(m:FM):Sp:=fun vs H Q _=>vs.length=n∧∃F as r as',aJ K F H (vs.map some) (as.map some)∧yA (as.map some)∧m as=some (r,as')∧noS r∧
  ∀F' H' v,cK (vs.map some) F H (as.map some) F' H' (as'.map some)→aJ K F' H' (vs.map some) (as'.map some)→bD K (vs.map some) H F' H' (as'.map some) r v→Q v H'
def a8:List Rv→List Sv→Bool
  | [],[]=>true
  | .s _::r,.l _::s=>a8 r s
  | .d _::r,_::s=>a8 r s
  | .l _::r,_::s=>a8 r s
  | _,_=>false
def wX:Rv→Bool
  | .s _=>false
  | _=>true
def dH:List Rv→List Sv→En→En
  | .s i::r,.l ys::s,e=>dH r s (e.set i (some (.l ys)))
  | .d _::r,_::s,e=>dH r s e
  | .l _::r,_::s,e=>dH r s e
  | _,_,e=>e
def dX(n:Nat)(m:FM)(fs:FA):FE:=fun e=>(fs e).bind fun p=>(cq p.2 p.1).bind fun as=>(m as).bind fun z=>if p.1.length=n∧(aA p.1).Nodup∧a8 p.1 z.2=true∧wX z.1=true then some (z.1,dH p.1 z.2 p.2) else none
theorem eD:∀{rs:List Rv} {as:List Sv},a8 rs as=true→∀(k i:Nat),rs[k]?=some (.s i)→∃ys,as[k]?=some (.l ys)
  | [],[],_,k,i,h=>by simp at h
  | .s j::r,.l ys::s,h,k,i,hk=>by
    cases k with
    | zero=>exact⟨ys,rfl⟩
    | succ k=>simpa using eD (rs:=r) (as:=s) (by simpa [a8] using h) k i (by simpa using hk)
  | .d x::r,y::s,h,k,i,hk=>by
    cases k with
    | zero=>simp at hk
    | succ k=>simpa using eD (rs:=r) (as:=s) (by simpa [a8] using h) k i (by simpa using hk)
  | .l x::r,y::s,h,k,i,hk=>by
    cases k with
    | zero=>simp at hk
    | succ k=>simpa using eD (rs:=r) (as:=s) (by simpa [a8] using h) k i (by simpa using hk)
  | .s _::_,.d _::_,h,_,_,_=>by simp [a8] at h
  | .s _::_,[],h,_,_,_=>by simp [a8] at h
  | .d _::_,[],h,_,_,_=>by simp [a8] at h
  | .l _::_,[],h,_,_,_=>by simp [a8] at h
theorem ia{r0:Rv}{rs:List Rv}{i:Nat}:fZ (r0::rs) i=if (match r0 with | .s j=>j==i | _=>false)=true then some 0 else(fZ rs i).map (· +1):=by
  unfold fZ;rw [List.findIdx?_cons]
theorem ib{rs:List Rv}{i k:Nat}(h:fZ rs i=some k):rs[k]?=some (.s i):=by
  unfold fZ at h
  rw [List.findIdx?_eq_some_iff_getElem] at h
  obtain⟨hk,h1,_⟩:=h
  rw [List.getElem?_eq_getElem hk]
  split at h1
  · rename_i heq
    rw [heq]
    have:=eq_of_beq h1
    rw [this]
  · cases h1
theorem dk:∀{rs:List Rv} {i:Nat},i∈aA rs↔ Rv.s i∈rs
  | [],i=>by simp [aA]
  | .s j::r,i=>by simp [aA,dk (rs:=r)]
  | .d x::r,i=>by simp [aA,dk (rs:=r)]
  | .l x::r,i=>by simp [aA,dk (rs:=r)]
theorem dy:∀{rs:List Rv} {i k j:Nat},(aA rs).Nodup→rs[k]?=some (.s i)→rs[j]?=some (.s i)→k=j
  | [],i,k,j,_,h,_=>by simp at h
  | .s m::r,i,k,j,hn,h1,h2=>by
    simp only [aA,List.nodup_cons] at hn
    cases k with
    | zero=>
      simp at h1;subst h1
      cases j with
      | zero=>rfl
      | succ j=>exact absurd (dk.mpr (List.mem_of_getElem? (by simpa using h2))) hn.1
    | succ k=>
      cases j with
      | zero=>
        simp at h2;subst h2
        exact absurd (dk.mpr (List.mem_of_getElem? (by simpa using h1))) hn.1
      | succ j=>
        have:=dy (rs:=r) (i:=i) (k:=k) (j:=j) hn.2 (by simpa using h1) (by simpa using h2)
        lia
  | .d x::r,i,k,j,hn,h1,h2=>by
    cases k with
    | zero=>simp at h1
    | succ k=>
      cases j with
      | zero=>simp at h2
      | succ j=>
        have:=dy (rs:=r) (i:=i) (k:=k) (j:=j) (by simpa [aA] using hn) (by simpa using h1) (by simpa using h2)
        lia
  | .l x::r,i,k,j,hn,h1,h2=>by
    cases k with
    | zero=>simp at h1
    | succ k=>
      cases j with
      | zero=>simp at h2
      | succ j=>
        have:=dy (rs:=r) (i:=i) (k:=k) (j:=j) (by simpa [aA] using hn) (by simpa using h1) (by simpa using h2)
        lia
theorem ro{rs:List Rv}{i:Nat}(h:i∉aA rs):fZ rs i=none:=by
  unfold fZ
  rw [List.findIdx?_eq_none_iff]
  intro r hr
  cases r with
  | d x=>rfl
  | l x=>rfl
  | s j=>
    have:j≠i:=fun z=>h (by rw [←z];exact dk.mpr hr)
    simpa using this
theorem iH:∀{rs:List Rv} {as:List Sv} {e:En},(aA rs).Nodup→a8 rs as=true→(∀j∈aA rs,∃xs,e[j]?=some (some (.l xs)))→dH rs as e=gQ (fZ rs) (as.map some) e
  | [],[],e,_,_,_=>by
    refine List.ext_getElem? fun i=>?_
    rw [bh]
    have:fZ [] i=none:=rfl
    rw [this]
    simp only [dH]
    match e[i]? with
    | none=>rfl
    | some none=>rfl
    | some (some (.d x))=>rfl
    | some (some (.l x))=>rfl
    | some (some (.n x))=>rfl
  | .d x::r,y::s,e,hn,hl,hs=>by
    rw [show dH (.d x::r) (y::s) e=dH r s e from rfl,iH (by simpa [aA] using hn) (by simpa [a8] using hl) (fun j hj=>hs j (by simpa [aA] using hj))]
    refine List.ext_getElem? fun i=>?_
    rw [bh,bh,ia]
    cases fZ r i<;>simp
  | .l x::r,y::s,e,hn,hl,hs=>by
    rw [show dH (.l x::r) (y::s) e=dH r s e from rfl,iH (by simpa [aA] using hn) (by simpa [a8] using hl) (fun j hj=>hs j (by simpa [aA] using hj))]
    refine List.ext_getElem? fun i=>?_
    rw [bh,bh,ia]
    cases fZ r i<;>simp
  | .s k::r,.l ys::s,e,hn,hl,hs=>by
    simp only [aA,List.nodup_cons] at hn
    obtain⟨xs,hk⟩:=hs k (by simp [aA])
    have hlt:k < e.length:=(List.getElem?_eq_some_iff.mp hk).1
    rw [show dH (.s k::r) (.l ys::s) e=dH r s (e.set k (some (.l ys))) from rfl,iH hn.2 (by simpa [a8] using hl) (fun j hj=>by
      have z:k≠j:=fun z=>hn.1 (by rw [z];exact hj)
      rw [List.getElem?_set_ne z]
      exact hs j (by simp [aA,hj]))]
    refine List.ext_getElem? fun i=>?_
    rw [bh,bh,ia]
    by_cases z:k=i
    · subst z
      rw [List.getElem?_set_self hlt,hk,ro hn.1]
      simp
    · rw [List.getElem?_set_ne z]
      have:((match (Rv.s k) with | .s j=>j==i | _=>false)=true)=False:=by simp [z]
      simp only [this,if_false]
      cases fZ r i<;>simp
  | .s _::_,.d _::_,_,_,h,_=>by simp [a8] at h
  | .s _::_,.n _::_,_,_,h,_=>by simp [a8] at h
  | .s _::_,[],_,_,h,_=>by simp [a8] at h
  | .d _::_,[],_,_,h,_=>by simp [a8] at h
  | .l _::_,[],_,_,h,_=>by simp [a8] at h
  | [],_::_,_,_,h,_=>by simp [a8] at h
theorem cY{e:En}:∀{rs:List Rv} {as:List Sv},cq e rs=some as→∀j∈aA rs,∃xs,e[j]?=some (some (.l xs))
  | [],_,_,j,h=>by simp [aA] at h
  | .d x::rs,as,q,j,h=>by
    obtain⟨as',q1,rfl⟩:=Option.map_eq_some_iff.mp q
    exact cY q1 j (by simpa [aA] using h)
  | .l x::rs,as,q,j,h=>by
    obtain⟨as',q1,rfl⟩:=Option.map_eq_some_iff.mp q
    exact cY q1 j (by simpa [aA] using h)
  | .s k::rs,as,q,j,h=>by
    unfold cq at q
    match he:e[k]?,q with
    | some (some (.l xs)),q=>
      obtain⟨as',q1,rfl⟩:=Option.map_eq_some_iff.mp q
      simp only [aA,List.mem_cons] at h
      rcases h with rfl | h
      · exact⟨xs,he⟩
      · exact cY q1 j h
theorem f_{e:En}:∀{rs:List Rv} {as:List Sv} {k i:Nat},cq e rs=some as→rs[k]?=some (.s i)→∃xs,as[k]?=some (.l xs)
  | [],_,k,i,_,h=>by simp at h
  | .d x::rs,as,k,i,q,h=>by
    obtain⟨as',q1,rfl⟩:=Option.map_eq_some_iff.mp q
    cases k with
    | zero=>simp at h
    | succ k=>simpa using f_ (k:=k) (i:=i) q1 (by simpa using h)
  | .l x::rs,as,k,i,q,h=>by
    obtain⟨as',q1,rfl⟩:=Option.map_eq_some_iff.mp q
    cases k with
    | zero=>simp at h
    | succ k=>simpa using f_ (k:=k) (i:=i) q1 (by simpa using h)
  | .s j::rs,as,k,i,q,h=>by
    unfold cq at q
    match he:e[j]?,q with
    | some (some (.l xs)),q=>
      obtain⟨as',q1,rfl⟩:=Option.map_eq_some_iff.mp q
      cases k with
      | zero=>exact⟨xs,rfl⟩
      | succ k=>simpa using f_ (k:=k) (i:=i) q1 (by simpa using h)
section
variable{X:Cx}{K:PySem.W.Frag}{σ:L2.St}{H0 H:Hp}{e:En}
theorem iE:∀{rs:List Rv} {vs:List V} {as:List Sv} {F:Hp},aJ K F H σ e→cE K σ H0 F H e rs vs→cq e rs=some as→
    ∃F',aJ K F' H σ e∧aq F F'∧(∀a,F a=none→H0 a≠none→F' a=none)∧vs.length=as.length∧rs.length=as.length∧
      (∀(k:Nat) (x:PyData),as[k]?=some (.d x)→∃v,vs[k]?=some v∧DA K F' x v)∧∀(k:Nat) (xs:List PyData),as[k]?=some (.l xs)→∃i,rs[k]?=some (.s i)∧e[i]?=some (some (.l xs))∧∃v,vs[k]?=some v∧σ[i]?=some (some v)
  | [],vs,as,F,R,h,q=>by
    cases q
    have h':vs=[]:=h
    subst h'
    exact⟨F,R,aq.refl _,fun _ h _=>h,rfl,rfl,fun k x h=>by simp at h,fun k x h=>by simp at h⟩
  | .d x::rs,_,as,F,R,h,q=>by
    obtain⟨v,ws,rfl,h1,h2⟩:=h
    obtain⟨as',q1,rfl⟩:=Option.map_eq_some_iff.mp q
    obtain⟨F',R',s',f',l1,l2,d',o'⟩:=iE R h2 q1
    refine⟨F',R',s',f',by simp [l1],by simp [l2],fun k y hk=>?_,fun k ys hk=>?_⟩
    · cases k with
      | zero=>simp at hk;subst hk;exact⟨v,rfl,DA.mono s' h1⟩
      | succ k=>simpa using d' k y (by simpa using hk)
    · cases k with
      | zero=>simp at hk
      | succ k=>simpa using o' k ys (by simpa using hk)
  | .l xs::rs,_,as,F,R,h,q=>by
    obtain⟨v,ws,rfl,h1,h2⟩:=h
    obtain⟨as',q1,rfl⟩:=Option.map_eq_some_iff.mp q
    obtain⟨F',R',s',f',l1,l2,d',o'⟩:=iE R h2 q1
    have key:∃F2,aJ K F2 H σ e∧aq F' F2∧(∀a,F' a=none→H0 a≠none→F2 a=none)∧DA K F2 (.list xs) v:=by
      obtain⟨l,us,rfl,g1,g2,g3,g4,g5⟩:=h1
      cases hl:F' l with
      | none=>
        have h1':bD K σ H0 F' H e (.l xs) (.ref l):=⟨l,us,rfl,g1,hl,g3,ay.mono s' g4,g5⟩
        obtain⟨F2,R2,s2,d2,f2⟩:=h1'.frozen R'
        exact⟨F2,R2,s2,f2,d2⟩
      | some o=>
        have:=R'.sm _ _ hl
        rw [g3] at this;cases this
        exact⟨F',R',aq.refl _,fun _ h _=>h,bG.mpr ⟨l,us,rfl,.inl (.inl hl),ay.mono s' g4⟩⟩
    obtain⟨F2,R2,s2,f2,d2⟩:=key
    refine⟨F2,R2,s'.trans s2,fun a ha hn=>f2 a (f' a ha hn) hn,by simp [l1],by simp [l2],fun k y hk=>?_,fun k ys hk=>?_⟩
    · cases k with
      | zero=>simp at hk;subst hk;exact⟨v,rfl,d2⟩
      | succ k=>
        obtain⟨u,c1,c2⟩:=d' k y (by simpa using hk)
        exact⟨u,by simpa using c1,DA.mono s2 c2⟩
    · cases k with
      | zero=>simp at hk
      | succ k=>simpa using o' k ys (by simpa using hk)
  | .s i::rs,_,as,F,R,h,q=>by
    obtain⟨v,ws,rfl,h1,h2⟩:=h
    unfold cq at q
    match he:e[i]?,q with
    | some (some (.l xs)),q=>
      obtain⟨as',q1,rfl⟩:=Option.map_eq_some_iff.mp q
      obtain⟨F',R',s',f',l1,l2,d',o'⟩:=iE R h2 q1
      refine⟨F',R',s',f',by simp [l1],by simp [l2],fun k y hk=>?_,fun k ys hk=>?_⟩
      · cases k with
        | zero=>simp at hk
        | succ k=>simpa using d' k y (by simpa using hk)
      · cases k with
        | zero=>simp at hk;subst hk;exact⟨i,rfl,he,v,rfl,h1.1⟩
        | succ k=>simpa using o' k ys (by simpa using hk)
theorem cZ{α:Type}{l:List α}{k:Nat}{x:α}:(l.map some)[k]?=some (some x)↔ l[k]?=some x:=by
  rw [List.getElem?_map]
  cases l[k]?<;>simp
theorem bD.noS{σ':L2.St}{e':En}{F H:Hp}{r:Rv}{v:V}(h:bD K σ' H0 F H e' r v)(n:L2.noS r)(ho:∀a,bK σ e H a→H0 a≠none):bD K σ H0 F H e r v:=by
  cases r with
  | d x=>exact h
  | l xs=>
    obtain⟨l,vs,e1,h1,h2,h3,h4,_⟩:=h
    exact⟨l,vs,e1,h1,h2,h3,h4,fun z=>ho l z h1⟩
  | s i=>exact absurd n (by simp [L2.noS])
theorem eA:∀{rs:List Rv} {as:List Sv},cq e rs=some as→yA (as.map some)
  | [],_,q=>by cases q;intro i xss h;simp at h
  | .d x::rs,as,q=>by
    obtain⟨as',q1,rfl⟩:=Option.map_eq_some_iff.mp q
    have ih:=eA q1
    intro i xss h
    cases i with
    | zero=>simp at h
    | succ i=>exact ih i xss (by simpa using h)
  | .l x::rs,as,q=>by
    obtain⟨as',q1,rfl⟩:=Option.map_eq_some_iff.mp q
    have ih:=eA q1
    intro i xss h
    cases i with
    | zero=>simp at h
    | succ i=>exact ih i xss (by simpa using h)
  | .s j::rs,as,q=>by
    unfold cq at q
    match he:e[j]?,q with
    | some (some (.l xs)),q=>
      obtain⟨as',q1,rfl⟩:=Option.map_eq_some_iff.mp q
      have ih:=eA q1
      intro i xss h
      cases i with
      | zero=>simp at h
      | succ i=>exact ih i xss (by simpa using h)
theorem yo{n:Nat}{m:FM}{fs:FA}{Q:VK}{E:XK}(h:fE K (dX n m fs) σ H Q):sd (dP K n m) [] E (fA K fs) σ H Q:=by
  obtain⟨F,e,z,e',R,hf,q⟩:=h
  unfold dX at hf
  obtain⟨⟨rs,e1⟩,h1,hf⟩:=Option.bind_eq_some_iff.mp hf
  obtain⟨as,h2,hf⟩:=Option.bind_eq_some_iff.mp hf
  obtain⟨⟨r,as'⟩,h3,hf⟩:=Option.bind_eq_some_iff.mp hf
  split at hf
  case isFalse=>cases hf
  case isTrue hc=>
  obtain⟨c1,c2,c3,c4⟩:=hc
  cases hf
  refine⟨F,e,rs,e1,R,h1,fun F1 H1 vs X1 R1 A1=>?_⟩
  obtain⟨F2,R2,s2,f2,l1,l2,d2,o2⟩:=iE R1 A1 h2
  have X2:=X1.frz s2 f2
  rw [List.append_nil]
  have hn:L2.noS r:=by
    cases r with
    | d x=>trivial
    | l x=>trivial
    | s i=>cases c4
  have nN:=eA h2
  have RA:aJ K F2 H1 (vs.map some) (as.map some):=by
    refine⟨R2.sm,by simp [l1],fun k x hk=>?_,fun k xs hk=>?_,fun k xss hk=>absurd hk (nN k xss),fun k j l f1 f2=>?_⟩
    · obtain⟨v,g1,g2⟩:=d2 k x (cZ.mp hk)
      exact⟨v,cZ.mpr g1,g2⟩
    · obtain⟨i,g1,g2,v,g3,g4⟩:=o2 k xs (cZ.mp hk)
      obtain⟨l,us,k1,k2,k3,k4⟩:=R2.own i xs g2
      rw [g4] at k1;cases k1
      exact⟨l,us,cZ.mpr g3,k2,k3,k4⟩
    · obtain⟨xs,g1,g3⟩:=f1.resolve_right fun⟨xss,_,_,z,_⟩=>nN k xss z
      obtain⟨ys,g2,g4⟩:=f2.resolve_right fun⟨xss,_,_,z,_⟩=>nN j xss z
      obtain⟨i1,a1,a2,v1,a3,a4⟩:=o2 k xs (cZ.mp g1)
      obtain⟨i2,b1,b2,v2,b3,b4⟩:=o2 j ys (cZ.mp g2)
      have e1:=cZ.mp g3
      have e2:=cZ.mp g4
      rw [a3] at e1;cases e1
      rw [b3] at e2;cases e2
      have:i1=i2:=R2.inj i1 i2 xs ys l a2 b2 a4 b4
      subst this
      exact dy c2 a1 b1
  have sub:lj σ e1 (vs.map some) (as.map some) (fZ rs):=by
    refine⟨fun i k xs g1 g2=>?_,fun k ys g1=>?_⟩
    · have g3:=ib g2
      obtain⟨zs,hs⟩:=f_ h2 g3
      obtain⟨i',a1,a2,v,a3,a4⟩:=o2 k zs hs
      rw [g3] at a1;cases a1
      rw [cZ.mpr a3,a4]
    · obtain⟨i,a1,a2,v,a3,a4⟩:=o2 k ys (cZ.mp g1)
      refine⟨i,ys,a2,?_,by rw [cZ.mpr a3,a4]⟩
      cases hp:fZ rs i with
      | none=>
        unfold fZ at hp
        rw [List.findIdx?_eq_none_iff] at hp
        have:=hp _ (List.mem_of_getElem? a1)
        simp at this
      | some j=>rw [dy c2 (ib hp) a1]
  refine⟨by rw [l1,←l2];exact c1,F2,as,r,as',RA,nN,h3,hn,fun F' H' v X3 R3 A3=>?_⟩
  obtain⟨R4,X4,o4⟩:=jt R2 sub nN X3.sf X3.dom X3.fr X3.lst X3.tmp R3 (fun _ _ _ _ _=>rfl) fun i k xs g1 g2=>by
    obtain⟨ys,g3⟩:=eD c3 k i (ib g2)
    exact⟨ys,cZ.mpr g3⟩
  have hb:=iH (e:=e1) c2 c3 (cY h2)
  rw [←hb] at R4 X4 o4
  exact q F' H' v (X2.trans X4) R4 ((A3.noS hn fun a z=>R2.ownH a (o4 a z)).weak X2.dom)
theorem bE{x:Str}{st:Stmt}{f:Addr}{fd:FuncData}{ps:List Str}{k n:Nat}{m:FM}{a:Expr}{es:List Expr}{fs:FA}{p pos:Pos}(h:cB X.K X.mg x st f fd ps)(G:a' X.prog X.w X.K X.mg X.base dA k f fd ps (dP K n m))(hr:cF k X.A)(ha:PA X (a::es) (fA K fs))
    (hg:Gl X x)(hdb:(x==("__debug__":Str))=false)(he:starEach (a::es) X.env=(false,eval a X.env)::starEach es X.env)(hpl:(backTo pos (starEach es X.env)).any (·.1)=false):
    PE X (.Call (.Name x p) (a::es) [] pos) (fE K (dX n m fs)):=(AU h G hr ha hg hdb he hpl).mono fun _ _ _ h=>yo h
def pP:List Sv→En→Option (List Sv)
  | [],_=>some []
  | .d x::r,e=>(pP r e.tail).map (.d x::·)
  | .l _::r,e=>match e.head? with
    | some (some (.l ys))=>(pP r e.tail).map (.l ys::·)
    | _=>none
  | .n _::_,_=>none
def sQ(n:Nat)(e:En):Rv→Option Rv
  | .s i=>if n≤i then match e[i]? with
      | some (some (.l xs))=>some (.l xs)
      | _=>none
    else none
  | r=>some r
def lT(W:List Nat)(as:List Sv):Bool:=W.all fun j=>match as[j]? with
  | some (.l _)=>false
  | _=>true
def j8(n k:Nat)(W:List Nat)(f:FS):FM:=fun as=>if as.length=n∧lT W as=true then(f (as.map some++List.replicate k none)).bind fun fl=>match fl with
    | .rt r e=>(sQ n e r).bind fun r'=>(pP as e).map fun as'=>(r',as')
    | .nx e=>(pP as e).map fun as'=>(.d .none,as')
    | _=>none
  else none
theorem iL:∀{as as':List Sv} {e:En},pP as e=some as'→as'.length=as.length∧(∀(j:Nat) (x:PyData),as'[j]?=some (.d x)↔ as[j]?=some (.d x))∧(∀(j:Nat) (ys:List PyData),as'[j]?=some (.l ys)→(∃xs,as[j]?=some (.l xs))∧e[j]?=some (some (.l ys)))∧∀(j:Nat) (xs:List PyData),as[j]?=some (.l xs)→∃ys,as'[j]?=some (.l ys)
  | [],_,e,h=>by cases h;simp
  | .d x::r,_,e,h=>by
    obtain⟨s,h1,rfl⟩:=Option.map_eq_some_iff.mp h
    obtain⟨g1,g2,g3,g4⟩:=iL h1
    refine⟨by simp [g1],fun j y=>?_,fun j ys hj=>?_,fun j xs hj=>?_⟩
    · cases j with
      | zero=>simp
      | succ j=>simpa using g2 j y
    · cases j with
      | zero=>simp at hj
      | succ j=>
        obtain⟨c1,c2⟩:=g3 j ys (by simpa using hj)
        refine⟨by simpa using c1,?_⟩
        rw [List.getElem?_tail] at c2
        exact c2
    · cases j with
      | zero=>simp at hj
      | succ j=>simpa using g4 j xs (by simpa using hj)
  | .l xs::r,_,e,h=>by
    unfold pP at h
    match he:e.head?,h with
    | some (some (.l ys)),h=>
      obtain⟨s,h1,rfl⟩:=Option.map_eq_some_iff.mp h
      obtain⟨g1,g2,g3,g4⟩:=iL h1
      refine⟨by simp [g1],fun j y=>?_,fun j zs hj=>?_,fun j zs hj=>?_⟩
      · cases j with
        | zero=>simp
        | succ j=>simpa using g2 j y
      · cases j with
        | zero=>
          simp at hj;subst hj
          exact⟨⟨xs,rfl⟩,by rw [List.head?_eq_getElem?] at he;exact he⟩
        | succ j=>
          obtain⟨c1,c2⟩:=g3 j zs (by simpa using hj)
          refine⟨by simpa using c1,?_⟩
          rw [List.getElem?_tail] at c2
          exact c2
      · cases j with
        | zero=>exact⟨ys,rfl⟩
        | succ j=>simpa using g4 j zs (by simpa using hj)
  | .n x::r,_,e,h=>by simp [pP] at h
end
end L2
namespace L2
open PySem PySem.Spec PyProof.Rows
theorem cJ{α:Type}{l:List (Option α)}{k i:Nat}{x:α}(h:(l++List.replicate k none)[i]?=some (some x)):l[i]?=some (some x):=by
  rw [List.getElem?_append] at h
  split at h
  · exact h
  · rw [List.getElem?_replicate] at h
    split at h<;>simp at h
theorem cP{α:Type}{l:List (Option α)}{k i:Nat}{x:α}(h:l[i]?=some (some x)):(l++List.replicate k none)[i]?=some (some x):=by
  have hi:i < l.length:=(List.getElem?_eq_some_iff.mp h).1
  rw [List.getElem?_append_left hi];exact h
section
variable{K:PySem.W.Frag}{F H:Hp}{σ:L2.St}{e:En}{k:Nat}
theorem kN{i:Nat}{a:Addr}:Fp (σ++List.replicate k none) (e++List.replicate k none) H i a↔ Fp σ e H i a:=by
  constructor
  · rintro(⟨xs,h1,h2⟩ | ⟨xss,l,bs,h1,h2,h3⟩)
    · exact .inl ⟨xs,cJ h1,cJ h2⟩
    · exact .inr ⟨xss,l,bs,cJ h1,cJ h2,h3⟩
  · rintro(⟨xs,h1,h2⟩ | ⟨xss,l,bs,h1,h2,h3⟩)
    · exact .inl ⟨xs,cP h1,cP h2⟩
    · exact .inr ⟨xss,l,bs,cP h1,cP h2,h3⟩
theorem kU{a:Addr}:bK (σ++List.replicate k none) (e++List.replicate k none) H a↔ bK σ e H a:=⟨fun⟨i,h⟩=>⟨i,kN.mp h⟩,fun⟨i,h⟩=>⟨i,kN.mpr h⟩⟩
theorem aJ.pad(R:aJ K F H σ e):aJ K F H (σ++List.replicate k none) (e++List.replicate k none):=by
  refine⟨R.sm,by simp [R.len],fun i x h=>?_,fun i xs h=>?_,fun i xss h=>?_,fun i j a h1 h2=>R.fp i j a (kN.mp h1) (kN.mp h2)⟩
  · obtain⟨v,g1,g2⟩:=R.dat i x (cJ h)
    exact⟨v,cP g1,g2⟩
  · obtain⟨l,vs,g1,g2⟩:=R.own i xs (cJ h)
    exact⟨l,vs,cP g1,g2⟩
  · obtain⟨l,bs,g1,g2⟩:=R.nst i xss (cJ h)
    exact⟨l,bs,cP g1,g2⟩
end
theorem lb:∀{as as':List Sv} {e:En},pP as e=some as'→yA (as'.map some)
  | [],_,e,h=>by cases h;intro i xss z;simp at z
  | .d x::r,_,e,h=>by
    obtain⟨s,h1,rfl⟩:=Option.map_eq_some_iff.mp h
    have ih:=lb h1
    intro i xss z
    cases i with
    | zero=>simp at z
    | succ i=>exact ih i xss (by simpa using z)
  | .l xs::r,_,e,h=>by
    unfold pP at h
    match he:e.head?,h with
    | some (some (.l ys)),h=>
      obtain⟨s,h1,rfl⟩:=Option.map_eq_some_iff.mp h
      have ih:=lb h1
      intro i xss z
      cases i with
      | zero=>simp at z
      | succ i=>exact ih i xss (by simpa using z)
  | .n x::r,_,e,h=>by simp [pP] at h
theorem lU{W:List Nat}{as:List Sv}(h:lT W as=true){j:Nat}{xs:List PyData}(hj:as[j]?=some (.l xs)):j∉W:=fun z=>by
  unfold lT at h
  have:=List.all_eq_true.mp h j z
  rw [hj] at this
  cases this
section
variable{P:Program}{w:World}{K:PySem.W.Frag}{mg:Str→Option Value}{base:Heap}
theorem cB.fn{x:Str}{st:Stmt}{f:Addr}{fd:FuncData}{N ps:List Str}{k n k0:Nat}{W:List Nat}{fb:FS}(h:cB K mg x st f fd ps)(S:aX N ps (ao st))(hn:ps.length=n)(hN:N.length=n+k0)
    (hb:∀(cdv:Value) (A:Around) (outer:List Env) (s:Shared) (H:Hp) (E:XK),cF k (A.deeper (envOfC x (ao st) s.heap.objs.size f cdv))→iB (mR dA P w K mg base N x (ao st) f cdv A outer s H E).nox (bL st) (fS K fb W)):
    a' P w K mg base dA (k+1) f fd ps (dP K n (j8 n k0 W fb)):=by
  refine h.F.ok S (fun vs H Q E q=>?_) fun cdv A outer s H vs Q E hr hsp=>⟨_,hb cdv A outer s H E hr,?_⟩
  · rw [hn];exact q.1
  · obtain⟨hl,F,as,r,as',R,nN,hm,nr,q⟩:=hsp
    unfold j8 at hm
    split at hm
    case isFalse=>cases hm
    case isTrue hc=>
    obtain⟨la,nl⟩:=hc
    obtain⟨fl,h1,hm⟩:=Option.bind_eq_some_iff.mp hm
    have hst:cV N vs=vs.map some++List.replicate k0 none:=by unfold cV;rw [hN,hl];congr 2;lia
    rw [hst]
    have key:∀{as':List Sv} {e':En},pP as e'=some as'→∀F' H' σ',bS W (vs.map some++List.replicate k0 none) F H (as.map some++List.replicate k0 none) σ' F' H' e'→aJ K F' H' σ' e'→
        cK (vs.map some) F H (as.map some) F' H' (as'.map some)∧aJ K F' H' (vs.map some) (as'.map some)∧∀a,bK (vs.map some) (as'.map some) H' a→bK (vs.map some) (as.map some) H a:=by
      intro as' e' hu F' H' σ' X' R'
      obtain⟨u1,u2,u3,u4⟩:=iL hu
      have uN:=lb hu
      have ow:∀a,bK (vs.map some) (as'.map some) H' a→bK (vs.map some) (as.map some) H a:=by
        rintro a ⟨j,⟨ys,c1,c2⟩ | ⟨xss,_,_,z,_⟩⟩
        · obtain⟨⟨xs,c3⟩,_⟩:=u3 j ys (cZ.mp c1)
          exact⟨j,.inl ⟨xs,cZ.mpr c3,c2⟩⟩
        · exact absurd z (uN j xss)
      have sg:∀(j:Nat) (xs:List PyData),as[j]?=some (.l xs)→σ'[j]?=(vs.map some)[j]?:=fun j xs hj=>by
        rw [X'.wr j (lU nl hj)]
        have hj2:j < (vs.map some).length:=by rw [List.length_map,hl,←la];exact(List.getElem?_eq_some_iff.mp hj).1
        rw [List.getElem?_append_left hj2]
      refine⟨⟨X'.sf,X'.dom,fun a vs h1 h2 hn=>X'.fr a vs h1 h2 fun z=>hn (kU.mp z),X'.lst,fun a o ha hn=>X'.tmp a o ha fun z=>hn (kU.mp z),fun j=>?_,fun a z=>.inl (ow a z)⟩,⟨R'.sm,?_,fun j y hj=>?_,fun j ys hj=>?_,fun j xss hj=>absurd hj (uN j xss),fun j i l f1 f2=>?_⟩,ow⟩
      · constructor
        · rintro⟨ys,hj⟩
          obtain⟨⟨xs,c⟩,_⟩:=u3 j ys (cZ.mp hj)
          exact⟨xs,cZ.mpr c⟩
        · rintro⟨xs,hj⟩
          obtain⟨ys,c⟩:=u4 j xs (cZ.mp hj)
          exact⟨ys,cZ.mpr c⟩
      · simp [u1,hl,la]
      · obtain⟨v,c1,c2⟩:=R.dat j y (cZ.mpr ((u2 j y).mp (cZ.mp hj)))
        exact⟨v,c1,DA.mono X'.sf c2⟩
      · obtain⟨⟨xs,c1⟩,c2⟩:=u3 j ys (cZ.mp hj)
        obtain⟨l,us,d1,d2⟩:=R'.own j ys c2
        exact⟨l,us,by rw [←sg j xs c1];exact d1,d2⟩
      · obtain⟨xs,g1,g3⟩:=f1.resolve_right fun⟨xss,_,_,z,_⟩=>uN j xss z
        obtain⟨ys,g2,g4⟩:=f2.resolve_right fun⟨xss,_,_,z,_⟩=>uN i xss z
        obtain⟨⟨zs,c1⟩,c2⟩:=u3 j xs (cZ.mp g1)
        obtain⟨⟨ws,c3⟩,c4⟩:=u3 i ys (cZ.mp g2)
        exact R'.inj j i xs ys l c2 c4 (by rw [sg j zs c1];exact g3) (by rw [sg i ws c3];exact g4)
    refine⟨F,as.map some++List.replicate k0 none,fl,R.pad,h1,?_⟩
    cases fl with
    | bk e'=>cases hm
    | ct e'=>cases hm
    | nx e'=>
      obtain⟨as2,h2,hm⟩:=Option.map_eq_some_iff.mp hm
      cases hm
      intro F' H' σ' X' R'
      obtain⟨X2,R2,_⟩:=key h2 F' H' σ' X' R'
      exact q F' H' .non X2 R2 ((dI (K:=K) (F:=F')).mpr rfl)
    | rt r0 e'=>
      obtain⟨r1,h2,hm⟩:=Option.bind_eq_some_iff.mp hm
      obtain⟨as2,h3,hm⟩:=Option.map_eq_some_iff.mp hm
      cases hm
      intro F' H' σ' v X' R' A'
      obtain⟨X2,R2,ow2⟩:=key h3 F' H' σ' X' R'
      have noo:∀l,H l=none→¬bK (vs.map some) (as'.map some) H' l:=fun l hl z=>R.ownH l (ow2 l z) hl
      refine q F' H' v X2 R2 ?_
      cases r0 with
      | d y=>cases h2;exact A'
      | l ys=>
        cases h2
        obtain⟨l,us,d0,d1,d2,d3,d4,_⟩:=A'
        exact⟨l,us,d0,d1,d2,d3,d4,noo l d1⟩
      | s i=>
        simp only [sQ] at h2
        split at h2
        case isFalse=>cases h2
        case isTrue hi=>
        obtain⟨a1,xs,a2⟩:=A'
        rw [a2] at h2
        cases h2
        obtain⟨l,us,d1,d2,d3,d4⟩:=R'.own i _ a2
        rw [a1] at d1;cases d1
        suffices hl0:H l=none from⟨l,us,rfl,hl0,d2,d3,d4,noo l hl0⟩
        rcases X'.own l ⟨i,.inl ⟨_,a2,a1⟩⟩ with z | z
        · obtain⟨j,zf⟩:=kU.mp z
          obtain⟨ys,z1,z2⟩:=zf.resolve_right fun⟨xss,_,_,z,_⟩=>nN j xss z
          have z1':=cZ.mp z1
          obtain⟨u1,u2,u3,u4⟩:=iL h3
          obtain⟨ws,w1⟩:=u4 j ys z1'
          obtain⟨_,w2⟩:=u3 j ws w1
          have hj2:j < vs.length:=by rw [hl,←la];exact(List.getElem?_eq_some_iff.mp z1').1
          have e3:σ'[j]?=some (some (.ref l)):=by
            rw [X'.wr j (lU nl z1'),List.getElem?_append_left (by simpa using hj2)]
            exact z2
          have:=R'.inj i j _ ws l a2 w2 a1 e3
          lia
        · exact z
end
def ze:Option Sv→Option Sv
  | some (.n _)=>none
  | s=>s
def i0(cp:List (Nat × Str))(nT:Nat)(e:En):En:=cp.map (fun p=>ze (e[p.1]?).join)++List.replicate nT none
def gB(cp:List (Nat × Str))(i:Nat):Option Nat:=cp.findIdx? fun p=>p.1==i
def cM(g:FG)(ft:FT)(fe:FE):List PyData→En→List PyData→Option (List PyData × En)
  | [],e,acc=>some (acc,e)
  | x::r,e,acc=>(g x e).bind fun e1=>(ft e1).bind fun b=>if b.1=true then(fe b.2).bind fun v=>(mT v.1).bind fun d=>if acc.length < 1000000 then cM g ft fe r v.2 (acc++[d]) else none else cM g ft fe r b.2 acc
def gX(cp:List (Nat × Str))(ei e:En):Bool:=cp.all fun p=> !sD e[p.1]? || sD ei[(gB cp p.1).getD 0]?
def bY(cp:List (Nat × Str))(nT:Nat)(fi:FI)(g:FG)(ft:FT)(fe:FE):FE:=fun e=>(fi e).bind fun p=>if (p.2.1.all fun q=> !(cp.any fun c=>c.1==q.1))=true then(cM g ft fe p.1 (i0 cp nT p.2.2) []).bind fun z=>if gX cp z.2 p.2.2=true then some (.l z.1,gQ (gB cp) z.2 p.2.2) else none else none
section
variable{K:PySem.W.Frag}{F H:Hp}{σ:L2.St}{e:En}{cp:List (Nat × Str)}{nT:Nat}
theorem cH{i k:Nat}(h:gB cp i=some k):∃s,cp[k]?=some (i,s):=by
  unfold gB at h
  rw [List.findIdx?_eq_some_iff_getElem] at h
  obtain⟨hk,h1,_⟩:=h
  refine⟨cp[k].2,?_⟩
  rw [List.getElem?_eq_getElem hk]
  have:=eq_of_beq h1
  rw [←this]
theorem fm{k:Nat}{x:Sv}(h:(i0 cp nT e)[k]?=some (some x)):∃i s,cp[k]?=some (i,s)∧e[i]?=some (some x):=by
  unfold i0 at h
  have h:=cJ h
  rw [List.getElem?_map] at h
  obtain⟨p,h1,h2⟩:=Option.map_eq_some_iff.mp h
  refine⟨p.1,p.2,h1,?_⟩
  cases q:e[p.1]? with
  | none=>rw [q] at h2;cases h2
  | some y=>
    rw [q] at h2
    match y,h2 with
    | some (.d z),h2=>exact congrArg some h2
    | some (.l z),h2=>exact congrArg some h2
    | some (.n z),h2=>cases h2
    | none,h2=>cases h2
theorem fv:yA (i0 cp nT e):=by
  intro k xss h
  unfold i0 at h
  have h:=cJ h
  rw [List.getElem?_map] at h
  obtain⟨p,h1,h2⟩:=Option.map_eq_some_iff.mp h
  match (e[p.1]?).join,h2 with
  | some (.d z),h2=>cases h2
  | some (.l z),h2=>cases h2
  | some (.n z),h2=>cases h2
  | none,h2=>cases h2
theorem iJ{k i:Nat}{s:Str}{v:V}(h:cp[k]?=some (i,s))(hv:σ[i]?=some (some v)):(cA cp nT σ)[k]?=some (some v):=by
  unfold cA
  refine cP ?_
  rw [List.getElem?_map,h]
  simp [hv]
theorem jo{k i:Nat}{s:Str}{v:V}(h:cp[k]?=some (i,s))(hv:(cA cp nT σ)[k]?=some (some v)):σ[i]?=some (some v):=by
  unfold cA at hv
  have hv:=cJ hv
  rw [List.getElem?_map,h] at hv
  simp only [Option.map_some,Option.some.injEq] at hv
  cases q:σ[i]? with
  | none=>rw [q] at hv;cases hv
  | some y=>rw [q] at hv;exact congrArg some hv
theorem kJ:∀{cp:List (Nat × Str)} {k j i:Nat} {s t:Str},(cp.map (·.1)).Nodup→cp[k]?=some (i,s)→cp[j]?=some (i,t)→k=j
  | [],k,j,i,s,t,_,h,_=>by simp at h
  | p::r,k,j,i,s,t,hn,h1,h2=>by
    simp only [List.map_cons,List.nodup_cons] at hn
    cases k with
    | zero=>
      simp at h1;subst h1
      cases j with
      | zero=>rfl
      | succ j=>
        have hm:(i,t)∈r:=List.mem_of_getElem? (i:=j) (by simpa using h2)
        exact absurd (List.mem_map.mpr ⟨(i,t),hm,rfl⟩) hn.1
    | succ k=>
      cases j with
      | zero=>
        simp at h2;subst h2
        have hm:(i,s)∈r:=List.mem_of_getElem? (i:=k) (by simpa using h1)
        exact absurd (List.mem_map.mpr ⟨(i,s),hm,rfl⟩) hn.1
      | succ j=>
        have:=kJ (cp:=r) (k:=k) (j:=j) hn.2 (by simpa using h1) (by simpa using h2)
        lia
theorem aJ.inn(R:aJ K F H σ e)(hn:(cp.map (·.1)).Nodup):aJ K F H (cA cp nT σ) (i0 cp nT e)∧lj σ e (cA cp nT σ) (i0 cp nT e) (gB cp):=by
  refine⟨⟨R.sm,by simp [cA,i0],fun k x h=>?_,fun k xs h=>?_,fun k xss h=>absurd h (fv k xss),fun k j l f1 f2=>?_⟩,⟨fun i k xs h1 h2=>?_,fun k ys h=>?_⟩⟩
  · obtain⟨i,s,h1,h2⟩:=fm h
    obtain⟨v,g1,g2⟩:=R.dat i x h2
    exact⟨v,iJ h1 g1,g2⟩
  · obtain⟨i,s,h1,h2⟩:=fm h
    obtain⟨l,vs,g1,g2⟩:=R.own i xs h2
    exact⟨l,vs,iJ h1 g1,g2⟩
  · obtain⟨xs,h1,h3⟩:=f1.resolve_right fun⟨xss,_,_,z,_⟩=>fv k xss z
    obtain⟨ys,h2,h4⟩:=f2.resolve_right fun⟨xss,_,_,z,_⟩=>fv j xss z
    obtain⟨i,s,a1,a2⟩:=fm h1
    obtain⟨i',s',b1,b2⟩:=fm h2
    have:i=i':=R.inj i i' xs ys l a2 b2 (jo a1 h3) (jo b1 h4)
    subst this
    exact kJ hn a1 b1
  · obtain⟨s,g⟩:=cH h2
    obtain⟨l,vs,g1,_⟩:=R.own i xs h1
    rw [g1];exact iJ g g1
  · obtain⟨i,s,h1,h2⟩:=fm h
    obtain⟨l,vs,g1,_⟩:=R.own i ys h2
    refine⟨i,ys,h2,?_,by rw [g1];exact iJ h1 g1⟩
    cases hp:gB cp i with
    | none=>
      unfold gB at hp
      rw [List.findIdx?_eq_none_iff] at hp
      have:=hp _ (List.mem_of_getElem? h1)
      simp at this
    | some j=>
      obtain⟨t,g⟩:=cH hp
      rw [kJ hn g h1]
theorem aJ.putT(R:aJ K F H σ e){l:Addr}{ws:List V}(h1:F l=none)(h2:¬bK σ e H l):aJ K F (aQ H l (.lst ws)) σ e∧∀a,bK σ e (aQ H l (.lst ws)) a↔ bK σ e H a:=
  R.keep (aq.refl F) (fun b o q=>by
    have z:b≠l:=fun z=>by rw [z,h1] at q;cases q
    rw [ap z];exact R.sm b o q) (fun a ⟨i,h⟩=>(R.fpAt h).1) fun a o ha q=>by
      have z:a≠l:=fun z=>h2 (by rw [←z];exact ha)
      rw [ap z];exact q
theorem bS.putT{W:List Nat}{σ':L2.St}{F' H':Hp}{e':En}(x:bS W σ F H e σ' F' H' e'){l:Addr}{o:HO}(h:H l=none)(ho:∀a,bK σ' e' (aQ H' l o) a↔ bK σ' e' H' a):bS W σ F H e σ' F' (aQ H' l o) e':=by
  refine⟨x.sf,fun a q=>?_,x.fr,fun a vs q=>?_,fun a u q n=>?_,fun a q=>x.own a ((ho a).mp q),x.wr⟩
  · by_cases z:a=l
    · rw [z];exact h
    · rw [ap z] at q;exact x.dom a q
  · have z:a≠l:=fun z=>by rw [z,h] at q;cases q
    rw [ap z];exact x.lst a vs q
  · have z:a≠l:=fun z=>by rw [z,h] at q;cases q
    rw [ap z];exact x.tmp a u q n
inductive CI (K:PySem.W.Frag) (W:List Nat) (σ0:L2.St) (F1 H1:Hp) (e0:En) (l:Addr) (P:Hp→En→List PyData→Prop) (σ':L2.St) (H':Hp):Prop
  | mk {F':Hp} {ei:En} {acc:List PyData} {vs:List V} (R:aJ K F' H' σ' ei) (X:bS W σ0 F1 H1 e0 σ' F' H' ei) (fl:F' l=none) (no:¬bK σ' ei H' l) (hl:H' l=some (.lst vs)) (da:ay K F' acc vs) (hc:P F' ei acc):CI K W σ0 F1 H1 e0 l P σ' H'
theorem my{Q:VK}{fi:FI}{g:FG}{W:List Nat}{ft:FT}{fe:FE}(hn:(cp.map (·.1)).Nodup)(hW:∀j∈W,cp.length≤j)(h:fE K (bY cp nT fi g ft fe) σ H Q):oG cp nT (fI K fi) (fG K g W) (fT K ft) (fE K fe) σ H Q:=by
  obtain⟨F0,e0,z,e',R0,hf,q⟩:=h
  unfold bY at hf
  obtain⟨⟨items,own,e1⟩,h1,hf⟩:=Option.bind_eq_some_iff.mp hf
  dsimp only at hf
  split at hf
  case isFalse=>cases hf
  case isTrue hO=>
  obtain⟨⟨out,eo⟩,h2,hf⟩:=Option.bind_eq_some_iff.mp hf
  dsimp only at hf
  split at hf
  case isFalse=>cases hf
  case isTrue hB=>
  cases hf
  refine⟨⟨F0,e0,items,own,e1,R0,h1,fun J F1 H1 X1 R1 kp ok=>?_⟩⟩
  intro l hl
  obtain⟨Ri,sub⟩:=R1.inn (nT:=nT) hn
  have hFl:F1 l=none:=R1.freeF hl
  let Iv:Nat→L2.St→Hp→Prop:=fun i=>CI K W (cA cp nT σ) F1 H1 (i0 cp nT e1) l fun _ ei acc=>cM g ft fe (items.drop i) ei acc=some (out,eo)
  have notown:∀p∈own,∀a,σ[p.1]?=some (some (.ref a))→¬bK (cA cp nT σ) (i0 cp nT e1) H1 a:=by
    rintro p hp a ha ⟨k,zf⟩
    obtain⟨xs,c1,c2⟩:=zf.resolve_right fun⟨xss,_,_,z,_⟩=>fv k xss z
    obtain⟨i,s,d1,d2⟩:=fm c1
    have e2:=jo d1 c2
    have:p.1=i:=R1.inj p.1 i p.2 xs a (kp p hp) d2 ha e2
    have hh:=List.all_eq_true.mp hO p hp
    simp only [Bool.not_eq_true',List.any_eq_false,beq_iff_eq] at hh
    exact hh (i,s) (List.mem_of_getElem? d1) this.symm
  refine⟨fun i m σ' H'=>m=items.length - i∧i≤items.length∧Iv i σ' H',⟨items.length,by simp,Nat.zero_le _,.mk (Ri.putT hFl (fun z=>(Ri.ownH l z) hl)).1 (bS.refl.putT hl (Ri.putT hFl (fun z=>(Ri.ownH l z) hl)).2) hFl (fun z=>(Ri.ownH l (((Ri.putT hFl (fun z=>(Ri.ownH l z) hl)).2 l).mp z)) hl) ar ay.nil h2⟩,?_⟩
  rintro i m σ' H' ⟨rfl,hi,⟨R',X',fl,no,hl',da,hc⟩⟩
  rename_i F' ei acc vs
  have held:pW K σ F' H' own:=fun p hp=>by
    obtain⟨a,us,c1,c2,c3,c4⟩:=R1.own p.1 p.2 (kp p hp)
    exact⟨a,us,c1,X'.tmp a _ c3 (notown p hp a c1),c4.mono X'.sf⟩
  obtain⟨go,stop,yld⟩:=ok F' H' X'.sf R'.sm held
  by_cases hlt:i < items.length
  · have hd:items.drop i=items[i]::items.drop (i+1):=List.drop_eq_getElem_cons hlt
    rw [hd] at hc
    unfold cM at hc
    obtain⟨e2,c2,hc⟩:=Option.bind_eq_some_iff.mp hc
    obtain⟨⟨b,e3⟩,c3,hc⟩:=Option.bind_eq_some_iff.mp hc
    refine .inr ⟨go i hlt,Iv (i+1),fun σ2 H2 r=>⟨items.length - (i+1),by lia,rfl,hlt,r⟩,fun x H2 hy=>?_⟩
    obtain⟨F2,sH,sF2,sm2,fz,hx⟩:=yld i items[i] x H2 (List.getElem?_eq_getElem hlt) hy
    obtain⟨R2,X2⟩:=R'.step sH sF2 sm2 fz
    refine⟨F2,ei,items[i],e2,R2,hx,c2,fun σ3 X3 R3=>⟨F2,e2,b,e3,R3,c3,fun F4 H4 X4 R4=>?_⟩⟩
    have hlH2:H2 l=some (.lst vs):=sH _ _ hl'
    have no2:¬bK σ' ei H2 l:=fun z=>by
      rcases X2.ow l z with z | z
      · exact no z
      · rw [hl'] at z;cases z
    have no3:¬bK σ3 e2 H2 l:=fun z=>by
      rcases X3.own l z with z | z
      · exact no2 z
      · rw [hlH2] at z;cases z
    have fl2:F2 l=none:=fz l fl (by rw [hl'];simp)
    have hlH4:H4 l=some (.lst vs):=X4.tmp l _ hlH2 no3
    have fl4:F4 l=none:=X4.fr l vs fl2 hlH2 no3
    have no4:¬bK σ3 e3 H4 l:=fun z=>by
      rcases X4.ow l z with z | z
      · exact no3 z
      · rw [hlH2] at z;cases z
    have E4:bS W (cA cp nT σ) F1 H1 (i0 cp nT e1) σ3 F4 H4 e3:=((X'.trans X2.s).trans X3).trans X4.s
    cases b with
    | false=>
      rw [if_neg (by simp)] at hc
      exact y_ (.mk R4 E4 fl4 no4 hlH4 (da.mono (sF2.trans X4.sf)) hc)
    | true=>
      rw [if_pos rfl] at hc
      obtain⟨⟨r,e5⟩,c5,hc⟩:=Option.bind_eq_some_iff.mp hc
      obtain⟨d,c6,hc⟩:=Option.bind_eq_some_iff.mp hc
      split at hc
      case isFalse=>cases hc
      case isTrue hlen=>
      refine ti ⟨F4,e3,r,e5,R4,c5,fun F5 H5 v X5 R5 A5=>?_⟩
      have hlH5:H5 l=some (.lst vs):=X5.tmp l _ hlH4 no4
      have fl5:F5 l=none:=X5.fr l vs fl4 hlH4 no4
      have no5:¬bK σ3 e5 H5 l:=fun z=>by
        rcases X5.ow l z with z | z
        · exact no4 z
        · rw [hlH4] at z;cases z
      obtain⟨F6,R6,s6,d6,f6⟩:=cE.frozen R5 (rs:=[r]) (vs:=[v]) ⟨v,[],rfl,A5,rfl⟩ (oV c6)
      have fl6:F6 l=none:=f6 l fl5 (by rw [hlH4];simp)
      have X6:=X5.frz s6 f6
      have ll:=da.len
      have sl:sizeLine=16777216:=sizeLine_eq
      have dv:DA K F6 d v:=by
        simp only [ay] at d6
        obtain⟨v',r',e',hv,_⟩:=d6
        cases e';exact hv
      obtain⟨R7,o7⟩:=R6.putT (ws:=vs++[v]) fl6 no5
      exact⟨vs,hlH5,by lia,.mk R7 ((E4.trans X6.s).putT hl o7) fl6 (fun z=>no5 ((o7 l).mp z)) ar ((da.mono (sF2.trans (X4.sf.trans (X5.sf.trans s6)))).append (ay.one dv)) hc⟩
  · have hd:items.drop i=[]:=List.drop_eq_nil_of_le (by lia)
    rw [hd] at hc
    cases hc
    refine .inl ⟨stop i (by lia),?_⟩
    obtain⟨R9,X9,o9⟩:=jt R1 sub fv X'.sf X'.dom X'.fr X'.lst X'.tmp R' (fun i k xs g1 g2=>X'.wr k fun z=>by
      obtain⟨s,g⟩:=cH g2
      have:=(List.getElem?_eq_some_iff.mp g).1
      have:=hW k z
      lia) fun i k xs g1 g2=>by
        obtain⟨s,g⟩:=cH g2
        unfold gX at hB
        have hb:=List.all_eq_true.mp hB _ (List.mem_of_getElem? g)
        simp only [g1,g2,Option.getD_some,sD,Bool.not_true,Bool.false_or] at hb
        exact tf.mp hb
    exact q F' H' (.ref l) (X1.trans X9) R9 ⟨l,vs,rfl,X1.dom l hl,fl,hl',da,fun z=>R1.ownH l (o9 l z) hl⟩
end
end L2
namespace L2
open PySem PySem.Spec PyProof.Rows
section
variable{X:Cx}{K:PySem.W.Frag}{a b:Expr}{es:List Expr}{fa fb:FE}{fs:FA}{pos p p2 p3:Pos}{lo hi:Option Expr}
def AB:En→Rv→Option Rv:=fun _ x=>(bJ x).map fun i=>.d (.int (-i))
theorem cz(hK:X.K=K)(ha:PE X a (fE K fa))(hb:PE X b (fE K fb)):PE X (.BinOp a .Add b pos) (fE K (ax cy fa fb)):=jc (hK ▸ tO) yM ha hb
theorem rG(ha:PE X a (fE K fa))(hb:PE X b (fE K fb)):PE X (.BinOp a .Sub b pos) (fE K (ax hJ fa fb)):=jc xw zO ha hb
theorem iy(hK:X.K=K)(ha:PE X a (fE K fa))(hb:PE X b (fE K fb)):PE X (.BinOp a .Mult b pos) (fE K (ax fK fa fb)):=jc (hK ▸ tS) zm ha hb
theorem dR(ha:PE X a (fE K fa))(hb:PE X b (fE K fb)):PE X (.BinOp a .FloorDiv b pos) (fE K (ax cj fa fb)):=jc qY wy ha hb
theorem aP(ha:PE X a (fE K fa))(hb:PE X b (fE K fb)):PE X (.BinOp a .Mod b pos) (fE K (ax aO fa fb)):=jc tR zl ha hb
theorem vK(ha:PE X a (fE K fa))(hb:PE X b (fE K fb)):PE X (.BinOp a .Pow b pos) (fE K (ax mW fa fb)):=jc xr zw ha hb
theorem zA(ha:PE X a (fE K fa))(hb:PE X b (fE K fb)):PE X (.BinOp a .LShift b pos) (fE K (ax sZ fa fb)):=jc xu zM ha hb
theorem cR(hK:X.K=K)(ha:PE X a (fE K fa))(hb:PE X b (fE K fb))(hs:iD b):PE X (.Subscript a b pos) (fE K (ax cT fa fb)):=zB (hK ▸ AN) AO ha hb hs
theorem ur{fl fh:FO}(hK:X.K=K)(he:PE X a (fE K fa))(hl:PO X lo (fO K fl))(hh:PO X hi (fO K fh)):PE X (.Subscript a (.Slice lo hi none p2) pos) (fE K (yq fa fl fh)):=by subst hK;exact rJ he hl hh
structure lh (X:Cx) (K:PySem.W.Frag) (op:CmpOp) (g:En→Rv→Rv→Option Rv):Prop where
  ex:∃r,eJ X (compareOp op) r∧et K r g
theorem yU:lh X K .Lt yz:=⟨_,zr,AS⟩
theorem yS:lh X K .Gt y0:=⟨_,zq,AF⟩
theorem yR:lh X K .GtE yZ:=⟨_,zp,AE⟩
theorem ky{k:Nat}(hK:X.K=K)(hr:cF k X.A):lh X K .Eq (cO false):=⟨_,hK ▸ xh hr,vk⟩
theorem wk{k:Nat}(hK:X.K=K)(hr:cF k X.A):lh X K .NotEq (cO true):=⟨_,hK ▸ xq hr,vk⟩
theorem yT:lh X K .Is y1:=⟨_,xj,AM⟩
theorem l6{op:CmpOp}{g:En→Rv→Rv→Option Rv}(h:lh X K op g)(ha:PE X a (fE K fa))(hb:PE X b (fE K fb))(hm:behindInMarks op b=false):PE X (.Compare a [op] [b] pos) (fE K (ax g fa fb)):=by
  obtain⟨r,h1,h2⟩:=h.ex;exact xQ h1 h2 ha hb hm
theorem cf{op:CmpOp}{g:En→Rv→Rv→Option Rv}(h:lh X K op g)(ha:PE X a (fE K fa))(hb:PE X b (fE K fb))(hm:behindInMarks op b=false):PT X (.Compare a [op] [b] pos) (fT K (bf (ax g fa fb))):=by
  obtain⟨r,h1,h2⟩:=h.ex;exact xT h1 h2 ha hb hm
structure lg (X:Cx) (K:PySem.W.Frag) (x:Str) (g:En→List Rv→Option Rv):Prop where
  ex:(∃id r,dG X (.builtin id) r∧dF K r g∧bootBuiltins x=some (.builtin id))∨∃T r,dG X (.type T) r∧dF K r g∧bootBuiltins x=some (.type T)
theorem bb{x:Str}{g:En→List Rv→Option Rv}(h:lg X K x g)(hg:Gl X x)(hm:X.mg x=none)(ha:PA X (a::es) (fA K fs))(hn:x≠"__name__")(hdb:(x==("__debug__":Str))=false)
    (he:starEach (a::es) X.env=(false,eval a X.env)::starEach es X.env)(hpl:(backTo pos (starEach es X.env)).any (·.1)=false):PE X (.Call (.Name x p) (a::es) [] pos) (fE K (aR g fs)):=by
  rcases h.ex with ⟨id,r,h1,h2,h3⟩ | ⟨T,r,h1,h2,h3⟩
  · exact rH h1 h2 hg hm h3 ha hn hdb he hpl
  · exact pG h1 h2 hg hm h3 ha hn hdb he hpl
theorem b_len(hK:X.K=K):lg X K "len" (g1 cC):=⟨.inl ⟨_,_,hK ▸ kz,zc,PySem.boot_len⟩⟩
theorem b_abs:lg X K "abs" (g1 oY):=⟨.inl ⟨_,_,p_,yL,PyProof.Rows.boot_abs⟩⟩
theorem b_min(hc:X.calm=true):lg X K "min" (g2 qt):=⟨.inl ⟨_,_,oS hc,zi,PyProof.Rows.boot_min⟩⟩
theorem b_max(hc:X.calm=true):lg X K "max" (g2 o5):=⟨.inl ⟨_,_,oR hc,zh,PyProof.Rows.boot_max⟩⟩
theorem b_int:lg X K "int" (g1 oZ):=⟨.inr ⟨_,_,oQ,y4,PyProof.Rows.boot_int⟩⟩
theorem b_tuple(hK:X.K=K):lg X K "tuple" (g1 bQ):=⟨.inr ⟨_,_,hK ▸ jD,uR,PyProof.Rows.boot_tuple⟩⟩
theorem b_repr{k:Nat}(hK:X.K=K)(hr:cF k X.A):lg X K "repr" (g1 iu):=⟨.inl ⟨_,_,hK ▸ mQ hr,x8,PyProof.Rows.boot_repr⟩⟩
abbrev cW:FT:=fun e=>some (true,e)
theorem nI.mono{ifs:List Expr}{t t':TT}(h:nI X ifs t)(m:∀σ H Q,t' σ H Q→t σ H Q):nI X ifs t':=fun pins s σ H Q I q=>h pins s σ H Q I (m σ H Q q)
theorem gD:nI X [] (fT K cW):=kX.mono fun σ H Q h=>by
  obtain⟨F,e,b,e',R,hf,q⟩:=h
  cases hf
  exact q F H (cK.refl _ _ _ _) R
theorem uB{c:Expr}{ft:FT}(h:PT X c (fT K ft)):nI X [c] (fT K ft):=ul h
theorem nj{elt iter tg:Expr}{ifs:List Expr}{scope:Scope}{fi:FI}{g:FG}{ft:FT}{fe:FE}{W:List Nat}(sc0:Scope)(N0:List Str)(cp:List (Nat × Str))(tgN:List Str)
    (hc:X.calm=true)(hsc:X.env.scope=sc0)(hN0:X.N=N0)(hi:PI X tg iter (fI K fi))
    (hg:∀C s0 H0 fp,PG (am X scope cp tgN C s0 H0 fp) tg (fG K g W))
    (ht:∀C s0 H0 fp,nI (am X scope cp tgN C s0 H0 fp) ifs (fT K ft))
    (he:∀C s0 H0 fp,PE (am X scope cp tgN C s0 H0 fp) elt (fE K fe))
    (hk:scope.kind=.function)(hcell:∀y∈scope.names,y.2≠.cell)(hnames:∀y∈scope.names,y.2=.local→scope.names.lookup y.1=some .local)
    (hfr:∀y∈scope.names,y.2=.free→scope.names.lookup y.1=some .free∧sc0.names.lookup y.1=some .cell)
    (hcp:∀p∈cp,N0[p.1]?=some p.2)(hcq:∀p∈cp,sc0.names.lookup p.2=some .cell∧scope.names.lookup p.2=some .free)(hnd:(cp.map (·.1)).Nodup)(hW:∀j∈W,cp.length≤j)
    (hs:∀x,foldedSetIterable iter X.env x=pure x):
    PE X (.ListComp elt [⟨tg,iter,ifs,0⟩] scope pos) (fE K (bY cp tgN.length fi g ft fe)):=(tY sc0 N0 cp tgN hc hsc hN0 hi hg ht he hk hcell hnames hfr hcp hcq hs).mono fun _ _ _ h=>my hnd hW h
theorem ic{ix:Nat}{nm:Str}{posn poss:Pos}{elt iter tg:Expr}{ifs:List Expr}{scope:Scope}{fi:FI}{g:FG}{ft:FT}{fe:FE}{W:List Nat}(sc0:Scope)(N0:List Str)(cp:List (Nat × Str))(tgN:List Str)
    (hc:X.calm=true)(hsc:X.env.scope=sc0)(hN0:X.N=N0)(hi:PI X tg iter (fI K fi))
    (hg:∀C s0 H0 fp,PG (am X scope cp tgN C s0 H0 fp) tg (fG K g W))
    (ht:∀C s0 H0 fp,nI (am X scope cp tgN C s0 H0 fp) ifs (fT K ft))
    (he:∀C s0 H0 fp,PE (am X scope cp tgN C s0 H0 fp) elt (fE K fe))
    (hk:scope.kind=.function)(hcell:∀y∈scope.names,y.2≠.cell)(hnames:∀y∈scope.names,y.2=.local→scope.names.lookup y.1=some .local)
    (hfr:∀y∈scope.names,y.2=.free→scope.names.lookup y.1=some .free∧sc0.names.lookup y.1=some .cell)
    (hcp:∀p∈cp,N0[p.1]?=some p.2)(hcq:∀p∈cp,sc0.names.lookup p.2=some .cell∧scope.names.lookup p.2=some .free)(hnd:(cp.map (·.1)).Nodup)(hW:∀j∈W,cp.length≤j)
    (hNd:X.N.Nodup)(hix:X.N[ix]?=some nm)(hlc:X.env.scope.names.lookup nm=some .local)(hsw:swapsWith (.ListComp elt [⟨tg,iter,ifs,0⟩] scope pos) (some (.Name nm posn)) poss.line X.env=pure true)
    (hs:∀x,foldedSetIterable iter X.env x=pure x):
    PS X (.Assign [.Name nm posn] (.ListComp elt [⟨tg,iter,ifs,0⟩] scope pos) poss) (fS K (a9 ix (bY cp tgN.length fi g ft fe)) [ix]):=(ni sc0 N0 cp tgN hc hsc hN0 hi hg ht he hk hcell hnames hfr hcp hcq hNd hix hlc hsw hs).mono fun D σ H h=>by
  obtain⟨F,e,fl,R,hf,q⟩:=h
  unfold a9 at hf
  obtain⟨⟨r,e1⟩,h1,hf⟩:=Option.bind_eq_some_iff.mp hf
  obtain⟨e2,h2,hf⟩:=Option.map_eq_some_iff.mp hf
  cases hf
  refine my hnd hW ⟨F,e,r,e1,R,h1,fun F1 H1 v X1 R1 A1=>?_⟩
  obtain⟨x,R2⟩:=rE R X1 R1 A1 h2
  exact q F1 H1 _ x R2
variable{o:Expr}{fo:FE}{apos cpos:Pos}
theorem du(hK:X.K=K)(ho:PE X o (fE K fo))(ha:PA X (a::es) (fA K fs))(hbase:attributeBase o "append" X.env (eval o X.env)=eval o X.env)
    (hfew:((backTo cpos (starEach (a::es) X.env)).all (fun x=> !x.1)&&(backToKw cpos (keywordEach [] X.env)).all (fun x=>x.1.isSome)
      &&decide ((a::es).length+([]:List Keyword).length+(if ([]:List Keyword).isEmpty then 0 else 1) < 30))=true)
    (hline:(apos.endLine==cpos.line)=true)(hs:starEach (a::es) X.env=(false,eval a X.env)::starEach es X.env)(hplain:(backTo cpos (starEach es X.env)).any (·.1)=false):
    PE X (.Call (.Attribute o "append" apos) (a::es) [] cpos) (fE K (cX bM fo fs)):=by
  subst hK;exact vL PySem.F.slot_list_append PySem.F.type_list_append ee pY ho ha hbase hfew hline hs hplain
theorem uq(hK:X.K=K)(ho:PE X o (fE K fo))(ha:PA X (a::es) (fA K fs))(hbase:attributeBase o "pop" X.env (eval o X.env)=eval o X.env)
    (hfew:((backTo cpos (starEach (a::es) X.env)).all (fun x=> !x.1)&&(backToKw cpos (keywordEach [] X.env)).all (fun x=>x.1.isSome)
      &&decide ((a::es).length+([]:List Keyword).length+(if ([]:List Keyword).isEmpty then 0 else 1) < 30))=true)
    (hline:(apos.endLine==cpos.line)=true)(hs:starEach (a::es) X.env=(false,eval a X.env)::starEach es X.env)(hplain:(backTo cpos (starEach es X.env)).any (·.1)=false):
    PE X (.Call (.Attribute o "pop" apos) (a::es) [] cpos) (fE K (cX hZ fo fs)):=by
  subst hK;exact vL PySem.F.slot_list_pop PySem.F.type_list_pop qO ug ho ha hbase hfew hline hs hplain
end
end L2
namespace L2
open PySem PySem.Spec PyProof.Rows
theorem nq{K:PySem.W.Frag}{H:Hp}{a:Addr}{ns:List Int}{m:FM}{as':List Sv}{Q:VK}{E:XK}(hS:er K H a (ns.map V.int))(hm:m [.d (.list (ns.map .int))]=some (.d (.bool true),as'))(q:∀H',Q (.bl true) H'):dP K 1 m [.ref a] H Q E:=by
  refine⟨rfl,H,[.d (.list (ns.map .int))],_,as',?_,?_,hm,trivial,fun F' H' v X' R' A'=>?_⟩
  · refine⟨aq.refl _,rfl,fun i x h=>?_,fun i xs h=>?_,fun i xss h=>?_,fun i j l f1 _=>?_⟩
    · match i,h with
      | 0,h=>
        simp at h;subst h
        exact⟨.ref a,rfl,bG.mpr ⟨a,_,rfl,hS,ay.ints.mpr rfl⟩⟩
      | i+1,h=>simp at h
    · match i,h with
      | 0,h=>simp at h
      | i+1,h=>simp at h
    · match i,h with
      | 0,h=>simp at h
      | i+1,h=>simp at h
    · rcases f1 with ⟨_,h,_⟩ | ⟨_,_,_,h,_⟩
      · match i,h with
        | 0,h=>simp at h
        | i+1,h=>simp at h
      · match i,h with
        | 0,h=>simp at h
        | i+1,h=>simp at h
  · intro i xss h
    match i,h with
    | 0,h=>simp at h
    | i+1,h=>simp at h
  · rw [cv.mp (show DA K F' (.bool true) v from A')];exact q H'
end L2
namespace L2
open PySem PySem.Spec PyProof.Rows
section
variable{K:PySem.W.Frag}{σ:L2.St}{H0 F H F' H':Hp}{e e':En}
theorem aJ.putN(R:aJ K F H σ e){i:Nat}{xss yss:List (List PyData)}{l:Addr}{bs:List Addr}{H':Hp}(hi:e[i]?=some (some (.n xss)))(hs:σ[i]?=some (some (.ref l)))
    (hF:F l=none)(hl:H' l=some (.lst (bs.map V.ref)))(hlen:bs.length=yss.length)(hnd:bs.Nodup)(hnl:l∉bs)(hin:∀(k:Nat) (b:Addr) (ys:List PyData),bs[k]?=some b→yss[k]?=some ys→F b=none∧∃us,H' b=some (.lst us)∧ay K F ys us)
    (hbs:∀b∈bs,Fp σ e H i b∨¬bK σ e H b)(hdom:∀a,H' a=none→H a=none)(hst:∀a o,H a=some o→a≠l→a∉bs→H' a=some o)(hlst:∀a vs,H a=some (.lst vs)→∃vs',H' a=some (.lst vs')):
    aJ K F H' σ (e.set i (some (.n yss)))∧(∀a,bK σ (e.set i (some (.n yss))) H' a→bK σ e H a∨a∈bs)∧∀j:Nat,(∃xs,(e.set i (some (Sv.n yss)))[j]?=some (some (.l xs)))↔ (∃xs,e[j]?=some (some (.l xs))):=by
  have hlt:i < e.length:=(List.getElem?_eq_some_iff.mp hi).1
  have gi:(e.set i (some (Sv.n yss)))[i]?=some (some (.n yss)):=List.getElem?_set_self hlt
  obtain⟨l0,bs0,a1,a2,a3,_⟩:=R.nst i xss hi
  rw [hs] at a1;cases a1
  have fl:Fp σ e H i l:=.inr ⟨xss,l,bs0,hi,hs,a3,.inl rfl⟩
  have own:∀j a,j≠i→Fp σ e H j a→a≠l∧a∉bs:=fun j a hj hq=>by
    refine⟨fun z=>hj (R.fp j i a hq (by rw [z];exact fl)),fun z=>?_⟩
    rcases hbs a z with h | h
    · exact hj (R.fp j i a hq h)
    · exact h ⟨j,hq⟩
  have fpi:∀a,Fp σ (e.set i (some (.n yss))) H' i a→a=l∨a∈bs:=fun a q=>by
    rcases q with ⟨zs,q,_⟩ | ⟨zss,l',bs',q,q2,q3,q4⟩
    · rw [gi] at q;cases q
    · rw [hs] at q2;cases q2
      rw [hl] at q3
      have e1:bs=bs':=List.map_inj_right (fun _ _ z=>V.ref.inj z) |>.mp (HO.lst.inj (Option.some.inj q3))
      subst e1;exact q4
  obtain⟨R',fs⟩:=R.upd1 (F':=F) (H':=H') (e':=e.set i (some (.n yss))) i (by rw [List.length_set];exact R.len) (fun _ _=>rfl) (fun j hj=>List.getElem?_set_ne (Ne.symm hj)) (aq.refl F)
    (fun b o q=>by
      have z1:b≠l:=fun z=>by rw [z,hF] at q;cases q
      have z2:b∉bs:=fun z=>by
        obtain⟨k,hk⟩:=List.getElem?_of_mem z
        have hk2:k < yss.length:=by rw [←hlen];exact(List.getElem?_eq_some_iff.mp hk).1
        rw [(hin k b yss[k] hk (List.getElem?_eq_getElem hk2)).1] at q;cases q
      exact hst b o (R.sm b o q) z1 z2)
    (fun j a _ q=>(R.fpAt q).1) (fun j a o hj q ha=>let ⟨z1,z2⟩:=own j a hj q;hst a o ha z1 z2)
    (fun x q=>by rw [gi] at q;cases q) (fun zs q=>by rw [gi] at q;cases q) (fun zss q=>by rw [gi] at q;cases q;exact⟨l,bs,hs,hF,hl,hlen,hnd,hnl,hin⟩)
    (fun a j hj q q2=>by
      obtain⟨z1,z2⟩:=own j a hj q2
      exact(fpi a q).elim z1 z2)
  refine⟨R',fun a ⟨j,q⟩=>?_,fun j=>?_⟩
  · by_cases z:j=i
    · subst z
      rcases fpi a q with z | z
      · exact .inl ⟨j,by rw [z];exact fl⟩
      · exact .inr z
    · exact .inl ⟨j,(fs j a z).mp q⟩
  · by_cases z:j=i
    · subst z;rw [gi,hi];simp
    · rw [List.getElem?_set_ne (Ne.symm z)]
theorem aJ.frzN(R:aJ K F H σ e){i:Nat}{xss:List (List PyData)}(hi:e[i]?=some (some (.n xss))):∃F' v,σ[i]?=some (some v)∧DA K F' (.list (xss.map .list)) v∧aJ K F' H σ (e.set i (some (.d (.list (xss.map .list)))))∧cK σ F H e F' H (e.set i (some (.d (.list (xss.map .list))))):=by
  obtain⟨l,bs,a1,a2,a3,a4,a5,a6,a7⟩:=R.nst i xss hi
  have hlt:i < e.length:=(List.getElem?_eq_some_iff.mp hi).1
  have inF:∀a,a=l∨a∈bs→Fp σ e H i a:=fun a h=>.inr ⟨xss,l,bs,hi,a1,a3,h⟩
  let F':Hp:=fun a=>if a=l∨a∈bs then H a else F a
  have pos:∀a,(a=l∨a∈bs)→F' a=H a:=fun a h=>if_pos h
  have neg:∀a,¬(a=l∨a∈bs)→F' a=F a:=fun a h=>if_neg h
  have sF:aq F F':=fun b o q=>by
    have z:¬(b=l∨b∈bs):=fun z=>by rw [(R.fpAt (inF b z)).1] at q;cases q
    rw [neg b z];exact q
  have sm:aq F' H:=fun b o q=>by
    by_cases z:b=l∨b∈bs
    · rw [pos b z] at q;exact q
    · rw [neg b z] at q;exact R.sm b o q
  have dd:∀(cs:List Addr) (yss:List (List PyData)),cs.length=yss.length→(∀(k:Nat) (b:Addr) (ys:List PyData),cs[k]?=some b→yss[k]?=some ys→b∈bs∧∃us,H b=some (.lst us)∧ay K F ys us)→ay K F' (yss.map .list) (cs.map V.ref):=by
    intro cs
    induction cs with
    | nil=>
      intro yss h _
      cases yss with
      | nil=>exact ay.nil
      | cons _ _=>simp at h
    | cons c cs ih=>
      intro yss h hh
      cases yss with
      | nil=>simp at h
      | cons ys yss=>
        obtain⟨c1,us,c2,c3⟩:=hh 0 c ys rfl rfl
        refine ay.cons (bG.mpr ⟨c,us,rfl,.inl (.inl ?_),c3.mono sF⟩) (ih yss (by simpa using h) fun k b zs q1 q2=>hh (k+1) b zs (by simpa using q1) (by simpa using q2))
        rw [pos c (.inr c1)];exact c2
  have da:DA K F' (.list (xss.map .list)) (.ref l):=bG.mpr ⟨l,_,rfl,.inl (.inl (by rw [pos l (.inl rfl)];exact a3)),dd bs xss a4 fun k b ys q1 q2=>by
    obtain⟨_,us,c2,c3⟩:=a7 k b ys q1 q2
    exact⟨List.mem_of_getElem? q1,us,c2,c3⟩⟩
  have gi:(e.set i (some (Sv.d (.list (xss.map .list)))))[i]?=some (some (.d (.list (xss.map .list)))):=List.getElem?_set_self hlt
  have nofp:∀a,¬Fp σ (e.set i (some (.d (.list (xss.map .list))))) H i a:=fun a q=>by
    rcases q with ⟨zs,q,_⟩ | ⟨xss,_,_,q,_⟩
    · rw [gi] at q;cases q
    · rw [gi] at q;cases q
  obtain⟨R',fs⟩:=R.upd1 (F':=F') (H':=H) (e':=e.set i (some (.d (.list (xss.map .list))))) i (by rw [List.length_set];exact R.len) (fun _ _=>rfl) (fun j hj=>List.getElem?_set_ne (Ne.symm hj)) sF sm
    (fun j a hj q=>by
      rw [neg a fun z=>hj (R.fp j i a q (inF a z))]
      exact(R.fpAt q).1)
    (fun j a o _ _ ha=>ha) (fun x q=>by rw [gi] at q;cases q;exact⟨_,a1,da⟩) (fun zs q=>by rw [gi] at q;cases q) (fun zss q=>by rw [gi] at q;cases q) (fun a j hj q=>absurd q (nofp a))
  refine⟨F',.ref l,a1,da,R',⟨sF,fun _ h=>h,fun a vs h1 h2 h3=>?_,fun a vs h=>⟨vs,h⟩,fun _ _ h _=>h,fun j=>?_,fun a ⟨j,q⟩=>?_⟩⟩
  · rw [neg a fun z=>h3 ⟨i,inF a z⟩];exact h1
  · by_cases z:j=i
    · subst z;rw [gi,hi];simp
    · rw [List.getElem?_set_ne (Ne.symm z)]
  · by_cases z:j=i
    · subst z;exact absurd q (nofp a)
    · exact .inl ⟨j,(fs j a z).mp q⟩
theorem aJ.setN(R:aJ K F H σ e)(i:Nat){l:Addr}(h1:F l=none)(h2:H l=some (.lst []))(h4:¬bK σ e H l):aJ K F H (σ.set i (some (.ref l))) (e.set i (some (.n [])))∧∀a,bK (σ.set i (some (.ref l))) (e.set i (some (.n []))) H a→bK σ e H a∨a=l:=by
  have gi:∀s,(e.set i (some (Sv.n [])))[i]?=some (some s)→s=.n []∧i < e.length:=fun s q=>by
    have hlt:i < e.length:=by have:=(List.getElem?_eq_some_iff.mp q).1;simpa using this
    rw [List.getElem?_set_self hlt] at q
    exact⟨(Option.some.inj (Option.some.inj q)).symm,hlt⟩
  have onefp:∀a,Fp (σ.set i (some (.ref l))) (e.set i (some (.n []))) H i a→a=l:=fun a q=>by
    rcases q with ⟨zs,q,q2⟩ | ⟨xss,l',bs,q,q2,q3,q4⟩
    · cases (gi _ q).1
    · obtain⟨_,hlt⟩:=gi _ q
      rw [List.getElem?_set_self (by rw [R.len];exact hlt)] at q2
      cases q2
      rw [h2] at q3
      have:bs=[]:=by
        cases bs with
        | nil=>rfl
        | cons _ _=>have z:=HO.lst.inj (Option.some.inj q3);simp at z
      subst this
      exact q4.elim id fun z=>by cases z
  obtain⟨R',fs⟩:=R.upd1 (F':=F) (H':=H) (σ':=σ.set i (some (.ref l))) (e':=e.set i (some (.n []))) i (by rw [List.length_set,List.length_set];exact R.len) (fun j hj=>List.getElem?_set_ne (Ne.symm hj)) (fun j hj=>List.getElem?_set_ne (Ne.symm hj)) (aq.refl F) R.sm
    (fun j a _ q=>(R.fpAt q).1) (fun j a o _ _ ha=>ha) (fun y q=>by cases (gi _ q).1) (fun zs q=>by cases (gi _ q).1)
    (fun zss q=>by
      obtain⟨z,hlt⟩:=gi _ q
      cases z
      exact⟨l,[],List.getElem?_set_self (by rw [R.len];exact hlt),h1,h2,rfl,List.nodup_nil,by simp,fun k b ys q=>by simp at q⟩)
    (fun a j hj q q2=>h4 ⟨j,by rw [onefp a q] at q2;exact q2⟩)
  refine⟨R',fun a ⟨j,q⟩=>?_⟩
  by_cases z:j=i
  · subst z;exact .inr (onefp a q)
  · exact .inl ⟨j,(fs j a z).mp q⟩
end
def dr(e:En)(i:Nat):Option (List (List PyData)):=match e[i]? with
  | some (some (.n xss))=>some xss
  | _=>none
theorem dm{e:En}{i:Nat}{xss:List (List PyData)}(h:dr e i=some xss):e[i]?=some (some (.n xss)):=by
  unfold dr at h
  split at h
  · rename_i heq;cases h;exact heq
  · cases h
section
variable{X:Cx}{K:PySem.W.Frag}{a b:Expr}{es:List Expr}{fa fb:FE}{fs:FA}{pos p p2 p3 pos':Pos}{x:Str}{i:Nat}
def rX(i:Nat):FS:=fun e=>some (.nx (e.set i (some (.n []))))
theorem uw(hN:X.N.Nodup)(hi:X.N[i]?=some x)(hx:v_ X.env.scope x)(hs:swapsWith (.List [] p) (some (.Name x pos')) pos.line X.env=pure false)(hf:X.fn x=true∨X.env.scope.names.lookup x=some .local):
    PS X (.Assign [.Name x pos'] (.List [] p) pos) (fS K (rX i) [i]):=(rq hN hi hx (q_ jb) hs hf).mono fun D σ H h=>by
  obtain⟨F,e,fl,R,hf,q⟩:=h
  cases hf
  refine⟨Nat.zero_le _,fun l hl=>?_⟩
  obtain⟨R1,X1,f1,n1⟩:=R.newL (vs:=[]) hl
  obtain⟨R2,o2⟩:=R1.setN i f1 ar n1
  refine q F _ _ ⟨X1.sf,X1.dom,X1.fr,X1.lst,X1.tmp,fun a h=>?_,fun j n=>List.getElem?_set_ne (fun z=>n (by simp [z]))⟩ R2
  rcases o2 a h with z | z
  · exact X1.ow a z
  · exact .inr (by rw [z];exact hl)
def mz(i:Nat)(fa:FE):FE:=fun e=>(dr e i).bind fun _=>(fa e).bind fun p=>match p.1 with
  | .l ys=>(dr p.2 i).bind fun xss=>if xss.length < 1000000 then some (.d .none,p.2.set i (some (.n (xss++[ys])))) else none
  | _=>none
theorem xP{apos cpos:Pos}(hK:X.K=K)(hN:X.N[i]?=some x)(hv:sC X.env.scope x)(hd:(x==("__debug__":Str))=false)(hcd:(x==("__classdict__":Str))=false)(ha:PE X a (fE K fa))(hst:PySem.W.isStarred a=false)
    (hbase:attributeBase (.Name x p) "append" X.env (eval (.Name x p) X.env)=eval (.Name x p) X.env)
    (hfew:((backTo cpos (starEach [a] X.env)).all (fun x=> !x.1)&&(backToKw cpos (keywordEach [] X.env)).all (fun x=>x.1.isSome)
      &&decide ([a].length+([]:List Keyword).length+(if ([]:List Keyword).isEmpty then 0 else 1) < 30))=true)
    (hline:(apos.endLine==cpos.line)=true)(hs:starEach [a] X.env=(false,eval a X.env)::starEach [] X.env)(hplain:(backTo cpos (starEach [] X.env)).any (·.1)=false):
    PE X (.Call (.Attribute (.Name x p) "append" apos) [a] [] cpos) (fE K (mz i fa)):=by
  subst hK
  refine(qZ PySem.F.plainAttrs_list PySem.F.slot_list_append PySem.F.type_list_append ee (eE hN hv hd hcd) (xx ha jb hst) hbase hfew hline hs hplain).mono fun σ H Q h=>?_
  obtain⟨F,e,z,e',R,hf,q⟩:=h
  unfold mz at hf
  obtain⟨xss0,h0,hf⟩:=Option.bind_eq_some_iff.mp hf
  obtain⟨⟨r,e1⟩,h1,hf⟩:=Option.bind_eq_some_iff.mp hf
  match r,h1,hf with
  | .l ys,h1,hf=>
  obtain⟨xss,h2,hf⟩:=Option.bind_eq_some_iff.mp hf
  split at hf
  case isFalse=>cases hf
  case isTrue hlen=>
  cases hf
  obtain⟨l,bs0,a1,_,a3,_⟩:=R.nst i xss0 (dm h0)
  refine⟨_,a1,.inl ⟨rfl,_,.inl (.inl a3)⟩,F,e,_,e1,R,h1,fun F1 H1 v X1 R1 A1=>?_⟩
  obtain⟨t,us,rfl,t1,t2,t3,t4,t5⟩:=A1
  have h2':=dm h2
  obtain⟨l',bs,c1,c2,c3,c4,c5,c6,c7⟩:=R1.nst i xss h2'
  rw [a1] at c1;cases c1
  have fi:∀z,z=l∨z∈bs→Fp σ e1 H1 i z:=fun z h=>.inr ⟨xss,l,bs,h2',a1,c3,h⟩
  have tl:t≠l:=fun z=>t5 ⟨i,fi t (.inl z)⟩
  have tb:t∉bs:=fun z=>t5 ⟨i,fi t (.inr z)⟩
  have sl:sizeLine=16777216:=sizeLine_eq
  refine⟨l,_,_,rfl,rfl,c3,by rw [List.length_map,c4];lia,?_⟩
  have em:bs.map V.ref++[V.ref t]=(bs++[t]).map V.ref:=by simp
  rw [em]
  obtain⟨R2,o2,s2⟩:=R1.putN (yss:=xss++[ys]) (bs:=bs++[t]) (H':=aQ H1 l (.lst ((bs++[t]).map V.ref))) h2' a1 c2 ar (by simp [c4]) (by
      rw [List.nodup_append]
      exact⟨c5,by simp,fun x hx y hy=>by simp at hy;subst hy;exact fun z=>tb (z ▸ hx)⟩) (by simp [c6,Ne.symm tl]) (fun k b zs q1 q2=>by
      rw [List.getElem?_append] at q1 q2
      rw [c4] at q1
      by_cases hk:k < xss.length
      · rw [if_pos hk] at q1 q2
        obtain⟨d1,us',d2,d3⟩:=c7 k b zs q1 q2
        have zb:b≠l:=fun z=>c6 (z ▸ List.mem_of_getElem? q1)
        exact⟨d1,us',by rw [ap zb];exact d2,d3⟩
      · rw [if_neg hk] at q1 q2
        have hk0:k - xss.length=0:=by
          have:=(List.getElem?_eq_some_iff.mp q1).1
          simp at this;lia
        rw [hk0] at q1 q2
        simp at q1 q2
        subst q1 q2
        exact⟨t2,us,by rw [ap tl];exact t3,t4⟩)
    (fun b hb=>by
      rcases List.mem_append.mp hb with hb | hb
      · exact .inl (fi b (.inr hb))
      · simp at hb;subst hb;exact .inr t5)
    (fun z q=>by
      by_cases e0:z=l
      · rw [e0,ar] at q;cases q
      · rw [ap e0] at q;exact q)
    (fun z o q n1 _=>by rw [ap n1];exact q) (fun z vs q=>by
      by_cases e0:z=l
      · rw [e0];exact⟨_,ar⟩
      · rw [ap e0];exact⟨vs,q⟩)
  refine q F1 _ .non ⟨X1.sf,fun z q=>X1.dom z ?_,X1.fr,fun z vs h=>?_,fun z o h n=>?_,fun j=>(s2 j).trans (X1.shp j),fun z h=>?_⟩ R2 ((dI (K:=X.K) (F:=F1)).mpr rfl)
  · by_cases e0:z=l
    · rw [e0,ar] at q;cases q
    · rw [ap e0] at q;exact q
  · obtain⟨vs',h'⟩:=X1.lst z vs h
    by_cases e0:z=l
    · rw [e0];exact⟨_,ar⟩
    · rw [ap e0];exact⟨vs',h'⟩
  · have e0:z≠l:=fun e0=>by
      rcases X1.ow z ⟨i,fi z (.inl e0)⟩ with w | w
      · exact n w
      · rw [h] at w;cases w
    rw [ap e0];exact X1.tmp z o h n
  · rcases o2 z h with w | w
    · exact X1.ow z w
    · rcases List.mem_append.mp w with w | w
      · exact X1.ow z ⟨i,fi z (.inr w)⟩
      · simp at w;subst w;exact .inr t1
def Qt(X:Cx)(K:PySem.W.Frag)(a:Expr)(f:En→Option Int):Prop:=∃t:TE,PE X a t∧∀σ F H e i (Q:VK),aJ K F H σ e→f e=some i→Q (.int i) H→t σ H Q
def lS(i:Nat):En→Option Int:=fun e=>match e[i]? with
  | some (some (.d (.int k)))=>some k
  | _=>none
theorem xR(i:Nat)(hN:X.N[i]?=some x)(hv:sC X.env.scope x)(hd:(x==("__debug__":Str))=false)(hcd:(x==("__classdict__":Str))=false):Qt X K (.Name x pos) (lS i):=⟨_,eE hN hv hd hcd,fun σ F H e k Q R hf q=>by
  unfold lS at hf
  split at hf
  · rename_i heq
    cases hf
    obtain⟨v,h1,h2⟩:=R.dat i _ heq
    exact⟨v,h1,by rw [ba.mp h2];exact q⟩
  · cases hf⟩
def nC(k:Int):En→Option Int:=fun _=>some k
def qE(i:Nat):FI:=fun e=>(dr e i).map fun xss=>(xss.map .list,[],e.set i (some (.d (.list (xss.map .list)))))
theorem ut{tg:Expr}(hK:X.K=K)(hN:X.N[i]?=some x)(hv:sC X.env.scope x)(hd:(x==("__debug__":Str))=false)(hcd:(x==("__classdict__":Str))=false):PI X tg (.Name x pos) (fI K (qE i)):=(l4 (tg:=tg) hK (eE hN hv hd hcd)).mono fun σ H R hh=>by
  obtain⟨F,e,items,own,e',R0,hf,q⟩:=hh
  unfold qE at hf
  obtain⟨xss,h1,hf⟩:=Option.map_eq_some_iff.mp hf
  cases hf
  obtain⟨F',v,c1,c2,R1,X1⟩:=R0.frzN (dm h1)
  obtain⟨l,vs,rfl,d1,d2⟩:=bG.mp c2
  exact⟨_,c1,l,rfl,⟨vs,R1.sm.seq d1⟩,q _ F' H X1 R1 (fun _ h=>by cases h) (j3 (.lst d1 d2))⟩
end
end L2
namespace L2
open PySem PySem.Spec PyProof.Rows
theorem fV{C:Int→Int→Bool}{f:Int→Int→PyData}{e:En}{i j:Int}(h:C i j=true):gI C f e (.d (.int i)) (.d (.int j))=some (.d (f i j)):=by simp [gI,bJ,h]
theorem lA{e:En}{i j:Int}:cy e (.d (.int i)) (.d (.int j))=some (.d (.int (i+j))):=rfl
theorem iX{e:En}{i j:Int}:hJ e (.d (.int i)) (.d (.int j))=some (.d (.int (i - j))):=rfl
theorem iY{e:En}{i j:Int}(h:h_ i j=true):fK e (.d (.int i)) (.d (.int j))=some (.d (.int (i*j))):=by
  unfold fK qz lF;rw [fV h];rfl
theorem qP{i j:Int}(h1: -(2 ^ 64) < i)(h2:i < 2 ^ 64):h_ i j=true:=by
  have:eH i=true:=by unfold eH;rw [decide_eq_true h1,decide_eq_true h2];rfl
  unfold h_;rw [this];simp
theorem kT{i j:Int}(h1: -(2 ^ 64) < j)(h2:j < 2 ^ 64):h_ i j=true:=by
  have:eH j=true:=by unfold eH;rw [decide_eq_true h1,decide_eq_true h2];rfl
  unfold h_;rw [this];simp
theorem az{e:En}{i j:Int}(h:0 < j):aO e (.d (.int i)) (.d (.int j))=some (.d (.int (i % j))):=by
  unfold aO;rw [fV (by simp;lia)]
  rw [Int.fmod_eq_emod_of_nonneg i (by lia)]
theorem ck{e:En}{i j:Int}(h:0 < j)(h2:Bt 8000 j):cj e (.d (.int i)) (.d (.int j))=some (.d (.int (i / j))):=by
  unfold cj;rw [fV (by simp [gb.mpr h2];lia)]
  rw [Int.fdiv_eq_ediv_of_nonneg i (by lia)]
theorem nW{e:En}{i j:Int}{neg:Bool}:cO neg e (.d (.int i)) (.d (.int j))=some (.d (.bool (if neg then !(i==j) else i==j))):=by
  unfold cO;simp [eS,SeqAt.shaped,PyData.canLay0,PyData.depth,PyData.eqv]
theorem oh{e:En}{i j:Int}:yz e (.d (.int i)) (.d (.int j))=some (.d (.bool (decide (i < j)))):=rfl
theorem n_{e:En}{i j:Int}:BG e (.d (.int i)) (.d (.int j))=some (.d (.bool (decide (i≤j)))):=rfl
theorem nY{e:En}{i j:Int}:y0 e (.d (.int i)) (.d (.int j))=some (.d (.bool (decide (j < i)))):=rfl
theorem nX{e:En}{i j:Int}:yZ e (.d (.int i)) (.d (.int j))=some (.d (.bool (decide (j≤i)))):=rfl
theorem lE{e:En}{i j:Int}:g2 qt e [.d (.int i),.d (.int j)]=some (.d (.int (min i j))):=by
  show some (Rv.d (.int (if j < i then j else i)))=_
  congr 3
  split<;>lia
theorem lD{e:En}{i j:Int}:g2 o5 e [.d (.int i),.d (.int j)]=some (.d (.int (max i j))):=by
  show some (Rv.d (.int (if j > i then j else i)))=_
  congr 3
  split<;>lia
theorem lG{e:En}{i:Int}:AB e (.d (.int i))=some (.d (.int (-i))):=rfl
theorem jY{e:En}{b:Bool}:g1 oZ e [.d (.bool b)]=some (.d (.int (if b then 1 else 0))):=rfl
theorem ly{e:En}{i:Int}:g1 oY e [.d (.int i)]=some (.d (.int i.natAbs)):=by
  show some (Rv.d (.int (if i < 0 then -i else i)))=_
  congr 3
  split<;>lia
theorem eQ{j:Int}(h1:0 < j)(h2:j < 2 ^ 64):Bt 8000 j:=Bt.mono (m:=64) (by unfold Bt;lia) (by decide)
theorem eN{α:Type}{xs:List α}{i:Int}(h0:0≤i)(h:i < xs.length):atI xs i=xs[i.toNat]?:=by
  unfold atI sE
  rw [if_pos h0,if_pos h];rfl
theorem lC{e:En}{i:Nat}{xs:List PyData}{neg:Bool}(h:e[i]?=some (some (.l xs)))(hs:SeqAt.shaped (.list xs)=true):cO neg e (.s i) (.l [])=some (.d (.bool (if neg then !xs.isEmpty else xs.isEmpty))):=by
  unfold cO
  simp only [eS,h,Option.bind_some,hs]
  have h0:SeqAt.shaped (.list [])=true:=by simp [SeqAt.shaped,PyData.canLay0,PyData.canLayAll0,PyData.depth,PyData.depthAll]
  rw [h0]
  cases xs<;>simp [PyData.eqv,PyData.eqvAll]
theorem mq(ns:List Int):SeqAt.shaped (.list (ns.map .int))=true∧SeqAt.shaped (.tuple (ns.map .int))=true:=by
  have h1:PyData.canLayAll0 (ns.map PyData.int)=true:=by
    induction ns with
    | nil=>rfl
    | cons n r ih=>simp [PyData.canLayAll0,PyData.canLay0,ih]
  have h2:PyData.depthAll (ns.map PyData.int)=0:=by
    clear h1
    induction ns with
    | nil=>rfl
    | cons n r ih=>simp [PyData.depthAll,PyData.depth,ih]
  constructor<;>simp [SeqAt.shaped,PyData.canLay0,PyData.depth,h1,h2]
theorem bU{own:eu}{g:FG}{f:FS}(P:Nat→En→Prop):∀(items:List PyData) (k:Nat) (e:En),(∀i x e,items[i]?=some x→P (k+i) e→∃e1 e2,g x e=some e1∧f e1=some (.nx e2)∧keeps own e2∧P (k+i+1) e2)→P k e→∃e',g_ own g f items e=some (.nx e')∧P (k+items.length) e'
  | [],k,e,_,h=>⟨e,rfl,h⟩
  | x::r,k,e,hs,h=>by
    obtain⟨e1,e2,h1,h2,h3,h4⟩:=hs 0 x e rfl h
    obtain⟨e',h5,h6⟩:=bU P r (k+1) e2 (fun i y e hy hp=>by
      have:=hs (i+1) y e (by simpa using hy) (by rw [show k+(i+1)=k+1+i by lia];exact hp)
      rw [show k+(i+1)+1=k+1+i+1 by lia] at this
      exact this) h4
    refine⟨e',?_,by rw [List.length_cons,show k+(r.length+1)=k+1+r.length by lia];exact h6⟩
    unfold g_
    simp only [h1,h2,Option.bind_some,if_pos h3]
    exact h5
theorem bw{e:En}:keeps [] e:=fun _ h=>by cases h
theorem de{W:List Nat}{fi:FI}{g:FG}{f:FS}{e e1:En}{items:List PyData}(h:fi e=some (items,[],e1)):dc W fi g f e=g_ [] g f items e1:=by
  unfold dc;rw [h];rfl
theorem dw{lo:Int}{n i:Nat}{x:PyData}(h:(aL lo n)[i]?=some x):x=.int (lo+i)∧i < n:=by
  unfold aL at h
  rw [List.getElem?_map] at h
  obtain⟨k,h1,rfl⟩:=Option.map_eq_some_iff.mp h
  obtain⟨h2,h3⟩:=List.getElem?_eq_some_iff.mp h1
  simp at h2 h3
  subst h3
  exact⟨rfl,h2⟩
theorem be{lo:Int}{n:Nat}:(aL lo n).length=n:=by simp [aL]
theorem ce{fs:FA}{e e1:En}{n:Int}(h:fs e=some ([.d (.int n)],e1))(h1: -1000000≤n)(h2:n≤1000000):bC fs e=some (aL 0 n.toNat,[],e1):=by
  unfold bC;rw [h]
  have:rU n=true:=by unfold rU;rw [decide_eq_true h1,decide_eq_true h2];rfl
  simp [bJ,this]
theorem jC{ft:FT}{f:FS}(P:En→Prop)(μ:En→Nat)(hs:∀e,P e→(∃e1,ft e=some (false,e1)∧True)∨∃e1 e2,ft e=some (true,e1)∧f e1=some (.nx e2)∧P e2∧μ e2 < μ e):
    ∀(n:Nat) (e:En),P e→μ e < n→∃e0 e',eI ft f n e=some (.nx e')∧P e0∧ft e0=some (false,e'):=by
  intro n
  induction n with
  | zero=>intro e _ h;lia
  | succ n ih=>
    intro e hp hm
    rcases hs e hp with ⟨e1,h1,_⟩ | ⟨e1,e2,h1,h2,h3,h4⟩
    · exact⟨e,e1,by unfold eI;rw [h1];rfl,hp,h1⟩
    · obtain⟨e0,e',g1,g2⟩:=ih e2 h3 (by lia)
      exact⟨e0,e',by unfold eI;rw [h1];simp only [Option.bind_some,if_true,h2];exact g1,g2⟩
theorem ec{cs:En}{ft:FT}{fe:FE}{b:PyData→Bool}{y:PyData→PyData}:∀(items:List PyData) (t:Option Sv) (acc:List PyData),(∀x∈items,ft (cs++[some (.d x)])=some (b x,cs++[some (.d x)]))→(∀x∈items,b x=true→fe (cs++[some (.d x)])=some (.d (y x),cs++[some (.d x)]))→
    acc.length+items.length≤1000000→∃t',cM (ah cs.length) ft fe items (cs++[t]) acc=some (acc++(items.filter b).map y,cs++[t'])
  | [],t,acc,_,_,_=>⟨t,by simp [cM]⟩
  | x::r,t,acc,h1,h2,hl=>by
    have hg:ah cs.length x (cs++[t])=some (cs++[some (.d x)]):=by simp [ah]
    have h1x:=h1 x (by simp)
    unfold cM
    rw [hg]
    simp only [Option.bind_some,h1x]
    cases hb:b x with
    | true=>
      simp only [if_true,h2 x (by simp) hb,Option.bind_some,mT]
      rw [if_pos (by simp at hl;lia)]
      obtain⟨t',ih⟩:=ec (b:=b) (y:=y) r (some (.d x)) (acc++[y x]) (fun z hz=>h1 z (by simp [hz])) (fun z hz=>h2 z (by simp [hz])) (by simp at hl ⊢;lia)
      exact⟨t',by rw [ih];simp [hb]⟩
    | false=>
      simp only [Bool.false_eq_true,if_false]
      obtain⟨t',ih⟩:=ec (b:=b) (y:=y) r (some (.d x)) acc (fun z hz=>h1 z (by simp [hz])) (fun z hz=>h2 z (by simp [hz])) (by simp at hl;lia)
      exact⟨t',by rw [ih];simp [hb]⟩
theorem wH{fa:FE}{e e1:En}{xs:List PyData}(h:fa e=some (.d (.tuple xs),e1)):o8 fa e=some (xs,[],e1):=by
  unfold o8;rw [h];rfl
theorem jw{cp:List (Nat × Str)}{nT:Nat}{fi:FI}{g:FG}{ft:FT}{fe:FE}{e e1 cs:En}{t t':En}{items out:List PyData}(h1:fi e=some (items,[],e1))(hc:i0 cp nT e1=cs++t)(hl:cs.length=cp.length)(h3:cM g ft fe items (i0 cp nT e1) []=some (out,cs++t')):bY cp nT fi g ft fe e=some (.l out,e1):=by
  have key:∀i x,e1[i]?=some (some (.l x))→∀k,gB cp i=some k→(cs++t')[k]?=some (some (.l x)):=by
    intro i x hi k hk
    obtain⟨s,hs⟩:=cH hk
    have hk2:k < cp.length:=(List.getElem?_eq_some_iff.mp hs).1
    have:(i0 cp nT e1)[k]?=some (some (.l x)):=by
      unfold i0
      rw [List.getElem?_append_left (by simpa using hk2),List.getElem?_map,hs]
      simp [hi,ze]
    rw [hc,List.getElem?_append_left (by lia)] at this
    rw [List.getElem?_append_left (by lia)]
    exact this
  unfold bY
  rw [h1]
  simp only [Option.bind_some,List.all_nil,if_true,h3]
  have hb:gX cp (cs++t') e1=true:=by
    unfold gX
    rw [List.all_eq_true]
    intro p hp
    match hi:e1[p.1]? with
    | none=>simp [sD]
    | some none=>simp [sD]
    | some (some (.d x))=>simp [sD]
    | some (some (.n x))=>simp [sD]
    | some (some (.l x))=>
      cases hq:gB cp p.1 with
      | none=>
        unfold gB at hq
        rw [List.findIdx?_eq_none_iff] at hq
        have:=hq p hp
        simp at this
      | some k=>simp [key p.1 x hi k hq,sD]
  rw [if_pos hb]
  congr 2
  refine List.ext_getElem? fun i=>?_
  rw [bh]
  match hi:e1[i]? with
  | none=>rfl
  | some none=>rfl
  | some (some (.d x))=>rfl
  | some (some (.n x))=>rfl
  | some (some (.l x))=>
    cases hp:gB cp i with
    | none=>simp [hp]
    | some k=>simp [hp,key i x hi k hp]
theorem gU{α:Type}{xs:List α}{i:Int}(h0:0≤i)(h1:i < xs.length):∃x∈xs,atI xs i=some x:=by
  rw [eN h0 h1]
  exact⟨xs[i.toNat]'(by lia),List.getElem_mem _,List.getElem?_eq_getElem _⟩
theorem vB{e:En}{xs:List PyData}{i:Int}:cT e (.l xs) (.d (.int i))=(atI xs i).map .d:=rfl
theorem jZ{e:En}{xs:List PyData}{i:Int}:cT e (.d (.tuple xs)) (.d (.int i))=(atI xs i).map .d:=rfl
theorem qo{e:En}{xs:List PyData}{i:Int}:cT e (.d (.list xs)) (.d (.int i))=(atI xs i).map .d:=rfl
theorem vD{e:En}{j:Nat}{xs:List PyData}{i:Int}(h:e[j]?=some (some (.l xs))):cT e (.s j) (.d (.int i))=(atI xs i).map .d:=by
  simp [cT,dD,h,bJ]
theorem qr{e:En}{xs:List PyData}:g1 cC e [.d (.tuple xs)]=some (.d (.int xs.length)):=rfl
theorem og{e:En}{xs:List PyData}:g1 cC e [.d (.list xs)]=some (.d (.int xs.length)):=rfl
theorem qp{e:En}{xs:List PyData}:g1 cC e [.l xs]=some (.d (.int xs.length)):=rfl
theorem qq{e:En}{j:Nat}{xs:List PyData}(h:e[j]?=some (some (.l xs))):g1 cC e [.s j]=some (.d (.int xs.length)):=by
  simp [g1,cC,dD,h]
theorem lJ{e:En}{j:Nat}{xs:List PyData}(h:e[j]?=some (some (.l xs))):g1 bQ e [.s j]=some (.d (.tuple xs)):=by
  simp [g1,bQ,dD,h]
theorem lI{e:En}{xs:List PyData}:g1 bQ e [.l xs]=some (.d (.tuple xs)):=rfl
theorem j0{e:En}{xs:List PyData}:g1 bQ e [.d (.list xs)]=some (.d (.tuple xs)):=rfl
theorem lK{e:En}{xs:List PyData}:g1 bQ e [.d (.tuple xs)]=some (.d (.tuple xs)):=rfl
theorem vE{e:En}{xs:List PyData}{lo hi:Option Int}:AD e (.d (.tuple xs)) lo hi=some (.d (.tuple (cutD xs lo hi))):=rfl
theorem mV{e:En}{xs ys:List PyData}(h:xs.length+ys.length≤1000000):cy e (.d (.tuple xs)) (.d (.tuple ys))=some (.d (.tuple (xs++ys))):=by
  simp [cy,qz,qk,gI,bJ,lB,dD,h]
theorem wC{e:En}{i j:Int}(h:j≠0):aO e (.d (.int i)) (.d (.int j))=some (.d (.int (i.fmod j))):=by
  unfold aO;rw [fV (by simpa using h)]
theorem sX{e:En}{i j:Int}(h:j≠0)(h2:Bt 8000 j):cj e (.d (.int i)) (.d (.int j))=some (.d (.int (i.fdiv j))):=by
  unfold cj;rw [fV (by simp [gb.mpr h2,h])]
theorem gu{e:En}{i j:Int}(h:pF i j=true):mW e (.d (.int i)) (.d (.int j))=some (.d (.int (i ^ j.toNat))):=by
  unfold mW;rw [fV h]
theorem gC:pF 10 18=true:=by decide
theorem fF{f g:FS}{e e1:En}(h:f e=some (.nx e1)):aH f g e=g e1:=by unfold aH;rw [h];rfl
theorem zL{ft:FT}{f g:FS}{e e1:En}(h:ft e=some (true,e1)):jh ft f g e=f e1:=by unfold jh;rw [h];rfl
theorem zK{ft:FT}{f g:FS}{e e1:En}(h:ft e=some (false,e1)):jh ft f g e=g e1:=by unfold jh;rw [h];rfl
def vG(i:Nat)(e:En):Nat:=match e[i]? with
  | some (some (.l xs))=>xs.length
  | _=>0
def qQ(i:Nat)(e:En):Nat:=match e[i]? with
  | some (some (.d (.int k)))=>k.natAbs
  | _=>0
theorem om{n m:Nat}(h:n < 2 ^ m)(hm:m≤4200):n < 2 ^ 4200:=Nat.lt_of_lt_of_le h (Nat.pow_le_pow_right (by decide) hm)
theorem ku{α:Type}{a:α}{r:List α}:atI (a::r) 0=some a:=by
  rw [eN (by decide) (by simp)];rfl
theorem mM{α:Type}{a b:α}{r:List α}:atI (a::b::r) 1=some b:=by
  rw [eN (by decide) (by simp;lia)];rfl
theorem mN{α:Type}{a b c:α}{r:List α}:atI (a::b::c::r) 2=some c:=by
  rw [eN (by decide) (by simp;lia)];rfl
theorem mO{α:Type}{a b c d:α}{r:List α}:atI (a::b::c::d::r) 3=some d:=by
  rw [eN (by decide) (by simp;lia)];rfl
theorem p5{W:bu}{k:Int}(h:nG W k):atI (W.ties.map aM) k=some (aM (W.tie k)):=by
  rw [eN h.1 (by rw [List.length_map];exact h.2),List.getElem?_map,h.get];rfl
theorem p4{ns:List Int}{k:Int}(h0:0≤k)(h1:k < (ns.length:Int)):atI (ns.map PyData.int) k=some (.int (ns.getD k.toNat 0)):=by
  rw [eN h0 (by rw [List.length_map];exact h1),List.getElem?_map]
  have:k.toNat < ns.length:=by lia
  simp [this]
theorem vg{a b c d:PyData}:cutD [a,b,c,d] none (some 2)=[a,b]:=rfl
theorem jU{a b c d:PyData}:cutD [a,b,c,d] (some 2) none=[c,d]:=rfl
theorem jT{a b c:PyData}:cutD [a,b,c] (some 1) none=[b,c]:=rfl
theorem lr(ns:List Int):PyData.canLayAll0 (ns.map PyData.int)=true:=by
  induction ns with
  | nil=>rfl
  | cons n r ih=>simp [PyData.canLayAll0,PyData.canLay0,ih]
theorem lq{x:Int}:∀(ns:List Int),((ns.map PyData.int).any fun y=>PyData.eqv y (.int x))=ns.contains x
  | []=>rfl
  | n::r=>by
    rw [List.map_cons,List.any_cons,lq r,List.contains_cons]
    show(n==x || _)=_
    rw [show(n==x)=(x==n) by rw [Bool.eq_iff_iff];simp;exact eq_comm]
theorem iW{e:En}{x:Int}{ns:List Int}{neg:Bool}:Az neg e (.d (.int x)) (.d (.tuple (ns.map .int)))=some (.d (.bool (if neg then !ns.contains x else ns.contains x))):=by
  unfold Az
  simp only [eS,dD,Option.bind_some,lr,lq]
  simp [PyData.canLay0,PyData.depth]
theorem nZ{e:En}{x a b:Int}{neg:Bool}:Az neg e (.d (.int x)) (.d (.tuple [.int a,.int b]))=some (.d (.bool (if neg then !(a==x || b==x) else(a==x || b==x)))):=by
  have h:=iW (e:=e) (x:=x) (ns:=[a,b]) (neg:=neg)
  simp only [List.map_cons,List.map_nil] at h
  rw [h]
  have:[a,b].contains x=(a==x || b==x):=by
    simp only [List.contains_cons,List.contains_nil,Bool.or_false]
    rw [show(x==a)=(a==x) by rw [Bool.eq_iff_iff];simp;exact eq_comm,show(x==b)=(b==x) by rw [Bool.eq_iff_iff];simp;exact eq_comm]
  rw [this]
theorem eR(W:bu):aU W=.tuple [.int W.things,.tuple (W.ties.map aM),.tuple (W.pat.map .int),.int W.asks]:=rfl
end L2
namespace L2
open PySem PySem.Spec PyProof.Rows
def Sh(n:Nat)(d:PyData):Prop:=d.canLay0=true∧d.depth≤n
theorem Sh.ok{n:Nat}{d:PyData}(h:Sh n d)(l:n≤64):SeqAt.shaped d=true:=by
  unfold SeqAt.shaped;rw [h.1,decide_eq_true (Nat.le_trans h.2 l)];rfl
theorem Sh.int{k:Int}:Sh 2 (.int k):=⟨by simp [PyData.canLay0],by simp [PyData.depth]⟩
theorem Sh.all{n:Nat}:∀{ds:List PyData},(∀d∈ds,Sh n d)→PyData.canLayAll0 ds=true∧PyData.depthAll ds≤n
  | [],_=>⟨rfl,by simp [PyData.depthAll]⟩
  | d::r,h=>by
    obtain⟨a1,a2⟩:=h d (by simp)
    obtain⟨b1,b2⟩:=Sh.all (ds:=r) fun x hx=>h x (by simp [hx])
    exact⟨by simp [PyData.canLayAll0,a1,b1],by simp only [PyData.depthAll];lia⟩
theorem Sh.list{n:Nat}{ds:List PyData}(h:∀d∈ds,Sh n d):Sh (n+2) (.list ds):=by
  obtain⟨b1,b2⟩:=Sh.all h
  exact⟨by simp [PyData.canLay0,b1],by simp only [PyData.depth];lia⟩
theorem lW:∀(n:Nat) (l:List Int),l.Nodup→(∀k∈l,0≤k∧k < (n:Int))→l.length≤n
  | 0,l,_,h=>by
    cases l with
    | nil=>simp
    | cons a r=>have:=h a (by simp);lia
  | n+1,l,hd,h=>by
    have ih:=lW n (l.erase (n:Int)) (hd.erase _) fun k hk=>by
      obtain⟨h1,h2⟩:=hd.mem_erase_iff.mp hk
      have:=h k h2
      lia
    by_cases c:(n:Int)∈l
    · rw [List.length_erase_of_mem c] at ih;lia
    · rw [List.erase_of_not_mem c] at ih;lia
abbrev Std:=List Int × List Int
structure yJ (W:bu) (s:Std):Prop where
  inw:∀k∈s.1,nG W k
  nd:s.1.Nodup
  tk:s.2.length≤2*s.1.length
  th:∀t∈s.2,0≤t∧t < W.things
def nxt(W:bu)(s:Std)(k:Int)(b:Bool):Std:=(bu.askd s.1 k,W.took s.2 k b)
structure Nd where
  tie:Int
  yes:Int
  no:Int
def yH(W:bu)(n:Nat)(S:Nat→Std)(i:Nat)(k:Int)(b:Bool)(l:Int):Prop:=l= -1∨(0≤l∧l < (n:Int)∧S l.toNat=nxt W (S i) k b)
structure Aq (W:bu) (n:Nat) (S:Nat→Std) (i:Nat) (x:Nd):Prop where
  tie:nG W x.tie
  st:yJ W (S i)
  may:W.may (S i).1 (S i).2 x.tie=true
  yes:yH W n S i x.tie true x.yes
  no:yH W n S i x.tie false x.no
def As(W:bu)(T:List Nd)(S:Nat→Std):Prop:=∀(i:Nat) (x:Nd),T[i]?=some x→Aq W T.length S i x
structure Wt where
  st:Std
  par:Int
  side:Int
structure Bv (W:bu) (T:List Nd) (S:Nat→Std) (ws:List Wt):Prop where
  tr:As W T S
  wt:∀w∈ws,yJ W w.st∧(w.par= -1∨∃(p:Nat) (x:Nd),w.par=(p:Int)∧T[p]?=some x∧((w.side=0∧w.st=L2.nxt W (S p) x.tie true)∨(w.side=1∧w.st=L2.nxt W (S p) x.tie false)))
  side:∀w∈ws,w.side=0∨w.side=1
end L2
namespace L2
open PySem PySem.Spec PyProof.Rows
def nm(nums:List Int)(l:Int):Int:=(atI nums l).getD (-1)
structure Bf (order:List Int) (n:Nat) (nums:List Int):Prop where
  len:nums.length=n+1
  top:nums[n]?=some (-1)
  at':∀(j:Nat) (v:Int),j < n→nums[j]?=some v→v= -1∨∃p:Nat,v=(p:Int)∧order[p]?=some (j:Int)
def qR(T:List Nd)(w:Int):Nd:=T.getD w.toNat ⟨0,0,0⟩
end L2
namespace L2
open PySem PySem.Spec PyProof.Rows
structure BE (S:Nat→Std) (n:Nat) (ss:List Std):Prop where
  len:ss.length=n
  at':∀(j:Nat) (s:Std),ss[j]?=some s→s.1.length≤(S j).1.length∧s.2.length≤2*s.1.length∧(∀k∈s.1,0≤k∧k < 16)∧∀t∈s.2,0≤t∧t < 12
end L2
namespace L2
open PySem PySem.Spec PyProof.Rows
theorem bX(s:String):PyData.strOk (Str.ofString s)=true:=by
  rw [Str.ofString_eq_toList]
  unfold PyData.strOk
  simp only [List.size_toArray,List.length_map]
  rw [show(List.map Char.toNat s.toList).toArray.all (fun a=>decide (a < 1114112)) 0 s.toList.length=(List.map Char.toNat s.toList).all (fun a=>decide (a < 1114112)) by simp]
  rw [List.all_map,List.all_eq_true]
  intro c _
  show decide (c.toNat < 1114112)=true
  rw [decide_eq_true_eq]
  have:=c.valid
  unfold UInt32.isValidChar Nat.isValidChar at this
  show c.val.toNat < _
  lia
theorem cI{a b:Str}(h1:PyData.strOk a=true)(h2:PyData.strOk b=true):PyData.strOk (a++b)=true:=by
  unfold PyData.strOk at*
  rw [show(a++b).cps=a.cps++b.cps from rfl]
  simp only [Array.all_append,h1,h2,Bool.and_self]
theorem jr{sep:Str}(h:PyData.strOk sep=true):∀(ts:List Str),(∀t∈ts,PyData.strOk t=true)→PyData.strOk (Str.join sep ts)=true
  | [],_=>by show PyData.strOk Str.empty=true;simp [PyData.strOk,Str.empty]
  | [x],hx=>hx x (by simp)
  | x::y::r,hx=>cI (cI (hx x (by simp)) h) (jr h (y::r) fun t ht=>hx t (by simp at ht ⊢;exact .inr ht))
theorem kh{ts:List Str}(h:∀t∈ts,PyData.strOk t=true):PyData.strOk (tupleText ts)=true:=by
  unfold tupleText
  exact cI (cI (bX _) (jr (bX _) ts h)) (bX _)
structure Sz (n dep:Nat) (d:PyData):Prop where
  fl:bi d=true
  sh:d.showable=true
  dp:d.depth≤dep
  ln:d.shown.length≤n
  so:PyData.strOk d.shown=true
theorem sY{e:En}{d:PyData}(h:gL d=true):g1 iu e [.d d]=some (.d (.str d.shown)):=by
  simp [g1,iu,h]
theorem sW{e:En}{s:Str}(h:PyData.strOk s=true):cO false e (.d (.str s)) (.d (.str s))=some (.d (.bool true)):=by
  simp [cO,eS,SeqAt.shaped,PyData.canLay0,PyData.depth,PyData.eqv,h]
theorem iU{ns:List Int}:aS (ns.map PyData.int)=true:=by
  induction ns with
  | nil=>rfl
  | cons a r ih=>simp [aS,bi,ih]
theorem qh{W:bu}:bi (aU W)=true:=by
  have:aS (W.ties.map aM)=true:=by
    induction W.ties with
    | nil=>rfl
    | cons a r ih=>simp [aS,bi,aM,ih]
  simp [aU,bi,aS,this,iU]
end L2
namespace L2
open PySem PySem.Spec PyProof.Rows
theorem sV{e:En}{i:Nat}{xs ys:List PyData}(h:e[i]?=some (some (.l xs)))(hl:xs.length+ys.length≤1000000):cy e (.s i) (.l ys)=some (.l (xs++ys)):=by
  simp [cy,qz,qk,gI,bJ,lB,dD,nV,ph,h,hl]
theorem wD{e:En}{d:PyData}{n:Int}(h0:0≤n)(h1:n≤100000):fK e (.d (.tuple [d])) (.d (.int n))=some (.d (.tuple (List.replicate n.toNat d))):=by
  have a:lH e (.d (.tuple [d])) (.d (.int n))=some (.d (.tuple (List.replicate n.toNat d))):=by
    simp [lH,dD,bJ,h0,h1]
  have b:lF e (.d (.tuple [d])) (.d (.int n))=none:=by simp [lF,gI,bJ]
  unfold fK qz
  rw [b,a]
  rfl
theorem ya{q:Int}(h0:0≤q)(h1:q < 16):∃m:Int,0 < m∧m < 2 ^ 64∧∀e:En,sZ e (.d (.int 1)) (.d (.int q))=some (.d (.int m)):=by
  have:q=0∨q=1∨q=2∨q=3∨q=4∨q=5∨q=6∨q=7∨q=8∨q=9∨q=10∨q=11∨q=12∨q=13∨q=14∨q=15:=by lia
  rcases this with rfl | rfl | rfl | rfl | rfl | rfl | rfl | rfl | rfl | rfl | rfl | rfl | rfl | rfl | rfl | rfl<;>exact⟨_,by decide,by decide,fun e=>fV (by decide)⟩
def rn(T:List Nd)(ans:List Bool):Nat→Int→List (Int × Bool)
  | 0,_=>[]
  | f+1,at'=>if at' < 0 then [] else((qR T at').tie,ans.getD (qR T at').tie.toNat false)::rn T ans f (if ans.getD (qR T at').tie.toNat false=true then(qR T at').yes else(qR T at').no)
def rt(T:List Nd):Int:=if T.length=0 then -1 else 0
structure Bi (W:bu) (T:List Nd) (S:Nat→Std) (ans:List Bool) (r:List (Int × Bool)) (a:Int):Prop where
  at':a= -1∨(0≤a∧a < (T.length:Int)∧r.length≤(S a.toNat).1.length)
  eq:r++rn T ans (17 - r.length) a=rn T ans 17 (rt T)
  len:r.length≤16
  inw:∀p∈r,nG W p.1
theorem Sz.bool{b:Bool}:Sz 5 2 (.bool b):=by
  cases b
  · exact⟨rfl,rfl,by simp [PyData.depth],by show(Str.ofString "False").length≤5;decide,bX _⟩
  · exact⟨rfl,rfl,by simp [PyData.depth],by show(Str.ofString "True").length≤5;decide,bX _⟩
end L2
namespace L2
open PySem PySem.Spec PyProof.Rows
abbrev Fr:=Int × Int
def tm(a b:Fr):Fr:=cS (a.1*b.1) (a.2*b.2)
def pl(a b:Fr):Fr:=cS (a.1*b.2+b.1*a.2) (a.2*b.2)
structure BA (M:Int) (f:Fr):Prop where
  pos:0 < f.2
  lo:0≤f.1
  hi:f.1≤f.2
  dv:f.2 ∣ M
structure Ad (M i:Int) (f:Fr):Prop where
  pos:0 < f.2
  lo:0≤f.1
  hi:f.1≤i*f.2
  dv:f.2 ∣ M
def bp(W:bu):List Int→Int
  | []=>1
  | k::r=>(W.tie k).bot*bp W r
def yP(W:bu):Int:=bp W W.rng
def ch(W:bu)(k:Int)(b:Bool):Fr:=if b then((W.tie k).top,(W.tie k).bot) else((W.tie k).bot - (W.tie k).top,(W.tie k).bot)
structure BD (W:bu) (S:Nat→Std) (n:Nat) (rs:List Fr):Prop where
  len:rs.length=n
  at':∀(j:Nat) (f:Fr),rs[j]?=some f→BA (bp W (S j).1) f
structure Bw (W:bu) (i:Nat) (ss:List Fr):Prop where
  len:ss.length=W.ties.length
  at':∀(j:Nat) (f:Fr),ss[j]?=some f→Ad (yP W) (i:Int) f
end L2
namespace L2
open PySem PySem.Spec PyProof.Rows
def yt(sc:Scope)(x:Str):Bool:=match sc.names.lookup x with
  | some .local=>true
  | some .cell=>true
  | some .free=>true
  | _=>false
theorem uW{sc:Scope}{x:Str}(h:yt sc x=true):sC sc x:=by
  unfold yt at h
  unfold sC
  split at h
  · rename_i e;exact .inl e
  · rename_i e;exact .inr (.inl e)
  · rename_i e;exact .inr (.inr e)
  · cases h
section
variable{X:Cx}{K:PySem.W.Frag}
theorem qw(i:Nat){x:Str}{pos:Pos}(hN:X.N[i]?=some x)(hv:yt X.env.scope x=true)(hd:((x==("__debug__":Str)) || (x==("__classdict__":Str)))=false):PE X (.Name x pos) (fE K (af i)):=qv i hN (uW hv) (Bool.or_eq_false_iff.mp hd).1 (Bool.or_eq_false_iff.mp hd).2
end
end L2
namespace L2
open PySem PySem.Spec PyProof.Rows
section
variable{X:Cx}{tg a b c:Expr}{ta:TA}{p pos p2 pos2:Pos}
end
section
variable{K:PySem.W.Frag}{σ:L2.St}
end
section
variable{X:Cx}{K:PySem.W.Frag}{tg a b c:Expr}{fs:FA}{pos p p2 pos2:Pos}
end
end L2
namespace L2
open PySem PySem.Spec PyProof.Rows
end L2
namespace L2
open PySem PySem.Spec PyProof.Rows
section
variable(P:Program)(w:World)
end
section
variable{P:Program}{w:World}{H H':Hp}{h h':Heap}{a:Addr}{o:HO}
end
section
variable{P:Program}{w:World}{H:Hp}{h h':Heap}{x e:Addr}{o':HO}
end
section
variable{fs fs' ex ex':List Addr}{H H1 H2:Hp}{h h1 h2 h':Heap}{a x e:Addr}{o:HO}
end
end L2
namespace L2
open PySem PySem.Spec PyProof.Rows
section
variable{X:Cx}{pins:List (Addr × Obj)}{σ:List (Option V)}{H H':Hp}{s:Shared}{h':Heap}
end
end L2
namespace L2
open PySem PySem.Spec PyProof.Rows
section
variable{X:Cx}
variable{a b:Expr}{ta tb:TE}{pos:Pos}
variable{tA tB':TT}{eM:List Expr}
end
end L2
namespace L2
open PySem PySem.Spec PyProof.Rows
section
variable{X:Cx}{pins:List (Addr × Obj)}{σ:St}{H:Hp}{s:Shared}{a:Addr}{xs ys:List V}
end
section
variable{X:Cx}{pins:List (Addr × Obj)}{σ:St}{H:Hp}{s:Shared}{E:Value→Shared→Prop}
end
section
variable{X:Cx}{st:Stmt}{eM:List Stmt}{t u:TS}{e:Expr}{te:TE}{pos:Pos}
end
section
variable{X:Cx}{pos:Pos}
end
section
variable{X:Cx}{pos:Pos}
end
end L2
namespace L2
open PySem PySem.Spec PyProof.Rows
section
variable{X:Cx}{tg:Expr}
end
end L2
namespace L2
open PySem PySem.Spec PyProof.Rows
section
variable{X:Cx}{a b c:Expr}{ta tb tc:TE}{pos:Pos}
end
section
variable{X:Cx}{a b c:Expr}{ta tb tc:TE}{pos:Pos}
end
end L2
namespace L2
open PySem PySem.Spec PyProof.Rows
section
variable{prog:Program}{w:World}{A:Around}{E:Value→Shared→Prop}{s:Shared}{K:PySem.W.Frag}{x dx C f:Addr}{mA:Str→Option Value}{name:Str}{v:Value}
end
section
variable{P:Program}{w:World}{H H':Hp}{h h':Heap}{a C dx:Addr}{fs fs':List (Str × V)}
end
section
variable{X:Cx}{pins:List (Addr × Obj)}{σ:St}{H:Hp}{s:Shared}{a C dx:Addr}{fs:List (Str × V)}{f:Str}{v:V}{A:Around}{E:Value→Shared→Prop}
end
section
variable{X:Cx}{o e value:Expr}{f:Str}{pos pos' tpos:Pos}{ta tv:TE}
end
section
variable{X:Cx}{pins:List (Addr × Obj)}{σ:St}{H:Hp}{s:Shared}{A:Around}{E:Value→Shared→Prop}{Q:Value→Shared→Prop}{c:Value}{b:Bool}
end
end L2
namespace L2
open PySem PySem.Spec PyProof.Rows
section
variable{X:Cx}{e:Expr}{es:List Expr}{te:TE}{t:TA}{pos:Pos}
end
section
variable{X:Cx}{pins:List (Addr × Obj)}{σ:St}{H:Hp}{s s':Shared}
end
section
variable{X:Cx}{CX:oP}{k:Nat}{f C:Addr}{fd:FuncData}{ps:List Str}{sp:Sp}{dvs:List V}{ds:List Value}{E:XK}{x m:Str}{p pos apos:Pos}{e o:Expr}{es:List Expr}{ta:TE}{t:TA}
end
section
variable{X:Cx}{CX:oP}{k:Nat}{f C:Addr}{fd:FuncData}{ps ks:List Str}{sp:Sp}{E:XK}{x m:Str}{p pos apos kpos:Pos}{e o:Expr}{es:List Expr}{kws:List Keyword}{te ta:TE}{t tk:TA}{nm:Option Str}
variable{g:List Value→List Value→List Value}{gV:List V→List V→List V}
end
end L2
namespace L2
open PySem PySem.Spec PyProof.Rows
section
variable{X:Cx}{x:Str}{p pos:Pos}{e:Expr}{es:List Expr}{t:TA}{id T:String}{r:List V→Hp→VK→Prop}
end
end L2
namespace L2
open PySem PySem.Spec PyProof.Rows
section
variable{κ:Type}[DecidableEq κ]
def jz(kvs:List (κ × V))(k:κ):Option V:=(kvs.find? fun kv=>decide (kv.1=k)).map (·.2)
def l5(kvs:List (κ × V))(k:κ)(v:V):List (κ × V):=
  if (kvs.any fun kv=>decide (kv.1=k))=true then kvs.map (fun kv=>if kv.1=k then(kv.1,v) else kv) else kvs++[(k,v)]
theorem jB{p:κ × V}{r:List (κ × V)}{k:κ}(e:p.1=k):jz (p::r) k=some p.2:=by simp [jz,List.find?_cons,e]
theorem jA{p:κ × V}{r:List (κ × V)}{k:κ}(e:¬p.1=k):jz (p::r) k=jz r k:=by simp [jz,List.find?_cons,e]
theorem lN(kvs:List (κ × V))(k:κ)(v:V):(l5 kvs k v).length≤kvs.length+1:=by
  unfold l5
  split
  · rw [List.length_map];lia
  · rw [List.length_append,List.length_cons,List.length_nil];lia
theorem KV.val{kvs:List (κ × V)}{vs:List (κ × Value)}(r:KV kvs vs)(k:κ):li (jz kvs k) (valueAt vs k):=by
  unfold KV at r
  induction r with
  | nil=>exact True.intro
  | @cons p q ps qs h t ih=>
    obtain⟨h1,h2⟩:=h
    by_cases e:p.1=k
    · have e':q.1=k:=h1.symm.trans e
      have b:valueAt (q::qs) k=some q.2:=by simp [valueAt,List.find?_cons,e']
      rw [jB e,b];exact h2
    · have e':¬q.1=k:=fun z=>e (h1.trans z)
      have b:valueAt (q::qs) k=valueAt qs k:=by simp [valueAt,List.find?_cons,e']
      rw [jA e,b];exact ih
theorem KV.any{kvs:List (κ × V)}{vs:List (κ × Value)}(r:KV kvs vs)(k:κ):(kvs.any fun kv=>decide (kv.1=k))=vs.any fun kv=>decide (kv.1=k):=by
  unfold KV at r
  induction r with
  | nil=>rfl
  | cons h t ih=>rw [List.any_cons,List.any_cons,ih,h.1]
theorem KV.repl{kvs:List (κ × V)}{vs:List (κ × Value)}(r:KV kvs vs)(k:κ){y:V}{u:Value}(ry:aZ y u):
    KV (kvs.map fun kv=>if kv.1=k then(kv.1,y) else kv) (vs.map fun kv=>if kv.1=k then(kv.1,u) else kv):=by
  unfold KV at r ⊢
  induction r with
  | nil=>exact .nil
  | @cons p q ps qs h t ih=>
    rw [List.map_cons,List.map_cons]
    refine .cons ?_ ih
    obtain⟨h1,h2⟩:=h
    by_cases e:p.1=k
    · rw [if_pos e,if_pos (h1.symm.trans e)];exact⟨h1,ry⟩
    · rw [if_neg e,if_neg (fun z=>e (h1.trans z))];exact⟨h1,h2⟩
theorem KV.put{kvs:List (κ × V)}{vs:List (κ × Value)}(r:KV kvs vs)(k:κ){y:V}{u:Value}(ry:aZ y u):KV (l5 kvs k y) (stored vs k u):=by
  unfold l5 stored
  rw [r.any k]
  by_cases e:(vs.any fun kv=>decide (kv.1=k))=true
  · rw [if_pos e,if_pos e];exact r.repl k ry
  · rw [if_neg e,if_neg e];exact Paired.snoc r ⟨rfl,ry⟩
theorem KV.length{kvs:List (κ × V)}{vs:List (κ × Value)}(r:KV kvs vs):kvs.length=vs.length:=Paired.length r
end
theorem qH{P:Program}{w:World}{k:dB}{u:Value}(r:aZ (kV k) u):(bN P w).is k u=true:=by
  cases k with
  | inl i=>obtain⟨t,e⟩:=(show ∃t,u=Value.int i t from r);subst e;exact lQ P w i t
  | inr x=>obtain⟨t,e⟩:=(show ∃t,u=Value.str x t from r);subst e;exact lR P w x t
theorem j4{P:Program}{w:World}:∀{ks:List dB} {us:List Value},aC (ks.map kV) us→ItemsAre (bN P w) ks us
  | [],_,r=>by rw [List.map_nil] at r;cases r;exact .nil
  | k::ks,_,r=>by
    rw [List.map_cons] at r
    cases r with
    | cons h t=>exact .cons (qH h) (j4 t)
abbrev KT(H:Hp):List (List dB × V)→List (List dB × Addr × Value)→Prop:=Paired fun p q=>p.1=q.1∧H q.2.1=some (.tup (p.1.map kV))∧aZ p.2 q.2.2
theorem KT.val{H:Hp}{kvs:List (List dB × V)}{xs:List (List dB × Addr × Value)}(r:KT H kvs xs)(k:List dB):li (jz kvs k) ((atKey xs k).map (·.2)):=by
  induction r with
  | nil=>exact True.intro
  | @cons p q ps qs h t ih=>
    obtain⟨h1,_,h2⟩:=h
    by_cases e:p.1=k
    · have e':q.1=k:=h1.symm.trans e
      have b:atKey (q::qs) k=some q.2:=by simp [atKey,List.find?_cons,e']
      rw [jB e,b];exact h2
    · have e':¬q.1=k:=fun z=>e (h1.trans z)
      have b:atKey (q::qs) k=atKey qs k:=by simp [atKey,List.find?_cons,e']
      rw [jA e,b];exact ih
section
variable{P:Program}{w:World}{H:Hp}{h:Heap}{a:Addr}
theorem vO{u:HO}(ok:gR P w H h)(e:Rd H a u):bP P w H h a u:=e.ok ok
theorem qf{kvs:List (dB × V)}(ok:gR P w H h)(e:Rd H a (.dK kvs)):kvs.length≤sizeLine∧(a==sysModules)=false∧∃vs,KV kvs vs∧h.DictOf (bN P w) a vs:=
  show bP P w H h a (.dK kvs) from vO ok e
theorem yV{kvs:List (dB × V)}(ok:gR P w H h)(e:H a=some (.dK kvs)):kvs.length≤sizeLine∧(a==sysModules)=false∧∃vs,KV kvs vs∧h.DictOf (bN P w) a vs:=qf ok (.inl e)
theorem qI{ks:List dB}(ok:gR P w H h)(e:H a=some (.tup (ks.map kV))):(tupleKind (bN P w)).is h ks a:=by
  obtain⟨_,its,r,o,h1,h2,n,h3,_⟩:=(show bP P w H h a (.tup (ks.map kV)) from ok a _ e)
  exact⟨o,its.toArray,n,h1,h2,h3,by simpa using j4 r⟩
theorem vh{kvs:List (List dB × V)}(ok:gR P w H h)(e:Rd H a (.dT kvs)):kvs.length≤sizeLine∧(a==sysModules)=false∧
    ∃xs,KT H kvs xs∧h.DictOfH (tupleKind (bN P w)) a xs:=by
  obtain⟨z,y,xs,r,o,es,ep,h1,h2,h3,h4,h5⟩:=(show bP P w H h a (.dT kvs) from vO ok e)
  refine⟨z,y,xs,r,o,es,ep,h1,h2,h3,h4,fun x hx=>?_,h5⟩
  have all:∀{l:List (List dB × V)} {m:List (List dB × Addr × Value)},KT H l m→∀x∈m,(tupleKind (bN P w)).is h x.1 x.2.1:=by
    intro l m q
    induction q with
    | nil=>intro x hx;exact nomatch hx
    | @cons p q ps qs hq t ih=>
      intro x hx
      rcases List.mem_cons.mp hx with e | hx
      · subst e
        exact qI ok (by rw [←hq.1];exact hq.2.1)
      · exact ih x hx
  exact all r x hx
end
def mG(H:Hp)(a:Addr)(y:V)(r:Option V):Prop:=
  (∃kvs k,Rd H a (.dK kvs)∧y=kV k∧r=jz kvs k)∨∃kvs k b,Rd H a (.dT kvs)∧y=.ref b∧H b=some (.tup (k.map kV))∧r=jz kvs k
theorem mG.k{H:Hp}{a:Addr}{kvs:List (dB × V)}{k:dB}(e:H a=some (.dK kvs)):mG H a (kV k) (jz kvs k):=.inl ⟨kvs,k,.inl e,rfl,rfl⟩
section
variable{X:Cx}{pins:List (Addr × Obj)}{σ:St}{H:Hp}{s:Shared}{a:Addr}{y v:V}{u r:Value}{o:Option V}{A:Around}{E:Value→Shared→Prop}
theorem av.big(I:av X pins σ H s):sysModules < s.heap.objs.size:=by
  have h:mainGlobals < s.heap.objs.size:=(I.mod.glob.keeps I.bk).lt
  exact Nat.lt_trans (by decide) h
theorem oT{Q:Value→Shared→Prop}(hu:A.units+1 < cLine)(I:av X pins σ H s)(g:mG H a y (some v))(ry:aZ y u)(h:∀w' s',av X pins σ H s'→aZ v w'→Q w' s'):
    wpAny (model X.prog X.w) A (getItem (.ref a) u) Q E s:=by
  rcases g with ⟨kvs,k,e,ey,l⟩ | ⟨kvs,k,b,e,ey,eb,l⟩
  · subst ey
    obtain⟨z,hd,vs,rel,dd⟩:=qf I.hok e
    obtain⟨w',hw,rw'⟩:=li.some_of (v:=v) (o:=valueAt vs k) (by rw [l];exact rel.val k)
    exact wpAny_getItem_of (qH ry) dd.mapOf hw (h w' _ (I.tok _) rw')
  · subst ey
    cases (show u=Value.ref b from ry)
    obtain⟨z,hd,xs,rel,dd⟩:=vh I.hok e
    obtain⟨w',hw,rw'⟩:=li.some_of (v:=v) (o:=(atKey xs k).map (·.2)) (by rw [l];exact rel.val k)
    obtain⟨p,hp,hp2⟩:=Option.map_eq_some_iff.mp hw
    refine wpAny_getItem_heap (tupleKind_room_in1 hu) (qI I.hok eb) dd hp ?_
    rw [hp2]
    exact h w' _ (I.tok _) rw'
theorem sP{h':Heap}{t':Nat}{ob:HO}(I:av X pins σ H s)(mu:yI (H a))(hs:Heap.SameBut a s.heap h')(he:∃q,h'.get? a=some q)(new:bP X.prog X.w (aQ H a ob) h' a ob):
    av X pins σ (aQ H a ob) {s with heap:=h',toks:=t'}:=
  I.write (x:=a) (e:=a) mu (.inl rfl) (fun b q hb z=>(hs.2 b hb).trans z) he new
theorem wx{P:Program}{w:World}{H':Hp}{h':Heap}{kvs:List (dB × V)}{vs:List (dB × Value)}(z:kvs.length≤sizeLine)(hd:(a==sysModules)=false)(rel:KV kvs vs)(dd:h'.DictOf (bN P w) a vs):
    bP P w H' h' a (.dK kvs):=⟨z,hd,vs,rel,dd⟩
end
section
variable{X:Cx}{pins:List (Addr × Obj)}{σ:St}{H:Hp}{s:Shared}{a:Addr}{kvs:List (dB × V)}{k:dB}{u:Value}{A:Around}{E:Value→Shared→Prop}
end
def wa(i:Expr):Prop:=∀ov iv,subscripted i false ov iv=operate [ov,iv] (getItem ov iv)
theorem uI{prog:Program}{w:World}{A:Around}{E:Value→Shared→Prop}{s:Shared}{env:Env}{value slice:Expr}{pos:Pos}{T id:String}{Q:Value→Shared→Prop}
    (hl:typeLookup (.type T) "__getitem__"=pure (some (.builtin id)))(hs:wa slice)
    (h:wpAny (model prog w) A (eval value env) (fun o s₁=>wpAny (model prog w) A (eval slice env) (fun i s₂=>s₂.TypeIs o T∧wpAny (model prog w) A (getItem o i) Q E s₂) E s₁) E s):
    wpAny (model prog w) A (eval (.Subscript value slice pos) env) Q E s:=by
  refine Subscript_ (wpAny_mono h (fun o s₁ h₁=>wpAny_mono h₁ (fun i s₂ h₂=>?_) fun _ _ x=>x) fun _ _ x=>x)
  obtain⟨hT,h₂⟩:=h₂
  unfold subscriptTail
  refine wpAny_bind ?_
  rw [getitemInPython_of_ne hT.not_modules]
  refine wpAny_bind (wpAny_specialOf hT hl ?_)
  have fin:wpAny (model prog w) A (subscripted slice false o i) (fun r s₃=>wpAny (model prog w) A (letTemporaryGo value o r >>= fun _=>pure r) Q E s₃) E s₂:=by
    rw [hs o i]
    exact wpAny_operating (wpAny_mono h₂ (fun r s₃ h₃=>wpAny_bind (wpAny_letTemporaryGo (wpAny_pure h₃))) fun _ _ x=>x)
  first
    | exact wpAny_pure (wpAny_bind fin)
    | exact wpAny_bind (wpAny_pure (wpAny_bind fin))
    | exact wpAny_bind fin
theorem lu{X:Cx}{pins:List (Addr × Obj)}{σ:St}{H:Hp}{s:Shared}{a:Addr}{y:V}{o:Option V}(I:av X pins σ H s)(g:mG H a y o):s.TypeIs (.ref a) "dict":=by
  rcases g with ⟨kvs,k,e,_,_⟩ | ⟨kvs,k,b,e,_,_,_⟩
  · obtain⟨_,_,vs,_,dd⟩:=qf I.hok e
    exact dd.typeIs
  · obtain⟨_,_,xs,_,dd⟩:=vh I.hok e
    exact dd.typeIs
def zQ(td ty:TE):TE:=fun σ H Q=>td σ H fun x H1=>ty σ H1 fun y H2=>∃a v,x=.ref a∧mG H2 a y (some v)∧Q v H2
section
variable{X:Cx}{o i e value:Expr}{pos pos' tpos:Pos}{td ty tv:TE}
theorem tZ(hu:X.A.units+1 < cLine)(ho:PE X o td)(hi:PE X i ty)(hs:wa i):PE X (.Subscript o i pos) (zQ td ty):=by
  intro pins s σ H Q I h
  refine uI PySem.F.slot_dict_getitem.lookup hs (bz (ho pins s σ H _ I h) fun u s1 ⟨x,H1,I1,rx,q1⟩=>bz (hi pins s1 σ H1 _ I1 q1) fun iv s2 ⟨y,H2,I2,ry,a,v,ex,g,q2⟩=>?_)
  subst ex
  obtain rfl:u=Value.ref a:=rx
  exact⟨lu I2 g,oT hu I2 g ry fun w' s3 I3 rw'=>⟨v,H2,I3,rw',q2⟩⟩
end
theorem qe{P:Program}{w:World}{H:Hp}(h:Heap)(hb:sysModules < h.objs.size):bP P w H (h.push {cls:=.type "dict",data:=.dict #[]}) h.objs.size (.dK []):=
  ⟨Nat.zero_le _,beq_eq_false_iff_ne.mpr (Ne.symm (Nat.ne_of_lt hb)),[],.nil,Heap.DictOf.new h⟩
section
variable{X:Cx}{pos:Pos}
end
section
variable{X:Cx}{pins:List (Addr × Obj)}{σ:St}{H:Hp}{s:Shared}{a:Addr}{y d:V}{u r:Value}{o:Option V}{A:Around}{E:Value→Shared→Prop}
end
section
variable{X:Cx}{o e f:Expr}{apos cpos:Pos}{td ty tx:TE}
end
section
variable{X:Cx}{pins:List (Addr × Obj)}{σ:St}{H:Hp}{s:Shared}{a:Addr}{kvs:List (dB × V)}{A:Around}{E:Value→Shared→Prop}
end
section
variable{X:Cx}{pins:List (Addr × Obj)}{σ:St}{H:Hp}{s:Shared}{a:Addr}{y:V}{u:Value}{A:Around}{E:Value→Shared→Prop}
end
end L2
namespace Att
open PySem PySem.W PySem.Calls PyProof.Rows
section
variable{prog:Program}{w:World}{A:Around}{E:Value→Shared→Prop}{s:Shared}{K:Frag}
end
end Att
namespace L2
open PySem PySem.Spec PyProof.Rows
end L2
namespace L2
open PySem PySem.Spec PyProof.Rows
end L2
namespace L2
open PySem PySem.Spec PyProof.Rows
section
variable{P:Program}{w:World}{K:PySem.W.Frag}{mg:Str→Option Value}{base:Heap}
end
section
variable{X:Cx}
end
section
variable{κ:Type}[DecidableEq κ]
end
end L2
namespace L2
open PySem PySem.Spec PyProof.Rows
def yE:PyData→String
  | .none=>"NoneType"
  | .bool _=>"bool"
  | .int _=>"int"
  | .str _=>"str"
  | .tuple _=>"tuple"
  | .list _=>"list"
  | .dict _=>"dict"
def uJ(t T:String):Bool:=t==T || (t=="bool"&&T=="int")
def wK(T:String)(d:PyData):Bool:=uJ (yE d) T
def qm(T:String):En→Rv→Option Rv:=fun _ r=>match r with
  | .d x=>some (.d (.bool (wK T x)))
  | _=>some (.d (.bool (wK T (.list []))))
section
variable{X:Cx}{K:PySem.W.Frag}{a:Expr}{fa:FE}{pos p p2:Pos}
def Au(K:PySem.W.Frag)(H:Hp):V→String→Prop
  | .non,t=>t="NoneType"
  | .bl _,t=>t="bool"
  | .int _,t=>t="int"
  | .str _,t=>t="str"
  | .ref a,t=>(t="tuple"∧∃xs,bR K H a xs)∨(t="list"∧∃xs,er K H a xs)∨(t="dict"∧∃m,H a=some (.dK m))
  | _,_=>False
theorem qa{T:String}:dG X (.builtin "isinstance") (fun xs H Q=>∃x t b,xs=[x,.ty T]∧Au X.K H x t∧PySem.W.kitOne X.K (.type t) (.type T)=some b∧Q (.bl b) H):=by
  intro pins s σ H xs us Q I r h
  obtain⟨x,t,b,rfl,ht,hk,q⟩:=h
  obtain⟨u1,u2,rfl,r1,r2⟩:∃u1 u2,us=[u1,u2]∧aZ x u1∧aZ (.ty T) u2:=by
    cases r with
    | cons p q=>cases q with
      | cons p' q'=>cases q';exact⟨_,_,rfl,p,p'⟩
  cases r2
  have q':∀tk,EP X pins σ Q (.bool b) {s with toks:=tk}:=fun tk=>⟨.bl b,H,I.tok _,rfl,q⟩
  cases x with
  | non=>cases (show u1=Value.none from r1);cases (show t=_ from ht);exact PySem.W.kia_one PySem.W.kitx_none I.kIn True.intro hk (fun z=>nomatch z) q'
  | bl y=>cases (show u1=Value.bool y from r1);cases (show t=_ from ht);exact PySem.W.kia_one PySem.W.kitx_bool I.kIn True.intro hk (fun z=>nomatch z) q'
  | int i=>obtain⟨tt,rfl⟩:=r1;cases (show t=_ from ht);exact PySem.W.kia_one PySem.W.kitx_int I.kIn True.intro hk (fun z=>nomatch z) q'
  | str y=>obtain⟨tt,rfl⟩:=r1;cases (show t=_ from ht);exact PySem.W.kia_one PySem.W.kitx_str I.kIn True.intro hk (fun z=>nomatch z) q'
  | ref a=>
    cases (show u1=Value.ref a from r1)
    rcases ht with ⟨rfl,xs,hs⟩ | ⟨rfl,xs,hs⟩ | ⟨rfl,m,hs⟩
    · obtain⟨its,rv,pl,hz⟩:=I.tuple hs
      obtain⟨o,h1,h2⟩:=pl.typeIs
      exact PySem.W.kia_one PySem.W.kitx_tuple I.kIn ⟨o,h1,h2⟩ hk (fun z=>nomatch z) q'
    · obtain⟨its,rv,pl,hz⟩:=I.list hs
      obtain⟨o,h1,h2⟩:=pl.isList.typeIs
      exact PySem.W.kia_one PySem.W.kitx_list I.kIn ⟨o,h1,h2⟩ hk (fun z=>nomatch z) q'
    · obtain⟨_,_,vs,_,pp⟩:=(show bP X.prog X.w H s.heap a (.dK m) from I.hok a _ hs)
      obtain⟨o,es,ep,h1,h2,_⟩:=pp
      exact PySem.W.kia_one PySem.W.kitx_dict I.kIn ⟨o,h1,h2.1⟩ hk (fun z=>nomatch z) q'
  | _=>exact False.elim ht
theorem rg{x:Str}{T:String}(hg:Gl X x)(hm:X.mg x=none)(hv:bootBuiltins x=some (.type T))(hn:x≠"__name__")(hd:(x==("__debug__":Str))=false):PE X (.Name x pos) (tC (.ty T)):=fun pins s σ H Q I h=>
  fX I hg hm hv ⟨.ty T,H,I,rfl,h⟩ hn hd
theorem wR{t T:String}(ht:t∈["NoneType","bool","int","str","tuple","list","dict"])(hT:T∈["int","bool","tuple","str"]):PySem.W.kitOne K (.type t) (.type T)=some (uJ t T):=by
  simp only [List.mem_cons,List.not_mem_nil,or_false] at ht hT
  rcases ht with rfl | rfl | rfl | rfl | rfl | rfl | rfl<;>rcases hT with rfl | rfl | rfl | rfl<;>rfl
theorem uS(d:PyData):yE d∈["NoneType","bool","int","str","tuple","list","dict"]:=by cases d<;>simp [yE]
theorem ym{F H:Hp}{d:PyData}{v:V}(h:DA K F d v)(s:aq F H):Au K H v (yE d):=by
  have h:=DA.mono s h
  cases d with
  | none=>rw [dI.mp h];rfl
  | bool b=>rw [cv.mp h];rfl
  | int b=>rw [ba.mp h];rfl
  | str b=>rw [mS.mp h];rfl
  | tuple ds=>obtain⟨a,xs,rfl,h1,_⟩:=bo.mp h;exact .inl ⟨rfl,xs,h1⟩
  | list ds=>obtain⟨a,xs,rfl,h1,_⟩:=bG.mp h;exact .inr (.inl ⟨rfl,xs,h1⟩)
  | dict m=>simp only [DA] at h;obtain⟨a,m,rfl,h1,_⟩:=h;exact .inr (.inr ⟨rfl,_,h1⟩)
theorem sS{f:FE}{σ:L2.St}{H:Hp}{Q Q':VK}(h:fE K f σ H Q)(m:∀v H1,Q v H1→Q' v H1):fE K f σ H Q':=by
  obtain⟨F,e,r,e',R,hf,q⟩:=h
  exact⟨F,e,r,e',R,hf,fun F' H' v x R' A=>m _ _ (q F' H' v x R' A)⟩
theorem y9{T:String}:Av K (fun v H Q=>∃t,t∈["NoneType","bool","int","str","tuple","list","dict"]∧Au K H v t∧Q (.bl (uJ t T)) H) (qm T):=by
  intro σ H0 F H e x z v Q R A hg q
  unfold qm at hg
  cases x with
  | d d=>
    cases hg
    exact⟨yE d,uS d,ym A R.sm,q F H _ (cK.refl _ _ _ _) R fD⟩
  | l xs=>
    cases hg
    obtain⟨l,vs,rfl,h1,h2,h3,h4⟩:=A
    exact⟨"list",by simp,.inr (.inl ⟨rfl,vs,er.of h3⟩),q F H _ (cK.refl _ _ _ _) R fD⟩
  | s i=>
    cases hg
    obtain⟨h1,xs,h2⟩:=A
    obtain⟨l,vs,h3,h4,h5,h6⟩:=R.own i xs h2
    rw [h1] at h3;cases h3
    exact⟨"list",by simp,.inr (.inl ⟨rfl,vs,er.of h5⟩),q F H _ (cK.refl _ _ _ _) R fD⟩
theorem zz{x:Str}{T:String}(hK:X.K=K)(hT:T∈["int","bool","tuple","str"])(hg:Gl X "isinstance")(hm:X.mg "isinstance"=none)(hgT:Gl X x)(hmT:X.mg x=none)(Bk:bootBuiltins x=some (.type T))(hn:x≠"__name__")(hd:(x==("__debug__":Str))=false)
    (ha:PE X a (fE K fa))(he:starEach [a,.Name x p2] X.env=(false,eval a X.env)::starEach [.Name x p2] X.env)(hpl:(backTo pos (starEach [.Name x p2] X.env)).any (·.1)=false):
    PE X (.Call (.Name "isinstance" p) [a,.Name x p2] [] pos) (fE K (yG (qm T) fa)):=
  (lZ (qa (T:=T)) hg hm boot_isinstance (kW ha (kW (rg hgT hmT Bk hn hd) jb) he) (by decide) (by decide) he hpl).mono fun σ H Q h=>by
    subst hK
    have h1:=yr (y9 (T:=T)) h
    refine sS h1 fun v H1 ⟨t,ht,k,q⟩=>?_
    exact⟨v,t,_,rfl,k,wR ht hT,q⟩
end
end L2
namespace L2
open PySem PySem.Spec PyProof.Rows
section
variable{X:Cx}{K:PySem.W.Frag}
end
end L2
namespace L2
open PySem PySem.Spec PyProof.Rows
section
variable{X:Cx}{K:PySem.W.Frag}{σ:L2.St}{F H:Hp}{e:En}{pos p1 p2:Pos}
end
end L2
namespace L2
open PySem PySem.Spec PyProof.Rows
section
variable{X:Cx}{K:PySem.W.Frag}{a b c d:Expr}{ta tb tc td:TE}{fa fb fc fd:FE}{pos:Pos}
end
end L2
namespace L2
open PySem PySem.Spec PyProof.Rows
section
variable{X:Cx}{K:PySem.W.Frag}{a b:Expr}{es:List Expr}{fa fb:FE}{fs:FA}{pos p apos:Pos}
end
end L2
namespace L2
open PySem PySem.Spec PyProof.Rows
section
variable{X:Cx}{K:PySem.W.Frag}{a b:Expr}{fa fb:FE}{fs:FA}{pos p p2 p3:Pos}
end
end L2
namespace L2
open PySem PySem.Spec PyProof.Rows
def bq(W:bu)(as:List Int):Int:=bp W (W.rng.filter fun k=> !as.contains k)
def wI(l:Nat):Int:=1000*(2 ^ (16 - l) - 1)
structure Bs (W:bu) (k:Int) (as:List Int) (y n:Fr):Prop where
  y:Ad (bq W (bu.askd as k)) (wI (as.length+1)) y
  n:Ad (bq W (bu.askd as k)) (wI (as.length+1)) n
  len:as.length≤15
  inw:nG W k
  new:k∉as
def lk(ws:List Fr)(l:Int):Fr:=if l= -1 then(0,1) else ws.getD l.toNat (0,1)
structure BF (W:bu) (S:Nat→Std) (n:Nat) (ws:List Fr):Prop where
  len:ws.length=n
  at':∀(j:Nat) (f:Fr),ws[j]?=some f→Ad (bq W (S j).1) (wI (S j).1.length) f
theorem Sz.int10{n m:Nat}{k:Int}(hb:Bt m k)(m0:0 < m)(m1:m≤1900)(h:k.natAbs < 10 ^ n)(h0:0 < n):Sz (n+1) 2 (.int k):=by
  refine⟨rfl,?_,by simp [PyData.depth],?_,bX _⟩
  · show decide (k.natAbs.log2 < 1920)=true
    rw [decide_eq_true_eq]
    have:=hb.log m0
    lia
  · have:=int_text_length_le10 h0 h
    show(Str.ofString (toString k)).length≤n+1
    rw [PySem.ofString_length];exact this
end L2
namespace L2
open PySem PySem.Spec PyProof.Rows
theorem fU{cs:En}{g:FG}{ft:FT}{fe:FE}{b:PyData→Bool}{y:PyData→PyData}{u:PyData→En}(n:Nat):∀(items:List PyData) (t:En) (acc:List PyData),t.length=n→(∀x∈items,∀t:En,t.length=n→g x (cs++t)=some (cs++u x))→(∀x∈items,(u x).length=n)→
    (∀x∈items,ft (cs++u x)=some (b x,cs++u x))→(∀x∈items,b x=true→fe (cs++u x)=some (.d (y x),cs++u x))→acc.length+items.length≤1000000→
    ∃t',t'.length=n∧cM g ft fe items (cs++t) acc=some (acc++(items.filter b).map y,cs++t')
  | [],t,acc,h,_,_,_,_,_=>⟨t,h,by simp [cM]⟩
  | x::r,t,acc,h,hg,hu,h1,h2,hl=>by
    have h1x:=h1 x (by simp)
    unfold cM
    rw [hg x (by simp) t h]
    simp only [Option.bind_some,h1x]
    cases hb:b x with
    | true=>
      simp only [if_true,h2 x (by simp) hb,Option.bind_some,mT]
      rw [if_pos (by simp at hl;lia)]
      obtain⟨t',e1,ih⟩:=fU (b:=b) (y:=y) (u:=u) n r (u x) (acc++[y x]) (hu x (by simp)) (fun z hz=>hg z (by simp [hz])) (fun z hz=>hu z (by simp [hz])) (fun z hz=>h1 z (by simp [hz])) (fun z hz=>h2 z (by simp [hz])) (by simp at hl ⊢;lia)
      exact⟨t',e1,by rw [ih];simp [hb]⟩
    | false=>
      simp only [Bool.false_eq_true,if_false]
      obtain⟨t',e1,ih⟩:=fU (b:=b) (y:=y) (u:=u) n r (u x) acc (hu x (by simp)) (fun z hz=>hg z (by simp [hz])) (fun z hz=>hu z (by simp [hz])) (fun z hz=>h1 z (by simp [hz])) (fun z hz=>h2 z (by simp [hz])) (by simp at hl;lia)
      exact⟨t',e1,by rw [ih];simp [hb]⟩
theorem pQ{nT:Nat}{fi:FI}{g:FG}{ft:FT}{fe:FE}{e e1 eo:En}{items out:List PyData}{own:eu}(h1:fi e=some (items,own,e1))(h3:cM g ft fe items (List.replicate nT none) []=some (out,eo)):bY [] nT fi g ft fe e=some (.l out,e1):=by
  unfold bY
  rw [h1]
  simp only [Option.bind_some]
  rw [if_pos (by simp),show i0 [] nT e1=List.replicate nT none from rfl,h3]
  simp only [Option.bind_some]
  rw [if_pos (by simp [gX])]
  congr 2
  refine List.ext_getElem? fun i=>?_
  rw [bh]
  match h:e1[i]? with
  | none=>rfl
  | some none=>rfl
  | some (some (.d x))=>rfl
  | some (some (.n x))=>rfl
  | some (some (.l x))=>rfl
theorem kg{x:Str}(h:PyData.strOk x=true):∀c∈x.cps.toList,c < 1114112:=by
  intro c hc
  unfold PyData.strOk at h
  rw [Array.all_eq_true'] at h
  have:=h c (by simpa using hc)
  simpa using this
theorem r_{l:Array Nat}(h:∀c∈l.toList,c < 1114112):PyData.strOk ⟨l⟩=true:=by
  unfold PyData.strOk
  rw [Array.all_eq_true']
  intro c hc
  simpa using h c (by simpa using hc)
theorem sL(c:Char):c.toNat < 1114112:=by
  have:=c.valid
  unfold UInt32.isValidChar Nat.isValidChar at this
  show c.val.toNat < _
  lia
open PySem.Builtin.Str in
theorem l8{q c:Nat}(hc:c < 1114112):∀d∈reprChar q c,d < 1114112:=by
  intro d hd
  unfold reprChar at hd
  have hx:∀w:Nat,∀d∈(List.replicate (w - ((Nat.toDigits 16 c).map Char.toNat).length) 48++(Nat.toDigits 16 c).map Char.toNat),d < 1114112:=by
    intro w d hd
    rcases List.mem_append.mp hd with h | h
    · have:=List.eq_of_mem_replicate h;lia
    · obtain⟨ch,_,rfl⟩:=List.mem_map.mp h;exact sL ch
  dsimp only at hd
  split at hd
  · simp only [List.mem_cons,List.not_mem_nil,or_false] at hd;lia
  split at hd
  · simp only [List.mem_cons,List.not_mem_nil,or_false] at hd;lia
  split at hd
  · simp only [List.mem_cons,List.not_mem_nil,or_false] at hd;lia
  split at hd
  · simp only [List.mem_cons,List.not_mem_nil,or_false] at hd;lia
  split at hd
  · simp only [List.mem_cons,List.not_mem_nil,or_false] at hd;lia
  split at hd
  · rcases List.mem_append.mp hd with h | h
    · simp only [List.mem_cons,List.not_mem_nil,or_false] at h;lia
    · exact hx 2 d h
  split at hd
  · rcases List.mem_append.mp hd with h | h
    · simp only [List.mem_cons,List.not_mem_nil,or_false] at h;lia
    · exact hx 4 d h
  · rcases List.mem_append.mp hd with h | h
    · simp only [List.mem_cons,List.not_mem_nil,or_false] at h;lia
    · exact hx 8 d h
open PySem.Builtin.Str in
theorem ka{q:Nat}:∀(l:List Nat) (acc:Array Nat),(∀c∈l,c < 1114112)→(∀c∈acc.toList,c < 1114112)→∀c∈(l.foldl (fun out c=>out++(reprChar q c).toArray) acc).toList,c < 1114112
  | [],acc,_,h=>h
  | x::r,acc,h1,h2=>ka r _ (fun c hc=>h1 c (by simp [hc])) fun c hc=>by
    simp only [Array.toList_append,List.mem_append] at hc
    rcases hc with hc | hc
    · exact h2 c hc
    · exact l8 (h1 x (by simp)) c hc
theorem l9{x:Str}(h:PyData.strOk x=true):PyData.strOk (reprText x)=true:=by
  unfold reprText
  refine r_ fun c hc=>?_
  have hq:reprQuote x < 1114112:=by unfold reprQuote;split<;>lia
  rw [Array.toList_push] at hc
  rcases List.mem_append.mp hc with hc | hc
  · rw [←Array.foldl_toList] at hc
    exact ka _ _ (kg h) (fun c hc=>by simp at hc;lia) c hc
  · simp at hc;lia
theorem Sz.str{x:Str}{n:Nat}(h:PyData.strOk x=true)(hl:x.length≤n):Sz (10*n+2) 2 (.str x):=by
  refine⟨rfl,rfl,by simp [PyData.depth],?_,l9 h⟩
  have:=PySem.StrLaws.reprText_len x fun c hc=>Nat.lt_of_lt_of_le (kg h c hc) (by decide)
  show(reprText x).length≤_
  lia
end L2
namespace L2
open PySem PySem.Spec PyProof.Rows
section
variable{X:Cx}{K:PySem.W.Frag}{a:Expr}{fa:FE}{pos p pos2 p2:Pos}
end
end L2
namespace L2
open PySem PySem.Spec PyProof.Rows
section
variable{X:Cx}{K:PySem.W.Frag}{a:Expr}{fa:FE}
end
end L2
namespace L2
open PySem PySem.Spec PyProof.Rows
abbrev Rn:=List (Int × Bool)
def sU(R:Rn):List Int:=R.map (·.1)
def vj(W:bu)(R:Rn):List Int:=(R.filter (·.2)).flatMap fun r=>[(W.tie r.1).one,(W.tie r.1).other]
structure BC (W:bu) (R:Rn) (asked taken:List Int):Prop where
  pa:asked.Perm (sU R)
  pt:taken.Perm (vj W R)
  inw:∀k∈sU R,nG W k
  nd:(sU R).Nodup
  nk:(vj W R).Nodup
  bd:∀t:Int,0≤t→t < W.things→W.many (sU R) t≤W.pat.getD t.toNat 0
  ak:(R.length:Int)≤W.asks
  sa:asked.Pairwise (· ≤·)
  st:taken.Pairwise (· ≤·)
end L2
namespace L2
open PySem PySem.Spec PyProof.Rows
section
variable{prog:Program}{w:World}{A:Around}{R:Result→Shared→Prop}
def sM(prog:Program)(w:World)(A:Around)(B:Sem PySem.Fin→Sem PySem.Fin)(tg:Expr)(ifs:List Expr)(env:Env)(it:Value)(onward:Shared→Prop)(v:Value)(u:Shared):Prop:=
  wpAny (model prog w) A (letOwnedTupleGo tg it v) (fun _ u1=>wpAny (model prog w) A (assign tg env v) (fun _ u2=>wpAny (model prog w) A
    (forIn ifs true fun c r=>if r=true then do let ok ←isTrue c env (eval c env);pure (ForInStep.yield ok) else pure (ForInStep.yield r)) (fun ok u3=>if ok=true then(∀(k:Sem PySem.Fin) (Q:PySem.Fin→Shared→Prop) (E:Value→Shared→Prop),(∀u5,onward u5→wpAny (model prog w) A k Q E u5)→wpAny (model prog w) A (B k) Q E u3) else onward u3) j9 u2) j9 u1) j9 u
end
def ye(l:Addr)(wi:TI)(g:TG)(tc:TT)(te:TE)(σ:L2.St)(H:Hp)(N:L2.St→Hp→Prop):Prop:=
  wi σ H fun J H1=>∃W:Nat→Nat→L2.St→Hp→Prop,(∃m,W 0 m σ H1)∧∀i m σ' H',W i m σ' H'→
    (J.stop i H'∧N σ' H')∨(J.go i H'∧∃N2:L2.St→Hp→Prop,(∀σ2 H2,N2 σ2 H2→∃m',m' < m∧W (i+1) m' σ2 H2)∧
      ∀x H2,J.yld i H' x H2→g x σ' H2 fun σ2 H3=>tc σ2 H3 fun b H4=>if b=true then te σ2 H4 fun v H5=>∃ys,H5 l=some (.lst ys)∧ys.length < sizeLine∧N2 σ2 (aQ H5 l (.lst (ys++[v]))) else N2 σ2 H4)
structure AZ (cp:List (Nat × Str)) (nT:Nat) (wi:TI) (g:TG) (tc:TT) (wi2:TI) (g2:TG) (tc2:TT) (te:TE) (σ:L2.St) (H:Hp) (Q:VK):Prop where
  go:wi σ H fun J H1=>∀l,H1 l=none→
  ∃W:Nat→Nat→L2.St→Hp→Prop,(∃m,W 0 m (cA cp nT σ) (aQ H1 l (.lst [])))∧∀i m σ' H',W i m σ' H'→
    (J.stop i H'∧Q (.ref l) H')∨(J.go i H'∧∃N:L2.St→Hp→Prop,(∀σ2 H2,N σ2 H2→∃m',m' < m∧W (i+1) m' σ2 H2)∧
      ∀x H2,J.yld i H' x H2→g x σ' H2 fun σ2 H3=>tc σ2 H3 fun b H4=>if b=true then ye l wi2 g2 tc2 te σ2 H4 N else N σ2 H4)
section
variable{K:PySem.W.Frag}{F H:Hp}{σ:L2.St}{e:En}{cp:List (Nat × Str)}{nT:Nat}
end
theorem PG.wide{X:Cx}{K:PySem.W.Frag}{tg:Expr}{g:FG}{W W':List Nat}(h:PG X tg (fG K g W))(hw:∀j,j∈W→j∈W'):PG X tg (fG K g W'):=h.mono fun v σ H Q ⟨F,e,x,e',R,d,hg,q⟩=>⟨F,e,x,e',R,d,hg,fun σ' x=>q σ' (x.mono hw)⟩
section
variable{X:Cx}{K:PySem.W.Frag}{pos:Pos}
end
section
variable{X:Cx}{K:PySem.W.Frag}{pos:Pos}
variable{o:Expr}{fo:FE}{apos cpos:Pos}
end
end L2
namespace L2
open PySem PySem.Spec PyProof.Rows
section
variable{X:Cx}{K:PySem.W.Frag}
def BM:List Int→Int
  | []=>0
  | x::r=>r.foldl max x
end
end L2
namespace L2
open PySem PySem.Spec PyProof.Rows
structure Bx (f:Fr):Prop where
  pos:0 < f.2
  cop:Int.gcd f.1 f.2=1
abbrev Pg:=List Int × Int
def BN(t:dC)(p:Pg):Bool:= !p.1.contains t.one&& !p.1.contains t.other
def Ay(t:dC)(p:Pg):Pg:=(p.1++[t.one,t.other],p.2+t.worth)
def BP(ps:List Pg)(t:dC):List Pg:=ps++(ps.filter (BN t)).map (Ay t)
def BO(ts:List dC):List Pg:=ts.foldl BP [([],0)]
structure Bh (k:Nat) (ps:List Pg):Prop where
  ne:ps≠[]
  len:ps.length≤2 ^ k
  pt:∀p∈ps,p.1.length≤2*k∧0≤p.2∧p.2≤1000*(k:Int)
def Bk(ts:List dC):Int:=BM ((BO ts).map (·.2))
end L2
namespace L2
open PySem PySem.Spec PyProof.Rows
end L2
namespace L2
open PySem PySem.Spec PyProof.Rows
section
variable{prog:Program}{w:World}{A:Around}{E:Value→Shared→Prop}{s:Shared}
end
section
variable{X:Cx}{a:Expr}{ta:TA}{p p2 pos pos2:Pos}
variable{K:PySem.W.Frag}{fs:FA}{p3:Pos}
end
end L2
namespace L2
open PySem PySem.Spec PyProof.Rows
theorem gZ{g:FG}{ft:FT}{fe:FE}(P:Nat→En→Prop)(R:PyData→Prop):∀(items:List PyData) (k:Nat) (e:En) (acc:List PyData),(∀i x e,items[i]?=some x→P (k+i) e→∃e1 r d e2,g x e=some e1∧ft e1=some (true,e1)∧fe e1=some (r,e2)∧mT r=some d∧R d∧P (k+i+1) e2)→P k e→acc.length+items.length≤1000000→
    ∃out e',cM g ft fe items e acc=some (acc++out,e')∧out.length=items.length∧(∀d∈out,R d)∧P (k+items.length) e'
  | [],k,e,acc,_,h,_=>⟨[],e,by simp [cM],rfl,(fun _ h=>by cases h),h⟩
  | x::r,k,e,acc,hs,h,hl=>by
    obtain⟨e1,v,d,e2,h1,h2,h3,h3',h4,h5⟩:=hs 0 x e rfl h
    simp only [List.length_cons] at hl
    obtain⟨out,e',h6,h7,h8,h9⟩:=gZ P R r (k+1) e2 (acc++[d]) (fun i y e hy hp=>by
      have:=hs (i+1) y e (by simpa using hy) (by rw [show k+(i+1)=k+1+i by lia];exact hp)
      rw [show k+(i+1)+1=k+1+i+1 by lia] at this
      exact this) (by simpa using h5) (by simp;lia)
    refine⟨d::out,e',?_,by simp [h7],fun y hy=>?_,by rw [List.length_cons,show k+(r.length+1)=k+1+r.length by lia];exact h9⟩
    · unfold cM
      simp only [h1,h2,h3,h3',Option.bind_some,if_true]
      rw [if_pos (by lia),h6]
      simp
    · rcases List.mem_cons.mp hy with rfl | hy
      · exact h4
      · exact h8 y hy
theorem kj{cp:List (Nat × Str)}{nT:Nat}{fi:FI}{g:FG}{ft:FT}{fe:FE}{e e1 eo:En}{items out:List PyData}(h1:fi e=some (items,[],e1))(h3:cM g ft fe items (i0 cp nT e1) []=some (out,eo))(hb:gX cp eo e1=true):bY cp nT fi g ft fe e=some (.l out,gQ (gB cp) eo e1):=by
  unfold bY
  rw [h1]
  simp only [Option.bind_some,List.all_nil,if_true,h3]
  rw [if_pos hb]
end L2
namespace L2
open PySem PySem.Spec PyProof.Rows
mutual
def wY:Nat→PyData→Bool
  | _,.none=>true
  | _,.bool _=>true
  | _,.int i=>decide (i.natAbs < 2 ^ 128)
  | _,.str x=>PyData.strOk x&&decide (x.length≤10)
  | k,.list xs=>decide (0 < k)&&lY (k - 1) xs
  | k,.tuple xs=>decide (0 < k)&&lY (k - 1) xs
  | _,.dict _=>false
def lY:Nat→List PyData→Bool
  | _,[]=>true
  | k,x::r=>wY k x&&lY k r
end
mutual
def wt:PyData→Nat
  | .list xs=>mD xs+1
  | .tuple xs=>mD xs+1
  | .dict _=>1
  | .none=>1
  | .bool _=>1
  | .int _=>1
  | .str _=>1
def mD:List PyData→Nat
  | []=>0
  | x::r=>wt x+mD r
end
theorem mw:∀(ts:List Str) (k:Nat) (acc:Str),(textFrom k acc ts).length≤acc.length+piled ts
  | [],_,acc=>by show acc.length≤acc.length+0;lia
  | t::r,k,acc=>by
    have ih:=mw r (k+1) (acc++(if k > 0 then ", " else "":String)++t)
    have e:(acc++(if k > 0 then ", " else "":String)++t).length≤acc.length+2+t.length:=by
      rw [strLen_append,strLen_append]
      have:(Str.ofString (if k > 0 then ", " else "")).length≤2:=by split<;>decide
      lia
    show(textFrom (k+1) _ r).length≤_
    rw [eF];lia
theorem qM(ts:List Str):(listText ts).length≤piled ts+2:=by
  unfold listText
  rw [strLen_append]
  have h:=mw ts 0 "["
  have h1:(("[":Str)).length=1:=by decide
  have h2:(("]":Str)).length=1:=by decide
  lia
theorem js:∀(ts:List Str) (k:Nat) (acc:Str),PyData.strOk acc=true→(∀t∈ts,PyData.strOk t=true)→PyData.strOk (textFrom k acc ts)=true
  | [],_,acc,h,_=>h
  | t::r,k,acc,h,hs=>js r (k+1) _ (cI (cI h (bX _)) (hs t (by simp))) fun u hu=>hs u (by simp [hu])
theorem pM{ts:List Str}(h:∀t∈ts,PyData.strOk t=true):PyData.strOk (listText ts)=true:=cI (js ts 0 _ (bX _) h) (bX _)
structure Aa (d:PyData) (k:Nat):Prop where
  lay:d.canLay0=true
  sh:d.showable=true
  dp:d.depth≤k
  ln:d.shown.length+2≤104*wt d
  so:PyData.strOk d.shown=true
theorem iO{d:PyData}{n:Nat}{k:Nat}(h:Sz n 0 d∨Sz n 2 d)(hn:n≤102)(hw:wt d=1)(hl:d.canLay0=true)(hd:d.depth=0):Aa d k:=by
  rcases h with h | h<;>exact⟨hl,h.sh,by lia,by have:=h.ln;lia,h.so⟩
mutual
theorem pX{k:Nat}:∀{d:PyData},wY k d=true→Aa d k
  | .none,_=>⟨rfl,rfl,by simp [PyData.depth],by show(Str.ofString "None").length+2≤104*1;decide,bX _⟩
  | .bool b,_=>iO (.inr Sz.bool) (by decide) rfl rfl (by simp [PyData.depth])
  | .int i,h=>by
    simp only [wY,decide_eq_true_eq] at h
    exact iO (.inr (Sz.int10 (n:=39) (m:=128) (show Bt 128 i from h) (by decide) (by decide) (Nat.lt_of_lt_of_le h (by decide)) (by decide))) (by decide) rfl rfl (by simp [PyData.depth])
  | .str x,h=>by
    simp only [wY,Bool.and_eq_true,decide_eq_true_eq] at h
    exact iO (.inr (Sz.str (n:=10) h.1 h.2)) (by decide) rfl (by simpa [PyData.canLay0] using h.1) (by simp [PyData.depth])
  | .dict _,h=>by simp [wY] at h
  | .list xs,h=>by
    simp only [wY,Bool.and_eq_true,decide_eq_true_eq] at h
    obtain⟨a1,a2,a3,a4,a5⟩:=kr h.2
    have:=qM (PyData.shownAll xs)
    refine⟨by simpa [PyData.canLay0] using a1,a2,by simp only [PyData.depth];lia,by simp only [PyData.shown,wt];lia,by simp only [PyData.shown];exact pM a5⟩
  | .tuple xs,h=>by
    simp only [wY,Bool.and_eq_true,decide_eq_true_eq] at h
    obtain⟨a1,a2,a3,a4,a5⟩:=kr h.2
    have:=ij (PyData.shownAll xs)
    refine⟨by simpa [PyData.canLay0] using a1,a2,by simp only [PyData.depth];lia,by simp only [PyData.shown,wt];lia,by simp only [PyData.shown];exact kh a5⟩
theorem kr{k:Nat}:∀{ds:List PyData},lY k ds=true→PyData.canLayAll0 ds=true∧PyData.showableAll ds=true∧PyData.depthAll ds≤k∧piled (PyData.shownAll ds)≤104*mD ds∧∀t∈PyData.shownAll ds,PyData.strOk t=true
  | [],_=>⟨rfl,rfl,by simp [PyData.depthAll],by simp [PyData.shownAll,piled],by simp [PyData.shownAll]⟩
  | d::r,h=>by
    simp only [lY,Bool.and_eq_true] at h
    obtain⟨a1,a2,a3,a4,a5⟩:=pX h.1
    obtain⟨b1,b2,b3,b4,b5⟩:=kr h.2
    refine⟨by simp only [PyData.canLayAll0,a1,b1,Bool.and_self],by simp only [PyData.showableAll,a2,b2,Bool.and_self],by simp only [PyData.depthAll];lia,by simp only [PyData.shownAll,eF,mD];lia,fun t ht=>?_⟩
    simp only [PyData.shownAll,List.mem_cons] at ht
    rcases ht with rfl | ht
    · exact a5
    · exact b5 t ht
end
theorem ql{e:En}{a b c d:Int}:cO false e (.d (.tuple [.int a,.int b])) (.d (.tuple [.int c,.int d]))=some (.d (.bool (a==c&&b==d))):=by
  unfold cO
  have h0:∀x y:Int,SeqAt.shaped (.tuple [.int x,.int y])=true:=fun x y=>by simp [SeqAt.shaped,PyData.canLay0,PyData.canLayAll0,PyData.depth,PyData.depthAll]
  simp only [eS,Option.bind_some,h0,Bool.and_self,if_true]
  simp [PyData.eqv,PyData.eqvAll]
end L2
namespace L2
open PySem PySem.Spec PyProof.Rows
section
variable{X:Cx}{K:PySem.W.Frag}
variable{a b:Expr}{fa fb:FE}{pos:Pos}
end
end L2
namespace L2
open PySem PySem.Spec PyProof.Rows
def tx(s:Str):List Nat:=s.cps.toList
end L2
namespace L2
open PySem PySem.Spec PyProof.Rows
end L2
namespace L2
open PySem PySem.Spec PyProof.Rows
end L2
namespace L2
open PySem PySem.Spec PyProof.Rows
section
variable{X:Cx}{K:PySem.W.Frag}{es:List Expr}{k0:Nat}{tp:Pos}{a b:Expr}{fs:FA}{p pos:Pos}
def oj(fs:FA):FI:=fun e=>(fs e).bind fun p=>match p.1 with
  | [.d (.tuple xs),.d (.tuple ys)]=>some (dW xs ys,[],p.2)
  | _=>none
theorem ox(hK:X.K=K)(hg:Gl X "zip")(hm:X.mg "zip"=none)(ha:PA X [a,b] (fA K fs))(hs:starEach [a,b] X.env=[(false,eval a X.env),(false,eval b X.env)])(hs2:starEach [b] X.env=[(false,eval b X.env)]):PI X (.Tuple es k0 tp) (.Call (.Name "zip" p) [a,b] [] pos) (fI K (oj fs)):=
    (xD (es:=es) (k0:=k0) (tp:=tp) hK hg hm ha hs hs2).mono fun σ H R hh=>by
  obtain⟨F,e,items,own,e',R0,hf,q⟩:=hh
  unfold oj at hf
  obtain⟨⟨rs,e1⟩,h1,hf⟩:=Option.bind_eq_some_iff.mp hf
  match rs,h1,hf with
  | [.d (.tuple xs),.d (.tuple ys)],h1,hf=>
  cases hf
  refine⟨F,e,_,e1,R0,h1,fun F1 H1 vs X1 R1 A1=>?_⟩
  obtain⟨v,u,rfl,a1,a2⟩:=k8 A1
  obtain⟨p1,vs,rfl,s1,d1⟩:=bo.mp (show DA K F1 (.tuple xs) v from a1)
  obtain⟨p2,us,rfl,s2,d2⟩:=bo.mp (show DA K F1 (.tuple ys) u from a2)
  exact⟨p1,p2,rfl,⟨vs,R1.sm.tup s1⟩,⟨us,R1.sm.tup s2⟩,q _ F1 H1 X1 R1 (fun z hz=>by cases hz) (qF (own1:=[]) (own2:=[]) (P:=bR K) (Q:=bR K) (.tup s1 d1) (.tup s2 d2) (fun _ _ h=>h) (fun _ _ h=>h) (fun i H vs us x y h1 h2 h3 h4=>⟨vs,us,x,y,h1,h2,h3,h4⟩) (fun i H vs us h1 h2 h3=>⟨vs,us,h1,h2,h3⟩) fun i H v H' h=>h)⟩
end
end L2
namespace L2
open PySem PySem.Spec PyProof.Rows
def BL(x:Nd)(b:Bool):Int:=if b=true then x.yes else x.no
def vH(T:List Nd)(i:Nat)(b:Bool):Int:=match T[i]? with
  | some x=>BL x b
  | none=> -1
def Aw(T:List Nd):Prop:=∀(i j:Nat) (a b:Bool),vH T i a=vH T j b→vH T i a≠ -1→i=j∧a=b
def Ba(w:Wt):Int × Int:=(w.par,w.side)
structure BV (T:List Nd) (ws:List Wt):Prop where
  unq:Aw T
  rng:∀i a,vH T i a= -1∨(0 < vH T i a∧vH T i a < (T.length:Int))
  free:∀w∈ws,w.par= -1∨(0≤w.par∧w.par < (T.length:Int)∧vH T w.par.toNat (w.side==0)= -1)
  dst:(ws.map Ba).Nodup
  side:∀w∈ws,w.side=0∨w.side=1
structure BY (T:List Nd) (w0 ws order:List Int):Prop where
  nd:(order++ws).Nodup
  par:∀v∈order++ws,v=0∨∃u∈order,∃b,vH T u.toNat b=v∧v≠ -1
  fst:(order=[]∧ws=w0)∨order[0]?=some 0
end L2
namespace L2
open PySem PySem.Spec PyProof.Rows
section
variable{prog:Program}{w:World}{A:Around}{E:Value→Shared→Prop}{s:Shared}
end
section
variable{X:Cx}{tg a:Expr}{ta:TA}{p pos:Pos}
end
section
variable{X:Cx}{K:PySem.W.Frag}{σ:L2.St}{tg a:Expr}{fs:FA}{p pos:Pos}
end
end L2
namespace L2
open PySem PySem.Spec PyProof.Rows
section
variable{X:Cx}{a k:Expr}{p2 pos:Pos}{fa fk:FE}{K:PySem.W.Frag}
section
variable{prog:Program}{w:World}{A:Around}{E:Value→Shared→Prop}{s:Shared}
end
end
end L2
namespace L2
open PySem PySem.Spec PyProof.Rows
section
variable{X:Cx}{a b:Expr}{ta:TA}{p p2 pos pos2:Pos}{K:PySem.W.Frag}{fs:FA}
end
section
variable{X:Cx}{o i e:Expr}{fo fi:FE}{tpos pos:Pos}{K:PySem.W.Frag}
end
end L2
namespace L2
open PySem PySem.Spec PyProof.Rows
section
variable{X:Cx}{K:PySem.W.Frag}
end
end L2
namespace L2
open PySem PySem.Spec PyProof.Rows
section
open PySem.MeetsSeq2 PySem.AutoSeq1 PySem.SeqAt
end
section
variable{X:Cx}{K:PySem.W.Frag}{o a:Expr}{to te:TE}{name:Str}{apos cpos:Pos}{T id:String}{r:V→List V→Hp→VK→Prop}{fo fa:FE}
end
end L2
namespace L2
open PySem PySem.Spec PyProof.Rows
section
variable{X:Cx}{K:PySem.W.Frag}{o a:Expr}{apos cpos:Pos}{fo fa:FE}
end
end L2
namespace L2
open PySem PySem.Spec PyProof.Rows
section
variable{K:PySem.W.Frag}{F H:Hp}{σ:L2.St}{e:En}{cp:List (Nat × Str)}{nT:Nat}
end
section
variable{X:Cx}{K:PySem.W.Frag}{a b:Expr}{es:List Expr}{fa fb:FE}{fs:FA}{pos p p2 p3:Pos}{lo hi:Option Expr}
end
end L2
namespace L2
open PySem PySem.Spec PyProof.Rows
section
variable{X:Cx}{K:PySem.W.Frag}
end
end L2
namespace L2
open PySem PySem.Spec PyProof.Rows
section
variable{X:Cx}{K:PySem.W.Frag}{a b:Expr}{fa fb:FE}{pos:Pos}
end
end L2
namespace L2
open PySem PySem.Spec PyProof.Rows
section
variable{X:Cx}{K:PySem.W.Frag}
end
end L2
namespace L2
open PySem PySem.Spec PyProof.Rows
mutual
theorem iV:∀(d:PyData),bi d=true→dt d=true
  | .none,_=>rfl
  | .bool _,_=>rfl
  | .int _,_=>rfl
  | .str _,_=>rfl
  | .tuple ds,h=>by simp only [dt];exact iq ds (by simpa [bi] using h)
  | .list ds,h=>by simp [bi] at h
  | .dict _,h=>by simp [bi] at h
theorem iq:∀(ds:List PyData),aS ds=true→cQ ds=true
  | [],_=>rfl
  | d::r,h=>by
    simp only [aS,Bool.and_eq_true] at h
    simp only [cQ,iV d h.1,iq r h.2,Bool.and_self]
end
structure Sw (b:Bool) (n dep:Nat) (d:PyData):Prop where
  dl:bif b then dt d=true else d.hasDict=false
  sh:d.showable=true
  dp:d.depth≤dep
  ln:d.shown.length+2≤n
  so:PyData.strOk d.shown=true
theorem Sw.mono{b:Bool}{n m dep e:Nat}{d:PyData}(h:Sw b n dep d)(h1:n≤m)(h2:dep≤e):Sw b m e d:=⟨h.dl,h.sh,Nat.le_trans h.dp h2,Nat.le_trans h.ln h1,h.so⟩
theorem Aa.swF{k:Nat}{d:PyData}(h:Aa d k)(f:bi d=true)(b:Bool):Sw b (104*wt d) k d:=⟨by cases b;exact eU d f;exact iV d f,h.sh,h.dp,h.ln,h.so⟩
theorem Sw.all{b:Bool}{n dep:Nat}:∀{ds:List PyData},(∀d∈ds,Sw b n dep d)→(bif b then cQ ds=true else PyData.hasDictAll ds=false)∧PyData.showableAll ds=true∧PyData.depthAll ds≤dep∧piled (PyData.shownAll ds)≤ds.length*n∧∀t∈PyData.shownAll ds,PyData.strOk t=true
  | [],_=>⟨by cases b<;>rfl,rfl,by simp [PyData.depthAll],by simp [PyData.shownAll,piled],by simp [PyData.shownAll]⟩
  | d::r,h=>by
    obtain⟨a1,a2,a3,a4,a5⟩:=h d (by simp)
    obtain⟨b1,b2,b3,b4,b5⟩:=Sw.all (ds:=r) fun x hx=>h x (by simp [hx])
    refine⟨?_,?_,?_,?_,?_⟩
    · cases b
      · simp only [cond_false] at a1 b1 ⊢;simp only [PyData.hasDictAll,a1,b1,Bool.or_self]
      · simp only [cond_true] at a1 b1 ⊢;simp only [cQ,a1,b1,Bool.and_self]
    · simp only [PyData.showableAll,a2,b2,Bool.and_self]
    · simp only [PyData.depthAll];lia
    · simp only [PyData.shownAll,eF,List.length_cons,Nat.succ_mul];lia
    · intro t ht
      simp only [PyData.shownAll,List.mem_cons] at ht
      rcases ht with rfl | ht
      · exact a5
      · exact b5 t ht
theorem Sw.tup{b:Bool}{n dep m:Nat}{ds:List PyData}(h:∀d∈ds,Sw b n dep d)(hl:ds.length≤m):Sw b (m*n+5) (dep+1) (.tuple ds):=by
  obtain⟨b1,b2,b3,b4,b5⟩:=Sw.all h
  refine⟨by cases b<;>simpa [dt,PyData.hasDict] using b1,b2,by simp only [PyData.depth];lia,?_,by simp only [PyData.shown];exact kh b5⟩
  have h2:=ij (PyData.shownAll ds)
  have:=Nat.mul_le_mul_right n hl
  simp only [PyData.shown]
  lia
theorem Sw.ok{b:Bool}{n dep:Nat}{d:PyData}(h:Sw b n dep d)(h1:n≤16777216)(h2:dep≤60):gL d=true:=by
  have sl:sizeLine=16777216:=sizeLine_eq
  have hd:(!d.hasDict || dt d)=true:=by
    have:=h.dl
    cases b
    · simp only [cond_false] at this;simp [this]
    · simp only [cond_true] at this;simp [this]
  have:=h.ln
  unfold gL
  rw [hd,h.sh,decide_eq_true (Nat.le_trans h.dp h2),decide_eq_true (show d.shown.length≤sizeLine by rw [sl];lia)]
  simp
theorem Sw.repr{b:Bool}{n dep:Nat}{d:PyData}(h:Sw b n dep d)(h1:n≤16777216)(h2:dep≤60)(e:En):g1 iu e [.d d]=some (.d (.str d.shown)):=sY (h.ok h1 h2)
theorem Sw.bool{b c:Bool}:Sw b 200 0 (.bool c):=((pX (k:=0) (d:=.bool c) rfl).swF rfl b).mono (by simp [wt]) (by decide)
end L2
namespace L2
open PySem PySem.Spec PyProof.Rows
structure S1 (n:Nat) (f:Fr):Prop where
  low:Bx f
  lo:0≤f.1
  hi:f.1≤f.2
  bt:Bt n f.2
def BK(e:Int)(t:dC):Bool:=t.one==e || t.other==e
structure BZ (b f g:Fr):Prop where
  pf:0 < f.2
  pg:0 < g.2
  eq:g.1*(f.2*b.1)=g.2*(f.1*b.2)
end L2
namespace L2
open PySem PySem.Spec PyProof.Rows
end L2
namespace L2
open PySem PySem.Spec PyProof.Rows
end L2
namespace L2
open PySem PySem.Spec PyProof.Rows
structure BX (O:bu) (ss ws:List Std):Prop where
  len:ss.length=ws.length
  at':∀j,(ss.getD j ([],[])).1=(ws.getD j ([],[])).1∧(ss.getD j ([],[])).2.length≤2*(ss.getD j ([],[])).1.length∧∀k∈(ss.getD j ([],[])).1,nG O k
structure BU (O:bu) (T:List Nd):Prop where
  tie:∀(i:Nat) (x:Nd),T[i]?=some x→nG O x.tie
  lk:∀(i:Nat) (x:Nd),T[i]?=some x→(-1≤x.yes∧x.yes < (T.length:Int))∧(-1≤x.no∧x.no < (T.length:Int))
end L2
namespace L2
open PySem PySem.Spec PyProof.Rows
section
variable{K:PySem.W.Frag}
variable{X:Cx}{σ:L2.St}{H0 H:Hp}{e:En}
end
end L2
namespace L2
open PySem PySem.Spec PyProof.Rows
section
variable{X:Cx}{a b:Expr}{ta:TA}{p p2 pos pos2:Pos}
end
end L2
namespace L2
open PySem PySem.Spec PyProof.Rows
section
variable{X:Cx}{K:PySem.W.Frag}{fs:FA}{a b:Expr}{p p2 pos pos2:Pos}
end
end L2
namespace L2
open PySem PySem.Spec PyProof.Rows
end L2
namespace L2
open PySem PySem.Spec PyProof.Rows PySem.W
structure Ar (lt:Nat→Nat→Bool):Prop where
  irr:∀i,lt i i=false
  tr:∀{i j k},lt i j=false→lt j k=false→lt i k=false
  asy:∀{i j},lt i j=true→lt j i=false
structure BW (n:Nat) (p:Array Nat):Prop where
  sz:p.size=n
  pm:p.Perm (List.toArray (List.range n))
section
variable{lt:Nat→Nat→Bool}{n:Nat}(O:Ar lt)
include O
end
end L2
namespace L2
open PySem PySem.Spec PyProof.Rows PySem.W
section
variable{prog:Program}{w:World}{A:Around}{E:Value→Shared→Prop}{s:Shared}
end
end L2
namespace L2
open PySem PySem.Spec PyProof.Rows PySem.W
section
variable{X:Cx}{K:PySem.W.Frag}
def aG(r:List Int):PyData:=.tuple (r.map .int)
end
end L2
namespace L2
open PySem PySem.Spec PyProof.Rows
section
variable{X:Cx}{K:PySem.W.Frag}
variable{o a:Expr}{es:List Expr}{fo:FE}{fs:FA}{apos cpos:Pos}
end
end L2
namespace L2
open PySem PySem.Spec PyProof.Rows
end L2
namespace L2
open PySem PySem.Spec PyProof.Rows
section
variable{X:Cx}{K:PySem.W.Frag}{σ σ2:L2.St}{H0 F H F2 H2 F3:Hp}{e e2:En}
mutual
theorem DA.dropL(hd:∀a o,F2 a=some o→(∀xs,o≠.lst xs)→F3 a=some o):∀{d:PyData} {v:V},bi d=true→DA K F2 d v→DA K F3 d v
  | .none,_,_,h=>h
  | .bool _,_,_,h=>h
  | .int _,_,_,h=>h
  | .str _,_,_,h=>h
  | .tuple ds,v,f,h=>by
    obtain⟨a,xs,e1,h1,h2⟩:=bo.mp h
    refine bo.mpr ⟨a,xs,e1,?_,ay.dropL hd (by simpa [bi] using f) h2⟩
    rcases h1 with (h1 | ⟨o,h1⟩) | h1
    · exact .inl (.inl (hd a _ h1 fun xs z=>by cases z))
    · exact .inl (.inr ⟨o,hd a _ h1 fun xs z=>by cases z⟩)
    · exact .inr h1
  | .list _,_,f,_=>by simp [bi] at f
  | .dict _,_,f,_=>by simp [bi] at f
theorem ay.dropL(hd:∀a o,F2 a=some o→(∀xs,o≠.lst xs)→F3 a=some o):∀{ds:List PyData} {vs:List V},aS ds=true→ay K F2 ds vs→ay K F3 ds vs
  | [],_,_,h=>h
  | d::ds,vs,f,h=>by
    simp only [ay] at h ⊢
    obtain⟨x,r,e1,h1,h2⟩:=h
    simp only [aS,Bool.and_eq_true] at f
    exact⟨x,r,e1,DA.dropL hd f.1 h1,ay.dropL hd f.2 h2⟩
end
def eT:Sv→Bool
  | .d x=>bi x
  | .l xs=>aS xs
  | .n yss=>yss.all aS
def qg(i:Nat)(e:En):Prop:=∀(j:Nat) (s:Sv),j≠i→e[j]?=some (some s)→eT s=true
theorem aJ.unfrz(R2:aJ K F2 H2 σ2 e2){i:Nat}{xss:List (List PyData)}{d:PyData}{l:Addr}{bs:List Addr}(hi:e2[i]?=some (some (.d d)))(hs:σ2[i]?=some (some (.ref l)))(hl:F2 l=some (.lst (bs.map V.ref)))
    (len:bs.length=xss.length)(nd:bs.Nodup)(nl:l∉bs)(sF:aq F F2)(nF:∀a,a=l∨a∈bs→F a=none)
    (hb:∀(k:Nat) (b:Addr) (ys:List PyData),bs[k]?=some b→xss[k]?=some ys→∃us,F2 b=some (.lst us)∧ay K F ys us)(hf:qg i e2):
    ∃F3,aJ K F3 H2 σ2 (e2.set i (some (.n xss)))∧aq F F3∧(∀a o,F2 a=some o→(∀xs,o≠.lst xs)→F3 a=some o)∧(∀a,F2 a=none→F3 a=none)∧
      (∀a,bK σ2 (e2.set i (some (.n xss))) H2 a→bK σ2 e2 H2 a∨a=l∨a∈bs):=by
  have hlt:i < e2.length:=(List.getElem?_eq_some_iff.mp hi).1
  let F3:Hp:=fun a=>if a=l∨a∈bs then none else F2 a
  have pos:∀a,(a=l∨a∈bs)→F3 a=none:=fun a h=>if_pos h
  have neg:∀a,¬(a=l∨a∈bs)→F3 a=F2 a:=fun a h=>if_neg h
  have lstAt:∀a,(a=l∨a∈bs)→∃us,F2 a=some (.lst us):=fun a h=>by
    rcases h with rfl | h
    · exact⟨_,hl⟩
    · obtain⟨k,hk⟩:=List.getElem?_of_mem h
      have hk2:k < xss.length:=by rw [←len];exact(List.getElem?_eq_some_iff.mp hk).1
      obtain⟨us,q,_⟩:=hb k a xss[k] hk (List.getElem?_eq_getElem hk2)
      exact⟨us,q⟩
  have hd:∀a o,F2 a=some o→(∀xs,o≠.lst xs)→F3 a=some o:=fun a o h n=>by
    by_cases z:a=l∨a∈bs
    · obtain⟨us,q⟩:=lstAt a z
      rw [q] at h;cases h
      exact absurd rfl (n us)
    · rw [neg a z];exact h
  have s3:aq F F3:=fun a o q=>by
    have z:¬(a=l∨a∈bs):=fun z=>by rw [nF a z] at q;cases q
    rw [neg a z];exact sF a o q
  have sub:∀a,F2 a=none→F3 a=none:=fun a h=>by
    by_cases z:a=l∨a∈bs
    · exact pos a z
    · rw [neg a z];exact h
  have sm:aq F3 H2:=fun a o q=>by
    by_cases z:a=l∨a∈bs
    · rw [pos a z] at q;cases q
    · rw [neg a z] at q;exact R2.sm a o q
  have gi:(e2.set i (some (Sv.n xss)))[i]?=some (some (.n xss)):=List.getElem?_set_self hlt
  have gj:∀j,j≠i→(e2.set i (some (Sv.n xss)))[j]?=e2[j]?:=fun j h=>List.getElem?_set_ne (Ne.symm h)
  have fpI:∀a,Fp σ2 (e2.set i (some (.n xss))) H2 i a→a=l∨a∈bs:=fun a q=>by
    rcases q with ⟨zs,q,_⟩ | ⟨zss,l',bs',q,q1,q2,q3⟩
    · rw [gi] at q;cases q
    · rw [hs] at q1;cases q1
      rw [R2.sm l _ hl] at q2
      have e1:bs=bs':=List.map_inj_right (fun _ _ z=>V.ref.inj z) |>.mp (HO.lst.inj (Option.some.inj q2))
      subst e1
      exact q3
  have fpJ:∀j a,j≠i→(Fp σ2 (e2.set i (some (.n xss))) H2 j a↔ Fp σ2 e2 H2 j a):=fun j a hj=>by
    unfold Fp
    rw [gj j hj]
  refine⟨F3,⟨sm,by rw [List.length_set];exact R2.len,fun j x q=>?_,fun j xs q=>?_,fun j yss q=>?_,fun j k a p q=>?_⟩,s3,hd,sub,fun a ⟨j,q⟩=>?_⟩
  · by_cases z:j=i
    · subst z;rw [gi] at q;cases q
    · rw [gj j z] at q
      obtain⟨v,h1,h2⟩:=R2.dat j x q
      exact⟨v,h1,DA.dropL hd (hf j _ z q) h2⟩
  · by_cases z:j=i
    · subst z;rw [gi] at q;cases q
    · rw [gj j z] at q
      obtain⟨l',vs,h1,h2,h3,h4⟩:=R2.own j xs q
      exact⟨l',vs,h1,sub l' h2,h3,ay.dropL hd (hf j _ z q) h4⟩
  · by_cases z:j=i
    · subst z
      rw [gi] at q
      cases q
      refine⟨l,bs,hs,pos l (.inl rfl),R2.sm l _ hl,len,nd,nl,fun k b ys q1 q2=>?_⟩
      obtain⟨us,h1,h2⟩:=hb k b ys q1 q2
      exact⟨pos b (.inr (List.mem_of_getElem? q1)),us,R2.sm b _ h1,h2.mono s3⟩
    · rw [gj j z] at q
      obtain⟨l',bs',h1,h2,h3,h4,h5,h6,h7⟩:=R2.nst j yss q
      refine⟨l',bs',h1,sub l' h2,h3,h4,h5,h6,fun k b ys q1 q2=>?_⟩
      obtain⟨h8,us,h9,h10⟩:=h7 k b ys q1 q2
      have fy:aS ys=true:=by
        have:=hf j _ z q
        simp only [eT,List.all_eq_true] at this
        exact this ys (List.mem_of_getElem? q2)
      exact⟨sub b h8,us,h9,ay.dropL hd fy h10⟩
  · have out:∀j,j≠i→Fp σ2 e2 H2 j a→¬(a=l∨a∈bs):=fun j _ hp z=>by
      obtain⟨us,q⟩:=lstAt a z
      rw [(R2.fpAt hp).1] at q;cases q
    by_cases zj:j=i
    · by_cases zk:k=i
      · rw [zj,zk]
      · subst zj
        exact absurd (fpI a p) (out k zk ((fpJ k a zk).mp q))
    · by_cases zk:k=i
      · subst zk
        exact absurd (fpI a q) (out j zj ((fpJ j a zj).mp p))
      · exact R2.fp j k a ((fpJ j a zj).mp p) ((fpJ k a zk).mp q)
  · by_cases z:j=i
    · subst z;exact .inr (fpI a q)
    · exact .inl ⟨j,(fpJ j a z).mp q⟩
theorem aJ.frzN2(R:aJ K F H σ e){i:Nat}{xss:List (List PyData)}(hi:e[i]?=some (some (.n xss))):∃(F':Hp) (l:Addr) (bs:List Addr),aJ K F' H σ (e.set i (some (.d (.list (xss.map .list)))))∧cK σ F H e F' H (e.set i (some (.d (.list (xss.map .list)))))∧
    σ[i]?=some (some (.ref l))∧F' l=some (.lst (bs.map V.ref))∧bs.length=xss.length∧bs.Nodup∧l∉bs∧(∀a,a=l∨a∈bs→F a=none∧bK σ e H a)∧
    (∀(k:Nat) (b:Addr) (ys:List PyData),bs[k]?=some b→xss[k]?=some ys→∃us,F' b=some (.lst us)∧ay K F ys us):=by
  obtain⟨l,bs,a1,a2,a3,a4,a5,a6,a7⟩:=R.nst i xss hi
  have hlt:i < e.length:=(List.getElem?_eq_some_iff.mp hi).1
  have inF:∀a,a=l∨a∈bs→Fp σ e H i a:=fun a h=>.inr ⟨xss,l,bs,hi,a1,a3,h⟩
  let F':Hp:=fun a=>if a=l∨a∈bs then H a else F a
  have pos:∀a,(a=l∨a∈bs)→F' a=H a:=fun a h=>if_pos h
  have neg:∀a,¬(a=l∨a∈bs)→F' a=F a:=fun a h=>if_neg h
  have sF:aq F F':=fun b o q=>by
    have z:¬(b=l∨b∈bs):=fun z=>by rw [(R.fpAt (inF b z)).1] at q;cases q
    rw [neg b z];exact q
  have sm:aq F' H:=fun b o q=>by
    by_cases z:b=l∨b∈bs
    · rw [pos b z] at q;exact q
    · rw [neg b z] at q;exact R.sm b o q
  have dd:∀(cs:List Addr) (yss:List (List PyData)),cs.length=yss.length→(∀(k:Nat) (b:Addr) (ys:List PyData),cs[k]?=some b→yss[k]?=some ys→b∈bs∧∃us,H b=some (.lst us)∧ay K F ys us)→ay K F' (yss.map .list) (cs.map V.ref):=by
    intro cs
    induction cs with
    | nil=>
      intro yss h _
      cases yss with
      | nil=>exact ay.nil
      | cons _ _=>simp at h
    | cons c cs ih=>
      intro yss h hh
      cases yss with
      | nil=>simp at h
      | cons ys yss=>
        obtain⟨c1,us,c2,c3⟩:=hh 0 c ys rfl rfl
        refine ay.cons (bG.mpr ⟨c,us,rfl,.inl (.inl ?_),c3.mono sF⟩) (ih yss (by simpa using h) fun k b zs q1 q2=>hh (k+1) b zs (by simpa using q1) (by simpa using q2))
        rw [pos c (.inr c1)];exact c2
  have da:DA K F' (.list (xss.map .list)) (.ref l):=bG.mpr ⟨l,_,rfl,.inl (.inl (by rw [pos l (.inl rfl)];exact a3)),dd bs xss a4 fun k b ys q1 q2=>by
    obtain⟨_,us,c2,c3⟩:=a7 k b ys q1 q2
    exact⟨List.mem_of_getElem? q1,us,c2,c3⟩⟩
  have gi:(e.set i (some (Sv.d (.list (xss.map .list)))))[i]?=some (some (.d (.list (xss.map .list)))):=List.getElem?_set_self hlt
  have nofp:∀a,¬Fp σ (e.set i (some (.d (.list (xss.map .list))))) H i a:=fun a q=>by
    rcases q with ⟨zs,q,_⟩ | ⟨xss,_,_,q,_⟩
    · rw [gi] at q;cases q
    · rw [gi] at q;cases q
  obtain⟨R',fs⟩:=R.upd1 (F':=F') (H':=H) (e':=e.set i (some (.d (.list (xss.map .list))))) i (by rw [List.length_set];exact R.len) (fun _ _=>rfl) (fun j hj=>List.getElem?_set_ne (Ne.symm hj)) sF sm
    (fun j a hj q=>by
      rw [neg a fun z=>hj (R.fp j i a q (inF a z))]
      exact(R.fpAt q).1)
    (fun j a o _ _ ha=>ha) (fun x q=>by rw [gi] at q;cases q;exact⟨_,a1,da⟩) (fun zs q=>by rw [gi] at q;cases q) (fun zss q=>by rw [gi] at q;cases q) (fun a j hj q=>absurd q (nofp a))
  refine⟨F',l,bs,R',⟨sF,fun _ h=>h,fun a vs h1 h2 h3=>?_,fun a vs h=>⟨vs,h⟩,fun _ _ h _=>h,fun j=>?_,fun a ⟨j,q⟩=>?_⟩,a1,by rw [pos l (.inl rfl)];exact a3,a4,a5,a6,fun a h=>⟨(R.fpAt (inF a h)).1,i,inF a h⟩,fun k b ys q1 q2=>?_⟩
  · rw [neg a fun z=>h3 ⟨i,inF a z⟩];exact h1
  · by_cases z:j=i
    · subst z;rw [gi,hi];simp
    · rw [List.getElem?_set_ne (Ne.symm z)]
  · by_cases z:j=i
    · subst z;exact absurd q (nofp a)
    · exact .inl ⟨j,(fs j a z).mp q⟩
  · obtain⟨_,us,c2,c3⟩:=a7 k b ys q1 q2
    exact⟨us,by rw [pos b (.inr (List.mem_of_getElem? q1))];exact c2,c3⟩
def eC:Nat→En→Bool
  | _,[]=>true
  | 0,_::e=>e.all fun o=>match o with | some s=>eT s | none=>true
  | i+1,o::e=>(match o with | some s=>eT s | none=>true)&&eC i e
theorem iT:∀{i:Nat} {e:En},eC i e=true→qg i e
  | _,[],_=>fun j s _ q=>by simp at q
  | 0,o::e,h=>fun j s n q=>by
    cases j with
    | zero=>exact absurd rfl n
    | succ j=>
      rw [List.getElem?_cons_succ] at q
      simp only [eC,List.all_eq_true] at h
      exact h _ (List.mem_of_getElem? q)
  | i+1,o::e,h=>fun j s n q=>by
    simp only [eC,Bool.and_eq_true] at h
    cases j with
    | zero=>
      rw [List.getElem?_cons_zero] at q
      cases q
      exact h.1
    | succ j=>
      rw [List.getElem?_cons_succ] at q
      exact iT h.2 j s (fun z=>n (by rw [z])) q
def kb(i:Nat)(f:FS):FS:=fun e=>(dr e i).bind fun xss=>(f (e.set i (some (.d (.list (xss.map .list)))))).bind fun fl=>match fl with
  | .nx e2=>if eC i e2=true then(match e2[i]? with
    | some (some (.d _))=>some (.nx (e2.set i (some (.n xss))))
    | _=>none) else none
  | _=>none
theorem uA{s:Stmt}{f:FS}{W:List Nat}{i:Nat}(hi:i∉W)(h:PS X s (fS K f W)):PS X s (fS K (kb i f) W):=h.mono fun D σ H h=>by
  obtain⟨F,e,fl,R,hf,q⟩:=h
  unfold kb at hf
  obtain⟨xss,h1,hf⟩:=Option.bind_eq_some_iff.mp hf
  obtain⟨fl2,h2,hf⟩:=Option.bind_eq_some_iff.mp hf
  have hn:=dm h1
  obtain⟨F1,l,bs,R1,X1,a1,a2,a3,a4,a5,a6,a7⟩:=R.frzN2 hn
  refine⟨F1,_,fl2,R1,h2,?_⟩
  cases fl2 with
  | nx e2=>
    dsimp only at hf
    split at hf
    case isFalse=>cases hf
    case isTrue hfl=>
    split at hf
    case h_2=>cases hf
    case h_1 d heq=>
    cases hf
    intro F2 H2 σ2 X2 R2
    have hs2:σ2[i]?=some (some (.ref l)):=by rw [X2.wr i hi];exact a1
    obtain⟨F3,R3,s3,hd3,sub3,o3⟩:=R2.unfrz (F:=F) (xss:=xss) (bs:=bs) heq hs2 (X2.sf _ _ a2) a3 a4 a5 (X1.sf.trans X2.sf) (fun a h=>(a6 a h).1)
      (fun k b ys q1 q2=>let ⟨us,c1,c2⟩:=a7 k b ys q1 q2;⟨us,X2.sf _ _ c1,c2⟩) (iT hfl)
    have no:∀a o,H a=some o→¬bK σ e H a→¬bK σ (e.set i (some (.d (.list (xss.map .list))))) H a:=fun a o h n z=>(X1.ow a z).elim n fun z=>by rw [h] at z;cases z
    refine q F3 H2 σ2 ⟨s3,X2.dom,fun a vs c1 c2 c3=>sub3 a (X2.fr a vs (X1.fr a vs c1 c2 c3) c2 (no a _ c2 c3)),X2.lst,fun a o c1 c2=>X2.tmp a o c1 (no a o c1 c2),fun a h=>?_,X2.wr⟩ R3
    rcases o3 a h with z | z
    · exact(X2.own a z).elim (X1.ow a) .inr
    · exact .inl (a6 a z).2
  | _=>cases hf
end
end L2
namespace L2
open PySem PySem.Spec PyProof.Rows
section
variable{X:Cx}{K:PySem.W.Frag}{a b:Expr}{fa fb:FE}{pos p p1 p2 p3 pos':Pos}{x:Str}{i:Nat}
def jx(i:Nat)(fp:FE)(fq:En→Option Int):FE:=fun e=>(dr e i).bind fun _=>(fp e).bind fun p=>(bJ p.1).bind fun k=>(dr p.2 i).bind fun xss=>(sE xss.length k).bind fun kn=>(xss[kn]?).bind fun ys=>(fq p.2).bind fun j=>if ys.length < 1000000 then some (.d .none,p.2.set i (some (.n (xss.set kn (ys++[.int j]))))) else none
theorem uo{pq:Expr}{fp:FE}{fq:En→Option Int}{ps2 apos cpos:Pos}(hK:X.K=K)(hN:X.N[i]?=some x)(hv:sC X.env.scope x)(hd:(x==("__debug__":Str))=false)(hcd:(x==("__classdict__":Str))=false)(hp:PE X a (fE K fp))(hpl:iD a)(hq:Qt X K pq fq)(hst:PySem.W.isStarred pq=false)
    (hbase:attributeBase (.Subscript (.Name x p) a ps2) "append" X.env (eval (.Subscript (.Name x p) a ps2) X.env)=eval (.Subscript (.Name x p) a ps2) X.env)
    (hfew:((backTo cpos (starEach [pq] X.env)).all (fun x=> !x.1)&&(backToKw cpos (keywordEach [] X.env)).all (fun x=>x.1.isSome)
      &&decide ([pq].length+([]:List Keyword).length+(if ([]:List Keyword).isEmpty then 0 else 1) < 30))=true)
    (hline:(apos.endLine==cpos.line)=true)(hs:starEach [pq] X.env=(false,eval pq X.env)::starEach [] X.env)(hplain:(backTo cpos (starEach [] X.env)).any (·.1)=false):
    PE X (.Call (.Attribute (.Subscript (.Name x p) a ps2) "append" apos) [pq] [] cpos) (fE K (jx i fp fq)):=by
  subst hK
  obtain⟨tq,q1,q2⟩:=hq
  refine(qZ PySem.F.plainAttrs_list PySem.F.slot_list_append PySem.F.type_list_append ee (vJ (qG rfl) (eE hN hv hd hcd) hp hpl) (xx q1 jb hst) hbase hfew hline hs hplain).mono fun σ H Q h=>?_
  obtain⟨F,e,z,e',R,hf,q⟩:=h
  unfold jx at hf
  obtain⟨xs0,g3,hf⟩:=Option.bind_eq_some_iff.mp hf
  obtain⟨⟨rp,e2⟩,g4,hf⟩:=Option.bind_eq_some_iff.mp hf
  obtain⟨k,g5,hf⟩:=Option.bind_eq_some_iff.mp hf
  obtain⟨xss,g6,hf⟩:=Option.bind_eq_some_iff.mp hf
  obtain⟨kn,g7,hf⟩:=Option.bind_eq_some_iff.mp hf
  obtain⟨ys,g8,hf⟩:=Option.bind_eq_some_iff.mp hf
  obtain⟨j,g9,hf⟩:=Option.bind_eq_some_iff.mp hf
  split at hf
  case isFalse=>cases hf
  case isTrue hlen=>
  cases hf
  obtain⟨l,bs0,a1,_⟩:=R.nst i xs0 (dm g3)
  refine⟨_,a1,F,e,rp,e2,R,g4,fun F2 H2 w X2 R2 A2=>?_⟩
  have g6':=dm g6
  obtain⟨l',bs,c1,c2,c3,c4,c5,c6,c7⟩:=R2.nst i xss g6'
  rw [a1] at c1;cases c1
  obtain⟨b,hb⟩:∃b,bs[kn]?=some b:=⟨bs[kn]'(by rw [c4];exact(List.getElem?_eq_some_iff.mp g8).1),List.getElem?_eq_getElem _⟩
  obtain⟨b1,us,b2,b3⟩:=c7 kn b ys hb g8
  have fi:∀z,z=l∨z∈bs→Fp σ e2 H2 i z:=fun z h=>.inr ⟨xss,l,bs,g6',a1,c3,h⟩
  have bm:b∈bs:=List.mem_of_getElem? hb
  have bl:b≠l:=fun z=>c6 (z ▸ bm)
  have sl:sizeLine=16777216:=sizeLine_eq
  refine⟨l,_,k,.ref b,rfl,bV A2 g5,.inl (.inl c3),?_,.inl ⟨rfl,us,.inl (.inl b2)⟩,q2 σ F2 H2 e2 j _ R2 g9 ?_⟩
  · unfold atI
    rw [List.length_map,c4,g7]
    show(bs.map V.ref)[kn]?=_
    rw [List.getElem?_map,hb];rfl
  refine⟨b,us,_,rfl,rfl,b2,by rw [←b3.len];lia,?_⟩
  have dv:DA X.K F2 (.int j) (.int j):=ba.mpr rfl
  obtain⟨R4,o4,s4⟩:=R2.putN (yss:=xss.set kn (ys++[.int j])) (bs:=bs) (H':=aQ H2 b (.lst (us++[V.int j]))) g6' a1 c2 (by rw [ap (Ne.symm bl)];exact c3) (by simp [c4]) c5 c6 (fun m z zs z1 z2=>by
      by_cases em:m=kn
      · subst em
        rw [hb] at z1;cases z1
        rw [List.getElem?_set_self (by exact(List.getElem?_eq_some_iff.mp g8).1)] at z2
        cases z2
        exact⟨b1,_,ar,b3.append (ay.one dv)⟩
      · rw [List.getElem?_set_ne (Ne.symm em)] at z2
        obtain⟨d1,us',d2,d3⟩:=c7 m z zs z1 z2
        have zb:z≠b:=fun ez=>by
          subst ez
          exact em ((List.getElem?_inj (List.getElem?_eq_some_iff.mp z1).1 c5).mp (z1.trans hb.symm))
        exact⟨d1,us',by rw [ap zb];exact d2,d3⟩)
    (fun z hz=>.inl (fi z (.inr hz)))
    (fun z q=>by
      by_cases e0:z=b
      · rw [e0,ar] at q;cases q
      · rw [ap e0] at q;exact q)
    (fun z o q _ n2=>by
      have e0:z≠b:=fun e0=>n2 (by rw [e0];exact bm)
      rw [ap e0];exact q) (fun z vs q=>by
      by_cases e0:z=b
      · rw [e0];exact⟨_,ar⟩
      · rw [ap e0];exact⟨vs,q⟩)
  refine q F2 _ .non ⟨X2.sf,fun z q=>X2.dom z ?_,X2.fr,fun z vs h=>?_,fun z o h n=>?_,fun j=>(s4 j).trans (X2.shp j),fun z h=>?_⟩ R4 ((dI (K:=X.K) (F:=F2)).mpr rfl)
  · by_cases e0:z=b
    · rw [e0,ar] at q;cases q
    · rw [ap e0] at q;exact q
  · obtain⟨vs',h'⟩:=X2.lst z vs h
    by_cases e0:z=b
    · rw [e0];exact⟨_,ar⟩
    · rw [ap e0];exact⟨vs',h'⟩
  · have e0:z≠b:=fun e0=>by
      rcases X2.ow z ⟨i,fi z (.inr (by rw [e0];exact bm))⟩ with w | w
      · exact n w
      · rw [h] at w;cases w
    rw [ap e0];exact X2.tmp z o h n
  · rcases o4 z h with w | w
    · exact X2.ow z w
    · exact X2.ow z ⟨i,fi z (.inr w)⟩
end
section
variable{X:Cx}{K:PySem.W.Frag}
end
end L2
namespace L2
open PySem PySem.Spec PyProof.Rows
section
variable{prog:Program}{w:World}{A:Around}{R:Result→Shared→Prop}
def fw(kx vx tg iter tg2 iter2:Expr)(ifs ifs2:List Expr)(scope:Scope)(pos:Pos)(acc:Value)(env:Env)(k:Sem PySem.Fin):Sem PySem.Fin:=do
  let x ←eval iter2 env
  standAt iter2.pos
  let x ←foldedSetIterable iter2 env x
  let _ ←runOwn (.compStart (.DictComp kx vx [⟨tg,iter,ifs,0⟩,⟨tg2,iter2,ifs2,0⟩] scope pos) 1 (←holding [x] (pyIter x)) acc env) env
  k
theorem jG(kx vx tg iter tg2 iter2:Expr)(ifs ifs2:List Expr)(scope:Scope)(pos:Pos)(it acc:Value)(env:Env):
    compTurn (.DictComp kx vx [⟨tg,iter,ifs,0⟩,⟨tg2,iter2,ifs2,0⟩] scope pos) 0 it acc env=(do
      standAt iter.pos
      match ←pyNext it with
      | none=>pure (.done .next)
      | some v=>
        letOwnedTupleGo tg it v
        assign tg env v
        let mut ok:=true
        for c in ifs do
          if ok then ok ←isTrue c env (eval c env)
        if ok then fw kx vx tg iter tg2 iter2 ifs ifs2 scope pos acc env (again (.compLoop (.DictComp kx vx [⟨tg,iter,ifs,0⟩,⟨tg2,iter2,ifs2,0⟩] scope pos) 0 it acc env))
        else again (.compLoop (.DictComp kx vx [⟨tg,iter,ifs,0⟩,⟨tg2,iter2,ifs2,0⟩] scope pos) 0 it acc env)):=by rfl
theorem kG(kx vx tg iter tg2 iter2:Expr)(ifs ifs2:List Expr)(scope:Scope)(pos:Pos)(it:Value)(D:Addr)(env:Env):
    compTurn (.DictComp kx vx [⟨tg,iter,ifs,0⟩,⟨tg2,iter2,ifs2,0⟩] scope pos) 1 it (.ref D) env=(do
      standAt iter2.pos
      match ←pyNext it with
      | none=>pure (.done .next)
      | some v=>
        letOwnedTupleGo tg2 it v
        assign tg2 env v
        let mut ok:=true
        for c in ifs2 do
          if ok then ok ←isTrue c env (eval c env)
        if ok then
          (do
            let kv ←eval kx env
            let vv ←holding [kv] (eval vx env)
            standAt {kx.pos with endLine:=vx.pos.endLine,endCol:=vx.pos.endCol}
            holding [kv,vv] (dictSet D kv vv))
        again (.compLoop (.DictComp kx vx [⟨tg,iter,ifs,0⟩,⟨tg2,iter2,ifs2,0⟩] scope pos) 1 it (.ref D) env)):=by rfl
def sN(prog:Program)(w:World)(A:Around)(kx vx tg:Expr)(ifs:List Expr)(env:Env)(it:Value)(D:Addr)(onward:Shared→Prop)(v:Value)(u:Shared):Prop:=
  wpAny (model prog w) A (letOwnedTupleGo tg it v) (fun _ u1=>wpAny (model prog w) A (assign tg env v) (fun _ u2=>wpAny (model prog w) A
    (forIn ifs true fun c r=>if r=true then do let ok ←isTrue c env (eval c env);pure (ForInStep.yield ok) else pure (ForInStep.yield r)) (fun ok u3=>if ok=true then wpAny (model prog w) A (eval kx env) (fun x u4=>wpAny (model prog w) A (eval vx env) (fun y u5=>wpAny (model prog w) A (dictSet D x y) (fun _ u6=>onward u6) j9 u5) j9 u4) j9 u3 else onward u3) j9 u2) j9 u1) j9 u
theorem jE{kx vx tg iter tg2 iter2:Expr}{ifs ifs2:List Expr}{scope:Scope}{pos:Pos}{it acc:Value}{env:Env}(J:Nat→Shared→Prop)
    (turn:∀n u,J n u→wpAny (model prog w) A (pyNext it) (fun r u1=>(r=none→R (.ok .next) u1)∧∀v,r=some v→sM prog w A (fw kx vx tg iter tg2 iter2 ifs ifs2 scope pos acc env) tg ifs env it (fun u2=>∃m,m < n∧J m u2) v u1) j9 u){n0:Nat}{u0:Shared}(cV:J n0 u0):
    codeAny (model prog w) A (.compLoop (.DictComp kx vx [⟨tg,iter,ifs,0⟩,⟨tg2,iter2,ifs2,0⟩] scope pos) 0 it acc env) R u0:=by
  refine codeAny_loop rfl J (fun n u ju=>?_) n0 cV
  show wpAny _ A ((compTurn (.DictComp kx vx [⟨tg,iter,ifs,0⟩,⟨tg2,iter2,ifs2,0⟩] scope pos) 0 it acc env).onRaise _) _ _ u;refine wpAny_noted ?_;rw [jG]
  refine wpAny_bind (wpAny_standAt (wpAny_bind (wpAny_mono (turn n u ju) (fun r u1 k1=>?_) fun _ _ z=>z.elim)))
  cases r with
  | none=>exact wpAny_pure (k1.1 rfl)
  | some v=>
    refine wpAny_bind (wpAny_mono (k1.2 v rfl) (fun _ u2 k2=>wpAny_bind (wpAny_mono k2 (fun _ u3 k3=>wpAny_bind (wpAny_mono k3 (fun ok u4 k4=>?_) fun _ _ z=>z.elim)) fun _ _ z=>z.elim)) fun _ _ z=>z.elim)
    cases ok with
    | false=>rw [if_neg Bool.false_ne_true] at k4;exact wpAny_pure ⟨rfl,k4⟩
    | true=>
      rw [if_pos rfl] at k4
      exact k4 _ _ _ fun u6 k6=>wpAny_pure ⟨rfl,k6⟩
theorem kD{kx vx tg iter tg2 iter2:Expr}{ifs ifs2:List Expr}{scope:Scope}{pos:Pos}{it:Value}{D:Addr}{env:Env}(J:Nat→Shared→Prop)
    (turn:∀n u,J n u→wpAny (model prog w) A (pyNext it) (fun r u1=>(r=none→R (.ok .next) u1)∧∀v,r=some v→sN prog w A kx vx tg2 ifs2 env it D (fun u2=>∃m,m < n∧J m u2) v u1) j9 u){n0:Nat}{u0:Shared}(cV:J n0 u0):
    codeAny (model prog w) A (.compLoop (.DictComp kx vx [⟨tg,iter,ifs,0⟩,⟨tg2,iter2,ifs2,0⟩] scope pos) 1 it (.ref D) env) R u0:=by
  refine codeAny_loop rfl J (fun n u ju=>?_) n0 cV
  show wpAny _ A ((compTurn (.DictComp kx vx [⟨tg,iter,ifs,0⟩,⟨tg2,iter2,ifs2,0⟩] scope pos) 1 it (.ref D) env).onRaise _) _ _ u;refine wpAny_noted ?_;rw [kG]
  refine wpAny_bind (wpAny_standAt (wpAny_bind (wpAny_mono (turn n u ju) (fun r u1 k1=>?_) fun _ _ z=>z.elim)))
  cases r with
  | none=>exact wpAny_pure (k1.1 rfl)
  | some v=>
    refine wpAny_bind (wpAny_mono (k1.2 v rfl) (fun _ u2 k2=>wpAny_bind (wpAny_mono k2 (fun _ u3 k3=>wpAny_bind (wpAny_mono k3 (fun ok u4 k4=>?_) fun _ _ z=>z.elim)) fun _ _ z=>z.elim)) fun _ _ z=>z.elim)
    cases ok with
    | false=>rw [if_neg Bool.false_ne_true] at k4;exact wpAny_pure ⟨rfl,k4⟩
    | true=>
      rw [if_pos rfl] at k4
      exact wpAny_bind (wpAny_bind (wpAny_mono k4 (fun kv u5 k5=>wpAny_bind (wpAny_holding (wpAny_mono k5 (fun vv u6 k6=>wpAny_bind (wpAny_standAt (wpAny_holding (wpAny_mono k6 (fun _ u7 k7=>wpAny_pure ⟨rfl,k7⟩) fun _ _ z=>z.elim)))) fun _ _ z=>z.elim))) fun _ _ z=>z.elim))
theorem jF{kx vx tg iter tg2 iter2:Expr}{ifs ifs2:List Expr}{scope:Scope}{pos:Pos}{it acc:Value}{env:Env}{s:Shared}
    (h0:codeAny (model prog w) A (.compLoop (.DictComp kx vx [⟨tg,iter,ifs,0⟩,⟨tg2,iter2,ifs2,0⟩] scope pos) 1 it acc env) R s)
    (h:wpAny (model prog w) A (pyIter it) (fun it' s'=>codeAny (model prog w) A (.compLoop (.DictComp kx vx [⟨tg,iter,ifs,0⟩,⟨tg2,iter2,ifs2,0⟩] scope pos) 1 it' acc env) R s') (notedBy (model prog w) A env fun x s'=>R (.error x) s') s):
    codeAny (model prog w) A (.compStart (.DictComp kx vx [⟨tg,iter,ifs,0⟩,⟨tg2,iter2,ifs2,0⟩] scope pos) 1 it acc env) R s:=by
  refine codeAny_of_tree ?_;show wpAny _ _ ((compStart (.DictComp kx vx [⟨tg,iter,ifs,0⟩,⟨tg2,iter2,ifs2,0⟩] scope pos) 1 it acc env).onRaise (fun x=>do noteFrame x env;standAt theWindowsPlace)) _ _ s
  refine wpAny_notedAt ?_;unfold compStart
  show wpAny _ _ (ask >>= _) _ _ s
  refine wpAny_bind (wpAny_askSetting (wpAny_ite ?_));split
  · first | exact wpAny_bind (wpAny_pure (wpAny_pure (And.intro rfl h0))) | exact wpAny_pure (And.intro rfl h0)
  · first | exact wpAny_bind (wpAny_rule (wpAny_bind (wpAny_standAt (wpAny_bind (wpAny_mono h (fun it' s' h'=>wpAny_pure (And.intro rfl h')) fun _ _ x=>x))))) | (refine wpAny_bind (wpAny_rule ?_);show wpAny _ _ (standAt iter2.pos >>= _) _ _ s;exact wpAny_bind (wpAny_standAt (wpAny_bind (wpAny_mono h (fun it' s' h'=>wpAny_pure (And.intro rfl h')) fun _ _ x=>x))))
end
def oI(l:Addr)(wi:TI)(g:TG)(tc:TT)(tk tv:TE)(σ:L2.St)(H:Hp)(N:L2.St→Hp→Prop):Prop:=
  wi σ H fun J H1=>∃W:Nat→Nat→L2.St→Hp→Prop,(∃m,W 0 m σ H1)∧∀i m σ' H',W i m σ' H'→
    (J.stop i H'∧N σ' H')∨(J.go i H'∧∃N2:L2.St→Hp→Prop,(∀σ2 H2,N2 σ2 H2→∃m',m' < m∧W (i+1) m' σ2 H2)∧
      ∀x H2,J.yld i H' x H2→g x σ' H2 fun σ2 H3=>tc σ2 H3 fun b H4=>if b=true then tk σ2 H4 fun y H5=>tv σ2 H5 fun v H6=>∃(kk:dB) (kvs:List (dB × V)),y=kV kk∧H6 l=some (.dK kvs)∧kvs.length < sizeLine∧N2 σ2 (aQ H6 l (.dK (l5 kvs kk v))) else N2 σ2 H4)
theorem o_{Y:Cx}{kx vx tg iter tg2 iter2:Expr}{ifs ifs2:List Expr}{scope:Scope}{pos:Pos}{wi:TI}{g:TG}{tc:TT}{tk tv:TE}(hc:Y.calm=true)(hxe:Y.xe=j9)(hi:PI Y tg2 iter2 wi)(hg:PG Y tg2 g)(ht:nI Y ifs2 tc)(hkx:PE Y kx tk)(hvx:PE Y vx tv)
    (hs:∀x,foldedSetIterable iter2 Y.env x=pure x){pins:List (Addr × Obj)}{s:Shared}{σ:L2.St}{H:Hp}{D:Addr}{N:L2.St→Hp→Prop}(I:av Y pins σ H s)(h:oI D wi g tc tk tv σ H N)(k:Sem PySem.Fin)(Q:PySem.Fin→Shared→Prop)(E:Value→Shared→Prop)(hk:∀s',(∃σ' H',av Y pins σ' H' s'∧N σ' H')→wpAny (model Y.prog Y.w) Y.A k Q E s'):
    wpAny (model Y.prog Y.w) Y.A (fw kx vx tg iter tg2 iter2 ifs ifs2 scope pos (.ref D) Y.env k) Q E s:=by
  unfold fw
  have hi':=hi pins s σ H _ I h
  rw [hxe] at hi'
  refine wpAny_bind (wpAny_mono hi' (fun v s1 h1=>wpAny_bind (wpAny_standAt (wpAny_bind (wpAny_of_eq (hs v) (wpAny_bind (wpAny_holding (wpAny_mono h1 (fun itv s2 h2=>?_) fun _ _ z=>z.elim))))))) fun _ _ z=>z.elim)
  obtain⟨it,fp,tn,J,H2,rfl,I2,T,st2,f2,W,⟨m0,w0⟩,turn⟩:=h2
  have stat:∀{H':Hp},(∀b∈fp,H' b=none)→∀b∈fp,dY Y pins H' b:=fun hn b hb=>⟨hn b hb,(f2 b hb).2⟩
  have loop:codeAny (model Y.prog Y.w) Y.A (.compLoop (.DictComp kx vx [⟨tg,iter,ifs,0⟩,⟨tg2,iter2,ifs2,0⟩] scope pos) 1 (.ref it) (.ref D) Y.env) (fun r s'=>match r with | .ok f=>wpAny (model Y.prog Y.w) Y.A k Q E s' | .error e=>cameBackBy (model Y.prog Y.w) Y.A Y.env E e s') s2:=by
    refine kD (fun n s'=>∃i σ' H',av Y pins σ' H' s'∧tn i s'.heap∧(∀b∈fp,H' b=none)∧W i n σ' H') ?_ (n0:=m0) ⟨0,σ,H2,I2,st2,fun b hb=>(f2 b hb).1,w0⟩
    rintro n s3 ⟨i,σ3,H3,I3,st3,fr3,w3⟩
    rcases turn i n σ3 H3 w3 with ⟨stop,qn⟩ | ⟨go,N2,hN,step⟩
    · refine bz (T.done Y rfl rfl rfl hc i pins s3 σ3 H3 j9 I3 (stat fr3) st3 stop) fun r s4 ⟨hr,I4⟩=>?_
      subst hr
      exact⟨fun _=>hk _ ⟨σ3,H3,I4,qn⟩,fun v z=>by cases z⟩
    · refine bz (T.item Y rfl rfl rfl hc i pins s3 σ3 H3 j9 I3 (stat fr3) st3 go) fun r s4 ⟨u,hr,h4⟩=>?_
      subst hr
      refine⟨fun z=>(by cases z),fun v z=>?_⟩
      cases z
      refine bz h4 fun _ s5 ⟨x,H5,I5,r5,y5,st5,fr5⟩=>?_
      have I5':=I5.pinned (stat fr5) (T.obj _ _ st5)
      have again:∀{σ8:L2.St} {H8:Hp} {s8:Shared},av Y (pins++eX fp s5.heap) σ8 H8 s8→N2 σ8 H8→∃m,m < n∧∃i σ' H',av Y pins σ' H' s8∧tn i s8.heap∧(∀b∈fp,H' b=none)∧W i m σ' H':=fun{σ8 H8 s8} I8 n8=>by
        obtain⟨m',hm,w8⟩:=hN σ8 H8 n8
        refine⟨m',hm,i+1,σ8,H8,I8.unpinned,T.keep _ _ _ st5 fun b hb o e=>(I8.pin (b,o) (List.mem_append_right _ (List.mem_append_right _ (bc hb e)))).1,fun b hb=>?_,w8⟩
        obtain⟨o,e,d⟩:=T.obj _ _ st5 b hb
        exact(I8.pin (b,o) (List.mem_append_right _ (List.mem_append_right _ (bc hb e)))).2.1
      have hg':=hg _ s5 σ3 H5 x u _ I5' r5 (step x H5 y5)
      rw [hxe] at hg'
      refine bz hg' fun _ s8 ⟨σ8,H8,I8,q8⟩=>?_
      have ht':=ht _ s8 σ8 H8 _ I8 q8
      rw [hxe] at ht'
      refine bz ht' fun ok s9 ⟨H9,I9,q9⟩=>?_
      cases ok with
      | false=>
        rw [if_neg Bool.false_ne_true] at q9 ⊢
        exact again I9 q9
      | true=>
        rw [if_pos rfl] at q9 ⊢
        have hk':=hkx _ s9 σ8 H9 _ I9 q9
        rw [hxe] at hk'
        refine bz hk' fun kv s10 ⟨xk,H10,I10,r10,q10⟩=>?_
        have hv':=hvx _ s10 σ8 H10 _ I10 q10
        rw [hxe] at hv'
        refine bz hv' fun vv s11 ⟨xv,H11,I11,r11,kk,kvs,ek,hl,hz,n11⟩=>?_
        subst ek
        obtain⟨z,hd,vs,rel,dd⟩:=yV I11.hok hl
        have hlen:(l5 kvs kk xv).length≤sizeLine:=by have:=lN kvs kk xv;lia
        refine wpAny_dictSet_pairs (hsz:=by rw [←rel.length];exact z) (qH r10) dd fun h' dd' hs'=>again ?_ n11
        have hex:∃q,h'.get? D=some q:=let ⟨q,_,_,hq,_⟩:=dd';⟨q,hq⟩
        exact sP I11 (by rw [hl];exact True.intro) hs' hex (wx hlen hd (rel.put kk r11) dd')
  exact wpAny_bind (wpAny_runOwn (jF loop (T.self Y.A 0 _ _ _ st2 loop)))
structure oH (cp:List (Nat × Str)) (nT:Nat) (wi:TI) (g:TG) (tc:TT) (wi2:TI) (g2:TG) (tc2:TT) (tk tv:TE) (σ:L2.St) (H:Hp) (Q:VK):Prop where
  go:wi σ H fun J H1=>∀l,H1 l=none→
  ∃W:Nat→Nat→L2.St→Hp→Prop,(∃m,W 0 m (cA cp nT σ) (aQ H1 l (.dK [])))∧∀i m σ' H',W i m σ' H'→
    (J.stop i H'∧Q (.ref l) H')∨(J.go i H'∧∃N:L2.St→Hp→Prop,(∀σ2 H2,N σ2 H2→∃m',m' < m∧W (i+1) m' σ2 H2)∧
      ∀x H2,J.yld i H' x H2→g x σ' H2 fun σ2 H3=>tc σ2 H3 fun b H4=>if b=true then oI l wi2 g2 tc2 tk tv σ2 H4 N else N σ2 H4)
theorem pC{X:Cx}{kx vx iter tg iter2 tg2:Expr}{ifs ifs2:List Expr}{scope:Scope}{pos:Pos}{wi wi2:TI}{g g2:TG}{tc tc2:TT}{tk tv:TE}(sc0:Scope)(N0:List Str)(cp:List (Nat × Str))(tgN:List Str)
    (hc:X.calm=true)(hsc:X.env.scope=sc0)(hN0:X.N=N0)(hi:PI X tg iter wi)
    (hg:∀C s0 H0 fp,PG (am X scope cp tgN C s0 H0 fp) tg g)
    (ht:∀C s0 H0 fp,nI (am X scope cp tgN C s0 H0 fp) ifs tc)
    (hi2:∀C s0 H0 fp,PI (am X scope cp tgN C s0 H0 fp) tg2 iter2 wi2)
    (hg2:∀C s0 H0 fp,PG (am X scope cp tgN C s0 H0 fp) tg2 g2)
    (ht2:∀C s0 H0 fp,nI (am X scope cp tgN C s0 H0 fp) ifs2 tc2)
    (hkx:∀C s0 H0 fp,PE (am X scope cp tgN C s0 H0 fp) kx tk)
    (hvx:∀C s0 H0 fp,PE (am X scope cp tgN C s0 H0 fp) vx tv)
    (hk:scope.kind=.function)(hcell:∀y∈scope.names,y.2≠.cell)(hnames:∀y∈scope.names,y.2=.local→scope.names.lookup y.1=some .local)
    (hfr:∀y∈scope.names,y.2=.free→scope.names.lookup y.1=some .free∧sc0.names.lookup y.1=some .cell)
    (hcp:∀p∈cp,N0[p.1]?=some p.2)(hcq:∀p∈cp,sc0.names.lookup p.2=some .cell∧scope.names.lookup p.2=some .free)
    (hs2:∀C s0 H0 fp x,foldedSetIterable iter2 (am X scope cp tgN C s0 H0 fp).env x=pure x)(hs:∀x,foldedSetIterable iter X.env x=pure x:=by intro _;rfl):
    PE X (.DictComp kx vx [⟨tg,iter,ifs,0⟩,⟨tg2,iter2,ifs2,0⟩] scope pos) (oH cp tgN.length wi g tc wi2 g2 tc2 tk tv):=by
  intro pins s σ H Q I h
  have hkind:∀x,X.env.kindOf x=sc0.names.lookup x:=fun x=>by unfold Env.kindOf;rw [hsc]
  have hfree:∀y∈scope.names,y.2=.free→∃c,X.env.cells.lookup y.1=some c:=fun y hy e=>I.ok.has y.1 (.inl (by rw [hkind];exact(hfr y hy e).2))
  rw [arm_eval_DictComp]
  refine wpAny_comprehension_free (use:=none) rfl hs (fQ hfree) hk hnames (wpAny_mono (hi pins s σ H _ I h.go) (fun xv s₁ h₁=>wpAny_mono h₁ (fun itv s₂ h₂=>?_) fun _ _ e=>e) fun _ _ e=>e)
  obtain⟨it,fp,tn,J,H2,rfl,I2,T,st2,f2,hq⟩:=h₂
  refine wpAny_newObj_type ?_
  have hlF:H2 s₂.heap.objs.size=none:=I2.hok.fresh (Nat.le_refl _)
  have I3:av X pins σ (aQ H2 s₂.heap.objs.size (.dK [])) {s₂ with heap:=s₂.heap.push {cls:=.type "dict",data:=.dict #[]}}:=I2.laid (a:=s₂.heap.objs.size) (o:=.dK []) (t':=s₂.toks) (fun _ _ q=>Heap.get?_push_of_some _ q) (Nat.le_refl _) (qe s₂.heap I2.big)
  obtain⟨W,⟨m0,w0⟩,turn⟩:=hq _ hlF
  have f3:∀b∈fp,dY X pins (aQ H2 s₂.heap.objs.size (.dK [])) b:=fun b hb=>by
    obtain⟨f0,fr⟩:=f2 b hb
    obtain⟨o,ho,_⟩:=T.obj _ _ st2 b hb
    exact⟨by rw [ap (Nat.ne_of_lt (Heap.lt_size ho))];exact f0,fr⟩
  have st3:tn 0 (s₂.heap.push {cls:=.type "dict",data:=.dict #[]}):=T.keep _ _ _ st2 fun b _ o e=>Heap.get?_push_of_some _ e
  generalize hD:s₂.heap.objs.size=D at*
  generalize hs3:({s₂ with heap:=s₂.heap.push {cls:=.type "dict",data:=.dict #[]}}:Shared)=s₃ at*
  have hst3:tn 0 s₃.heap:=by rw [←hs3];exact st3
  refine wpAny_newFunctionEnv hcell (by intro y hy;simp at hy) (fun h₁ hns₁ hsb₁=>?_) hk
  generalize hC:s₃.heap.objs.size=C at*
  have old:∀b o,s₃.heap.get? b=some o→h₁.get? b=some o:=fun b o e=>hsb₁.extBut b o (by rw [←hC];exact Nat.ne_of_lt (Heap.lt_size e)) (Heap.get?_push_of_some _ e)
  have nC:∀b o,s₃.heap.get? b=some o→b≠C:=fun b o e=>by rw [←hC];exact Nat.ne_of_lt (Heap.lt_size e)
  have hHC:(aQ H2 D (.dK [])) C=none:=I3.hok.fresh (by rw [hC];exact Nat.le_refl _)
  have clS:∀x c,(dq X.env scope.names []).lookup x=some c→X.env.cells.lookup x=some c:=fun x c e=>eB _ _ x c hfree (fun _ _ z=>by simp at z) e
  have clH:∀x,(∃y∈scope.names,y.1=x∧y.2=.free)→∃c,(dq X.env scope.names []).lookup x=some c:=fun x e=>gh _ _ x (.inl e)
  have ok':(am X scope cp tgN C s₃ (aQ H2 D (.dK [])) fp).Ok:=by
    refine⟨I.ok.mod,hk,I.ok.glob,I.ok.blt,by rw [←hC];exact Nat.le_refl _,fun x y c e1 e2=>I.ok.inj x y c (clS _ _ e1) (clS _ _ e2),fun x e=>clH x (br hcell e),fun x c e1 e2=>?_,I.ok.hd,I.ok.frames,.inl rfl,fun b hb=>?_,fun b o e=>I3.bs b o e,?_,fun b o e hb=>?_,fun b hb z=>?_,I3.stack,fun b hb=>I3.stkFree b hb⟩
    · exfalso
      have e1':scope.names.lookup x=some .local:=by simpa [am] using e1
      have e2':=clS x c e2
      obtain⟨c',hc'⟩:∃y∈scope.names,y.1=x∧y.2=.free:=by
        by_cases q:∃y∈scope.names,y.1=x∧y.2=.free
        · exact q
        · exfalso
          have:∀(names:List (Str × NameKind)) (cs:List (Str × Addr)),(¬∃y∈names,y.1=x∧y.2=.free)→cs.lookup x=none→(dq X.env names cs).lookup x=none:=by
            intro names
            induction names with
            | nil=>intro cs _ h;exact h
            | cons y r ih=>
              intro cs hn hcs
              obtain⟨n,k⟩:=y
              refine ih _ (fun⟨y,hy,z⟩=>hn ⟨y,List.mem_cons_of_mem _ hy,z⟩) ?_
              by_cases hk:(k==NameKind.free)=true
              · rw [if_pos hk,List.lookup_cons]
                cases hx:x==n with
                | true=>exact absurd ⟨(n,k),List.mem_cons_self,(by simpa using hx:x=n).symm,by simpa using hk⟩ hn
                | false=>exact hcs
              · rw [if_neg hk];exact hcs
          have z:=this scope.names [] q rfl
          have e2'':(dq X.env scope.names []).lookup x=some c:=e2
          rw [z] at e2'';cases e2''
      have z:=(hfr c' hc'.1 hc'.2.2).1
      rw [hc'.2.1,e1'] at z;cases z
    · obtain⟨f0,f1,f4,f5,f6,f7⟩:=f3 b hb
      obtain⟨o,ho,_⟩:=T.obj _ _ hst3 b hb
      exact⟨nC b o ho,fun x c e=>f6 x c (clS x c e)⟩
    · exact Nat.le_trans I.ok.bsz I3.sz
    · obtain⟨f0,f1,f4,f5,f6,f7⟩:=f3 b hb
      rcases f5 with z | z
      · exact I.ok.noex b o e z
      · have:=(I.ok.bs b o e).1
        exact absurd (Nat.lt_of_lt_of_le (Heap.lt_size this) z) (Nat.lt_irrefl _)
    · obtain⟨f0,f1,f4,f5,f6,f7⟩:=f3 b hb
      rcases List.mem_cons.mp (I3.stkSub b z) with z | z
      · exact f1 z
      · exact f4 z
  have I4:av (am X scope cp tgN C s₃ (aQ H2 D (.dK [])) fp) [] (cA cp tgN.length σ) (aQ H2 D (.dK [])) {s₃ with heap:=h₁,toks:=s₃.toks+([]:List (Str × Value)).length}:=by
    refine⟨ok',rfl,I3.bare,Un.kept old,⟨_,hns₁,fun i x v e1 e2 e3=>?_⟩,fun x c e=>?_,hHC,fun x c e=>I3.freeC x c (clS x c e),fun p hp=>by simp [am] at hp,I3.hok.kept old,by simp [cA,am]⟩
    · have hlt:i < cp.length:=by
        by_cases q:i < cp.length
        · exact q
        · exfalso
          unfold cA at e2
          rw [List.getElem?_append_right (by simp;lia)] at e2
          rw [List.getElem?_replicate] at e2
          split at e2<;>cases e2
      have e1':(cp.map (·.2))[i]?=some x:=by
        have e1'':(cp.map (·.2)++tgN)[i]?=some x:=e1
        rwa [List.getElem?_append_left (by simp;exact hlt)] at e1''
      have e2':(cp.map (fun p=>(σ[p.1]?).join))[i]?=some (some v):=by
        unfold cA at e2
        rwa [List.getElem?_append_left (by simp;exact hlt)] at e2
      rw [List.getElem?_map,List.getElem?_eq_getElem hlt] at e1' e2'
      have ex:(cp[i]).2=x:=by simpa using e1'
      have ev:(σ[(cp[i]).1]?).join=some v:=by simpa using e2'
      have ev':σ[(cp[i]).1]?=some (some v):=by
        cases q:σ[(cp[i]).1]? with
        | none=>rw [q] at ev;cases ev
        | some z=>rw [q] at ev;simp only [Option.join_some] at ev;rw [ev]
      have hN:=hcp cp[i] (List.getElem_mem hlt)
      rw [←hN0] at hN
      obtain⟨hcl,hcf⟩:=hcq cp[i] (List.getElem_mem hlt)
      rw [ex] at hN hcl hcf
      obtain⟨m,hn,hl⟩:=I3.loc
      obtain⟨u,r,l⟩:=hl _ x v hN ev' (.inr (.inl (by rw [hsc];exact hcl)))
      refine⟨u,r,.inr ?_⟩
      rcases l with ⟨k1,_⟩ | ⟨k1,c,hcc,o,ho,hd⟩
      · rw [hkind,hcl] at k1;cases k1
      · have e3':(relabel scope X.env).names.lookup x=some .local∨(relabel scope X.env).names.lookup x=some .cell∨(relabel scope X.env).names.lookup x=some .free:=e3
        have nl:(relabel scope X.env).names.lookup x=some .cell∨(relabel scope X.env).names.lookup x=some .free:=by
          rcases e3' with z | z | z
          · exact absurd z (b_ hcf)
          · exact .inl z
          · exact .inr z
        obtain⟨c',hc'⟩:=clH x (br hcell nl)
        have:=clS x c' hc'
        rw [hcc] at this;cases this
        exact⟨nl,c,hc',o,old c o ho,hd⟩
    · obtain⟨v,o,ho,hd⟩:=I3.cell x c (clS x c e)
      exact⟨v,o,old c o ho,hd⟩
  have hst4:tn 0 h₁:=T.keep _ _ _ hst3 fun b _ o e=>old b o e
  have loop:codeAny (model X.prog X.w) X.A (.compLoop (.DictComp kx vx [⟨tg,iter,ifs,0⟩,⟨tg2,iter2,ifs2,0⟩] scope pos) 0 (.ref it) (.ref D) (compEnvC scope (dq X.env scope.names []) C X.env))
      (compPost (model X.prog X.w) X.A X.xe none (EP X pins σ Q) (.ref D) C) {s₃ with heap:=h₁,toks:=s₃.toks+([]:List (Str × Value)).length}:=by
    refine jE (fun n s'=>∃i σ' H',av (am X scope cp tgN C s₃ (aQ H2 D (.dK [])) fp) [] σ' H' s'∧tn i s'.heap∧(∀b∈fp,H' b=none)∧W i n σ' H') ?_ (n0:=m0) ⟨0,_,_,I4,hst4,fun b hb=>(f3 b hb).1,w0⟩
    rintro n s5 ⟨i,σ5,H5,I5,st5,fr5,w5⟩
    have stat:∀{H':Hp},(∀b∈fp,H' b=none)→∀b∈fp,dY (am X scope cp tgN C s₃ (aQ H2 D (.dK [])) fp) [] H' b:=fun hn b hb=>
      ⟨hn b hb,(ok'.exf b hb).1,ok'.exfs b hb,.inl hb,(ok'.exf b hb).2,fun p hp=>by simp [am] at hp⟩
    rcases turn i n σ5 H5 w5 with ⟨stop,qn⟩ | ⟨go,N,hN,step⟩
    · refine bz (T.done (am X scope cp tgN C s₃ (aQ H2 D (.dK [])) fp) rfl rfl rfl hc i [] s5 σ5 H5 (fun _ _=>False) I5 (stat fr5) st5 stop) fun r s6 ⟨hr,I6⟩=>?_
      subst hr
      refine⟨fun _=>?_,fun v z=>by cases z⟩
      obtain⟨m,hn,_⟩:=I6.loc
      refine⟨m,hn,fun h' sb=>⟨.ref D,H5,?_,rfl,qn⟩⟩
      have ub:=I6.base
      have kp:∀b u,b≠C→s6.heap.get? b=some u→h'.get? b=some u:=fun b u ne e=>sb.extBut b u ne e
      have nit:∀b u,H5 b=some u→b≠C:=fun b u e z=>by
        have:=I6.free
        rw [z] at e
        rw [show H5 C=none from this] at e;cases e
      refine I3.call' (s':={s6 with heap:=h'}) (ch:=fp) I6.os ⟨fun b o e n hb hx=>kp b o (nC b o e) (ub.keep b o e n hb hx),fun b o e n hb hx=>?_,ub.free,fun b o e hx=>?_,ub.tups,ub.frzs,ub.tbls⟩ (fun b u e=>?_) I6.bare (fun b hb=>?_)
      · obtain⟨sl,q⟩:=ub.slot b o e n hb hx
        exact⟨sl,kp b _ (nC b o e) q⟩
      · obtain⟨o',q⟩:=ub.there b o e hx
        exact⟨o',kp b _ (nC b o e) q⟩
      · refine(I6.hok b u e).stay (fun c v hc q=>kp c v ?_ q) (fun _ q=>q) fun _ _ q=>q
        rcases hc with z | z
        · rw [z];exact nit b u e
        · exact nit c _ z
      · obtain⟨f0,f1,f4,f5,f6,f7⟩:=f3 b hb
        exact⟨f5,f1,f6,f7⟩
    · refine bz (T.item (am X scope cp tgN C s₃ (aQ H2 D (.dK [])) fp) rfl rfl rfl hc i [] s5 σ5 H5 (fun _ _=>False) I5 (stat fr5) st5 go) fun r s6 ⟨u,hr,h6⟩=>?_
      subst hr
      refine⟨fun z=>(by cases z),fun v z=>?_⟩
      cases z
      refine bz h6 fun _ s7 ⟨x,H7,I7,r7,y7,st7,fr7⟩=>?_
      have I7':=I7.pinned (stat fr7) (T.obj _ _ st7)
      have again:∀{σ8:L2.St} {H8:Hp} {s8:Shared},av (am X scope cp tgN C s₃ (aQ H2 D (.dK [])) fp) ([]++eX fp s7.heap) σ8 H8 s8→N σ8 H8→∃m,m < n∧∃i σ' H',av (am X scope cp tgN C s₃ (aQ H2 D (.dK [])) fp) [] σ' H' s8∧tn i s8.heap∧(∀b∈fp,H' b=none)∧W i m σ' H':=fun{σ8 H8 s8} I8 n8=>by
        obtain⟨m',hm,w8⟩:=hN σ8 H8 n8
        refine⟨m',hm,i+1,σ8,H8,I8.unpinned,T.keep _ _ _ st7 fun b hb o e=>(I8.pin (b,o) (List.mem_append_right _ (List.mem_append_right _ (bc hb e)))).1,fun b hb=>?_,w8⟩
        obtain⟨o,e,d⟩:=T.obj _ _ st7 b hb
        exact(I8.pin (b,o) (List.mem_append_right _ (List.mem_append_right _ (bc hb e)))).2.1
      refine bz (hg C s₃ (aQ H2 D (.dK [])) fp _ s7 σ5 H7 x u _ I7' r7 (step x H7 y7)) fun _ s8 ⟨σ8,H8,I8,q8⟩=>?_
      refine bz (ht C s₃ (aQ H2 D (.dK [])) fp _ s8 σ8 H8 _ I8 q8) fun ok s9 ⟨H9,I9,q9⟩=>?_
      cases ok with
      | false=>
        rw [if_neg Bool.false_ne_true] at q9 ⊢
        exact again I9 q9
      | true=>
        rw [if_pos rfl] at q9 ⊢
        exact fun k Q' E' hk=>o_ (Y:=am X scope cp tgN C s₃ (aQ H2 D (.dK [])) fp) hc rfl (hi2 C s₃ _ fp) (hg2 C s₃ _ fp) (ht2 C s₃ _ fp) (hkx C s₃ _ fp) (hvx C s₃ _ fp) (hs2 C s₃ _ fp) I9 q9 k Q' E' fun s' ⟨σ11,H11,I11,q11⟩=>hk s' (again I11 q11)
  exact codeAny_compStart_dict loop (T.self X.A 0 _ _ _ hst4 loop)
end L2
namespace L2
open PySem PySem.Spec PyProof.Rows
def yN:PyData→Option fJ
  | .int k=>some (.vi k)
  | .bool b=>some (.vb b)
  | .none=>some .vn
  | _=>none
def we(i:Nat):En→Option fJ:=fun e=>match e[i]? with
  | some (some (.d d))=>yN d
  | _=>none
def yu(i:Nat):En→Option (List PyData):=fun e=>match e[i]? with
  | some (some (.d (.tuple xs)))=>some xs
  | _=>none
def aK(p:Int × fJ):dB × V:=(Sum.inl p.1,p.2.toV)
def aD(p:Int × fJ):PyData × PyData:=(.int p.1,p.2.toD)
def wq(g2:FG)(ik iv:Nat):List PyData→En→List (Int × fJ)→Option (List (Int × fJ) × En)
  | [],e,acc=>some (acc,e)
  | x::r,e,acc=>(g2 x e).bind fun e1=>(lS ik e1).bind fun k=>(we iv e1).bind fun a=>if acc.length < 1000000∧(acc.any fun p=>p.1==k)=false then wq g2 ik iv r e1 (acc++[(k,a)]) else none
def wu(g:FG)(ii:Nat)(g2:FG)(ik iv:Nat):List PyData→En→List (Int × fJ)→Option (List (Int × fJ) × En)
  | [],e,acc=>some (acc,e)
  | x::r,e,acc=>(g x e).bind fun e1=>(yu ii e1).bind fun its=>(wq g2 ik iv its e1 acc).bind fun z=>wu g ii g2 ik iv r z.2 z.1
def fH(nT:Nat)(fi:FI)(g:FG)(ii:Nat)(g2:FG)(ik iv:Nat):FE:=fun e=>(fi e).bind fun p=>if p.2.1=[] then(wu g ii g2 ik iv p.1 (i0 [] nT p.2.2) []).bind fun z=>some (.d (.dict (z.1.map aD)),gQ (gB []) z.2 p.2.2) else none
section
variable{K:PySem.W.Frag}{F H F' H':Hp}{σ σ':L2.St}{e e':En}{nT:Nat}
theorem aJ.putO(R:aJ K F H σ e){l:Addr}{o:HO}(h1:F l=none)(h2:¬bK σ e H l):aJ K F (aQ H l o) σ e∧∀a,bK σ e (aQ H l o) a↔ bK σ e H a:=
  R.keep (aq.refl F) (fun b o q=>by
    have z:b≠l:=fun z=>by rw [z,h1] at q;cases q
    rw [ap z];exact R.sm b o q) (fun a ⟨i,h⟩=>(R.fpAt h).1) fun a o ha q=>by
    have z:a≠l:=fun z=>h2 (z ▸ ha)
    rw [ap z];exact q
theorem rC{acc:List (Int × fJ)}{k:Int}{a:fJ}(h:(acc.any fun p=>p.1==k)=false):l5 (acc.map aK) (Sum.inl k) a.toV=(acc++[(k,a)]).map aK:=by
  have e:((acc.map aK).any fun kv=>decide (kv.1=(Sum.inl k:dB)))=false:=by
    rw [List.any_map,List.any_eq_false]
    intro p hp
    have:=List.any_eq_false.mp h p hp
    simp only [beq_iff_eq] at this
    simp only [Function.comp,aK,decide_eq_true_eq]
    exact fun z=>this (by simpa using z)
  unfold l5
  rw [e,if_neg (by simp),List.map_append]
  rfl
inductive CD (K:PySem.W.Frag) (W:List Nat) (σ0:L2.St) (F1 H1:Hp) (e0:En) (l:Addr) (P:Hp→En→List (Int × fJ)→Prop) (σ':L2.St) (H':Hp):Prop
  | mk {F':Hp} {ei:En} {acc:List (Int × fJ)} (R:aJ K F' H' σ' ei) (X:bS W σ0 F1 H1 e0 σ' F' H' ei) (fl:F' l=none) (hl:H' l=some (.dK (acc.map aK))) (hc:P F' ei acc):CD K W σ0 F1 H1 e0 l P σ' H'
theorem nD{Q:VK}{fi:FI}{g g2:FG}{W:List Nat}{ii ik iv:Nat}(h:fE K (fH nT fi g ii g2 ik iv) σ H Q):
    oH [] nT (fI K fi) (fG K g W) (fun _ H Q=>Q true H) (wJ K (k_ ii)) (fG K g2 W) (fun _ H Q=>Q true H) (k_ ik) (k_ iv) σ H Q:=by
  obtain⟨F0,e0,z,e',R0,hf,q⟩:=h
  unfold fH at hf
  obtain⟨⟨items,own,e1⟩,h1,hf⟩:=Option.bind_eq_some_iff.mp hf
  dsimp only at hf
  split at hf
  case isFalse=>cases hf
  case isTrue hO=>
  subst hO
  obtain⟨⟨out,eo⟩,h2,hf⟩:=Option.bind_eq_some_iff.mp hf
  cases hf
  refine⟨⟨F0,e0,items,[],e1,R0,h1,fun J F1 H1 X1 R1 kp ok=>?_⟩⟩
  intro l hl
  obtain⟨Ri,sub⟩:=R1.inn (cp:=[]) (nT:=nT) List.nodup_nil
  have hFl:F1 l=none:=R1.freeF hl
  let Iv:Nat→L2.St→Hp→Prop:=fun i=>CD K W (cA [] nT σ) F1 H1 (i0 [] nT e1) l fun _ ei acc=>wu g ii g2 ik iv (items.drop i) ei acc=some (out,eo)
  have nod:∀{F H:Hp} {σ:L2.St} {e:En} {m:List (dB × V)},aJ K F H σ e→H l=some (.dK m)→¬bK σ e H l:=fun R h=>R.notOwn h (fun _ z=>nomatch z)
  have ri:=Ri.putO (o:=.dK []) hFl (fun z=>(Ri.ownH l z) hl)
  refine⟨fun i m σ' H'=>m=items.length - i∧i≤items.length∧Iv i σ' H',⟨items.length,by simp,Nat.zero_le _,.mk ri.1 (bS.refl.putT hl ri.2) hFl ar h2⟩,?_⟩
  rintro i m σ' H' ⟨rfl,hi,⟨R',X',fl,hl',hc⟩⟩
  rename_i F' ei acc
  obtain⟨go,stop,yld⟩:=ok F' H' X'.sf R'.sm (fun p hp=>by cases hp)
  by_cases hlt:i < items.length
  · have hd:items.drop i=items[i]::items.drop (i+1):=List.drop_eq_getElem_cons hlt
    rw [hd] at hc
    unfold wu at hc
    obtain⟨e2,c2,hc⟩:=Option.bind_eq_some_iff.mp hc
    obtain⟨its2,c5,hc⟩:=Option.bind_eq_some_iff.mp hc
    obtain⟨⟨acc2,e6⟩,c6,hc⟩:=Option.bind_eq_some_iff.mp hc
    refine .inr ⟨go i hlt,Iv (i+1),fun σ2 H2 r=>⟨items.length - (i+1),by lia,rfl,hlt,r⟩,fun x H2 hy=>?_⟩
    obtain⟨F2,sH,sF2,sm2,fz,hx⟩:=yld i items[i] x H2 (List.getElem?_eq_getElem hlt) hy
    obtain⟨R2,X2⟩:=R'.step sH sF2 sm2 fz
    refine⟨F2,ei,items[i],e2,R2,hx,c2,fun σ3 X3 R3=>ti ?_⟩
    have hlH2:H2 l=some (.dK (acc.map aK)):=sH _ _ hl'
    have fl2:F2 l=none:=fz l fl (by rw [hl'];simp)
    have E3:bS W (cA [] nT σ) F1 H1 (i0 [] nT e1) σ3 F2 H2 e2:=(X'.trans X2.s).trans X3
    unfold yu at c5
    split at c5
    case h_2=>cases c5
    case h_1 xs heq=>
    cases c5
    obtain⟨vt,t1,t2⟩:=R3.dat ii _ heq
    obtain⟨pt,vs,rfl,s1,s2⟩:=bo.mp t2
    refine⟨_,t1,pt,rfl,⟨vs,R3.sm.tup s1⟩,?_⟩
    have ok2:=lM (σ:=σ3) (K:=K) (F0:=F2) (.tup s1 s2)
    let Iv2:Nat→L2.St→Hp→Prop:=fun j=>CD K W (cA [] nT σ) F1 H1 (i0 [] nT e1) l fun F' ei acc=>aq F2 F'∧wq g2 ik iv (its2.drop j) ei acc=some (acc2,e6)
    refine⟨fun j m σ' H'=>m=its2.length - j∧j≤its2.length∧Iv2 j σ' H',⟨its2.length,by simp,Nat.zero_le _,.mk R3 E3 fl2 hlH2 ⟨aq.refl _,c6⟩⟩,?_⟩
    rintro j m σ6 H6 ⟨rfl,hj,⟨R6,X6,fl6,hl6,s6,hc6⟩⟩
    rename_i F6 ei6 acc6
    obtain⟨go2,stop2,yld2⟩:=ok2 F6 H6 s6 R6.sm (fun p hp=>by cases hp)
    by_cases hjt:j < its2.length
    · have hd2:its2.drop j=its2[j]::its2.drop (j+1):=List.drop_eq_getElem_cons hjt
      rw [hd2] at hc6
      unfold wq at hc6
      obtain⟨e7,c7,hc6⟩:=Option.bind_eq_some_iff.mp hc6
      obtain⟨kk,c8,hc6⟩:=Option.bind_eq_some_iff.mp hc6
      obtain⟨aa,c9,hc6⟩:=Option.bind_eq_some_iff.mp hc6
      split at hc6
      case isFalse=>cases hc6
      case isTrue hlen=>
      refine .inr ⟨go2 j hjt,Iv2 (j+1),fun σ2 H2 r=>⟨its2.length - (j+1),by lia,rfl,hjt,r⟩,fun x7 H7 hy7=>?_⟩
      obtain⟨F7,sH7,sF7,sm7,fz7,hx7⟩:=yld2 j its2[j] x7 H7 (List.getElem?_eq_getElem hjt) hy7
      obtain⟨R7,X7⟩:=R6.step sH7 sF7 sm7 fz7
      refine⟨F7,ei6,its2[j],e7,R7,hx7,c7,fun σ8 X8 R8=>ti ?_⟩
      have hlH7:H7 l=some (.dK (acc6.map aK)):=sH7 _ _ hl6
      have fl7:F7 l=none:=fz7 l fl6 (by rw [hl6];simp)
      have E8:bS W (cA [] nT σ) F1 H1 (i0 [] nT e1) σ8 F7 H7 e7:=(X6.trans X7.s).trans X8
      have kv:σ8[ik]?=some (some (.int kk)):=by
        unfold lS at c8
        split at c8
        · rename_i heq
          cases c8
          obtain⟨v,g1,g2⟩:=R8.dat ik _ heq
          rw [g1,ba.mp g2]
        · cases c8
      have vv:σ8[iv]?=some (some aa.toV):=by
        unfold we at c9
        split at c9
        · rename_i d heq
          obtain⟨v,g1,g2⟩:=R8.dat iv _ heq
          rw [g1]
          cases d with
          | int n=>cases c9;rw [ba.mp g2];rfl
          | bool n=>cases c9;rw [cv.mp g2];rfl
          | none=>cases c9;rw [dI.mp g2];rfl
          | _=>cases c9
        · cases c9
      have sl:sizeLine=16777216:=sizeLine_eq
      refine⟨_,kv,_,vv,Sum.inl kk,_,rfl,hlH7,by rw [List.length_map];lia,?_⟩
      rw [rC hlen.2]
      have rc:=R8.putO (o:=.dK ((acc6++[(kk,aa)]).map aK)) fl7 (nod R8 hlH7)
      exact .mk rc.1 (E8.putT hl rc.2) fl7 ar ⟨s6.trans sF7,hc6⟩
    · have hd2:its2.drop j=[]:=List.drop_eq_nil_of_le (by lia)
      rw [hd2] at hc6
      cases hc6
      exact .inl ⟨stop2 j (by lia),.mk R6 X6 fl6 hl6 hc⟩
  · have hd:items.drop i=[]:=List.drop_eq_nil_of_le (by lia)
    rw [hd] at hc
    cases hc
    refine .inl ⟨stop i (by lia),?_⟩
    obtain⟨R9,X9,o9⟩:=jt R1 sub fv X'.sf X'.dom X'.fr X'.lst X'.tmp R' (fun i k xs g1 g2=>by
      obtain⟨s,g⟩:=cH g2
      simp at g) fun i k xs g1 g2=>by
        obtain⟨s,g⟩:=cH g2
        simp at g
    obtain⟨Ra,sa⟩:=R9.freeze fl hl' (nod R9 hl')
    have hHl:H l=none:=X1.dom l hl
    refine q _ H' (.ref l) ((X1.trans X9).frz sa fun a ha hn=>?_) Ra ?_
    · have z:a≠l:=fun z=>hn (by rw [z];exact hHl)
      rw [ap z];exact ha
    · simp only [bD,DA]
      exact⟨l,out,rfl,ar,rfl⟩
end
section
variable{X:Cx}{K:PySem.W.Frag}{pos:Pos}
theorem rF{iter tg tg2:Expr}{xk xv xi:Str}{pk pv pi:Pos}{scope:Scope}{fi:FI}{g g2:FG}{W W2:List Nat}{ii ik iv:Nat}(sc0:Scope)(N0:List Str)(tgN:List Str)(hK:X.K=K)
    (hc:X.calm=true)(hsc:X.env.scope=sc0)(hN0:X.N=N0)(hi:PI X tg iter (fI K fi))
    (hg:∀C s0 H0 fp,PG (am X scope [] tgN C s0 H0 fp) tg (fG K g W))
    (hi2:∀C s0 H0 fp,PE (am X scope [] tgN C s0 H0 fp) (.Name xi pi) (k_ ii))
    (hg2:∀C s0 H0 fp,PG (am X scope [] tgN C s0 H0 fp) tg2 (fG K g2 W2))
    (hkx:∀C s0 H0 fp,PE (am X scope [] tgN C s0 H0 fp) (.Name xk pk) (k_ ik))
    (hvx:∀C s0 H0 fp,PE (am X scope [] tgN C s0 H0 fp) (.Name xv pv) (k_ iv))
    (hk:scope.kind=.function)(hcell:∀y∈scope.names,y.2≠.cell)(hnames:∀y∈scope.names,y.2=.local→scope.names.lookup y.1=some .local)
    (hfr:∀y∈scope.names,y.2=.free→scope.names.lookup y.1=some .free∧sc0.names.lookup y.1=some .cell)
    (hs2:∀C s0 H0 fp x,foldedSetIterable (.Name xi pi) (am X scope [] tgN C s0 H0 fp).env x=pure x)(hs:∀x,foldedSetIterable iter X.env x=pure x):
    PE X (.DictComp (.Name xk pk) (.Name xv pv) [⟨tg,iter,[],0⟩,⟨tg2,.Name xi pi,[],0⟩] scope pos) (fE K (fH tgN.length fi g ii g2 ik iv)):=by
  subst hK
  exact(pC sc0 N0 [] tgN hc hsc hN0 hi (fun C s0 H0 fp=>(hg C s0 H0 fp).wide fun j hj=>List.mem_append_left W2 hj) (fun _ _ _ _=>kX) (fun C s0 H0 fp=>rl (hi2 C s0 H0 fp)) (fun C s0 H0 fp=>(hg2 C s0 H0 fp).wide fun j hj=>List.mem_append_right W hj) (fun _ _ _ _=>kX) hkx hvx hk hcell hnames hfr (fun p hp=>by cases hp) (fun p hp=>by cases hp) hs2 hs).mono fun _ _ _ h=>nD h
def jX:En→Rv→Rv→Option Rv:=fun _ x y=>match x,y with
  | .d (.dict kvs),.d (.int k)=>(kvs.find? fun p=>match p.1 with | .int i=>i==k | _=>false).map fun p=>.d p.2
  | _,_=>none
theorem iR(k:Int):∀(m:List (Int × fJ)),(m.map fun p=>(PyData.int p.1,p.2.toD)).find? (fun p=>match p.1 with | .int i=>i==k | _=>false)=(m.find? fun p=>p.1==k).map fun p=>(PyData.int p.1,p.2.toD)
  | []=>rfl
  | p::r=>by
    rw [List.map_cons,List.find?_cons,List.find?_cons]
    dsimp only
    cases c:p.1==k with
    | true=>rfl
    | false=>exact iR k r
theorem lw(k:Int):∀(m:List (Int × fJ)),jz (m.map fun p=>((Sum.inl p.1:dB),p.2.toV)) (Sum.inl k)=(m.find? fun p=>p.1==k).map fun p=>p.2.toV
  | []=>rfl
  | p::r=>by
    rw [List.map_cons,List.find?_cons]
    cases c:p.1==k with
    | true=>
      rw [jB (by rw [beq_iff_eq] at c;rw [c])]
      rfl
    | false=>
      rw [jA (fun z=>by rw [beq_eq_false_iff_ne] at c;exact c (Sum.inl.inj z))]
      exact lw k r
theorem wg{F:Hp}(a:fJ):DA K F a.toD a.toV:=by cases a<;>simp [fJ.toD,fJ.toV,DA]
theorem ww:et K (fun x y H Q=>∃a v,x=.ref a∧mG H a y (some v)∧Q v H) jX:=by
  intro σ H0 F H e x y z v u Q R A B hg q
  unfold jX at hg
  split at hg
  case h_2=>cases hg
  case h_1 kvs k=>
  obtain⟨p,hp,hg⟩:=Option.map_eq_some_iff.mp hg
  cases hg
  have A':DA K F (.dict kvs) v:=A
  simp only [DA] at A'
  obtain⟨a,m,rfl,hF,rfl⟩:=A'
  have B':u=.int k:=ba.mp (show DA K F (.int k) u from B)
  subst B'
  rw [iR] at hp
  obtain⟨pm,h1,rfl⟩:=Option.map_eq_some_iff.mp hp
  have hv:=lw k m
  rw [h1] at hv
  have g:=mG.k (k:=Sum.inl k) (R.sm _ _ hF)
  rw [hv] at g
  exact⟨a,pm.2.toV,rfl,g,q F H _ (cK.refl _ _ _ _) R (wg pm.2)⟩
theorem xO{a b:Expr}{fa fb:FE}{k:Nat}(hr:cF k X.A)(ha:PE X a (fE K fa))(hb:PE X b (fE K fb))(hs:wa b):PE X (.Subscript a b pos) (fE K (ax jX fa fb)):=(tZ (by have:=hr.units;lia) ha hb hs).mono fun σ H Q h=>jy ww h
end
end L2
namespace V70
open PySem PySem.Spec PyProof.Rows L2
variable{P:Program}{w:World}{K:W.Frag}{mg:Str→Option Value}{base:Heap}{f:Addr}{fd:FuncData}
local macro_rules|`(tactic|trivial)=>`(tactic|first|exact .inl rfl|exact .inr rfl|assumption)
local macro_rules|`(¬$n:num)=>`(@qw _ _ $n _ _ (by rfl) (by rfl) (by decide))
local macro_rules|`($a∘$b)=>`(@AV _ _ _ _ _ _ $a $b (by rfl))
def top(i:Nat):Stmt:=PySem.Challenge.pw_askedpairs_k70_answers_of_groups.main.body.getD i (.Pass ⟨0,0,0,0⟩)
theorem vz{α:Type u}{β:Type v}{f:α→β}:List.map f []=[]:=rfl
theorem vy{α:Type u}{β:Type v}{f:α→β}{a:α}{l:List α}:List.map f (a::l)=f a::List.map f l:=rfl
theorem vo{α:Type u}{l:List α}:[]++l=l:=rfl
theorem vm{α:Type u}{a:α}{l m:List α}:(a::l)++m=a::(l++m):=rfl
theorem vq{α:Type u}{a:α}{l:List α}:(a::l)[0]?=some a:=rfl
theorem vw{α:Type u}{a:α}{l:List α}{i:Nat}:(a::l)[i+1]?=l[i]?:=rfl
theorem vp{α:Type u}{β:Type v}{a:α}{f:α→Option β}:Option.bind (some a) f=f a:=rfl
theorem vA{α:Type u}{β:Type v}{a:α}{f:α→β}:Option.map f (some a)=some (f a):=rfl
abbrev aB:Stmt:=top 1
abbrev gG:Stmt:=top 3
abbrev gF:Stmt:=top 4
abbrev eY:Stmt:=top 5
abbrev md:Stmt:=top 6
abbrev me:Stmt:=top 7
abbrev ji:Stmt:=top 8
abbrev jj:Stmt:=top 9
abbrev el:Stmt:=top 10
abbrev gJ:Stmt:=top 11
abbrev jk:Stmt:=top 12
abbrev mf:Stmt:=top 13
abbrev eh:Stmt:=top 14
abbrev cn:Stmt:=top 15
abbrev gH:Stmt:=top 16
abbrev gK:Stmt:=top 17
structure lm (mg:Str→Option Value):Prop where
  b_abs:mg "abs"=none
  b_len:mg "len"=none
  b_min:mg "min"=none
  b_max:mg "max"=none
  b_range:mg "range"=none
  b_repr:mg "repr"=none
  b_tuple:mg "tuple"=none
  b_int:mg "int"=none
  b_zip:mg "zip"=none
  b_enumerate:mg "enumerate"=none
  b_isinstance:mg "isinstance"=none
noncomputable def bH:FI:=(bC (ab (aR (g1 cC) (ab (ax cT (af 0) (vC (.int 1))) aj)) aj))
noncomputable def aW:FE:=(ax jX (af 0) (af 1))
noncomputable def bI:FI:=(oj (ab (af 1) (ab (af 2) aj)))
noncomputable def dn:FS:=(aH (a9 3 (fH 3 bI (bB (aw (ah 0) (aw (ah 1) bj))) 0 (ah 2) 2 1))
    (cD (aR (g1 bQ) (ab (bY [(3,"said")] 1 bH (ah 1) cW aW) aj))))
noncomputable def aN:FM:=j8 3 1 ([3]++[]) dn
theorem cU:aX ["web","groups","answers","said"] ["web","groups","answers"] (ao aB):=⟨rfl,rfl,rfl,by decide+kernel,rfl,by decide+kernel,by decide+kernel⟩
theorem fL(h:cB K mg "together_answers" aB f fd ["web","groups","answers"])(T:lm mg):a' P w K mg base dA 1 f fd ["web","groups","answers"] (dP K 3 aN):=by
  have nd:=cU.nd
  exact h.fn cU rfl rfl (fun cdv A outer s H E hr=>(@ag _ _ _ _ _ _ _ _ (@aF _ _ _ _ _ 3 _ _ nd rfl (Or.inr rfl) (@rF _ _ _ _ _ _ _ _ _ _ _ _ _ _ _ _ _ _ 0 2 1 (ao aB) ["web","groups","answers","said"] ["group","truth","tie"] rfl rfl rfl rfl (@ox _ _ _ _ _ _ _ _ _ _ rfl rfl T.b_zip ((¬1)∘((¬2)∘ac)) (by rfl) (by rfl))
        (fun C s0 H0 fp=>(@ie _ _ _ _ _ _ _ _ rfl rfl (@bv _ _ _ _ _ _ _ _ (@aI _ _ _ 0 _ (show List.Nodup (["group","truth","tie"]:List Str) by decide+kernel) rfl (Or.inl rfl) (by trivial)) (@bv _ _ _ _ _ _ _ _ (@aI _ _ _ 1 _ (show List.Nodup (["group","truth","tie"]:List Str) by decide+kernel) rfl (Or.inl rfl) (by trivial)) (@fB _ _) (by rfl)) (by rfl)) (bZ (bZ hR)) (by rfl) (by rfl))) (fun C s0 H0 fp=>(@eE _ 0 _ _ (by rfl) (by first | exact Or.inl rfl | exact Or.inr (Or.inl rfl) | exact Or.inr (Or.inr rfl)) (by decide) (by decide))) (fun C s0 H0 fp=>(@aI _ _ _ 2 _ (show List.Nodup (["group","truth","tie"]:List Str) by decide+kernel) rfl (Or.inl rfl) (by trivial))) (fun C s0 H0 fp=>(@eE _ 2 _ _ (by rfl) (by first | exact Or.inl rfl | exact Or.inr (Or.inl rfl) | exact Or.inr (Or.inr rfl)) (by decide) (by decide)))
        (fun C s0 H0 fp=>(@eE _ 1 _ _ (by rfl) (by first | exact Or.inl rfl | exact Or.inr (Or.inl rfl) | exact Or.inr (Or.inr rfl)) (by decide) (by decide))) rfl (by decide+kernel) (by decide+kernel) (by decide+kernel) (by intro _ _ _ _ _;rfl) (by intro _;rfl)) (by rfl) (by trivial))
      (@au _ _ _ _ _ (@aY _ _ _ _ _ (@bb _ _ _ _ _ _ _ _ _ (@b_tuple _ _ rfl) (by rfl) T.b_tuple ((@nj _ _ _ _ _ _ _ _ _ _ _ _ _ (ao aB) ["web","groups","answers","said"] [(3,"said")] ["tie"] rfl rfl rfl (@bx _ _ _ _ _ _ _ rfl T.b_range ((@bb _ _ _ _ _ _ _ _ _ (@b_len _ _ rfl) (by rfl) T.b_len ((@cR _ _ _ _ _ _ _ rfl (¬0) ae (fun _ _=>rfl))∘ac) (by decide) (by decide) (by rfl) (by rfl))∘ac) (by rfl))
        (fun C s0 H0 fp=>(@aI _ _ _ 1 _ (show List.Nodup (["said","tie"]:List Str) by decide+kernel) rfl (Or.inl rfl) (by trivial))) (fun C s0 H0 fp=>(@gD _ _))
        (fun C s0 H0 fp=>(@xO _ _ _ _ _ _ _ _ hr (¬0) (¬1) (fun _ _=>rfl))) rfl (by decide+kernel) (by decide+kernel) (by decide+kernel) (by decide+kernel) (by decide+kernel) (by decide+kernel) (by decide+kernel) (by intro _;rfl))∘ac) (by decide) (by decide) (by rfl) (by rfl))))))
noncomputable def nM:FS:=(aH (a9 2 (ax aO (ax cy (ax cy (ax fK (ax aO (af 0) (vC (.int 2147483647))) (vC (.int 48271))) (ax fK (ax fK (vC (.int 7919)) (af 1)) (af 1))) (vC (.int 104729))) (vC (.int 2147483647))))
    (cD (ax aO (ax fK (af 2) (af 2)) (vC (.int 2147483629)))))
noncomputable def fx:FM:=j8 2 1 ([2]++[]) nM
theorem mi:aX ["_law_cell","_law_k","_law_number"] ["_law_cell","_law_k"] (ao gG):=⟨rfl,rfl,rfl,by decide+kernel,rfl,by decide+kernel,by decide+kernel⟩
theorem qV(h:cB K mg "_law_mixed" gG f fd ["_law_cell","_law_k"])(T:lm mg):a' P w K mg base dA 1 f fd ["_law_cell","_law_k"] (dP K 2 fx):=by
  have nd:=mi.nd
  exact h.fn mi rfl rfl (fun cdv A outer s H E hr=>(@ag _ _ _ _ _ _ _ _ (@aF _ _ _ _ _ 2 _ _ nd rfl (Or.inl rfl) (@aP _ _ _ _ _ _ _ (@cz _ _ _ _ _ _ _ rfl (@cz _ _ _ _ _ _ _ rfl (@iy _ _ _ _ _ _ _ rfl (@aP _ _ _ _ _ _ _ (¬0) ae) ae) (@iy _ _ _ _ _ _ _ rfl (@iy _ _ _ _ _ _ _ rfl ae (¬1)) (¬1))) ae) ae) (by rfl) (by trivial))
      (@au _ _ _ _ _ (@aY _ _ _ _ _ (@aP _ _ _ _ _ _ _ (@iy _ _ _ _ _ _ _ rfl (¬2) (¬2)) ae)))))
noncomputable def dg:FT:=(nB (bf (ax yZ (af 3) (ax mW (vC (.int 10)) (vC (.int 18))))) (bf (ax yz (aR (g1 cC) (ab (af 1) aj)) (vC (.int 900)))))
noncomputable def ff:FS:=(aH (eg (cX bM (af 1) (ab (ax aO (af 3) (vC (.int 2147483629))) aj)))
    (a9 3 (ax cj (af 3) (vC (.int 2147483629)))))
noncomputable def fj:FI:=(bC (ab (vC (.int 12)) aj))
noncomputable def dZ:FS:=(eg (cX bM (af 1) (ab (dX 2 fx (ab (dX 2 fx (ab (af 3) (ab (ax cy (ax fK (vC (.int 3)) (af 4)) (vC (.int 1))) aj))) (ab (ax cy (ax cy (af 4) (af 2)) (vC (.int 2))) aj))) aj)))
noncomputable def hU:FI:=(bC (ab (aR (g2 qt) (ab (aR (g1 cC) (ab (af 0) aj)) (ab (vC (.int 63)) aj))) aj))
noncomputable def df:FS:=(aH (a9 3 (aR (g1 oY) (ab (ax cT (af 0) (af 2)) aj)))
    (aH (jh (bf (ax yz (af 3) (ax mW (vC (.int 10)) (vC (.int 18)))))
    (dc ([4]++[]) fj (ah 4) dZ)
    eZ)
    (aH (jl (2 ^ 4200) dg ff)
    (jh (bf (ax yZ (af 3) (vC (.int 2147483629))))
    (eg (cX bM (af 1) (ab (ax aO (af 3) (vC (.int 2147483629))) aj)))
    eZ))))
noncomputable def nL:FS:=(aH (a9 1 (dU aj))
    (aH (dc ([2]++([3]++((([4]++[])++[])++(([]++[3])++([]++[]))))) hU (ah 2) df)
    (cD (af 1))))
noncomputable def gw:FM:=j8 1 4 ([1]++(([2]++([3]++((([4]++[])++[])++(([]++[3])++([]++[])))))++[])) nL
theorem mh:aX ["_law_script","_law_drawn","_law_k","_law_cell","_law_j"] ["_law_script"] (ao gF):=⟨rfl,rfl,rfl,by decide+kernel,rfl,by decide+kernel,by decide+kernel⟩
theorem qU(h:cB K mg "_law_draws" gF f fd ["_law_script"])(T:lm mg){fLmixed:Addr}{eLmixed:FuncData}(hLmixed:cB K mg "_law_mixed" gG fLmixed eLmixed ["_law_cell","_law_k"])(GLmixed:a' P w K mg base dA 1 fLmixed eLmixed ["_law_cell","_law_k"] (dP K 2 fx)):a' P w K mg base dA 2 f fd ["_law_script"] (dP K 1 gw):=by
  have nd:=mh.nd
  exact h.fn mh rfl rfl (fun cdv A outer s H E hr=>(@ag _ _ _ _ _ _ _ _ (@aF _ _ _ _ _ 1 _ _ nd rfl (Or.inl rfl) (@cg _ _ _ _ _ ac) (by rfl) (by trivial))
      (@ag _ _ _ _ _ _ _ _ (@dS _ _ _ _ _ _ _ _ _ _ _ PassesOwn.never rfl (@bx _ _ _ _ _ _ _ rfl T.b_range ((@bb _ _ _ _ _ _ _ _ _ (@b_min _ _ rfl) (by rfl) T.b_min ((@bb _ _ _ _ _ _ _ _ _ (@b_len _ _ rfl) (by rfl) T.b_len ((¬0)∘ac) (by decide) (by decide) (by rfl) (by rfl))∘(ae∘ac)) (by decide) (by decide) (by rfl) (by rfl))∘ac) (by rfl)) (@aI _ _ _ 2 _ nd rfl (Or.inl rfl) (by trivial))
      (@ag _ _ _ _ _ _ _ _ (@aF _ _ _ _ _ 3 _ _ nd rfl (Or.inl rfl) (@bb _ _ _ _ _ _ _ _ _ (@b_abs _ _) (by rfl) T.b_abs ((@cR _ _ _ _ _ _ _ rfl (¬0) (¬2) (fun _ _=>rfl))∘ac) (by decide) (by decide) (by rfl) (by rfl)) (by rfl) (by trivial))
      (@ag _ _ _ _ _ _ _ _ (@dO _ _ _ _ _ _ _ _ _ _ _ (@cf _ _ _ _ _ _ _ _ _ (@yU _ _) (¬3) (@vK _ _ _ _ _ _ _ ae ae) (bg _))
      (@au _ _ _ _ _ (@dS _ _ _ _ _ _ _ _ _ _ _ PassesOwn.never rfl (@bx _ _ _ _ _ _ _ rfl T.b_range (ae∘ac) (by rfl)) (@aI _ _ _ 4 _ nd rfl (Or.inl rfl) (by trivial))
      (@au _ _ _ _ _ (@c_ _ _ _ _ _ (@du _ _ _ _ _ _ _ _ _ rfl (¬1) ((@bE _ _ _ _ _ _ _ _ _ _ _ _ _ _ _ hLmixed GLmixed (hr.mono (by decide)) ((@bE _ _ _ _ _ _ _ _ _ _ _ _ _ _ _ hLmixed GLmixed (hr.mono (by decide)) ((¬3)∘((@cz _ _ _ _ _ _ _ rfl (@iy _ _ _ _ _ _ _ rfl ae (¬4)) ae)∘ac)) (by rfl) (by decide) (by rfl) (by rfl))∘((@cz _ _ _ _ _ _ _ rfl (@cz _ _ _ _ _ _ _ rfl (¬4) (¬2)) ae)∘ac)) (by rfl) (by decide) (by rfl) (by rfl))∘ac) (by rfl) (by rfl) (by rfl) (by rfl) (by rfl)) (by rfl))) (by intro _;rfl)))
      (@bO _ _))
      (@ag _ _ _ _ _ _ _ _ (@l7 _ _ _ _ _ _ _ _ _ PassesOwn.never (@xU _ _ _ _ (@rM _ _ _ _ _ _ _ _ (@cf _ _ _ _ _ _ _ _ _ (@yR _ _) (¬3) (@vK _ _ _ _ _ _ _ ae ae) (bg _)) (@oy _ _ _ _ _ (@cf _ _ _ _ _ _ _ _ _ (@yU _ _) (@bb _ _ _ _ _ _ _ _ _ (@b_len _ _ rfl) (by rfl) T.b_len ((¬1)∘ac) (by decide) (by decide) (by rfl) (by rfl)) ae (bg _)))))
      (@ag _ _ _ _ _ _ _ _ (@c_ _ _ _ _ _ (@du _ _ _ _ _ _ _ _ _ rfl (¬1) ((@aP _ _ _ _ _ _ _ (¬3) ae)∘ac) (by rfl) (by rfl) (by rfl) (by rfl) (by rfl)) (by rfl))
      (@au _ _ _ _ _ (@aF _ _ _ _ _ 3 _ _ nd rfl (Or.inl rfl) (@dR _ _ _ _ _ _ _ (¬3) ae) (by rfl) (by trivial)))))
      (@au _ _ _ _ _ (@dO _ _ _ _ _ _ _ _ _ _ _ (@cf _ _ _ _ _ _ _ _ _ (@yR _ _) (¬3) ae (bg _))
      (@au _ _ _ _ _ (@c_ _ _ _ _ _ (@du _ _ _ _ _ _ _ _ _ rfl (¬1) ((@aP _ _ _ _ _ _ _ (¬3) ae)∘ac) (by rfl) (by rfl) (by rfl) (by rfl) (by rfl)) (by rfl)))
      (@bO _ _)))))) (by intro _;rfl))
      (@au _ _ _ _ _ (@aY _ _ _ _ _ (¬1))))))
noncomputable def mP:FS:=(aH (jh (bf (ax (cO false) (af 0) (dU aj)))
    (cD (vC (.int 0)))
    eZ)
    (cD (cX hZ (af 0) (ab (vC (.int 0)) aj))))
noncomputable def aV:FM:=j8 1 0 (([]++[])++[]) mP
theorem oB:aX ["_law_drawn"] ["_law_drawn"] (ao eY):=⟨rfl,rfl,rfl,by decide+kernel,rfl,by decide+kernel,by decide+kernel⟩
theorem tK(h:cB K mg "_law_next" eY f fd ["_law_drawn"])(T:lm mg):a' P w K mg base dA 1 f fd ["_law_drawn"] (dP K 1 aV):=by
  have nd:=oB.nd
  exact h.fn oB rfl rfl (fun cdv A outer s H E hr=>(@ag _ _ _ _ _ _ _ _ (@dO _ _ _ _ _ _ _ _ _ _ _ (@cf _ _ _ _ _ _ _ _ _ (@ky _ _ _ rfl hr) (¬0) (@cg _ _ _ _ _ ac) (bg _))
      (@au _ _ _ _ _ (@aY _ _ _ _ _ ae))
      (@bO _ _))
      (@au _ _ _ _ _ (@aY _ _ _ _ _ (@uq _ _ _ _ _ _ _ _ _ rfl (¬0) (ae∘ac) (by rfl) (by rfl) (by rfl) (by rfl) (by rfl))))))
noncomputable def gf:FT:=(bf (ax (cO true) (af 1) (vC (.int 0))))
noncomputable def iF:FS:=(rY 0 1 (ab (af 1) (ab (ax aO (af 0) (af 1)) aj)))
noncomputable def va:FS:=(aH (jl (2 ^ 4200) gf iF)
    (cD (aR (g1 oY) (ab (af 0) aj))))
noncomputable def lO:FM:=j8 2 0 ([0,1]++[]) va
theorem rZ:aX ["_law_one","_law_other"] ["_law_one","_law_other"] (ao md):=⟨rfl,rfl,rfl,by decide+kernel,rfl,by decide+kernel,by decide+kernel⟩
theorem wZ(h:cB K mg "_law_gcd" md f fd ["_law_one","_law_other"])(T:lm mg):a' P w K mg base dA 1 f fd ["_law_one","_law_other"] (dP K 2 lO):=by
  have nd:=rZ.nd
  exact h.fn rZ rfl rfl (fun cdv A outer s H E hr=>(@ag _ _ _ _ _ _ _ _ (@l7 _ _ _ _ _ _ _ _ _ PassesOwn.never (@cf _ _ _ _ _ _ _ _ _ (@wk _ _ _ rfl hr) (¬1) ae (bg _))
      (@au _ _ _ _ _ (@xS _ _ _ _ _ 0 1 _ _ _ _ _ _ _ _ _ rfl nd rfl rfl (by decide) rfl rfl ((¬1)∘((@aP _ _ _ _ _ _ _ (¬0) (¬1))∘ac)) (by rfl) (by rfl))))
      (@au _ _ _ _ _ (@aY _ _ _ _ _ (@bb _ _ _ _ _ _ _ _ _ (@b_abs _ _) (by rfl) T.b_abs ((¬0)∘ac) (by decide) (by decide) (by rfl) (by rfl))))))
noncomputable def vc:FS:=(aH (a9 2 (dX 2 lO (ab (af 0) (ab (af 1) aj))))
    (cD (dz (ab (ax cj (af 0) (af 2)) (ab (ax cj (af 1) (af 2)) aj)))))
noncomputable def j7:FM:=j8 2 1 ([2]++[]) vc
theorem r6:aX ["_law_top","_law_bottom","_law_common"] ["_law_top","_law_bottom"] (ao me):=⟨rfl,rfl,rfl,by decide+kernel,rfl,by decide+kernel,by decide+kernel⟩
theorem w_(h:cB K mg "_law_low" me f fd ["_law_top","_law_bottom"])(T:lm mg){fLgcd:Addr}{eLgcd:FuncData}(hLgcd:cB K mg "_law_gcd" md fLgcd eLgcd ["_law_one","_law_other"])(GLgcd:a' P w K mg base dA 1 fLgcd eLgcd ["_law_one","_law_other"] (dP K 2 lO)):a' P w K mg base dA 2 f fd ["_law_top","_law_bottom"] (dP K 2 j7):=by
  have nd:=r6.nd
  exact h.fn r6 rfl rfl (fun cdv A outer s H E hr=>(@ag _ _ _ _ _ _ _ _ (@aF _ _ _ _ _ 2 _ _ nd rfl (Or.inl rfl) (@bE _ _ _ _ _ _ _ _ _ _ _ _ _ _ _ hLgcd GLgcd (hr.mono (by decide)) ((¬0)∘((¬1)∘ac)) (by rfl) (by decide) (by rfl) (by rfl)) (by rfl) (by trivial))
      (@au _ _ _ _ _ (@aY _ _ _ _ _ (@bA _ _ _ _ _ _ ((@dR _ _ _ _ _ _ _ (¬0) (¬2))∘((@dR _ _ _ _ _ _ _ (¬1) (¬2))∘ac)))))))
noncomputable def p6:FS:=(cD (ax (cO false) (aR (g1 iu) (ab (af 0) aj)) (aR (g1 iu) (ab (af 1) aj))))
noncomputable def i5:FM:=j8 2 0 [] p6
theorem oC:aX ["_law_found","_law_due"] ["_law_found","_law_due"] (ao ji):=⟨rfl,rfl,rfl,by decide+kernel,rfl,by decide+kernel,by decide+kernel⟩
theorem tL(h:cB K mg "_law_same" ji f fd ["_law_found","_law_due"])(T:lm mg):a' P w K mg base dA 1 f fd ["_law_found","_law_due"] (dP K 2 i5):=by
  have nd:=oC.nd
  exact h.fn oC rfl rfl (fun cdv A outer s H E hr=>(@au _ _ _ _ _ (@aY _ _ _ _ _ (@l6 _ _ _ _ _ _ _ _ _ (@ky _ _ _ rfl hr) (@bb _ _ _ _ _ _ _ _ _ (@b_repr _ _ _ rfl hr) (by rfl) T.b_repr ((¬0)∘ac) (by decide) (by decide) (by rfl) (by rfl)) (@bb _ _ _ _ _ _ _ _ _ (@b_repr _ _ _ rfl hr) (by rfl) T.b_repr ((¬1)∘ac) (by decide) (by decide) (by rfl) (by rfl)) (bg _)))))
noncomputable def p7:FS:=(aH (jh (bf (af 1))
    (cD (ax y1 (af 0) (vC (.bool true))))
    eZ)
    (cD (ax y1 (af 0) (vC (.bool false)))))
noncomputable def i6:FM:=j8 2 0 (([]++[])++[]) p7
theorem oD:aX ["_law_found","_law_due"] ["_law_found","_law_due"] (ao jj):=⟨rfl,rfl,rfl,by decide+kernel,rfl,by decide+kernel,by decide+kernel⟩
theorem tM(h:cB K mg "_law_says" jj f fd ["_law_found","_law_due"])(T:lm mg):a' P w K mg base dA 1 f fd ["_law_found","_law_due"] (dP K 2 i6):=by
  have nd:=oD.nd
  exact h.fn oD rfl rfl (fun cdv A outer s H E hr=>(@ag _ _ _ _ _ _ _ _ (@dO _ _ _ _ _ _ _ _ _ _ _ (@jd _ _ _ _ (¬1) (by intro _;rfl))
      (@au _ _ _ _ _ (@aY _ _ _ _ _ (@l6 _ _ _ _ _ _ _ _ _ (@yT _ _) (¬0) (@fP _ _ _ _ _) (bg _))))
      (@bO _ _))
      (@au _ _ _ _ _ (@aY _ _ _ _ _ (@l6 _ _ _ _ _ _ _ _ _ (@yT _ _) (¬0) (@fP _ _ _ _ _) (bg _))))))
noncomputable def eO:FS:=(aH (jh (bf (ax (cO false) (af 1) (vC (.int 0))))
    (cD (ax cT (dU (ab (dz (ab (vC (.int 1)) (ab (vC (.int 2)) aj))) (ab (dz (ab (vC (.int 1)) (ab (vC (.int 3)) aj))) (ab (dz (ab (vC (.int 2)) (ab (vC (.int 3)) aj))) (ab (dz (ab (vC (.int 1)) (ab (vC (.int 1)) aj))) (ab (dz (ab (vC (.int 0)) (ab (vC (.int 1)) aj))) (ab (dz (ab (vC (.int 3)) (ab (vC (.int 4)) aj))) aj))))))) (ax aO (af 0) (vC (.int 6)))))
    eZ)
    (aH (jh (bf (ax (cO false) (af 1) (vC (.int 1))))
    (aH (a9 2 (ax cy (vC (.int 2)) (ax aO (af 0) (vC (.int 9)))))
    (cD (dX 2 j7 (ab (ax cy (vC (.int 1)) (ax aO (ax cj (af 0) (vC (.int 9))) (ax hJ (af 2) (vC (.int 1))))) (ab (af 2) aj)))))
    eZ)
    (aH (jh (bf (ax (cO false) (af 1) (vC (.int 2))))
    (aH (a9 2 (ax cy (vC (.int 1)) (ax aO (af 0) (vC (.int 100)))))
    (cD (dX 2 j7 (ab (ax aO (ax cj (af 0) (vC (.int 100))) (ax cy (af 2) (vC (.int 1)))) (ab (af 2) aj)))))
    eZ)
    (cD (dz (ab (vC (.int 1)) (ab (vC (.int 1)) aj)))))))
noncomputable def bW:FM:=j8 2 1 (([]++[])++((([2]++[])++[])++((([2]++[])++[])++[]))) eO
theorem kc:aX ["_law_number","_law_kind","_law_bottom"] ["_law_number","_law_kind"] (ao el):=⟨rfl,rfl,rfl,by decide+kernel,rfl,by decide+kernel,by decide+kernel⟩
theorem pA(h:cB K mg "_law_chance" el f fd ["_law_number","_law_kind"])(T:lm mg){fLlow:Addr}{eLlow:FuncData}(hLlow:cB K mg "_law_low" me fLlow eLlow ["_law_top","_law_bottom"])(GLlow:a' P w K mg base dA 2 fLlow eLlow ["_law_top","_law_bottom"] (dP K 2 j7)):a' P w K mg base dA 3 f fd ["_law_number","_law_kind"] (dP K 2 bW):=by
  have nd:=kc.nd
  exact h.fn kc rfl rfl (fun cdv A outer s H E hr=>(@ag _ _ _ _ _ _ _ _ (@dO _ _ _ _ _ _ _ _ _ _ _ (@cf _ _ _ _ _ _ _ _ _ (@ky _ _ _ rfl hr) (¬1) ae (bg _))
      (@au _ _ _ _ _ (@aY _ _ _ _ _ (@cR _ _ _ _ _ _ _ rfl (@cg _ _ _ _ _ ((@bA _ _ _ _ _ _ (ae∘(ae∘ac)))∘((@bA _ _ _ _ _ _ (ae∘(ae∘ac)))∘((@bA _ _ _ _ _ _ (ae∘(ae∘ac)))∘((@bA _ _ _ _ _ _ (ae∘(ae∘ac)))∘((@bA _ _ _ _ _ _ (ae∘(ae∘ac)))∘((@bA _ _ _ _ _ _ (ae∘(ae∘ac)))∘ac))))))) (@aP _ _ _ _ _ _ _ (¬0) ae) (fun _ _=>rfl))))
      (@bO _ _))
      (@ag _ _ _ _ _ _ _ _ (@dO _ _ _ _ _ _ _ _ _ _ _ (@cf _ _ _ _ _ _ _ _ _ (@ky _ _ _ rfl hr) (¬1) ae (bg _))
      (@ag _ _ _ _ _ _ _ _ (@aF _ _ _ _ _ 2 _ _ nd rfl (Or.inl rfl) (@cz _ _ _ _ _ _ _ rfl ae (@aP _ _ _ _ _ _ _ (¬0) ae)) (by rfl) (by trivial))
      (@au _ _ _ _ _ (@aY _ _ _ _ _ (@bE _ _ _ _ _ _ _ _ _ _ _ _ _ _ _ hLlow GLlow (hr.mono (by decide)) ((@cz _ _ _ _ _ _ _ rfl ae (@aP _ _ _ _ _ _ _ (@dR _ _ _ _ _ _ _ (¬0) ae) (@rG _ _ _ _ _ _ _ (¬2) ae)))∘((¬2)∘ac)) (by rfl) (by decide) (by rfl) (by rfl)))))
      (@bO _ _))
      (@ag _ _ _ _ _ _ _ _ (@dO _ _ _ _ _ _ _ _ _ _ _ (@cf _ _ _ _ _ _ _ _ _ (@ky _ _ _ rfl hr) (¬1) ae (bg _))
      (@ag _ _ _ _ _ _ _ _ (@aF _ _ _ _ _ 2 _ _ nd rfl (Or.inl rfl) (@cz _ _ _ _ _ _ _ rfl ae (@aP _ _ _ _ _ _ _ (¬0) ae)) (by rfl) (by trivial))
      (@au _ _ _ _ _ (@aY _ _ _ _ _ (@bE _ _ _ _ _ _ _ _ _ _ _ _ _ _ _ hLlow GLlow (hr.mono (by decide)) ((@aP _ _ _ _ _ _ _ (@dR _ _ _ _ _ _ _ (¬0) ae) (@cz _ _ _ _ _ _ _ rfl (¬2) ae))∘((¬2)∘ac)) (by rfl) (by decide) (by rfl) (by rfl)))))
      (@bO _ _))
      (@au _ _ _ _ _ (@aY _ _ _ _ _ (@bA _ _ _ _ _ _ (ae∘(ae∘ac)))))))))
noncomputable def nP:FS:=(cD (ax cT (dU (ab (ax aO (af 0) (vC (.int 7))) (ab (ax cy (vC (.int 5)) (ax aO (af 0) (vC (.int 2)))) (ab (ax aO (af 0) (vC (.int 1001))) (ab (ax hJ (vC (.int 1000)) (ax aO (af 0) (vC (.int 3)))) aj))))) (ax aO (af 1) (vC (.int 4)))))
noncomputable def gA:FM:=j8 2 0 [] nP
theorem ml:aX ["_law_number","_law_kind"] ["_law_number","_law_kind"] (ao gJ):=⟨rfl,rfl,rfl,by decide+kernel,rfl,by decide+kernel,by decide+kernel⟩
theorem qX(h:cB K mg "_law_worth" gJ f fd ["_law_number","_law_kind"])(T:lm mg):a' P w K mg base dA 1 f fd ["_law_number","_law_kind"] (dP K 2 gA):=by
  have nd:=ml.nd
  exact h.fn ml rfl rfl (fun cdv A outer s H E hr=>(@au _ _ _ _ _ (@aY _ _ _ _ _ (@cR _ _ _ _ _ _ _ rfl (@cg _ _ _ _ _ ((@aP _ _ _ _ _ _ _ (¬0) ae)∘((@cz _ _ _ _ _ _ _ rfl ae (@aP _ _ _ _ _ _ _ (¬0) ae))∘((@aP _ _ _ _ _ _ _ (¬0) ae)∘((@rG _ _ _ _ _ _ _ ae (@aP _ _ _ _ _ _ _ (¬0) ae))∘ac))))) (@aP _ _ _ _ _ _ _ (¬1) ae) (fun _ _=>rfl)))))
noncomputable def iZ:FI:=(bC (ab (af 2) aj))
noncomputable def d_:FS:=(aH (a9 8 (dX 1 aV (ab (af 0) aj)))
    (aH (a9 9 (ax cT (dU (ab (ax aO (af 8) (af 1)) (ab (vC (.int 0)) (ab (ax aO (af 7) (af 1)) (ab (ax aO (af 8) (af 1)) (ab (ax aO (af 8) (vC (.int 2))) (ab (ax aO (af 8) (af 1)) aj))))))) (af 3)))
    (aH (a9 10 (ax aO (ax cy (ax cy (af 9) (vC (.int 1))) (ax aO (ax cj (af 8) (vC (.int 12))) (ax hJ (af 1) (vC (.int 1))))) (af 1)))
    (aH (jh (bf (ax (cO false) (af 3) (vC (.int 4))))
    (pI (dz (ab (vC (.int 0)) (ab (vC (.int 1)) aj))) (bB (aw (ah 9) (aw (ah 10) bj))))
    eZ)
    (aH (a9 11 (dX 1 aV (ab (af 0) aj)))
    (aH (a9 12 (dz (ab (aR (g2 qt) (ab (af 9) (ab (af 10) aj))) (ab (aR (g2 o5) (ab (af 9) (ab (af 10) aj))) aj))))
    (eg (cX bM (af 6) (ab (ax cy (af 12) (dz (ab (dX 2 bW (ab (af 11) (ab (af 4) aj))) (ab (dX 2 gA (ab (ax cj (af 11) (vC (.int 10007))) (ab (af 5) aj))) aj)))) aj)))))))))
noncomputable def p8:FS:=(aH (a9 3 (ax aO (dX 1 aV (ab (af 0) aj)) (vC (.int 6))))
    (aH (a9 4 (ax aO (dX 1 aV (ab (af 0) aj)) (vC (.int 4))))
    (aH (a9 5 (ax aO (dX 1 aV (ab (af 0) aj)) (vC (.int 4))))
    (aH (a9 6 (dU aj))
    (aH (dc ([7]++([8]++([9]++([10]++((([9]++([10]++[]))++[])++([11]++([12]++[]))))))) iZ (ah 7) d_)
    (cD (aR (g1 bQ) (ab (af 6) aj))))))))
noncomputable def i7:FM:=j8 3 10 ([3]++([4]++([5]++([6]++(([7]++([8]++([9]++([10]++((([9]++([10]++[]))++[])++([11]++([12]++[])))))))++[]))))) p8
theorem oE:aX ["_law_drawn","_law_things","_law_many","_law_shape","_law_odds","_law_worths","_law_found","_law_k","_law_number","_law_one","_law_other","_law_cell","_law_ends"] ["_law_drawn","_law_things","_law_many"] (ao jk):=⟨rfl,rfl,rfl,by decide+kernel,rfl,by decide+kernel,by decide+kernel⟩
theorem tN(h:cB K mg "_law_ties" jk f fd ["_law_drawn","_law_things","_law_many"])(T:lm mg){fLnext:Addr}{eLnext:FuncData}(hLnext:cB K mg "_law_next" eY fLnext eLnext ["_law_drawn"])(GLnext:a' P w K mg base dA 1 fLnext eLnext ["_law_drawn"] (dP K 1 aV)){fLchance:Addr}{eLchance:FuncData}(hLchance:cB K mg "_law_chance" el fLchance eLchance ["_law_number","_law_kind"])(GLchance:a' P w K mg base dA 3 fLchance eLchance ["_law_number","_law_kind"] (dP K 2 bW)){fLworth:Addr}{eLworth:FuncData}(hLworth:cB K mg "_law_worth" gJ fLworth eLworth ["_law_number","_law_kind"])(GLworth:a' P w K mg base dA 1 fLworth eLworth ["_law_number","_law_kind"] (dP K 2 gA)):a' P w K mg base dA 4 f fd ["_law_drawn","_law_things","_law_many"] (dP K 3 i7):=by
  have nd:=oE.nd
  exact h.fn oE rfl rfl (fun cdv A outer s H E hr=>(@ag _ _ _ _ _ _ _ _ (@aF _ _ _ _ _ 3 _ _ nd rfl (Or.inl rfl) (@aP _ _ _ _ _ _ _ (@bE _ _ _ _ _ _ _ _ _ _ _ _ _ _ _ hLnext GLnext (hr.mono (by decide)) ((¬0)∘ac) (by rfl) (by decide) (by rfl) (by rfl)) ae) (by rfl) (by trivial))
      (@ag _ _ _ _ _ _ _ _ (@aF _ _ _ _ _ 4 _ _ nd rfl (Or.inl rfl) (@aP _ _ _ _ _ _ _ (@bE _ _ _ _ _ _ _ _ _ _ _ _ _ _ _ hLnext GLnext (hr.mono (by decide)) ((¬0)∘ac) (by rfl) (by decide) (by rfl) (by rfl)) ae) (by rfl) (by trivial))
      (@ag _ _ _ _ _ _ _ _ (@aF _ _ _ _ _ 5 _ _ nd rfl (Or.inl rfl) (@aP _ _ _ _ _ _ _ (@bE _ _ _ _ _ _ _ _ _ _ _ _ _ _ _ hLnext GLnext (hr.mono (by decide)) ((¬0)∘ac) (by rfl) (by decide) (by rfl) (by rfl)) ae) (by rfl) (by trivial))
      (@ag _ _ _ _ _ _ _ _ (@aF _ _ _ _ _ 6 _ _ nd rfl (Or.inl rfl) (@cg _ _ _ _ _ ac) (by rfl) (by trivial))
      (@ag _ _ _ _ _ _ _ _ (@dS _ _ _ _ _ _ _ _ _ _ _ PassesOwn.never rfl (@bx _ _ _ _ _ _ _ rfl T.b_range ((¬2)∘ac) (by rfl)) (@aI _ _ _ 7 _ nd rfl (Or.inl rfl) (by trivial))
      (@ag _ _ _ _ _ _ _ _ (@aF _ _ _ _ _ 8 _ _ nd rfl (Or.inl rfl) (@bE _ _ _ _ _ _ _ _ _ _ _ _ _ _ _ hLnext GLnext (hr.mono (by decide)) ((¬0)∘ac) (by rfl) (by decide) (by rfl) (by rfl)) (by rfl) (by trivial))
      (@ag _ _ _ _ _ _ _ _ (@aF _ _ _ _ _ 9 _ _ nd rfl (Or.inl rfl) (@cR _ _ _ _ _ _ _ rfl (@cg _ _ _ _ _ ((@aP _ _ _ _ _ _ _ (¬8) (¬1))∘(ae∘((@aP _ _ _ _ _ _ _ (¬7) (¬1))∘((@aP _ _ _ _ _ _ _ (¬8) (¬1))∘((@aP _ _ _ _ _ _ _ (¬8) ae)∘((@aP _ _ _ _ _ _ _ (¬8) (¬1))∘ac))))))) (¬3) (fun _ _=>rfl)) (by rfl) (by trivial))
      (@ag _ _ _ _ _ _ _ _ (@aF _ _ _ _ _ 10 _ _ nd rfl (Or.inl rfl) (@aP _ _ _ _ _ _ _ (@cz _ _ _ _ _ _ _ rfl (@cz _ _ _ _ _ _ _ rfl (¬9) ae) (@aP _ _ _ _ _ _ _ (@dR _ _ _ _ _ _ _ (¬8) ae) (@rG _ _ _ _ _ _ _ (¬1) ae))) (¬1)) (by rfl) (by trivial))
      (@ag _ _ _ _ _ _ _ _ (@dO _ _ _ _ _ _ _ _ _ _ _ (@cf _ _ _ _ _ _ _ _ _ (@ky _ _ _ rfl hr) (¬3) ae (bg _))
      (@au _ _ _ _ _ (@rL _ _ _ _ _ _ _ _ (@bA _ _ _ _ _ _ (ae∘(ae∘ac))) (@ie _ _ _ _ _ _ _ _ rfl rfl (@bv _ _ _ _ _ _ _ _ (@aI _ _ _ 9 _ nd rfl (Or.inl rfl) (by trivial)) (@bv _ _ _ _ _ _ _ _ (@aI _ _ _ 10 _ nd rfl (Or.inl rfl) (by trivial)) (@fB _ _) (by rfl)) (by rfl)) (bZ (bZ hR)) (by rfl) (by rfl)) (by rfl) (by rfl) (by rfl)))
      (@bO _ _))
      (@ag _ _ _ _ _ _ _ _ (@aF _ _ _ _ _ 11 _ _ nd rfl (Or.inl rfl) (@bE _ _ _ _ _ _ _ _ _ _ _ _ _ _ _ hLnext GLnext (hr.mono (by decide)) ((¬0)∘ac) (by rfl) (by decide) (by rfl) (by rfl)) (by rfl) (by trivial))
      (@ag _ _ _ _ _ _ _ _ (@aF _ _ _ _ _ 12 _ _ nd rfl (Or.inl rfl) (@bA _ _ _ _ _ _ ((@bb _ _ _ _ _ _ _ _ _ (@b_min _ _ rfl) (by rfl) T.b_min ((¬9)∘((¬10)∘ac)) (by decide) (by decide) (by rfl) (by rfl))∘((@bb _ _ _ _ _ _ _ _ _ (@b_max _ _ rfl) (by rfl) T.b_max ((¬9)∘((¬10)∘ac)) (by decide) (by decide) (by rfl) (by rfl))∘ac))) (by rfl) (by trivial))
      (@au _ _ _ _ _ (@c_ _ _ _ _ _ (@du _ _ _ _ _ _ _ _ _ rfl (¬6) ((@cz _ _ _ _ _ _ _ rfl (¬12) (@bA _ _ _ _ _ _ ((@bE _ _ _ _ _ _ _ _ _ _ _ _ _ _ _ hLchance GLchance (hr.mono (by decide)) ((¬11)∘((¬4)∘ac)) (by rfl) (by decide) (by rfl) (by rfl))∘((@bE _ _ _ _ _ _ _ _ _ _ _ _ _ _ _ hLworth GLworth (hr.mono (by decide)) ((@dR _ _ _ _ _ _ _ (¬11) ae)∘((¬5)∘ac)) (by rfl) (by decide) (by rfl) (by rfl))∘ac))))∘ac) (by rfl) (by rfl) (by rfl) (by rfl) (by rfl)) (by rfl))))))))) (by intro _;rfl))
      (@au _ _ _ _ _ (@aY _ _ _ _ _ (@bb _ _ _ _ _ _ _ _ _ (@b_tuple _ _ rfl) (by rfl) T.b_tuple ((¬6)∘ac) (by decide) (by decide) (by rfl) (by rfl))))))))))
noncomputable def kQ:FI:=(bC (ab (af 3) aj))
noncomputable def iG:FS:=(eg (cX bM (af 7) (ab (ax cT (dU (ab (vC (.int 20)) (ab (ax cy (vC (.int 1)) (ax aO (dX 1 aV (ab (af 0) aj)) (vC (.int 3)))) (ab (ax aO (dX 1 aV (ab (af 0) aj)) (vC (.int 21))) aj)))) (af 6)) aj)))
noncomputable def vd:FS:=(aH (a9 3 (ax aO (dX 1 aV (ab (af 0) aj)) (ax cy (af 1) (vC (.int 1)))))
    (aH (a9 4 (ax fK (ax aO (dX 1 aV (ab (af 0) aj)) (ax cy (af 2) (vC (.int 1)))) (aR (g1 oZ) (ab (ax y0 (af 3) (vC (.int 1))) aj))))
    (aH (a9 5 (dX 3 i7 (ab (af 0) (ab (aR (g2 o5) (ab (vC (.int 2)) (ab (af 3) aj))) (ab (af 4) aj)))))
    (aH (a9 6 (ax aO (dX 1 aV (ab (af 0) aj)) (vC (.int 3))))
    (aH (a9 7 (dU aj))
    (aH (dc ([8]++[]) kQ (ah 8) iG)
    (aH (a9 9 (ax cT (dU (ab (vC (.int 40)) (ab (ax cy (vC (.int 1)) (ax aO (dX 1 aV (ab (af 0) aj)) (aR (g2 o5) (ab (vC (.int 1)) (ab (af 4) aj))))) (ab (ax aO (dX 1 aV (ab (af 0) aj)) (vC (.int 41))) aj)))) (ax aO (dX 1 aV (ab (af 0) aj)) (vC (.int 3)))))
    (cD (dz (ab (af 3) (ab (af 5) (ab (aR (g1 bQ) (ab (af 7) aj)) (ab (af 9) aj)))))))))))))
noncomputable def lP:FM:=j8 3 7 ([3]++([4]++([5]++([6]++([7]++(([8]++[])++([9]++[]))))))) vd
theorem r8:aX ["_law_drawn","_law_most","_law_ties_here","_law_things","_law_many","_law_rows","_law_way","_law_patience","_law_k","_law_asks"] ["_law_drawn","_law_most","_law_ties_here"] (ao mf):=⟨rfl,rfl,rfl,by decide+kernel,rfl,by decide+kernel,by decide+kernel⟩
theorem xa(h:cB K mg "_law_web" mf f fd ["_law_drawn","_law_most","_law_ties_here"])(T:lm mg){fLties:Addr}{eLties:FuncData}(hLties:cB K mg "_law_ties" jk fLties eLties ["_law_drawn","_law_things","_law_many"])(GLties:a' P w K mg base dA 4 fLties eLties ["_law_drawn","_law_things","_law_many"] (dP K 3 i7)){fLnext:Addr}{eLnext:FuncData}(hLnext:cB K mg "_law_next" eY fLnext eLnext ["_law_drawn"])(GLnext:a' P w K mg base dA 1 fLnext eLnext ["_law_drawn"] (dP K 1 aV)):a' P w K mg base dA 5 f fd ["_law_drawn","_law_most","_law_ties_here"] (dP K 3 lP):=by
  have nd:=r8.nd
  exact h.fn r8 rfl rfl (fun cdv A outer s H E hr=>(@ag _ _ _ _ _ _ _ _ (@aF _ _ _ _ _ 3 _ _ nd rfl (Or.inl rfl) (@aP _ _ _ _ _ _ _ (@bE _ _ _ _ _ _ _ _ _ _ _ _ _ _ _ hLnext GLnext (hr.mono (by decide)) ((¬0)∘ac) (by rfl) (by decide) (by rfl) (by rfl)) (@cz _ _ _ _ _ _ _ rfl (¬1) ae)) (by rfl) (by trivial))
      (@ag _ _ _ _ _ _ _ _ (@aF _ _ _ _ _ 4 _ _ nd rfl (Or.inl rfl) (@iy _ _ _ _ _ _ _ rfl (@aP _ _ _ _ _ _ _ (@bE _ _ _ _ _ _ _ _ _ _ _ _ _ _ _ hLnext GLnext (hr.mono (by decide)) ((¬0)∘ac) (by rfl) (by decide) (by rfl) (by rfl)) (@cz _ _ _ _ _ _ _ rfl (¬2) ae)) (@bb _ _ _ _ _ _ _ _ _ (@b_int _ _) (by rfl) T.b_int ((@l6 _ _ _ _ _ _ _ _ _ (@yS _ _) (¬3) ae (bg _))∘ac) (by decide) (by decide) (by rfl) (by rfl))) (by rfl) (by trivial))
      (@ag _ _ _ _ _ _ _ _ (@aF _ _ _ _ _ 5 _ _ nd rfl (Or.inl rfl) (@bE _ _ _ _ _ _ _ _ _ _ _ _ _ _ _ hLties GLties (hr.mono (by decide)) ((¬0)∘((@bb _ _ _ _ _ _ _ _ _ (@b_max _ _ rfl) (by rfl) T.b_max (ae∘((¬3)∘ac)) (by decide) (by decide) (by rfl) (by rfl))∘((¬4)∘ac))) (by rfl) (by decide) (by rfl) (by rfl)) (by rfl) (by trivial))
      (@ag _ _ _ _ _ _ _ _ (@aF _ _ _ _ _ 6 _ _ nd rfl (Or.inl rfl) (@aP _ _ _ _ _ _ _ (@bE _ _ _ _ _ _ _ _ _ _ _ _ _ _ _ hLnext GLnext (hr.mono (by decide)) ((¬0)∘ac) (by rfl) (by decide) (by rfl) (by rfl)) ae) (by rfl) (by trivial))
      (@ag _ _ _ _ _ _ _ _ (@aF _ _ _ _ _ 7 _ _ nd rfl (Or.inl rfl) (@cg _ _ _ _ _ ac) (by rfl) (by trivial))
      (@ag _ _ _ _ _ _ _ _ (@dS _ _ _ _ _ _ _ _ _ _ _ PassesOwn.never rfl (@bx _ _ _ _ _ _ _ rfl T.b_range ((¬3)∘ac) (by rfl)) (@aI _ _ _ 8 _ nd rfl (Or.inl rfl) (by trivial))
      (@au _ _ _ _ _ (@c_ _ _ _ _ _ (@du _ _ _ _ _ _ _ _ _ rfl (¬7) ((@cR _ _ _ _ _ _ _ rfl (@cg _ _ _ _ _ (ae∘((@cz _ _ _ _ _ _ _ rfl ae (@aP _ _ _ _ _ _ _ (@bE _ _ _ _ _ _ _ _ _ _ _ _ _ _ _ hLnext GLnext (hr.mono (by decide)) ((¬0)∘ac) (by rfl) (by decide) (by rfl) (by rfl)) ae))∘((@aP _ _ _ _ _ _ _ (@bE _ _ _ _ _ _ _ _ _ _ _ _ _ _ _ hLnext GLnext (hr.mono (by decide)) ((¬0)∘ac) (by rfl) (by decide) (by rfl) (by rfl)) ae)∘ac)))) (¬6) (fun _ _=>rfl))∘ac) (by rfl) (by rfl) (by rfl) (by rfl) (by rfl)) (by rfl))) (by intro _;rfl))
      (@ag _ _ _ _ _ _ _ _ (@aF _ _ _ _ _ 9 _ _ nd rfl (Or.inl rfl) (@cR _ _ _ _ _ _ _ rfl (@cg _ _ _ _ _ (ae∘((@cz _ _ _ _ _ _ _ rfl ae (@aP _ _ _ _ _ _ _ (@bE _ _ _ _ _ _ _ _ _ _ _ _ _ _ _ hLnext GLnext (hr.mono (by decide)) ((¬0)∘ac) (by rfl) (by decide) (by rfl) (by rfl)) (@bb _ _ _ _ _ _ _ _ _ (@b_max _ _ rfl) (by rfl) T.b_max (ae∘((¬4)∘ac)) (by decide) (by decide) (by rfl) (by rfl))))∘((@aP _ _ _ _ _ _ _ (@bE _ _ _ _ _ _ _ _ _ _ _ _ _ _ _ hLnext GLnext (hr.mono (by decide)) ((¬0)∘ac) (by rfl) (by decide) (by rfl) (by rfl)) ae)∘ac)))) (@aP _ _ _ _ _ _ _ (@bE _ _ _ _ _ _ _ _ _ _ _ _ _ _ _ hLnext GLnext (hr.mono (by decide)) ((¬0)∘ac) (by rfl) (by decide) (by rfl) (by rfl)) ae) (fun _ _=>rfl)) (by rfl) (by trivial))
      (@au _ _ _ _ _ (@aY _ _ _ _ _ (@bA _ _ _ _ _ _ ((¬3)∘((¬5)∘((@bb _ _ _ _ _ _ _ _ _ (@b_tuple _ _ rfl) (by rfl) T.b_tuple ((¬7)∘ac) (by decide) (by decide) (by rfl) (by rfl))∘((¬9)∘ac)))))))))))))))
noncomputable def eV:FI:=(bC (ab (af 1) aj))
noncomputable def cL:FS:=(aH (jh (bf (ax (cO false) (ax aO (af 4) (vC (.int 16))) (vC (.int 0))))
    (a9 3 (dX 1 aV (ab (af 0) aj)))
    eZ)
    (eg (cX bM (af 2) (ab (ax (cO false) (ax aO (ax cj (af 3) (ax sZ (vC (.int 1)) (ax aO (af 4) (vC (.int 16))))) (vC (.int 2))) (vC (.int 1))) aj))))
noncomputable def jN:FS:=(aH (a9 2 (dU aj))
    (aH (a9 3 (vC (.int 0)))
    (aH (dc ([4]++(([3]++[])++[])) eV (ah 4) cL)
    (cD (aR (g1 bQ) (ab (af 2) aj))))))
noncomputable def di:FM:=j8 2 3 ([2]++([3]++(([4]++(([3]++[])++[]))++[]))) jN
theorem jm:aX ["_law_drawn","_law_many","_law_found","_law_number","_law_k"] ["_law_drawn","_law_many"] (ao eh):=⟨rfl,rfl,rfl,by decide+kernel,rfl,by decide+kernel,by decide+kernel⟩
theorem m8(h:cB K mg "_law_answers" eh f fd ["_law_drawn","_law_many"])(T:lm mg){fLnext:Addr}{eLnext:FuncData}(hLnext:cB K mg "_law_next" eY fLnext eLnext ["_law_drawn"])(GLnext:a' P w K mg base dA 1 fLnext eLnext ["_law_drawn"] (dP K 1 aV)):a' P w K mg base dA 2 f fd ["_law_drawn","_law_many"] (dP K 2 di):=by
  have nd:=jm.nd
  exact h.fn jm rfl rfl (fun cdv A outer s H E hr=>(@ag _ _ _ _ _ _ _ _ (@aF _ _ _ _ _ 2 _ _ nd rfl (Or.inl rfl) (@cg _ _ _ _ _ ac) (by rfl) (by trivial))
      (@ag _ _ _ _ _ _ _ _ (@aF _ _ _ _ _ 3 _ _ nd rfl (Or.inl rfl) ae (by rfl) (by trivial))
      (@ag _ _ _ _ _ _ _ _ (@dS _ _ _ _ _ _ _ _ _ _ _ PassesOwn.never rfl (@bx _ _ _ _ _ _ _ rfl T.b_range ((¬1)∘ac) (by rfl)) (@aI _ _ _ 4 _ nd rfl (Or.inl rfl) (by trivial))
      (@ag _ _ _ _ _ _ _ _ (@dO _ _ _ _ _ _ _ _ _ _ _ (@cf _ _ _ _ _ _ _ _ _ (@ky _ _ _ rfl hr) (@aP _ _ _ _ _ _ _ (¬4) ae) ae (bg _))
      (@au _ _ _ _ _ (@aF _ _ _ _ _ 3 _ _ nd rfl (Or.inl rfl) (@bE _ _ _ _ _ _ _ _ _ _ _ _ _ _ _ hLnext GLnext (hr.mono (by decide)) ((¬0)∘ac) (by rfl) (by decide) (by rfl) (by rfl)) (by rfl) (by trivial)))
      (@bO _ _))
      (@au _ _ _ _ _ (@c_ _ _ _ _ _ (@du _ _ _ _ _ _ _ _ _ rfl (¬2) ((@l6 _ _ _ _ _ _ _ _ _ (@ky _ _ _ rfl hr) (@aP _ _ _ _ _ _ _ (@dR _ _ _ _ _ _ _ (¬3) (@zA _ _ _ _ _ _ _ ae (@aP _ _ _ _ _ _ _ (¬4) ae))) ae) ae (bg _))∘ac) (by rfl) (by rfl) (by rfl) (by rfl) (by rfl)) (by rfl)))) (by intro _;rfl))
      (@au _ _ _ _ _ (@aY _ _ _ _ _ (@bb _ _ _ _ _ _ _ _ _ (@b_tuple _ _ rfl) (by rfl) T.b_tuple ((¬2)∘ac) (by decide) (by decide) (by rfl) (by rfl))))))))
noncomputable def iw:FI:=(qE 4)
noncomputable def dJ:FE:=(aR (g1 bQ) (ab (af 0) aj))
noncomputable def cm:FI:=(j1 (ab (af 4) aj))
noncomputable def bF:FT:=(bf (ax (cO false) (ax cT (ax cT (af 1) (ax cT (af 3) (vC (.int 0)))) (vC (.int 2))) (af 0)))
noncomputable def cN:FE:=(af 2)
noncomputable def dN:FI:=(j1 (ab (ax cT (af 1) (vC (.int 1))) aj))
noncomputable def ci:FS:=(aH (a9 7 (dX 1 aV (ab (af 0) aj)))
    (aH (a9 8 (ax cT (dU (ab (ax cT (af 2) (vC (.int 0))) (ab (ax cT (af 2) (vC (.int 1))) (ab (ax cT (af 2) (vC (.int 0))) (ab (ax cT (af 6) (vC (.int 2))) aj))))) (ax aO (af 7) (vC (.int 4)))))
    (aH (eg (cX bM (af 3) (ab (ax cy (yq (af 6) lX (j_ (vC (.int 2)))) (dz (ab (af 8) (ab (ax cT (af 6) (vC (.int 3))) aj)))) aj)))
    (aH (kb 4 (a9 9 (bY [(8,"_law_own"),(3,"_law_ties_here")] 2 cm (bB (aw (ah 2) (aw (ah 3) bj))) bF cN)))
    (jh (nB (bf (ax (cO true) (af 9) (dU aj))) (bf (ax y0 (ax aO (ax cj (af 7) (vC (.int 4))) (vC (.int 3))) (vC (.int 0)))))
    (eg (jx 4 (ax cT (af 9) (ax aO (ax cj (af 7) (vC (.int 12))) (aR (g1 cC) (ab (af 9) aj)))) (lS 5)))
    (eg (mz 4 (dU (ab (af 5) aj)))))))))
noncomputable def eW:FI:=(bC (ab (vC (.int 2)) aj))
noncomputable def dM:FE:=(dX 2 bW (ab (dX 1 aV (ab (af 0) aj)) (ab (ax aO (dX 1 aV (ab (af 0) aj)) (vC (.int 3))) aj)))
noncomputable def jO:FS:=(aH (a9 2 (bY [(0,"_law_drawn")] 1 eW (ah 1) cW dM))
    (aH (a9 3 (dU aj))
    (aH (rX 4)
    (aH (dc (([5]++([6]++[]))++([7]++([8]++([]++([9]++([]++[])))))) dN (bB (aw (ah 5) (aw (ah 6) bj))) ci)
    (cD (dz (ab (dz (ab (ax cT (af 1) (vC (.int 0))) (ab (aR (g1 bQ) (ab (af 3) aj)) (ab (ax cT (af 1) (vC (.int 2))) (ab (ax cT (af 1) (vC (.int 3))) aj))))) (ab (aR (g1 bQ) (ab (bY [] 1 iw (ah 0) cW dJ) aj)) aj))))))))
noncomputable def dj:FM:=j8 2 8 ([2]++([3]++([4]++((([5]++([6]++[]))++([7]++([8]++([]++([9]++([]++[]))))))++[])))) jO
theorem jn:aX ["_law_drawn","_law_web_here","_law_some","_law_ties_here","_law_groups","_law_tie","_law_row","_law_number","_law_own","_law_alike"] ["_law_drawn","_law_web_here"] (ao cn):=⟨rfl,rfl,rfl,by decide+kernel,rfl,by decide+kernel,by decide+kernel⟩
theorem m9(h:cB K mg "_law_grouped" cn f fd ["_law_drawn","_law_web_here"])(T:lm mg){fLchance:Addr}{eLchance:FuncData}(hLchance:cB K mg "_law_chance" el fLchance eLchance ["_law_number","_law_kind"])(GLchance:a' P w K mg base dA 3 fLchance eLchance ["_law_number","_law_kind"] (dP K 2 bW)){fLnext:Addr}{eLnext:FuncData}(hLnext:cB K mg "_law_next" eY fLnext eLnext ["_law_drawn"])(GLnext:a' P w K mg base dA 1 fLnext eLnext ["_law_drawn"] (dP K 1 aV)):a' P w K mg base dA 4 f fd ["_law_drawn","_law_web_here"] (dP K 2 dj):=by
  have nd:=jn.nd
  exact h.fn jn rfl rfl (fun cdv A outer s H E hr=>(@ag _ _ _ _ _ _ _ _ (@ic _ _ _ (2) _ _ _ _ _ _ _ _ _ _ _ _ _ (ao cn) ["_law_drawn","_law_web_here","_law_some","_law_ties_here","_law_groups","_law_tie","_law_row","_law_number","_law_own","_law_alike"] [(0,"_law_drawn")] ["_law_k"] rfl rfl rfl (@bx _ _ _ _ _ _ _ rfl T.b_range (ae∘ac) (by rfl))
        (fun C s0 H0 fp=>(@aI _ _ _ 1 _ (show List.Nodup (["_law_drawn","_law_k"]:List Str) by decide+kernel) rfl (Or.inl rfl) (by trivial))) (fun C s0 H0 fp=>(@gD _ _))
        (fun C s0 H0 fp=>(@bE _ _ _ _ _ _ _ _ _ _ _ _ _ _ _ hLchance GLchance (hr.mono (by decide)) ((@bE _ _ _ _ _ _ _ _ _ _ _ _ _ _ _ hLnext GLnext (hr.mono (by decide)) ((¬0)∘ac) (by rfl) (by decide) (by rfl) (by rfl))∘((@aP _ _ _ _ _ _ _ (@bE _ _ _ _ _ _ _ _ _ _ _ _ _ _ _ hLnext GLnext (hr.mono (by decide)) ((¬0)∘ac) (by rfl) (by decide) (by rfl) (by rfl)) ae)∘ac)) (by rfl) (by decide) (by rfl) (by rfl))) rfl (by decide+kernel) (by decide+kernel) (by decide+kernel) (by decide+kernel) (by decide+kernel) (by decide+kernel) (by decide+kernel) nd rfl rfl (by rfl) (by intro _;rfl))
      (@ag _ _ _ _ _ _ _ _ (@aF _ _ _ _ _ 3 _ _ nd rfl (Or.inr rfl) (@cg _ _ _ _ _ ac) (by rfl) (by trivial))
      (@ag _ _ _ _ _ _ _ _ (@uw _ _ _ _ _ _ 4 nd rfl (Or.inl rfl) (by rfl) (by trivial))
      (@ag _ _ _ _ _ _ _ _ (@dS _ _ _ _ _ _ _ _ _ _ _ PassesOwn.never rfl (@ou _ _ _ _ _ _ _ _ _ rfl rfl T.b_enumerate ((@cR _ _ _ _ _ _ _ rfl (¬1) ae (fun _ _=>rfl))∘ac) (by rfl)) (@ie _ _ _ _ _ _ _ _ rfl rfl (@bv _ _ _ _ _ _ _ _ (@aI _ _ _ 5 _ nd rfl (Or.inl rfl) (by trivial)) (@bv _ _ _ _ _ _ _ _ (@aI _ _ _ 6 _ nd rfl (Or.inl rfl) (by trivial)) (@fB _ _) (by rfl)) (by rfl)) (bZ (bZ hR)) (by rfl) (by rfl))
      (@ag _ _ _ _ _ _ _ _ (@aF _ _ _ _ _ 7 _ _ nd rfl (Or.inl rfl) (@bE _ _ _ _ _ _ _ _ _ _ _ _ _ _ _ hLnext GLnext (hr.mono (by decide)) ((¬0)∘ac) (by rfl) (by decide) (by rfl) (by rfl)) (by rfl) (by trivial))
      (@ag _ _ _ _ _ _ _ _ (@aF _ _ _ _ _ 8 _ _ nd rfl (Or.inr rfl) (@cR _ _ _ _ _ _ _ rfl (@cg _ _ _ _ _ ((@cR _ _ _ _ _ _ _ rfl (¬2) ae (fun _ _=>rfl))∘((@cR _ _ _ _ _ _ _ rfl (¬2) ae (fun _ _=>rfl))∘((@cR _ _ _ _ _ _ _ rfl (¬2) ae (fun _ _=>rfl))∘((@cR _ _ _ _ _ _ _ rfl (¬6) ae (fun _ _=>rfl))∘ac))))) (@aP _ _ _ _ _ _ _ (¬7) ae) (fun _ _=>rfl)) (by rfl) (by trivial))
      (@ag _ _ _ _ _ _ _ _ (@c_ _ _ _ _ _ (@du _ _ _ _ _ _ _ _ _ rfl (¬3) ((@cz _ _ _ _ _ _ _ rfl (@ur _ _ _ _ _ _ _ _ _ _ rfl (¬6) (@uu _ _) (@uv _ _ _ _ ae)) (@bA _ _ _ _ _ _ ((¬8)∘((@cR _ _ _ _ _ _ _ rfl (¬6) ae (fun _ _=>rfl))∘ac))))∘ac) (by rfl) (by rfl) (by rfl) (by rfl) (by rfl)) (by rfl))
      (@ag _ _ _ _ _ _ _ _ (@uA _ _ _ _ _ 4 (by decide) (@ic _ _ _ (9) _ _ _ _ _ _ _ _ _ _ _ _ _ (ao cn) ["_law_drawn","_law_web_here","_law_some","_law_ties_here","_law_groups","_law_tie","_law_row","_law_number","_law_own","_law_alike"] [(8,"_law_own"),(3,"_law_ties_here")] ["_law_k","_law_group"] rfl rfl rfl (@ou _ _ _ _ _ _ _ _ _ rfl rfl T.b_enumerate ((¬4)∘ac) (by rfl))
        (fun C s0 H0 fp=>(@ie _ _ _ _ _ _ _ _ rfl rfl (@bv _ _ _ _ _ _ _ _ (@aI _ _ _ 2 _ (show List.Nodup (["_law_own","_law_ties_here","_law_k","_law_group"]:List Str) by decide+kernel) rfl (Or.inl rfl) (by trivial)) (@bv _ _ _ _ _ _ _ _ (@aI _ _ _ 3 _ (show List.Nodup (["_law_own","_law_ties_here","_law_k","_law_group"]:List Str) by decide+kernel) rfl (Or.inl rfl) (by trivial)) (@fB _ _) (by rfl)) (by rfl)) (bZ (bZ hR)) (by rfl) (by rfl))) (fun C s0 H0 fp=>(@uB _ _ _ _ (@cf _ _ _ _ _ _ _ _ _ (@ky _ _ _ rfl hr) (@cR _ _ _ _ _ _ _ rfl (@cR _ _ _ _ _ _ _ rfl (¬1) (@cR _ _ _ _ _ _ _ rfl (¬3) ae (fun _ _=>rfl)) (fun _ _=>rfl)) ae (fun _ _=>rfl)) (¬0) (bg _))))
        (fun C s0 H0 fp=>(¬2)) rfl (by decide+kernel) (by decide+kernel) (by decide+kernel) (by decide+kernel) (by decide+kernel) (by decide+kernel) (by decide+kernel) nd rfl rfl (by rfl) (by intro _;rfl)))
      (@au _ _ _ _ _ (@dO _ _ _ _ _ _ _ _ _ _ _ (@xU _ _ _ _ (@rM _ _ _ _ _ _ _ _ (@cf _ _ _ _ _ _ _ _ _ (@wk _ _ _ rfl hr) (¬9) (@cg _ _ _ _ _ ac) (bg _)) (@oy _ _ _ _ _ (@cf _ _ _ _ _ _ _ _ _ (@yS _ _) (@aP _ _ _ _ _ _ _ (@dR _ _ _ _ _ _ _ (¬7) ae) ae) ae (bg _)))))
      (@au _ _ _ _ _ (@c_ _ _ _ _ _ (@uo _ _ _ _ _ 4 _ _ _ _ _ _ rfl (by rfl) (by first | exact Or.inl rfl | exact Or.inr (Or.inl rfl) | exact Or.inr (Or.inr rfl)) (by decide) (by decide) (@cR _ _ _ _ _ _ _ rfl (¬9) (@aP _ _ _ _ _ _ _ (@dR _ _ _ _ _ _ _ (¬7) ae) (@bb _ _ _ _ _ _ _ _ _ (@b_len _ _ rfl) (by rfl) T.b_len ((¬9)∘ac) (by decide) (by decide) (by rfl) (by rfl))) (fun _ _=>rfl)) (fun _ _=>rfl) (@xR _ _ _ _ 5 (by rfl) (by first | exact Or.inl rfl | exact Or.inr (Or.inl rfl) | exact Or.inr (Or.inr rfl)) (by decide) (by decide)) (by rfl) (by rfl) (by rfl) (by rfl) (by rfl) (by rfl)) (by rfl)))
      (@au _ _ _ _ _ (@c_ _ _ _ _ _ (@xP _ _ _ _ _ _ 4 _ _ rfl (by rfl) (by first | exact Or.inl rfl | exact Or.inr (Or.inl rfl) | exact Or.inr (Or.inr rfl)) (by decide) (by decide) (@cg _ _ _ _ _ ((¬5)∘ac)) (by rfl) (by rfl) (by rfl) (by rfl) (by rfl) (by rfl)) (by rfl))))))))) (by intro _;rfl))
      (@au _ _ _ _ _ (@aY _ _ _ _ _ (@bA _ _ _ _ _ _ ((@bA _ _ _ _ _ _ ((@cR _ _ _ _ _ _ _ rfl (¬1) ae (fun _ _=>rfl))∘((@bb _ _ _ _ _ _ _ _ _ (@b_tuple _ _ rfl) (by rfl) T.b_tuple ((¬3)∘ac) (by decide) (by decide) (by rfl) (by rfl))∘((@cR _ _ _ _ _ _ _ rfl (¬1) ae (fun _ _=>rfl))∘((@cR _ _ _ _ _ _ _ rfl (¬1) ae (fun _ _=>rfl))∘ac)))))∘((@bb _ _ _ _ _ _ _ _ _ (@b_tuple _ _ rfl) (by rfl) T.b_tuple ((@nj _ _ _ _ _ _ _ _ _ _ _ _ _ (ao cn) ["_law_drawn","_law_web_here","_law_some","_law_ties_here","_law_groups","_law_tie","_law_row","_law_number","_law_own","_law_alike"] [] ["_law_group"] rfl rfl rfl (@ut _ _ _ _ 4 _ rfl (by rfl) (by first | exact Or.inl rfl | exact Or.inr (Or.inl rfl) | exact Or.inr (Or.inr rfl)) (by decide) (by decide))
        (fun C s0 H0 fp=>(@aI _ _ _ 0 _ (show List.Nodup (["_law_group"]:List Str) by decide+kernel) rfl (Or.inl rfl) (by trivial))) (fun C s0 H0 fp=>(@gD _ _))
        (fun C s0 H0 fp=>(@bb _ _ _ _ _ _ _ _ _ (@b_tuple _ _ rfl) (by rfl) T.b_tuple ((¬0)∘ac) (by decide) (by decide) (by rfl) (by rfl))) rfl (by decide+kernel) (by decide+kernel) (by decide+kernel) (by decide+kernel) (by decide+kernel) (by decide+kernel) (by decide+kernel) (by intro _;rfl))∘ac) (by decide) (by decide) (by rfl) (by rfl))∘ac))))))))))
noncomputable def j2:FI:=(o8 (af 4))
noncomputable def gW:FS:=(jh (lc (bf (dX 2 i6 (ab (ax cT (af 3) (af 6)) (ab (af 5) aj)))))
    (cD (vC (.bool false)))
    eZ)
noncomputable def hV:FI:=(oj (ab (af 1) (ab (af 2) aj)))
noncomputable def d9:FS:=(dc ([6]++([]++[])) j2 (ah 6) gW)
noncomputable def nO:FS:=(aH (a9 3 (dX 3 aN (ab (af 0) (ab (af 1) (ab (af 2) aj)))))
    (aH (jh (yF (lc (bf (yG (qm "tuple") (af 3)))) (bf (ax (cO true) (aR (g1 cC) (ab (af 3) aj)) (aR (g1 cC) (ab (ax cT (af 0) (vC (.int 1))) aj)))))
    (cD (vC (.bool false)))
    eZ)
    (aH (dc (([4]++([5]++[]))++([6]++([]++[]))) hV (bB (aw (ah 4) (aw (ah 5) bj))) d9)
    (cD (vC (.bool true))))))
noncomputable def gy:FM:=j8 3 4 ([3]++(([]++[])++((([4]++([5]++[]))++([6]++([]++[])))++[]))) nO
theorem mj:aX ["_law_web_here","_law_groups","_law_answers_here","_law_found","_law_group","_law_truth","_law_tie"] ["_law_web_here","_law_groups","_law_answers_here"] (ao gH):=⟨rfl,rfl,rfl,by decide+kernel,rfl,by decide+kernel,by decide+kernel⟩
theorem qW(h:cB K mg "_law_right" gH f fd ["_law_web_here","_law_groups","_law_answers_here"])(T:lm mg){f_together_answers:Addr}{e_together_answers:FuncData}(h_together_answers:cB K mg "together_answers" aB f_together_answers e_together_answers ["web","groups","answers"])(G_together_answers:a' P w K mg base dA 1 f_together_answers e_together_answers ["web","groups","answers"] (dP K 3 aN)){fLsays:Addr}{eLsays:FuncData}(hLsays:cB K mg "_law_says" jj fLsays eLsays ["_law_found","_law_due"])(GLsays:a' P w K mg base dA 1 fLsays eLsays ["_law_found","_law_due"] (dP K 2 i6)):a' P w K mg base dA 2 f fd ["_law_web_here","_law_groups","_law_answers_here"] (dP K 3 gy):=by
  have nd:=mj.nd
  exact h.fn mj rfl rfl (fun cdv A outer s H E hr=>(@ag _ _ _ _ _ _ _ _ (@aF _ _ _ _ _ 3 _ _ nd rfl (Or.inl rfl) (@bE _ _ _ _ _ _ _ _ _ _ _ _ _ _ _ h_together_answers G_together_answers (hr.mono (by decide)) ((¬0)∘((¬1)∘((¬2)∘ac))) (by rfl) (by decide) (by rfl) (by rfl)) (by rfl) (by trivial))
      (@ag _ _ _ _ _ _ _ _ (@dO _ _ _ _ _ _ _ _ _ _ _ (@xU _ _ _ _ (@zC _ _ _ _ _ _ _ _ (@kY _ _ _ _ _ (@jd _ _ _ _ (@zz _ _ _ _ _ _ _ _ "tuple" rfl (by decide) rfl T.b_isinstance rfl T.b_tuple PyProof.Rows.boot_tuple (by decide) (by decide) (¬3) (by rfl) (by rfl)) (by intro _;rfl))) (@xV _ _ _ _ _ (@cf _ _ _ _ _ _ _ _ _ (@wk _ _ _ rfl hr) (@bb _ _ _ _ _ _ _ _ _ (@b_len _ _ rfl) (by rfl) T.b_len ((¬3)∘ac) (by decide) (by decide) (by rfl) (by rfl)) (@bb _ _ _ _ _ _ _ _ _ (@b_len _ _ rfl) (by rfl) T.b_len ((@cR _ _ _ _ _ _ _ rfl (¬0) ae (fun _ _=>rfl))∘ac) (by decide) (by decide) (by rfl) (by rfl)) (bg _)))))
      (@au _ _ _ _ _ (@aY _ _ _ _ _ (@fP _ _ _ _ _)))
      (@bO _ _))
      (@ag _ _ _ _ _ _ _ _ (@dS _ _ _ _ _ _ _ _ _ _ _ PassesOwn.never rfl (@ox _ _ _ _ _ _ _ _ _ _ rfl rfl T.b_zip ((¬1)∘((¬2)∘ac)) (by rfl) (by rfl)) (@ie _ _ _ _ _ _ _ _ rfl rfl (@bv _ _ _ _ _ _ _ _ (@aI _ _ _ 4 _ nd rfl (Or.inl rfl) (by trivial)) (@bv _ _ _ _ _ _ _ _ (@aI _ _ _ 5 _ nd rfl (Or.inl rfl) (by trivial)) (@fB _ _) (by rfl)) (by rfl)) (bZ (bZ hR)) (by rfl) (by rfl))
      (@au _ _ _ _ _ (@dS _ _ _ _ _ _ _ _ _ _ _ PassesOwn.never rfl (@rK _ _ _ _ _ rfl (¬4)) (@aI _ _ _ 6 _ nd rfl (Or.inl rfl) (by trivial))
      (@au _ _ _ _ _ (@dO _ _ _ _ _ _ _ _ _ _ _ (@kY _ _ _ _ _ (@jd _ _ _ _ (@bE _ _ _ _ _ _ _ _ _ _ _ _ _ _ _ hLsays GLsays (hr.mono (by decide)) ((@cR _ _ _ _ _ _ _ rfl (¬3) (¬6) (fun _ _=>rfl))∘((¬5)∘ac)) (by rfl) (by decide) (by rfl) (by rfl)) (by intro _;rfl)))
      (@au _ _ _ _ _ (@aY _ _ _ _ _ (@fP _ _ _ _ _)))
      (@bO _ _))) (by intro _;rfl))) (by intro _;rfl))
      (@au _ _ _ _ _ (@aY _ _ _ _ _ (@fP _ _ _ _ _)))))))
noncomputable def Bl:FI:=(bC (ab (aR (g1 cC) (ab (ax cT (af 3) (vC (.int 1))) aj)) aj))
noncomputable def yW:FE:=(dz (ab (af 0) aj))
noncomputable def AI:FI:=(o8 (af 5))
noncomputable def Ae:FS:=(jh (lc (bf (dX 3 gy (ab (af 3) (ab (af 4) (ab (af 6) aj))))))
    (cD (vC (.bool false)))
    eZ)
noncomputable def AJ:FI:=(bC (ab (vC (.int 4)) aj))
noncomputable def Af:FE:=(dX 2 di (ab (af 0) (ab (aR (g1 cC) (ab (af 1) aj)) aj)))
noncomputable def Bm:FI:=(bC (ab (vC (.int 6)) aj))
noncomputable def yO:FS:=(aH (pI (dX 2 dj (ab (af 1) (ab (dX 3 lP (ab (af 1) (ab (vC (.int 12)) (ab (vC (.int 16)) aj)))) aj))) (bB (aw (ah 3) (aw (ah 4) bj))))
    (aH (a9 5 (bY [(1,"_law_drawn"),(4,"_law_groups")] 1 AJ (ah 2) cW Af))
    (aH (a9 5 (ax cy (af 5) (dU (ab (ax fK (dz (ab (vC (.bool true)) aj)) (aR (g1 cC) (ab (af 4) aj))) (ab (ax fK (dz (ab (vC (.bool false)) aj)) (aR (g1 cC) (ab (af 4) aj))) (ab (ax cT (af 5) (vC (.int 0))) aj))))))
    (aH (dc ([6]++([]++[])) AI (ah 6) Ae)
    (aH (a9 7 (aR (g1 bQ) (ab (bY [] 1 Bl (ah 0) cW yW) aj)))
    (aH (a9 6 (dX 2 di (ab (af 1) (ab (aR (g1 cC) (ab (ax cT (af 3) (vC (.int 1))) aj)) aj))))
    (jh (lc (bf (dX 2 i5 (ab (dX 3 aN (ab (af 3) (ab (af 7) (ab (af 6) aj)))) (ab (af 6) aj)))))
    (cD (vC (.bool false)))
    eZ)))))))
noncomputable def ve:FS:=(aH (a9 1 (dX 1 gw (ab (af 0) aj)))
    (aH (dc ([2]++(([3]++([4]++[]))++([5]++([5]++(([6]++([]++[]))++([7]++([6]++([]++[])))))))) Bm (ah 2) yO)
    (cD (vC (.bool true)))))
noncomputable def i8:FM:=j8 1 7 ([1]++(([2]++(([3]++([4]++[]))++([5]++([5]++(([6]++([]++[]))++([7]++([6]++([]++[]))))))))++[])) ve
theorem r9:aX ["_law_script","_law_drawn","_law_turn","_law_web_here","_law_groups","_law_some","_law_answers_here","_law_alone"] ["_law_script"] (ao gK):=⟨rfl,rfl,rfl,by decide+kernel,rfl,by decide+kernel,by decide+kernel⟩
theorem xb(h:cB K mg "law" gK f fd ["_law_script"])(T:lm mg){fLdraws:Addr}{eLdraws:FuncData}(hLdraws:cB K mg "_law_draws" gF fLdraws eLdraws ["_law_script"])(GLdraws:a' P w K mg base dA 2 fLdraws eLdraws ["_law_script"] (dP K 1 gw)){fLgrouped:Addr}{eLgrouped:FuncData}(hLgrouped:cB K mg "_law_grouped" cn fLgrouped eLgrouped ["_law_drawn","_law_web_here"])(GLgrouped:a' P w K mg base dA 4 fLgrouped eLgrouped ["_law_drawn","_law_web_here"] (dP K 2 dj)){fLanswers:Addr}{eLanswers:FuncData}(hLanswers:cB K mg "_law_answers" eh fLanswers eLanswers ["_law_drawn","_law_many"])(GLanswers:a' P w K mg base dA 2 fLanswers eLanswers ["_law_drawn","_law_many"] (dP K 2 di)){fLweb:Addr}{eLweb:FuncData}(hLweb:cB K mg "_law_web" mf fLweb eLweb ["_law_drawn","_law_most","_law_ties_here"])(GLweb:a' P w K mg base dA 5 fLweb eLweb ["_law_drawn","_law_most","_law_ties_here"] (dP K 3 lP)){fLsame:Addr}{eLsame:FuncData}(hLsame:cB K mg "_law_same" ji fLsame eLsame ["_law_found","_law_due"])(GLsame:a' P w K mg base dA 1 fLsame eLsame ["_law_found","_law_due"] (dP K 2 i5)){fLright:Addr}{eLright:FuncData}(hLright:cB K mg "_law_right" gH fLright eLright ["_law_web_here","_law_groups","_law_answers_here"])(GLright:a' P w K mg base dA 2 fLright eLright ["_law_web_here","_law_groups","_law_answers_here"] (dP K 3 gy)){f_together_answers:Addr}{e_together_answers:FuncData}(h_together_answers:cB K mg "together_answers" aB f_together_answers e_together_answers ["web","groups","answers"])(G_together_answers:a' P w K mg base dA 1 f_together_answers e_together_answers ["web","groups","answers"] (dP K 3 aN)):a' P w K mg base dA 6 f fd ["_law_script"] (dP K 1 i8):=by
  have nd:=r9.nd
  exact h.fn r9 rfl rfl (fun cdv A outer s H E hr=>(@ag _ _ _ _ _ _ _ _ (@aF _ _ _ _ _ 1 _ _ nd rfl (Or.inr rfl) (@bE _ _ _ _ _ _ _ _ _ _ _ _ _ _ _ hLdraws GLdraws (hr.mono (by decide)) ((¬0)∘ac) (by rfl) (by decide) (by rfl) (by rfl)) (by rfl) (by trivial))
      (@ag _ _ _ _ _ _ _ _ (@dS _ _ _ _ _ _ _ _ _ _ _ PassesOwn.never rfl (@bx _ _ _ _ _ _ _ rfl T.b_range (ae∘ac) (by rfl)) (@aI _ _ _ 2 _ nd rfl (Or.inl rfl) (by trivial))
      (@ag _ _ _ _ _ _ _ _ (@rL _ _ _ _ _ _ _ _ (@bE _ _ _ _ _ _ _ _ _ _ _ _ _ _ _ hLgrouped GLgrouped (hr.mono (by decide)) ((¬1)∘((@bE _ _ _ _ _ _ _ _ _ _ _ _ _ _ _ hLweb GLweb (hr.mono (by decide)) ((¬1)∘(ae∘(ae∘ac))) (by rfl) (by decide) (by rfl) (by rfl))∘ac)) (by rfl) (by decide) (by rfl) (by rfl)) (@ie _ _ _ _ _ _ _ _ rfl rfl (@bv _ _ _ _ _ _ _ _ (@aI _ _ _ 3 _ nd rfl (Or.inl rfl) (by trivial)) (@bv _ _ _ _ _ _ _ _ (@aI _ _ _ 4 _ nd rfl (Or.inr rfl) (by trivial)) (@fB _ _) (by rfl)) (by rfl)) (bZ (bZ hR)) (by rfl) (by rfl)) (by rfl) (by rfl) (by rfl))
      (@ag _ _ _ _ _ _ _ _ (@ic _ _ _ (5) _ _ _ _ _ _ _ _ _ _ _ _ _ (ao gK) ["_law_script","_law_drawn","_law_turn","_law_web_here","_law_groups","_law_some","_law_answers_here","_law_alone"] [(1,"_law_drawn"),(4,"_law_groups")] ["_law_k"] rfl rfl rfl (@bx _ _ _ _ _ _ _ rfl T.b_range (ae∘ac) (by rfl))
        (fun C s0 H0 fp=>(@aI _ _ _ 2 _ (show List.Nodup (["_law_drawn","_law_groups","_law_k"]:List Str) by decide+kernel) rfl (Or.inl rfl) (by trivial))) (fun C s0 H0 fp=>(@gD _ _))
        (fun C s0 H0 fp=>(@bE _ _ _ _ _ _ _ _ _ _ _ _ _ _ _ hLanswers GLanswers (hr.mono (by decide)) ((¬0)∘((@bb _ _ _ _ _ _ _ _ _ (@b_len _ _ rfl) (by rfl) T.b_len ((¬1)∘ac) (by decide) (by decide) (by rfl) (by rfl))∘ac)) (by rfl) (by decide) (by rfl) (by rfl))) rfl (by decide+kernel) (by decide+kernel) (by decide+kernel) (by decide+kernel) (by decide+kernel) (by decide+kernel) (by decide+kernel) nd rfl rfl (by rfl) (by intro _;rfl))
      (@ag _ _ _ _ _ _ _ _ (@aF _ _ _ _ _ 5 _ _ nd rfl (Or.inl rfl) (@cz _ _ _ _ _ _ _ rfl (¬5) (@cg _ _ _ _ _ ((@iy _ _ _ _ _ _ _ rfl (@bA _ _ _ _ _ _ ((@fP _ _ _ _ _)∘ac)) (@bb _ _ _ _ _ _ _ _ _ (@b_len _ _ rfl) (by rfl) T.b_len ((¬4)∘ac) (by decide) (by decide) (by rfl) (by rfl)))∘((@iy _ _ _ _ _ _ _ rfl (@bA _ _ _ _ _ _ ((@fP _ _ _ _ _)∘ac)) (@bb _ _ _ _ _ _ _ _ _ (@b_len _ _ rfl) (by rfl) T.b_len ((¬4)∘ac) (by decide) (by decide) (by rfl) (by rfl)))∘((@cR _ _ _ _ _ _ _ rfl (¬5) ae (fun _ _=>rfl))∘ac))))) (by rfl) (by trivial))
      (@ag _ _ _ _ _ _ _ _ (@dS _ _ _ _ _ _ _ _ _ _ _ PassesOwn.never rfl (@rK _ _ _ _ _ rfl (¬5)) (@aI _ _ _ 6 _ nd rfl (Or.inl rfl) (by trivial))
      (@au _ _ _ _ _ (@dO _ _ _ _ _ _ _ _ _ _ _ (@kY _ _ _ _ _ (@jd _ _ _ _ (@bE _ _ _ _ _ _ _ _ _ _ _ _ _ _ _ hLright GLright (hr.mono (by decide)) ((¬3)∘((¬4)∘((¬6)∘ac))) (by rfl) (by decide) (by rfl) (by rfl)) (by intro _;rfl)))
      (@au _ _ _ _ _ (@aY _ _ _ _ _ (@fP _ _ _ _ _)))
      (@bO _ _))) (by intro _;rfl))
      (@ag _ _ _ _ _ _ _ _ (@aF _ _ _ _ _ 7 _ _ nd rfl (Or.inl rfl) (@bb _ _ _ _ _ _ _ _ _ (@b_tuple _ _ rfl) (by rfl) T.b_tuple ((@nj _ _ _ _ _ _ _ _ _ _ _ _ _ (ao gK) ["_law_script","_law_drawn","_law_turn","_law_web_here","_law_groups","_law_some","_law_answers_here","_law_alone"] [] ["_law_tie"] rfl rfl rfl (@bx _ _ _ _ _ _ _ rfl T.b_range ((@bb _ _ _ _ _ _ _ _ _ (@b_len _ _ rfl) (by rfl) T.b_len ((@cR _ _ _ _ _ _ _ rfl (¬3) ae (fun _ _=>rfl))∘ac) (by decide) (by decide) (by rfl) (by rfl))∘ac) (by rfl))
        (fun C s0 H0 fp=>(@aI _ _ _ 0 _ (show List.Nodup (["_law_tie"]:List Str) by decide+kernel) rfl (Or.inl rfl) (by trivial))) (fun C s0 H0 fp=>(@gD _ _))
        (fun C s0 H0 fp=>(@bA _ _ _ _ _ _ ((¬0)∘ac))) rfl (by decide+kernel) (by decide+kernel) (by decide+kernel) (by decide+kernel) (by decide+kernel) (by decide+kernel) (by decide+kernel) (by intro _;rfl))∘ac) (by decide) (by decide) (by rfl) (by rfl)) (by rfl) (by trivial))
      (@ag _ _ _ _ _ _ _ _ (@aF _ _ _ _ _ 6 _ _ nd rfl (Or.inl rfl) (@bE _ _ _ _ _ _ _ _ _ _ _ _ _ _ _ hLanswers GLanswers (hr.mono (by decide)) ((¬1)∘((@bb _ _ _ _ _ _ _ _ _ (@b_len _ _ rfl) (by rfl) T.b_len ((@cR _ _ _ _ _ _ _ rfl (¬3) ae (fun _ _=>rfl))∘ac) (by decide) (by decide) (by rfl) (by rfl))∘ac)) (by rfl) (by decide) (by rfl) (by rfl)) (by rfl) (by trivial))
      (@au _ _ _ _ _ (@dO _ _ _ _ _ _ _ _ _ _ _ (@kY _ _ _ _ _ (@jd _ _ _ _ (@bE _ _ _ _ _ _ _ _ _ _ _ _ _ _ _ hLsame GLsame (hr.mono (by decide)) ((@bE _ _ _ _ _ _ _ _ _ _ _ _ _ _ _ h_together_answers G_together_answers (hr.mono (by decide)) ((¬3)∘((¬7)∘((¬6)∘ac))) (by rfl) (by decide) (by rfl) (by rfl))∘((¬6)∘ac)) (by rfl) (by decide) (by rfl) (by rfl)) (by intro _;rfl)))
      (@au _ _ _ _ _ (@aY _ _ _ _ _ (@fP _ _ _ _ _)))
      (@bO _ _))))))))) (by intro _;rfl))
      (@au _ _ _ _ _ (@aY _ _ _ _ _ (@fP _ _ _ _ _))))))
local macro_rules | `(tactic| simp? [$ts,*]) => `(tactic| simp [$ts,*, j8, lT, aH, jh, cD, eZ, a9, eg, pI, rY, rD, bf, ax, yG, af, vC, dU, aj, ab, dz, aR, dX, nB, yF, lc, Br, vR, z_, vT, yq, lX, j_, cX, bM, zg, hZ, gq, mT, dQ, bJ, sQ, pP, bB, aw, ah, bj, cq, aA, a8, wX, dH, lA, iX, nW, oh, n_, nY, nX, lE, lD, lG, jY, ly, vB, jZ, qo, vD, qr, og, qp, qq, lJ, lI, j0, lK, vE, ku, mM, mN, mO, vg, jU, jT, iW, nZ, List.replicate, -List.map_nil, -List.map_cons, -List.nil_append, -List.cons_append, -Option.bind_some, -Option.map_some, -getElem?_pos, -List.append_nil, vz, vy, vo, vm, vq, vw, vp, vA])
theorem pT{n k:Int}(h:0 < k):0≤n % k:=Int.emod_nonneg _ (Int.ne_of_gt h)
theorem pU{n k:Int}(h:0 < k):n % k < k:=Int.emod_lt_of_pos _ h
def nx:List Int→Int
  | []=>0
  | d::_=>d
def eK(ds:List Int):Prop:=∀d∈ds,0≤d∧d < 2147483648
theorem vI{ds:List Int}(h:eK ds):0≤nx ds∧nx ds < 2147483648:=by
  cases ds with
  | nil=>exact⟨Int.le_refl 0,by show(0:Int) < 2147483648;decide⟩
  | cons d r=>exact h d (by simp)
theorem z3{ds:List Int}(h:eK ds):eK ds.tail:=fun d hd=>h d (List.mem_of_mem_tail hd)
theorem yh(ds:List Int):aV [.l (ds.map .int)]=some (.d (.int (nx ds)),[.l (ds.tail.map .int)]):=by
  have hq:∀e:En,e[0]?=some (some (.l (ds.map .int)))→cO false e (.s 0) (.l [])=some (.d (.bool (ds.map PyData.int).isEmpty)):=fun e he=>lC he (mq ds).1
  cases ds with
  | nil=>simp? [aV,mP,hq,nx]
  | cons d r=>simp? [aV,mP,hq,nx]
theorem e_{ds:List Int}(hd:eK ds):∃(n:Int) (ds':List Int),aV [.l (ds.map .int)]=some (.d (.int n),[.l (ds'.map .int)])∧0≤n∧n < 2147483648∧eK ds':=⟨nx ds,ds.tail,yh ds,(vI hd).1,(vI hd).2,z3 hd⟩
theorem oK(cell k:Int)(h0:0≤k)(h1:k≤1000):∃r,fx [.d (.int cell),.d (.int k)]=some (.d (.int r),[.d (.int cell),.d (.int k)])∧0≤r∧r < 2147483648:=by
  have a1:h_ (cell % 2147483647) 48271=true:=kT (by decide) (by decide)
  have a2:h_ 7919 k=true:=qP (by decide) (by decide)
  have a3:h_ (7919*k) k=true:=kT (by lia) (by lia)
  have a4:h_ ((cell % 2147483647*48271+7919*k*k+104729) % 2147483647) ((cell % 2147483647*48271+7919*k*k+104729) % 2147483647)=true:=kT (by lia) (by lia)
  refine⟨_,by simp? [fx,nM,az,iY,a1,a2,a3,a4];rfl,?_,?_⟩
  · lia
  · lia
theorem kL{ds:List Int}(h:eK ds){r:Int}(h0:0≤r)(h1:r < 2147483648):eK (ds++[r]):=fun d hd=>by
  rcases List.mem_append.mp hd with hd | hd
  · exact h d hd
  · simp at hd;subst hd;exact⟨h0,h1⟩
abbrev dE(ns ds:List Int)(v2 v3 v4:Option Sv):En:=[some (.d (.list (ns.map .int))),some (.l (ds.map .int)),v2,v3,v4]
inductive DI (ns:List Int) (i:Nat):En→Prop
  | mk {ds v2 v3 v4} (hd:eK ds) (hl:ds.length≤1000*i):DI ns i (dE ns ds v2 v3 v4)
inductive DJ (ns:List Int) (k cell:Int) (n i:Nat):En→Prop
  | mk {ds v4} (hd:eK ds) (hl:ds.length=n+i):DJ ns k cell n i (dE ns ds (some (.d (.int k))) (some (.d (.int cell))) v4)
inductive DW (ns:List Int) (k:Int) (v4:Option Sv) (n:Nat):En→Prop
  | mk {cell ds} (hc:0≤cell) (hd:eK ds) (hl:ds.length≤max n 900):DW ns k v4 n (dE ns ds (some (.d (.int k))) (some (.d (.int cell))) v4)
theorem uM(ns:List Int)(hn:ns.length≤63):∃ds,gw [.d (.list (ns.map .int))]=some (.l (ds.map .int),[.d (.list (ns.map .int))])∧eK ds:=by
  have inner:∀(cell k:Int) (ds:List Int) (v4:Option Sv),0≤k→k≤63→eK ds→ds.length≤63000→∃ds' v4',(∀W,dc W fj (ah 4) dZ (dE ns ds (some (.d (.int k))) (some (.d (.int cell))) v4)=some (.nx (dE ns ds' (some (.d (.int k))) (some (.d (.int cell))) v4')))∧eK ds'∧ds'.length=ds.length+12:=by
    intro cell k ds v4 k0 k1 hd hl
    obtain⟨e',h1,h2⟩:=bU (own:=[]) (g:=ah 4) (f:=dZ) (DJ ns k cell ds.length) (aL 0 12) 0 (dE ns ds (some (.d (.int k))) (some (.d (.int cell))) v4) (fun i x e hx hI=>by
      obtain⟨rfl,hi⟩:=dw hx
      obtain⟨hd',hl'⟩:=hI
      rename_i ds' v4'
      obtain⟨r1,c1,_,_⟩:=oK cell (3*(0+(i:Int))+1) (by lia) (by lia)
      obtain⟨r2,c2,c3,c4⟩:=oK r1 (0+(i:Int)+k+2) (by lia) (by lia)
      have a1:h_ 3 (0+(i:Int))=true:=qP (by decide) (by decide)
      refine⟨_,dE ns (ds'++[r2]) (some (.d (.int k))) (some (.d (.int cell))) (some (.d (.int (0+(i:Int))))),rfl,?_,bw,.mk (kL hd' c3 c4) (by simp;lia)⟩
      have hlen:ds'.length < 1000000:=by lia
      simp only [Int.zero_add] at a1 c1 c2
      simp? [dE,dZ,c1,c2,iY,a1,hlen]) (.mk hd rfl)
    obtain⟨hd',hl'⟩:=h2
    rename_i ds' v4'
    rw [be] at hl'
    refine⟨ds',v4',fun W=>?_,hd',by lia⟩
    rw [de (show fj _=some (aL 0 12,[],_) from ce (n:=12) rfl (by decide) (by decide))]
    exact h1
  have wh:∀(cell k:Int) (ds:List Int) (v4:Option Sv),0≤cell→eK ds→ds.length≤63100→∃cell' ds',jl (2 ^ 4200) dg ff (dE ns ds (some (.d (.int k))) (some (.d (.int cell))) v4)=some (.nx (dE ns ds' (some (.d (.int k))) (some (.d (.int cell'))) v4))∧0≤cell'∧eK ds'∧ds'.length≤max ds.length 900:=by
    intro cell k ds v4 hc hd hl
    have tst:∀(cell:Int) (ds:List Int),dg (dE ns ds (some (.d (.int k))) (some (.d (.int cell))) v4)=some (decide (1000000000000000000≤cell)&&decide ((ds.length:Int) < 900),dE ns ds (some (.d (.int k))) (some (.d (.int cell))) v4):=by
      intro cell ds
      by_cases h:(1000000000000000000:Int)≤cell
      · simp? [dE,dg,gu,gC,h]
      · simp? [dE,dg,gu,gC,h]
    obtain⟨e0,e',h1,hI,h3⟩:=jC (ft:=dg) (f:=ff) (DW ns k v4 ds.length)
      (fun e=>1000000 - vG 1 e) (fun e hI=>by
        obtain⟨hc',hd',hl'⟩:=hI
        rename_i cell' ds'
        rw [tst]
        by_cases c1:(1000000000000000000:Int)≤cell'
        · by_cases c2:(ds'.length:Int) < 900
          · refine .inr ⟨_,dE ns (ds'++[cell' % 2147483629]) (some (.d (.int k))) (some (.d (.int (cell' / 2147483629)))) v4,by rw [decide_eq_true c1,decide_eq_true c2];rfl,?_,.mk (by lia) (kL hd' (by lia) (by lia)) (by simp;lia),?_⟩
            · have hlen:ds'.length < 1000000:=by lia
              have b8:Bt 8000 2147483629:=eQ (by decide) (by decide)
              simp? [dE,ff,az,ck,b8,hlen]
            · simp [vG,dE];lia
          · exact .inl ⟨_,by rw [decide_eq_true c1,decide_eq_false c2];rfl,trivial⟩
        · exact .inl ⟨_,by rw [decide_eq_false c1];rfl,trivial⟩) (2 ^ 4200) _ (.mk hc hd (by lia)) (om (m:=20) (Nat.lt_of_le_of_lt (Nat.sub_le _ _) (by decide)) (by decide))
    obtain⟨hc',hd',hl'⟩:=hI
    rename_i cell' ds'
    rw [tst] at h3
    have h4:=(Prod.mk.inj (Option.some.inj h3)).2
    subst h4
    exact⟨cell',ds',h1,hc',hd',hl'⟩
  have turn:∀(i:Nat) (ds:List Int) (v3 v4:Option Sv) (hi:i < ns.length),eK ds→ds.length≤1000*i→∃ds2 v3' v4',df (dE ns ds (some (.d (.int (i:Int)))) v3 v4)=some (.nx (dE ns ds2 (some (.d (.int (i:Int)))) v3' v4'))∧eK ds2∧ds2.length≤1000*(i+1):=by
    intro i ds v3 v4 hi hd hl
    have hcell:atI (ns.map PyData.int) (i:Int)=some (.int ns[i]):=by
      rw [eN (by lia) (by rw [List.length_map];lia)]
      simp [hi]
    have c0:(0:Int)≤(ns[i].natAbs:Int):=by lia
    have st:a9 3 (aR (g1 oY) (ab (ax cT (af 0) (af 2)) aj)) (dE ns ds (some (.d (.int (i:Int)))) v3 v4)=some (.nx (dE ns ds (some (.d (.int (i:Int)))) (some (.d (.int (ns[i].natAbs:Int)))) v4)):=by
      simp? [dE,hcell]
    generalize (ns[i].natAbs:Int)=cell at c0 st
    have mid:∃ds1 v4',jh (bf (ax yz (af 3) (ax mW (vC (.int 10)) (vC (.int 18))))) (dc ([4]++[]) fj (ah 4) dZ) eZ (dE ns ds (some (.d (.int (i:Int)))) (some (.d (.int cell))) v4)=some (.nx (dE ns ds1 (some (.d (.int (i:Int)))) (some (.d (.int cell))) v4'))∧eK ds1∧ds1.length≤ds.length+12:=by
      by_cases cb:cell < 1000000000000000000
      · obtain⟨ds1,v4',f1,f2,f3⟩:=inner cell (i:Int) ds v4 (by lia) (by lia) hd (by lia)
        refine⟨ds1,v4',?_,f2,by lia⟩
        rw [zL (e1:=dE ns ds (some (.d (.int (i:Int)))) (some (.d (.int cell))) v4) (by simp? [dE,gu,gC,cb])]
        exact f1 _
      · refine⟨ds,v4,?_,hd,by lia⟩
        rw [zK (e1:=dE ns ds (some (.d (.int (i:Int)))) (some (.d (.int cell))) v4) (by simp? [dE,gu,gC,cb])]
        rfl
    obtain⟨ds1,v4',m1,m2,m3⟩:=mid
    obtain⟨cell2,ds2,w1,w2,w3,w4⟩:=wh cell (i:Int) ds1 v4' c0 m2 (by lia)
    by_cases c2:(2147483629:Int)≤cell2
    · refine⟨ds2++[cell2 % 2147483629],some (.d (.int cell2)),v4',?_,kL w3 (by lia) (by lia),by simp;lia⟩
      have hlen:ds2.length < 1000000:=by lia
      unfold df
      rw [fF st,fF m1,fF w1]
      simp? [dE,c2,az,hlen]
    · refine⟨ds2,some (.d (.int cell2)),v4',?_,w3,by lia⟩
      unfold df
      rw [fF st,fF m1,fF w1]
      simp? [dE,c2]
  obtain⟨e',h1,hI⟩:=bU (own:=[]) (g:=ah 2) (f:=df) (DI ns) (aL 0 (min (ns.length:Int) 63).toNat) 0 (dE ns [] none none none) (fun i x e hx hI=>by
    obtain⟨rfl,hi⟩:=dw hx
    obtain⟨hd,hl⟩:=hI
    rename_i ds v2 v3 v4
    rw [Nat.zero_add] at hl ⊢
    obtain⟨ds2,v3',v4',t1,t2,t3⟩:=turn i ds v3 v4 (by lia) hd hl
    exact⟨dE ns ds (some (.d (.int (i:Int)))) v3 v4,_,by simp [ah,dE],t1,bw,.mk t2 t3⟩) (.mk (fun d hd=>by cases hd) (by simp))
  obtain⟨hd,hl⟩:=hI
  rename_i ds v2 v3 v4
  refine⟨ds,?_,hd⟩
  have hf:∀W,dc W hU (ah 2) df (dE ns [] none none none)=some (.nx (dE ns ds v2 v3 v4)):=fun W=>by
    rw [de (show hU _=some (aL 0 (min (ns.length:Int) 63).toNat,[],dE ns [] none none none) from ce (n:=min (ns.length:Int) 63) (by simp? [dE]) (by lia) (by lia))]
    exact h1
  unfold dE at hf
  simp only [List.map_nil] at hf
  simp? [gw,nL,hf]
theorem zY(a b:Int)(hb:Bt 4000 b):lO [.d (.int a),.d (.int b)]=some (.d (.int (Int.gcd a b)),[.d (.int a),.d (.int b)]):=by
  have tst:∀x y:Int,gf [some (.d (.int x)),some (.d (.int y))]=some (!(y==0),[some (.d (.int x)),some (.d (.int y))]):=fun x y=>by simp? [gf]
  obtain⟨e0,e',h1,⟨x,y,he,hg,hy⟩,h3⟩:=jC (ft:=gf) (f:=iF) (fun e=>∃x y,e=[some (.d (.int x)),some (.d (.int y))]∧Int.gcd x y=Int.gcd a b∧Bt 4000 y) (qQ 1) (fun e ⟨x,y,he,hg,hy⟩=>by
    subst he
    rw [tst]
    by_cases c:y=0
    · subst c;exact .inl ⟨_,rfl,trivial⟩
    · refine .inr ⟨_,[some (.d (.int y)),some (.d (.int (x.fmod y)))],by rw [beq_false_of_ne c];rfl,by simp? [iF,wC c],⟨y,x.fmod y,rfl,by rw [qB,hg],?_⟩,?_⟩
      · have:=ir x c
        exact Bt.of_le hy (by lia)
      · have:=ir x c
        simpa [qQ] using this) (2 ^ 4200) _ ⟨a,b,rfl,rfl,hb⟩ (om (m:=4000) (by simpa [qQ,Bt] using hb) (by decide))
  subst he
  rw [tst] at h3
  have h4:=Prod.mk.inj (Option.some.inj h3)
  have hy0:y=0:=by simpa using h4.1
  subst hy0
  have h5:=h4.2
  subst h5
  have hs:jl (2 ^ 4200) gf iF [some (.d (.int a)),some (.d (.int b))]=some (.nx [some (.d (.int x)),some (.d (.int 0))]):=h1
  have hg':(x.natAbs:Int)=(Int.gcd a b:Int):=by rw [←hg];simp
  simp only [lO,va,j8,lT,aH,jh,cD,eZ,a9,eg,pI,rY,rD,bf,ax,yG,af,vC,dU,aj,ab,dz,aR,dX,nB,yF,lc,Br,vR,z_,vT,yq,lX,j_,cX,bM,zg,hZ,gq,mT,dQ,bJ,sQ,pP,bB,aw,ah,bj,cq,aA,a8,wX,dH,lA,iX,nW,oh,n_,nY,nX,lE,lD,lG,jY,ly,vB,jZ,qo,vD,qr,og,qp,qq,lJ,lI,j0,lK,vE,ku,mM,mN,mO,vg,jU,jT,iW,nZ,List.replicate, -List.map_nil, -List.map_cons, -List.nil_append, -List.cons_append, -Option.bind_some, -Option.map_some, -getElem?_pos, -List.append_nil,vz,vy,vo,vm,vq,vw,vp,vA]
  simp? [hs,hg']
theorem vQ(t b:Int)(hb:0 < b)(h:Bt 4000 b):j7 [.d (.int t),.d (.int b)]=some (.d (.tuple [.int (cS t b).1,.int (cS t b).2]),[.d (.int t),.d (.int b)]):=by
  have g0:=oi (t:=t) (b:=b) (by lia)
  have g1:(Int.gcd t b:Int)≠0:=by lia
  have g8:Bt 8000 (Int.gcd t b:Int):=(wF (t:=t) (by lia) h).mono (by decide)
  have e:cS t b=(t.fdiv (Int.gcd t b:Int),b.fdiv (Int.gcd t b:Int)):=by unfold cS;rw [if_neg (by lia)]
  rw [e]
  simp? [j7,vc,zY t b h,sX g1 g8]
theorem vf{i:Int}{n:Nat}(h1: -2147483648 < i)(h2:i < 2147483648)(hn:31≤n):Bt n i:=Bt.mono (m:=31) (by unfold Bt;lia) hn
def iP(t b:Int):Prop:=0≤t∧t≤b∧1≤b∧b≤100∧Int.gcd t b=1
theorem mv(n k:Int)(hn:0≤n):∃t b,bW [.d (.int n),.d (.int k)]=some (.d (.tuple [.int t,.int b]),[.d (.int n),.d (.int k)])∧iP t b:=by
  have b9:Bt 8000 9:=eQ (by decide) (by decide)
  have b100:Bt 8000 100:=eQ (by decide) (by decide)
  have low:∀t b:Int,0 < b→0≤t→t≤b→b≤100→iP (cS t b).1 (cS t b).2:=fun t b hb h0 h1 h2=>by
    obtain⟨r1,r2,r3,r4⟩:=m6 hb h0 h1 h2
    exact⟨r1,r2,r3,r4,qN (by lia)⟩
  by_cases c0:k=0
  · subst c0
    obtain⟨x,hx,ha⟩:=gU (xs:=[PyData.tuple [.int 1,.int 2],.tuple [.int 1,.int 3],.tuple [.int 2,.int 3],.tuple [.int 1,.int 1],.tuple [.int 0,.int 1],.tuple [.int 3,.int 4]]) (i:=n % 6) (by lia) (by simp;lia)
    obtain⟨t,b,rfl,hc⟩:∃t b,x=.tuple [.int t,.int b]∧iP t b:=by
      simp only [List.mem_cons,List.not_mem_nil,or_false] at hx
      rcases hx with rfl | rfl | rfl | rfl | rfl | rfl<;>exact⟨_,_,rfl,by unfold iP;decide⟩
    exact⟨t,b,by simp? [bW,eO,az,ha],hc⟩
  · by_cases c1:k=1
    · subst c1
      have hm:(n / 9) % (2+n % 9 - 1) < 2+n % 9 - 1:=Int.emod_lt_of_pos _ (by lia)
      have hm0:0≤(n / 9) % (2+n % 9 - 1):=Int.emod_nonneg _ (by lia)
      refine⟨_,_,?_,low (1+(n / 9) % (2+n % 9 - 1)) (2+n % 9) (by lia) (by lia) (by lia) (by lia)⟩
      have hpos:∀e:En,aO e (.d (.int (n / 9))) (.d (.int (2+n % 9 - 1)))=_:=fun e=>az (by lia)
      have hl:=vQ (1+(n / 9) % (2+n % 9 - 1)) (2+n % 9) (by lia) (vf (by lia) (by lia) (by decide))
      simp? [bW,eO,az,ck,b9,hpos,hl]
    · by_cases c2:k=2
      · subst c2
        have hm:(n / 100) % (1+n % 100+1) < 1+n % 100+1:=Int.emod_lt_of_pos _ (by lia)
        have hm0:0≤(n / 100) % (1+n % 100+1):=Int.emod_nonneg _ (by lia)
        refine⟨_,_,?_,low ((n / 100) % (1+n % 100+1)) (1+n % 100) (by lia) (by lia) (by lia) (by lia)⟩
        have hpos:∀e:En,aO e (.d (.int (n / 100))) (.d (.int (1+n % 100+1)))=_:=fun e=>az (by lia)
        have hl:=vQ ((n / 100) % (1+n % 100+1)) (1+n % 100) (by lia) (vf (by lia) (by lia) (by decide))
        simp? [bW,eO,az,ck,b100,hpos,hl]
      · refine⟨1,1,?_,by unfold iP;decide⟩
        simp? [bW,eO,c0,c1,c2]
theorem uP(n k:Int):∃r,gA [.d (.int n),.d (.int k)]=some (.d (.int r),[.d (.int n),.d (.int k)])∧0≤r∧r≤1000:=by
  obtain⟨x,hx,ha⟩:=gU (xs:=[PyData.int (n % 7),.int (5+n % 2),.int (n % 1001),.int (1000 - n % 3)]) (i:=k % 4) (by lia) (by simp;lia)
  obtain⟨r,rfl,hr⟩:∃r,x=.int r∧0≤r∧r≤1000:=by
    simp only [List.mem_cons,List.not_mem_nil,or_false] at hx
    rcases hx with rfl | rfl | rfl | rfl<;>exact⟨_,rfl,by lia,by lia⟩
  exact⟨r,by simp? [gA,nP,az,ha],hr⟩
abbrev tE(ds:List Int)(things many shape odds ws:Int)(ts:List dC)(v7 v8 v9 v10 v11 v12:Option Sv):En:=[some (.l (ds.map .int)),some (.d (.int things)),some (.d (.int many)),some (.d (.int shape)),some (.d (.int odds)),some (.d (.int ws)),some (.l (ts.map aM)),v7,v8,v9,v10,v11,v12]
inductive TR (things many shape odds ws:Int) (ts:List dC) (k:Option Sv):En→Prop
  | mk {t ds w8 w9 w10 w11 w12} (hd:eK ds) (ht:t.Ok things):TR things many shape odds ws ts k (tE ds things many shape odds ws (ts++[t]) k w8 w9 w10 w11 w12)
inductive TI (things many a b c:Int) (i:Nat):En→Prop
  | mk {ts ds w7 w8 w9 w10 w11 w12} (hd:eK ds) (hl:ts.length=i) (ht:∀t∈ts,t.Ok things):TI things many a b c i (tE ds things many a b c ts w7 w8 w9 w10 w11 w12)
theorem zZ(ds:List Int)(things many shape odds ws:Int)(ts:List dC)(k:Int)(v8 v9 v10 v11 v12:Option Sv)(hd:eK ds)(h2:2≤things)(h12:things≤100)(s0:0≤shape)(s1:shape < 6)(k0:0≤k)(hl:ts.length≤1000):
    ∃e',d_ (tE ds things many shape odds ws ts (some (.d (.int k))) v8 v9 v10 v11 v12)=some (.nx e')∧TR things many shape odds ws ts (some (.d (.int k))) e':=by
  obtain⟨n,d1,tn, -, -,hd1⟩:=e_ hd
  obtain⟨m,d2,tm,m0, -,hd2⟩:=e_ hd1
  obtain⟨x,hx,ha⟩:=gU (xs:=[PyData.int (n % things),.int 0,.int (k % things),.int (n % things),.int (n % 2),.int (n % things)]) (i:=shape) s0 (by simp;lia)
  have tp:0 < things:=Int.lt_of_lt_of_le (by decide) h2
  have tq:0 < things - 1:=Int.sub_pos_of_lt (Int.lt_of_lt_of_le (by decide) h2)
  have nt:0≤n % things∧n % things < things:=⟨pT tp,pU tp⟩
  have kt:0≤k % things∧k % things < things:=⟨pT tp,pU tp⟩
  obtain⟨one,rfl,o0,o1⟩:∃r,x=.int r∧0≤r∧r < things:=by
    simp only [List.mem_cons,List.not_mem_nil,or_false] at hx
    rcases hx with rfl | rfl | rfl | rfl | rfl | rfl<;>exact⟨_,rfl,by lia,by lia⟩
  have r0:0≤(n / 12) % (things - 1):=pT tq
  have r1:(n / 12) % (things - 1) < things - 1:=pU tq
  have q0:0≤(one+1+(n / 12) % (things - 1)) % things:=pT tp
  have q1:(one+1+(n / 12) % (things - 1)) % things < things:=pU tp
  have qn:(one+1+(n / 12) % (things - 1)) % things≠one:=fun z=>by
    by_cases c:one+1+(n / 12) % (things - 1) < things
    · rw [Int.emod_eq_of_lt (by lia) c] at z;lia
    · have e:(one+1+(n / 12) % (things - 1)) % things=(one+1+(n / 12) % (things - 1) - things) % things:=by rw [Int.sub_emod_right]
      rw [e,Int.emod_eq_of_lt (by lia) (by lia)] at z;lia
  obtain⟨t,b,c1,c2,c3,c4,c5,c6⟩:=mv m odds m0
  obtain⟨w,w1,w2,w3⟩:=uP (m / 10007) ws
  have b12:Bt 8000 12:=eQ (by decide) (by decide)
  have b107:Bt 8000 10007:=eQ (by decide) (by decide)
  have g1:∀(e:En) (i:Int),aO e (.d (.int i)) (.d (.int things))=some (.d (.int (i % things))):=fun e i=>az tp
  have g2:∀(e:En) (i:Int),aO e (.d (.int i)) (.d (.int (things - 1)))=some (.d (.int (i % (things - 1)))):=fun e i=>az tq
  have hlen:ts.length < 1000000:=by lia
  by_cases c:shape=4
  · subst c
    refine⟨tE d2 things many 4 odds ws (ts++[⟨0,1,t,b,w⟩]) (some (.d (.int k))) (some (.d (.int n))) (some (.d (.int 0))) (some (.d (.int 1))) (some (.d (.int m))) (some (.d (.tuple [.int 0,.int 1]))),?_,.mk hd2 ⟨by show(0:Int)≤0;decide,by show(0:Int) < 1;decide,by show(1:Int) < things;lia,c2,c3,c4,c5,w2,w3,c6⟩⟩
    simp? [tE,d_,tn,tm,az,g1,g2,ck,b12,b107,ha,c1,w1,mV,aM,hlen]
    decide
  · refine⟨tE d2 things many shape odds ws (ts++[⟨min one ((one+1+(n / 12) % (things - 1)) % things),max one ((one+1+(n / 12) % (things - 1)) % things),t,b,w⟩]) (some (.d (.int k))) (some (.d (.int n))) (some (.d (.int one))) (some (.d (.int ((one+1+(n / 12) % (things - 1)) % things)))) (some (.d (.int m))) (some (.d (.tuple [.int (min one ((one+1+(n / 12) % (things - 1)) % things)),.int (max one ((one+1+(n / 12) % (things - 1)) % things))]))),?_,.mk hd2 ⟨by show 0≤min _ _;lia,by show min _ _ < max _ _;lia,by show max _ _ < _;lia,c2,c3,c4,c5,w2,w3,c6⟩⟩
    simp? [tE,d_,tn,tm,az,g1,g2,ck,b12,b107,ha,c1,w1,mV,aM,hlen,c]
theorem yk(ds:List Int)(things many:Int)(hd:eK ds)(h2:2≤things)(h12:things≤100)(m0:0≤many)(m1:many≤1000):∃(ts:List dC) (ds':List Int),i7 [.l (ds.map .int),.d (.int things),.d (.int many)]=some (.d (.tuple (ts.map aM)),[.l (ds'.map .int),.d (.int things),.d (.int many)])∧eK ds'∧(ts.length:Int)=many∧∀t∈ts,t.Ok things:=by
  obtain⟨n0,d1,t0, -, -,hd1⟩:=e_ hd
  obtain⟨n1,d2,t1, -, -,hd2⟩:=e_ hd1
  obtain⟨n2,d3,t2, -, -,hd3⟩:=e_ hd2
  obtain⟨e',h1,hI⟩:=bU (own:=[]) (g:=ah 7) (f:=d_) (TI things many (n0 % 6) (n1 % 4) (n2 % 4)) (aL 0 many.toNat) 0 (tE d3 things many (n0 % 6) (n1 % 4) (n2 % 4) [] none none none none none none) (fun i x e hx hI=>by
    obtain⟨rfl,hi⟩:=dw hx
    obtain⟨hd',hl,ht⟩:=hI
    rename_i ts ds' w7 w8 w9 w10 w11 w12
    obtain⟨e9,s1,⟨s2,s3⟩⟩:=zZ ds' things many (n0 % 6) (n1 % 4) (n2 % 4) ts (0+(i:Int)) w8 w9 w10 w11 w12 hd' h2 h12 (pT (by decide)) (pU (by decide)) (by lia) (by lia)
    exact⟨_,_,rfl,s1,bw,.mk s2 (by simp;lia) fun z hz=>by
      rcases List.mem_append.mp hz with hz | hz
      · exact ht z hz
      · simp at hz;subst hz;exact s3⟩) (.mk hd3 rfl fun t ht=>by cases ht)
  obtain⟨hd',hl,ht⟩:=hI
  rename_i ts ds' w7 w8 w9 w10 w11 w12
  refine⟨ts,ds',?_,hd',by rw [hl,be];lia,ht⟩
  have hf:∀W,dc W iZ (ah 7) d_ (tE d3 things many (n0 % 6) (n1 % 4) (n2 % 4) [] none none none none none none)=some (.nx (tE ds' things many (n0 % 6) (n1 % 4) (n2 % 4) ts w7 w8 w9 w10 w11 w12)):=fun W=>by
    rw [de (show iZ _=some (aL 0 many.toNat,[],tE d3 things many (n0 % 6) (n1 % 4) (n2 % 4) [] none none none none none none) from ce (n:=many) (by simp? [tE]) (by lia) (by lia))]
    exact h1
  unfold tE at hf
  simp only [List.map_nil] at hf
  simp? [i7,p8,t0,t1,t2,az,hf]
abbrev wE(ds:List Int)(most tn things many:Int)(ts:List dC)(way:Int)(ps:List Int)(v8 v9:Option Sv):En:=[some (.l (ds.map .int)),some (.d (.int most)),some (.d (.int tn)),some (.d (.int things)),some (.d (.int many)),some (.d (.tuple (ts.map aM))),some (.d (.int way)),some (.l (ps.map .int)),v8,v9]
inductive WI (most tn things many:Int) (ts:List dC) (way:Int) (i:Nat):En→Prop
  | mk {ps ds w8} (hd:eK ds) (hpl:ps.length=i) (hps:∀p∈ps,0≤p∧p≤20):WI most tn things many ts way i (wE ds most tn things many ts way ps w8 none)
theorem z0(ds:List Int)(most tn:Int)(hd:eK ds)(m0:0≤most)(m1:most≤12)(k0:0≤tn)(k1:tn≤16):∃(W:bu) (ds':List Int),lP [.l (ds.map .int),.d (.int most),.d (.int tn)]=some (.d (aU W),[.l (ds'.map .int),.d (.int most),.d (.int tn)])∧eK ds'∧W.Ok∧W.things≤most∧(W.ties.length:Int)≤tn:=by
  obtain⟨n0,d1,t0, -, -,hd1⟩:=e_ hd
  obtain⟨n1,d2,t1, -, -,hd2⟩:=e_ hd1
  have mp:0 < most+1:=Int.lt_add_one_of_le m0
  have kp:0 < tn+1:=Int.lt_add_one_of_le k0
  have g0:∀(e:En),aO e (.d (.int n0)) (.d (.int (most+1)))=some (.d (.int (n0 % (most+1)))):=fun e=>az mp
  have g1':∀(e:En),aO e (.d (.int n1)) (.d (.int (tn+1)))=some (.d (.int (n1 % (tn+1)))):=fun e=>az kp
  have th0:0≤n0 % (most+1):=pT mp
  have th1:n0 % (most+1) < most+1:=pU mp
  have ti0:0≤n1 % (tn+1):=pT kp
  have ti1:n1 % (tn+1) < tn+1:=pU kp
  clear mp kp
  generalize n0 % (most+1)=things at th0 th1 g0
  generalize n1 % (tn+1)=tm at ti0 ti1 g1'
  obtain⟨many,hmany,mm,m00,m01⟩:∃many:Int,many=tm*(if decide (1 < things)=true then 1 else 0)∧(1 < things∨many=0)∧0≤many∧many≤tn:=by
    by_cases c:1 < things
    · exact⟨tm,by simp [c],.inl c,ti0,by lia⟩
    · exact⟨0,by simp [c],.inr rfl,by lia,by lia⟩
  have gm:∀e:En,fK e (.d (.int tm)) (.d (.int (if decide (1 < things)=true then 1 else 0)))=some (.d (.int many)):=fun e=>by
    rw [iY (kT (by split<;>decide) (by split<;>decide)),hmany]
  have gi:∀e:En,g1 oZ e [.d (.bool (decide (1 < things)))]=some (.d (.int (if decide (1 < things)=true then 1 else 0))):=fun e=>rfl
  generalize (if decide (1 < things)=true then 1 else 0:Int)=one at gm gi
  obtain⟨ts,d3,t3,hd3,hlen,hts⟩:=yk d2 (max 2 things) many hd2 (by lia) (by lia) m00 (by lia)
  obtain⟨n4,d4,t4, -, -,hd4⟩:=e_ hd3
  obtain⟨e',h1,hI⟩:=bU (own:=[]) (g:=ah 8) (f:=iG) (WI most tn things many ts (n4 % 3)) (aL 0 things.toNat) 0 (wE d4 most tn things many ts (n4 % 3) [] none none) (fun i x e hx hI=>by
    obtain⟨rfl,hi⟩:=dw hx
    obtain⟨hd5,hpl,hps⟩:=hI
    rename_i ps d5 w8
    obtain⟨p1,d6,t6, -, -,hd6⟩:=e_ hd5
    obtain⟨p2,d7,t7, -, -,hd7⟩:=e_ hd6
    obtain⟨z,hz,ha⟩:=gU (xs:=[PyData.int 20,.int (1+p1 % 3),.int (p2 % 21)]) (i:=n4 % 3) (pT (by decide)) (pU (k:=3) (by decide))
    obtain⟨p,rfl,hp⟩:∃r,z=.int r∧0≤r∧r≤20:=by
      simp only [List.mem_cons,List.not_mem_nil,or_false] at hz
      rcases hz with rfl | rfl | rfl<;>exact⟨_,rfl,by lia,by lia⟩
    refine⟨wE d5 most tn things many ts (n4 % 3) ps (some (.d (.int (0+(i:Int))))) none,wE d7 most tn things many ts (n4 % 3) (ps++[p]) (some (.d (.int (0+(i:Int))))) none,rfl,?_,bw,.mk hd7 (by simp;lia) fun q hq=>by
      rcases List.mem_append.mp hq with hq | hq
      · exact hps q hq
      · simp at hq;subst hq;exact hp⟩
    have hlen:ps.length < 1000000:=by lia
    simp? [wE,iG,t6,t7,az,ha,hlen]) (.mk hd4 rfl fun p hp=>by cases hp)
  obtain⟨hd5,hpl,hps⟩:=hI
  rename_i ps d5 w8
  have hf:∀W,dc W kQ (ah 8) iG (wE d4 most tn things many ts (n4 % 3) [] none none)=some (.nx (wE d5 most tn things many ts (n4 % 3) ps w8 none)):=fun W=>by
    rw [de (show kQ _=some (aL 0 things.toNat,[],wE d4 most tn things many ts (n4 % 3) [] none none) from ce (n:=things) (by simp? [wE]) (by lia) (by lia))]
    exact h1
  obtain⟨p1,d6,t6, -, -,hd6⟩:=e_ hd5
  obtain⟨p2,d7,t7, -, -,hd7⟩:=e_ hd6
  obtain⟨p3,d8,t8, -, -,hd8⟩:=e_ hd7
  have xp:0 < max 1 many:=Int.lt_of_lt_of_le Int.zero_lt_one (Int.le_max_left _ _)
  have gx:∀(e:En),aO e (.d (.int p1)) (.d (.int (max 1 many)))=some (.d (.int (p1 % max 1 many))):=fun e=>az xp
  have x0:0≤p1 % max 1 many:=pT xp
  have x1:p1 % max 1 many < max 1 many:=pU xp
  obtain⟨z,hz,ha⟩:=gU (xs:=[PyData.int 40,.int (1+p1 % max 1 many),.int (p2 % 41)]) (i:=p3 % 3) (pT (by decide)) (pU (k:=3) (by decide))
  obtain⟨asks,rfl,hasks⟩:∃r,z=.int r∧0≤r∧r≤40:=by
    simp only [List.mem_cons,List.not_mem_nil,or_false] at hz
    rcases hz with rfl | rfl | rfl<;>exact⟨_,rfl,by lia,by lia⟩
  rw [be] at hpl
  refine⟨⟨things,ts,ps,asks⟩,d8,?_,hd8,⟨th0,by show things≤12;lia,fun t ht=>?_,by show ts.length≤16;lia,by show(ps.length:Int)=things;lia,hps,hasks.1,hasks.2⟩,by show things≤most;lia,by show(ts.length:Int)≤tn;lia⟩
  · unfold wE at hf
    simp only [List.map_nil] at hf
    simp? [lP,vd,t0,t1,g0,g1',gm,gi,t3,t4,az,hf,t6,t7,t8,gx,ha,aU]
  · rcases mm with c | c
    · have:=hts t ht
      rw [show max 2 things=things by lia] at this
      exact this
    · have:ts=[]:=List.length_eq_zero_iff.mp (by lia)
      subst this;cases ht
theorem yj(a b:Bool):i6 [.d (.bool a),.d (.bool b)]=some (.d (.bool (a==b)),[.d (.bool a),.d (.bool b)]):=by
  have gi:∀(e:En) (x y:Bool),y1 e (.d (.bool x)) (.d (.bool y))=some (.d (.bool (x==y))):=fun e x y=>rfl
  cases a<;>cases b<;>simp? [i6,p7,gi]
theorem BH{W:bu}(e:En):cT e (.d (aU W)) (.d (.int 0))=some (.d (.int W.things)):=by rw [eR,jZ,ku];rfl
theorem Ah{W:bu}(e:En):cT e (.d (aU W)) (.d (.int 1))=some (.d (.tuple (W.ties.map aM))):=by rw [eR,jZ,mM];rfl
theorem BI{W:bu}(e:En):cT e (.d (aU W)) (.d (.int 2))=some (.d (.tuple (W.pat.map .int))):=by rw [eR,jZ,mN];rfl
theorem BJ{W:bu}(e:En):cT e (.d (aU W)) (.d (.int 3))=some (.d (.int W.asks)):=by rw [eR,jZ,mO];rfl
def yl:PyData→En
  | .tuple [a,b]=>[some (.d a),some (.d b)]
  | _=>[]
theorem z9{cs:En}{i j:Nat}(hi:i=cs.length)(hj:j=cs.length+1){x a b:PyData}(hx:x=.tuple [a,b])(t:En)(ht:t.length=2):bB (aw (ah i) (aw (ah j) bj)) x (cs++t)=some (cs++yl x):=by
  subst hx hi hj
  match t,ht with
  | [p,q],_=>simp [bB,aw,ah,bj,yl]
def mX:PyData→Int
  | .int i=>i
  | _=>0
theorem rW{n:Nat}{x:Int}(h:x∈jf n):0≤x∧x < (n:Int):=by
  unfold jf at h
  obtain⟨i,hi,rfl⟩:=List.mem_map.mp h
  have:=List.mem_range.mp hi
  have e:(Int.ofNat i)=(i:Int):=rfl
  simp only [e]
  lia
theorem uE(n:Nat):(jf n).Nodup:=by
  unfold jf
  exact List.pairwise_map.mpr (List.Pairwise.imp (fun h e=>by have:_=_:=e;simp at this;lia) List.nodup_range)
def yy(W:bu)(a b:Int):Bool:=(W.tie a).top==(W.tie b).top&&(W.tie a).bot==(W.tie b).bot
theorem lL(ns:List Int):(ns.map PyData.int).map mX=ns:=by
  rw [List.map_map]
  exact List.map_id' ns
def kO(gss:List (List Int)):List Int:=gss.map (·.headD 0)
theorem uF(ns:List Int):SeqAt.shaped (.list (ns.map .int))=true:=(Sh.list (n:=2) fun d hd=>by
  obtain⟨x,_,rfl⟩:=List.mem_map.mp hd
  exact Sh.int).ok (by decide)
def gS(W:bu)(ts:List dC):bu:=⟨W.things,ts,W.pat,W.asks⟩
structure GS (W:bu) (ts:List dC) (gss:List (List Int)):Prop where
  ne:∀g∈gss,g≠[]
  pw:∀g∈gss,g.Pairwise (· < ·)
  inr:∀g∈gss,∀k∈g,0≤k∧k < (ts.length:Int)
  nd:gss.flatten.Nodup
  len:gss.flatten.length=ts.length
  fs:(kO gss).Pairwise (· ≤·)
  ch:∀g∈gss,∀k∈g,yy (gS W ts) k (g.headD 0)=true
theorem gv{g:List Int}(h:g≠[]):g.headD 0∈g:=by
  cases g with
  | nil=>exact absurd rfl h
  | cons x r=>simp
theorem oO{W:bu}{ts:List dC}{t:dC}{k:Int}(h0:0≤k)(h1:k < (ts.length:Int)):(gS W (ts++[t])).tie k=(gS W ts).tie k:=by
  unfold bu.tie gS
  rw [List.getD_eq_getElem?_getD,List.getD_eq_getElem?_getD]
  show((ts++[t])[k.toNat]?).getD default=(ts[k.toNat]?).getD default
  rw [List.getElem?_append_left (by lia)]
theorem uQ{W:bu}{ts:List dC}{t:dC}:(gS W (ts++[t])).tie (ts.length:Int)=t:=by
  unfold bu.tie gS
  rw [List.getD_eq_getElem?_getD]
  show((ts++[t])[((ts.length:Int)).toNat]?).getD default=t
  rw [Int.toNat_natCast]
  simp
theorem kB{W:bu}{ts:List dC}{t:dC}{a b:Int}(h0:0≤a∧a < (ts.length:Int))(h1:0≤b∧b < (ts.length:Int)):yy (gS W (ts++[t])) a b=yy (gS W ts) a b:=by
  unfold yy
  rw [oO h0.1 h0.2,oO h1.1 h1.2]
theorem iI:∀{gss:List (List Int)},(∀g∈gss,g≠[])→gss.length≤gss.flatten.length
  | [],_=>Nat.le_refl _
  | g::r,h=>by
    have:=iI (gss:=r) fun x hx=>h x (by simp [hx])
    have:=List.length_pos_iff.mpr (h g (by simp))
    simp only [List.length_cons,List.flatten_cons,List.length_append]
    lia
theorem lx{x:Int}:∀{gss:List (List Int)} {j:Nat} {g:List Int},gss[j]?=some g→(gss.set j (g++[x])).flatten.Perm (gss.flatten++[x])
  | [],_,_,h=>by simp at h
  | h::r,0,g,e=>by
    simp at e
    subst e
    rw [List.set_cons_zero,List.flatten_cons,List.flatten_cons,List.append_assoc,List.append_assoc]
    exact(List.perm_append_comm).append_left h
  | h::r,j+1,g,e=>by
    rw [List.set_cons_succ,List.flatten_cons,List.flatten_cons,List.append_assoc]
    exact(lx (by simpa using e)).append_left h
theorem nU{x:Int}:∀{gss:List (List Int)} {j:Nat} {g:List Int},gss[j]?=some g→g≠[]→kO (gss.set j (g++[x]))=kO gss
  | [],_,_,h,_=>by simp at h
  | h::r,0,g,e,n=>by
    simp at e
    subst e
    cases h with
    | nil=>exact absurd rfl n
    | cons a b=>rfl
  | h::r,j+1,g,e,n=>by
    show h.headD 0::kO (r.set j (g++[x]))=h.headD 0::kO r
    rw [nU (by simpa using e) n]
theorem GS.new{W:bu}{ts:List dC}{gss:List (List Int)}(h:GS W ts gss)(t:dC):GS W (ts++[t]) (gss++[[(ts.length:Int)]]):=by
  have l1:((ts++[t]).length:Int)=(ts.length:Int)+1:=by simp
  have fl:(gss++[[(ts.length:Int)]]).flatten=gss.flatten++[(ts.length:Int)]:=by simp
  refine⟨fun g hg=>?_,fun g hg=>?_,fun g hg k hk=>?_,?_,?_,?_,fun g hg k hk=>?_⟩
  · rcases List.mem_append.mp hg with hg | hg
    · exact h.ne g hg
    · simp at hg;subst hg;simp
  · rcases List.mem_append.mp hg with hg | hg
    · exact h.pw g hg
    · simp at hg;subst hg;simp
  · rw [l1]
    rcases List.mem_append.mp hg with hg | hg
    · have:=h.inr g hg k hk;lia
    · simp at hg;subst hg;simp at hk;subst hk;lia
  · rw [fl,List.nodup_append]
    refine⟨h.nd,by simp,fun a ha b hb e=>?_⟩
    simp at hb
    obtain⟨g,h1,h2⟩:=List.mem_flatten.mp ha
    have:=h.inr g h1 a h2
    lia
  · rw [fl,List.length_append,h.len,List.length_append];rfl
  · rw [show kO (gss++[[(ts.length:Int)]])=kO gss++[(ts.length:Int)] by simp [kO],List.pairwise_append]
    refine⟨h.fs,by simp,fun a ha b hb=>?_⟩
    simp at hb
    obtain⟨g,h1,rfl⟩:=List.mem_map.mp ha
    have:=h.inr g h1 _ (gv (h.ne g h1))
    lia
  · rcases List.mem_append.mp hg with hg | hg
    · rw [kB (h.inr g hg k hk) (h.inr g hg _ (gv (h.ne g hg)))]
      exact h.ch g hg k hk
    · simp at hg;subst hg;simp at hk;subst hk
      simp [yy]
theorem GS.add{W:bu}{ts:List dC}{gss:List (List Int)}(h:GS W ts gss){t:dC}{j:Nat}{g:List Int}(hj:gss[j]?=some g)(hc:((gS W (ts++[t])).tie (g.headD 0)).top=t.top∧((gS W (ts++[t])).tie (g.headD 0)).bot=t.bot):GS W (ts++[t]) (gss.set j (g++[(ts.length:Int)])):=by
  have l1:((ts++[t]).length:Int)=(ts.length:Int)+1:=by simp
  have hg0:=List.mem_of_getElem? hj
  have hn:=h.ne g hg0
  have fl:=lx (x:=(ts.length:Int)) hj
  have hd:(g++[(ts.length:Int)]).headD 0=g.headD 0:=by
    cases g with
    | nil=>exact absurd rfl hn
    | cons a b=>rfl
  have hh:=h.inr g hg0 _ (gv hn)
  refine⟨fun g' hg=>?_,fun g' hg=>?_,fun g' hg k hk=>?_,?_,?_,?_,fun g' hg k hk=>?_⟩
  · rcases List.mem_or_eq_of_mem_set hg with hg | rfl
    · exact h.ne g' hg
    · simp
  · rcases List.mem_or_eq_of_mem_set hg with hg | rfl
    · exact h.pw g' hg
    · rw [List.pairwise_append]
      refine⟨h.pw g hg0,by simp,fun a ha b hb=>?_⟩
      simp at hb
      have:=h.inr g hg0 a ha
      lia
  · rw [l1]
    rcases List.mem_or_eq_of_mem_set hg with hg | rfl
    · have:=h.inr g' hg k hk;lia
    · rcases List.mem_append.mp hk with hk | hk
      · have:=h.inr g hg0 k hk;lia
      · simp at hk;lia
  · rw [fl.nodup_iff,List.nodup_append]
    refine⟨h.nd,by simp,fun a ha b hb e=>?_⟩
    simp at hb
    obtain⟨g,h1,h2⟩:=List.mem_flatten.mp ha
    have:=h.inr g h1 a h2
    lia
  · rw [fl.length_eq,List.length_append,h.len,List.length_append];rfl
  · rw [nU hj hn];exact h.fs
  · rcases List.mem_or_eq_of_mem_set hg with hg | rfl
    · rw [kB (h.inr g' hg k hk) (h.inr g' hg _ (gv (h.ne g' hg)))]
      exact h.ch g' hg k hk
    · rw [hd]
      rcases List.mem_append.mp hk with hk | hk
      · rw [kB (h.inr g hg0 k hk) hh]
        exact h.ch g hg0 k hk
      · simp at hk
        subst hk
        unfold yy
        rw [uQ,hc.1,hc.2]
        simp
abbrev fN(ds:List Int)(W:bu)(so:List PyData)(ts:List dC)(gss:List (List Int))(v5 v6 v7 v8 v9:Option Sv):En:=[some (.l (ds.map .int)),some (.d (aU W)),some (.l so),some (.l (ts.map aM)),some (.n (gss.map fun g=>g.map .int)),v5,v6,v7,v8,v9]
def m7(g:List Int):PyData:=.list (g.map .int)
def za:PyData→Int
  | .tuple [.int j,_]=>j
  | _=>0
def yx(W:bu)(a b:Int):PyData→Bool
  | .tuple [_,.list gl]=>(W.tie ((gl.map mX).headD 0)).top==a&&(W.tie ((gl.map mX).headD 0)).bot==b
  | _=>false
theorem oX{ts:List dC}:aS (ts.map aM)=true:=by
  induction ts with
  | nil=>rfl
  | cons t r ih=>
    rw [List.map_cons]
    simp only [aS,ih,Bool.and_true]
    unfold aM
    simp [bi,aS]
theorem uL{W:bu}{a b:Int}{ds:List Int}{so:List PyData}{ts:List dC}{gss:List (List Int)}{v5 v6 v7 v9:Option Sv}(hn:∀g∈gss,g≠[])(hk:∀g∈gss,∀k∈g,0≤k∧k < (ts.length:Int))(hl:gss.length≤100)(fso:aS so=true)(f5:∀s,v5=some s→eT s=true)(f6:∀s,v6=some s→eT s=true)(f7:∀s,v7=some s→eT s=true):
    ∃al:List Int,kb 4 (a9 9 (bY [(8,"_law_own"),(3,"_law_ties_here")] 2 cm (bB (aw (ah 2) (aw (ah 3) bj))) bF cN)) (fN ds W so ts gss v5 v6 v7 (some (.d (.tuple [.int a,.int b]))) v9)=some (.nx (fN ds W so ts gss v5 v6 v7 (some (.d (.tuple [.int a,.int b]))) (some (.l (al.map .int)))))∧al.length≤gss.length∧
      ∀k∈al,∃(j:Nat) (g:List Int),k=(j:Int)∧gss[j]?=some g∧((gS W ts).tie (g.headD 0)).top=a∧((gS W ts).tie (g.headD 0)).bot=b:=by
  have em:∀x∈cx 0 (gss.map m7),∃(j:Nat) (g:List Int),x=.tuple [.int (j:Int),.list (g.map .int)]∧gss[j]?=some g:=fun x hx=>by
    obtain⟨j,hj⟩:=List.getElem?_of_mem hx
    rw [ed,List.getElem?_map] at hj
    obtain⟨y,h1,h2⟩:=Option.map_eq_some_iff.mp hj
    obtain⟨g,h3,h4⟩:=Option.map_eq_some_iff.mp h1
    refine⟨j,g,?_,h3⟩
    rw [←h2,←h4,Nat.zero_add]
    rfl
  obtain⟨t',lt',hf⟩:=fU (cs:=[some (.d (.tuple [.int a,.int b])),some (.l (ts.map aM))]) (g:=bB (aw (ah 2) (aw (ah 3) bj))) (ft:=bF) (fe:=cN) (b:=yx (gS W ts) a b) (y:=fun x=>.int (za x)) (u:=yl) 2 (cx 0 (gss.map m7)) [none,none] [] rfl (fun x hx t ht=>by
      obtain⟨j,g,rfl,_⟩:=em x hx
      exact z9 (cs:=[some (.d (.tuple [.int a,.int b])),some (.l (ts.map aM))]) rfl rfl rfl t ht) (fun x hx=>by
      obtain⟨j,g,rfl,_⟩:=em x hx
      rfl) (fun x hx=>by
      obtain⟨j,g,rfl,hg⟩:=em x hx
      have gm:=List.mem_of_getElem? hg
      have iv:=lL g
      have hh:=hk g gm _ (gv (hn g gm))
      have i1:=p5 (W:=gS W ts) (k:=g.headD 0) hh
      rw [show(gS W ts).ties=ts from rfl] at i1
      have i3:atI (g.map PyData.int) 0=some (.int (g.headD 0)):=by
        have:=hn g gm
        cases g with
        | nil=>exact absurd rfl this
        | cons x r=>rw [List.map_cons];exact ku
      have ge:=fun e=>ql (e:=e) (a:=((gS W ts).tie (g.headD 0)).top) (b:=((gS W ts).tie (g.headD 0)).bot) (c:=a) (d:=b)
      show bF [some (.d (.tuple [.int a,.int b])),some (.l (ts.map aM)),some (.d (.int (j:Int))),some (.d (.list (g.map .int)))]=some (((gS W ts).tie (((g.map PyData.int).map mX).headD 0)).top==a&&((gS W ts).tie (((g.map PyData.int).map mX).headD 0)).bot==b,[some (.d (.tuple [.int a,.int b])),some (.l (ts.map aM)),some (.d (.int (j:Int))),some (.d (.list (g.map .int)))])
      rw [iv]
      clear iv
      generalize g.map PyData.int=GG at*
      generalize ts.map aM=TT at*
      unfold aM at i1
      generalize g.headD 0=h0 at*
      simp? [bF,i1,i3,ge]) (fun x hx _=>by
      obtain⟨j,g,rfl,_⟩:=em x hx
      rfl) (by simp [dh];lia)
  have hi:cm ((fN ds W so ts gss v5 v6 v7 (some (.d (.tuple [.int a,.int b]))) v9).set 4 (some (.d (.list (gss.map m7)))))=some (cx 0 (gss.map m7),[],(fN ds W so ts gss v5 v6 v7 (some (.d (.tuple [.int a,.int b]))) v9).set 4 (some (.d (.list (gss.map m7))))):=by
    generalize gss.map m7=LL at*
    simp? [cm,j1,pK]
  have hv:=jw (cp:=[(8,"_law_own"),(3,"_law_ties_here")]) (nT:=2) (fi:=cm) (g:=bB (aw (ah 2) (aw (ah 3) bj))) (ft:=bF) (fe:=cN) (cs:=[some (.d (.tuple [.int a,.int b])),some (.l (ts.map aM))]) (t:=[none,none]) (t':=t') hi rfl rfl hf
  refine⟨((cx 0 (gss.map m7)).filter (yx (gS W ts) a b)).map za,?_,?_,fun k hk'=>?_⟩
  · have eo:[]++((cx 0 (gss.map m7)).filter (yx (gS W ts) a b)).map (fun x=>PyData.int (za x))=(((cx 0 (gss.map m7)).filter (yx (gS W ts) a b)).map za).map .int:=by
      rw [List.nil_append,List.map_map];rfl
    rw [eo] at hv
    generalize ((cx 0 (gss.map m7)).filter (yx (gS W ts) a b)).map za=al at*
    have fb:∀o:Option Sv,(∀s,o=some s→eT s=true)→(match o with | some s=>eT s | none=>true)=true:=fun o h=>by
      cases o with
      | none=>rfl
      | some s=>exact h s rfl
    have xm:(gss.map fun g=>g.map PyData.int).map PyData.list=gss.map m7:=by rw [List.map_map];rfl
    unfold kb
    rw [show dr (fN ds W so ts gss v5 v6 v7 (some (.d (.tuple [.int a,.int b]))) v9) 4=some (gss.map fun g=>g.map .int) from rfl,Option.bind_some,xm]
    unfold a9
    rw [hv]
    have fl:eC 4 (((fN ds W so ts gss v5 v6 v7 (some (.d (.tuple [.int a,.int b]))) v9).set 4 (some (.d (.list (gss.map m7))))).set 9 (some (.l (al.map .int))))=true:=by
      have q5:=fb v5 f5;have q6:=fb v6 f6;have q7:=fb v7 f7
      simp [eC,eT,iU,qh,fso,oX,bi,aS]
      exact⟨q5,q6,q7⟩
    rw [Option.bind_some,show(rD 9 (Rv.l (al.map .int),(fN ds W so ts gss v5 v6 v7 (some (.d (.tuple [.int a,.int b]))) v9).set 4 (some (.d (.list (gss.map m7))))).1 (Rv.l (al.map .int),(fN ds W so ts gss v5 v6 v7 (some (.d (.tuple [.int a,.int b]))) v9).set 4 (some (.d (.list (gss.map m7))))).2).map Fl.nx=some (.nx (((fN ds W so ts gss v5 v6 v7 (some (.d (.tuple [.int a,.int b]))) v9).set 4 (some (.d (.list (gss.map m7))))).set 9 (some (.l (al.map .int))))) from rfl,Option.bind_some]
    dsimp only
    rw [if_pos fl]
    rfl
  · rw [List.length_map]
    refine Nat.le_trans (List.length_filter_le _ _) ?_
    rw [dh,List.length_map]
    exact Nat.le_refl _
  · obtain⟨x,h1,rfl⟩:=List.mem_map.mp hk'
    obtain⟨h2,h3⟩:=List.mem_filter.mp h1
    obtain⟨j,g,rfl,hg⟩:=em x h2
    simp only [yx,lL,Bool.and_eq_true,beq_iff_eq] at h3
    exact⟨j,g,rfl,hg,h3.1,h3.2⟩
theorem s_{W:bu}(ok:W.Ok){a0 b0 a1 b1:Int}(h0:iP a0 b0)(h1:iP a1 b1){ds:List Int}(hd:eK ds){ts:List dC}{gss:List (List Int)}(hG:GS W ts gss)(hts:ts.length≤16){t:dC}(hto:t.Ok W.things){v7 v8 v9:Option Sv}:
    ∃ds' t' gss' w7 w8 w9,ci (fN ds W [.tuple [.int a0,.int b0],.tuple [.int a1,.int b1]] ts gss (some (.d (.int (ts.length:Int)))) (some (.d (aM t))) v7 v8 v9)=some (.nx (fN ds' W [.tuple [.int a0,.int b0],.tuple [.int a1,.int b1]] (ts++[t']) gss' (some (.d (.int (ts.length:Int)))) (some (.d (aM t))) w7 w8 w9))∧eK ds'∧GS W (ts++[t']) gss'∧t'.Ok W.things:=by
  obtain⟨n,d1,t1,n0,n1,hd1⟩:=e_ hd
  have q4:∀e:En,aO e (.d (.int n)) (.d (.int 4))=some (.d (.int (n % 4))):=fun e=>az (by decide)
  obtain⟨z,hz,ha⟩:=gU (xs:=[PyData.tuple [.int a0,.int b0],.tuple [.int a1,.int b1],.tuple [.int a0,.int b0],.tuple [.int t.top,.int t.bot]]) (i:=n % 4) (pT (by decide)) (pU (k:=4) (by decide))
  obtain⟨a,b,rfl,hc⟩:∃a b,z=.tuple [.int a,.int b]∧iP a b:=by
    simp only [List.mem_cons,List.not_mem_nil,or_false] at hz
    rcases hz with rfl | rfl | rfl | rfl
    · exact⟨_,_,rfl,h0⟩
    · exact⟨_,_,rfl,h1⟩
    · exact⟨_,_,rfl,h0⟩
    · exact⟨_,_,rfl,hto.c0,hto.c1,hto.b0,hto.b1,hto.cop⟩
  obtain⟨c0,c1,c2,c3,c4⟩:=hc
  have gl:=iI hG.ne
  have glen:=hG.len
  obtain⟨t',rfl⟩:∃t':dC,t'=⟨t.one,t.other,a,b,t.worth⟩:=⟨_,rfl⟩
  have hto':dC.Ok W.things ⟨t.one,t.other,a,b,t.worth⟩:=⟨hto.o0,hto.o1,hto.o2,c0,c1,c2,c3,hto.w0,hto.w1,c4⟩
  have hn:=hG.ne
  have hk:∀g∈gss,∀k∈g,0≤k∧k < ((ts++[(⟨t.one,t.other,a,b,t.worth⟩:dC)]).length:Int):=fun g hg k hk=>by
    have:=hG.inr g hg k hk
    simp
    lia
  obtain⟨al,hal,hall,hin⟩:=uL (W:=W) (a:=a) (b:=b) (ds:=d1) (so:=[.tuple [.int a0,.int b0],.tuple [.int a1,.int b1]]) (ts:=ts++[⟨t.one,t.other,a,b,t.worth⟩]) (gss:=gss) (v5:=some (.d (.int (ts.length:Int)))) (v6:=some (.d (aM t))) (v7:=some (.d (.int n))) (v9:=v9) hn hk (by lia) (by simp [aS,bi]) (fun s e=>by cases e;rfl) (fun s e=>by cases e;unfold aM;simp [eT,bi,aS]) (fun s e=>by cases e;rfl)
  have f4:∀e:En,cj e (.d (.int n)) (.d (.int 4))=some (.d (.int (n / 4))):=fun e=>ck (by decide) (eQ (by decide) (by decide))
  have f12:∀e:En,cj e (.d (.int n)) (.d (.int 12))=some (.d (.int (n / 12))):=fun e=>ck (by decide) (eQ (by decide) (by decide))
  have m3:∀e:En,aO e (.d (.int (n / 4))) (.d (.int 3))=some (.d (.int (n / 4 % 3))):=fun e=>az (by decide)
  have cu:L2.cutD [PyData.int t.one,.int t.other,.tuple [.int t.top,.int t.bot],.int t.worth] none (some 2)=[.int t.one,.int t.other]:=rfl
  have gad:∀e:En,cy e (.d (.tuple [.int t.one,.int t.other])) (.d (.tuple [.tuple [.int a,.int b],.int t.worth]))=some (.d (.tuple [.int t.one,.int t.other,.tuple [.int a,.int b],.int t.worth])):=fun e=>mV (by simp)
  have lt:(ts.map aM).length < 1000000:=by rw [List.length_map];lia
  have eap:(ts++[(⟨t.one,t.other,a,b,t.worth⟩:dC)]).map aM=ts.map aM++[.tuple [.int t.one,.int t.other,.tuple [.int a,.int b],.int t.worth]]:=by
    rw [List.map_append];rfl
  have h4:∀g:FS,aH (a9 7 (dX 1 aV (ab (af 0) aj)))
    (aH (a9 8 (ax cT (dU (ab (ax cT (af 2) (vC (.int 0))) (ab (ax cT (af 2) (vC (.int 1))) (ab (ax cT (af 2) (vC (.int 0))) (ab (ax cT (af 6) (vC (.int 2))) aj))))) (ax aO (af 7) (vC (.int 4)))))
    (aH (eg (cX bM (af 3) (ab (ax cy (yq (af 6) lX (j_ (vC (.int 2)))) (dz (ab (af 8) (ab (ax cT (af 6) (vC (.int 3))) aj)))) aj)))
    (aH (kb 4 (a9 9 (bY [(8,"_law_own"),(3,"_law_ties_here")] 2 cm (bB (aw (ah 2) (aw (ah 3) bj))) bF cN))) g))) (fN ds W [.tuple [.int a0,.int b0],.tuple [.int a1,.int b1]] ts gss (some (.d (.int (ts.length:Int)))) (some (.d (aM t))) v7 v8 v9)=g (fN d1 W [.tuple [.int a0,.int b0],.tuple [.int a1,.int b1]] (ts++[⟨t.one,t.other,a,b,t.worth⟩]) gss (some (.d (.int (ts.length:Int)))) (some (.d (aM t))) (some (.d (.int n))) (some (.d (.tuple [.int a,.int b]))) (some (.l (al.map .int)))):=fun g=>by
    unfold fN at hal ⊢
    rw [eap] at hal ⊢
    generalize (gss.map fun g=>g.map PyData.int)=GG at*
    generalize al.map PyData.int=AL at*
    clear eap hin hk
    generalize hTT:ts.map aM=TT at*
    clear hTT
    generalize aU W=WW at*
    unfold aM at hal ⊢
    simp? [t1,q4,ha,cu,gad,lt,hal]
  have gz:∀e:En,e[9]?=some (some (.l (al.map .int)))→cO true e (.s 9) (.l [])=some (.d (.bool (!(al.map PyData.int).isEmpty))):=fun e he=>by
    have:=lC (neg:=true) he (uF al)
    simpa using this
  have hN:∀v7 v8 v9,mz 4 (dU (ab (af 5) aj)) (fN d1 W [.tuple [.int a0,.int b0],.tuple [.int a1,.int b1]] (ts++[⟨t.one,t.other,a,b,t.worth⟩]) gss (some (.d (.int (ts.length:Int)))) (some (.d (aM t))) v7 v8 v9)=some (.d .none,fN d1 W [.tuple [.int a0,.int b0],.tuple [.int a1,.int b1]] (ts++[⟨t.one,t.other,a,b,t.worth⟩]) (gss++[[(ts.length:Int)]]) (some (.d (.int (ts.length:Int)))) (some (.d (aM t))) v7 v8 v9):=fun v7 v8 v9=>by
    have l:gss.length < 1000000:=by lia
    unfold fN
    rw [show(gss++[[(ts.length:Int)]]).map (fun g=>g.map PyData.int)=(gss.map fun g=>g.map PyData.int)++[[.int (ts.length:Int)]] by rw [List.map_append];rfl]
    have l2:(gss.map fun g=>g.map PyData.int).length < 1000000:=by rw [List.length_map];exact l
    generalize (gss.map fun g=>g.map PyData.int)=GG at*
    generalize (ts++[(⟨t.one,t.other,a,b,t.worth⟩:dC)]).map aM=TT at*
    generalize aU W=WW at*
    generalize aM t=DT at*
    simp? [mz,dr,l2]
  by_cases cc:al≠[]∧0 < n / 4 % 3
  · obtain⟨ne,r0⟩:=cc
    have lp:0 < (al.length:Int):=by
      have:=List.length_pos_iff.mpr ne
      lia
    have m12:∀e:En,aO e (.d (.int (n / 12))) (.d (.int (al.length:Int)))=some (.d (.int (n / 12 % (al.length:Int)))):=fun e=>az lp
    have p0:=pT (n:=n / 12) lp;have p1:=pU (n:=n / 12) lp
    generalize n / 12 % (al.length:Int)=r at*
    have ai:=p4 (ns:=al) (k:=r) p0 p1
    obtain⟨j,g,ej,hg,hc1,hc2⟩:=hin (al.getD r.toNat 0) (by
      rw [List.getD_eq_getElem?_getD,List.getElem?_eq_getElem (by lia)]
      exact List.getElem_mem _)
    rw [ej] at ai
    have hjl:j < gss.length:=(List.getElem?_eq_some_iff.mp hg).1
    have gj:(gss.map fun g=>g.map PyData.int)[j]?=some (g.map .int):=by rw [List.getElem?_map,hg];rfl
    have gle:g.length≤gss.flatten.length:=by
      have:=List.mem_of_getElem? hg
      exact List.Sublist.length_le (List.sublist_flatten_of_mem this)
    refine⟨d1,⟨t.one,t.other,a,b,t.worth⟩,gss.set j (g++[(ts.length:Int)]),some (.d (.int n)),some (.d (.tuple [.int a,.int b])),some (.l (al.map .int)),?_,hd1,hG.add hg ⟨hc1,hc2⟩,hto'⟩
    have hS:jx 4 (ax cT (af 9) (ax aO (ax cj (af 7) (vC (.int 12))) (aR (g1 cC) (ab (af 9) aj)))) (lS 5) (fN d1 W [.tuple [.int a0,.int b0],.tuple [.int a1,.int b1]] (ts++[⟨t.one,t.other,a,b,t.worth⟩]) gss (some (.d (.int (ts.length:Int)))) (some (.d (aM t))) (some (.d (.int n))) (some (.d (.tuple [.int a,.int b]))) (some (.l (al.map .int))))=some (.d .none,fN d1 W [.tuple [.int a0,.int b0],.tuple [.int a1,.int b1]] (ts++[⟨t.one,t.other,a,b,t.worth⟩]) (gss.set j (g++[(ts.length:Int)])) (some (.d (.int (ts.length:Int)))) (some (.d (aM t))) (some (.d (.int n))) (some (.d (.tuple [.int a,.int b]))) (some (.l (al.map .int)))):=by
      have ix:sE (gss.map fun g=>g.map PyData.int).length (j:Int)=some j:=by
        unfold sE
        rw [List.length_map]
        simp [hjl]
      have gl2:∀e:En,e[9]?=some (some (.l (al.map .int)))→g1 cC e [.s 9]=some (.d (.int (al.length:Int))):=fun e h=>by
        simp [g1,cC,dD,h]
      have l3:(g.map PyData.int).length < 1000000:=by rw [List.length_map];lia
      have es:(gss.set j (g++[(ts.length:Int)])).map (fun g=>g.map PyData.int)=(gss.map fun g=>g.map PyData.int).set j (g.map .int++[.int (ts.length:Int)]):=by
        rw [List.map_set,List.map_append];rfl
      have ai2:∀e:En,e[9]?=some (some (.l (al.map .int)))→cT e (.s 9) (.d (.int r))=some (.d (.int (j:Int))):=fun e h=>by
        unfold cT
        simp only [dD,h,Option.bind_some,bJ,ai,Option.map_some]
      unfold fN
      rw [es]
      clear es hal hin h4 hN eap ai hk
      generalize al.map PyData.int=AL at*
      generalize (al.length:Int)=LA at*
      generalize (gss.map fun g=>g.map PyData.int)=GG at*
      generalize g.map PyData.int=G1 at*
      generalize (ts++[(⟨t.one,t.other,a,b,t.worth⟩:dC)]).map aM=TT at*
      generalize aU W=WW at*
      generalize aM t=DT at*
      simp? [jx,dr,lS,f12,m12,gl2,ai2,ix,gj,l3]
    have nb:(al.map PyData.int).isEmpty=false:=by cases al with | nil=>exact absurd rfl ne | cons=>rfl
    unfold ci
    rw [h4]
    have gz2:=gz (fN d1 W [.tuple [.int a0,.int b0],.tuple [.int a1,.int b1]] (ts++[⟨t.one,t.other,a,b,t.worth⟩]) gss (some (.d (.int (ts.length:Int)))) (some (.d (aM t))) (some (.d (.int n))) (some (.d (.tuple [.int a,.int b]))) (some (.l (al.map .int)))) rfl
    rw [nb] at gz2
    clear h4 hal hin gz hN eap ai hk
    generalize (gss.set j (g++[(ts.length:Int)])).map (fun g=>g.map PyData.int)=G2 at*
    generalize (gss.map fun g=>g.map PyData.int)=GG at*
    generalize al.map PyData.int=AL at*
    generalize (ts++[(⟨t.one,t.other,a,b,t.worth⟩:dC)]).map aM=TT at*
    generalize aU W=WW at*
    generalize aM t=DT at*
    simp? [gz2,f4,m3,r0,hS]
  · refine⟨d1,⟨t.one,t.other,a,b,t.worth⟩,gss++[[(ts.length:Int)]],some (.d (.int n)),some (.d (.tuple [.int a,.int b])),some (.l (al.map .int)),?_,hd1,hG.new _,hto'⟩
    unfold ci
    rw [h4]
    have gz2:=gz (fN d1 W [.tuple [.int a0,.int b0],.tuple [.int a1,.int b1]] (ts++[⟨t.one,t.other,a,b,t.worth⟩]) gss (some (.d (.int (ts.length:Int)))) (some (.d (aM t))) (some (.d (.int n))) (some (.d (.tuple [.int a,.int b]))) (some (.l (al.map .int)))) rfl
    have hN2:=hN (some (.d (.int n))) (some (.d (.tuple [.int a,.int b]))) (some (.l (al.map .int)))
    have hbool:(al.map PyData.int).isEmpty=true∨¬0 < n / 4 % 3:=by
      cases al with
      | nil=>exact .inl rfl
      | cons x r=>exact .inr fun z=>cc ⟨by simp,z⟩
    clear h4 hal hin gz hN eap hk cc
    generalize (gss++[[(ts.length:Int)]]).map (fun g=>g.map PyData.int)=G2 at*
    generalize (gss.map fun g=>g.map PyData.int)=GG at*
    generalize (al.map PyData.int).isEmpty=eb at*
    generalize al.map PyData.int=AL at*
    generalize (ts++[(⟨t.one,t.other,a,b,t.worth⟩:dC)]).map aM=TT at*
    generalize aU W=WW at*
    generalize aM t=DT at*
    rcases hbool with rfl | r0
    · simp? [gz2,hN2]
    · cases eb<;>simp? [gz2,f4,m3,r0,hN2]
theorem pN{W:bu}(ok:W.Ok){ds:List Int}(hd:eK ds):∃ds' ts gss,dj [.l (ds.map .int),.d (aU W)]=some (.d (.tuple [aU (gS W ts),.tuple (gss.map aG)]),[.l (ds'.map .int),.d (aU W)])∧eK ds'∧GS (gS W ts) ts gss∧(gS W ts).Ok:=by
  have wl:=ok.len
  obtain⟨out,e',c1,c2,c3,⟨d1,v,he,hd1⟩⟩:=gZ (g:=ah 1) (ft:=cW) (fe:=dM) (fun i e=>∃ds v,e=[some (.l (ds.map .int)),v]∧eK ds) (fun d=>∃t b,d=.tuple [.int t,.int b]∧iP t b) (aL 0 2) 0 [some (.l (ds.map .int)),none] [] (fun i x e hx ⟨ds,v,he,hd⟩=>by
    subst he
    obtain⟨n,d2,t1,n0, -,hd2⟩:=e_ hd
    obtain⟨m,d3,t2, -, -,hd3⟩:=e_ hd2
    obtain⟨t,b,t3,hc⟩:=mv n (m % 3) n0
    have gm:∀e:En,aO e (.d (.int m)) (.d (.int 3))=some (.d (.int (m % 3))):=fun e=>az (by decide)
    refine⟨_,.d (.tuple [.int t,.int b]),_,_,rfl,rfl,?_,rfl,⟨t,b,rfl,hc⟩,d3,some (.d x),rfl,hd3⟩
    simp? [dM,t1,t2,t3,gm]) ⟨ds,none,rfl,hd⟩ (by rw [be];simp)
  subst he
  rw [List.nil_append] at c1
  rw [be] at c2
  obtain⟨a0,b0,a1,b1,rfl,h0,h1⟩:∃a0 b0 a1 b1,out=[PyData.tuple [.int a0,.int b0],.tuple [.int a1,.int b1]]∧iP a0 b0∧iP a1 b1:=by
    match out,c2,c3 with
    | [x,y],_,c3=>
      obtain⟨a,b,rfl,h⟩:=c3 x (by simp)
      obtain⟨c,d,rfl,h'⟩:=c3 y (by simp)
      exact⟨_,_,_,_,rfl,h,h'⟩
  have hv:bY [(0,"_law_drawn")] 1 eW (ah 1) cW dM [some (.l (ds.map .int)),some (.d (aU W)),none,none,none,none,none,none,none,none]=some (.l [PyData.tuple [.int a0,.int b0],.tuple [.int a1,.int b1]],[some (.l (d1.map .int)),some (.d (aU W)),none,none,none,none,none,none,none,none]):=by
    rw [kj (cp:=[(0,"_law_drawn")]) (nT:=1) (fi:=eW) (e:=[some (.l (ds.map .int)),some (.d (aU W)),none,none,none,none,none,none,none,none]) (e1:=[some (.l (ds.map .int)),some (.d (aU W)),none,none,none,none,none,none,none,none]) (items:=aL 0 2) rfl c1 rfl]
    rfl
  obtain⟨e3,hl,hI⟩:=bU (own:=[]) (g:=bB (aw (ah 5) (aw (ah 6) bj))) (f:=ci) (fun i e=>∃ds ts gss v5 v6 v7 v8 v9,e=fN ds W [PyData.tuple [.int a0,.int b0],.tuple [.int a1,.int b1]] ts gss v5 v6 v7 v8 v9∧eK ds∧ts.length=i∧(∀t∈ts,t.Ok W.things)∧GS W ts gss) (cx 0 (W.ties.map aM)) 0 (fN d1 W [PyData.tuple [.int a0,.int b0],.tuple [.int a1,.int b1]] [] [] none none none none none) (fun i x e hx ⟨ds,ts,gss,v5,v6,v7,v8,v9,he,hd,hlen,hto,hG⟩=>by
    subst he
    rw [ed,List.getElem?_map] at hx
    obtain⟨y,hx1,hx2⟩:=Option.map_eq_some_iff.mp hx
    obtain⟨t,hx3,hx4⟩:=Option.map_eq_some_iff.mp hx1
    subst hx4 hx2
    have ht:=ok.ties t (List.mem_of_getElem? hx3)
    have il:i < W.ties.length:=(List.getElem?_eq_some_iff.mp hx3).1
    obtain⟨ds',t',gss',w7,w8,w9,hb,hd',hG',hto'⟩:=s_ ok h0 h1 hd hG (by lia) ht (v7:=v7) (v8:=v8) (v9:=v9)
    refine⟨_,_,?_,hb,bw,ds',ts++[t'],gss',_,_,w7,w8,w9,rfl,hd',by simp;lia,fun t hm=>?_,hG'⟩
    · rw [hlen]
      rfl
    · rcases List.mem_append.mp hm with hm | hm
      · exact hto t hm
      · simp at hm;subst hm;exact hto') ⟨d1,[],[],none,none,none,none,none,rfl,hd1,rfl,fun t h=>(by cases h),⟨fun g h=>(by cases h),fun g h=>(by cases h),fun g h=>(by cases h),by simp,rfl,by simp [kO],fun g h=>(by cases h)⟩⟩
  obtain⟨d2,ts,gss,v5,v6,v7,v8,v9,rfl,hd2,hlen,hto,hG⟩:=hI
  rw [dh,List.length_map,Nat.zero_add] at hlen
  have g1':=Ah (W:=W)
  have g0':=BH (W:=W)
  have g2':=BI (W:=W)
  have g3':=BJ (W:=W)
  have hs:∀Wl,dc Wl dN (bB (aw (ah 5) (aw (ah 6) bj))) ci (fN d1 W [PyData.tuple [.int a0,.int b0],.tuple [.int a1,.int b1]] [] [] none none none none none)=some (.nx (fN d2 W [PyData.tuple [.int a0,.int b0],.tuple [.int a1,.int b1]] ts gss v5 v6 v7 v8 v9)):=fun Wl=>by
    rw [de (show dN (fN d1 W [PyData.tuple [.int a0,.int b0],.tuple [.int a1,.int b1]] [] [] none none none none none)=some (cx 0 (W.ties.map aM),[],fN d1 W [PyData.tuple [.int a0,.int b0],.tuple [.int a1,.int b1]] [] [] none none none none none) by
      unfold fN
      generalize W.ties.map aM=TT at*
      generalize aU W=WW at*
      simp? [dN,j1,pK,g1'])]
    exact hl
  have gl:=iI hG.ne
  have glen:=hG.len
  obtain⟨t',hc⟩:=ec (cs:=[]) (ft:=cW) (fe:=dJ) (b:=fun _=>true) (y:=fun x=>match x with | .list xs=>.tuple xs | d=>d) ((gss.map fun g=>g.map PyData.int).map PyData.list) none [] (fun x hx=>rfl) (fun x hx _=>by
    obtain⟨xs,_,rfl⟩:=List.mem_map.mp hx
    simp? [dJ]) (by simp;lia)
  have hv2:=jw (cp:=[]) (nT:=1) (fi:=iw) (g:=ah 0) (ft:=cW) (fe:=dJ) (e:=fN d2 W [PyData.tuple [.int a0,.int b0],.tuple [.int a1,.int b1]] ts gss v5 v6 v7 v8 v9) (e1:=(fN d2 W [PyData.tuple [.int a0,.int b0],.tuple [.int a1,.int b1]] ts gss v5 v6 v7 v8 v9).set 4 (some (.d (.list ((gss.map fun g=>g.map PyData.int).map .list))))) (cs:=[]) (t:=[none]) (t':=[t']) rfl rfl rfl hc
  have ho:[]++(((gss.map fun g=>g.map PyData.int).map PyData.list).filter fun _=>true).map (fun x=>match x with | .list xs=>PyData.tuple xs | d=>d)=gss.map aG:=by
    rw [List.nil_append,List.filter_eq_self.mpr (fun _ _=>rfl),List.map_map,List.map_map]
    exact List.map_congr_left fun x _=>rfl
  rw [ho] at hv2
  refine⟨d2,ts,gss,?_,hd2,⟨hG.ne,hG.pw,hG.inr,hG.nd,hG.len,hG.fs,hG.ch⟩,⟨ok.t0,ok.t1,hto,by show ts.length≤16;lia,ok.pl,ok.pat,ok.a0,ok.a1⟩⟩
  rw [eR (gS W ts)]
  show dj [.l (ds.map .int),.d (aU W)]=some (.d (.tuple [.tuple [.int W.things,.tuple (ts.map aM),.tuple (W.pat.map .int),.int W.asks],.tuple (gss.map aG)]),[.l (d2.map .int),.d (aU W)])
  unfold fN at hv2 hs
  simp only [List.set_cons_succ,List.set_cons_zero,List.map_nil] at hv2 hs
  clear hc ho hl c1
  generalize gss.map aG=RR at*
  generalize ((gss.map fun g=>g.map PyData.int).map PyData.list)=G3 at*
  generalize (gss.map fun g=>g.map PyData.int)=GG at*
  generalize ts.map aM=T2 at*
  generalize W.ties.map aM=TT at*
  generalize W.pat.map PyData.int=PP at*
  generalize aU W=WW at*
  simp? [dj,jO,rX,hv,hs,hv2,g0',g2',g3']
def aE(ds:List Int)(many:Int)(bs:List Bool)(num:Int)(v4:Option Sv):En:=[some (.l (ds.map .int)),some (.d (.int many)),some (.l (bs.map .bool)),some (.d (.int num)),v4]
theorem ki{ds:List Int}{many:Int}(hd:eK ds)(m0:0≤many)(m1:many≤1000):∃(ds':List Int) (bs:List Bool),di [.l (ds.map .int),.d (.int many)]=some (.d (.tuple (bs.map .bool)),[.l (ds'.map .int),.d (.int many)])∧eK ds'∧(bs.length:Int)=many:=by
  obtain⟨e2,h1,⟨d1,bs,num,v4,he,hd1,hl⟩⟩:=bU (own:=[]) (g:=ah 4) (f:=cL) (fun i e=>∃(ds:List Int) (bs:List Bool) (num:Int) (v4:Option Sv),e=aE ds many bs num v4∧eK ds∧bs.length=i) (aL 0 many.toNat) 0 (aE ds many [] 0 none) (fun i x e hx ⟨ds,bs,num,v4,he,hd,hl⟩=>by
    subst he
    obtain⟨rfl,hi⟩:=dw hx
    generalize hq:(0+(i:Int))=q at*
    have g16:∀e:En,aO e (.d (.int q)) (.d (.int 16))=some (.d (.int (q % 16))):=fun e=>az (by decide)
    obtain⟨m,hm0,hm1,hs⟩:=ya (q:=q % 16) (by lia) (by lia)
    have gd:∀(e:En) (n:Int),cj e (.d (.int n)) (.d (.int m))=some (.d (.int (n / m))):=fun e n=>ck hm0 (eQ hm0 hm1)
    have g2:∀(e:En) (n:Int),aO e (.d (.int n)) (.d (.int 2))=some (.d (.int (n % 2))):=fun e n=>az (by decide)
    have bl:bs.length < 1000000:=by lia
    obtain⟨n,d1,t1,n0,n1,hd1⟩:=e_ hd
    by_cases c:q % 16=0
    · refine⟨aE ds many bs num (some (.d (.int q))),aE d1 many (bs++[n / m % 2==1]) n (some (.d (.int q))),rfl,?_,bw,_,_,_,_,rfl,hd1,by simp;lia⟩
      rw [c] at g16 hs
      simp? [aE,cL,g16,t1,hs,gd,g2,bl]
    · refine⟨aE ds many bs num (some (.d (.int q))),aE ds many (bs++[num / m % 2==1]) num (some (.d (.int q))),rfl,?_,bw,_,_,_,_,rfl,hd,by simp;lia⟩
      simp? [aE,cL,g16,c,hs,gd,g2,bl]) ⟨ds,[],0,none,rfl,hd,rfl⟩
  subst he
  rw [be] at hl
  refine⟨d1,bs,?_,hd1,by lia⟩
  have hf:∀Wl,dc Wl eV (ah 4) cL (aE ds many [] 0 none)=some (.nx (aE d1 many bs num v4)):=fun Wl=>by
    rw [de (show eV (aE ds many [] 0 none)=some (aL 0 many.toNat,[],aE ds many [] 0 none) from ce (n:=many) (by simp? [aE]) (by lia) (by lia))]
    exact h1
  unfold aE at hf
  simp only [List.map_nil] at hf
  simp? [di,jN,hf]
def ma(g:List Int)(b:Bool):List (Int × fJ):=g.map fun k=>(k,.vb b)
def fM:List (List Int)→List Bool→List (Int × fJ)
  | g::gs,b::bs=>ma g b++fM gs bs
  | _,_=>[]
theorem gP:∀{gss:List (List Int)} {as:List Bool},gss.length=as.length→(fM gss as).map (·.1)=gss.flatten
  | [],[],_=>rfl
  | [],_::_,h=>by simp at h
  | _::_,[],h=>by simp at h
  | g::gs,b::bs,h=>by
    rw [fM,List.map_append,gP (by simpa using h),List.flatten_cons]
    congr 1
    unfold ma
    rw [List.map_map]
    exact List.map_id' g
theorem oM:∀{gss:List (List Int)} {as:List Bool} {i:Nat} {g:List Int} {b:Bool} {k:Int},gss[i]?=some g→as[i]?=some b→k∈g→(k,fJ.vb b)∈fM gss as
  | [],_,_,_,_,_,h,_,_=>by simp at h
  | _::_,[],_,_,_,_,_,h,_=>by simp at h
  | g::gs,b::bs,0,g',b',k,h1,h2,hk=>by
    simp at h1 h2
    subst h1 h2
    exact List.mem_append.mpr (.inl (List.mem_map.mpr ⟨k,hk,rfl⟩))
  | g::gs,b::bs,i+1,g',b',k,h1,h2,hk=>List.mem_append.mpr (.inr (oM (i:=i) (by simpa using h1) (by simpa using h2) hk))
theorem se:∀{gss:List (List Int)} {as:List Bool} {p:Int × fJ},p∈fM gss as→∃b,p.2=.vb b
  | [],_,_,h=>by cases h
  | _::_,[],_,h=>by cases h
  | g::gs,b::bs,p,h=>by
    rcases List.mem_append.mp h with h | h
    · obtain⟨k,_,rfl⟩:=List.mem_map.mp h
      exact⟨b,rfl⟩
    · exact se h
theorem kM:∀{m:List (Int × fJ)} {k:Int} {a:fJ},(m.map (·.1)).Nodup→(k,a)∈m→(m.find? fun p=>p.1==k)=some (k,a)
  | [],_,_,_,h=>by cases h
  | p::r,k,a,nd,h=>by
    have n2:=List.nodup_cons.mp nd
    rw [List.find?_cons]
    rcases List.mem_cons.mp h with rfl | h
    · simp
    · have:(p.1==k)=false:=by
        rw [beq_eq_false_iff_ne]
        rintro rfl
        exact n2.1 (List.mem_map.mpr ⟨_,h,rfl⟩)
      rw [this]
      exact kM n2.2 h
theorem qc{g:PyData}{b:Bool}:∀(ns:List Int) (c:Option Sv) (acc:List (Int × fJ)),(acc.map (·.1)++ns).Nodup→acc.length+ns.length < 1000000→∃c',wq (ah 2) 2 1 (ns.map .int) [some (.d g),some (.d (.bool b)),c] acc=some (acc++ma ns b,[some (.d g),some (.d (.bool b)),c'])
  | [],c,acc,_,_=>⟨c,by simp [wq,ma]⟩
  | k::r,c,acc,nd,hl=>by
    simp only [List.length_cons] at hl
    have nk:(acc.any fun p=>p.1==k)=false:=by
      rw [List.any_eq_false]
      intro p hp
      simp only [beq_iff_eq]
      intro z
      exact(List.nodup_append.mp nd).2.2 p.1 (List.mem_map_of_mem hp) k (by simp) z
    obtain⟨c',ih⟩:=qc (g:=g) (b:=b) r (some (.d (.int k))) (acc++[(k,.vb b)]) (by
      rw [List.map_append,List.append_assoc]
      exact nd) (by simp;lia)
    refine⟨c',?_⟩
    have hg:ah 2 (.int k) [some (.d g),some (.d (.bool b)),c]=some [some (.d g),some (.d (.bool b)),some (.d (.int k))]:=rfl
    rw [List.map_cons]
    simp only [wq,hg,Option.bind_some]
    rw [show lS 2 [some (.d g),some (.d (.bool b)),some (.d (.int k))]=some k from rfl,show we 1 [some (.d g),some (.d (.bool b)),some (.d (.int k))]=some (.vb b) from rfl]
    simp only [Option.bind_some]
    rw [if_pos ⟨by lia,nk⟩,ih,List.append_assoc]
    rfl
theorem qd:∀(gss:List (List Int)) (as:List Bool) (a b c:Option Sv) (acc:List (Int × fJ)),gss.length=as.length→(acc.map (·.1)++gss.flatten).Nodup→acc.length+gss.flatten.length < 1000000→∃e',wu (bB (aw (ah 0) (aw (ah 1) bj))) 0 (ah 2) 2 1 (dW (gss.map aG) (as.map .bool)) [a,b,c] acc=some (acc++fM gss as,e')
  | [],[],a,b,c,acc,_,_,_=>⟨[a,b,c],by simp [dW,wu,fM]⟩
  | [],_::_,_,_,_,_,h,_,_=>by simp at h
  | _::_,[],_,_,_,_,h,_,_=>by simp at h
  | g::gs,t::ts,a,b,c,acc,h,nd,hl=>by
    rw [List.flatten_cons] at nd
    simp only [List.flatten_cons,List.length_append] at hl
    rw [←List.append_assoc] at nd
    have nd1:=(List.nodup_append.mp nd).1
    obtain⟨c',h1⟩:=qc (g:=aG g) (b:=t) g c acc nd1 (by lia)
    have kk:(acc++ma g t).map (·.1)=acc.map (·.1)++g:=by
      rw [List.map_append]
      congr 1
      unfold ma
      rw [List.map_map]
      exact List.map_id' g
    obtain⟨e',h2⟩:=qd gs ts (some (.d (aG g))) (some (.d (.bool t))) c' (acc++ma g t) (by simpa using h) (by rw [kk];exact nd) (by rw [List.length_append];simp only [ma,List.length_map];lia)
    refine⟨e',?_⟩
    have hg:bB (aw (ah 0) (aw (ah 1) bj)) (.tuple [aG g,.bool t]) [a,b,c]=some [some (.d (aG g)),some (.d (.bool t)),c]:=rfl
    rw [List.map_cons,List.map_cons]
    simp only [dW,wu,hg,Option.bind_some]
    rw [show yu 0 [some (.d (aG g)),some (.d (.bool t)),c]=some (g.map .int) from rfl]
    simp only [Option.bind_some,h1]
    rw [h2,List.append_assoc]
    rfl
def pZ(m:List (Int × fJ))(k:Int):Bool:=match m.find? fun p=>p.1==k with
  | some (_,.vb b)=>b
  | _=>false
structure wc (n:Nat) (gss:List (List Int)):Prop where
  nd:gss.flatten.Nodup
  inr:∀k∈gss.flatten,0≤k∧k < (n:Int)
  len:gss.flatten.length=n
theorem wc.all{n:Nat}{gss:List (List Int)}(h:wc n gss){k:Int}(h0:0≤k)(h1:k < (n:Int)):k∈gss.flatten:=by
  by_cases z:k∈gss.flatten
  · exact z
  · have:=lW n (k::gss.flatten) (List.nodup_cons.mpr ⟨z,h.nd⟩) (fun j hj=>by
      rcases List.mem_cons.mp hj with rfl | hj
      · exact⟨h0,h1⟩
      · exact h.inr j hj)
    have:=h.len
    simp only [List.length_cons] at*
    lia
def eL(n:Nat)(gss:List (List Int))(as:List Bool):List Bool:=(List.range n).map fun(k:Nat)=>pZ (fM gss as) (k:Int)
theorem rT{n:Nat}{gss:List (List Int)}(h:wc n gss){as:List Bool}(hl:gss.length=as.length){i:Nat}{g:List Int}{b:Bool}{k:Int}(h1:gss[i]?=some g)(h2:as[i]?=some b)(hk:k∈g):pZ (fM gss as) k=b:=by
  unfold pZ
  rw [kM (by rw [gP hl];exact h.nd) (oM h1 h2 hk)]
theorem jv{W:bu}(wl:W.ties.length≤16){gss:List (List Int)}(h:wc W.ties.length gss){as:List Bool}(hl:gss.length=as.length):aN [.d (aU W),.d (.tuple (gss.map aG)),.d (.tuple (as.map .bool))]=some (.d (.tuple ((eL W.ties.length gss as).map .bool)),[.d (aU W),.d (.tuple (gss.map aG)),.d (.tuple (as.map .bool))]):=by
  have g1':=Ah (W:=W)
  have fl:=h.len
  obtain⟨e',hd⟩:=qd gss as none none none [] hl (by simpa using h.nd) (by rw [List.length_nil];lia)
  rw [List.nil_append] at hd
  have upn:∀(ei:En) (x y z:PyData),gQ (gB []) ei [some (.d x),some (.d y),some (.d z),none]=[some (.d x),some (.d y),some (.d z),none]:=fun ei x y z=>rfl
  have hv:fH 3 bI (bB (aw (ah 0) (aw (ah 1) bj))) 0 (ah 2) 2 1 [some (.d (aU W)),some (.d (.tuple (gss.map aG))),some (.d (.tuple (as.map .bool))),none]=some (.d (.dict ((fM gss as).map aD)),[some (.d (aU W)),some (.d (.tuple (gss.map aG))),some (.d (.tuple (as.map .bool))),none]):=by
    unfold fH
    rw [show bI [some (.d (aU W)),some (.d (.tuple (gss.map aG))),some (.d (.tuple (as.map .bool))),none]=some (dW (gss.map aG) (as.map .bool),[],[some (.d (aU W)),some (.d (.tuple (gss.map aG))),some (.d (.tuple (as.map .bool))),none]) from rfl,Option.bind_some]
    dsimp only
    rw [if_pos rfl,show i0 [] 3 [some (.d (aU W)),some (.d (.tuple (gss.map aG))),some (.d (.tuple (as.map .bool))),none]=[none,none,none] from rfl,hd,Option.bind_some,upn]
  obtain⟨t',hf⟩:=ec (cs:=[some (.d (.dict ((fM gss as).map aD)))]) (ft:=cW) (fe:=aW) (b:=fun _=>true) (y:=fun x=>.bool (pZ (fM gss as) (mX x))) (aL 0 W.ties.length) none [] (fun _ _=>rfl) (fun x hx _=>by
    obtain⟨k,hk,rfl⟩:=List.mem_map.mp hx
    rw [Int.zero_add]
    have hk2:=List.mem_range.mp hk
    have hm:=h.all (k:=(k:Int)) (by lia) (by lia)
    rw [←gP hl] at hm
    obtain⟨p,hp,e1⟩:=List.mem_map.mp hm
    obtain⟨b,hb⟩:=se hp
    have hp2:((k:Int),fJ.vb b)∈fM gss as:=by rw [←e1,←hb];exact hp
    have fi:=kM (by rw [gP hl];exact h.nd) hp2
    have ea:pZ (fM gss as) (k:Int)=b:=by unfold pZ;rw [fi]
    have gd:∀e:En,jX e (.d (.dict ((fM gss as).map aD))) (.d (.int (k:Int)))=some (.d (.bool b)):=fun e=>by
      unfold jX
      dsimp only
      have:=iR (k:Int) (fM gss as)
      rw [fi] at this
      rw [show((fM gss as).map aD)=(fM gss as).map (fun p=>(PyData.int p.1,p.2.toD)) from rfl,this]
      rfl
    show aW [some (.d (.dict ((fM gss as).map aD))),some (.d (.int (k:Int)))]=some (.d (.bool (pZ (fM gss as) (k:Int))),[some (.d (.dict ((fM gss as).map aD))),some (.d (.int (k:Int)))])
    rw [ea]
    generalize (fM gss as).map aD=TT at*
    simp? [aW,gd]) (by simp [be];lia)
  have eo:[]++((aL 0 W.ties.length).filter fun _=>true).map (fun x=>PyData.bool (pZ (fM gss as) (mX x)))=(eL W.ties.length gss as).map .bool:=by
    rw [List.nil_append,List.filter_eq_self.mpr (fun _ _=>rfl)]
    unfold aL eL
    rw [List.map_map,List.map_map]
    exact List.map_congr_left fun i _=>by show PyData.bool (pZ (fM gss as) ((0:Int)+(i:Int)))=_;rw [Int.zero_add];rfl
  rw [eo] at hf
  have gl2:∀e:En,g1 cC e [.d (.tuple (W.ties.map aM))]=some (.d (.int (W.ties.length:Int))):=fun e=>by
    show some (Rv.d (.int (((W.ties.map aM).length:Nat):Int)))=_
    rw [List.length_map]
  have hi:bH [some (.d (aU W)),some (.d (.tuple (gss.map aG))),some (.d (.tuple (as.map .bool))),some (.d (.dict ((fM gss as).map aD)))]=some (aL 0 W.ties.length,[],[some (.d (aU W)),some (.d (.tuple (gss.map aG))),some (.d (.tuple (as.map .bool))),some (.d (.dict ((fM gss as).map aD)))]):=by
    have:=ce (n:=(W.ties.length:Int)) (fs:=(ab (aR (g1 cC) (ab (ax cT (af 0) (vC (.int 1))) aj)) aj)) (e:=[some (.d (aU W)),some (.d (.tuple (gss.map aG))),some (.d (.tuple (as.map .bool))),some (.d (.dict ((fM gss as).map aD)))]) (e1:=[some (.d (aU W)),some (.d (.tuple (gss.map aG))),some (.d (.tuple (as.map .bool))),some (.d (.dict ((fM gss as).map aD)))]) (by
      generalize W.ties.map aM=TT at*
      generalize gss.map aG=GG at*
      generalize as.map PyData.bool=AA at*
      generalize (fM gss as).map aD=MM at*
      generalize aU W=WW at*
      simp? [g1',gl2]) (by lia) (by lia)
    rw [Int.toNat_natCast] at this
    exact this
  have hc:=jw (cp:=[(3,"said")]) (nT:=1) (fi:=bH) (g:=ah 1) (ft:=cW) (fe:=aW) (cs:=[some (.d (.dict ((fM gss as).map aD)))]) (t:=[none]) (t':=[t']) hi rfl rfl hf
  clear hd hf hi eo
  generalize (eL W.ties.length gss as).map PyData.bool=RR at*
  generalize gss.map aG=GG at*
  generalize as.map PyData.bool=AA at*
  generalize (fM gss as).map aD=MM at*
  generalize aU W=WW at*
  simp? [aN,dn,hv,hc]
theorem oA{n:Nat}{gss:List (List Int)}{as:List Bool}:(eL n gss as).length=n:=by simp [eL]
theorem l_{W:bu}{GG AA:PyData}{RS:List Bool}{k0:Option Sv}:∀(gss:List (List Int)) (as:List Bool) (v4 v5 v6:Option Sv),(∀(i:Nat) (g:List Int) (b:Bool) (k:Int),gss[i]?=some g→as[i]?=some b→k∈g→atI (RS.map PyData.bool) k=some (.bool b))→
    ∃w4 w5 w6,g_ [] (bB (aw (ah 4) (aw (ah 5) bj))) d9 (dW (gss.map aG) (as.map .bool)) [k0,some (.d GG),some (.d AA),some (.d (.tuple (RS.map .bool))),v4,v5,v6]=some (.nx [k0,some (.d GG),some (.d AA),some (.d (.tuple (RS.map .bool))),w4,w5,w6])
  | [],as,v4,v5,v6,_=>⟨v4,v5,v6,by simp [dW,g_]⟩
  | _::_,[],v4,v5,v6,_=>⟨v4,v5,v6,by simp [dW,g_]⟩
  | g::gs,b::bs,v4,v5,v6,h=>by
    have hg:bB (aw (ah 4) (aw (ah 5) bj)) (.tuple [aG g,.bool b]) [k0,some (.d GG),some (.d AA),some (.d (.tuple (RS.map .bool))),v4,v5,v6]=some [k0,some (.d GG),some (.d AA),some (.d (.tuple (RS.map .bool))),some (.d (aG g)),some (.d (.bool b)),v6]:=rfl
    obtain⟨e2,h1,⟨w6,he2⟩⟩:=bU (own:=[]) (g:=ah 6) (f:=gW) (fun _ e=>∃v6,e=[k0,some (.d GG),some (.d AA),some (.d (.tuple (RS.map .bool))),some (.d (aG g)),some (.d (.bool b)),v6]) (g.map .int) 0 [k0,some (.d GG),some (.d AA),some (.d (.tuple (RS.map .bool))),some (.d (aG g)),some (.d (.bool b)),v6] (fun i x e hx ⟨v6,he⟩=>by
      subst he
      rw [List.getElem?_map] at hx
      obtain⟨k,hk,rfl⟩:=Option.map_eq_some_iff.mp hx
      have ai:=h 0 g b k rfl rfl (List.mem_of_getElem? hk)
      have ts:=yj b b
      rw [beq_self_eq_true] at ts
      refine⟨_,_,rfl,?_,bw,some (.d (.int k)),rfl⟩
      generalize RS.map PyData.bool=RR at*
      generalize aG g=GD at*
      simp? [gW,ai,ts]) ⟨v6,rfl⟩
    subst he2
    have hb:d9 [k0,some (.d GG),some (.d AA),some (.d (.tuple (RS.map .bool))),some (.d (aG g)),some (.d (.bool b)),v6]=some (.nx [k0,some (.d GG),some (.d AA),some (.d (.tuple (RS.map .bool))),some (.d (aG g)),some (.d (.bool b)),w6]):=by
      unfold d9
      rw [de (show j2 _=_ from wH rfl)]
      exact h1
    obtain⟨w4',w5',w6',ih⟩:=l_ (W:=W) (GG:=GG) (AA:=AA) (RS:=RS) (k0:=k0) gs bs (some (.d (aG g))) (some (.d (.bool b))) w6 (fun i g' b' k h1 h2 h3=>h (i+1) g' b' k (by simpa using h1) (by simpa using h2) h3)
    refine⟨w4',w5',w6',?_⟩
    rw [List.map_cons,List.map_cons]
    simp only [dW,g_,hg,Option.bind_some,hb]
    rw [if_pos bw]
    exact ih
theorem uO{W:bu}(wl:W.ties.length≤16){gss:List (List Int)}(h:wc W.ties.length gss){as:List Bool}(hl:gss.length=as.length):gy [.d (aU W),.d (.tuple (gss.map aG)),.d (.tuple (as.map .bool))]=some (.d (.bool true),[.d (aU W),.d (.tuple (gss.map aG)),.d (.tuple (as.map .bool))]):=by
  have tt:=jv wl h hl
  have g1':=Ah (W:=W)
  have gl2:∀e:En,g1 cC e [.d (.tuple (W.ties.map aM))]=some (.d (.int (W.ties.length:Int))):=fun e=>by
    show some (Rv.d (.int (((W.ties.map aM).length:Nat):Int)))=_
    rw [List.length_map]
  have gl3:∀e:En,g1 cC e [.d (.tuple ((eL W.ties.length gss as).map .bool))]=some (.d (.int (W.ties.length:Int))):=fun e=>by
    show some (Rv.d (.int ((((eL W.ties.length gss as).map PyData.bool).length:Nat):Int)))=_
    rw [List.length_map,oA]
  obtain⟨w4,w5,w6,hf⟩:=l_ (W:=W) (GG:=.tuple (gss.map aG)) (AA:=.tuple (as.map .bool)) (RS:=eL W.ties.length gss as) (k0:=some (.d (aU W))) gss as none none none (fun i g b k h1 h2 hk=>by
    have hin:=h.inr k (List.mem_flatten.mpr ⟨g,List.mem_of_getElem? h1,hk⟩)
    have ea:=rT h hl h1 h2 hk
    unfold atI
    have ix:sE ((eL W.ties.length gss as).map PyData.bool).length k=some k.toNat:=by
      unfold sE
      rw [List.length_map,oA]
      have q1:0≤k:=hin.1
      have q2:k.toNat < W.ties.length:=by lia
      simp [q1,q2,hin.2]
    rw [ix]
    show((eL W.ties.length gss as).map PyData.bool)[k.toNat]?=_
    unfold eL
    rw [List.getElem?_map,List.getElem?_map,List.getElem?_range (by lia)]
    show some (PyData.bool (pZ (fM gss as) ((k.toNat:Nat):Int)))=_
    rw [Int.toNat_of_nonneg hin.1,ea])
  have hs:∀Wl,dc Wl hV (bB (aw (ah 4) (aw (ah 5) bj))) d9 [some (.d (aU W)),some (.d (.tuple (gss.map aG))),some (.d (.tuple (as.map .bool))),some (.d (.tuple ((eL W.ties.length gss as).map .bool))),none,none,none]=some (.nx [some (.d (aU W)),some (.d (.tuple (gss.map aG))),some (.d (.tuple (as.map .bool))),some (.d (.tuple ((eL W.ties.length gss as).map .bool))),w4,w5,w6]):=fun Wl=>by
    rw [de (show hV _=some (dW (gss.map aG) (as.map .bool),[],[some (.d (aU W)),some (.d (.tuple (gss.map aG))),some (.d (.tuple (as.map .bool))),some (.d (.tuple ((eL W.ties.length gss as).map .bool))),none,none,none]) from rfl)]
    exact hf
  clear hf
  generalize (eL W.ties.length gss as).map PyData.bool=RR at*
  generalize gss.map aG=GG at*
  generalize as.map PyData.bool=AA at*
  generalize W.ties.map aM=TT at*
  generalize aU W=WW at*
  generalize (W.ties.length:Int)=nn at*
  simp? [gy,nO,tt,g1',gl2,gl3,hs,qm,wK,uJ,yE]
def bT(bs:List Bool):PyData:=.tuple (bs.map .bool)
theorem xE{W:bu}{gss:List (List Int)}(h:GS W W.ties gss):wc W.ties.length gss:=⟨h.nd,fun k hk=>by
  obtain⟨g,h1,h2⟩:=List.mem_flatten.mp hk
  exact h.inr g h1 k h2,h.len⟩
def nJ(n:Nat):List (List Int):=(jf n).map fun k=>[k]
theorem iN(n:Nat):(nJ n).flatten=jf n:=by
  unfold nJ
  generalize jf n=l
  induction l with
  | nil=>rfl
  | cons a r ih=>rw [List.map_cons,List.flatten_cons,ih];rfl
theorem oq(n:Nat):wc n (nJ n):=⟨by rw [iN];exact uE n,fun k hk=>by rw [iN] at hk;exact rW hk,by rw [iN,jg]⟩
theorem wf{n i:Nat}(h:i < n):(nJ n)[i]?=some [(i:Int)]:=by
  unfold nJ jf
  rw [List.getElem?_map,List.getElem?_map,List.getElem?_range h]
  rfl
theorem uC{n:Nat}{bs:List Bool}(h:bs.length=n):eL n (nJ n) bs=bs:=by
  refine List.ext_getElem? fun i=>?_
  unfold eL
  rw [List.getElem?_map]
  by_cases hi:i < n
  · rw [List.getElem?_range hi]
    have h2:bs[i]?=some bs[i]:=List.getElem?_eq_getElem (by lia)
    rw [h2]
    show some (pZ (fM (nJ n) bs) (i:Int))=_
    rw [rT (oq n) (by unfold nJ;rw [List.length_map,jg];exact h.symm) (wf hi) h2 (by simp)]
  · rw [List.getElem?_eq_none (by simp;lia),List.getElem?_eq_none (by lia)]
    rfl
theorem yi{bs:List Bool}(h:bs.length≤16):i5 [.d (bT bs),.d (bT bs)]=some (.d (.bool true),[.d (bT bs),.d (bT bs)]):=by
  have sw:Sw false (16*200+5) 1 (bT bs):=Sw.tup (n:=200) (dep:=0) (m:=16) (fun d hd=>by
    obtain⟨b,_,rfl⟩:=List.mem_map.mp hd
    exact Sw.bool) (by rw [List.length_map];exact h)
  have r:=fun e=>sw.repr (by decide) (by decide) e
  have g:=fun e=>sW (e:=e) sw.so
  generalize (bT bs).shown=s at*
  generalize bT bs=B at*
  simp? [i5,p6,r,g]
abbrev hX(ns ds:List Int)(v2:Option Sv)(W:bu)(GG:List PyData)(L:List PyData)(v6 v7:Option Sv):En:=[some (.d (.list (ns.map .int))),some (.l (ds.map .int)),v2,some (.d (aU W)),some (.d (.tuple GG)),some (.l L),v6,v7]
inductive v0 (ns:List Int):En→Prop
  | mk {ds v2 v3 v4 v5 v6 v7} (hd:eK ds):v0 ns [some (.d (.list (ns.map .int))),some (.l (ds.map .int)),v2,v3,v4,v5,v6,v7]
theorem qL{ns ds:List Int}(hd:eK ds){x:PyData}{v3 v4 v5 v6 v7:Option Sv}:∃e2,yO [some (.d (.list (ns.map .int))),some (.l (ds.map .int)),some (.d x),v3,v4,v5,v6,v7]=some (.nx e2)∧v0 ns e2:=by
  obtain⟨W0,d1,tw,hd1,ok0, -, -⟩:=z0 ds 12 16 hd (by decide) (by decide) (by decide) (by decide)
  obtain⟨d2,ts,gss,tg,hd2,hG,ok⟩:=pN ok0 hd1
  generalize hW:gS W0 ts=W at*
  have hT:ts=W.ties:=by rw [←hW];rfl
  rw [hT] at hG
  have wl:=ok.len
  have gl:=iI hG.ne
  have glen:=hG.len
  have pr:=xE hG
  have gln:∀e:En,g1 cC e [.d (.tuple (gss.map aG))]=some (.d (.int (gss.length:Int))):=fun e=>by
    show some (Rv.d (.int (((gss.map aG).length:Nat):Int)))=_
    rw [List.length_map]
  obtain⟨out,e',c1,c2,c3,⟨d3,v,he,hd3⟩⟩:=gZ (g:=ah 2) (ft:=cW) (fe:=Af) (fun i e=>∃ds v,e=[some (.l (ds.map .int)),some (.d (.tuple (gss.map aG))),v]∧eK ds) (fun d=>∃bs:List Bool,d=bT bs∧gss.length=bs.length) (aL 0 4) 0 [some (.l (d2.map .int)),some (.d (.tuple (gss.map aG))),none] [] (fun i y e hx ⟨ds,v,he,hd⟩=>by
    subst he
    obtain⟨ds',bs,ta,hd',hb⟩:=ki (many:=(gss.length:Int)) hd (by lia) (by lia)
    refine⟨_,.d (bT bs),bT bs,_,rfl,rfl,?_,rfl,⟨bs,rfl,by lia⟩,ds',some (.d y),rfl,hd'⟩
    unfold bT
    generalize bs.map PyData.bool=BB at*
    generalize gss.map aG=GG at*
    simp? [Af,gln,ta]) ⟨d2,none,rfl,hd2⟩ (by rw [be];simp)
  subst he
  rw [List.nil_append] at c1
  rw [be] at c2
  obtain⟨b0,b1,b2,b3,rfl,l0,l1,l2,l3⟩:∃b0 b1 b2 b3:List Bool,out=[bT b0,bT b1,bT b2,bT b3]∧gss.length=b0.length∧gss.length=b1.length∧gss.length=b2.length∧gss.length=b3.length:=by
    match out,c2,c3 with
    | [w,x,y,z],_,c3=>
      obtain⟨a,rfl,h1⟩:=c3 w (by simp)
      obtain⟨b,rfl,h2⟩:=c3 x (by simp)
      obtain⟨c,rfl,h3⟩:=c3 y (by simp)
      obtain⟨d,rfl,h4⟩:=c3 z (by simp)
      exact⟨a,b,c,d,rfl,h1,h2,h3,h4⟩
  have hv:bY [(1,"_law_drawn"),(4,"_law_groups")] 1 AJ (ah 2) cW Af [some (.d (.list (ns.map .int))),some (.l (d2.map .int)),some (.d x),some (.d (aU W)),some (.d (.tuple (gss.map aG))),v5,v6,v7]=some (.l [bT b0,bT b1,bT b2,bT b3],[some (.d (.list (ns.map .int))),some (.l (d3.map .int)),some (.d x),some (.d (aU W)),some (.d (.tuple (gss.map aG))),v5,v6,v7]):=by
    rw [kj (cp:=[(1,"_law_drawn"),(4,"_law_groups")]) (nT:=1) (fi:=AJ) (e:=[some (.d (.list (ns.map .int))),some (.l (d2.map .int)),some (.d x),some (.d (aU W)),some (.d (.tuple (gss.map aG))),v5,v6,v7]) (e1:=[some (.d (.list (ns.map .int))),some (.l (d2.map .int)),some (.d x),some (.d (aU W)),some (.d (.tuple (gss.map aG))),v5,v6,v7]) (items:=aL 0 4) rfl c1 rfl]
    refine congrArg (fun z=>some (Rv.l [bT b0,bT b1,bT b2,bT b3],z)) ?_
    rcases v5 with _ | (_ | _ | _)<;>rcases v6 with _ | (_ | _ | _)<;>rcases v7 with _ | (_ | _ | _)<;>rfl
  have rt:∀(e:En) (b:Bool),fK e (.d (.tuple [.bool b])) (.d (.int (gss.length:Int)))=some (.d (bT (List.replicate gss.length b))):=fun e b=>by
    rw [wD (by lia) (by lia),Int.toNat_natCast]
    unfold bT
    rw [List.map_replicate]
  have gc:∀(e:En) (xs ys:List PyData),e[5]?=some (some (.l xs))→xs.length+ys.length≤1000000→cy e (.s 5) (.l ys)=some (.l (xs++ys)):=fun e xs ys he h=>sV he h
  obtain⟨Ls,hLs,hall⟩:∃Ls:List (List Bool),Ls.map bT=[bT b0,bT b1,bT b2,bT b3,bT (List.replicate gss.length true),bT (List.replicate gss.length false),bT b0]∧∀bs∈Ls,gss.length=bs.length:=⟨[b0,b1,b2,b3,List.replicate gss.length true,List.replicate gss.length false,b0],rfl,fun bs hb=>by
    simp only [List.mem_cons,List.not_mem_nil,or_false] at hb
    rcases hb with rfl | rfl | rfl | rfl | rfl | rfl | rfl
    · exact l0
    · exact l1
    · exact l2
    · exact l3
    · simp
    · simp
    · exact l0⟩
  obtain⟨e3,h3,⟨w6,he3⟩⟩:=bU (own:=[(5,Ls.map bT)]) (g:=ah 6) (f:=Ae) (fun _ e=>∃v6,e=hX ns d3 (some (.d x)) W (gss.map aG) (Ls.map bT) v6 v7) (Ls.map bT) 0 (hX ns d3 (some (.d x)) W (gss.map aG) (Ls.map bT) v6 v7) (fun i y e hy ⟨v6,he⟩=>by
    subst he
    rw [List.getElem?_map] at hy
    obtain⟨bs,hb,rfl⟩:=Option.map_eq_some_iff.mp hy
    have tr:=uO wl pr (hall bs (List.mem_of_getElem? hb))
    refine⟨_,_,rfl,?_,fun p hp=>by simp at hp;subst hp;rfl,some (.d (bT bs)),rfl⟩
    unfold hX
    unfold bT at tr ⊢
    generalize (Ls.map fun bs=>PyData.tuple (bs.map .bool))=LL at*
    generalize bs.map PyData.bool=BB at*
    generalize gss.map aG=GG at*
    generalize aU W=WW at*
    simp? [Ae,tr]) ⟨v6,rfl⟩
  subst he3
  have hf:dc [6] AI (ah 6) Ae (hX ns d3 (some (.d x)) W (gss.map aG) (Ls.map bT) v6 v7)=some (.nx (hX ns d3 (some (.d x)) W (gss.map aG) (Ls.map bT) w6 v7)):=by
    unfold dc
    rw [show AI (hX ns d3 (some (.d x)) W (gss.map aG) (Ls.map bT) v6 v7)=some (Ls.map bT,[(5,Ls.map bT)],hX ns d3 (some (.d x)) W (gss.map aG) (Ls.map bT) v6 v7) from rfl]
    exact h3
  have g1':=Ah (W:=W)
  have gl2:∀e:En,g1 cC e [.d (.tuple (W.ties.map aM))]=some (.d (.int (W.ties.length:Int))):=fun e=>by
    show some (Rv.d (.int (((W.ties.map aM).length:Nat):Int)))=_
    rw [List.length_map]
  obtain⟨t',hfa⟩:=ec (cs:=[]) (ft:=cW) (fe:=yW) (b:=fun _=>true) (y:=fun x=>.tuple [x]) (aL 0 W.ties.length) none [] (fun _ _=>rfl) (fun x hx _=>by
    show yW [some (.d x)]=some (.d (.tuple [x]),[some (.d x)])
    simp? [yW]) (by simp [be];lia)
  have ea:[]++((aL 0 W.ties.length).filter fun _=>true).map (fun x=>PyData.tuple [x])=(nJ W.ties.length).map aG:=by
    rw [List.nil_append,List.filter_eq_self.mpr (fun _ _=>rfl)]
    unfold aL nJ jf
    rw [List.map_map,List.map_map,List.map_map]
    refine List.map_congr_left fun i _=>?_
    show PyData.tuple [.int ((0:Int)+(i:Int))]=.tuple [.int (i:Int)]
    rw [Int.zero_add]
  rw [ea] at hfa
  have hva:bY [] 1 Bl (ah 0) cW yW (hX ns d3 (some (.d x)) W (gss.map aG) (Ls.map bT) w6 v7)=some (.l ((nJ W.ties.length).map aG),hX ns d3 (some (.d x)) W (gss.map aG) (Ls.map bT) w6 v7):=by
    refine pQ (items:=aL 0 W.ties.length) (own:=[]) ?_ hfa
    have:=ce (n:=(W.ties.length:Int)) (fs:=(ab (aR (g1 cC) (ab (ax cT (af 3) (vC (.int 1))) aj)) aj)) (e:=hX ns d3 (some (.d x)) W (gss.map aG) (Ls.map bT) w6 v7) (e1:=hX ns d3 (some (.d x)) W (gss.map aG) (Ls.map bT) w6 v7) (by
      unfold hX
      generalize W.ties.map aM=TT at*
      generalize gss.map aG=GG at*
      generalize Ls.map bT=LL at*
      generalize aU W=WW at*
      simp? [g1',gl2]) (by lia) (by lia)
    rw [Int.toNat_natCast] at this
    exact this
  obtain⟨d4,bs,ta,hd4,hbl⟩:=ki (many:=(W.ties.length:Int)) hd3 (by lia) (by lia)
  have hbl':bs.length=W.ties.length:=by lia
  have tt:=jv wl (oq W.ties.length) (as:=bs) (by unfold nJ;rw [List.length_map,jg];exact hbl'.symm)
  rw [uC hbl'] at tt
  have ts:=yi (bs:=bs) (by lia)
  have gtl:∀(e:En) (xs:List PyData),g1 bQ e [.l xs]=some (.d (.tuple xs)):=fun e xs=>rfl
  refine⟨[some (.d (.list (ns.map .int))),some (.l (d4.map .int)),some (.d x),some (.d (aU W)),some (.d (.tuple (gss.map aG))),some (.l (Ls.map bT)),some (.d (bT bs)),some (.d (.tuple ((nJ W.ties.length).map aG)))],?_,.mk hd4⟩
  unfold hX at hf hva
  rw [hLs] at hf hva ⊢
  have rtT:=fun e=>rt e true
  have rtF:=fun e=>rt e false
  clear c1 c3 hfa ea h3 hall hLs pr hG rt
  have ub:∀b:List Bool,PyData.tuple (b.map .bool)=bT b:=fun _=>rfl
  rw [ub] at ta tt
  generalize bT bs=B9 at*
  generalize bT b0=B0 at*
  generalize bT b1=B1 at*
  generalize bT b2=B2 at*
  generalize bT b3=B3 at*
  generalize bT (List.replicate gss.length true)=B4 at*
  generalize bT (List.replicate gss.length false)=B5 at*
  generalize (nJ W.ties.length).map aG=AL at*
  generalize gss.map aG=GG at*
  generalize (gss.length:Int)=ng at*
  generalize W.ties.map aM=TT at*
  generalize (W.ties.length:Int)=nt at*
  generalize aU W=WW at*
  generalize aU W0=WW0 at*
  simp? [yO,tw,tg,hv,gln,rtT,rtF,gc,hf,hva,gtl,g1',gl2,ta,tt,ts]
theorem qK(ns:List Int)(hl:ns.length≤63):∃as',i8 [.d (.list (ns.map .int))]=some (.d (.bool true),as'):=by
  obtain⟨ds,td,hd⟩:=uM ns hl
  obtain⟨e2,h1,hI⟩:=bU (own:=[]) (g:=ah 2) (f:=yO) (fun _=>v0 ns) (aL 0 6) 0 [some (.d (.list (ns.map .int))),some (.l (ds.map .int)),none,none,none,none,none,none] (fun i x e hx hI=>by
    obtain⟨hd⟩:=hI
    rename_i ds v2 v3 v4 v5 v6 v7
    obtain⟨e2,hb,hI2⟩:=qL (ns:=ns) hd (x:=x) (v3:=v3) (v4:=v4) (v5:=v5) (v6:=v6) (v7:=v7)
    exact⟨_,e2,rfl,hb,bw,hI2⟩) (.mk hd)
  obtain⟨hd2⟩:=hI
  rename_i ds2 v2 v3 v4 v5 v6 v7
  have hfor:=fun Wl=>de (W:=Wl) (g:=ah 2) (f:=yO) (show Bm [some (.d (.list (ns.map .int))),some (.l (ds.map .int)),none,none,none,none,none,none]=some (aL 0 6,[],[some (.d (.list (ns.map .int))),some (.l (ds.map .int)),none,none,none,none,none,none]) from rfl)
  rw [h1] at hfor
  simp? [i8,ve,td,hfor]
def kE(P:Params)(k:Str)(t:Tok)(v:Value):DictEntry:=⟨PyData.keyHash P k,.str k t,v⟩
def kF(n:Str)(s:Stmt)(doc pm:Value)(c:Addr):Obj:=⟨.type "function",none,.func (W.fnOf n n (cw s) (bL s) (ao s) .none .none doc pm none (.ref c) .none),#[]⟩
def kI(n:Int):Value:=.int n 0
def kC(n:Str)(a:Nat)(l:List Value)(z:Nat):Obj:=⟨.type "code",none,.fields (Value.str n a::Value.str n (a+1)::Value.str "/claim/cut.py" (a+2)::l++[Value.str "/claim/cut.py" z]).toArray,#[]⟩
def Bn:Value:=.str "askedpairs.groups" 187
def fW:Value:=.str "law_askedpairs_k70_answers_of_groups" 195
def kK(P:Params):W.Frag:=[(3,⟨.type "dict",none,.dict (List.toArray [kE P "__name__" 165 (.str "law_askedpairs_k70_answers_of_groups" 195),kE P "__doc__" 166 (.none),kE P "__package__" 167 (.none),kE P "__loader__" 168 (.builtin "__main__.__loader__#opaque"),kE P "__spec__" 169 (.none),kE P "__annotations__" 170 (.ref 6),kE P "__builtins__" 171 (.ref 4),kE P "__file__" 173 (.str "/claim/cut.py" 172),kE P "__cached__" 174 (.none),kE P "together_answers" 194 (.ref 19),kE P "_law_mixed" 205 (.ref 26),kE P "_law_draws" 216 (.ref 33),kE P "_law_next" 223 (.ref 40),kE P "_law_gcd" 231 (.ref 47),kE P "_law_low" 240 (.ref 54),kE P "_law_same" 248 (.ref 61),kE P "_law_says" 256 (.ref 68),kE P "_law_chance" 265 (.ref 75),kE P "_law_worth" 273 (.ref 82),kE P "_law_ties" 292 (.ref 89),kE P "_law_web" 308 (.ref 96),kE P "_law_answers" 319 (.ref 103),kE P "_law_grouped" 325 (.ref 108),kE P "_law_right" 338 (.ref 115),kE P "law" 344 (.ref 120)]) 25,#[]⟩),
  (19,kF "together_answers" aB (.none) Bn 18),
  (18,kC "together_answers" 189 [kI 2,kI 3,kI 0,kI 0,kI 3,.ref 15,.bool true,kI 181,.ref 16,.none,.none,.none,.ref 17,kI 192,kI 2] 193),
  (26,kF "_law_mixed" gG (.none) fW 25),
  (25,kC "_law_mixed" 197 [kI 6,kI 2,kI 0,kI 0,kI 3,.ref 20,.bool true,kI 181,.ref 21,.none,.ref 22,.ref 23,.ref 24,kI 203,kI 6] 204),
  (33,kF "_law_draws" gF (.none) fW 32),
  (32,kC "_law_draws" 206 [kI 9,kI 1,kI 0,kI 0,kI 3,.ref 27,.bool true,kI 181,.ref 28,.none,.ref 29,.ref 30,.ref 31,kI 214,kI 9] 215),
  (40,kF "_law_next" eY (.none) fW 39),
  (39,kC "_law_next" 217 [kI 22,kI 1,kI 0,kI 0,kI 3,.ref 34,.bool true,kI 181,.ref 35,.none,.ref 36,.ref 37,.ref 38,kI 221,kI 22] 222),
  (47,kF "_law_gcd" md (.none) fW 46),
  (46,kC "_law_gcd" 224 [kI 26,kI 2,kI 0,kI 0,kI 3,.ref 41,.bool true,kI 181,.ref 42,.none,.ref 43,.ref 44,.ref 45,kI 229,kI 26] 230),
  (54,kF "_law_low" me (.none) fW 53),
  (53,kC "_law_low" 232 [kI 30,kI 2,kI 0,kI 0,kI 3,.ref 48,.bool true,kI 181,.ref 49,.none,.ref 50,.ref 51,.ref 52,kI 238,kI 30] 239),
  (61,kF "_law_same" ji (.none) fW 60),
  (60,kC "_law_same" 241 [kI 33,kI 2,kI 0,kI 0,kI 3,.ref 55,.bool true,kI 181,.ref 56,.none,.ref 57,.ref 58,.ref 59,kI 246,kI 33] 247),
  (68,kF "_law_says" jj (.none) fW 67),
  (67,kC "_law_says" 249 [kI 35,kI 2,kI 0,kI 0,kI 3,.ref 62,.bool true,kI 181,.ref 63,.none,.ref 64,.ref 65,.ref 66,kI 254,kI 35] 255),
  (75,kF "_law_chance" el (.none) fW 74),
  (74,kC "_law_chance" 257 [kI 39,kI 2,kI 0,kI 0,kI 3,.ref 69,.bool true,kI 181,.ref 70,.none,.ref 71,.ref 72,.ref 73,kI 263,kI 39] 264),
  (82,kF "_law_worth" gJ (.none) fW 81),
  (81,kC "_law_worth" 266 [kI 49,kI 2,kI 0,kI 0,kI 3,.ref 76,.bool true,kI 181,.ref 77,.none,.ref 78,.ref 79,.ref 80,kI 271,kI 49] 272),
  (89,kF "_law_ties" jk (.none) fW 88),
  (88,kC "_law_ties" 274 [kI 51,kI 3,kI 0,kI 0,kI 3,.ref 83,.bool true,kI 181,.ref 84,.none,.ref 85,.ref 86,.ref 87,kI 290,kI 51] 291),
  (96,kF "_law_web" mf (.none) fW 95),
  (95,kC "_law_web" 293 [kI 66,kI 3,kI 0,kI 0,kI 3,.ref 90,.bool true,kI 181,.ref 91,.none,.ref 92,.ref 93,.ref 94,kI 306,kI 66] 307),
  (103,kF "_law_answers" eh (.none) fW 102),
  (102,kC "_law_answers" 309 [kI 76,kI 2,kI 0,kI 0,kI 3,.ref 97,.bool true,kI 181,.ref 98,.none,.ref 99,.ref 100,.ref 101,kI 317,kI 76] 318),
  (108,kF "_law_grouped" cn (.none) fW 107),
  (107,kC "_law_grouped" 320 [kI 84,kI 2,kI 0,kI 0,kI 3,.ref 104,.bool true,kI 181,.ref 105,.none,.none,.none,.ref 106,kI 323,kI 84] 324),
  (115,kF "_law_right" gH (.none) fW 114),
  (114,kC "_law_right" 326 [kI 98,kI 3,kI 0,kI 0,kI 3,.ref 109,.bool true,kI 181,.ref 110,.none,.ref 111,.ref 112,.ref 113,kI 336,kI 98] 337),
  (120,kF "law" gK (.none) fW 119),
  (119,kC "law" 339 [kI 107,kI 1,kI 0,kI 0,kI 3,.ref 116,.bool true,kI 181,.ref 117,.none,.none,.none,.ref 118,kI 342,kI 107] 343)]
def kA:List Addr:=[3,19,18,26,25,33,32,40,39,47,46,54,53,61,60,68,67,75,74,82,81,89,88,96,95,103,102,108,107,115,114,120,119]
def kq:Program:={PySem.Challenge.pw_askedpairs_k70_answers_of_groups with main:={PySem.Challenge.pw_askedpairs_k70_answers_of_groups.main with body:=[top 1,top 3,top 4,top 5,top 6,top 7,top 8,top 9,top 10,top 11,top 12,top 13,top 14,top 15,top 16,top 17]}}
def kH:W.Hook:=W.kHook kK kA (fun _=>by kernel_rfl)
theorem left:W.LeftO PySem.Challenge.pw_askedpairs_k70_answers_of_groups kq [] (fun s=>W.xlAt kq [] s&&W.recOk (W.RowW.records (W.OpenRow.toRowW (W.OpenLaw.row PySem.Challenge.rw_askedpairs_k70_answers_of_groups))) s) (W.Hook.obs kH) (W.Hook.val kH) 1162:=fun w=>by kernel_rfl
theorem AR{P:List Value→Prop}(h:∀a0,P [a0]):∀us:List Value,us.length=1→P us:=fun us e=>match us,e with | [a0],_=>h a0
theorem tF{P:List Value→Prop}(h:∀a0 a1,P [a0,a1]):∀us:List Value,us.length=2→P us:=fun us e=>match us,e with | [a0,a1],_=>h a0 a1
theorem Ai{P:List Value→Prop}(h:∀a0 a1 a2,P [a0,a1,a2]):∀us:List Value,us.length=3→P us:=fun us e=>match us,e with | [a0,a1,a2],_=>h a0 a1 a2
theorem hm{w:World}{h:Heap}{mg:Str→Option Value}{n:Str}{s:Stmt}{a:Addr}{ps:List Str}(c:Addr)(d p:Value)(X:(kK w.params).In h)(G:h.Ns mainGlobals mg)
    (e:(W.nsIn (kK w.params) mainGlobals n,List.lookup a (kK w.params),W.codeIn (kK w.params) (.ref c) n,W.keepIn (kK w.params) (.ref a))=(some (some (.ref a)),some (kF n s d p c),true,true))
    (b:∀(kV doc pm:Value) (an:Option Addr) (cdv ct:Value) (us:List Value),us.length=ps.length→bindArgs (W.fnOf n n (cw s) (bL s) (ao s) .none kV doc pm an cdv ct) ⟨us,[]⟩=pure (ps.zip us)):
    cB (kK w.params) mg n s a (W.fnOf n n (cw s) (bL s) (ao s) .none .none d p none (.ref c) .none) ps:=wG X G (congrArg (·.1) e) (congrArg (·.2.1) e) (congrArg (·.2.2.1) e) (congrArg (·.2.2.2) e) b
theorem all_mk{l:W.OpenLaw}{w:World}{h:Heap}{mg:Str→Option Value}{fa:Addr}(X:(kK w.params).In h)(G:h.Ns mainGlobals mg)(hfa:mg "law"=some (.ref fa)):
    ∃fd:FuncData,(∀(s:Shared) (v:Value),BindsTo s fd ⟨[v],[]⟩ [("_law_script",v)])∧∀base:Heap,(kK w.params).In base→base.Ns mainGlobals mg→a' l.prog w (kK w.params) mg base dA 6 fa fd ["_law_script"] (dP (kK w.params) 1 i8):=by
  have e:=hfa.symm.trans (W.mg_of X G (show W.nsIn (kK w.params) mainGlobals "law"=some (some (.ref 120)) by kernel_rfl))
  cases e
  have T:lm mg:=⟨W.mg_none_of X G (show W.nsIn (kK w.params) mainGlobals "abs"=some none by kernel_rfl),W.mg_none_of X G (show W.nsIn (kK w.params) mainGlobals "len"=some none by kernel_rfl),W.mg_none_of X G (show W.nsIn (kK w.params) mainGlobals "min"=some none by kernel_rfl),W.mg_none_of X G (show W.nsIn (kK w.params) mainGlobals "max"=some none by kernel_rfl),W.mg_none_of X G (show W.nsIn (kK w.params) mainGlobals "range"=some none by kernel_rfl),W.mg_none_of X G (show W.nsIn (kK w.params) mainGlobals "repr"=some none by kernel_rfl),W.mg_none_of X G (show W.nsIn (kK w.params) mainGlobals "tuple"=some none by kernel_rfl),W.mg_none_of X G (show W.nsIn (kK w.params) mainGlobals "int"=some none by kernel_rfl),W.mg_none_of X G (show W.nsIn (kK w.params) mainGlobals "zip"=some none by kernel_rfl),W.mg_none_of X G (show W.nsIn (kK w.params) mainGlobals "enumerate"=some none by kernel_rfl),W.mg_none_of X G (show W.nsIn (kK w.params) mainGlobals "isinstance"=some none by kernel_rfl)⟩
  have h_together_answers:cB (kK w.params) mg "together_answers" aB 19 _ ["web","groups","answers"]:=hm 18 (.none) Bn X G (by kernel_rfl) fun _ _ _ _ _ _=>Ai fun _ _ _=>rfl
  have hLmixed:cB (kK w.params) mg "_law_mixed" gG 26 _ ["_law_cell","_law_k"]:=hm 25 (.none) fW X G (by kernel_rfl) fun _ _ _ _ _ _=>tF fun _ _=>rfl
  have hLdraws:cB (kK w.params) mg "_law_draws" gF 33 _ ["_law_script"]:=hm 32 (.none) fW X G (by kernel_rfl) fun _ _ _ _ _ _=>AR fun _=>rfl
  have hLnext:cB (kK w.params) mg "_law_next" eY 40 _ ["_law_drawn"]:=hm 39 (.none) fW X G (by kernel_rfl) fun _ _ _ _ _ _=>AR fun _=>rfl
  have hLgcd:cB (kK w.params) mg "_law_gcd" md 47 _ ["_law_one","_law_other"]:=hm 46 (.none) fW X G (by kernel_rfl) fun _ _ _ _ _ _=>tF fun _ _=>rfl
  have hLlow:cB (kK w.params) mg "_law_low" me 54 _ ["_law_top","_law_bottom"]:=hm 53 (.none) fW X G (by kernel_rfl) fun _ _ _ _ _ _=>tF fun _ _=>rfl
  have hLsame:cB (kK w.params) mg "_law_same" ji 61 _ ["_law_found","_law_due"]:=hm 60 (.none) fW X G (by kernel_rfl) fun _ _ _ _ _ _=>tF fun _ _=>rfl
  have hLsays:cB (kK w.params) mg "_law_says" jj 68 _ ["_law_found","_law_due"]:=hm 67 (.none) fW X G (by kernel_rfl) fun _ _ _ _ _ _=>tF fun _ _=>rfl
  have hLchance:cB (kK w.params) mg "_law_chance" el 75 _ ["_law_number","_law_kind"]:=hm 74 (.none) fW X G (by kernel_rfl) fun _ _ _ _ _ _=>tF fun _ _=>rfl
  have hLworth:cB (kK w.params) mg "_law_worth" gJ 82 _ ["_law_number","_law_kind"]:=hm 81 (.none) fW X G (by kernel_rfl) fun _ _ _ _ _ _=>tF fun _ _=>rfl
  have hLties:cB (kK w.params) mg "_law_ties" jk 89 _ ["_law_drawn","_law_things","_law_many"]:=hm 88 (.none) fW X G (by kernel_rfl) fun _ _ _ _ _ _=>Ai fun _ _ _=>rfl
  have hLweb:cB (kK w.params) mg "_law_web" mf 96 _ ["_law_drawn","_law_most","_law_ties_here"]:=hm 95 (.none) fW X G (by kernel_rfl) fun _ _ _ _ _ _=>Ai fun _ _ _=>rfl
  have hLanswers:cB (kK w.params) mg "_law_answers" eh 103 _ ["_law_drawn","_law_many"]:=hm 102 (.none) fW X G (by kernel_rfl) fun _ _ _ _ _ _=>tF fun _ _=>rfl
  have hLgrouped:cB (kK w.params) mg "_law_grouped" cn 108 _ ["_law_drawn","_law_web_here"]:=hm 107 (.none) fW X G (by kernel_rfl) fun _ _ _ _ _ _=>tF fun _ _=>rfl
  have hLright:cB (kK w.params) mg "_law_right" gH 115 _ ["_law_web_here","_law_groups","_law_answers_here"]:=hm 114 (.none) fW X G (by kernel_rfl) fun _ _ _ _ _ _=>Ai fun _ _ _=>rfl
  have h_law:cB (kK w.params) mg "law" gK 120 _ ["_law_script"]:=hm 119 (.none) fW X G (by kernel_rfl) fun _ _ _ _ _ _=>AR fun _=>rfl
  refine⟨W.fnOf "law" "law" (cw gK) (bL gK) (ao gK) .none .none (.none) fW none (.ref 119) .none,fun s v=>.of_eq rfl,fun base _ _=>?_⟩
  have G_together_answers:=fL (P:=l.prog) (w:=w) (base:=base) h_together_answers T
  have GLmixed:=qV (P:=l.prog) (w:=w) (base:=base) hLmixed T
  have GLdraws:=qU (P:=l.prog) (w:=w) (base:=base) hLdraws T hLmixed GLmixed
  have GLnext:=tK (P:=l.prog) (w:=w) (base:=base) hLnext T
  have GLgcd:=wZ (P:=l.prog) (w:=w) (base:=base) hLgcd T
  have GLlow:=w_ (P:=l.prog) (w:=w) (base:=base) hLlow T hLgcd GLgcd
  have GLsame:=tL (P:=l.prog) (w:=w) (base:=base) hLsame T
  have GLsays:=tM (P:=l.prog) (w:=w) (base:=base) hLsays T
  have GLchance:=pA (P:=l.prog) (w:=w) (base:=base) hLchance T hLlow GLlow
  have GLworth:=qX (P:=l.prog) (w:=w) (base:=base) hLworth T
  have GLties:=tN (P:=l.prog) (w:=w) (base:=base) hLties T hLnext GLnext hLchance GLchance hLworth GLworth
  have GLweb:=xa (P:=l.prog) (w:=w) (base:=base) hLweb T hLties GLties hLnext GLnext
  have GLanswers:=m8 (P:=l.prog) (w:=w) (base:=base) hLanswers T hLnext GLnext
  have GLgrouped:=m9 (P:=l.prog) (w:=w) (base:=base) hLgrouped T hLchance GLchance hLnext GLnext
  have GLright:=qW (P:=l.prog) (w:=w) (base:=base) hLright T h_together_answers G_together_answers hLsays GLsays
  have G_law:=xb (P:=l.prog) (w:=w) (base:=base) h_law T hLdraws GLdraws hLgrouped GLgrouped hLanswers GLanswers hLweb GLweb hLsame GLsame hLright GLright h_together_answers G_together_answers
  exact G_law
def zN(K:W.Frag):Sp:=fun vs H Q _=>∃(a:Addr) (ns:List Int),vs=[.ref a]∧er K H a (ns.map V.int)∧ns.length≤63∧∀H',Q (.bl true) H'
theorem wU{K:W.Frag}{vs:List V}{H:Hp}{Q:VK}{E:XK}(h:zN K vs H Q E):dP K 1 i8 vs H Q E:=by
  obtain⟨a,ns,rfl,hS,hl,q⟩:=h
  obtain⟨as',hm⟩:=qK ns hl
  exact nq hS hm q
theorem walk{l:W.OpenLaw}{q:Program}{loose:List Str}{XP:(Str→Option Value)→Heap→Prop}{YP:World→Heap→Prop}{d:DefRec}{K:Params→W.Frag}(hn:l.most=some 63)(hdf:d.params.defaults=[])
    (hY:∀(w:World) (h:Heap),YP w h→(K w.params).In h)
    (F:∀(w:World) (mg:Str→Option Value) (fa:Addr) (h:Heap),(K w.params).In h→h.Ns mainGlobals mg→mg d.name=some (.ref fa)→
      ∃fd:FuncData,(∀(s:Shared) (u:Value),BindsTo s fd ⟨[u],[]⟩ [("_law_script",u)])∧∀base:Heap,(K w.params).In base→base.Ns mainGlobals mg→a' l.prog w (K w.params) mg base dA 6 fa fd ["_law_script"] (dP (K w.params) 1 i8)):
    W.WalkO q loose XP YP l.row.toRowW d [] (fun f vs=>PySem.call f vs):=
  L2.walk_of (n:=63) (k:=6) (x:="_law_script") (CX:=fun _=>dA) (sp:=fun w=>dP (K w.params) 1 i8) hn (by decide) hdf ⟨rfl,by decide,by decide,rfl⟩ hY F (fun _ _ a ns hl _ hS=>wU ⟨a,ns,rfl,hS,hl,fun _=>rfl⟩) fun _ _ _ _ _ z=>z
end V70
open PySem PySem.W PyProof.Rows
set_option maxRecDepth 100000 in
set_option maxHeartbeats 0 in
theorem PySem.Challenge.cw_askedpairs_k70_answers_of_groups_holds : PySem.Challenge.rw_askedpairs_k70_answers_of_groups.Holds := by
  w_on;o_law
  refine holds_open (q:=V70.kq) (loose:=[]) (Xt:=fun s=>xlAt V70.kq [] s&&recOk (RowW.records (OpenRow.toRowW (OpenLaw.row PySem.Challenge.rw_askedpairs_k70_answers_of_groups))) s) (XP:=XL V70.kq []) (Yf:=Hook.obs V70.kH) (Ya:=Hook.val V70.kH) (YP:=Hook.says V70.kH) (N:=1162) V70.left (Hook.of V70.kH) (Hook.keeps V70.kH) (fun s e=>xl_of s (Bool.and_eq_true_iff.mp e).1) XL.keeps (by rfl) (by rfl) (by rfl) (fun s e=>recFacts_of (Bool.and_eq_true_iff.mp e).2) (by rfl) (by assumption) (by decide+kernel) ⟨rfl,rfl,rfl,rfl,rfl,by decide+kernel⟩ ?hw ?hc
  case hw=>w_witness2
  case hc=>exact V70.walk (l:=PySem.Challenge.rw_askedpairs_k70_answers_of_groups) rfl rfl (fun w h Y=>kIn_of Y) (fun w mg fa h KX G hmg=>V70.all_mk KX G hmg)
