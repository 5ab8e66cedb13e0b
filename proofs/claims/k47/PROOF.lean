import PyProof.Rows.All
import Wide.All
import OpenK.AllK
import Wide.FinOn
import Lean
import PyProof.EqAt
import PyProof.EqKinds
import PyProof.TupleCall
import PyProof.ReprRoads
import PyProof.IsInstance
import PyProof.IsInstanceH
import PyProof.FitsBits
import PyProof.CompFree
import PyProof.Rows.SumAny
import PyProof.Rows.SortShell
import PyProof.Rows.TupAdd
import PyProof.NeKinds
import PyProof.ConsumeWalk
import PyProof.ZipIter
import PyProof.TupleIter
import PyProof.LayNew
import PyProof.Draws
import PyProof.EnumFor
import PyProof.EnumMake
import PyProof.ListRange
import PyProof.CollectIter
import KE.KRevIter
import PyProof.ListMulRoad
import PyProof.TupleOps
import PyProof.TupleOfStr
import PyProof.WalksMore
import PyProof.FactsAll.range_iterator
import PyProof.IsRules
import PyProof.CompUse
import PyProof.P3In
import PyProof.EqLayable
import KE.KIsAll
import PyProof.Rows.FactsN_isinstance
import PyProof.CallStr
import PyProof.Rows.StrWeight2
import PyProof.Rows.FStr
import PyProof.StrLawsRepr
import PyProof.Rows.SetFrom
import KE.KIntText
import KE.KRevSl
import PyProof.Rows.SeqMore2
import PySem.Challenge.RW_askedpairs_k47_prices_right_or_not
set_option Elab.async false
set_option linter.all false
set_option maxRecDepth 100000
namespace L2
open PySem PySem.Spec PyProof.Rows
abbrev gv:=Sum Int Str
def mU:gv→Value→Bool
  | .inl k,v=>Value.isInt k v
  | .inr x,v=>Value.isStrOf x v
def Fs(w:World):gv→Int
  | .inl k=>hashInt k
  | .inr x=>hashStr w x
theorem bH:∀{k:gv} {v:Value},mU k v=true→(∃i t,k=Sum.inl i∧v=Value.int i t)∨(∃x t,k=Sum.inr x∧v=Value.str x t)
  | .inl i,v,h=>by
    obtain⟨t,e⟩:=Value.isInt_shape (k:=i) (v:=v) h
    exact .inl ⟨i,t,rfl,e⟩
  | .inr x,v,h=>by
    obtain⟨t,e⟩:=Value.isStrOf_shape (x:=x) (v:=v) h
    exact .inr ⟨x,t,rfl,e⟩
theorem uV(i:Int)(t:Tok):mU (.inl i) (.int i t)=true:=by simp [mU,Value.isInt]
theorem uW(x:Str)(t:Tok):mU (.inr x) (.str x t)=true:=by simp [mU,Value.isStrOf]
theorem Bg(a b:Int):decide ((Sum.inl a:gv)=Sum.inl b)=(a==b):=by
  by_cases e:a=b
  · subst e;simp
  · have h:¬(Sum.inl a:gv)=Sum.inl b:=fun q=>e (Sum.inl.inj q)
    rw [decide_eq_false h]
    exact(beq_eq_false_iff_ne.mpr e).symm
theorem Bj(a b:Str):decide ((Sum.inr a:gv)=Sum.inr b)=decide (a=b):=by
  by_cases e:a=b
  · subst e;simp
  · have h:¬(Sum.inr a:gv)=Sum.inr b:=fun q=>e (Sum.inr.inj q)
    rw [decide_eq_false h,decide_eq_false e]
theorem Bh(a:Int)(b:Str):decide ((Sum.inl a:gv)=Sum.inr b)=false:=decide_eq_false (fun q=>nomatch q)
theorem Bi(a:Str)(b:Int):decide ((Sum.inr a:gv)=Sum.inl b)=false:=decide_eq_false (fun q=>nomatch q)
def dA(prog:Program)(w:World):PySem.KeyKind prog w gv where
  is:=mU
  hash:=Fs w
  inj:=fun v a b ha hb=>by
    rcases bH ha with ⟨i,t,rfl,rfl⟩ | ⟨x,t,rfl,rfl⟩
    · rcases bH hb with ⟨j,u,rfl,e⟩ | ⟨y,u,rfl,e⟩
      · injection e with e1 _;rw [e1]
      · exact nomatch e
    · rcases bH hb with ⟨j,u,rfl,e⟩ | ⟨y,u,rfl,e⟩
      · exact nomatch e
      · injection e with e1 _;rw [e1]
  byValue:=fun k v h=>by
    rcases bH h with ⟨i,t,rfl,rfl⟩ | ⟨x,t,rfl,rfl⟩<;>rfl
  pyHash:=fun hv h=>by
    rcases bH hv with ⟨i,t,rfl,rfl⟩ | ⟨x,t,rfl,rfl⟩
    · exact wpAny_pyHash_int h
    · exact wpAny_pyHash_str h
  eqBool:=fun hu hv h=>by
    rcases bH hu with ⟨i,t,rfl,rfl⟩ | ⟨x,t,rfl,rfl⟩
    · rcases bH hv with ⟨j,u,rfl,rfl⟩ | ⟨y,u,rfl,rfl⟩
      · rw [Bg] at h;exact wpAny_eqBool_int h
      · rw [Bh] at h;exact SeqAt.EqAt.int_str i t y u _ _ _ _ h
    · rcases bH hv with ⟨j,u,rfl,rfl⟩ | ⟨y,u,rfl,rfl⟩
      · rw [Bi] at h;exact SeqAt.EqAt.str_int x t j u _ _ _ _ h
      · rw [Bj] at h;exact wpAny_eqBool_str h
  «strs»:=fun k x t v h=>by
    rcases bH h with ⟨i,u,rfl,e⟩ | ⟨y,u,rfl,e⟩
    · exact nomatch e
    · injection e with e1 _
      subst e1
      cases v<;>rfl
theorem qI(prog:Program)(w:World)(i:Int)(t:Tok):(dA prog w).is (.inl i) (.int i t)=true:=uV i t
theorem qJ(prog:Program)(w:World)(x:Str)(t:Tok):(dA prog w).is (.inr x) (.str x t)=true:=uW x t
end L2
namespace L2
open PySem PySem.Spec PyProof.Rows
inductive V where
  | non | bl (b:Bool) | int (i:Int) | str (x:Str) | byt (b:Array UInt8) | flt (b:UInt64) | ref (a:Addr) | ty (n:String)
  deriving DecidableEq
def bu:V→Value→Prop
  | .non,u=>u=Value.none
  | .bl b,u=>u=Value.bool b
  | .int i,u=>∃t,u=Value.int i t
  | .str x,u=>∃t,u=Value.str x t
  | .byt b,u=>∃t,u=Value.bytes b t
  | .flt b,u=>∃t,u=Value.float b t
  | .ref a,u=>u=Value.ref a
  | .ty n,u=>u=Value.type n
abbrev aQ:List V→List Value→Prop:=Paired bu
theorem aQ.length{xs:List V}{us:List Value}(r:aQ xs us):xs.length=us.length:=Paired.length r
theorem aQ.get:∀{xs:List V} {us:List Value} {i:Nat} {x:V},aQ xs us→xs[i]?=some x→∃u,us[i]?=some u∧bu x u
  | _,_,_,_,.nil,e=>by simp at e
  | _,_,0,_,.cons r _,e=>by simp at e;subst e;exact⟨_,rfl,r⟩
  | _,_,i+1,x,.cons _ t,e=>by
    obtain⟨u,h1,h2⟩:=aQ.get (i:=i) (x:=x) t (by simpa using e)
    exact⟨u,by simpa using h1,h2⟩
theorem aQ.set{x:V}{u:Value}(r:bu x u):∀{xs:List V} {us:List Value} (i:Nat),aQ xs us→aQ (xs.set i x) (us.set i u)
  | _,_,_,.nil=>.nil
  | _,_,0,.cons _ t=>.cons r t
  | _,_,i+1,.cons q t=>.cons q (aQ.set r i t)
theorem aQ.append:∀{xs ys:List V} {us ws:List Value},aQ xs us→aQ ys ws→aQ (xs++ys) (us++ws)
  | _,_,_,_,.nil,s=>s
  | _,_,_,_,.cons r t,s=>.cons r (aQ.append t s)
theorem aQ.take:∀{xs:List V} {us:List Value} (n:Nat),aQ xs us→aQ (xs.take n) (us.take n)
  | _,_,0,_=>.nil
  | _,_,_+1,.nil=>.nil
  | _,_,n+1,.cons r t=>.cons r (aQ.take n t)
theorem aQ.drop:∀{xs:List V} {us:List Value} (n:Nat),aQ xs us→aQ (xs.drop n) (us.drop n)
  | _,_,0,r=>r
  | _,_,_+1,.nil=>.nil
  | _,_,n+1,.cons _ t=>aQ.drop n t
def C3:Option V→Option Value→Prop
  | some v,some u=>bu v u
  | none,none=>True
  | _,_=>False
def KV{κ:Type}:List (κ × V)→List (κ × Value)→Prop:=Paired fun(p:κ × V) (q:κ × Value)=>p.1=q.1∧bu p.2 q.2
def kV:gv→V
  | .inl i=>.int i
  | .inr x=>.str x
inductive HO where
  /-- a list -/
  | lst (xs:List V)
  /-- a tuple (never changes) -/
  | tup (xs:List V)
  /-- a dict whose keys are ints and texts; one whose keys are tuples of ints and texts (the empty one is both) -/
  | dK (kvs:List (gv × V)) | dT (kvs:List (List gv × V))
  /-- a set of ints: its members, its size -/
  | set (S:Int→Bool) (n:Nat)
  /-- an instance of the class at C, its dict at dx, its attributes -/
  | ins (C dx:Addr) (fs:List (Str × V))
  /-- the dict of the instance at x -/
  | own (x:Addr)
  /-- the dict of an exception -/
  | xd (fs:List (Str × V))
  /-- a bound method, f of x -/
  | met (f x:Addr)
  /-- a range object lo, lo + 1, .. below hi -/
  | rng (lo hi:Int)
  /-- a thing that is known to the object (the script; a dict while a loop walks it): read, never written while it is so -/
  | frz (o:Obj) (u:HO)
  /-- a code object's table -/
  | tbl (ps:Array Value)
  /-- any other thing, by what is true of its one object (a def of one's own: SetO a S n := HO.ext fun h => ..) -/
  | ext (φ:Heap→Prop)
abbrev Hp:=Addr→Option HO
def bi(H:Hp)(a:Addr)(o:HO):Hp:=fun b=>if b=a then some o else H b
theorem aG{H:Hp}{a:Addr}{o:HO}:bi H a o a=some o:=by unfold bi;rw [if_pos rfl]
theorem aM{H:Hp}{a b:Addr}{o:HO}(h:b≠a):bi H a o b=H b:=by unfold bi;rw [if_neg h]
theorem dW{H:Hp}{a b:Addr}{o:HO}(h:H a=some o)(h':H b=none):a≠b:=by
  intro e;subst e;rw [h] at h';cases h'
def ml(h:Heap)(a:Addr)(items:Array Value):Prop:=∃o,h.get? a=some o∧o.cls=.type "tuple"∧∃n,o.data=.seq items n∧o.dict=none
theorem ml.tup{h:Heap}{a:Addr}{items:Array Value}(x:ml h a items):IsTup h a items:=let ⟨o,ho,hc,n,hd,_⟩:=x;⟨o,ho,hc,n,hd⟩
theorem ml.new(h:Heap)(items:Array Value):ml (h.push {cls:=.type "tuple",data:=.seq items}) h.objs.size items:=⟨_,Heap.get?_push_size _ rfl,rfl,_,rfl,rfl⟩
section
variable(P:Program)(w:World)
def cY(H:Hp)(h:Heap)(a:Addr):HO→Prop
  | .lst xs=>xs.length≤sizeLine∧∃(its:List Value) (n:Nat),aQ xs its∧h.get? a=some {cls:=.type "list",data:=.seq its.toArray n}
  | .tup xs=>xs.length≤sizeLine∧∃its:List Value,aQ xs its∧ml h a its.toArray
  | .dK kvs=>kvs.length≤sizeLine∧(a==sysModules)=false∧∃vs,KV kvs vs∧h.DictOf (dA P w) a vs
  | .dT kvs=>kvs.length≤sizeLine∧(a==sysModules)=false∧∃xs:List (List gv × Addr × Value),
      Paired (fun(p:List gv × V) (q:List gv × Addr × Value)=>p.1=q.1∧H q.2.1=some (.tup (p.1.map kV))∧bu p.2 q.2.2) kvs xs∧
      ∃o es ep,h.get? a=some o∧o.ExactDict∧o.data=.dict es ep∧es.toList=xs.map (entryOfKey (tupleKind (dA P w)))∧(xs.map (·.1)).Nodup
  | .set S n=>h.SetOf (intKind P w) a S n
  | .ins C dx fs=>H dx=some (.own a)∧fs.length≤1000∧dx≠a∧h.get? a=some (PySem.W.instObj C dx)∧
      ∃mA,h.Ns1 dx mA∧(∀f,C3 (fs.lookup f) (mA f))∧PySem.Within mA (fs.map (·.1))
  | .own _=>∃o,h.get? a=some o
  | .xd fs=>∃mA,h.Ns1 a mA∧∀f,C3 (fs.lookup f) (mA f)
  | .rng lo hi=>∃t u v,h.get? a=some {cls:=.type "range",data:=.fields #[.int lo t,.int hi u,.int 1 v]}
  | .frz o u=>h.get? a=some o∧cY H h a u
  | .tbl ps=>h.get? a=some {cls:=.none,data:=.fields ps}
  | .met f x=>h.get? a=some (PySem.W.methodObj (.ref f) (.ref x))
  | .ext φ=>φ h∧(∃o,h.get? a=some o)∧∀h1 h2:Heap,φ h1→(∀o,h1.get? a=some o→h2.get? a=some o)→φ h2
def lz(H:Hp)(h:Heap):Prop:=∀a o,H a=some o→cY P w H h a o
end
section
variable{P:Program}{w:World}{H H':Hp}{h h':Heap}{a:Addr}{o:HO}
theorem cY.lt(x:cY P w H h a o):a < h.objs.size:=by
  cases o with
  | lst xs=>obtain⟨_,_,_,_,e⟩:=x;exact Heap.lt_size e
  | tup xs=>obtain⟨_,_,_,p⟩:=x;exact p.tup.lt
  | dK kvs=>obtain⟨_,_,_,_,o,_,_,e,_⟩:=x;exact Heap.lt_size e
  | dT kvs=>obtain⟨_,_,_,_,o,_,_,e,_⟩:=x;exact Heap.lt_size e
  | set S n=>obtain⟨o,_,_,_,e,_⟩:=x;exact Heap.lt_size e
  | ins C dx fs=>obtain⟨_,_,_,e,_⟩:=x;exact Heap.lt_size e
  | own y=>obtain⟨_,e⟩:=x;exact Heap.lt_size e
  | xd fs=>obtain⟨_,⟨_,_,_,e,_⟩,_⟩:=x;exact Heap.lt_size e
  | rng lo hi=>obtain⟨_,_,_,e⟩:=x;exact Heap.lt_size e
  | frz ob u=>obtain⟨e,_⟩:=x;exact Heap.lt_size e
  | tbl ps=>exact Heap.lt_size (show h.get? a=some _ from x)
  | met f y=>exact Heap.lt_size (show h.get? a=some _ from x)
  | ext φ=>obtain⟨_,⟨_,e⟩,_⟩:=x;exact Heap.lt_size e
theorem Paired.mapP{α β:Type}{F G:α→β→Prop}:∀{l₁:List α} {l₂:List β},Paired F l₁ l₂→(∀a b,F a b→G a b)→Paired G l₁ l₂
  | _,_,.nil,_=>.nil
  | _,_,.cons r t,f=>.cons (f _ _ r) (Paired.mapP t f)
theorem cY.stay(x:cY P w H h a o)(k:∀b u,(b=a∨H b=some (.own a))→h.get? b=some u→h'.get? b=some u)
    (ho:∀b,H b=some (.own a)→H' b=some (.own a))(ht:∀b xs,H b=some (.tup xs)→H' b=some (.tup xs)):cY P w H' h' a o:=by
  induction o with
  | lst xs=>obtain⟨z,its,n,r,e⟩:=x;exact⟨z,its,n,r,k _ _ (.inl rfl) e⟩
  | tup xs=>obtain⟨z,its,r,ob,e,c⟩:=x;exact⟨z,its,r,ob,k _ _ (.inl rfl) e,c⟩
  | dK kvs=>obtain⟨z,y,vs,r,ob,es,ep,e,c⟩:=x;exact⟨z,y,vs,r,ob,es,ep,k _ _ (.inl rfl) e,c⟩
  | dT kvs=>
    obtain⟨z,y,xs,r,ob,es,ep,e,c⟩:=x
    exact⟨z,y,xs,Paired.mapP r fun p q z=>⟨z.1,ht _ _ z.2.1,z.2.2⟩,ob,es,ep,k _ _ (.inl rfl) e,c⟩
  | set S n=>obtain⟨ob,es,ep,t,e,c⟩:=x;exact⟨ob,es,ep,t,k _ _ (.inl rfl) e,c⟩
  | ins C dx fs=>
    obtain⟨d,z,ne,e,mA,⟨od,es,ep,e2,c⟩,r⟩:=x
    exact⟨ho _ d,z,ne,k _ _ (.inl rfl) e,mA,⟨od,es,ep,k _ _ (.inr d) e2,c⟩,r⟩
  | own y=>obtain⟨ob,e⟩:=x;exact⟨ob,k _ _ (.inl rfl) e⟩
  | xd fs=>obtain⟨mA,⟨od,es,ep,e,c⟩,r⟩:=x;exact⟨mA,⟨od,es,ep,k _ _ (.inl rfl) e,c⟩,r⟩
  | rng lo hi=>obtain⟨t,u,v,e⟩:=x;exact⟨t,u,v,k _ _ (.inl rfl) e⟩
  | frz ob u ih=>obtain⟨e,q⟩:=x;exact⟨k _ _ (.inl rfl) e,ih q⟩
  | tbl ps=>
    have e:h.get? a=some {cls:=.none,data:=.fields ps}:=x
    show h'.get? a=some {cls:=.none,data:=.fields ps}
    exact k a _ (.inl rfl) e
  | met f y=>
    have e:h.get? a=some (PySem.W.methodObj (.ref f) (.ref y)):=x
    show h'.get? a=some (PySem.W.methodObj (.ref f) (.ref y))
    exact k a _ (.inl rfl) e
  | ext φ=>obtain⟨p,⟨o,e⟩,st⟩:=x;exact⟨st _ _ p fun o q=>k _ _ (.inl rfl) q,⟨o,k _ _ (.inl rfl) e⟩,st⟩
theorem lz.lt(x:lz P w H h)(e:H a=some o):a < h.objs.size:=(x a o e).lt
theorem lz.fresh(x:lz P w H h)(e:h.objs.size≤a):H a=none:=by
  cases q:H a with
  | none=>rfl
  | some u=>exact absurd (Nat.lt_of_lt_of_le (x.lt q) e) (Nat.lt_irrefl _)
theorem lz.kept(x:lz P w H h)(k:∀b u,h.get? b=some u→h'.get? b=some u):lz P w H h':=fun a o e=>
  (x a o e).stay (fun b u _ q=>k b u q) (fun _ q=>q) fun _ _ q=>q
theorem lz.laid(x:lz P w H h)(k:∀b u,h.get? b=some u→h'.get? b=some u)(hp:h.objs.size≤a)(new:cY P w (bi H a o) h' a o):lz P w (bi H a o) h':=fun b u e=>by
  have hn:=x.fresh hp
  by_cases hb:b=a
  · subst hb;rw [aG] at e;cases e;exact new
  · rw [aM hb] at e
    exact(x b u e).stay (fun c v _ q=>k c v q) (fun c q=>by rw [aM (dW q hn)];exact q) fun c xs q=>by rw [aM (dW q hn)];exact q
end
def Rd(H:Hp)(a:Addr)(u:HO):Prop:=H a=some u∨∃o,H a=some (.frz o u)
theorem Rd.ok{P:Program}{w:World}{H:Hp}{h:Heap}{a:Addr}{u:HO}(r:Rd H a u)(x:lz P w H h):cY P w H h a u:=by
  rcases r with r | ⟨o,r⟩
  · exact x a u r
  · obtain⟨_,q⟩:=x a _ r
    exact q
def C1:Option HO→Prop
  | some (.lst _)=>True
  | some (.dK _)=>True
  | some (.dT _)=>True
  | some (.set _ _)=>True
  | some (.ins _ _ _)=>True
  | some (.ext _)=>True
  | _=>False
section
variable{P:Program}{w:World}{H:Hp}{h h':Heap}{x e:Addr}{o':HO}
theorem lz.write(ok:lz P w H h)(mu:C1 (H x))(he:e=x∨H e=some (.own x))(k:∀b u,b≠e→h.get? b=some u→h'.get? b=some u)(heo:∃u,h'.get? e=some u)
    (new:cY P w (bi H x o') h' x o'):lz P w (bi H x o') h':=fun b u q=>by
  have nown:∀c y,H c=some (.own y)→c≠x:=fun c y r z=>by subst z;rw [r] at mu;exact mu
  have ntup:∀c xs,H c=some (.tup xs)→c≠x:=fun c xs r z=>by subst z;rw [r] at mu;exact mu
  by_cases hb:b=x
  · subst hb;rw [aG] at q;cases q;exact new
  · rw [aM hb] at q
    by_cases hbe:b=e
    · have q':H b=some (.own x):=by
        rcases he with z | z
        · exact absurd (hbe.trans z) hb
        · rw [hbe];exact z
      rw [q] at q';cases q'
      obtain⟨v,hv⟩:=heo
      exact⟨v,by rw [hbe];exact hv⟩
    · refine(ok b u q).stay (fun c v hc r=>k c v ?_ r) (fun c r=>by rw [aM (nown c b r)];exact r) fun c xs r=>by rw [aM (ntup c xs r)];exact r
      rcases hc with rfl | hc
      · exact hbe
      · rintro rfl
        rcases he with z | z
        · exact nown c b hc z
        · rw [hc] at z;cases z;exact hb rfl
end
structure Un (fs ex:List Addr) (H H':Hp) (h h':Heap):Prop where
  keep:∀b o,h.get? b=some o→H b=none→b∉fs→b∉ex→h'.get? b=some o
  slot:∀b o,h.get? b=some o→H b=none→b∈fs→b∉ex→∃sl,h'.get? b=some {o with slots:=sl}
  free:∀b o,h.get? b=some o→H b=none→b∉ex→H' b=none
  there:∀b o,h.get? b=some o→b∉ex→∃o',h'.get? b=some o'
  tups:∀b xs,H b=some (.tup xs)→H' b=some (.tup xs)
  frzs:∀b o u,H b=some (.frz o u)→H' b=some (.frz o u)
  tbls:∀b ps,H b=some (.tbl ps)→∃more,H' b=some (.tbl (ps++more))
section
variable{fs fs' ex ex':List Addr}{H H1 H2:Hp}{h h1 h2 h':Heap}{a x e:Addr}{o:HO}
theorem Un.any(u:Un fs ex H H1 h h1){b:Addr}{ob:Obj}(q:h.get? b=some ob)(n:H b=none)(hx:b∉ex):∃sl,h1.get? b=some {ob with slots:=sl}:=by
  by_cases hb:b∈fs
  · exact u.slot b ob q n hb hx
  · exact⟨ob.slots,u.keep b ob q n hb hx⟩
theorem Un.kept(k:∀b u,h.get? b=some u→h'.get? b=some u):Un fs ex H H h h':=
  ⟨fun b ob q _ _ _=>k b ob q,fun b ob q _ _ _=>⟨ob.slots,k b ob q⟩,fun _ _ _ n _=>n,fun b ob q _=>⟨ob,k b ob q⟩,fun _ _ q=>q,fun _ _ _ q=>q,fun _ ps q=>⟨#[],by rw [q];simp⟩⟩
theorem Un.refl:Un fs ex H H h h:=Un.kept fun _ _ q=>q
theorem Un.laid(k:∀b u,h.get? b=some u→h'.get? b=some u)(hp:h.objs.size≤a)(hn:H a=none):Un fs ex H (bi H a o) h h' where
  keep:=fun b u q _ _ _=>k b u q
  slot:=fun b u q _ _ _=>⟨u.slots,k b u q⟩
  free:=fun b u q n _=>by rw [aM (Nat.ne_of_lt (Nat.lt_of_lt_of_le (Heap.lt_size q) hp))];exact n
  there:=fun b u q _=>⟨u,k b u q⟩
  tups:=fun b xs q=>by rw [aM (dW q hn)];exact q
  frzs:=fun b u xs q=>by rw [aM (dW q hn)];exact q
  tbls:=fun b ps q=>⟨#[],by rw [aM (dW q hn),q];simp⟩
theorem Un.write(mu:C1 (H x))(he:e=x∨H e=some (.own x))(k:∀b u,b≠e→h.get? b=some u→h'.get? b=some u)(heo:∃u,h'.get? e=some u):Un fs ex H (bi H x o) h h':=by
  have hx:∀b,H b=none→b≠x:=fun b n z=>by subst z;rw [n] at mu;exact mu
  have hb:∀b,H b=none→b≠e:=fun b n z=>by
    subst z
    rcases he with r | r
    · exact hx b n r
    · rw [n] at r;cases r
  have hm:∀b u,H b=some u→¬C1 (some u)→b≠x:=fun b u q nm z=>by subst z;rw [q] at mu;exact nm mu
  refine⟨fun b u q n _ _=>k b u (hb b n) q,fun b u q n _ _=>⟨u.slots,k b u (hb b n) q⟩,fun b u q n _=>by rw [aM (hx b n)];exact n,fun b u q _=>?_,
    fun b xs q=>by rw [aM (hm b _ q fun z=>z)];exact q,fun b u xs q=>by rw [aM (hm b _ q fun z=>z)];exact q,fun b ps q=>⟨#[],by rw [aM (hm b _ q fun z=>z),q];simp⟩⟩
  by_cases hbe:b=e
  · subst hbe;exact heo
  · exact⟨u,k b u hbe q⟩
end
def EV(h:Heap)(H:Hp):List Addr:=(List.range h.objs.size).filter fun a=>(H a).isSome
def pN(h:Heap)(H:Hp):Heap:=PySem.W.hideAll h (EV h H)
theorem uQ(h:Heap)(H:Hp):(pN h H).objs.size=h.objs.size:=PySem.W.hideAll_size _ _
theorem wK{h:Heap}{H:Hp}{b:Addr}{o:Obj}(e:h.get? b=some o)(n:H b=none):(pN h H).get? b=some o:=
  PySem.W.hideAll_get _ e fun hm=>by
    have q:(H b).isSome=true:=(List.mem_filter.mp hm).2
    rw [n] at q;simp at q
theorem y'{h:Heap}{H:Hp}{b:Addr}{o:Obj}(e:(pN h H).get? b=some o):h.get? b=some o∧H b=none:=by
  have e':h.get? b=some o:=PySem.W.of_hideAll (EV h H) e
  refine⟨e',?_⟩
  cases q:H b with
  | none=>rfl
  | some x=>
    have hm:b∈EV h H:=List.mem_filter.mpr ⟨List.mem_range.mpr (Heap.lt_size e'),by simp [q]⟩
    have z:(pN h H).get? b=none:=PySem.W.hideAll_none (EV h H) hm
    rw [z] at e;cases e
def ph(g h:Heap)(L:Addr):List (Addr × Obj):=(List.range h.objs.size).filterMap fun a=>if a=L∨(g.get? a).isSome=true then none else(h.get? a).map fun o=>(a,o)
theorem m8{g h:Heap}{L:Addr}{p:Addr × Obj}(hp:p∈ph g h L):p.1≠L∧g.get? p.1=none∧h.get? p.1=some p.2:=by
  obtain⟨b,_,e⟩:=List.mem_filterMap.mp hp
  split at e
  · cases e
  · rename_i hn
    cases q:h.get? b with
    | none=>rw [q] at e;simp at e
    | some u=>
      rw [q] at e
      simp only [Option.map_some,Option.some.injEq] at e
      subst e
      refine⟨fun z=>hn (.inl z),?_,q⟩
      show g.get? b=none
      cases r:g.get? b with
      | none=>rfl
      | some v=>exact(hn (.inr (by simp [r]))).elim
def fM(g h:Heap)(L d:Addr):List (Addr × Obj):=(ph g h L).filter fun p=>decide (p.1≠d)
theorem wX{g h:Heap}{L:Addr}:News g L h (ph g h L):=fun p hp=>let ⟨a,b,c⟩:=m8 hp;⟨c,a,b⟩
end L2
namespace L2
open PySem PySem.Spec PyProof.Rows
structure Mod (K:PySem.W.Frag) (mg:Str→Option Value) (base:Heap):Prop where
  kin:K.In base
  glob:base.Ns mainGlobals mg
  blt:∃mb,base.Ns builtinsNs mb∧∀x:Str,x≠"__name__"→mb x=bootBuiltins x
  nolimit:base.NoLimit
structure Cx where
  prog:Program
  w:World
  K:PySem.W.Frag
  mg:Str→Option Value
  base:Heap
  A:Around
  N:List Str
  s₀:Shared
  H₀:Hp
  env:Env
  outer:List Env
  stack:List Env
  ex:List Addr
  fn:Str→Bool
  calm:Bool
  pn:List (Addr × Obj)
  xe:Value→Shared→Prop
def wn(l:List Env):List Addr:=l.filterMap (·.frame)
abbrev Cx.fs(X:Cx):List Addr:=wn X.outer
def C7(sc:Scope)(x:Str):Prop:=sc.names.lookup x=some .local∨sc.names.lookup x=some .cell∨sc.names.lookup x=some .free
def CT(sc:Scope)(x:Str):Prop:=sc.names.lookup x=some .local∨sc.names.lookup x=some .cell
def E3(env:Env)(h:Heap)(m:Str→Option Value)(x:Str)(u:Value):Prop:=
  (env.kindOf x=some .local∧m x=some u)∨((env.kindOf x=some .cell∨env.kindOf x=some .free)∧∃c,env.cells.lookup x=some c∧h.IsCell c (some u))
structure Cx.Ok (X:Cx):Prop where
  mod:Mod X.K X.mg X.base
  kind:X.env.scope.kind=.function
  glob:X.env.globals=mainGlobals
  blt:X.env.builtins=builtinsNs
  above:X.s₀.heap.objs.size≤X.env.locals
  inj:∀x y c,X.env.cells.lookup x=some c→X.env.cells.lookup y=some c→x=y
  has:∀x,(X.env.kindOf x=some .cell∨X.env.kindOf x=some .free)→∃c,X.env.cells.lookup x=some c
  cab:∀x c,X.fn x=true→X.env.cells.lookup x=some c→X.s₀.heap.objs.size≤c
  hd:X.calm=true→X.A.handled=none
  frames:X.A.frames=some X.stack
  stk:X.stack=X.outer∨(X.stack=X.env::X.outer∧X.env.frame=some X.env.locals)
  exf:∀b∈X.ex,b≠X.env.locals∧∀x c,X.env.cells.lookup x=some c→c≠b
  bs:∀b o,X.base.get? b=some o→X.s₀.heap.get? b=some o∧X.H₀ b=none
  bsz:X.base.objs.size≤X.s₀.heap.objs.size
  noex:∀b o,X.base.get? b=some o→b∉X.ex
  exfs:∀b∈X.ex,b∉X.fs
  funs:X.s₀.heap.FunFrames X.base X.outer
  frf:∀b∈X.fs,X.H₀ b=none
structure aF (X:Cx) (pins:List (Addr × Obj)) (σ:List (Option V)) (H:Hp) (s:Shared):Prop where
  ok:X.Ok
  os:s.os=X.s₀.os
  bare:AllBare s.gens
  base:Un X.fs X.ex X.H₀ H X.s₀.heap s.heap
  loc:∃m,s.heap.Ns X.env.locals m∧∀(i:Nat) (x:Str) (v:V),X.N[i]?=some x→σ[i]?=some (some v)→C7 X.env.scope x→∃u,bu v u∧E3 X.env s.heap m x u
  cell:∀x c,X.env.cells.lookup x=some c→∃v,s.heap.IsCell c v
  free:H X.env.locals=none
  freeC:∀x c,X.env.cells.lookup x=some c→H c=none
  pin:∀p∈X.pn++pins,s.heap.get? p.1=some p.2∧H p.1=none∧p.1≠X.env.locals∧p.1∉X.fs∧∀v,p.2.data≠.cell v
  hok:lz X.prog X.w H s.heap
  len:σ.length=X.N.length
section
variable{X:Cx}{pins:List (Addr × Obj)}{σ:List (Option V)}{H H':Hp}{s:Shared}{h':Heap}
theorem Cx.Ok.nofr(ok:X.Ok){b:Addr}{o:Obj}(e:X.base.get? b=some o):b∉X.fs:=fun hb=>by
  have:=(ok.funs.mem hb).1
  rw [e] at this;cases this
theorem aF.bs(I:aF X pins σ H s):∀b o,X.base.get? b=some o→s.heap.get? b=some o∧H b=none:=fun b o e=>
  ⟨I.base.keep b o (I.ok.bs b o e).1 (I.ok.bs b o e).2 (I.ok.nofr e) (I.ok.noex b o e),I.base.free b o (I.ok.bs b o e).1 (I.ok.bs b o e).2 (I.ok.noex b o e)⟩
theorem aF.bk(I:aF X pins σ H s):∀b o,X.base.get? b=some o→s.heap.get? b=some o:=fun b o e=>(I.bs b o e).1
theorem aF.mod(I:aF X pins σ H s):Mod X.K X.mg X.base:=I.ok.mod
theorem aF.kIn(I:aF X pins σ H s):X.K.In s.heap:=I.ok.mod.kin.keeps I.bk
theorem aF.fr(I:aF X pins σ H s):∃m,Fr X.base X.env.locals s.heap m:=
  let ⟨m,hn,_⟩:=I.loc
  ⟨m,hn,I.bk,Nat.le_trans I.ok.bsz I.ok.above⟩
theorem aF.lt(I:aF X pins σ H s):X.env.locals < s.heap.objs.size:=let ⟨_,hn,_⟩:=I.loc;hn.lt
theorem aF.sz(I:aF X pins σ H s):X.s₀.heap.objs.size≤s.heap.objs.size:=Nat.le_trans I.ok.above (Nat.le_of_lt I.lt)
theorem aF.nofs(I:aF X pins σ H s){a:Addr}(h:s.heap.objs.size≤a):a∉X.fs:=fun hb=>by
  obtain⟨_,o,ho,_⟩:=I.ok.funs.mem hb
  exact absurd (Nat.lt_of_lt_of_le (Heap.lt_size ho) (Nat.le_trans I.sz h)) (Nat.lt_irrefl _)
theorem aF.cne(I:aF X pins σ H s):∀x c,X.env.cells.lookup x=some c→c≠X.env.locals:=fun x c e z=>by
  obtain⟨v,o,ho,hd⟩:=I.cell x c e
  obtain⟨m,⟨o',es,ep,ho',hd',_⟩,_⟩:=I.loc
  rw [z,ho'] at ho;cases ho;rw [hd'] at hd;cases hd
theorem aF.funs(I:aF X pins σ H s):s.heap.FunFrames X.base X.outer:=by
  have all:∀(l:List Env),(∀b∈wn l,b∈X.fs)→X.s₀.heap.FunFrames X.base l→s.heap.FunFrames X.base l:=by
    intro l
    induction l with
    | nil=>intro _ _;trivial
    | cons env r ih=>
      intro hs hl
      obtain⟨hk,⟨L,o,hf,hn,ho,hd⟩,hr⟩:=hl
      have hL:L∈X.fs:=hs L (by unfold wn;rw [List.filterMap_cons,hf];exact List.mem_cons_self)
      obtain⟨sl,e⟩:=I.base.slot L o ho (I.ok.frf L hL) hL fun z=>I.ok.exfs L z hL
      exact⟨hk,⟨L,_,hf,hn,e,hd⟩,ih (fun b hb=>hs b (by unfold wn;rw [List.filterMap_cons,hf];exact List.mem_cons_of_mem _ hb)) hr⟩
  exact all X.outer (fun _ hb=>hb) I.ok.funs
theorem aF.stack(I:aF X pins σ H s):s.heap.FunFrames X.base X.stack:=by
  rcases I.ok.stk with e | ⟨e,hf⟩
  · rw [e];exact I.funs
  · rw [e]
    obtain⟨m,hn,_⟩:=I.loc
    refine .cons (by rw [I.ok.kind];decide) hf hn ?_ I.funs
    exact Heap.get?_none_of_le (Nat.le_trans I.ok.bsz I.ok.above)
theorem aF.stkSub(I:aF X pins σ H s):∀b∈wn X.stack,b∈X.env.locals::X.fs:=fun b hb=>by
  rcases I.ok.stk with e | ⟨e,hf⟩
  · rw [e] at hb;exact List.mem_cons_of_mem _ hb
  · rw [e] at hb
    unfold wn at hb
    rw [List.filterMap_cons,hf] at hb
    exact hb
theorem aF.stkFree(I:aF X pins σ H s):∀b∈wn X.stack,H b=none:=fun b hb=>by
  rcases List.mem_cons.mp (I.stkSub b hb) with e | hb
  · rw [e];exact I.free
  · obtain⟨_,o,ho,_⟩:=I.ok.funs.mem hb
    exact I.base.free b o ho (I.ok.frf b hb) fun z=>I.ok.exfs b z hb
theorem aF.step{g':Array GenState}{t':Nat}{d':Drawn}{ch:List Addr}(I:aF X pins σ H s)
    (hch:∀b∈ch,(b∈X.ex∨X.s₀.heap.objs.size≤b)∧b≠X.env.locals∧(∀x c,X.env.cells.lookup x=some c→c≠b)∧∀p∈X.pn++pins,p.1≠b)
    (keep:∀b o,b≠X.env.locals→b∉X.fs→b∉ch→s.heap.get? b=some o→H b=none→h'.get? b=some o)
    (slot:∀b o,b≠X.env.locals→b∈X.fs→b∉ch→s.heap.get? b=some o→H b=none→∃sl,h'.get? b=some {o with slots:=sl})(free:∀b o,b∉ch→s.heap.get? b=some o→H b=none→H' b=none)
    (there:∀b o,b∉ch→s.heap.get? b=some o→∃o',h'.get? b=some o')
    (tups:∀b xs,H b=some (.tup xs)→H' b=some (.tup xs))(frzs:∀b o u,H b=some (.frz o u)→H' b=some (.frz o u))(tbls:∀b ps,H b=some (.tbl ps)→∃more,H' b=some (.tbl (ps++more)))
    (ns:∀m,s.heap.Ns X.env.locals m→h'.Ns X.env.locals m)(hok:lz X.prog X.w H' h')(hg:AllBare g'):
    aF X pins σ H' {s with heap:=h',gens:=g',drawn:=d',toks:=t'}:=by
  have neL:∀b o,X.s₀.heap.get? b=some o→b≠X.env.locals:=fun b o e=>Nat.ne_of_lt (Nat.lt_of_lt_of_le (Heap.lt_size e) I.ok.above)
  have neC:∀b o,X.s₀.heap.get? b=some o→b∉X.ex→b∉ch:=fun b o e hx hb=>by
    rcases(hch b hb).1 with z | z
    · exact hx z
    · exact absurd (Nat.lt_of_lt_of_le (Heap.lt_size e) z) (Nat.lt_irrefl _)
  have cellK:∀x c,X.env.cells.lookup x=some c→∀v,s.heap.IsCell c v→h'.IsCell c v:=fun x c e v ⟨o,ho,hd⟩=>by
    have nch:c∉ch:=fun z=>(hch c z).2.2.1 x c e rfl
    by_cases hc:c∈X.fs
    · obtain⟨sl,q⟩:=slot c o (I.cne x c e) hc nch ho (I.freeC x c e)
      exact⟨_,q,hd⟩
    · exact⟨o,keep c o (I.cne x c e) hc nch ho (I.freeC x c e),hd⟩
  refine⟨I.ok,I.os,hg,⟨fun b o e n hb hx=>?_,fun b o e n hb hx=>?_,fun b o e n hx=>?_,fun b o e hx=>?_,fun b xs e=>tups b xs (I.base.tups b xs e),fun b o xs e=>frzs b o xs (I.base.frzs b o xs e),fun b ps e=>?_⟩,?_,fun x c e=>?_,?_,fun x c e=>?_,fun p hp=>?_,hok,I.len⟩
  · exact keep b o (neL b o e) hb (neC b o e hx) (I.base.keep b o e n hb hx) (I.base.free b o e n hx)
  · obtain⟨sl,e1⟩:=I.base.slot b o e n hb hx
    obtain⟨sl',e2⟩:=slot b _ (neL b o e) hb (neC b o e hx) e1 (I.base.free b o e n hx)
    exact⟨sl',e2⟩
  · obtain⟨o',e1⟩:=I.base.there b o e hx
    exact free b o' (neC b o e hx) e1 (I.base.free b o e n hx)
  · obtain⟨o',e1⟩:=I.base.there b o e hx
    exact there b o' (neC b o e hx) e1
  · obtain⟨m1,e1⟩:=I.base.tbls b ps e
    obtain⟨m2,e2⟩:=tbls b _ e1
    exact⟨m1++m2,by rw [e2,Array.append_assoc]⟩
  · obtain⟨m,hn,hl⟩:=I.loc
    refine⟨m,ns m hn,fun i x v e1 e2 e3=>?_⟩
    obtain⟨u,r,l⟩:=hl i x v e1 e2 e3
    refine⟨u,r,?_⟩
    rcases l with l | ⟨k,c,e,z⟩
    · exact .inl l
    · exact .inr ⟨k,c,e,cellK x c e _ z⟩
  · obtain⟨v,z⟩:=I.cell x c e
    exact⟨v,cellK x c e v z⟩
  · obtain⟨m,⟨o,_,_,ho,_⟩,_⟩:=I.loc
    exact free _ o (fun z=>(hch _ z).2.1 rfl) ho I.free
  · obtain⟨v,o,ho,hd⟩:=I.cell x c e
    exact free c o (fun z=>(hch c z).2.2.1 x c e rfl) ho (I.freeC x c e)
  · obtain⟨e,n,ne,nf,d⟩:=I.pin p hp
    have nch:p.1∉ch:=fun z=>(hch p.1 z).2.2.2 p hp rfl
    exact⟨keep p.1 p.2 ne nf nch e n,free p.1 p.2 nch e n,ne,nf,d⟩
theorem aF.un{t':Nat}(I:aF X pins σ H s)(u:Un X.fs [] H H' s.heap h')(hok:lz X.prog X.w H' h'):aF X pins σ H' {s with heap:=h',toks:=t'}:=by
  obtain⟨m,⟨o,es,ep,ho,r⟩,_⟩:=id I.loc
  obtain⟨sl,hL⟩:=u.any ho I.free (by simp)
  exact I.step (g':=s.gens) (d':=s.drawn) (ch:=[]) (fun _ z=>nomatch z) (fun b o _ hb _ e n=>u.keep b o e n hb (by simp)) (fun b o _ hb _ e n=>u.slot b o e n hb (by simp)) (fun b o _ e n=>u.free b o e n (by simp)) (fun b o _ e=>u.there b o e (by simp)) u.tups u.frzs u.tbls (fun m' hm=>by
    obtain⟨o',es',ep',ho',r'⟩:=hm
    rw [ho] at ho';cases ho'
    exact⟨_,es',ep',hL,r'⟩) hok I.bare
theorem aF.call{g':Array GenState}{t':Nat}{d':Drawn}{ch:List Addr}(I:aF X pins σ H s)(u:Un (wn X.stack) ch H H' s.heap h')(hok:lz X.prog X.w H' h')(hg:AllBare g')
    (hch:∀b∈ch,(b∈X.ex∨X.s₀.heap.objs.size≤b)∧b≠X.env.locals∧(∀x c,X.env.cells.lookup x=some c→c≠b)∧∀p∈X.pn++pins,p.1≠b):
    aF X pins σ H' {s with heap:=h',gens:=g',drawn:=d',toks:=t'}:=by
  obtain⟨m,⟨o,es,ep,ho,r⟩,_⟩:=id I.loc
  obtain⟨sl,hL⟩:=u.any ho I.free fun z=>(hch _ z).2.1 rfl
  exact I.step (ch:=ch) hch (fun b o hL hb hc e n=>u.keep b o e n (fun z=>(List.mem_cons.mp (I.stkSub b z)).elim hL hb) hc) (fun b o _ _ hc e n=>u.any e n hc) (fun b o hc e n=>u.free b o e n hc) (fun b o hc e=>u.there b o e hc) u.tups u.frzs u.tbls (fun m' hm=>by
    obtain⟨o',es',ep',ho',r'⟩:=hm
    rw [ho] at ho';cases ho'
    exact⟨_,es',ep',hL,r'⟩) hok hg
theorem aF.turned{t':Nat}{it:Addr}(I:aF X pins σ H s)(k:∀b o,b≠it→s.heap.get? b=some o→h'.get? b=some o)(hn:H it=none)(hL:it≠X.env.locals)
    (h1:it∈X.ex∨X.s₀.heap.objs.size≤it)(h2:∀x c,X.env.cells.lookup x=some c→c≠it)(h3:∀p∈X.pn++pins,p.1≠it):aF X pins σ H {s with heap:=h',toks:=t'}:=by
  have nit:∀b u,H b=some u→b≠it:=fun b u e z=>by rw [z,hn] at e;cases e
  refine I.step (g':=s.gens) (d':=s.drawn) (ch:=[it]) (fun b hb=>?_) (fun b o _ _ hc e _=>k b o (fun z=>hc (by simp [z])) e) (fun b o _ _ hc e _=>⟨o.slots,k b o (fun z=>hc (by simp [z])) e⟩) (fun _ _ _ _ n=>n)
    (fun b o hc e=>⟨o,k b o (fun z=>hc (by simp [z])) e⟩) (fun _ _ e=>e) (fun _ _ _ e=>e) (fun b ps e=>⟨#[],by rw [e];simp⟩) (fun m hm=>?_) (fun b u e=>?_) I.bare
  · have e:b=it:=by simpa using hb
    subst e
    exact⟨h1,hL,h2,h3⟩
  · obtain⟨o,es,ep,ho,r⟩:=hm
    exact⟨o,es,ep,k _ o (Ne.symm hL) ho,r⟩
  · refine(I.hok b u e).stay (fun c v hc q=>k c v ?_ q) (fun _ q=>q) fun _ _ q=>q
    rcases hc with z | z
    · rw [z];exact nit b u e
    · exact nit c _ z
theorem aF.tok(I:aF X pins σ H s)(t:Nat):aF X pins σ H {s with toks:=t}:=I.un (h':=s.heap) (t':=t) Un.refl I.hok
theorem aF.kept{t':Nat}(I:aF X pins σ H s)(k:∀b u,s.heap.get? b=some u→h'.get? b=some u):aF X pins σ H {s with heap:=h',toks:=t'}:=I.un (Un.kept k) (I.hok.kept k)
theorem aF.laid{a:Addr}{o:HO}{t':Nat}(I:aF X pins σ H s)(k:∀b u,s.heap.get? b=some u→h'.get? b=some u)(hp:s.heap.objs.size≤a)(new:cY X.prog X.w (bi H a o) h' a o):
    aF X pins σ (bi H a o) {s with heap:=h',toks:=t'}:=I.un (Un.laid k hp (I.hok.fresh hp)) (I.hok.laid k hp new)
theorem aF.write{x e:Addr}{o:HO}{t':Nat}(I:aF X pins σ H s)(mu:C1 (H x))(he:e=x∨H e=some (.own x))(k:∀b u,b≠e→s.heap.get? b=some u→h'.get? b=some u)(heo:∃u,h'.get? e=some u)
    (new:cY X.prog X.w (bi H x o) h' x o):aF X pins σ (bi H x o) {s with heap:=h',toks:=t'}:=I.un (Un.write mu he k heo) (I.hok.write mu he k heo new)
theorem aF.pins_of{pins':List (Addr × Obj)}(I:aF X pins σ H s)(h:∀p∈pins',s.heap.get? p.1=some p.2∧H p.1=none∧p.1≠X.env.locals∧p.1∉X.fs∧∀v,p.2.data≠.cell v):aF X pins' σ H s:=
  ⟨I.ok,I.os,I.bare,I.base,I.loc,I.cell,I.free,I.freeC,fun p hp=>(List.mem_append.mp hp).elim (fun z=>I.pin p (List.mem_append_left _ z)) (h p),I.hok,I.len⟩
theorem qN{N:List Str}(hN:N.Nodup){i j:Nat}{x:Str}(a:N[i]?=some x)(b:N[j]?=some x):i=j:=by
  obtain⟨h1,e1⟩:=List.getElem?_eq_some_iff.mp a
  obtain⟨h2,e2⟩:=List.getElem?_eq_some_iff.mp b
  exact(List.getElem_inj hN).mp (e1.trans e2.symm)
theorem oV{M:Model}{A:Around}{E:Value→Shared→Prop}{i:Nat}{x:Str}{v:V}{u:Value}{Q:Unit→Shared→Prop}(I:aF X pins σ H s)(hN:X.N.Nodup)(hi:X.N[i]?=some x)(hx:CT X.env.scope x)(r:bu v u)
    (h:∀s',aF X pins (σ.set i (some v)) H s'→(∃a,Heap.SameBut a s.heap s'.heap∧(a=X.env.locals∨X.env.cells.lookup x=some a))→Q () s')(hf:X.fn x=true∨X.env.scope.names.lookup x=some .local:=by first | exact .inl rfl | exact .inr rfl | assumption):wpAny M A (storeName X.env x u) Q E s:=by
  obtain⟨m,hn,hl⟩:=id I.loc
  have hcls:(X.env.scope.kind==.class || (X.env.scope.kind==.module&&X.env.locals != X.env.globals))=false:=by rw [I.ok.kind];rfl
  have hiσ:i < σ.length:=by rw [I.len];exact(List.getElem?_eq_some_iff.mp hi).1
  have cne:=I.cne
  have tracked:∀{a:Addr} {h':Heap},(∃o,s.heap.get? a=some o∧H a=none)→Heap.SameBut a s.heap h'→lz X.prog X.w H h':=fun{a h'} ha hs b ob e=>by
    obtain⟨_,_,hfree⟩:=ha
    refine(I.hok b ob e).stay (fun c w' hc q=>(hs.2 c ?_).trans q) (fun _ q=>q) fun _ _ q=>q
    rintro rfl
    rcases hc with rfl | hc
    · rw [hfree] at e;cases e
    · rw [hfree] at hc;cases hc
  rcases hx with hk | hk
  · refine wpAny_storeName_local hk hn (fun h' hn' hs=>?_) hcls
    obtain⟨oL,_,_,hoL,_⟩:=id hn
    refine h _ ⟨I.ok,I.os,I.bare,⟨fun b o e n hb hx=>?_,fun b o e n hb hx=>?_,I.base.free,fun b o e hx=>?_,I.base.tups,I.base.frzs,I.base.tbls⟩,⟨_,hn',fun j y v' e1 e2 e3=>?_⟩,fun y c e=>?_,I.free,I.freeC,fun p hp=>?_,tracked ⟨oL,hoL,I.free⟩ hs,by simpa using I.len⟩ ⟨_,hs,.inl rfl⟩
    · exact(hs.2 b (Nat.ne_of_lt (Nat.lt_of_lt_of_le (Heap.lt_size e) I.ok.above))).trans (I.base.keep b o e n hb hx)
    · obtain⟨sl,e1⟩:=I.base.slot b o e n hb hx
      exact⟨sl,(hs.2 b (Nat.ne_of_lt (Nat.lt_of_lt_of_le (Heap.lt_size e) I.ok.above))).trans e1⟩
    · obtain⟨o',e1⟩:=I.base.there b o e hx
      exact⟨o',(hs.2 b (Nat.ne_of_lt (Nat.lt_of_lt_of_le (Heap.lt_size e) I.ok.above))).trans e1⟩
    · by_cases hj:j=i
      · subst hj
        rw [hi] at e1;cases e1
        rw [List.getElem?_set_self hiσ] at e2
        cases e2
        exact⟨u,r,.inl ⟨hk,by simp⟩⟩
      · rw [List.getElem?_set_ne (Ne.symm hj)] at e2
        obtain⟨u',r',q⟩:=hl j y v' e1 e2 e3
        refine⟨u',r',?_⟩
        rcases q with ⟨k,e⟩ | ⟨k,c,e,z⟩
        · refine .inl ⟨k,?_⟩
          have:y≠x:=fun e=>hj (qN hN e1 (e ▸ hi))
          simp [this,e]
        · exact .inr ⟨k,c,e,z.sameBut hs (cne y c e)⟩
    · obtain⟨w',z⟩:=I.cell y c e
      exact⟨w',z.sameBut hs (cne y c e)⟩
    · obtain⟨e,n,ne,nf,d⟩:=I.pin p hp
      exact⟨(hs.2 p.1 ne).trans e,n,ne,nf,d⟩
  · have hfn:X.fn x=true:=by
      rcases hf with z | z
      · exact z
      · rw [z] at hk;cases hk
    obtain⟨c,hc⟩:=I.ok.has x (.inl hk)
    obtain⟨w',z⟩:=I.cell x c hc
    refine wpAny_storeName_cell I.ok.kind hk hc z (fun h' hc' hs=>?_)
    obtain⟨oc,hoc,hocd⟩:=id z
    refine h {s with heap:=h'} ⟨I.ok,I.os,I.bare,⟨fun b o e n hb hx=>?_,fun b o e n hb hx=>?_,I.base.free,fun b o e hx=>?_,I.base.tups,I.base.frzs,I.base.tbls⟩,⟨m,hn.sameBut hs (Ne.symm (cne x c hc)),fun j y v' e1 e2 e3=>?_⟩,fun y c' e=>?_,I.free,I.freeC,fun p hp=>?_,tracked ⟨oc,hoc,I.freeC x c hc⟩ hs,by simpa using I.len⟩ ⟨c,hs,.inr hc⟩
    · exact(hs.2 b (Nat.ne_of_lt (Nat.lt_of_lt_of_le (Heap.lt_size e) (I.ok.cab x c hfn hc)))).trans (I.base.keep b o e n hb hx)
    · obtain⟨sl,e1⟩:=I.base.slot b o e n hb hx
      exact⟨sl,(hs.2 b (Nat.ne_of_lt (Nat.lt_of_lt_of_le (Heap.lt_size e) (I.ok.cab x c hfn hc)))).trans e1⟩
    · obtain⟨o',e1⟩:=I.base.there b o e hx
      exact⟨o',(hs.2 b (Nat.ne_of_lt (Nat.lt_of_lt_of_le (Heap.lt_size e) (I.ok.cab x c hfn hc)))).trans e1⟩
    · by_cases hj:j=i
      · subst hj
        rw [hi] at e1;cases e1
        rw [List.getElem?_set_self hiσ] at e2
        cases e2
        exact⟨u,r,.inr ⟨.inl hk,c,hc,hc'⟩⟩
      · rw [List.getElem?_set_ne (Ne.symm hj)] at e2
        obtain⟨u',r',q⟩:=hl j y v' e1 e2 e3
        refine⟨u',r',?_⟩
        rcases q with q | ⟨k,c',e,z'⟩
        · exact .inl q
        · refine .inr ⟨k,c',e,z'.sameBut hs ?_⟩
          rintro rfl
          exact hj (qN hN e1 (I.ok.inj _ _ _ e hc ▸ hi))
    · by_cases hcc:c'=c
      · subst hcc;exact⟨_,hc'⟩
      · obtain⟨w2,z2⟩:=I.cell y c' e
        exact⟨w2,z2.sameBut hs hcc⟩
    · obtain⟨e,n,ne,nf,d⟩:=I.pin p hp
      refine⟨(hs.2 p.1 ?_).trans e,n,ne,nf,d⟩
      intro q
      rw [q,hoc] at e
      have q':oc=p.2:=Option.some.inj e
      exact d w' (by rw [←q'];exact hocd)
theorem ky{M:Model}{A:Around}{E:Value→Shared→Prop}{i:Nat}{x:Str}{v:V}{u:Value}{Q:Unit→Shared→Prop}(I:aF X pins σ H s)(hN:X.N.Nodup)(hi:X.N[i]?=some x)(hx:CT X.env.scope x)(r:bu v u)
    (h:∀s',aF X pins (σ.set i (some v)) H s'→Q () s')(hf:X.fn x=true∨X.env.scope.names.lookup x=some .local:=by first | exact .inl rfl | exact .inr rfl | assumption):wpAny M A (storeName X.env x u) Q E s:=
  oV I hN hi hx r (fun s' I' _=>h s' I') hf
theorem aF.call'{s':Shared}{ch:List Addr}(I:aF X pins σ H s)(ho:s'.os=s.os)(u:Un (wn X.stack) ch H H' s.heap s'.heap)(hok:lz X.prog X.w H' s'.heap)(hg:AllBare s'.gens)
    (hch:∀b∈ch,(b∈X.ex∨X.s₀.heap.objs.size≤b)∧b≠X.env.locals∧(∀x c,X.env.cells.lookup x=some c→c≠b)∧∀p∈X.pn++pins,p.1≠b):aF X pins σ H' s':=by
  obtain⟨h',g',d',t',o'⟩:=s'
  have e:o'=s.os:=ho
  subst e
  exact I.call (g':=g') (t':=t') (d':=d') u hok hg hch
end
abbrev XK:=Value→Option Addr→Hp→Prop
abbrev St:=List (Option V)
abbrev VK:=V→Hp→Prop
abbrev TE:=St→Hp→VK→Prop
abbrev TT:=St→Hp→(Bool→Hp→Prop)→Prop
abbrev TA:=St→Hp→(List V→Hp→Prop)→Prop
structure rP where
  nx:St→Hp→Prop
  rt:VK
  bk:St→Hp→Prop:=fun _ _=>False
  ct:St→Hp→Prop:=fun _ _=>False
abbrev TS:=rP→St→Hp→Prop
def EP(X:Cx)(pins:List (Addr × Obj))(σ:St)(Q:VK)(u:Value)(s':Shared):Prop:=∃v H',aF X pins σ H' s'∧bu v u∧Q v H'
def TP(X:Cx)(pins:List (Addr × Obj))(σ:St)(Q:Bool→Hp→Prop)(b:Bool)(s':Shared):Prop:=∃H',aF X pins σ H' s'∧Q b H'
def AP(X:Cx)(pins:List (Addr × Obj))(σ:St)(Q:List V→Hp→Prop)(us:List Value)(s':Shared):Prop:=∃vs H',aF X pins σ H' s'∧aQ vs us∧Q vs H'
def SP(X:Cx)(pins:List (Addr × Obj))(D:rP)(f:Flow)(s':Shared):Prop:=
  match f with
  | .next=>∃σ' H',aF X pins σ' H' s'∧D.nx σ' H'
  | .brk=>∃σ' H',aF X pins σ' H' s'∧D.bk σ' H'
  | .cont=>∃σ' H',aF X pins σ' H' s'∧D.ct σ' H'
  | .ret u=>∃v σ' H',aF X pins σ' H' s'∧bu v u∧D.rt v H'
def PE(X:Cx)(e:Expr)(t:TE):Prop:=
  ∀(pins:List (Addr × Obj)) (s:Shared) (σ:St) (H:Hp) (Q:VK),aF X pins σ H s→t σ H Q→wpAny (model X.prog X.w) X.A (eval e X.env) (EP X pins σ Q) X.xe s
def PT(X:Cx)(e:Expr)(t:TT):Prop:=
  ∀(pins:List (Addr × Obj)) (s:Shared) (σ:St) (H:Hp) (Q:Bool→Hp→Prop),aF X pins σ H s→t σ H Q→wpAny (model X.prog X.w) X.A (isTrue e X.env (eval e X.env)) (TP X pins σ Q) X.xe s
def PW(X:Cx)(e:Expr)(t:TT):Prop:=
  ∀(whole:Sem Value) (pins:List (Addr × Obj)) (s:Shared) (σ:St) (H:Hp) (Q:Bool→Hp→Prop),aF X pins σ H s→t σ H Q→wpAny (model X.prog X.w) X.A (isTrue e X.env whole) (TP X pins σ Q) X.xe s
theorem PW.pt{X:Cx}{e:Expr}{t:TT}(h:PW X e t):PT X e t:=h _
def PA(X:Cx)(es:List Expr)(t:TA):Prop:=
  ∀(pos:Pos) (pins:List (Addr × Obj)) (s:Shared) (σ:St) (H:Hp) (Q:List V→Hp→Prop),aF X pins σ H s→t σ H Q→wpAny (model X.prog X.w) X.A (spliced (backTo pos (starEach es X.env))) (AP X pins σ Q) X.xe s
def PS(X:Cx)(st:Stmt)(t:TS):Prop:=
  ∀(pins:List (Addr × Obj)) (s:Shared) (σ:St) (H:Hp) (D:rP),aF X pins σ H s→t D σ H→wpAny (model X.prog X.w) X.A (exec st X.env) (SP X pins D) X.xe s
def lQ(X:Cx)(st:List Stmt)(t:TS):Prop:=
  ∀(pins:List (Addr × Obj)) (s:Shared) (σ:St) (H:Hp) (D:rP),aF X pins σ H s→t D σ H→wpAny (model X.prog X.w) X.A (execs st X.env) (SP X pins D) X.xe s
theorem cP{α:Type}{t:Sem α}{Q Q':α→Shared→Prop}{M:Model}{A:Around}{E:Value→Shared→Prop}{s:Shared}(h:wpAny M A t Q E s)(hQ:∀a s,Q a s→Q' a s):wpAny M A t Q' E s:=wpAny_mono h hQ fun _ _ x=>x
end L2
namespace L2
open PySem PySem.Spec PyProof.Rows
section
variable{X:Cx}
def EC(i:Nat):TE:=fun σ H Q=>∃v,σ[i]?=some (some v)∧Q v H
def tC(v:V):TE:=fun _ H Q=>Q v H
theorem BV{i:Nat}{x:Str}{pos:Pos}(hN:X.N[i]?=some x)(hv:C7 X.env.scope x)(hd:(x==("__debug__":Str))=false:=by decide)(hcd:(x==("__classdict__":Str))=false:=by decide):PE X (.Name x pos) (EC i):=by
  intro pins s σ H Q I h
  obtain⟨v,e,h⟩:=h
  obtain⟨m,hn,hl⟩:=I.loc
  obtain⟨u,r,l⟩:=hl i x v hN e hv
  have fin:EP X pins σ Q u s:=⟨v,H,I,r,h⟩
  rcases l with ⟨hk,hm⟩ | ⟨hk,c,hc,hcell⟩
  · exact wpAny_Name (wpAny_loadName_local I.ok.kind hk hn hm fin) hd
  · rcases hk with hk | hk
    · exact wpAny_Name (wpAny_loadName_cell I.ok.kind hk hc hcell fin) hd
    · exact wpAny_Name (wpAny_loadName_free I.ok.kind hk hc hcell fin hcd) hd
theorem sJ{i j pos}:PE X (.Constant (.int i) j pos) (tC (.int i)):=fun _ _ _ H _ I h=>wpAny_Constant_int ⟨.int i,H,I.tok _,⟨_,rfl⟩,h⟩
theorem DR{b j pos}:PE X (.Constant (.bool b) j pos) (tC (.bl b)):=fun _ _ _ H _ I h=>Constant_bool ⟨.bl b,H,I,rfl,h⟩
theorem BQ{j pos}:PE X (.Constant .none j pos) (tC .non):=fun _ _ _ H _ I h=>Constant_none ⟨.non,H,I,rfl,h⟩
theorem BU{x j pos}:PE X (.Constant (.str x) j pos) (tC (.str x)):=fun _ _ _ H _ I h=>Calls.Constant_str ⟨.str x,H,I.tok _,⟨_,rfl⟩,h⟩
def Gl(X:Cx)(x:Str):Prop:=X.env.kindOf x=some .globalImplicit
theorem tU{E:Value→Shared→Prop}{pins:List (Addr × Obj)}{s:Shared}{σ:St}{H:Hp}{x:Str}{u:Value}{pos:Pos}{Q:Value→Shared→Prop}(I:aF X pins σ H s)(hg:Gl X x)(hm:X.mg x=some u)(h:Q u s)
    (hd:(x==("__debug__":Str))=false:=by decide):wpAny (model X.prog X.w) X.A (eval (.Name x pos) X.env) Q E s:=
  Calls.Name_function_global I.ok.kind hg (Calls.loadGlobal_global (by rw [I.ok.glob];exact I.mod.glob.keeps I.bk) hm h) hd
theorem k7{E:Value→Shared→Prop}{pins:List (Addr × Obj)}{s:Shared}{σ:St}{H:Hp}{x:Str}{u:Value}{pos:Pos}{Q:Value→Shared→Prop}(I:aF X pins σ H s)(hg:Gl X x)(hm:X.mg x=none)(hv:bootBuiltins x=some u)(h:Q u s)
    (hn:x≠"__name__":=by decide)(hd:(x==("__debug__":Str))=false:=by decide):wpAny (model X.prog X.w) X.A (eval (.Name x pos) X.env) Q E s:=by
  obtain⟨mb,h1,h2⟩:=I.mod.blt
  exact Calls.Name_function_global I.ok.kind hg (Calls.loadGlobal_builtin (by rw [I.ok.glob];exact I.mod.glob.keeps I.bk) hm (by rw [I.ok.blt];exact h1.keeps I.bk) ((h2 x hn).trans hv) h) hd
theorem zC{x:Str}{v:V}{u:Value}{pos:Pos}(hg:Gl X x)(hm:X.mg x=some u)(r:bu v u)(hd:(x==("__debug__":Str))=false:=by decide):PE X (.Name x pos) (tC v):=
  fun _ _ _ H _ I h=>tU I hg hm ⟨v,H,I,r,h⟩ hd
variable{a b:Expr}{ta tb:TE}{pos:Pos}
def tB(t:TE):TT:=fun σ H Q=>t σ H fun x H1=>∃c,x=.bl c∧Q c H1
theorem B7{e:Expr}{t:TE}(h:PE X e t)(he:∀whole,isTrue e X.env whole=(do let v ←whole;standAt e.pos;holding [v] (truthy v)):=by intro _;rfl):PT X e (tB t):=by
  intro pins s σ H Q I hw
  refine isTrue_plain (cP (h pins s σ H _ I hw) fun v s1 ⟨x,H1,I1,r1,q1⟩=>?_) (he _)
  obtain⟨d,rfl,q⟩:=q1
  cases r1
  exact wpAny_truthy_bool ⟨H1,I1,q⟩
variable{tA tB':TT}{fM:List Expr}
def Er(t u:TT):TT:=fun σ H Q=>t σ H fun c H1=>if c=true then u σ H1 Q else Q false H1
def Gc(t u:TT):TT:=fun σ H Q=>t σ H fun c H1=>if c=true then Q true H1 else u σ H1 Q
def Ex(t:TT):TT:=fun σ H Q=>t σ H fun c H1=>Q (!c) H1
theorem zU(ha:PT X a tA):PW X (.BoolOp .And [a] pos) tA:=by
  intro wh pins s σ H Q I h
  refine isTrue_and (cP (ha pins s σ H Q I h) fun c s1 e=>?_)
  cases c with
  | true=>exact isTrue_and_nil e
  | false=>exact e
theorem B9(ha:PT X a tA):PW X (.BoolOp .Or [a] pos) tA:=by
  intro wh pins s σ H Q I h
  refine isTrue_or (cP (ha pins s σ H Q I h) fun c s1 e=>?_)
  cases c with
  | false=>exact isTrue_or_nil e
  | true=>exact e
theorem B8(ha:PT X a tA)(hb:PW X (.BoolOp .And (b::fM) pos) tB'):PW X (.BoolOp .And (a::b::fM) pos) (Er tA tB'):=by
  intro wh pins s σ H Q I h
  refine isTrue_and (cP (ha pins s σ H _ I h) fun c s1 ⟨H1,I1,q1⟩=>?_)
  cases c with
  | true=>exact hb wh pins s1 σ H1 Q I1 q1
  | false=>exact⟨H1,I1,q1⟩
theorem D6(ha:PT X a tA)(hb:PW X (.BoolOp .Or (b::fM) pos) tB'):PW X (.BoolOp .Or (a::b::fM) pos) (Gc tA tB'):=by
  intro wh pins s σ H Q I h
  refine isTrue_or (cP (ha pins s σ H _ I h) fun c s1 ⟨H1,I1,q1⟩=>?_)
  cases c with
  | true=>exact⟨H1,I1,q1⟩
  | false=>exact hb wh pins s1 σ H1 Q I1 q1
theorem B6(ha:PT X a tA):PT X (.UnaryOp .Not a pos) (Ex tA):=by
  intro pins s σ H Q I h
  exact isTrue_not (ha pins s σ H (fun c H1=>Q (!c) H1) I h)
def Es(ta tb:TE):TE:=fun σ H Q=>ta σ H fun x H1=>∃c,x=.bl c∧if c=true then tb σ H1 Q else Q (.bl false) H1
def Ey(ta:TE):TE:=fun σ H Q=>ta σ H fun x H1=>∃c,x=.bl c∧Q (.bl (!c)) H1
theorem BS{op}{t:TE}(h:PE X a t):PE X (.BoolOp op [a] pos) t:=fun pins s σ H Q I hw=>BoolOp_one (h pins s σ H Q I hw)
theorem BO(ha:PE X a ta)(hb:PE X (.BoolOp .And (b::fM) pos) tb):PE X (.BoolOp .And (a::b::fM) pos) (Es ta tb):=by
  intro pins s σ H Q I h
  refine BoolOp_and (cP (ha pins s σ H _ I h) fun v s1 ⟨x,H1,I1,r1,q1⟩=>?_)
  obtain⟨c,rfl,q1⟩:=q1
  cases r1
  refine wpAny_truthy_bool ?_
  cases c with
  | true=>exact hb pins s1 σ H1 Q I1 q1
  | false=>exact⟨.bl false,H1,I1,rfl,q1⟩
theorem BR(ha:PE X a ta):PE X (.UnaryOp .Not a pos) (Ey ta):=by
  intro pins s σ H Q I h
  refine UnaryOp_ (cP (ha pins s σ H _ I h) fun v s1 ⟨x,H1,I1,r1,q1⟩=>?_)
  obtain⟨c,rfl,q1⟩:=q1
  cases r1
  exact not_of (wpAny_truthy_bool ⟨.bl (!c),H1,I1,rfl,q1⟩)
end
end L2
namespace L2
open PySem PySem.Spec PyProof.Rows
def eI(K:PySem.W.Frag)(H:Hp)(a:Addr)(xs:List V):Prop:=
  Rd H a (.lst xs)∨
    ∃(o:Obj) (its:Array Value) (n:Nat),K.lookup a=some o∧o.cls=.type "list"∧o.dict=none∧o.data=.seq its n∧its.size≤sizeLine∧aQ xs its.toList
def dO(K:PySem.W.Frag)(H:Hp)(a:Addr)(xs:List V):Prop:=
  Rd H a (.tup xs)∨
    ∃(o:Obj) (its:Array Value) (n:Nat),K.lookup a=some o∧o.cls=.type "tuple"∧o.dict=none∧o.data=.seq its n∧its.size≤sizeLine∧aQ xs its.toList
def E9:Value→Option V
  | .none=>some .non
  | .bool b=>some (.bl b)
  | .int i _=>some (.int i)
  | .str x _=>some (.str x)
  | .bytes b _=>some (.byt b)
  | .float b _=>some (.flt b)
  | .ref a=>some (.ref a)
  | .type n=>some (.ty n)
  | _=>none
theorem bu.abs{x:V}{u:Value}(r:bu x u):E9 u=some x:=by
  cases x with
  | non=>cases r;rfl
  | bl _=>cases r;rfl
  | int _=>obtain⟨t,rfl⟩:=r;rfl
  | str _=>obtain⟨t,rfl⟩:=r;rfl
  | byt _=>obtain⟨t,rfl⟩:=r;rfl
  | flt _=>obtain⟨t,rfl⟩:=r;rfl
  | ref _=>cases r;rfl
  | ty _=>cases r;rfl
theorem bu.inj{x y:V}{u:Value}(r:bu x u)(q:bu y u):x=y:=Option.some.inj (r.abs.symm.trans q.abs)
theorem aQ.inj:∀{xs ys:List V} {us:List Value},aQ xs us→aQ ys us→xs=ys
  | _,_,_,.nil,.nil=>rfl
  | _,_,_,.cons r t,.cons r' t'=>by rw [r.inj r',aQ.inj t t']
section
variable{X:Cx}{pins:List (Addr × Obj)}{σ:St}{H:Hp}{s:Shared}{a:Addr}{xs ys:List V}
theorem eI.of{K:PySem.W.Frag}(h:H a=some (.lst xs)):eI K H a xs:=.inl (.inl h)
theorem dO.of{K:PySem.W.Frag}(h:H a=some (.tup xs)):dO K H a xs:=.inl (.inl h)
theorem aF.list(I:aF X pins σ H s)(h:eI X.K H a xs):∃its:List Value,aQ xs its∧PlainL s.heap a its.toArray∧xs.length≤sizeLine:=by
  rcases h with h | ⟨o,its,n,hk,hc,hd,hs,hz,r⟩
  · obtain⟨z,its,n,r,e⟩:=h.ok I.hok
    exact⟨its,r,⟨_,n,e,rfl,rfl,rfl⟩,z⟩
  · refine⟨its.toList,r,⟨o,n,I.kIn a o hk,hc,hd,by simpa using hs⟩,?_⟩
    have e:=r.length
    simp only [Array.length_toList] at e
    lia
theorem aF.tuple(I:aF X pins σ H s)(h:dO X.K H a xs):∃its:List Value,aQ xs its∧IsTup s.heap a its.toArray∧xs.length≤sizeLine:=by
  rcases h with h | ⟨o,its,n,hk,hc,_,hs,hz,r⟩
  · obtain⟨z,its,r,p⟩:=h.ok I.hok
    exact⟨its,r,p.tup,z⟩
  · refine⟨its.toList,r,⟨o,I.kIn a o hk,hc,n,by simpa using hs⟩,?_⟩
    have e:=r.length
    simp only [Array.length_toList] at e
    lia
theorem aF.list_inj(I:aF X pins σ H s)(h:eI X.K H a xs)(h':eI X.K H a ys):xs=ys:=by
  obtain⟨its,r,⟨o,n,e,_,_,d⟩,_⟩:=I.list h
  obtain⟨its',r',⟨o',n',e',_,_,d'⟩,_⟩:=I.list h'
  rw [e] at e';cases e'
  rw [d] at d'
  injection d' with d1 _
  have:its=its':=by simpa using congrArg Array.toList d1
  subst this
  exact r.inj r'
theorem aF.tuple_inj(I:aF X pins σ H s)(h:dO X.K H a xs)(h':dO X.K H a ys):xs=ys:=by
  obtain⟨its,r,⟨o,e,_,n,d⟩,_⟩:=I.tuple h
  obtain⟨its',r',⟨o',e',_,n',d'⟩,_⟩:=I.tuple h'
  rw [e] at e';cases e'
  rw [d] at d'
  injection d' with d1 _
  have:its=its':=by simpa using congrArg Array.toList d1
  subst this
  exact r.inj r'
end
abbrev Cx.wish(X:Cx)(E:Value→Shared→Prop):Cx:={X with xe:=E}
abbrev Cx.nox(X:Cx):Cx:=X.wish fun _ _=>False
theorem Cx.Ok.wish{X:Cx}(ok:X.Ok)(E:Value→Shared→Prop):(X.wish E).Ok:=
  ⟨ok.mod,ok.kind,ok.glob,ok.blt,ok.above,ok.inj,ok.has,ok.cab,ok.hd,ok.frames,ok.stk,ok.exf,ok.bs,ok.bsz,ok.noex,ok.exfs,ok.funs,ok.frf⟩
theorem Cx.Ok.unwish{X:Cx}{E:Value→Shared→Prop}(ok:(X.wish E).Ok):X.Ok:=
  ⟨ok.mod,ok.kind,ok.glob,ok.blt,ok.above,ok.inj,ok.has,ok.cab,ok.hd,ok.frames,ok.stk,ok.exf,ok.bs,ok.bsz,ok.noex,ok.exfs,ok.funs,ok.frf⟩
section
variable{X:Cx}{pins:List (Addr × Obj)}{σ:St}{H:Hp}{s:Shared}{E:Value→Shared→Prop}
theorem aF.wish(I:aF X pins σ H s)(E:Value→Shared→Prop):aF (X.wish E) pins σ H s:=⟨I.ok.wish E,I.os,I.bare,I.base,I.loc,I.cell,I.free,I.freeC,I.pin,I.hok,I.len⟩
theorem aF.unwish(I:aF (X.wish E) pins σ H s):aF X pins σ H s:=⟨I.ok.unwish,I.os,I.bare,I.base,I.loc,I.cell,I.free,I.freeC,I.pin,I.hok,I.len⟩
theorem SP.unwish{D:rP}{f:Flow}{s':Shared}(h:SP (X.wish E) pins D f s'):SP X pins D f s':=by
  cases f with
  | next=>obtain⟨σ',H',I,q⟩:=h;exact⟨σ',H',I.unwish,q⟩
  | brk=>obtain⟨σ',H',I,q⟩:=h;exact⟨σ',H',I.unwish,q⟩
  | cont=>obtain⟨σ',H',I,q⟩:=h;exact⟨σ',H',I.unwish,q⟩
  | ret u=>obtain⟨v,σ',H',I,r,q⟩:=h;exact⟨v,σ',H',I.unwish,r,q⟩
theorem lQ.nox{st:List Stmt}{t:TS}(h:lQ X.nox st t):lQ X st t:=fun pins s σ H D I hw=>
  wpAny_mono (h pins s σ H D (I.wish _) hw) (fun _ _ q=>q.unwish) fun _ _ z=>False.elim z
end
section
variable{X:Cx}{st:Stmt}{fM:List Stmt}{t u:TS}{e:Expr}{te:TE}{pos:Pos}
def Ew:TS:=fun D σ H=>D.nx σ H
def FL(t u:TS):TS:=fun D σ H=>t {D with nx:=u D} σ H
theorem zP:lQ X [] Ew:=fun _ _ σ H _ I h=>wpAny_execs_nil ⟨σ,H,I,h⟩
theorem xM(h1:PS X st t)(h2:lQ X fM u):lQ X (st::fM) (FL t u):=by
  intro pins s σ H D I h
  refine wpAny_execs_cons (cP (h1 pins s σ H {D with nx:=u D} I h) fun f s1 q=>?_)
  cases f with
  | next=>
    obtain⟨σ',H',I',q⟩:=q
    exact h2 pins s1 σ' H' D I' q
  | ret v=>exact q
  | brk=>exact q
  | cont=>exact q
theorem zQ(h1:PS X st t):lQ X [st] t:=by
  intro pins s σ H D I h
  refine wpAny_execs_cons (cP (h1 pins s σ H D I h) fun f s1 q=>?_)
  cases f with
  | next=>exact wpAny_execs_nil q
  | ret v=>exact q
  | brk=>exact q
  | cont=>exact q
theorem aF.quiet{pins:List (Addr × Obj)}{σ:St}{H:Hp}{s:Shared}(I:aF X pins σ H s):interactive X.env=false:=by simp [interactive,I.ok.kind]
def Eu(te:TE):TS:=fun D σ H=>te σ H fun _ H1=>D.nx σ H1
theorem zO(he:PE X e te)(hs:swapsWith e none pos.line X.env=pure false:=by rfl):PS X (.Expr e pos) (Eu te):=by
  intro pins s σ H D I h
  exact wpAny_Expr_any (cP (he pins s σ H _ I h) fun v s1 ⟨x,H1,I1,r1,q1⟩=>⟨σ,H1,I1,q1⟩) I.quiet hs
def FK(te:TE):TS:=fun D σ H=>te σ H D.rt
theorem B4(he:PE X e te):PS X (.Return (some e) pos) (FK te):=by
  intro pins s σ H D I h
  exact wpAny_Return_some (cP (he pins s σ H _ I h) fun v s1 ⟨x,H1,I1,r1,q1⟩=>⟨x,σ,H1,I1,r1,q1⟩)
def FC(c:TT)(t u:TS):TS:=fun D σ H=>c σ H fun b H1=>if b=true then t D σ H1 else u D σ H1
theorem D5{c:Expr}{a b:List Stmt}{tc:TT}(hc:PT X c tc)(ha:lQ X a t)(hb:lQ X b u):PS X (.If c a b pos) (FC tc t u):=by
  intro pins s σ H D I h
  refine wpAny_If (cP (hc pins s σ H _ I h) fun d s1 ⟨H1,I1,q1⟩=>?_)
  cases d with
  | true=>exact ha pins s1 σ H1 D I1 q1
  | false=>exact hb pins s1 σ H1 D I1 q1
end
abbrev TG:=V→St→Hp→(St→Hp→Prop)→Prop
abbrev yv:=List V→St→Hp→(St→Hp→Prop)→Prop
def PG(X:Cx)(target:Expr)(t:TG):Prop:=
  ∀(pins:List (Addr × Obj)) (s:Shared) (σ:St) (H:Hp) (v:V) (u:Value) (Q:St→Hp→Prop),aF X pins σ H s→bu v u→t v σ H Q→
    wpAny (model X.prog X.w) X.A (assign target X.env u) (fun _ s'=>∃σ' H',aF X pins σ' H' s'∧Q σ' H') X.xe s
def vw(X:Cx)(ts:List Expr)(t:yv):Prop:=
  ∀(pins:List (Addr × Obj)) (s:Shared) (σ:St) (H:Hp) (vs:List V) (us:List Value) (Q:St→Hp→Prop),aF X pins σ H s→aQ vs us→t vs σ H Q→
    wpAny (model X.prog X.w) X.A (assignInOrder ((assignEach ts X.env).map (·.2)) us) (fun _ s'=>∃σ' H',aF X pins σ' H' s'∧Q σ' H') X.xe s
abbrev AV:=V→V→V→Hp→(Hp→Prop)→Prop
def C2(X:Cx)(t:AV):Prop:=
  ∀(pins:List (Addr × Obj)) (s:Shared) (σ:St) (H:Hp) (o i v:V) (ov iv u:Value) (Q:Hp→Prop),aF X pins σ H s→bu o ov→bu i iv→bu v u→t o i v H Q→
    wpAny (model X.prog X.w) X.A (setItem ov iv u) (fun _ s'=>∃H',aF X pins σ H' s'∧Q H') X.xe s
section
variable{X:Cx}{pos:Pos}
def wF(i:Nat):TG:=fun v σ H Q=>Q (σ.set i (some v)) H
theorem zD{i:Nat}{x:Str}(hN:X.N.Nodup)(hi:X.N[i]?=some x)(hx:CT X.env.scope x)(hf:X.fn x=true∨X.env.scope.names.lookup x=some .local:=by first | exact .inl rfl | exact .inr rfl | assumption):PG X (.Name x pos) (wF i):=by
  intro pins s σ H v u Q I r h
  exact wpAny_assign_Name (ky I hN hi hx r (fun s' I'=>⟨_,H,I',h⟩) hf)
def Fc:yv:=fun vs σ H Q=>vs=[]∧Q σ H
def Dl(t:TG)(u:yv):yv:=fun vs σ H Q=>∃v r,vs=v::r∧t v σ H fun σ' H'=>u r σ' H' Q
theorem zF:vw X [] Fc:=by
  intro pins s σ H vs us Q I r h
  obtain⟨e,h⟩:=h
  subst e
  cases r
  exact assignInOrder_nil ⟨σ,H,I,h⟩
theorem xx{e:Expr}{es:List Expr}{t:TG}{u:yv}(h1:PG X e t)(h2:vw X es u)
    (hs:(assignEach (e::es) X.env).map (·.2)=assign e X.env::(assignEach es X.env).map (·.2):=by rfl):vw X (e::es) (Dl t u):=by
  intro pins s σ H vs us Q I r h
  obtain⟨v,vr,e1,h⟩:=h
  subst e1
  cases r with
  | cons r rr=>
    rw [hs]
    refine assignInOrder_cons (cP (h1 pins s σ H _ _ _ I r h) fun _ s1 ⟨σ1,H1,I1,q1⟩=>?_)
    exact h2 pins s1 σ1 H1 _ _ Q I1 rr q1
def sr(K:PySem.W.Frag)(n:Nat)(t:yv):TG:=fun v σ H Q=>∃a xs,v=.ref a∧dO K H a xs∧xs.length=n∧t xs σ H Q
theorem BX{es:List Expr}{k:Nat}{t:yv}{n:Nat}(hc:X.calm=true)(h:vw X es t)
    (hn:(assignEach es X.env).length=n:=by rfl)(hst:(assignEach es X.env).findIdx? (·.1)=none:=by rfl):PG X (.Tuple es k pos) (sr X.K n t):=by
  intro pins s σ H v u Q I r hw
  obtain⟨a,xs,e1,hq,hl,hw⟩:=hw
  subst e1
  cases r
  obtain⟨its,rv,ht,hz⟩:=I.tuple hq
  refine assign_Tuple_tuple (I.ok.hd hc) ht (by simp [hn,←hl,rv.length]) hst fun h' hx=>?_
  have I1:aF X pins σ H {s with heap:=h'}:=I.kept (t':=s.toks) fun b o e=>hx b o (Nat.ne_of_lt (Heap.lt_size e)) e
  exact h pins _ σ H xs _ Q I1 (by simpa using rv) hw
def Fe(to ti:TE)(t:AV):TG:=fun v σ H Q=>to σ H fun o H1=>ti σ H1 fun i H2=>t o i v H2 fun H3=>Q σ H3
theorem BW{o i:Expr}{to ti:TE}{t:AV}(ho:PE X o to)(hi:PE X i ti)(hs:C2 X t)
    (ha:∀v,assign (.Subscript o i pos) X.env v=(do
      let ov ←holding [v] (eval o X.env)
      let iv ←holding [v,ov] (eval i X.env)
      standAt pos
      holding [v,ov,iv] (setItem ov iv v)
      release [v,ov,iv] []):=by intro _;rfl):PG X (.Subscript o i pos) (Fe to ti t):=by
  intro pins s σ H v u Q I r h
  rw [ha]
  refine wpAny_bind (wpAny_holding (cP (ho pins s σ H _ I h) fun ov s1 ⟨x,H1,I1,r1,q1⟩=>?_))
  refine wpAny_bind (wpAny_holding (cP (hi pins s1 σ H1 _ I1 q1) fun iv s2 ⟨y,H2,I2,r2,q2⟩=>?_))
  refine wpAny_bind (wpAny_standAt (wpAny_bind (wpAny_holding (cP (hs pins s2 σ H2 x y v ov iv u _ I2 r1 r2 r q2) fun _ s3 ⟨H3,I3,q3⟩=>?_))))
  exact wpAny_release ⟨σ,H3,I3,q3⟩
def Cp(te:TE)(g:TG):TS:=fun D σ H=>te σ H fun x H1=>g x σ H1 D.nx
theorem xJ{tg e:Expr}{te:TE}{g:TG}(he:PE X e te)(hg:PG X tg g)(hs:swapsWithSole [tg] e pos.line X.env=pure false:=by rfl)(hw:swappedStores [tg] e X.env=pure none:=by rfl)
    (h1:(assignEach [tg] X.env).map (·.2)=[assign tg X.env]:=by rfl):PS X (.Assign [tg] e pos) (Cp te g):=by
  intro pins s σ H D I h
  refine wpAny_Assign_stores (cP (he pins s σ H _ I h) fun v s1 ⟨x,H1,I1,r1,q1⟩=>?_) hs hw
  rw [h1]
  exact cP (hg pins s1 σ H1 x v _ I1 r1 q1) fun _ s2 q=>q
theorem B5{i:Nat}{x:Str}{e:Expr}{te:TE}{pos':Pos}(hN:X.N.Nodup)(hi:X.N[i]?=some x)(hx:CT X.env.scope x)(he:PE X e te)(hs:swapsWith e (some (.Name x pos')) pos.line X.env=pure false:=by rfl)(hf:X.fn x=true∨X.env.scope.names.lookup x=some .local:=by first | exact .inl rfl | exact .inr rfl | assumption):
    PS X (.Assign [.Name x pos'] e pos) (Cp te (wF i)):=by
  intro pins s σ H D I h
  refine wpAny_Assign_Name (cP (he pins s σ H _ I h) fun v s1 ⟨y,H1,I1,r1,q1⟩=>?_) hs
  exact ky I1 hN hi hx r1 (fun s2 I2=>⟨_,H1,I2,q1⟩) hf
def FJ(i j:Nat)(ta:TA):TS:=fun D σ H=>ta σ H fun vs H1=>∃v w,vs=[v,w]∧D.nx ((σ.set i (some v)).set j (some w)) H1
theorem B3{i j:Nat}{x y:Str}{a b:Expr}{ta:TA}{px py pt:Pos}{kt k2 pt2}(hc:X.calm=true)(hN:X.N.Nodup)(hi:X.N[i]?=some x)(hj:X.N[j]?=some y)(hij:i≠j)
    (hx:X.env.scope.names.lookup x=some .local)(hy:X.env.scope.names.lookup y=some .local)(ha:PA X [a,b] ta)
    (hw:swappedStores [.Tuple [.Name x px,.Name y py] kt pt] (.Tuple [a,b] k2 pt2) X.env=pure (some [x,y]))
    (hs:swapsWithSole [.Tuple [.Name x px,.Name y py] kt pt] (.Tuple [a,b] k2 pt2) pos.line X.env=pure false:=by rfl):
    PS X (.Assign [.Tuple [.Name x px,.Name y py] kt pt] (.Tuple [a,b] k2 pt2) pos) (FJ i j ta):=by
  intro pins s σ H D I h
  rw [exec_Assign_arm]
  refine wpAny_bind (wpAny_standAt ?_)
  rw [hs]
  refine wpAny_bind (wpAny_pure ?_)
  rw [if_neg (by decide)]
  refine wpAny_bind (Tuple_ (cP (ha _ pins s σ H _ I h) fun us s1 ⟨vs,H1,I1,r1,q1⟩=>?_))
  obtain⟨v,w,e1,q1⟩:=q1
  subst e1
  obtain⟨u1,u2,rfl,rv,rw'⟩:∃u1 u2,us=[u1,u2]∧bu v u1∧bu w u2:=by
    cases r1 with
    | cons p q=>
      cases q with
      | cons p' q'=>
        cases q'
        exact⟨_,_,rfl,p,p'⟩
  refine wpAny_newObj_type ?_ (by show 2≤sizeLine;decide)
  have I2:aF X pins σ H1 {s1 with heap:=s1.heap.push {cls:=.type "tuple",data:=.seq [u1,u2].toArray}}:=I1.kept (t':=s1.toks) fun b o e=>Heap.get?_push_of_some _ e
  rw [hw]
  refine wpAny_bind (wpAny_pure ?_)
  show wpAny (model X.prog X.w) X.A (do rule "assign.swapped-stores";let items ←unpackItems (.ref s1.heap.objs.size) 2 none;assignInOrder [fun v=>bindName X.env y v,fun v=>bindName X.env x v] items.reverse;pure Flow.next) _ _ _
  refine wpAny_bind (wpAny_rule (wpAny_bind (unpackItems_tuple (items:=#[u1,u2]) (I.ok.hd hc) (IsTup.new s1.heap _) fun h' hx'=>?_)))
  have I3:=I2.kept (h':=h') (t':=s1.toks) fun b o e=>hx' b o (Nat.ne_of_lt (Heap.lt_size e)) e
  show wpAny _ _ (assignInOrder [fun v=>bindName X.env y v,fun v=>bindName X.env x v] [u2,u1] >>= fun _=>pure Flow.next) _ _ _
  refine wpAny_bind (assignInOrder_cons (wpAny_bindName (ky I3 hN hj (.inl hy) rw' (fun s2 I4=>?_) (.inr hy))))
  refine assignInOrder_cons (wpAny_bindName (ky I4 hN hi (.inl hx) rv (fun s3 I5=>assignInOrder_nil (wpAny_pure ?_)) (.inr hx)))
  rw [List.set_comm _ _ (Ne.symm hij)] at I5
  exact⟨_,H1,I5,q1⟩
end
section
variable{X:Cx}{pos:Pos}
def Cu(c:TT)(tb:TS):TS:=fun D σ H=>∃W:Nat→St→Hp→Prop,(∃m,W m σ H)∧∀m σ H,W m σ H→
  c σ H fun b H1=>if b=true then ∃N:St→Hp→Prop,(∀σ' H',N σ' H'→∃m',m' < m∧W m' σ' H')∧tb {D with nx:=N,ct:=N,bk:=D.nx} σ H1 else D.nx σ H1
theorem xK{c:Expr}{body:List Stmt}{tc:TT}{tb:TS}(hp:PassesOwn (model X.prog X.w) X.A X.env X.xe)(hc:PT X c tc)(hb:lQ X body tb):PS X (.While c body [] pos) (Cu tc tb):=by
  intro pins s σ H D I h
  obtain⟨W,⟨m0,w0⟩,turn⟩:=h
  refine wpAny_While (codeAny_whileLoop (fun n s'=>∃σ' H',aF X pins σ' H' s'∧W n σ' H') ?_ m0 ⟨σ,H,I,w0⟩)
  rintro n s1 ⟨σ1,H1,I1,w1⟩
  refine wpAny_passesOwn hp (cP (hc pins s1 σ1 H1 _ I1 (turn n σ1 H1 w1)) fun b s2 ⟨H2,I2,q2⟩=>?_)
  cases b with
  | true=>
    obtain⟨N,hN,q2⟩:=q2
    rw [if_pos rfl]
    refine wpAny_passesOwn hp (cP (hb pins s2 σ1 H2 _ I2 q2) fun f s3 q3=>?_)
    cases f with
    | next=>
      obtain⟨σ3,H3,I3,n3⟩:=q3
      obtain⟨m',hm,w3⟩:=hN σ3 H3 n3
      exact⟨m',hm,σ3,H3,I3,w3⟩
    | cont=>
      obtain⟨σ3,H3,I3,n3⟩:=q3
      obtain⟨m',hm,w3⟩:=hN σ3 H3 n3
      exact⟨m',hm,σ3,H3,I3,w3⟩
    | brk=>exact q3
    | ret v=>exact q3
  | false=>
    rw [if_neg Bool.false_ne_true]
    exact wpAny_execs_nil ⟨σ1,H2,I2,q2⟩
end
structure It where
  go:Nat→Hp→Prop
  yld:Nat→Hp→V→Hp→Prop
  stop:Nat→Hp→Prop
def i_(X:Cx)(pins:List (Addr × Obj))(H:Hp)(b:Addr):Prop:=
  H b=none∧b≠X.env.locals∧b∉X.fs∧(b∈X.ex∨X.s₀.heap.objs.size≤b)∧(∀x c,X.env.cells.lookup x=some c→c≠b)∧∀p∈X.pn++pins,p.1≠b
theorem aF.fpOk{X:Cx}{pins:List (Addr × Obj)}{σ:St}{H H':Hp}{s:Shared}{b:Addr}(I:aF X pins σ H s)(hb:s.heap.objs.size≤b)(hn:H' b=none):i_ X pins H' b:=by
  refine⟨hn,Nat.ne_of_gt (Nat.lt_of_lt_of_le I.lt hb),I.nofs hb,.inr (Nat.le_trans I.sz hb),fun x c e z=>?_,fun p hp z=>?_⟩
  · obtain⟨v,q⟩:=I.cell x c e
    exact absurd (Nat.lt_of_lt_of_le q.lt (by rw [z];exact hb)) (Nat.lt_irrefl _)
  · exact absurd (Nat.lt_of_lt_of_le (Heap.lt_size (I.pin p hp).1) (by rw [z];exact hb)) (Nat.lt_irrefl _)
structure uB (P:Program) (w:World) (K:PySem.W.Frag) (tg:Expr) (J:It) (fp:List Addr) (it:Addr) (tn:Nat→Heap→Prop):Prop where
  mem:it∈fp
  obj:∀i h,tn i h→∀b∈fp,∃o,h.get? b=some o∧∀v,o.data≠.cell v
  keep:∀i h h',tn i h→(∀b∈fp,∀o,h.get? b=some o→h'.get? b=some o)→tn i h'
  item:∀(X:Cx),X.prog=P→X.w=w→X.K=K→X.calm=true→∀(i:Nat) (pins:List (Addr × Obj)) (s:Shared) (σ:St) (H:Hp) (E:Value→Shared→Prop),aF X pins σ H s→(∀b∈fp,i_ X pins H b)→tn i s.heap→J.go i H→
    wpAny (model P w) X.A (pyNext (.ref it)) (fun r s1=>∃u,r=some u∧
      wpAny (model P w) X.A (letOwnedTupleGo tg (.ref it) u) (fun _ s2=>∃x H',aF X pins σ H' s2∧bu x u∧J.yld i H x H'∧tn (i+1) s2.heap∧∀b∈fp,H' b=none) E s1) E s
  done:∀(X:Cx),X.prog=P→X.w=w→X.K=K→X.calm=true→∀(i:Nat) (pins:List (Addr × Obj)) (s:Shared) (σ:St) (H:Hp) (E:Value→Shared→Prop),aF X pins σ H s→(∀b∈fp,i_ X pins H b)→tn i s.heap→J.stop i H→
    wpAny (model P w) X.A (pyNext (.ref it)) (fun r s1=>r=none∧aF X pins σ H s1) E s
  self:∀(A:Around) (i:Nat) (s:Shared) (Q:Value→Shared→Prop) (E:Value→Shared→Prop),tn i s.heap→Q (.ref it) s→wpAny (model P w) A (pyIter (.ref it)) Q E s
abbrev TI:=St→Hp→(It→Hp→Prop)→Prop
def FY(X:Cx)(pins:List (Addr × Obj))(σ:St)(tg:Expr)(R:It→Hp→Prop)(itv:Value)(s2:Shared):Prop:=
  ∃(it:Addr) (fp:List Addr) (tn:Nat→Heap→Prop) (J:It) (H':Hp),itv=.ref it∧aF X pins σ H' s2∧uB X.prog X.w X.K tg J fp it tn∧tn 0 s2.heap∧(∀b∈fp,i_ X pins H' b)∧R J H'
def PI(X:Cx)(tg iter:Expr)(wi:TI):Prop:=
  ∀(pins:List (Addr × Obj)) (s:Shared) (σ:St) (H:Hp) (R:It→Hp→Prop),aF X pins σ H s→wi σ H R→
    wpAny (model X.prog X.w) X.A (eval iter X.env) (fun v s1=>wpAny (model X.prog X.w) X.A (pyIter v) (FY X pins σ tg R) X.xe s1) X.xe s
theorem wJ{M:Model}{A:Around}{E:Value→Shared→Prop}{s:Shared}{tg:Expr}{it:Addr}{u:Value}{o:Obj}{n:String}{vs:Array Value}{Q:Unit→Shared→Prop}(ho:s.heap.get? it=some o)(hc:o.cls=.type n)(hd:o.data=.fields vs)
    (hn:["enumerate","zip","dict_itemiterator","dict_reverseitemiterator","odict_iterator","itertools.zip_longest","itertools.pairwise"].contains n=false)(hQ:Q () s):wpAny M A (letOwnedTupleGo tg (.ref it) u) Q E s:=by
  unfold letOwnedTupleGo
  cases tg<;>first
    | exact wpAny_pure hQ
    | (cases u<;>first
        | exact wpAny_pure hQ
        | (refine wpAny_bind (wpAny_load ho ?_)
           rw [hc,hd]
           show wpAny M A (if (["enumerate","zip","dict_itemiterator","dict_reverseitemiterator","odict_iterator","itertools.zip_longest","itertools.pairwise"].contains n&&vs[0]?==some (rawInt _))=true then _ else _) Q E s
           rw [if_neg (by intro h;rw [hn,Bool.false_and] at h;cases h)]
           exact wpAny_pure hQ))
def EY(K:PySem.W.Frag)(a:Addr):It:=
  ⟨fun i H=>∃xs x,eI K H a xs∧xs[i]?=some x,fun i H x H'=>H'=H∧∀xs,eI K H a xs→xs[i]?=some x,fun i H=>∃xs,eI K H a xs∧xs.length≤i⟩
def EZ(K:PySem.W.Frag)(a:Addr):It:=
  ⟨fun i H=>∃xs x,dO K H a xs∧xs[i]?=some x,fun i H x H'=>H'=H∧∀xs,dO K H a xs→xs[i]?=some x,fun i H=>∃xs,dO K H a xs∧xs.length≤i⟩
def EL(lo:Int)(n:Nat):It:=⟨fun i _=>i < n,fun i H x H'=>H'=H∧x=.int (lo+i),fun i _=>n≤i⟩
theorem vq{P:Program}{w:World}{K:PySem.W.Frag}{tg:Expr}(a it:Addr):uB P w K tg (EY K a) [it] it (fun i h=>h.IsListIter it a i) where
  mem:=by simp
  obj:=fun i h st b hb=>by
    have e:b=it:=by simpa using hb
    subst e
    obtain⟨o,e,c,d⟩:=st
    exact⟨o,e,fun v z=>by rw [d] at z;cases z⟩
  keep:=fun i h h' st k=>st.at fun o e=>k it (by simp) o e
  item:=by
    intro X hP hw hK hc i pins s σ H E I hf st hg
    subst hP hw hK
    obtain⟨xs,x,hq,hx⟩:=hg
    obtain⟨its,rv,p,hz⟩:=I.list hq
    obtain⟨u,hu,ru⟩:=rv.get hx
    obtain⟨f0,f1,f2,f3,f4,f5⟩:=hf it (by simp)
    refine wpAny_pyNext_list_item st p.isList (x:=u) (by simpa using hu) fun h' st' sb=>?_
    have I1:aF X pins σ H {s with heap:=h'}:=I.turned (t':=s.toks) (fun b o hb e=>(sb.2 b hb).trans e) f0 f1 f3 f4 f5
    obtain⟨o,e,c,d⟩:=id st'
    exact⟨u,rfl,wJ (s:={s with heap:=h'}) e c d (by decide) ⟨x,H,I1,ru,⟨rfl,fun ys hy=>by rw [I.list_inj hy hq];exact hx⟩,st',fun b hb=>(hf b hb).1⟩⟩
  done:=by
    intro X hP hw hK hc i pins s σ H E I hf st hg
    subst hP hw hK
    obtain⟨xs,hq,hx⟩:=hg
    obtain⟨its,rv,p,hz⟩:=I.list hq
    obtain⟨f0,f1,f2,f3,f4,f5⟩:=hf it (by simp)
    have hl:=rv.length
    exact wpAny_pyNext_list_end (I.ok.hd hc) st p.isList (by simp;lia) fun h' eb=>⟨rfl,I.turned (t':=s.toks) (fun b o hb e=>eb b o hb e) f0 f1 f3 f4 f5⟩
  self:=fun _ _ _ _ _ st h=>wpAny_pyIter_listiter st h
theorem sX{P:Program}{w:World}{K:PySem.W.Frag}{tg:Expr}(a it:Addr):uB P w K tg (EZ K a) [it] it (fun i h=>h.IsTupleIter it a i) where
  mem:=by simp
  obj:=fun i h st b hb=>by
    have e:b=it:=by simpa using hb
    subst e
    obtain⟨o,e,c,d⟩:=st
    exact⟨o,e,fun v z=>by rw [d] at z;cases z⟩
  keep:=fun i h h' st k=>st.at fun o e=>k it (by simp) o e
  item:=by
    intro X hP hw hK hc i pins s σ H E I hf st hg
    subst hP hw hK
    obtain⟨xs,x,hq,hx⟩:=hg
    obtain⟨its,rv,p,hz⟩:=I.tuple hq
    obtain⟨u,hu,ru⟩:=rv.get hx
    obtain⟨f0,f1,f2,f3,f4,f5⟩:=hf it (by simp)
    refine wpAny_pyNext_tuple_item st (show s.heap.IsTuple a its.toArray from p) (x:=u) (by simpa using hu) fun h' st' sb=>?_
    have I1:aF X pins σ H {s with heap:=h'}:=I.turned (t':=s.toks) (fun b o hb e=>(sb.2 b hb).trans e) f0 f1 f3 f4 f5
    obtain⟨o,e,c,d⟩:=id st'
    exact⟨u,rfl,wJ (s:={s with heap:=h'}) e c d (by decide) ⟨x,H,I1,ru,⟨rfl,fun ys hy=>by rw [I.tuple_inj hy hq];exact hx⟩,st',fun b hb=>(hf b hb).1⟩⟩
  done:=by
    intro X hP hw hK hc i pins s σ H E I hf st hg
    subst hP hw hK
    obtain⟨xs,hq,hx⟩:=hg
    obtain⟨its,rv,p,hz⟩:=I.tuple hq
    obtain⟨f0,f1,f2,f3,f4,f5⟩:=hf it (by simp)
    have hl:=rv.length
    exact wpAny_pyNext_tuple_end (I.ok.hd hc) st (show s.heap.IsTuple a its.toArray from p) (by simp;lia) fun h' eb=>⟨rfl,I.turned (t':=s.toks) (fun b o hb e=>eb b o hb e) f0 f1 f3 f4 f5⟩
  self:=fun _ _ _ _ _ st h=>wpAny_pyIter_tupleiter st h
theorem sW{P:Program}{w:World}{K:PySem.W.Frag}{tg:Expr}(it:Addr)(lo:Int)(n:Nat):uB P w K tg (EL lo n) [it] it (fun i h=>IsRangeIter h it (lo+(i:Nat)*1) ((n:Int) - (i:Nat)) 1) where
  mem:=by simp
  obj:=fun i h st b hb=>by
    have e:b=it:=by simpa using hb
    subst e
    exact⟨_,st,fun v z=>by
      have z':Data.fields _=Data.cell v:=z
      cases z'⟩
  keep:=fun i h h' st k=>k it (by simp) _ st
  item:=by
    intro X hP hw hK hc i pins s σ H E I hf st hg
    subst hP hw hK
    obtain⟨f0,f1,f2,f3,f4,f5⟩:=hf it (by simp)
    have W:=Walks.range (prog:=X.prog) (w:=X.w) (I.ok.hd hc) it lo 1 n
    refine W.item i s _ _ hg st fun v h' tk hv st' kk=>?_
    obtain⟨t,rfl⟩:=hv
    have I1:aF X pins σ H {s with heap:=h',toks:=tk}:=I.turned (fun b o hb e=>kk b o (by simpa using hb) e) f0 f1 f3 f4 f5
    refine⟨_,rfl,wJ (s:={s with heap:=h',toks:=tk}) (n:="range_iterator") st' rfl rfl (by decide) ⟨.int (lo+i),H,I1,⟨t,?_⟩,⟨rfl,rfl⟩,st',fun b hb=>(hf b hb).1⟩⟩
    rw [Int.mul_one]
  done:=by
    intro X hP hw hK hc i pins s σ H E I hf st hg
    subst hP hw hK
    obtain⟨f0,f1,f2,f3,f4,f5⟩:=hf it (by simp)
    exact wpAny_pyNext_range_end (I.ok.hd hc) st (by have:n≤i:=hg;lia) fun h' eb=>⟨rfl,I.turned (t':=s.toks) (fun b o hb e=>eb b o hb e) f0 f1 f3 f4 f5⟩
  self:=fun _ _ _ _ _ st h=>wpAny_pyIter_rangeiter st h
end L2
namespace L2
open PySem PySem.Spec PyProof.Rows
section
variable{X:Cx}{tg:Expr}
def Az(K:PySem.W.Frag)(tl:TE):TI:=fun σ H R=>tl σ H fun x H1=>∃a,x=.ref a∧(∃xs,eI K H1 a xs)∧R (EY K a) H1
def Dq(K:PySem.W.Frag)(tl:TE):TI:=fun σ H R=>tl σ H fun x H1=>∃a,x=.ref a∧(∃xs,dO K H1 a xs)∧R (EZ K a) H1
theorem zG{l:Expr}{tl:TE}(hl:PE X l tl):PI X tg l (Az X.K tl):=by
  intro pins s σ H R I h
  refine cP (hl pins s σ H _ I h) fun v s1 ⟨x,H1,I1,r1,q1⟩=>?_
  obtain⟨a,e,⟨xs,hq⟩,q⟩:=q1
  subst e
  cases r1
  obtain⟨its,rv,p,hz⟩:=I1.list hq
  refine wpAny_pyIter_list p.isList ?_
  refine⟨s1.heap.objs.size,[s1.heap.objs.size],_,_,H1,rfl,I1.kept (t':=s1.toks) fun b o e=>Heap.get?_push_of_some _ e,vq a _,⟨_,Heap.get?_push_size _ rfl,rfl,rfl⟩,fun b hb=>?_,q⟩
  have e:b=s1.heap.objs.size:=by simpa using hb
  subst e
  exact I1.fpOk (Nat.le_refl _) (I1.hok.fresh (Nat.le_refl _))
theorem BY{l:Expr}{tl:TE}(hl:PE X l tl):PI X tg l (Dq X.K tl):=by
  intro pins s σ H R I h
  refine cP (hl pins s σ H _ I h) fun v s1 ⟨x,H1,I1,r1,q1⟩=>?_
  obtain⟨a,e,⟨xs,hq⟩,q⟩:=q1
  subst e
  cases r1
  obtain⟨its,rv,p,hz⟩:=I1.tuple hq
  refine wpAny_pyIter_tuple (show s1.heap.IsTuple a its.toArray from p) ?_
  refine⟨s1.heap.objs.size,[s1.heap.objs.size],_,_,H1,rfl,I1.kept (t':=s1.toks) fun b o e=>Heap.get?_push_of_some _ e,sX a _,⟨_,Heap.get?_push_size _ rfl,rfl,rfl⟩,fun b hb=>?_,q⟩
  have e:b=s1.heap.objs.size:=by simpa using hb
  subst e
  exact I1.fpOk (Nat.le_refl _) (I1.hok.fresh (Nat.le_refl _))
theorem x8{pins:List (Addr × Obj)}{σ:St}{H:Hp}{s:Shared}{R:It→Hp→Prop}{E:Value→Shared→Prop}{lo hi:Int}{t u v:Tok}{tk:Nat}(I:aF X pins σ H s)(h1: -(2 ^ 62)≤lo)(h2:lo < 2 ^ 62)(h3: -(2 ^ 62)≤hi)(h4:hi < 2 ^ 62)
    (q:R (EL lo (hi - lo).toNat) H):wpAny (model X.prog X.w) X.A (pyIter (.ref s.heap.objs.size)) (FY X pins σ tg R) E {s with heap:=s.heap.push {cls:=.type "range",data:=.fields #[.int lo t,.int hi u,.int 1 v]},toks:=tk}:=by
  refine wpAny_pyIter_range (IsRange.new ..) (small_one h1 h2 h3 h4) ?_
  have I1:aF X pins σ H {s with heap:=s.heap.push {cls:=.type "range",data:=.fields #[.int lo t,.int hi u,.int 1 v]},toks:=tk}:=I.kept fun b o e=>Heap.get?_push_of_some _ e
  refine⟨(s.heap.push {cls:=.type "range",data:=.fields #[.int lo t,.int hi u,.int 1 v]}).objs.size,[(s.heap.push {cls:=.type "range",data:=.fields #[.int lo t,.int hi u,.int 1 v]}).objs.size],_,_,H,rfl,
    I1.kept (t':=tk) fun b o e=>Heap.get?_push_of_some _ e,sW _ lo (hi - lo).toNat,?_,fun b hb=>?_,q⟩
  · have e1:lo+((0:Nat):Int)*1=lo:=by simp
    have e2:(((hi - lo).toNat:Nat):Int) - ((0:Nat):Int)=Builtin.Range.rangeSize lo hi 1:=by rw [rangeSize_one];split<;>lia
    show IsRangeIter _ _ (lo+((0:Nat):Int)*1) ((((hi - lo).toNat:Nat):Int) - ((0:Nat):Int)) 1
    rw [e1,e2]
    exact Heap.get?_push_size _ rfl
  · have e:b=(s.heap.push {cls:=.type "range",data:=.fields #[.int lo t,.int hi u,.int 1 v]}).objs.size:=by simpa using hb
    subst e
    exact I1.fpOk (Nat.le_refl _) (I1.hok.fresh (Nat.le_refl _))
def Dp(ta:TA):TI:=fun σ H R=>ta σ H fun vs H1=>∃j:Int,vs=[.int j]∧ -(2 ^ 62)≤j∧j < 2 ^ 62∧R (EL 0 j.toNat) H1
theorem vg{a:Expr}{ta:TA}{p pos:Pos}(hg:Gl X "range")(hm:X.mg "range"=none)(ha:PA X [a] ta)(hs:starEach [a] X.env=[(false,eval a X.env)]:=by rfl):PI X tg (.Call (.Name "range" p) [a] [] pos) (Dp ta):=by
  intro pins s σ H R I h
  refine Call_ (k7 I hg hm boot_range (PyProof.Rows.callWith_type1 (cP (ha pos pins s σ H _ I h) fun us s1 ⟨vs,H1,I1,r1,q1⟩=>?_) hs rfl))
  obtain⟨j,e,q1,q2,q⟩:=q1
  subst e
  cases r1 with
  | cons r rr=>
    cases rr
    obtain⟨t,rfl⟩:=r
    exact call_range_1 (x8 I1 (by lia) (by lia) q1 q2 (by simpa using q))
def FB(wi:TI)(g:TG)(tb:TS):TS:=fun D σ H=>wi σ H fun J H1=>∃W:Nat→Nat→St→Hp→Prop,(∃m,W 0 m σ H1)∧∀i m σ H,W i m σ H→
  (J.stop i H∧D.nx σ H)∨(J.go i H∧∃N:St→Hp→Prop,(∀σ' H',N σ' H'→∃m',m' < m∧W (i+1) m' σ' H')∧∀x H',J.yld i H x H'→g x σ H' fun σ2 H2=>tb {D with nx:=N,ct:=N,bk:=D.nx} σ2 H2)
def k_(fp:List Addr)(h:Heap):List (Addr × Obj):=fp.filterMap fun b=>(h.get? b).map fun o=>(b,o)
theorem dU{fp:List Addr}{h:Heap}{b:Addr}{o:Obj}(hb:b∈fp)(e:h.get? b=some o):(b,o)∈k_ fp h:=List.mem_filterMap.mpr ⟨b,hb,by rw [e];rfl⟩
theorem u9{fp:List Addr}{h:Heap}{p:Addr × Obj}(hp:p∈k_ fp h):p.1∈fp∧h.get? p.1=some p.2:=by
  obtain⟨b,hb,e⟩:=List.mem_filterMap.mp hp
  cases q:h.get? b with
  | none=>rw [q] at e;cases e
  | some o=>
    rw [q] at e
    have e':(b,o)=p:=Option.some.inj e
    subst e'
    exact⟨hb,q⟩
theorem aF.pinned{pins:List (Addr × Obj)}{σ:St}{H:Hp}{s:Shared}{fp:List Addr}(I:aF X pins σ H s)(hf:∀b∈fp,i_ X pins H b)(ho:∀b∈fp,∃o,s.heap.get? b=some o∧∀v,o.data≠.cell v):aF X (pins++k_ fp s.heap) σ H s:=
  I.pins_of fun p hp=>(List.mem_append.mp hp).elim (fun z=>I.pin p (List.mem_append_right _ z)) fun z=>by
    obtain⟨hb,e⟩:=u9 z
    obtain⟨f0,f1,f2,_⟩:=hf p.1 hb
    obtain⟨o,e',d⟩:=ho p.1 hb
    rw [e] at e';cases e'
    exact⟨e,f0,f1,f2,d⟩
theorem aF.unpinned{pins pl:List (Addr × Obj)}{σ:St}{H:Hp}{s:Shared}(I:aF X (pins++pl) σ H s):aF X pins σ H s:=I.pins_of fun p hp=>I.pin p (List.mem_append_right _ (List.mem_append_left _ hp))
theorem B1{iter:Expr}{body:List Stmt}{wi:TI}{g:TG}{tb:TS}{pos:Pos}(hp:PassesOwn (model X.prog X.w) X.A X.env X.xe)(hc:X.calm=true)(hi:PI X tg iter wi)(hg:PG X tg g)(hb:lQ X body tb)
    (hs:∀x,foldedSetIterable iter X.env x=pure x:=by intro _;rfl):PS X (.For tg iter body [] pos) (FB wi g tb):=by
  intro pins s σ H D I h
  refine wpAny_For (cP (hi pins s σ H _ I h) fun v s1 h1=>cP h1 fun itv s2 h2=>?_) hs
  obtain⟨it,fp,tn,J,H2,e,I2,T,st2,f2,W,⟨m0,w0⟩,turn⟩:=h2
  subst e
  have stat:∀{H':Hp},(∀b∈fp,H' b=none)→∀b∈fp,i_ X pins H' b:=fun hn b hb=>⟨hn b hb,(f2 b hb).2⟩
  refine codeAny_forLoop_any (fun n s'=>∃i σ' H',aF X pins σ' H' s'∧tn i s'.heap∧(∀b∈fp,H' b=none)∧W i n σ' H') ?_ m0 ⟨0,σ,H2,I2,st2,fun b hb=>(f2 b hb).1,w0⟩
  rintro n s3 ⟨i,σ3,H3,I3,st3,fr3,w3⟩
  rcases turn i n σ3 H3 w3 with ⟨stop,qn⟩ | ⟨go,N,hN,step⟩
  · refine wpAny_passesOwn hp (cP (T.done X rfl rfl rfl hc i pins s3 σ3 H3 X.xe I3 (stat fr3) st3 stop) fun r s4 ⟨hr,I4⟩=>?_)
    subst hr
    exact wpAny_execs_nil ⟨σ3,H3,I4,qn⟩
  · refine wpAny_passesOwn hp (cP (T.item X rfl rfl rfl hc i pins s3 σ3 H3 X.xe I3 (stat fr3) st3 go) fun r s4 ⟨u,hr,h4⟩=>?_)
    subst hr
    refine wpAny_passesOwn hp (cP h4 fun _ s5 ⟨x,H5,I5,r5,y5,st5,fr5⟩=>?_)
    have I5':=I5.pinned (stat fr5) (T.obj _ _ st5)
    refine wpAny_passesOwn hp (cP (hg _ s5 σ3 H5 x u _ I5' r5 (step x H5 y5)) fun _ s6 ⟨σ6,H6,I6,q6⟩=>?_)
    refine wpAny_passesOwn hp (cP (hb _ s6 σ6 H6 _ I6 q6) fun f s7 q7=>?_)
    have again:∀{σ7:St} {H7:Hp},aF X (pins++k_ fp s5.heap) σ7 H7 s7→N σ7 H7→∃m,m < n∧∃i σ' H',aF X pins σ' H' s7∧tn i s7.heap∧(∀b∈fp,H' b=none)∧W i m σ' H':=fun{σ7 H7} I7 n7=>by
      obtain⟨m',hm,w7⟩:=hN σ7 H7 n7
      refine⟨m',hm,i+1,σ7,H7,I7.unpinned,T.keep _ _ _ st5 fun b hb o e=>(I7.pin (b,o) (List.mem_append_right _ (List.mem_append_right _ (dU hb e)))).1,fun b hb=>?_,w7⟩
      obtain⟨o,e,d⟩:=T.obj _ _ st5 b hb
      exact(I7.pin (b,o) (List.mem_append_right _ (List.mem_append_right _ (dU hb e)))).2.1
    cases f with
    | next=>obtain⟨σ7,H7,I7,n7⟩:=q7;exact again I7 n7
    | cont=>obtain⟨σ7,H7,I7,n7⟩:=q7;exact again I7 n7
    | brk=>obtain⟨σ7,H7,I7,q7⟩:=q7;exact⟨σ7,H7,I7.unpinned,q7⟩
    | ret v=>obtain⟨x7,σ7,H7,I7,r7,q7⟩:=q7;exact⟨x7,σ7,H7,I7.unpinned,r7,q7⟩
end
end L2
namespace L2
open PySem PySem.Spec PyProof.Rows
abbrev R2:=V→V→Hp→VK→Prop
def gu(X:Cx)(f:Value→Value→Sem Value)(r:R2):Prop:=
  ∀(pins:List (Addr × Obj)) (s:Shared) (σ:St) (H:Hp) (x y:V) (v u:Value) (Q:VK),aF X pins σ H s→bu x v→bu y u→r x y H Q→
    wpAny (model X.prog X.w) X.A (f v u) (EP X pins σ Q) X.xe s
def EQ(X:Cx)(f:Value→Sem Value)(r:V→Hp→VK→Prop):Prop:=
  ∀(pins:List (Addr × Obj)) (s:Shared) (σ:St) (H:Hp) (x:V) (v:Value) (Q:VK),aF X pins σ H s→bu x v→r x H Q→
    wpAny (model X.prog X.w) X.A (f v) (EP X pins σ Q) X.xe s
def ed(X:Cx)(f:Value)(r:List V→Hp→VK→Prop):Prop:=
  ∀(pins:List (Addr × Obj)) (s:Shared) (σ:St) (H:Hp) (xs:List V) (us:List Value) (Q:VK),aF X pins σ H s→aQ xs us→r xs H Q→
    wpAny (model X.prog X.w) X.A (call f us) (EP X pins σ Q) X.xe s
def Ez(r:R2)(ta tb:TE):TE:=fun σ H Q=>ta σ H fun x H1=>tb σ H1 fun y H2=>r x y H2 Q
def Gd(r:V→Hp→VK→Prop)(ta:TE):TE:=fun σ H Q=>ta σ H fun x H1=>r x H1 Q
def rI(C:Int→Int→Prop)(g:Int→Int→V):R2:=fun x y H Q=>∃i j,x=.int i∧y=.int j∧C i j∧Q (g i j) H
def vj(g:Int→Int→V):R2:=fun x y H Q=>∃i j,x=.int i∧y=.int j∧Q (g i j) H
def rU(g:Int→V):V→Hp→VK→Prop:=fun x H Q=>∃i,x=.int i∧Q (g i) H
section
variable{X:Cx}{a b c:Expr}{ta tb tc:TE}{pos:Pos}
theorem AY(ha:PE X a ta)(hb:PE X b tb){pins:List (Addr × Obj)}{s:Shared}{σ:St}{H:Hp}{R:V→V→Hp→Prop}(I:aF X pins σ H s)
    (h:ta σ H fun x H1=>tb σ H1 fun y H2=>R x y H2){Q:Value→Shared→Prop}{f:Value→Value→Sem Value}
    (hf:∀v u s2 x y H2,aF X pins σ H2 s2→bu x v→bu y u→R x y H2→wpAny (model X.prog X.w) X.A (f v u) Q X.xe s2):
    wpAny (model X.prog X.w) X.A (eval a X.env) (fun v s₁=>wpAny (model X.prog X.w) X.A (eval b X.env) (fun u s₂=>wpAny (model X.prog X.w) X.A (f v u) Q X.xe s₂) X.xe s₁) X.xe s:=by
  refine cP (ha pins s σ H _ I h) fun v s1 ⟨x,H1,I1,r1,q1⟩=>?_
  refine cP (hb pins s1 σ H1 _ I1 q1) fun u s2 ⟨y,H2,I2,r2,q2⟩=>?_
  exact hf v u s2 x y H2 I2 r1 r2 q2
theorem DY{op:Operator}{r:R2}(ho:gu X (binaryOp op) r)(ha:PE X a ta)(hb:PE X b tb):PE X (.BinOp a op b pos) (Ez r ta tb):=by
  intro pins s σ H Q I h
  exact wpAny_BinOp (AY ha hb I h fun v u s2 x y H2 I2 rx ry q=>ho pins s2 σ H2 x y v u Q I2 rx ry q)
theorem DZ{op:UnaryOp}{r:V→Hp→VK→Prop}(ho:EQ X (unaryOp op) r)(ha:PE X a ta):PE X (.UnaryOp op a pos) (Gd r ta):=by
  intro pins s σ H Q I h
  exact UnaryOp_ (cP (ha pins s σ H _ I h) fun v s1 ⟨x,H1,I1,r1,q1⟩=>ho pins s1 σ H1 x v Q I1 r1 q1)
theorem DK{f:Value→Value→Sem Value}{C:Int→Int→Prop}{g:Int→Int→Int}
    (rule:∀(i j:Int) (t u:Tok) (s:Shared) (Q:Value→Shared→Prop) (E:Value→Shared→Prop),C i j→Q (.int (g i j) s.toks) {s with toks:=s.toks+1}→wpAny (model X.prog X.w) X.A (f (.int i t) (.int j u)) Q E s):
    gu X f (rI C fun i j=>.int (g i j)):=by
  intro pins s σ H x y v u Q I rx ry h
  obtain⟨i,j,rfl,rfl,hc,q⟩:=h
  obtain⟨t,rfl⟩:=rx
  obtain⟨t',rfl⟩:=ry
  exact rule i j t t' s _ _ hc ⟨.int (g i j),H,I.tok _,⟨_,rfl⟩,q⟩
theorem DL{f:Value→Value→Sem Value}{g:Int→Int→Int}
    (rule:∀(i j:Int) (t u:Tok) (s:Shared) (Q:Value→Shared→Prop) (E:Value→Shared→Prop),Q (.int (g i j) s.toks) {s with toks:=s.toks+1}→wpAny (model X.prog X.w) X.A (f (.int i t) (.int j u)) Q E s):
    gu X f (vj fun i j=>.int (g i j)):=by
  intro pins s σ H x y v u Q I rx ry h
  obtain⟨i,j,rfl,rfl,q⟩:=h
  obtain⟨t,rfl⟩:=rx
  obtain⟨t',rfl⟩:=ry
  exact rule i j t t' s _ _ ⟨.int (g i j),H,I.tok _,⟨_,rfl⟩,q⟩
theorem By{f:Value→Value→Sem Value}{g:Int→Int→Bool}
    (rule:∀(i j:Int) (t u:Tok) (s:Shared) (Q:Value→Shared→Prop) (E:Value→Shared→Prop),Q (.bool (g i j)) s→wpAny (model X.prog X.w) X.A (f (.int i t) (.int j u)) Q E s):
    gu X f (vj fun i j=>.bl (g i j)):=by
  intro pins s σ H x y v u Q I rx ry h
  obtain⟨i,j,rfl,rfl,q⟩:=h
  obtain⟨t,rfl⟩:=rx
  obtain⟨t',rfl⟩:=ry
  exact rule i j t t' s _ _ ⟨.bl (g i j),H,I,rfl,q⟩
def AN(i j:Int):Prop:=0≤j∧j≤1000000∧i.natAbs < 2 ^ 64
def yE(i j:Int):Prop:=(-(2 ^ 64) < i∧i < 2 ^ 64)∨(-(2 ^ 64) < j∧j < 2 ^ 64)
theorem yE.ok{i j:Int}(h:yE i j):IntMulOk i j:=by
  rcases h with ⟨h1,h2⟩ | ⟨h1,h2⟩
  · exact .of_left (intBits_le_64 h1 h2)
  · exact .of_right (intBits_le_64 h1 h2)
theorem Bz:gu X (binaryOp .Add) (vj fun i j=>.int (i+j)):=DL fun _ _ _ _ _ _ _ q=>add_int q
theorem BM:gu X (binaryOp .Sub) (vj fun i j=>.int (i - j)):=DL fun _ _ _ _ _ _ _ q=>sub_int q
theorem BI:gu X (binaryOp .Mult) (rI yE fun i j=>.int (i*j)):=DK fun _ _ _ _ _ _ _ hc q=>mul_int q hc.ok
theorem zq:gu X (binaryOp .Mod) (rI (fun _ j=>j≠0) fun i j=>.int (i.fmod j)):=DK fun _ _ _ _ _ _ _ hc q=>mod_int' hc q
theorem BK:gu X (binaryOp .Pow) (rI AN fun i j=>.int (i ^ j.toNat)):=DK fun _ _ _ _ _ _ _ hc q=>pow_int_small hc.1 hc.2.1 hc.2.2 q
theorem GA{f:Value→Sem Value}{g:Int→Int}
    (rule:∀(i:Int) (t:Tok) (s:Shared) (Q:Value→Shared→Prop) (E:Value→Shared→Prop),Q (.int (g i) s.toks) {s with toks:=s.toks+1}→wpAny (model X.prog X.w) X.A (f (.int i t)) Q E s):
    EQ X f (rU fun i=>.int (g i)):=by
  intro pins s σ H x v Q I rx h
  obtain⟨i,rfl,q⟩:=h
  obtain⟨t,rfl⟩:=rx
  exact rule i t s _ _ ⟨.int (g i),H,I.tok _,⟨_,rfl⟩,q⟩
theorem CJ:EQ X (unaryOp .USub) (rU fun i=>.int (-i)):=GA fun _ _ _ _ _ q=>neg_int q
end
section
variable{X:Cx}{a b c:Expr}{ta tb tc:TE}{pos:Pos}
theorem wk{pins:List (Addr × Obj)}{σ:St}{H:Hp}{s:Shared}{Q:VK}{k k':Bool}(I:aF X pins σ H s)(q:Q (.bl k) H)(e:k=k'):EP X pins σ Q (.bool k') s:=by
  subst e
  exact⟨.bl k,H,I,rfl,q⟩
theorem DO:gu X (compareOp .Lt) (vj fun i j=>.bl (decide (i < j))):=By fun _ _ _ _ _ _ _ q=>lt_int q
theorem DN:gu X (compareOp .Gt) (vj fun i j=>.bl (decide (j < i))):=By fun _ _ _ _ _ _ _ q=>gt_int q
theorem DM:gu X (compareOp .GtE) (vj fun i j=>.bl (decide (j≤i))):=By fun _ _ _ _ _ _ _ q=>ge_int q
theorem BH:gu X (compareOp .Is) (fun x y H Q=>y=.non∧Q (.bl (decide (x=.non))) H):=by
  intro pins s σ H x y v u Q I rx ry h
  obtain⟨rfl,q⟩:=h
  cases ry
  refine is_none_gen (wk I q ?_)
  cases x<;>first
    | (cases rx;rfl)
    | (obtain⟨t,rfl⟩:=rx;rfl)
theorem zw:gu X (compareOp .IsNot) (fun x y H Q=>y=.non∧Q (.bl (!decide (x=.non))) H):=by
  intro pins s σ H x y v u Q I rx ry h
  obtain⟨rfl,q⟩:=h
  cases ry
  refine isnot_none_gen (wk I q ?_)
  cases x<;>first
    | (cases rx;rfl)
    | (obtain⟨t,rfl⟩:=rx;rfl)
theorem gu.or{f:Value→Value→Sem Value}{r r':R2}(h:gu X f r)(h':gu X f r'):gu X f (fun x y H Q=>r x y H Q∨r' x y H Q):=by
  intro pins s σ H x y v u Q I rx ry q
  rcases q with q | q
  · exact h pins s σ H x y v u Q I rx ry q
  · exact h' pins s σ H x y v u Q I rx ry q
theorem aP(b:Expr){op:CmpOp}(h:op≠.In:=by decide)(h2:op≠.NotIn:=by decide):behindInMarks op b=false:=by
  have e1:(op==CmpOp.In)=false:=by cases op<;>first | rfl | exact absurd rfl h
  have e2:(op==CmpOp.NotIn)=false:=by cases op<;>first | rfl | exact absurd rfl h2
  cases b<;>simp [behindInMarks,e1,e2]
theorem zz{op:CmpOp}{r:R2}(ho:gu X (compareOp op) r)(ha:PE X a ta)(hb:PE X b tb)(hm:behindInMarks op b=false):PE X (.Compare a [op] [b] pos) (Ez r ta tb):=by
  intro pins s σ H Q I h
  exact wpAny_Compare1 (AY ha hb I h fun v u s2 x y H2 I2 rx ry q=>ho pins s2 σ H2 x y v u Q I2 rx ry q) hm
def EB(t:TE):TT:=fun σ H Q=>t σ H fun x H'=>∃k,x=.bl k∧Q k H'
theorem zR{op:CmpOp}{r:R2}(ho:gu X (compareOp op) r)(ha:PE X a ta)(hb:PE X b tb)(hm:behindInMarks op b=false):PT X (.Compare a [op] [b] pos) (EB (Ez r ta tb)):=by
  intro pins s σ H Q I h
  refine wpAny_isTrue_Compare1 (cP (ha pins s σ H _ I h) fun v s1 ⟨x,H1,I1,r1,q1⟩=>cP (hb pins s1 σ H1 _ I1 q1) fun u s2 ⟨y,H2,I2,r2,q2⟩=>
    cP (ho pins s2 σ H2 x y v u _ I2 r1 r2 q2) fun c s3 ⟨z,H3,I3,r3,k,e,q3⟩=>?_) hm
  subst e
  cases r3
  exact wpAny_truthy_bool ⟨H3,I3,q3⟩
theorem pQ:(sizeLine:Nat) < 2 ^ 63:=by rw [sizeLine_eq];decide
theorem o8{x:V}{us:List Value}(r:aQ [x] us):∃u,us=[u]∧bu x u:=by
  cases r with
  | cons r1 r2=>cases r2;exact⟨_,rfl,r1⟩
theorem AM{x y:V}{us:List Value}(r:aQ [x,y] us):∃u w',us=[u,w']∧bu x u∧bu y w':=by
  cases r with
  | cons r1 r2=>
    cases r2 with
    | cons r3 r4=>cases r4;exact⟨_,_,rfl,r1,r3⟩
theorem vO:ed X (.builtin "abs") (fun xs H Q=>∃i,xs=[.int i]∧Q (.int (if i < 0 then -i else i)) H):=by
  intro pins s σ H xs us Q I r h
  obtain⟨i,rfl,q⟩:=h
  obtain⟨u,rfl,t,rfl⟩:=o8 r
  exact call_abs_int fun u tk=>⟨.int (if i < 0 then -i else i),H,I.tok _,⟨_,rfl⟩,q⟩
theorem uE(hc:X.calm=true):ed X (.builtin "max") (fun xs H Q=>∃i j,xs=[.int i,.int j]∧Q (.int (if j > i then j else i)) H):=by
  intro pins s σ H xs us Q I r h
  obtain⟨i,j,rfl,q⟩:=h
  obtain⟨u,w',rfl,⟨t,rfl⟩,⟨t',rfl⟩⟩:=AM r
  refine max_two_ints (I.ok.hd hc) fun h' tk k=>⟨_,H,I.kept k,?_,q⟩
  by_cases hj:j > i
  · rw [if_pos hj,if_pos hj];exact⟨_,rfl⟩
  · rw [if_neg hj,if_neg hj];exact⟨_,rfl⟩
theorem uF(hc:X.calm=true):ed X (.builtin "min") (fun xs H Q=>∃i j,xs=[.int i,.int j]∧Q (.int (if j < i then j else i)) H):=by
  intro pins s σ H xs us Q I r h
  obtain⟨i,j,rfl,q⟩:=h
  obtain⟨u,w',rfl,⟨t,rfl⟩,⟨t',rfl⟩⟩:=AM r
  refine min_two_ints (I.ok.hd hc) fun h' tk k=>⟨_,H,I.kept k,?_,q⟩
  by_cases hj:j < i
  · rw [if_pos hj,if_pos hj];exact⟨_,rfl⟩
  · rw [if_neg hj,if_neg hj];exact⟨_,rfl⟩
theorem uD:ed X (.type "int") (fun xs H Q=>(∃i,xs=[.int i]∧Q (.int i) H)∨∃k,xs=[.bl k]∧Q (.int (if k then 1 else 0)) H):=by
  intro pins s σ H xs us Q I r h
  rcases h with ⟨i,rfl,q⟩ | ⟨k,rfl,q⟩
  · obtain⟨u,rfl,t,rfl⟩:=o8 r
    exact call_int_int ⟨.int i,H,I,⟨_,rfl⟩,q⟩
  · obtain⟨u,rfl,r1⟩:=o8 r
    cases r1
    exact call_int_bool ⟨.int (if k then 1 else 0),H,I.tok _,⟨_,rfl⟩,q⟩
end
end L2
namespace L2
open PySem PySem.Spec PyProof.Rows
structure Gk (h:Heap) (x dx C:Addr) (mA:Str→Option Value):Prop where
  obj:h.get? x=some (PySem.W.instObj C dx)
  ns:h.Ns1 dx mA
  ne:dx≠x
section
variable{prog:Program}{w:World}{A:Around}{E:Value→Shared→Prop}{s:Shared}{K:PySem.W.Frag}{x dx C f:Addr}{mA:Str→Option Value}{name:Str}{v:Value}
end
section
variable{P:Program}{w:World}{H H':Hp}{h h':Heap}{a C dx:Addr}{fs fs':List (Str × V)}
end
structure Gg (K:PySem.W.Frag) (C:Addr):Prop where
  pg:PySem.W.plainGet K C Str.empty=true
  hd:PySem.W.hasDictIn K C=true
  po:PySem.W.plainOver K C=true
  sa:PySem.W.findIn K (.ref C) "__setattr__"=some (some (.builtin "object.__setattr__"))
structure GB (K:PySem.W.Frag) (C:Addr) (f:Str) (v:V) (u:Value):Prop where
  at_:PySem.W.findIn K (.ref C) f=some (some u)
  rel:bu v u
  get:PySem.W.specialIn K u "__get__"=some none
  cp:PySem.W.copiedNames.contains f=false
structure Gj (K:PySem.W.Frag) (C:Addr) (m:Str) (f:Addr):Prop where
  at_:PySem.W.findIn K (.ref C) m=some (some (.ref f))
  fn:PySem.W.isFn K (.ref f)=true
  kp:PySem.W.keepIn K (.ref f)=true
section
variable{X:Cx}{pins:List (Addr × Obj)}{σ:St}{H:Hp}{s:Shared}{a C dx:Addr}{fs:List (Str × V)}{f:Str}{v:V}{A:Around}{E:Value→Shared→Prop}
end
section
variable{X:Cx}{o e value:Expr}{f:Str}{pos pos' tpos:Pos}{ta tv:TE}
end
section
variable{X:Cx}{pins:List (Addr × Obj)}{σ:St}{H:Hp}{s:Shared}{A:Around}{E:Value→Shared→Prop}{Q:Value→Shared→Prop}{c:Value}{b:Bool}
inductive mn (K:PySem.W.Frag) (H:Hp):V→Value→Prop where
  | non:mn K H .non (.type "NoneType")
  | bl (x:Bool):mn K H (.bl x) (.type "bool")
  | int (i:Int):mn K H (.int i) (.type "int")
  | str (x:Str):mn K H (.str x) (.type "str")
  | flt (x:UInt64):mn K H (.flt x) (.type "float")
  | lst {a:Addr} {xs:List V} (e:H a=some (.lst xs)):mn K H (.ref a) (.type "list")
  | frz {a:Addr} {o:Obj} {xs:List V} (e:H a=some (.frz o (.lst xs))):mn K H (.ref a) (.type "list")
  | tup {a:Addr} {xs:List V} (e:H a=some (.tup xs)):mn K H (.ref a) (.type "tuple")
  | dK {a:Addr} {kvs:List (gv × V)} (e:H a=some (.dK kvs)):mn K H (.ref a) (.type "dict")
  | dT {a:Addr} {kvs:List (List gv × V)} (e:H a=some (.dT kvs)):mn K H (.ref a) (.type "dict")
  | ins {a C dx:Addr} {fs:List (Str × V)} (e:H a=some (.ins C dx fs)) (cl:Gg K C) (ha:PySem.W.findIn K (.ref C) "__class__"=some (some (.builtin "object.__class__")))
      (hn:PySem.W.specialIn K (.builtin "object.__class__") "__get__"=some (some (.builtin "getset_descriptor.__get__"))) (htk:PySem.W.takesIn K (.builtin "object.__class__")=some true)
      (hm:PySem.W.mroIn K C (.type "object")=some true):mn K H (.ref a) (.ref C)
end
end L2
namespace L2
open PySem PySem.Spec PyProof.Rows
structure cQ (k:Nat) (A:Around):Prop where
  hd:A.handled=none
  dp:A.depth+3*k+5 < recursionLimit
  un:A.units+16*k+200 < cLine
  gd:A.guards=some []
theorem cQ.mono{j k:Nat}{A:Around}(r:cQ k A)(h:j≤k):cQ j A:=⟨r.hd,by have:=r.dp;lia,by have:=r.un;lia,r.gd⟩
theorem cQ.deeper{k:Nat}{A:Around}(r:cQ (k+1) A)(env:Env):cQ k (A.deeper env):=
  ⟨r.hd,by have:=r.dp;show A.depth+1+3*k+5 < _;lia,by have:=r.un;show A.units+3+16*k+200 < _;lia,r.gd⟩
theorem cQ.depth{k:Nat}{A:Around}(r:cQ k A):A.depth < recursionLimit:=by have:=r.dp;lia
theorem cQ.units{k:Nat}{A:Around}(r:cQ k A):A.units+64 < cLine:=by have:=r.un;lia
theorem cQ.units0{k:Nat}{A:Around}(r:cQ k A):A.units < cLine:=by have:=r.un;lia
def Cs:TA:=fun _ H Q=>Q [] H
def nS(ta:TE)(tr:TA):TA:=fun σ H Q=>ta σ H fun x H1=>tr σ H1 fun xs H2=>Q (x::xs) H2
section
variable{X:Cx}{e:Expr}{es:List Expr}{te:TE}{t:TA}{pos:Pos}
theorem xn:PA X [] Cs:=fun _ _ _ _ H Q I h=>Calls.spliced_nil ⟨[],H,I,.nil,h⟩
theorem pX(ha:PE X e te)(hr:PA X es t)(hs:starEach (e::es) X.env=(false,eval e X.env)::starEach es X.env:=by rfl):PA X (e::es) (nS te t):=by
  intro pos pins s σ H Q I h
  rw [hs]
  show wpAny _ _ (spliced ((false,eval e X.env)::backTo pos (starEach es X.env))) _ _ s
  refine Calls.spliced_cons (cP (ha pins s σ H _ I h) fun u s1 ⟨x,H1,I1,r1,q1⟩=>?_)
  exact cP (hr pos pins s1 σ H1 _ I1 q1) fun us s2 ⟨xs,H2,I2,r2,q2⟩=>⟨x::xs,H2,I2,.cons r1 r2,q2⟩
def Ct(t:TA):TE:=fun σ H Q=>t σ H fun xs H1=>xs.length≤sizeLine∧∀p,H1 p=none→Q (.ref p) (bi H1 p (.tup xs))
def FD(t:TA):TE:=fun σ H Q=>t σ H fun xs H1=>xs.length≤sizeLine∧∀p,H1 p=none→Q (.ref p) (bi H1 p (.lst xs))
theorem xw{x1}(h:PA X es t):PE X (.Tuple es x1 pos) (Ct t):=by
  intro pins s σ H Q I hq
  refine wpAny_Tuple_spliced (cP (h pos pins s σ H _ I hq) fun us s1 ⟨xs,H1,I1,r,z,q⟩=>⟨by rw [←r.length];exact z,?_⟩)
  have hf:H1 s1.heap.objs.size=none:=I1.hok.fresh (Nat.le_refl _)
  refine⟨.ref s1.heap.objs.size,bi H1 s1.heap.objs.size (.tup xs),I1.laid (t':=s1.toks) (fun b u e=>Heap.get?_push_of_some _ e) (Nat.le_refl _) ?_,rfl,q _ hf⟩
  exact⟨z,us,r,⟨_,Heap.get?_push_size _ rfl,rfl,_,rfl,rfl⟩⟩
theorem BP(h:PA X es t):PE X (.List es pos) (FD t):=by
  intro pins s σ H Q I hq
  refine wpAny_List_spliced (cP (h pos pins s σ H _ I hq) fun us s1 ⟨xs,H1,I1,r,z,q⟩=>⟨by rw [←r.length];exact z,?_⟩)
  have hf:H1 s1.heap.objs.size=none:=I1.hok.fresh (Nat.le_refl _)
  refine⟨.ref s1.heap.objs.size,bi H1 s1.heap.objs.size (.lst xs),I1.laid (t':=s1.toks) (fun b u e=>Heap.get?_push_of_some _ e) (Nat.le_refl _) ?_,rfl,q _ hf⟩
  exact⟨z,us,0,r,Heap.get?_push_size _ rfl⟩
end
abbrev Sp:=List V→Hp→VK→XK→Prop
abbrev uy:=List Env→Hp→Shared→XK→Value→Shared→Prop
structure yF (P:Program) (w:World) (K:PySem.W.Frag) (mg:Str→Option Value) (base:Heap) (A:Around) (outer:List Env) (s:Shared) (H:Hp):Prop where
  frames:A.frames=some outer
  mod:Mod K mg base
  bs:∀b o,base.get? b=some o→s.heap.get? b=some o∧H b=none
  bsz:base.objs.size≤s.heap.objs.size
  funs:s.heap.FunFrames base outer
  frf:∀b∈wn outer,H b=none
  hok:lz P w H s.heap
  bare:AllBare s.gens
def CE(outer:List Env)(P:Program)(w:World)(H:Hp)(s:Shared)(Q:VK)(u:Value)(s':Shared):Prop:=
  ∃v H',s'.os=s.os∧AllBare s'.gens∧Un (wn outer) [] H H' s.heap s'.heap∧lz P w H' s'.heap∧bu v u∧Q v H'
def CR(CX:uy)(outer:List Env)(P:Program)(w:World)(H:Hp)(s:Shared)(Q:VK)(E:XK)(r:Result)(s':Shared):Prop:=
  match r with
  | .ok (.ret u)=>CE outer P w H s Q u s'
  | .ok _=>False
  | .error e=>CX outer H s E e s'
structure aC (P:Program) (w:World) (K:PySem.W.Frag) (mg:Str→Option Value) (base:Heap) (CX:uy) (k:Nat) (f:Addr) (fd:FuncData) (ps:List Str) (sp:Sp):Prop where
  len:∀vs H Q E,sp vs H Q E→vs.length=ps.length
  run:∀(A:Around) (outer:List Env) (s:Shared) (H:Hp) (args:Args) (us:List Value) (vs:List V) (Q:VK) (E:XK),cQ k A→yF P w K mg base A outer s H→BindsTo s fd args (ps.zip us)→aQ vs us→sp vs H Q E→
    codeAny (model P w) A (.call (.ref f) args) (CR CX outer P w H s Q E) s
section
variable{X:Cx}{pins:List (Addr × Obj)}{σ:St}{H:Hp}{s s':Shared}
theorem aF.env0(I:aF X pins σ H s):yF X.prog X.w X.K X.mg X.base X.A X.stack s H:=
  ⟨I.ok.frames,I.ok.mod,I.bs,Nat.le_trans I.ok.bsz I.sz,I.stack,I.stkFree,I.hok,I.bare⟩
theorem aF.after{Q:VK}{u:Value}(I:aF X pins σ H s)(h:CE X.stack X.prog X.w H s Q u s'):EP X pins σ Q u s':=by
  obtain⟨v,H',os,bare,un,hok,r,q⟩:=h
  obtain⟨hh,g,d,t,os'⟩:=s'
  obtain rfl:os'=s.os:=os
  exact⟨v,H',I.call (h':=hh) (g':=g) (d':=d) (t':=t) (ch:=[]) un hok bare (fun b z=>absurd z (by simp)),r,q⟩
end
def ul(sp:Sp)(dvs:List V)(E:XK)(t:TA):TE:=fun σ H Q=>t σ H fun vs H1=>sp (vs++dvs) H1 Q E
def oj(K:PySem.W.Frag)(fd:FuncData)(ps:List Str)(ds:List Value):Prop:=
  ∀(s:Shared) (us:List Value),K.In s.heap→(us++ds).length=ps.length→BindsTo s fd ⟨us,[]⟩ (ps.zip (us++ds))
theorem oj.all{K:PySem.W.Frag}{fd:FuncData}{ps:List Str}(h:∀us:List Value,us.length=ps.length→bindArgs fd ⟨us,[]⟩=pure (ps.zip us)):oj K fd ps []:=fun s us _ hl=>by
  rw [List.append_nil] at hl ⊢
  exact .of_eq (h us hl)
def rQ(CX:uy)(X:Cx)(E:XK):Prop:=∀(pins:List (Addr × Obj)) (σ:St) (H:Hp) (s:Shared) (e:Value) (s':Shared),aF X pins σ H s→CX X.stack H s E e s'→X.xe e s'
section
variable{X:Cx}{CX:uy}{k:Nat}{f C:Addr}{fd:FuncData}{ps:List Str}{sp:Sp}{dvs:List V}{ds:List Value}{E:XK}{x m:Str}{p pos apos:Pos}{e o:Expr}{es:List Expr}{ta:TE}{t:TA}
theorem Ck{pins:List (Addr × Obj)}{σ:St}{H:Hp}{s:Shared}{Q:VK}{us:List Value}{vs:List V}(F:aC X.prog X.w X.K X.mg X.base CX k f fd ps sp)(hr:cQ k X.A)(hb:oj X.K fd ps ds)(hd:aQ dvs ds)(hx:rQ CX X E)
    (I:aF X pins σ H s)(r:aQ vs us)(h:sp (vs++dvs) H Q E):wpAny (model X.prog X.w) X.A (call (.ref f) us) (EP X pins σ Q) X.xe s:=by
  have r2:aQ (vs++dvs) (us++ds):=r.append hd
  have hl:(us++ds).length=ps.length:=by rw [←r2.length];exact F.len _ _ _ _ h
  refine wpAny_call (codeAny_mono (F.run X.A X.stack s H ⟨us,[]⟩ (us++ds) (vs++dvs) Q E hr I.env0 (hb s us I.kIn hl) r2 h) fun r s' hq=>?_)
  cases r with
  | error e=>exact hx pins σ H s e s' I hq
  | ok fl=>
    cases fl with
    | ret u=>exact I.after hq
    | next=>exact False.elim hq
    | brk=>exact False.elim hq
    | cont=>exact False.elim hq
theorem zy(F:aC X.prog X.w X.K X.mg X.base CX k f fd ps sp)(hr:cQ k X.A)(hg:Gl X x)(hm:X.mg x=some (.ref f))(hk:PySem.W.keepIn X.K (.ref f)=true)(hb:oj X.K fd ps ds)(hd:aQ dvs ds)(hx:rQ CX X E)
    (ha:PA X (e::es) t)(hdb:(x==("__debug__":Str))=false:=by decide)(he:starEach (e::es) X.env=(false,eval e X.env)::starEach es X.env:=by rfl)(hpl:(backTo pos (starEach es X.env)).any (·.1)=false:=by rfl):
    PE X (.Call (.Name x p) (e::es) [] pos) (ul sp dvs E t):=by
  intro pins s σ H Q I h
  refine wpAny_Call_Name_kw (tU I hg hm ?_ hdb)
  refine PySem.W.callWith_K (h₀:=X.base) I.ok.mod.kin hk (cP (ha pos pins s σ H _ I h) fun us s1 ⟨vs,H1,I1,r,q⟩=>⟨I1.kIn,?_⟩) he hpl
  exact Ck F hr hb hd hx I1 r q
structure Mk (K:PySem.W.Frag) (C f:Addr):Prop where
  makes:PySem.W.makesIn K C=true
  init:PySem.W.findIn K (.ref C) "__init__"=some (some (.ref f))
  fn:PySem.W.isFn K (.ref f)=true
  kp:PySem.W.keepIn K (.ref C)=true
end
def PK(X:Cx)(kws:List Keyword)(t:TA):Prop:=
  ∀(pos:Pos) (pins:List (Addr × Obj)) (s:Shared) (σ:St) (H:Hp) (Q:List V→Hp→Prop),aF X pins σ H s→t σ H Q→wpAny (model X.prog X.w) X.A (evalAll ((backToKw pos (keywordEach kws X.env)).map (·.2))) (AP X pins σ Q) X.xe s
section
variable{X:Cx}{CX:uy}{k:Nat}{f C:Addr}{fd:FuncData}{ps ks:List Str}{sp:Sp}{E:XK}{x m:Str}{p pos apos kpos:Pos}{e o:Expr}{es:List Expr}{kws:List Keyword}{te ta:TE}{t tk:TA}{nm:Option Str}
structure E1 (K:PySem.W.Frag) (fd:FuncData) (ps ks:List Str) (g:List Value→List Value→List Value) (gV:List V→List V→List V):Prop where
  to:∀(s:Shared) (us ws:List Value),K.In s.heap→(g us ws).length=ps.length→BindsTo s fd ⟨us,ks.zip ws⟩ (ps.zip (g us ws))
  rel:∀{vs:List V} {us:List Value} {zs:List V} {ws:List Value},aQ vs us→aQ zs ws→aQ (gV vs zs) (g us ws)
variable{g:List Value→List Value→List Value}{gV:List V→List V→List V}
end
structure aB (N P:List Str) (sc:Scope):Prop where
  kind:sc.kind=.function
  co:sc.isCoroutine=false
  gen:sc.isGenerator=false
  nd:N.Nodup
  pre:N.take P.length=P
  par:∀x∈P,sc.names.lookup x=some .local∨sc.names.lookup x=some .cell
  nofree:∀y∈sc.names,y.2≠.free
theorem ox{kindOf:Str→Option NameKind}{x:Str}:∀{binds:List (Str × Value)} {m:Str→Option Value},(∀v,(x,v)∉binds)→bindL kindOf binds m x=m x
  | [],_,_=>rfl
  | (n,v)::r,m,h=>by
    unfold bindL
    rw [ox fun w hw=>h w (List.mem_cons_of_mem _ hw)]
    split
    · have:x≠n:=by rintro rfl;exact h v List.mem_cons_self
      simp [this]
    · rfl
theorem ot{kindOf:Str→Option NameKind}{x:Str}:∀{binds:List (Str × Value)} {m:Str→Option Value},(∀v,(x,v)∉binds)→bindC kindOf binds m x=m x
  | [],_,_=>rfl
  | (n,v)::r,m,h=>by
    unfold bindC
    rw [ot fun w hw=>h w (List.mem_cons_of_mem _ hw)]
    split
    · rfl
    · have:x≠n:=by rintro rfl;exact h v List.mem_cons_self
      simp [this]
theorem ou{kindOf:Str→Option NameKind}{x:Str}{v:Value}:∀{P:List Str} {vs:List Value} {i:Nat} {m:Str→Option Value},P.Nodup→P[i]?=some x→vs[i]?=some v→kindOf x=some .local→
    bindL kindOf (P.zip vs) m x=some v
  | [],_,_,_,_,h,_,_=>by simp at h
  | _::_,[],_,_,_,_,h,_=>by simp at h
  | p::P,w::vs,0,m,nd,h1,h2,hk=>by
    simp at h1 h2;subst h1;subst h2
    show bindL kindOf ((p,w)::P.zip vs) m p=_
    unfold bindL
    rw [ox fun v hv=>(List.nodup_cons.mp nd).1 (List.of_mem_zip hv).1,if_pos hk]
    simp
  | p::P,w::vs,i+1,m,nd,h1,h2,hk=>by
    show bindL kindOf ((p,w)::P.zip vs) m x=_
    unfold bindL
    exact ou (i:=i) (List.nodup_cons.mp nd).2 (by simpa using h1) (by simpa using h2) hk
theorem oq{kindOf:Str→Option NameKind}{x:Str}{v:Value}:∀{P:List Str} {vs:List Value} {i:Nat} {m:Str→Option Value},P.Nodup→P[i]?=some x→vs[i]?=some v→kindOf x≠some .local→
    bindC kindOf (P.zip vs) m x=some v
  | [],_,_,_,_,h,_,_=>by simp at h
  | _::_,[],_,_,_,_,h,_=>by simp at h
  | p::P,w::vs,0,m,nd,h1,h2,hk=>by
    simp at h1 h2;subst h1;subst h2
    show bindC kindOf ((p,w)::P.zip vs) m p=_
    unfold bindC
    rw [ot fun v hv=>(List.nodup_cons.mp nd).1 (List.of_mem_zip hv).1,if_neg hk]
    simp
  | p::P,w::vs,i+1,m,nd,h1,h2,hk=>by
    show bindC kindOf ((p,w)::P.zip vs) m x=_
    unfold bindC
    exact oq (i:=i) (List.nodup_cons.mp nd).2 (by simpa using h1) (by simpa using h2) hk
def iq(N:List Str)(vs:List V):St:=vs.map some++List.replicate (N.length - vs.length) none
def r6(CX:uy)(P:Program)(w:World)(K:PySem.W.Frag)(mg:Str→Option Value)(base:Heap)(N:List Str)(qual:Str)(scope:Scope)(f:Addr)(cd:Value)(A:Around)(outer:List Env)(s:Shared)(H:Hp)(E:XK):Cx where
  prog:=P
  w:=w
  K:=K
  mg:=mg
  base:=base
  A:=A.deeper (envOfC qual scope s.heap.objs.size f cd)
  N:=N
  s₀:=s
  H₀:=H
  env:=envOfC qual scope s.heap.objs.size f cd
  outer:=outer
  stack:=envOfC qual scope s.heap.objs.size f cd::outer
  ex:=[]
  calm:=true
  fn:=fun _=>true
  pn:=[]
  xe:=fun e s'=>wpAny (model P w) (A.deeper (envOfC qual scope s.heap.objs.size f cd)) (leaving (envOfC qual scope s.heap.objs.size f cd) e) (fun _ s''=>CX outer H s E e s'') (fun e' s''=>CX outer H s E e' s'') s'
theorem qo{sc:Scope}{n:Nat}{x:Str}(h:sc.names.lookup x=some .cell):∃c,(cellsFrom n sc.names []).lookup x=some c:=by
  have q:=PySem.W.cellsFrom_some sc.names n [] (.inl h)
  exact Option.isSome_iff_exists.mp q
theorem uR{CX:uy}{P:Program}{w:World}{K:PySem.W.Frag}{mg:Str→Option Value}{base:Heap}{N ps:List Str}{qual:Str}{scope:Scope}{f:Addr}{cd:Value}{A:Around}{outer:List Env}{s s1:Shared}{H:Hp}{E:XK}{us:List Value}{vs:List V}
    (S:aB N ps scope)(hd:A.handled=none)(e0:yF P w K mg base A outer s H)(hl:vs.length=ps.length)(r:aQ vs us)
    (x:InCallC s s.heap.objs.size (bindL (envOfC qual scope s.heap.objs.size f cd).kindOf (ps.zip us) fun _=>none) (cellsFrom (s.heap.objs.size+1) scope.names []) (bindC (envOfC qual scope s.heap.objs.size f cd).kindOf (ps.zip us) fun _=>none) s1):
    aF (r6 CX P w K mg base N qual scope f cd A outer s H E) [] (iq N vs) H s1:=by
  have hpl:ps.length≤N.length:=by have:=congrArg List.length S.pre;rw [List.length_take] at this;lia
  obtain⟨h1,tk,rfl,hk⟩:=x.done
  have noA:∀b:Addr,b∉(r6 CX P w K mg base N qual scope f cd A outer s H E).ex:=fun b z=>absurd (show b∈([]:List Addr) from z) (by simp)
  refine⟨⟨e0.mod,S.kind,rfl,rfl,Nat.le_refl _,fun y z c h1 h2=>?_,fun y hy=>?_,fun y c _ h=>?_,fun _=>hd,Around.frames_deeper e0.frames,.inr ⟨rfl,rfl⟩,fun b z=>absurd z (noA b),e0.bs,e0.bsz,fun b _ _=>noA b,fun b z=>absurd z (noA b),e0.funs,e0.frf⟩,
    rfl,e0.bare,Un.kept hk,⟨_,x.toInCall.ns,fun i y v h1 h2 h3=>?_⟩,fun y c h=>⟨_,x.cell y c h⟩,e0.hok.fresh (Nat.le_refl _),fun y c h=>?_,fun p hp=>absurd (show p∈([]:List (Addr × Obj)) from hp) (by simp),e0.hok.kept hk,?_⟩
  · exact name_of_addr x.apart (PySem.mem_of_lookup h1) (PySem.mem_of_lookup h2)
  · have hy:scope.names.lookup y=some .cell∨scope.names.lookup y=some .free:=hy
    rcases hy with hy | hy
    · exact qo hy
    · exact absurd rfl (S.nofree _ (PySem.mem_of_lookup hy))
  · exact Nat.le_of_lt (x.above y c (PySem.mem_of_lookup h))
  · have hi:i < vs.length:=by
      unfold iq at h2
      by_cases hi:i < vs.length
      · exact hi
      · rw [List.getElem?_append_right (by simpa using hi)] at h2
        rw [List.getElem?_replicate] at h2
        split at h2<;>cases h2
    have ha:vs[i]?=some v:=by
      unfold iq at h2
      rw [List.getElem?_append_left (by simpa using hi),List.getElem?_map] at h2
      cases e:vs[i]? with
      | none=>rw [e] at h2;cases h2
      | some a=>rw [e] at h2;cases h2;rfl
    obtain⟨u,hu,rv⟩:=r.get ha
    have hp:ps[i]?=some y:=by
      rw [←S.pre,List.getElem?_take_of_lt (by lia)];exact h1
    have ndP:ps.Nodup:=by rw [←S.pre];exact S.nd.sublist (List.take_sublist _ _)
    refine⟨u,rv,?_⟩
    rcases S.par y (List.mem_of_getElem? hp) with k | k
    · exact .inl ⟨k,ou ndP hp hu k⟩
    · obtain⟨c,e⟩:=qo (n:=s.heap.objs.size+1) k
      refine .inr ⟨.inl k,c,e,?_⟩
      have q:=x.cell y c e
      rw [oq ndP hp hu (by show scope.names.lookup y≠_;rw [k];decide)] at q
      exact q
  · exact e0.hok.fresh (Nat.le_of_lt (x.above y c (PySem.mem_of_lookup h)))
  · unfold iq
    show _=N.length
    rw [List.length_append,List.length_map,List.length_replicate]
    lia
theorem Di{CX:uy}{P:Program}{w:World}{K:PySem.W.Frag}{mg:Str→Option Value}{base:Heap}{k:Nat}{f:Addr}{name qual:Str}{params:Arguments}{body:List Stmt}{scope:Scope}{dV kV doc pm cdv ct oc:Value}{an od:Option Addr}
    {osl:Array (Option Value)}{N ps:List Str}{sp:Sp}(lk:K.lookup f=some ⟨oc,od,.func (PySem.W.fnOf name qual params body scope dV kV doc pm an cdv ct),osl⟩)(hcd:PySem.W.codeIn K cdv qual=true)(S:aB N ps scope)
    (len:∀vs H Q E,sp vs H Q E→vs.length=ps.length)
    (hbody:∀(A:Around) (outer:List Env) (s:Shared) (H:Hp) (vs:List V) (Q:VK) (E:XK),cQ k (A.deeper (envOfC qual scope s.heap.objs.size f cdv))→sp vs H Q E→
      ∃t,lQ (r6 CX P w K mg base N qual scope f cdv A outer s H E) body t∧t {nx:=fun _ H'=>Q .non H',rt:=Q} (iq N vs) H):
    aC P w K mg base CX (k+1) f (PySem.W.fnOf name qual params body scope dV kV doc pm an cdv ct) ps sp:=by
  refine⟨len,fun A outer s H args us vs Q E hr e0 hb r hsp=>?_⟩
  have hl:=len _ _ _ _ hsp
  have KX:K.In s.heap:=e0.mod.kin.keeps fun b o e=>(e0.bs b o e).1
  have lim:s.heap.NoLimit:=e0.mod.nolimit.keeps fun b o e=>(e0.bs b o e).1
  have hkind:∀y∈ps.zip us,scope.names.lookup y.1=some .local∨(scope.names.lookup y.1=some .cell∧((cellsFrom (s.heap.objs.size+1) scope.names []).lookup y.1).isSome=true):=fun⟨n,v⟩ hy=>by
    rcases S.par n (List.of_mem_zip hy).1 with q | q
    · exact .inl q
    · exact .inr ⟨q,PySem.W.cellsFrom_some _ _ _ (.inl q)⟩
  refine codeAny_call_function hr.depth (KX _ _ lk) rfl S.co S.gen rfl (PySem.W.codeRec_of KX hcd) (hb _ _ _ _ ?_)
  refine wpAny_newFunctionEnv_cells S.kind hkind fun env he s1 x=>?_
  subst he
  refine⟨lim.keeps x.toInCall.keep,codeAny_func ?_⟩
  obtain⟨t,ht,hq⟩:=hbody A outer s H vs Q E (hr.deeper _) hsp
  have I:aF (r6 CX P w K mg base N qual scope f cdv A outer s H E) [] (iq N vs) H s1:=uR S hr.hd e0 hl r x
  refine wpAny_mono (ht [] s1 (iq N vs) H _ I hq) (fun fl s' hs=>?_) fun e s' hs=>hs
  have fin:∀{σ':St} {H':Hp} {v:V} {u:Value},aF (r6 CX P w K mg base N qual scope f cdv A outer s H E) [] σ' H' s'→bu v u→Q v H'→CE outer P w H s Q u s':=
    fun{σ' H' v u} J rv q=>⟨v,H',J.os,J.bare,J.base,J.hok,rv,q⟩
  cases fl with
  | ret u=>
    obtain⟨v,σ',H',J,rv,q⟩:=hs
    exact fin J rv q
  | next=>
    obtain⟨σ',H',J,q⟩:=hs
    exact fin (v:=V.non) (u:=Value.none) J rfl q
  | brk=>
    obtain⟨_,_,_,q⟩:=hs
    exact False.elim q
  | cont=>
    obtain⟨_,_,_,q⟩:=hs
    exact False.elim q
end L2
namespace L2
open PySem PySem.Spec PyProof.Rows
section
variable{X:Cx}{x:Str}{p pos:Pos}{e:Expr}{es:List Expr}{t:TA}{id T:String}{r:List V→Hp→VK→Prop}
def Fy(r:List V→Hp→VK→Prop)(t:TA):TE:=fun σ H Q=>t σ H fun vs H1=>r vs H1 Q
theorem qR(hc:ed X (.builtin id) r)(hg:Gl X x)(hm:X.mg x=none)(hv:bootBuiltins x=some (.builtin id))(ha:PA X (e::es) t)(hn:x≠"__name__":=by decide)(hdb:(x==("__debug__":Str))=false:=by decide)
    (he:starEach (e::es) X.env=(false,eval e X.env)::starEach es X.env:=by rfl)(hpl:(backTo pos (starEach es X.env)).any (·.1)=false:=by rfl):PE X (.Call (.Name x p) (e::es) [] pos) (Fy r t):=by
  intro pins s σ H Q I h
  refine wpAny_Call_Name_kw (k7 I hg hm hv ?_ hn hdb)
  exact PyProof.Rows.callWith_builtin1 (cP (ha pos pins s σ H _ I h) fun us s1 ⟨vs,H1,I1,r1,q1⟩=>hc pins s1 σ H1 vs us Q I1 r1 q1) he hpl
theorem vf(hc:ed X (.type T) r)(hg:Gl X x)(hm:X.mg x=none)(hv:bootBuiltins x=some (.type T))(ha:PA X (e::es) t)(hn:x≠"__name__":=by decide)(hdb:(x==("__debug__":Str))=false:=by decide)
    (he:starEach (e::es) X.env=(false,eval e X.env)::starEach es X.env:=by rfl)(hpl:(backTo pos (starEach es X.env)).any (·.1)=false:=by rfl):PE X (.Call (.Name x p) (e::es) [] pos) (Fy r t):=by
  intro pins s σ H Q I h
  refine wpAny_Call_Name_kw (k7 I hg hm hv ?_ hn hdb)
  exact PyProof.Rows.callWith_type1 (cP (ha pos pins s σ H _ I h) fun us s1 ⟨vs,H1,I1,r1,q1⟩=>hc pins s1 σ H1 vs us Q I1 r1 q1) he hpl
end
end L2
namespace HT
open PySem PyProof.Rows
section
open PySem.SeqAt
open PySem.AutoSeq1 (wpAny_loadPart')
open PySem.MeetsSeq PySem.MeetsSeq2 PySem.MeetsSeq3
end
section
variable{prog:Program}{w:World}{A:Around}{E:Value→Shared→Prop}{s:Shared}
theorem cat_tup{t b:Addr}{vs ws:List Value}{Q:Value→Shared→Prop}(ht:IsTup s.heap t vs.toArray)(hb:IsTup s.heap b ws.toArray)(hv:vs≠[])
    (h1:ws=[]→Q (.ref t) s)(h2:ws≠[]→Q (.ref s.heap.objs.size) {s with heap:=s.heap.push {cls:=.type "tuple",data:=.seq (vs++ws).toArray}})
    (hsz:vs.length+ws.length≤sizeLine):wpAny (model prog w) A (binaryOp .Add (.ref t) (.ref b)) Q E s:=by
  obtain⟨⟨cls,dd,data,sl⟩,ho,hc,n,hd⟩:=id ht
  obtain⟨⟨cls2,dd2,data2,sl2⟩,ho2,hc2,n2,hd2⟩:=id hb
  simp only at hc hd hc2 hd2
  subst hc hd hc2 hd2
  have e:vs.toArray++ws.toArray=(vs++ws).toArray:=by simp
  by_cases hw:ws=[]
  · exact concat_meets ⟨_,ho,rfl⟩ ⟨_,ho2,rfl⟩ noFill_tuple_add seq_tuple_add PySem.F.slot_tuple_add PySem.F.entry_tuple_add (PySem.F.args_tuple_add_2 _ _)
      (tuple_addW1 t b vs.toArray ws.toArray n n2 dd dd2 sl sl2 (by simpa using hv) (by simp [hw])) ⟨ho,ho2,h1 hw⟩
  · refine concat_meets ⟨_,ho,rfl⟩ ⟨_,ho2,rfl⟩ noFill_tuple_add seq_tuple_add PySem.F.slot_tuple_add PySem.F.entry_tuple_add (PySem.F.args_tuple_add_2 _ _)
      (tuple_addW2 t b vs.toArray ws.toArray n n2 dd dd2 sl sl2 (by simpa using hv) (by simpa using hw) (by rw [List.size_toArray,List.size_toArray];exact hsz)) ⟨ho,ho2,?_⟩
    rw [e]
    exact h2 hw
def sIx(n d:Nat):Option Int→Nat
  | none=>d
  | some v=>if v < 0 then(v+(n:Int)).toNat else min v.toNat n
theorem Cm(n d:Nat)(hd:d≤n)(o:Option Int):sIx n d o≤n:=by
  cases o with
  | none=>exact hd
  | some v=>
    show(if v < 0 then(v+(n:Int)).toNat else min v.toNat n)≤n
    by_cases hv:v < 0
    · rw [if_pos hv];lia
    · rw [if_neg hv];exact Nat.min_le_right _ _
theorem tK(v:Int)(n d:Nat):(if v < 0 then max (v+(n:Int)) 0 else min v (n:Int))=((sIx n d (some v):Nat):Int):=by
  show(if v < 0 then max (v+(n:Int)) 0 else min v (n:Int))=(((if v < 0 then(v+(n:Int)).toNat else min v.toNat n):Nat):Int)
  by_cases hv:v < 0
  · simp only [if_pos hv];lia
  · simp only [if_neg hv];lia
theorem rR(lo hi:Option Int)(n:Nat):Builtin.Slice.sliceAdjust lo hi 1 (n:Int)=(((sIx n 0 lo:Nat):Int),((sIx n n hi:Nat):Int)):=by
  have h1:¬((1:Int) < 0):=by lia
  unfold Builtin.Slice.sliceAdjust
  simp only [h1,if_false]
  refine Prod.ext ?_ ?_
  · cases lo with
    | none=>rfl
    | some v=>exact tK v n 0
  · cases hi with
    | none=>rfl
    | some v=>exact tK v n n
theorem sL(i j:Nat):Builtin.Slice.slicePlaces (i:Int) (j:Int) 1=j - i:=by
  unfold Builtin.Slice.slicePlaces
  have h1:(1:Int) > 0:=by lia
  simp only [h1,if_true,Int.ediv_one]
  split<;>lia
theorem nM{v:Value}{o:Option Int}{Q:Option Int→Shared→Prop}(p:IsPart v o)(h:Q o s):wpAny (model prog w) A (Builtin.Slice.slicePartIndex v) Q E s:=by
  cases p with
  | none=>exact slicePart_none h
  | int i t=>exact slicePart_int h
theorem gP{sl:Addr}{vl vu:Value}{lo hi:Option Int}{n:Nat}{Q:Int × Int × Nat→Shared→Prop}(hs:s.heap.IsSliceOf sl vl vu .none)(pl:IsPart vl lo)(pu:IsPart vu hi)
    (h:Q (((sIx n 0 lo:Nat):Int),1,sIx n n hi - sIx n 0 lo) s):wpAny (model prog w) A (Builtin.Slice.sliceApplied (.ref sl) (pure (n:Int))) Q E s:=by
  obtain⟨os,hos,hcs,hds⟩:=id hs
  unfold Builtin.Slice.sliceApplied Builtin.Slice.sliceFields
  refine wpAny_bind (wpAny_bind (wpAny_field hos hds (x:=vl) rfl (wpAny_bind (wpAny_field hos hds (x:=vu) rfl (wpAny_bind (wpAny_field hos hds (x:=.none) rfl (wpAny_pure ?_)))))))
  refine wpAny_bind (slicePart_none ?_)
  show wpAny _ _ (if ((1:Int)==0)=true then _ else _) _ _ s
  rw [if_neg (by decide)]
  refine wpAny_bind (nM pl (wpAny_bind (nM pu (wpAny_bind (wpAny_pure ?_)))))
  show wpAny _ _ (match Builtin.Slice.sliceAdjust lo hi 1 (n:Int) with | (lo,hi)=>pure (lo,(1:Int),Builtin.Slice.slicePlaces lo hi 1)) _ _ s
  rw [rR lo hi n]
  show wpAny _ _ (pure (((sIx n 0 lo:Nat):Int),(1:Int),Builtin.Slice.slicePlaces ((sIx n 0 lo:Nat):Int) ((sIx n n hi:Nat):Int) 1)) _ _ s
  rw [sL]
  exact wpAny_pure h
theorem xE(xs:Array Value)(i k:Nat):((List.range k).filterMap fun(m:Nat)=>xs[((i:Int)+(m:Int)*1).toNat]?).toArray=((xs.toList.drop i).take k).toArray:=by
  have e:(fun(m:Nat)=>xs[((i:Int)+(m:Int)*1).toNat]?)=fun m=>xs[i+m]?:=by
    funext m
    have:((i:Int)+(m:Int)*1).toNat=i+m:=by lia
    rw [this]
  rw [e]
  have:=pick_run xs i k
  rw [List.filterMap_map] at this
  have e2:((fun x=>xs[x]?) ∘ fun x=>i+x)=fun m=>xs[i+m]?:=rfl
  rw [e2] at this
  rw [this]
theorem getItem_tuple_cut{t sl:Addr}{items:Array Value}{vl vu:Value}{lo hi:Option Int}{Q:Value→Shared→Prop}(ht:IsTup s.heap t items)(hs:s.heap.IsSliceOf sl vl vu .none)(pl:IsPart vl lo)(pu:IsPart vu hi)
    (hw:¬(sIx items.size 0 lo=0∧sIx items.size items.size hi=items.size))
    (h:Q (.ref s.heap.objs.size) {s with heap:=s.heap.push {cls:=.type "tuple",data:=.seq ((items.toList.drop (sIx items.size 0 lo)).take (sIx items.size items.size hi - sIx items.size 0 lo)).toArray}})
    (hsz:items.size≤sizeLine):wpAny (model prog w) A (getItem (.ref t) (.ref sl)) Q E s:=by
  have htake:sizeOk (.seq ((items.toList.drop (sIx items.size 0 lo)).take (sIx items.size items.size hi - sIx items.size 0 lo)).toArray):=by
    show((items.toList.drop (sIx items.size 0 lo)).take (sIx items.size items.size hi - sIx items.size 0 lo)).toArray.size≤sizeLine
    rw [List.size_toArray,List.length_take,List.length_drop,Array.length_toList]
    lia
  have hj:sIx items.size items.size hi≤items.size:=Cm _ _ (Nat.le_refl _) hi
  obtain⟨os,hos,hcs,hds⟩:=id hs
  have hTs:s.TypeIs (.ref sl) "slice":=⟨os,hos,hcs⟩
  unfold getItem
  try with_reducible refine wpAny_holding ?_
  first | refine wpAny_bind (wpAny_pure ?_) | skip
  refine wpAny_bind (wpAny_sequenceKey ht.typeIs (by decide) ?_)
  refine wpAny_bind (wpAny_callSpecial?_slot (name:=Str.ofString "__getitem__") ht.typeIs PyProof.Rows.slot_tuple_getitem
    (wpAny_call_entry PyProof.Rows.slot_tuple_getitem ht.typeIs entry_tuple_getitem ?_ (args_tuple_getitem _ _)))
  show wpAny _ _ (Builtin.Tuple.tupleItemsOf (.ref t) >>= _) _ _ s
  refine wpAny_bind (tupleItemsOf_ ht ?_)
  refine wpAny_bind (wpAny_typeOf hTs ?_)
  rw [if_pos (by decide)]
  refine wpAny_bind (gP hs pl pu ?_)
  have hno:¬((((sIx items.size 0 lo:Nat):Int)==0&&(1:Int)==1&&(sIx items.size items.size hi - sIx items.size 0 lo)==items.size)=true):=by
    intro q
    rw [Bool.and_eq_true,Bool.and_eq_true] at q
    have q1:((sIx items.size 0 lo:Nat):Int)=0:=eq_of_beq q.1.1
    have q2:sIx items.size items.size hi - sIx items.size 0 lo=items.size:=eq_of_beq q.2
    exact hw ⟨by lia,by lia⟩
  show wpAny _ _ (if (((sIx items.size 0 lo:Nat):Int)==0&&(1:Int)==1&&(sIx items.size items.size hi - sIx items.size 0 lo)==items.size)=true then _ else _) _ _ s
  rw [if_neg hno,xE]
  first
    | exact wpAny_bind (m:=Builtin.Tuple.tupleExact _) (wpAny_newObj_type (wpAny_pure ⟨_,rfl,wpAny_pure h⟩) htake)
    | exact wpAny_bind (m:=Builtin.Tuple.tupleExact _) (wpAny_newObj_type (wpAny_bind (wpAny_pure (wpAny_pure ⟨_,rfl,wpAny_pure h⟩))) htake)
    | exact wpAny_bind (wpAny_bind (m:=Builtin.Tuple.tupleExact _) (wpAny_newObj_type (wpAny_pure (wpAny_pure ⟨_,rfl,wpAny_pure h⟩)) htake))
    | exact wpAny_bind (wpAny_bind (m:=Builtin.Tuple.tupleExact _) (wpAny_newObj_type (wpAny_pure ⟨_,rfl,wpAny_pure h⟩) htake))
end
end HT
namespace L2
open PySem PySem.Spec PyProof.Rows
abbrev TO:=St→Hp→(Option Int→Hp→Prop)→Prop
def PO(X:Cx)(e:Option Expr)(t:TO):Prop:=
  ∀(pins:List (Addr × Obj)) (s:Shared) (σ:St) (H:Hp) (Q:Option Int→Hp→Prop),aF X pins σ H s→t σ H Q→
    wpAny (model X.prog X.w) X.A (evalPart e X.env) (fun u s'=>∃o H',aF X pins σ H' s'∧IsPart u o∧Q o H') X.xe s
def Aa:TO:=fun _ H Q=>Q none H
def EA(t:TE):TO:=fun σ H Q=>t σ H fun x H1=>∃i,x=.int i∧Q (some i) H1
section
variable{X:Cx}{e:Expr}{te:TE}{lo hi:Option Expr}{tl th:TO}{pos p2:Pos}
theorem zJ:PO X none Aa:=by
  intro pins s σ H Q I h
  rw [evalPart_none]
  exact wpAny_pure ⟨none,H,I,.none,h⟩
theorem zK(h:PE X e te):PO X (some e) (EA te):=by
  intro pins s σ H Q I hw
  rw [evalPart_some]
  refine cP (h pins s σ H _ I hw) fun u s1 ⟨x,H1,I1,r1,q1⟩=>?_
  obtain⟨i,rfl,q⟩:=q1
  obtain⟨t,rfl⟩:=r1
  exact⟨some i,H1,I1,.int i t,q⟩
def yH(X:Cx)(r:V→Option Int→Option Int→Hp→VK→Prop):Prop:=
  ∀(pins:List (Addr × Obj)) (s:Shared) (σ:St) (H:Hp) (x:V) (v vl vu:Value) (lo hi:Option Int) (sl:Addr) (Q:VK),aF X pins σ H s→bu x v→s.heap.IsSliceOf sl vl vu .none→IsPart vl lo→IsPart vu hi→r x lo hi H Q→
    ∃T id,typeLookup (.type T) "__getitem__"=pure (some (.builtin id))∧s.TypeIs v T∧wpAny (model X.prog X.w) X.A (getItem v (.ref sl)) (EP X pins σ Q) X.xe s
theorem yH.or{r r':V→Option Int→Option Int→Hp→VK→Prop}(h:yH X r)(h':yH X r'):yH X (fun x lo hi H Q=>r x lo hi H Q∨r' x lo hi H Q):=by
  intro pins s σ H x v vl vu lo hi sl Q I rx hs pl pu q
  rcases q with q | q
  · exact h pins s σ H x v vl vu lo hi sl Q I rx hs pl pu q
  · exact h' pins s σ H x v vl vu lo hi sl Q I rx hs pl pu q
def Gz(r:V→Option Int→Option Int→Hp→VK→Prop)(te:TE)(tl th:TO):TE:=fun σ H Q=>te σ H fun x H1=>tl σ H1 fun l H2=>th σ H2 fun u H3=>r x l u H3 Q
theorem xt{r:V→Option Int→Option Int→Hp→VK→Prop}(hr:yH X r)(he:PE X e te)(hl:PO X lo tl)(hu:PO X hi th):PE X (.Subscript e (.Slice lo hi none p2) pos) (Gz r te tl th):=by
  intro pins s σ H Q I h
  refine Subscript_ (cP (he pins s σ H _ I h) fun v s1 ⟨x,H1,I1,r1,q1⟩=>?_)
  refine wpAny_Slice (cP (hl pins s1 σ H1 _ I1 q1) fun vl s2 ⟨l,H2,I2,pl,q2⟩=>cP (hu pins s2 σ H2 _ I2 q2) fun vu s3 ⟨u,H3,I3,pu,q3⟩=>?_)
  rw [evalPart_none]
  refine wpAny_pure ?_
  have I4:aF X pins σ H3 {s3 with heap:=s3.heap.push {cls:=.type "slice",data:=.fields #[vl,vu,.none]}}:=I3.kept (t':=s3.toks) fun b ob q=>Heap.get?_push_of_some _ q
  obtain⟨T,id,hT,ht,hg⟩:=hr pins {s3 with heap:=s3.heap.push {cls:=.type "slice",data:=.fields #[vl,vu,.none]}} σ H3 x v vl vu l u s3.heap.objs.size Q I4 r1 (Heap.IsSliceOf.new ..) pl pu q3
  show wpAny (model X.prog X.w) X.A (subscriptTail e (.Slice lo hi none p2) v (.ref s3.heap.objs.size)) (EP X pins σ Q) X.xe {s3 with heap:=s3.heap.push {cls:=.type "slice",data:=.fields #[vl,vu,.none]}}
  exact tail_any (ops:=[.ref s3.heap.objs.size,v]) ht hT hg (by with_unfolding_all rfl)
def n9(xs:List V)(lo hi:Option Int):List V:=(xs.drop (HT.sIx xs.length 0 lo)).take (HT.sIx xs.length xs.length hi - HT.sIx xs.length 0 lo)
theorem lC(xs:List V)(lo hi:Option Int):(n9 xs lo hi).length≤xs.length:=by
  unfold n9
  rw [List.length_take,List.length_drop]
  lia
def Eh(K:PySem.W.Frag):V→Option Int→Option Int→Hp→VK→Prop:=fun x lo hi H Q=>∃a xs,x=.ref a∧dO K H a xs∧
  ¬(HT.sIx xs.length 0 lo=0∧HT.sIx xs.length xs.length hi=xs.length)∧∀p,H p=none→Q (.ref p) (bi H p (.tup (n9 xs lo hi)))
theorem Cn:yH X (Eh X.K):=by
  intro pins s σ H x v vl vu lo hi sl Q I rx hs pl pu h
  obtain⟨a,xs,rfl,hx,hw,q⟩:=h
  cases rx
  obtain⟨its,r,ht,hz⟩:=I.tuple hx
  have hlen:its.toArray.size=xs.length:=by rw [List.size_toArray];exact r.length.symm
  refine⟨"tuple",_,PyProof.Rows.slot_tuple_getitem.lookup,ht.typeIs,?_⟩
  refine HT.getItem_tuple_cut ht hs pl pu (by rw [hlen];exact hw) ?_ (by rw [hlen];exact hz)
  rw [hlen]
  refine⟨.ref s.heap.objs.size,_,I.laid (t':=s.toks) (o:=.tup (n9 xs lo hi)) (fun b ob q=>Heap.get?_push_of_some _ q) (Nat.le_refl _) ?_,rfl,q _ (I.hok.fresh (Nat.le_refl _))⟩
  exact⟨Nat.le_trans (lC xs lo hi) hz,_,(r.drop (HT.sIx xs.length 0 lo)).take (HT.sIx xs.length xs.length hi - HT.sIx xs.length 0 lo),ml.new _ _⟩
def D_(K:PySem.W.Frag):R2:=fun x y H Q=>∃a b xs ys,x=.ref a∧y=.ref b∧dO K H a xs∧dO K H b ys∧xs≠[]∧xs.length+ys.length≤sizeLine∧
  (ys=[]→Q (.ref a) H)∧(ys≠[]→∀p,H p=none→Q (.ref p) (bi H p (.tup (xs++ys))))
theorem aQ.nil_iff{xs:List V}{us:List Value}(r:aQ xs us):us=[]↔ xs=[]:=by
  cases r with
  | nil=>simp
  | cons _ _=>simp
theorem zp:gu X (binaryOp .Add) (D_ X.K):=by
  intro pins s σ H x y v u Q I rx ry h
  obtain⟨a,b,xs,ys,rfl,rfl,ha,hb,hx,hz,q1,q2⟩:=h
  cases rx
  cases ry
  obtain⟨its,r1,p1,_⟩:=I.tuple ha
  obtain⟨its2,r2,p2,_⟩:=I.tuple hb
  refine HT.cat_tup p1 p2 (fun z=>hx (r1.nil_iff.mp z)) (fun z=>⟨.ref a,H,I,rfl,q1 (r2.nil_iff.mp z)⟩) (fun z=>?_) (by rw [←r1.length,←r2.length];exact hz)
  refine⟨.ref s.heap.objs.size,_,I.laid (t':=s.toks) (o:=.tup (xs++ys)) (fun b ob q=>Heap.get?_push_of_some _ q) (Nat.le_refl _) ?_,rfl,q2 (fun w=>z (r2.nil_iff.mpr w)) _ (I.hok.fresh (Nat.le_refl _))⟩
  exact⟨by rw [List.length_append];exact hz,_,r1.append r2,ml.new _ _⟩
end
end L2
namespace L2
open PySem PySem.Spec PyProof.Rows
def uU(n:Nat)(i:Int):Option Nat:=if 0≤i then(if i < n then some i.toNat else none) else if -(n:Int)≤i then some (i+n).toNat else none
def atI{α:Type}(xs:List α)(i:Int):Option α:=(uU xs.length i).bind fun j=>xs[j]?
theorem tT{n:Nat}{i:Int}{j:Nat}(h:uU n i=some j):seqIndex? i n=some j∧j < n∧ -(n:Int)≤i∧i < n:=by
  unfold uU at h
  by_cases h0:0≤i
  · rw [if_pos h0] at h
    by_cases h1:i < n
    · rw [if_pos h1] at h
      have e:i.toNat=j:=Option.some.inj h
      exact⟨by rw [seqIndex_of h0 h1,e],by lia,by lia,h1⟩
    · rw [if_neg h1] at h;cases h
  · rw [if_neg h0] at h
    by_cases h1: -(n:Int)≤i
    · rw [if_pos h1] at h
      have e:(i+n).toNat=j:=Option.some.inj h
      exact⟨by rw [seqIndex_neg (by lia) h1,e],by lia,h1,by lia⟩
    · rw [if_neg h1] at h;cases h
theorem tj{α:Type}{xs:List α}{i:Int}{v:α}(h:atI xs i=some v):∃j,seqIndex? i xs.length=some j∧xs[j]?=some v∧j < xs.length∧ -(xs.length:Int)≤i∧i < xs.length:=by
  unfold atI at h
  cases e:uU xs.length i with
  | none=>rw [e] at h;cases h
  | some j=>
    rw [e] at h
    obtain⟨h1,h2,h3,h4⟩:=tT e
    exact⟨j,h1,h,h2,h3,h4⟩
def pd(b:Expr):Prop:=∀o i,subscripted b false o i=operate [o,i] (getItem o i)
def yG(X:Cx)(r:R2):Prop:=
  ∀(value slice:Expr) (pins:List (Addr × Obj)) (s:Shared) (σ:St) (H:Hp) (x y:V) (v u:Value) (Q:VK),aF X pins σ H s→bu x v→bu y u→r x y H Q→
    subscripted slice false v u=operate [v,u] (getItem v u)→wpAny (model X.prog X.w) X.A (subscriptTail value slice v u) (EP X pins σ Q) X.xe s
def FW(X:Cx)(id:String)(r:V→List V→Hp→VK→Prop):Prop:=
  ∀(pins:List (Addr × Obj)) (s:Shared) (σ:St) (H:Hp) (x:V) (xs:List V) (v:Value) (us:List Value) (Q:VK),aF X pins σ H s→bu x v→aQ xs us→r x xs H Q→
    wpAny (model X.prog X.w) X.A (call (.builtin id) (v::us)) (EP X pins σ Q) X.xe s
section
variable{X:Cx}{a b:Expr}{ta tb:TE}{pos:Pos}
theorem yG.or{r r':R2}(h:yG X r)(h':yG X r'):yG X (fun x y H Q=>r x y H Q∨r' x y H Q):=by
  intro value slice pins s σ H x y v u Q I rx ry q hs
  rcases q with q | q
  · exact h value slice pins s σ H x y v u Q I rx ry q hs
  · exact h' value slice pins s σ H x y v u Q I rx ry q hs
theorem DX{r:R2}(hr:yG X r)(ha:PE X a ta)(hb:PE X b tb)(hs:pd b):PE X (.Subscript a b pos) (Ez r ta tb):=by
  intro pins s σ H Q I h
  exact Subscript_ (AY ha hb I h fun v u s2 x y H2 I2 rx ry q=>hr a b pins s2 σ H2 x y v u Q I2 rx ry q (hs _ _))
def Ed(K:PySem.W.Frag):R2:=fun x y H Q=>∃p xs i v,x=.ref p∧y=.int i∧eI K H p xs∧atI xs i=some v∧Q v H
def Ee(K:PySem.W.Frag):R2:=fun x y H Q=>∃p xs i v,x=.ref p∧y=.int i∧dO K H p xs∧atI xs i=some v∧Q v H
theorem yY:yG X (Ed X.K):=by
  intro value slice pins s σ H x y v u Q I rx ry h hs
  obtain⟨p,xs,i,z,rfl,rfl,hq,he,q⟩:=h
  cases rx
  obtain⟨t,rfl⟩:=ry
  obtain⟨its,r,pl,hz⟩:=I.list hq
  obtain⟨j,h1,h2,h3,h4,h5⟩:=tj he
  obtain⟨w,ew,rw'⟩:=r.get h2
  have hl:=r.length
  have hn:=pQ
  have fin:EP X pins σ Q w s:=⟨z,H,I,rw',q⟩
  by_cases h0:0≤i
  · have hj:i.toNat=j:=by
      rw [seqIndex_of h0 h5] at h1
      exact Option.some.inj h1
    exact item_listR pl.isList h0 (by lia) (by rw [hj];simpa using ew) fin hs
  · have hj:(i+(its.toArray.size:Int)).toNat=j:=by
      rw [seqIndex_neg (by lia) h4] at h1
      rw [List.size_toArray,←hl]
      exact Option.some.inj h1
    exact subscriptTail_builtinR (x:=w) pl.isList.typeIs slot_list_getitem.lookup
      (wpAny_getItem_list_neg (Q:=fun r s'=>r=w∧EP X pins σ Q r s') pl.isList (by lia) (by rw [List.size_toArray]<;>lia) (by lia) (by rw [hj];simpa using ew) ⟨rfl,fin⟩) hs
theorem Bf:yG X (Ee X.K):=by
  intro value slice pins s σ H x y v u Q I rx ry h hs
  obtain⟨p,xs,i,z,rfl,rfl,hq,he,q⟩:=h
  cases rx
  obtain⟨t,rfl⟩:=ry
  obtain⟨its,r,pl,hz⟩:=I.tuple hq
  obtain⟨j,h1,h2,h3,h4,h5⟩:=tj he
  obtain⟨w,ew,rw'⟩:=r.get h2
  have hl:=r.length
  have hn:=pQ
  have fin:EP X pins σ Q w s:=⟨z,H,I,rw',q⟩
  exact subscriptTail_builtinR (x:=w) pl.typeIs slot_tuple_getitem.lookup
    (getItem_tuple (j:=j) (Q:=fun r s'=>r=w∧EP X pins σ Q r s') pl (by lia) (by lia) (by rw [List.size_toArray,←hl];exact h1) (by simpa using ew) ⟨rfl,fin⟩) hs
theorem sE(its:List Value)(n j:Nat)(u:Value):Obj.mapSeq (·.setIfInBounds j u) {cls:=.type "list",data:=.seq its.toArray n}={cls:=.type "list",data:=.seq (its.set j u).toArray n}:=by
  simp [Obj.mapSeq]
theorem aF.lst{pins:List (Addr × Obj)}{σ:St}{H:Hp}{s:Shared}{p:Addr}{xs:List V}(I:aF X pins σ H s)(h:H p=some (.lst xs)):
    ∃(its:List Value) (n:Nat),aQ xs its∧s.heap.get? p=some {cls:=.type "list",data:=.seq its.toArray n}∧xs.length≤sizeLine:=by
  obtain⟨z,its,n,r,e⟩:=I.hok p _ h
  exact⟨its,n,r,e,z⟩
theorem aF.lstUpd{pins:List (Addr × Obj)}{σ:St}{H:Hp}{s:Shared}{p:Addr}{xs ys:List V}{its its':List Value}{n n':Nat}{f:Obj→Obj}(I:aF X pins σ H s)(h:H p=some (.lst xs))
    (ho:s.heap.get? p=some {cls:=.type "list",data:=.seq its.toArray n})(hf:f {cls:=.type "list",data:=.seq its.toArray n}={cls:=.type "list",data:=.seq its'.toArray n'})(r:aQ ys its')(hz:ys.length≤sizeLine)(t:Nat):
    aF X pins σ (bi H p (.lst ys)) {s with heap:=s.heap.update p f,toks:=t}:=by
  have e:(s.heap.update p f).get? p=some {cls:=.type "list",data:=.seq its'.toArray n'}:=by
    rw [Heap.get?_update_self f ho (by rw [hf]<;>rfl),hf]
  refine I.write (x:=p) (e:=p) (by rw [h];trivial) (.inl rfl) (fun b u hb q=>(Heap.get?_update_other _ _ (Ne.symm hb)).trans q) ⟨_,e⟩ ?_
  exact⟨hz,its',n',r,e⟩
def Ef:V→V→V→Hp→(Hp→Prop)→Prop:=fun o i v H Q=>∃p xs k j,o=.ref p∧i=.int k∧H p=some (.lst xs)∧uU xs.length k=some j∧Q (bi H p (.lst (xs.set j v)))
theorem yj:C2 X Ef:=by
  intro pins s σ H o i v ov iv u Q I ro ri rv h
  obtain⟨p,xs,k,j,rfl,rfl,hp,hj,q⟩:=h
  cases ro
  obtain⟨t,rfl⟩:=ri
  obtain⟨its,n,r,ho,hz⟩:=I.lst hp
  obtain⟨h1,h2,h3,h4⟩:=tT hj
  have hl:=r.length
  have hn:=pQ
  have I':aF X pins σ (bi H p (.lst (xs.set j v))) {s with heap:=s.heap.update p (Obj.mapSeq (·.setIfInBounds j u))}:=
    I.lstUpd hp ho (sE its n j u) (r.set rv j) (by rw [List.length_set];exact hz) s.toks
  by_cases h0:0≤k
  · have hk:k.toNat=j:=by
      rw [seqIndex_of h0 h4] at h1
      exact Option.some.inj h1
    exact PySem.W.ki_setAt ho h0 (by lia) (by rw [List.size_toArray,←hl];exact h4) (by rw [hk];exact⟨_,I',q⟩)
  · have hk:(k+(its.toArray.size:Int)).toNat=j:=by
      rw [seqIndex_neg (by lia) h3] at h1
      rw [List.size_toArray,←hl]
      exact Option.some.inj h1
    exact PySem.W.ki_setBack ho (by lia) (by rw [List.size_toArray,←hl];exact h3) (by lia) (by rw [hk];exact⟨_,I',q⟩)
theorem p8(lo hi:Option Int)(n:Nat):(sliceBounds lo hi none n).1=((HT.sIx n 0 lo:Nat):Int)∧(sliceBounds lo hi none n).2.1=((HT.sIx n n hi:Nat):Int)∧(sliceBounds lo hi none n).2.2=1:=by
  refine⟨?_,?_,rfl⟩
  · cases lo with
    | none=>simp [sliceBounds,HT.sIx]
    | some i=>
      simp only [sliceBounds,HT.sIx,Option.getD_none,show(1:Int) > 0 by decide,if_true]
      by_cases h:i < 0
      · simp only [h,if_true]<;>lia
      · simp only [h,if_false]<;>lia
  · cases hi with
    | none=>simp [sliceBounds,HT.sIx]
    | some i=>
      simp only [sliceBounds,HT.sIx,Option.getD_none,show(1:Int) > 0 by decide,if_true]
      by_cases h:i < 0
      · simp only [h,if_true]<;>lia
      · simp only [h,if_false]<;>lia
theorem oi(its:List Value)(lo hi:Option Int):slicePick its.toArray lo hi none=((its.drop (HT.sIx its.length 0 lo)).take (HT.sIx its.length its.length hi - HT.sIx its.length 0 lo)).toArray:=by
  obtain⟨h1,h2,h3⟩:=p8 lo hi its.toArray.size
  unfold slicePick
  rw [h1,h2,h3]
  simp only [sliceRange_one,pick_run,List.size_toArray]<;>rfl
def Eg(K:PySem.W.Frag):V→Option Int→Option Int→Hp→VK→Prop:=fun x lo hi H Q=>∃a xs,x=.ref a∧eI K H a xs∧∀p,H p=none→Q (.ref p) (bi H p (.lst (n9 xs lo hi)))
theorem z8:yH X (Eg X.K):=by
  intro pins s σ H x v vl vu lo hi sl Q I rx hs pl pu h
  obtain⟨a,xs,rfl,hx,q⟩:=h
  cases rx
  obtain⟨its,r,ht,hz⟩:=I.list hx
  have hlen:=r.length
  refine⟨"list",_,slot_list_getitem.lookup,ht.isList.typeIs,?_⟩
  refine wpAny_getItem_list_slice ht.isList hs pl pu .none (by simp) ?_ (by rw [List.size_toArray]<;>lia)
  rw [oi,←hlen]
  refine⟨.ref s.heap.objs.size,_,I.laid (t':=s.toks) (o:=.lst (n9 xs lo hi)) (fun b ob q=>Heap.get?_push_of_some _ q) (Nat.le_refl _) ?_,rfl,q _ (I.hok.fresh (Nat.le_refl _))⟩
  exact⟨Nat.le_trans (lC xs lo hi) hz,_,0,(r.drop (HT.sIx xs.length 0 lo)).take (HT.sIx xs.length xs.length hi - HT.sIx xs.length 0 lo),Heap.get?_push_size _ rfl⟩
theorem pq:ed X (.builtin "len") (fun xs H Q=>∃p ys,xs=[.ref p]∧(eI X.K H p ys∨dO X.K H p ys)∧Q (.int ys.length) H):=by
  intro pins s σ H xs us Q I r h
  obtain⟨p,ys,rfl,hq,q⟩:=h
  obtain⟨u,rfl,rx⟩:=o8 r
  cases rx
  have hn:=pQ
  rcases hq with hq | hq
  · obtain⟨its,r',pl,hz⟩:=I.list hq
    have hlen:=r'.length
    exact Calls.call_len_list pl.isList (by simp only [List.size_toArray]<;>lia) ⟨.int ys.length,H,I.tok _,⟨s.toks+1,by rw [List.size_toArray,hlen]⟩,q⟩
  · obtain⟨its,r',pl,hz⟩:=I.tuple hq
    have hlen:=r'.length
    exact len_tuple pl (by simp only [List.size_toArray]<;>lia) ⟨.int ys.length,H,I.tok _,⟨s.toks+1,by rw [List.size_toArray,hlen]⟩,q⟩
theorem pv:ed X (.type "list") (fun xs H Q=>∃p ys,xs=[.ref p]∧(eI X.K H p ys∨dO X.K H p ys)∧∀l,H l=none→Q (.ref l) (bi H l (.lst ys))):=by
  intro pins s σ H xs us Q I r h
  obtain⟨p,ys,rfl,hq,q⟩:=h
  obtain⟨u,rfl,rx⟩:=o8 r
  cases rx
  have fin:∀(its:List Value),aQ ys its→ys.length≤sizeLine→∀(h':Heap) (c':Nat),(∀b o',s.heap.get? b=some o'→h'.get? b=some o')→
      h'.get? s.heap.objs.size=some {cls:=.type "list",dict:=none,data:=.seq its.toArray c',slots:=#[]}→EP X pins σ Q (.ref s.heap.objs.size) {s with heap:=h'}:=fun its r' hz h' c' kp e=>
    ⟨.ref s.heap.objs.size,_,I.laid (t':=s.toks) kp (Nat.le_refl _) (show cY X.prog X.w _ h' _ (.lst ys) from⟨hz,its,c',r',e⟩),rfl,q _ (I.hok.fresh (Nat.le_refl _))⟩
  rcases hq with hq | hq
  · obtain⟨its,r',pl,hz⟩:=I.list hq
    have hlen:=r'.length
    obtain⟨o,ho,hc,n,hd⟩:=pl.isList
    exact call_list_seq p (.inl rfl) ho hc hd (fun h' c' kp e=>fin its r' hz h' c' kp e) (by simp only [List.size_toArray]<;>lia)
  · obtain⟨its,r',pl,hz⟩:=I.tuple hq
    have hlen:=r'.length
    obtain⟨o,ho,hc,n,hd⟩:=pl
    exact call_list_seq p (.inr rfl) ho hc hd (fun h' c' kp e=>fin its r' hz h' c' kp e) (by simp only [List.size_toArray]<;>lia)
theorem n6:ed X (.type "tuple") (fun xs H Q=>∃p ys,xs=[.ref p]∧((eI X.K H p ys∧∀l,H l=none→Q (.ref l) (bi H l (.tup ys)))∨(dO X.K H p ys∧Q (.ref p) H))):=by
  intro pins s σ H xs us Q I r h
  obtain⟨p,ys,rfl,h⟩:=h
  obtain⟨u,rfl,rx⟩:=o8 r
  cases rx
  rcases h with ⟨hq,q⟩ | ⟨hq,q⟩
  · obtain⟨its,r',pl,hz⟩:=I.list hq
    have hlen:=r'.length
    refine call_tuple_list pl.isList (fun h' kp=>?_) (by simp only [List.size_toArray]<;>lia)
    have I1:aF X pins σ H {s with heap:=h'}:=I.kept (t':=s.toks) kp
    have I2:aF X pins σ (bi H h'.objs.size (.tup ys)) {s with heap:=h'.push {cls:=.type "tuple",data:=.seq its.toArray}}:=
      I1.laid (t':=s.toks) (fun b o e=>Heap.get?_push_of_some _ e) (Nat.le_refl _) (show cY X.prog X.w _ _ _ (.tup ys) from⟨hz,its,r',ml.new _ _⟩)
    exact⟨.ref h'.objs.size,_,I2,rfl,q _ (I1.hok.fresh (Nat.le_refl _))⟩
  · obtain⟨its,r',pl,hz⟩:=I.tuple hq
    exact call_tuple_same pl ⟨.ref p,H,I,rfl,q⟩
def Ge(K:PySem.W.Frag)(T:String)(x:V)(H:Hp):Prop:=match x with
  | .str _=>T="str"
  | .int _=>T="int"
  | .ref p=>(T="list"∧∃xs,eI K H p xs)∨(T="tuple"∧∃o,K.lookup p=some o∧o.cls=.type "tuple"∧o.dict=none)∨
      (T="dict"∧((∃kvs,H p=some (.dK kvs))∨∃kvs,H p=some (.dT kvs)))∨(T="set"∧∃S n,H p=some (.set S n))
  | _=>False
theorem CH{pins:List (Addr × Obj)}{σ:St}{H:Hp}{s:Shared}{T:String}{x:V}{v:Value}(I:aF X pins σ H s)(r:bu x v)(ty:Ge X.K T x H):
    s.TypeIs v T∧∀a,v=.ref a→∃ob,s.heap.get? a=some ob∧ob.dict=none:=by
  cases x with
  | str z=>
    obtain⟨t,rfl⟩:=r
    cases (show T="str" from ty)
    exact⟨typeIs_str s z t,fun _ e=>nomatch e⟩
  | int i=>
    obtain⟨t,rfl⟩:=r
    cases (show T="int" from ty)
    exact⟨typeIs_int s i t,fun _ e=>nomatch e⟩
  | ref p=>
    cases r
    rcases ty with ⟨rfl,xs,hq⟩ | ⟨rfl,o,hk,hc,hd⟩ | ⟨rfl,hk⟩ | ⟨rfl,S,n,hk⟩
    · obtain⟨its,_,pl,_⟩:=I.list hq
      refine⟨pl.isList.typeIs,fun a e=>?_⟩
      cases e
      obtain⟨o,n,e,c,hd,_⟩:=pl
      exact⟨o,e,hd⟩
    · refine⟨⟨o,I.kIn p o hk,hc⟩,fun a e=>?_⟩
      cases e
      exact⟨o,I.kIn _ o hk,hd⟩
    · have z:∃o,s.heap.get? p=some o∧o.ExactDict:=by
        rcases hk with ⟨kvs,hk⟩ | ⟨kvs,hk⟩
        · obtain⟨_,_,_,_,o,_,_,e,ex,_⟩:=I.hok p _ hk
          exact⟨o,e,ex⟩
        · obtain⟨_,_,_,_,o,_,_,e,ex,_⟩:=I.hok p _ hk
          exact⟨o,e,ex⟩
      obtain⟨o,e,ex⟩:=z
      refine⟨⟨o,e,ex.1⟩,fun a e2=>?_⟩
      cases e2
      exact⟨o,e,ex.2.1⟩
    · obtain⟨o,_,_,_,e,ex,_⟩:=I.hok p _ hk
      refine⟨⟨o,e,ex.1⟩,fun a e2=>?_⟩
      cases e2
      exact⟨o,e,ex.2.1⟩
  | _=>exact False.elim ty
def Gb(K:PySem.W.Frag)(T:String)(r:V→List V→Hp→VK→Prop)(to:TE)(t:TA):TE:=fun σ H Q=>to σ H fun x H1=>Ge K T x H1∧t σ H1 fun xs H2=>r x xs H2 Q
variable{o e:Expr}{es:List Expr}{to:TE}{t:TA}{name:Str}{apos cpos:Pos}{T id:String}{r:V→List V→Hp→VK→Prop}
theorem DU(pa:PlainAttrs T)(slot:Slot T name id)(hty:typeOf (.builtin id)=pure (.type "method_descriptor"))(hm:FW X id r)(ho:PE X o to)(ha:PA X (e::es) t)
    (hbase:attributeBase o name X.env (eval o X.env)=eval o X.env:=by rfl)
    (hfew:((backTo cpos (starEach (e::es) X.env)).all (fun x=> !x.1)&&(backToKw cpos (keywordEach [] X.env)).all (fun x=>x.1.isSome)
      &&decide ((e::es).length+([]:List Keyword).length+(if ([]:List Keyword).isEmpty then 0 else 1) < 30))=true:=by rfl)
    (hline:(apos.endLine==cpos.line)=true:=by rfl)(hs:starEach (e::es) X.env=(false,eval e X.env)::starEach es X.env:=by rfl)(hplain:(backTo cpos (starEach es X.env)).any (·.1)=false:=by rfl):
    PE X (.Call (.Attribute o name apos) (e::es) [] cpos) (Gb X.K T r to t):=by
  intro pins s σ H Q I h
  refine wpAny_Call_method_late hbase hfew hline rfl (cP (ho pins s σ H _ I h) fun v s1 ⟨x,H1,I1,r1,ty,q1⟩=>?_)
  obtain⟨h1,h2⟩:=CH I1 r1 ty
  refine⟨T,id,pa,slot,hty,h1,h2,?_⟩
  have hA:=ha cpos pins s1 σ H1 _ I1 q1
  rw [hs] at hA ⊢
  refine Calls.callWith_builtin (by show(false || (backTo cpos (starEach es X.env)).any (·.1))=false;rw [hplain]<;>rfl) (Calls.evalArgs_plain ?_)
  exact cP hA fun us s2 ⟨vs,H2,I2,r2,q2⟩=>hm pins s2 σ H2 x vs v us Q I2 r1 r2 q2
end
end L2
namespace L2
open PySem PySem.Spec PyProof.Rows
def FV(X:Cx)(id:String)(r:V→List V→Hp→VK→Prop):Prop:=
  ∀(pins:List (Addr × Obj)) (s:Shared) (σ:St) (H:Hp) (x:V) (xs:List V) (v:Value) (us:List Value) (Q:VK),aF X pins σ H s→bu x v→aQ xs us→r x xs H Q→
    wpAny (model X.prog X.w) X.A (call (.builtin id) (v::us)) (EP X pins σ Q) X.xe s
theorem aQ.one:∀{x:V} {us:List Value},aQ [x] us→∃u,us=[u]∧bu x u
  | _,_,.cons r .nil=>⟨_,rfl,r⟩
theorem aQ.eraseIdx:∀{xs:List V} {us:List Value} (i:Nat),aQ xs us→aQ (xs.eraseIdx i) (us.eraseIdx i)
  | _,_,_,.nil=>.nil
  | _,_,0,.cons _ t=>t
  | _,_,i+1,.cons r t=>.cons r (aQ.eraseIdx i t)
theorem aQ.rep{xs:List V}{us:List Value}(h:aQ xs us):∀k:Nat,aQ (List.replicate k xs).flatten (List.replicate k us).flatten
  | 0=>.nil
  | k+1=>by
    rw [List.replicate_succ,List.replicate_succ,List.flatten_cons,List.flatten_cons]
    exact aQ.append h (aQ.rep h k)
theorem oH{α:Type}:∀(l:List α) (i:Nat),(l.eraseIdx i).length≤l.length
  | [],_=>Nat.le_refl _
  | _::_,0=>Nat.le_succ _
  | _::r,i+1=>Nat.succ_le_succ (oH r i)
theorem oD(its:List Value):∀(k:Nat) (acc:List Value),
    List.foldl (fun x1 x2=>x1++x2) acc.toArray (List.replicate k its.toArray)=(acc++(List.replicate k its).flatten).toArray
  | 0,acc=>by simp
  | k+1,acc=>by
    have e:acc.toArray++its.toArray=(acc++its).toArray:=by simp
    have e2:(acc++its)++(List.replicate k its).flatten=acc++(List.replicate (k+1) its).flatten:=by
      rw [List.replicate_succ,List.flatten_cons,List.append_assoc]
    rw [←e2,←oD its k (acc++its),←e,List.replicate_succ,List.foldl_cons]
section
variable{X:Cx}{pins:List (Addr × Obj)}{σ:St}{H:Hp}{s:Shared}{l b:Addr}{xs ys zs:List V}
theorem aF.lset{its its':List Value}{n:Nat}{f:Array Value→Array Value}{t':Nat}(I:aF X pins σ H s)(hH:H l=some (.lst xs))
    (e:s.heap.get? l=some {cls:=.type "list",data:=.seq its.toArray n})(hf:f its.toArray=its'.toArray)(hv:aQ ys its')(hz:ys.length≤sizeLine):
    aF X pins σ (bi H l (.lst ys)) {s with heap:=s.heap.update l (Obj.mapSeq f),toks:=t'}:=by
  have q:=PySem.IsL.update e f
  rw [hf] at q
  refine I.write (x:=l) (e:=l) (by rw [hH];exact trivial) (.inl rfl) (fun b' u hb hu=>(Heap.get?_update_other s.heap (Obj.mapSeq f) (Ne.symm hb)).trans hu) ⟨_,q⟩ ?_
  exact⟨hz,its',_,hv,q⟩
theorem aF.lnew{its:List Value}{t':Nat}(I:aF X pins σ H s)(hv:aQ ys its)(hz:ys.length≤sizeLine):
    aF X pins σ (bi H s.heap.objs.size (.lst ys)) {s with heap:=s.heap.push {cls:=.type "list",data:=.seq its.toArray},toks:=t'}:=
  I.laid (fun _ _ q=>Heap.get?_push_of_some _ q) (Nat.le_refl _) ⟨hz,its,0,hv,Heap.get?_push_size _ rfl⟩
theorem aF.fresh(I:aF X pins σ H s):H s.heap.objs.size=none:=I.hok.fresh (Nat.le_refl _)
theorem aF.lstM(I:aF X pins σ H s)(hH:H l=some (.lst xs)):xs.length≤sizeLine∧∃(its:List Value) (n:Nat),aQ xs its∧xs.length=its.length∧s.heap.get? l=some {cls:=.type "list",data:=.seq its.toArray n}:=by
  obtain⟨z,its,n,r,e⟩:=I.hok l _ hH
  exact⟨z,its,n,r,r.length,e⟩
theorem wY{n:Nat}(h:n≤sizeLine):Builtin.List.listTooLong n=false:=by
  unfold Builtin.List.listTooLong
  exact decide_eq_false (by lia)
end
section
variable{X:Cx}
def t_:V→List V→Hp→VK→Prop:=fun x vs H Q=>∃l xs y,x=.ref l∧vs=[y]∧H l=some (.lst xs)∧xs.length < sizeLine∧Q .non (bi H l (.lst (xs++[y])))
theorem k8:FV X "list.append" t_:=by
  intro pins s σ H x vs v us Q I rx rv h
  obtain⟨l,xs,y,rfl,rfl,hH,hz,q⟩:=h
  cases rx
  obtain⟨u,rfl,ru⟩:=rv.one
  obtain⟨z,its,n,r,hl,e⟩:=I.lstM hH
  refine call_meets F.slot_list_append ⟨_,e,rfl⟩ F.entry_list_append (F.args_list_append_2 _ _) (PySem.list_append l its.toArray n u (by rw [List.size_toArray];lia)) ⟨e,?_⟩
  refine⟨.non,_,I.lset (its':=its++[u]) hH e (by simp) (r.append (.cons ru .nil)) ?_,rfl,q⟩
  rw [List.length_append,List.length_singleton]
  lia
def xX:V→List V→Hp→VK→Prop:=fun x vs H Q=>∃l xs i k y,x=.ref l∧vs=[.int i]∧H l=some (.lst xs)∧ -(2 ^ 63)≤i∧i < 2 ^ 63∧seqIndex? i xs.length=some k∧xs[k]?=some y∧Q y (bi H l (.lst (xs.eraseIdx k)))
theorem wV:FV X "list.pop" xX:=by
  intro pins s σ H x vs v us Q I rx rv h
  obtain⟨l,xs,i,k,y,rfl,rfl,hH,h1,h2,hk,hy,q⟩:=h
  cases rx
  obtain⟨u,rfl,ru⟩:=rv.one
  obtain⟨t,rfl⟩:=ru
  obtain⟨z,its,n,r,hl,e⟩:=I.lstM hH
  obtain⟨w,hw,rw'⟩:=r.get hy
  refine call_meets F.slot_list_pop ⟨_,e,rfl⟩ F.entry_list_pop (F.args_list_pop_2 _ _)
    (MeetsSeq.list_pop_at l its.toArray n i t k w (fitsIndex_both h1 h2) (by rw [List.size_toArray,←hl];exact hk) (by rw [←Array.getElem?_toList];exact hw) (by rw [List.size_toArray];lia)) ⟨e,?_⟩
  refine⟨y,_,I.lset (its':=its.eraseIdx k) hH e ?_ (r.eraseIdx k) ?_,rw',q⟩
  · show its.toArray.eraseIdxIfInBounds k=(its.eraseIdx k).toArray
    rw [List.eraseIdxIfInBounds_toArray]
  · have:=oH xs k
    lia
def Cb:R2:=fun x y H Q=>∃l b xs zs,x=.ref l∧y=.ref b∧H l=some (.lst xs)∧H b=some (.lst zs)∧xs.length+zs.length≤sizeLine∧∀p,H p=none→Q (.ref p) (bi H p (.lst (xs++zs)))
theorem BA:gu X (binaryOp .Add) Cb:=by
  intro pins s σ H x y v u Q I rx ry h
  obtain⟨l,b,xs,zs,rfl,rfl,hH,hB,hz,q⟩:=h
  cases rx
  cases ry
  obtain⟨z,its,n,r,hl,e⟩:=I.lstM hH
  obtain⟨z2,its2,n2,r2,hl2,e2⟩:=I.lstM hB
  refine PySem.P.add_list e e2 ?_ (by rw [List.size_toArray,List.size_toArray];lia)
  have ea:its.toArray++its2.toArray=(its++its2).toArray:=by simp
  rw [ea]
  exact⟨.ref _,_,I.lnew (t':=s.toks) (r.append r2) (by rw [List.length_append];lia),rfl,q _ I.fresh⟩
def Cd:R2:=fun x y H Q=>∃l k xs,x=.ref l∧y=.int k∧H l=some (.lst xs)∧ -(2 ^ 63)≤k∧k < 2 ^ 63∧xs.length*k.toNat≤sizeLine∧
  ∀p,H p=none→Q (.ref p) (bi H p (.lst (List.replicate k.toNat xs).flatten))
theorem y4{α:Type}(xs:List α)(k:Nat):(List.replicate k xs).flatten.length=k*xs.length:=by
  induction k with
  | zero=>simp
  | succ k ih=>rw [List.replicate_succ,List.flatten_cons,List.length_append,ih,Nat.succ_mul,Nat.add_comm]
theorem BL:gu X (binaryOp .Mult) Cd:=by
  intro pins s σ H x y v u Q I rx ry h
  obtain⟨l,k,xs,rfl,rfl,hH,h1,h2,hz,q⟩:=h
  cases rx
  obtain⟨t,rfl⟩:=ry
  obtain⟨z,its,n,r,hl,e⟩:=I.lstM hH
  have hlen:its.toArray.size*k.toNat≤sizeLine:=by rw [List.size_toArray,←hl];exact hz
  have hcap:¬its.toArray.size*k.toNat > (2 ^ 63 - 1) / 8:=by
    have:(sizeLine:Nat)≤(2 ^ 63 - 1) / 8:=by decide
    lia
  have hfit:¬(!Builtin.List.listFitsIndex k)=true:=by
    rw [fitsIndex_both h1 h2]
    exact Bool.false_ne_true
  have hlong:¬Builtin.List.listTooLong (its.toArray.size*k.toNat)=true:=by
    rw [wY hlen]
    exact Bool.false_ne_true
  have hnew:List.foldl (fun x1 x2=>x1++x2) #[] (List.replicate (if its.toArray.isEmpty=true then 0 else k.toNat) its.toArray)=(List.replicate k.toNat its).flatten.toArray:=by
    have f0:∀m:Nat,List.foldl (fun x1 x2=>x1++x2) #[] (List.replicate m its.toArray)=(List.replicate m its).flatten.toArray:=fun m=>by
      have:=oD its m []
      rw [List.nil_append] at this
      exact this
    rw [f0]
    cases its with
    | nil=>simp
    | cons a r'=>rw [if_neg (by simp)]
  refine wpAny_binaryOp_repeat_ref (T:="list") (U:="int") (by decide) ⟨_,e,rfl⟩ (fun s'=>typeIs_int s' k t) noFill_list_mul F.fills_int_mul F.slot_int_rmul repeat_list F.slot_int_index.lookup
    (call_meets F.slot_int_rmul (typeIs_int s k t) F.entry_int_rmul (F.args_int_rmul_2 _ _) (int___rmul___int_list k t l its.toArray n)
      ⟨e,rfl,⟨_,e,rfl⟩,call_meets F.slot_list_mul ⟨_,e,rfl⟩ F.entry_list_mul (F.args_list_mul_2 _ _) (AutoListH.list___mul___list_int_3 l its.toArray n k t hfit hcap hlong) ⟨e,?_⟩⟩)
  rw [hnew]
  exact⟨.ref _,_,I.lnew (t':=s.toks) (r.rep k.toNat) (by rw [y4,Nat.mul_comm];exact hz),rfl,q _ I.fresh⟩
end
section
variable{prog:Program}{w:World}{A:Around}{E:Value→Shared→Prop}{s:Shared}
end
section
variable{X:Cx}
end
end L2
namespace Att
open PySem PySem.W PySem.Calls PyProof.Rows
theorem lT{P:Params}{h:Heap}:∀(ns:List Int) (vs:List Value),WellAll P h vs (ns.map WData.int)→IntsAre vs ns:=by
  intro ns
  induction ns with
  | nil=>
    intro vs w
    rw [List.map_nil] at w
    cases w
    exact .nil
  | cons n ns ih=>
    intro vs w
    rw [List.map_cons] at w
    cases w with
    | cons a b=>
      cases a
      exact .cons _ _ (ih _ b)
theorem vk{l:OpenLaw}{n:Nat}(hn:l.most=some n){P:Params}{h:Heap}{args:List WData}{vals:List Value}
    (hpre:l.row.toRowW.claim.pre args=true)(hwl:WellAll P h vals args):
    ∃a vs ns,vals=[Value.ref a]∧args=[WData.list (ns.map WData.int)]∧h.get? a=some {cls:=.type "list",data:=.seq vs.toArray}∧IntsAre vs ns∧ns.length≤n:=by
  have hsh:WShape.hasAll [] args [.list .int]=true:=(pre_splitW hpre).1
  have hc:l.pre.holds [] {args:=args}=true:=(pre_splitW hpre).2
  obtain⟨d,r,rfl,h1,h2⟩:=hasAllW_cons hsh
  obtain rfl:=hasAllW_nil h2
  obtain⟨xs,rfl,h3⟩:=hasW_list h1
  obtain⟨ns,rfl⟩:=items_int h3
  have hlen:ns.length≤n:=by
    unfold OpenLaw.pre at hc
    have h4:(WTm.not (.lt (.lit (.int (n:Int))) (.len (.arg 0)))).holds [] {args:=[.list (ns.map .int)]}=true:=by
      have h4:=(holds_andW hc).1
      rw [hn] at h4
      exact h4
    have h5:=condW_of h4 (w_not (w_lt w_lit (w_len_list (w_arg rfl))))
    rw [List.length_map] at h5
    refine Nat.le_of_not_lt fun q=>?_
    have q':(n:Int) < ((ns.length:Nat):Int):=by lia
    first
      | (rw [decide_eq_true q'] at h5;exact absurd h5 (by decide))
      | (simp at h5;lia)
  cases hwl with
  | cons w1 w2=>
    cases w2
    cases w1 with
    | list ho hall=>exact⟨_,_,ns,rfl,rfl,ho,lT ns _ hall,hlen⟩
theorem vh(l:OpenLaw)(args:List WData):l.row.toRowW.claim.post args (.bool true) args=true:=
  postW_of (r:=l.row.toRowW) (X:=(true==true))
    (show WShape.has [] (.bool true) .bool=true by first | rfl | decide | simp [WShape.has,WShape.arms,WShape.armsAll])
    (show(WTm.eq .res (.lit (.bool true))).value [] {args:=args,res:=some (.bool true),after:=args}=some (.bool (true==true)) from w_eq_bool (w_res rfl) w_lit) rfl
theorem attach_call{l:OpenLaw}{n:Nat}{q:Program}{loose:List Str}{XP:(Str→Option Value)→Heap→Prop}{YP:World→Heap→Prop}{d:DefRec}
    (hn:l.most=some n)(hdf:d.params.defaults=[])
    (call:∀(w:World) (s₀ s₁:Shared) (mg mb:Str→Option Value) (fa:Addr) (o:Obj) (pm cd doc:Value) (a:Addr) (vs:List Value) (ns:List Int),
      Ground q loose [] XP w s₀ mg mb s₁.heap→YP w s₁.heap→
      s₁.heap.get? fa=some o→o.data=.func (docDef d.name d.params d.body d.scope pm cd doc)→s₁.heap.CodeRec cd d.name→mg d.name=some (.ref fa)→
      s₁.heap.get? a=some {cls:=.type "list",data:=.seq vs.toArray}→IntsAre vs ns→ns.length≤n→s₁.gens=#[]→
      codeAny (model l.prog w) callerA (.call (.ref fa) ⟨[.ref a],[]⟩) (fun r s'=>r=.ok (.ret (.bool true))∧OldK s₁.heap s'.heap∧s'.os=s₁.os∧AllBare s'.gens) s₁):
    WalkO q loose XP YP l.row.toRowW d [] (fun f vs=>PySem.call f vs):=by
  intro w s₀ s₁ mg mb G Y fa o pm cd doc dV kV ho hd hcd hD hmg hg args vals as hpre hlay hrd hwl hlo
  obtain rfl:dV=.none:=Dflts.none hD hdf
  obtain rfl:kV=.none:=Dflts.noKw hD
  obtain⟨a,vs,ns,rfl,rfl,hobj,hints,hlen⟩:=vk hn hpre hwl
  refine enter_call (codeAny_mono (call w s₀ s₁ mg mb fa o pm cd doc a vs ns G Y ho (fd_plain hd) hcd hmg hobj hints hlen hg) fun r s' hq=>?_)
  obtain⟨rfl,h2,h3,h4⟩:=hq
  exact⟨.inl ⟨.bool true,.bool true,[],rfl,fun _=>rfl,.bool true,vh l _,fun _=>⟨List.Pairwise.nil,fun _ hm=>(nomatch hm)⟩⟩,h2,h3,h4⟩
section
variable{prog:Program}{w:World}{A:Around}{E:Value→Shared→Prop}{s:Shared}{K:Frag}
end
end Att
namespace L2
open PySem PySem.Spec PyProof.Rows
theorem o_:∀{vs:List Value} {ns:List Int},IntsAre vs ns→aQ (ns.map V.int) vs
  | _,_,.nil=>.nil
  | _,_,.cons n t h=>.cons ⟨t,rfl⟩ (o_ h)
def AR(H:Hp):Prop:=∀b,H b=none∨∃o xs,H b=some (.frz o (.lst xs))
theorem wQ{P:Program}{w:World}{K:PySem.W.Frag}{mg mb:Str→Option Value}{CX:uy}{k:Nat}{fa a:Addr}{fd:FuncData}{x:Str}{sp:Sp}{s₁:Shared}{vs:List Value}{ns:List Int}
    (KX:K.In s₁.heap)(hns:s₁.heap.Ns mainGlobals mg)(hb:s₁.heap.Ns builtinsNs mb)(hbb:∀x:Str,x≠"__name__"→mb x=bootBuiltins x)(hlim:s₁.heap.NoLimit)(hg:s₁.gens=#[])
    (ha:s₁.heap.get? a=some {cls:=.type "list",data:=.seq vs.toArray})(hi:IntsAre vs ns)(hl:ns.length≤sizeLine)(hr:cQ k callerA)
    (F:∀base:Heap,K.In base→base.Ns mainGlobals mg→aC P w K mg base CX k fa fd [x] sp)(hbind:∀(s:Shared) (u:Value),BindsTo s fd ⟨[u],[]⟩ [(x,u)])
    (hsp:∀H:Hp,AR H→eI K H a (ns.map V.int)→sp [.ref a] H (fun v _=>v=.bl true) fun _ _ _=>False)
    (hCX:∀H e s',CX [] H s₁ (fun _ _ _=>False) e s'→False):
    codeAny (model P w) callerA (.call (.ref fa) ⟨[.ref a],[]⟩) (fun r s'=>r=.ok (.ret (.bool true))∧OldK s₁.heap s'.heap∧s'.os=s₁.os∧AllBare s'.gens) s₁:=by
  have rv:=o_ hi
  have lenV:=hi.length
  have core:∀H:Hp,AR H→eI K H a (ns.map V.int)→lz P w H s₁.heap→(∀b,H b≠none→b=a)→(H a≠none→K.lookup a=none)→
      codeAny (model P w) callerA (.call (.ref fa) ⟨[.ref a],[]⟩) (fun r s'=>r=.ok (.ret (.bool true))∧OldK s₁.heap s'.heap∧s'.os=s₁.os∧AllBare s'.gens) s₁:=by
    intro H hO hS hok hA hK
    have base_of:∀{b:Addr} {o:Obj},s₁.heap.get? b=some o→H b=none→(pN s₁.heap H).get? b=some o:=fun e n=>wK e n
    have noA:∀{b:Addr} {o:Obj} {es:Array DictEntry} {ep:Nat},s₁.heap.get? b=some o→o.data=.dict es ep→H b=none:=fun{b o es ep} e d=>by
      cases q:H b with
      | none=>rfl
      | some u=>
        have e':b=a:=hA b (by rw [q];simp)
        subst e'
        rw [ha] at e;cases e
        have d':Data.seq vs.toArray _=Data.dict es ep:=d
        cases d'
    have nsK:∀{b:Addr} {m:Str→Option Value},s₁.heap.Ns b m→(pN s₁.heap H).Ns b m:=fun{b m} ⟨o,es,ep,e,d,r⟩=>⟨o,es,ep,base_of e (noA e d),d,r⟩
    have hKb:K.In (pN s₁.heap H):=fun b o e=>base_of (KX b o e) (by
      cases q:H b with
      | none=>rfl
      | some u=>
        have e':b=a:=hA b (by rw [q];simp)
        subst e'
        rw [hK (by rw [q];simp)] at e;cases e)
    have hM:Mod K mg (pN s₁.heap H):=⟨hKb,nsK hns,⟨mb,nsK hb,hbb⟩,let ⟨mc,h1,h2⟩:=hlim;⟨mc,nsK h1,h2⟩⟩
    have e0:yF P w K mg (pN s₁.heap H) callerA [] s₁ H:=⟨rfl,hM,fun b o e=>y' e,Nat.le_of_eq (uQ _ _),trivial,fun b hb=>absurd (show b∈([]:List Addr) from hb) (by simp),hok,.of_eq hg⟩
    refine codeAny_mono ((F _ hKb (nsK hns)).run callerA [] s₁ H ⟨[.ref a],[]⟩ [.ref a] [.ref a] _ _ hr e0 (hbind s₁ (.ref a)) (.cons rfl .nil) (hsp H hO hS)) fun r s' h=>?_
    cases r with
    | error e=>exact(hCX H e s' h).elim
    | ok fl=>
      cases fl with
      | next=>exact False.elim h
      | brk=>exact False.elim h
      | cont=>exact False.elim h
      | ret u=>
        obtain⟨v,H',os,bare,un,hok',r',q⟩:=h
        have q':v=.bl true:=q
        subst q'
        obtain rfl:u=Value.bool true:=r'
        refine⟨rfl,OldK.of_keep fun b o e=>?_,os,bare⟩
        cases q:H b with
        | none=>exact un.keep b o e q (by intro z;exact absurd (show b∈([]:List Addr) from z) (by simp)) (by simp)
        | some u=>
          rcases hO b with z | ⟨ob,xs,z⟩
          · rw [q] at z;cases z
          · have z2:=un.frzs b ob _ z
            obtain⟨e1,_⟩:=hok b _ z
            obtain⟨e2,_⟩:=hok' b _ z2
            rw [e] at e1;cases e1
            exact e2
  cases hk:K.lookup a with
  | some o=>
    have e:=KX a o hk
    rw [ha] at e
    cases e
    refine core (fun _=>none) (fun _=>.inl rfl) (.inr ⟨_,vs.toArray,_,hk,rfl,rfl,rfl,by rw [List.size_toArray,lenV];exact hl,by simpa using rv⟩) (fun b u z=>by have z':(none:Option HO)=some u:=z;cases z') (fun b z=>absurd rfl z) fun z=>absurd rfl z
  | none=>
    refine core (fun b=>if b=a then some (.frz {cls:=.type "list",data:=.seq vs.toArray} (.lst (ns.map V.int))) else none) (fun b=>?_) (.inl (.inr ⟨{cls:=.type "list",data:=.seq vs.toArray},if_pos rfl⟩)) (fun b u z=>?_) (fun b z=>?_) fun _=>hk
    · by_cases hb:b=a
      · exact .inr ⟨_,_,if_pos hb⟩
      · exact .inl (if_neg hb)
    · by_cases hb:b=a
      · have z':=(if_pos hb).symm.trans z
        cases z'
        subst hb
        exact⟨ha,by rw [List.length_map];exact hl,vs,_,rv,ha⟩
      · have z':=(if_neg hb).symm.trans z
        cases z'
    · by_cases hb:b=a
      · exact hb
      · exact absurd (if_neg hb) z
end L2
namespace L2
open PySem PySem.Spec PyProof.Rows
theorem walk_of{l:PySem.W.OpenLaw}{n k:Nat}{q:Program}{loose:List Str}{XP:(Str→Option Value)→Heap→Prop}{YP:World→Heap→Prop}{d:DefRec}{K:Params→PySem.W.Frag}{CX:World→uy}{sp:World→Sp}{x:Str}
    (hn:l.most=some n)(hn2:n≤sizeLine)(hdf:d.params.defaults=[])(hr:cQ k callerA)
    (hY:∀(w:World) (h:Heap),YP w h→(K w.params).In h)
    (F:∀(w:World) (mg:Str→Option Value) (fa:Addr) (h:Heap),(K w.params).In h→h.Ns mainGlobals mg→mg d.name=some (.ref fa)→
      ∃fd:FuncData,(∀(s:Shared) (u:Value),BindsTo s fd ⟨[u],[]⟩ [(x,u)])∧
        ∀base:Heap,(K w.params).In base→base.Ns mainGlobals mg→aC l.prog w (K w.params) mg base (CX w) k fa fd [x] (sp w))
    (hsp:∀(w:World) (H:Hp) (a:Addr) (ns:List Int),ns.length≤n→AR H→eI (K w.params) H a (ns.map V.int)→sp w [.ref a] H (fun v _=>v=.bl true) fun _ _ _=>False)
    (hCX:∀(w:World) (H:Hp) (s:Shared) (e:Value) (s':Shared),CX w [] H s (fun _ _ _=>False) e s'→False):
    PySem.W.WalkO q loose XP YP l.row.toRowW d [] (fun f vs=>PySem.call f vs):=by
  refine Att.attach_call hn hdf fun w s₀ s₁ mg mb fa o pm cd doc a vs ns G Y ho hd hcd hmg hobj hints hlen hg=>?_
  have KX:=hY w _ Y
  obtain⟨fd,hb,hF⟩:=F w mg fa _ KX G.T.g hmg
  exact wQ KX G.T.g G.T.b G.T.builtins G.T.nolimit hg hobj hints (Nat.le_trans hlen hn2) hr hF hb (fun H hO hS=>hsp w H a ns hlen hO hS) fun H e s'=>hCX w H s₁ e s'
end L2
namespace L2
open PySem PySem.Spec PyProof.Rows
def dt(s:Stmt):Arguments:=match s with
  | .FunctionDef _ a _ _ _ _ _ _ _ _=>a
  | _=>{posonlyargs:=[],args:=[],vararg:=none,kwonlyargs:=[],kw_defaults:=[],kwarg:=none,defaults:=[]}
def cR(s:Stmt):List Stmt:=match s with
  | .FunctionDef _ _ b _ _ _ _ _ _ _=>b
  | _=>[]
def am(s:Stmt):Scope:=match s with
  | .FunctionDef _ _ _ _ _ _ sc _ _ _=>sc
  | _=>{kind:=.function,names:=[],isGenerator:=false,isCoroutine:=false}
abbrev bB:uy:=fun _ _ _ _ _ _=>False
abbrev E0:XK:=fun _ _ _=>False
theorem DP{X:Cx}:rQ bB X E0:=fun _ _ _ _ _ _ _ h=>h.elim
structure CS (K:PySem.W.Frag) (x qual:Str) (st:Stmt) (f:Addr) (fd:FuncData):Prop where
  ex:∃(oc:Value) (od:Option Addr) (kV doc pm:Value) (an:Option Addr) (cdv ct:Value) (osl:Array (Option Value)),
    fd=PySem.W.fnOf x qual (dt st) (cR st) (am st) .none kV doc pm an cdv ct∧K.lookup f=some ⟨oc,od,.func fd,osl⟩∧PySem.W.codeIn K cdv qual=true
  kp:PySem.W.keepIn K (.ref f)=true
section
variable{P:Program}{w:World}{K:PySem.W.Frag}{mg:Str→Option Value}{base:Heap}
theorem CS.ok{x qual:Str}{st:Stmt}{f:Addr}{fd:FuncData}{N ps:List Str}{k:Nat}{sp:Sp}(F:CS K x qual st f fd)(S:aB N ps (am st))(len:∀vs H Q E,sp vs H Q E→vs.length=ps.length)
    (hbody:∀(cdv:Value) (A:Around) (outer:List Env) (s:Shared) (H:Hp) (vs:List V) (Q:VK) (E:XK),cQ k (A.deeper (envOfC qual (am st) s.heap.objs.size f cdv))→sp vs H Q E→
      ∃t,lQ (r6 bB P w K mg base N qual (am st) f cdv A outer s H E).nox (cR st) t∧t {nx:=fun _ H'=>Q .non H',rt:=Q} (iq N vs) H):aC P w K mg base bB (k+1) f fd ps sp:=by
  obtain⟨oc,od,kV,doc,pm,an,cdv,ct,osl,rfl,lk,hcd⟩:=F.ex
  refine Di lk hcd S len fun A outer s H vs Q E hr hsp=>?_
  obtain⟨t,h,q⟩:=hbody cdv A outer s H vs Q E hr hsp
  exact⟨t,h.nox,q⟩
theorem CS.binds{x qual:Str}{st:Stmt}{f:Addr}{fd:FuncData}{ps:List Str}(F:CS K x qual st f fd)
    (h:∀(kV doc pm:Value) (an:Option Addr) (cdv ct:Value) (us:List Value),us.length=ps.length→bindArgs (PySem.W.fnOf x qual (dt st) (cR st) (am st) .none kV doc pm an cdv ct) ⟨us,[]⟩=pure (ps.zip us)):oj K fd ps []:=by
  obtain⟨oc,od,kV,doc,pm,an,cdv,ct,osl,rfl,lk,hcd⟩:=F.ex
  exact .all (h kV doc pm an cdv ct)
theorem wo{x qual:Str}{st:Stmt}{f:Addr}{oc:Value}{od an:Option Addr}{osl:Array (Option Value)}{kV doc pm cdv ct:Value}(l:K.lookup f=some ⟨oc,od,.func (PySem.W.fnOf x qual (dt st) (cR st) (am st) .none kV doc pm an cdv ct),osl⟩)
    (c:PySem.W.codeIn K cdv qual=true)(k:PySem.W.keepIn K (.ref f)=true):CS K x qual st f (PySem.W.fnOf x qual (dt st) (cR st) (am st) .none kV doc pm an cdv ct):=⟨⟨oc,od,kV,doc,pm,an,cdv,ct,osl,rfl,l,c⟩,k⟩
end
theorem ls{n:Nat}(h:n≤1000):n < sizeLine:=Nat.lt_of_le_of_lt h (by decide)
section
variable{X:Cx}
end
theorem Dw{A B:Prop}(h:B):if false=true then A else B:=by
  rw [if_neg Bool.false_ne_true]
  exact h
theorem Dx{A B:Prop}(h:A):if true=true then A else B:=by
  rw [if_pos rfl]
  exact h
def aA(H H':Hp):Prop:=∀b o,H b=some o→H' b=some o
theorem aA.refl(H:Hp):aA H H:=fun _ _ h=>h
theorem aA.trans{H H1 H2:Hp}(a:aA H H1)(b:aA H1 H2):aA H H2:=fun c o h=>b c o (a c o h)
theorem aA.free{H H':Hp}(e:aA H H'){l:Addr}(h:H' l=Option.none):H l=Option.none:=by
  cases q:H l with
  | none=>rfl
  | some o=>
    rw [e l o q] at h
    cases h
theorem aA.seq{K:PySem.W.Frag}{H H':Hp}{a:Addr}{xs:List V}(e:aA H H')(h:eI K H a xs):eI K H' a xs:=by
  rcases h with (h | ⟨o,h⟩) | h
  · exact .inl (.inl (e _ _ h))
  · exact .inl (.inr ⟨o,e _ _ h⟩)
  · exact .inr h
end L2
set_option maxHeartbeats 4000000
namespace L2
open PySem PySem.Spec PyProof.Rows
def Bt(n:Nat)(i:Int):Prop:=i.natAbs < 2 ^ n
theorem Bt.mono{m n:Nat}{i:Int}(h:Bt m i)(hm:m≤n):Bt n i:=Nat.lt_of_lt_of_le h (Nat.pow_le_pow_right (by decide) hm)
theorem Bt.mul{m n:Nat}{i j:Int}(h:Bt m i)(h':Bt n j):Bt (m+n) (i*j):=by
  unfold Bt at*
  rw [Int.natAbs_mul,Nat.pow_add]
  exact Nat.mul_lt_mul'' h h'
theorem Bt.neg{m:Nat}{i:Int}(h:Bt m i):Bt m (-i):=by
  unfold Bt at*
  rw [Int.natAbs_neg];exact h
theorem Bt.add{m:Nat}{i j:Int}(h:Bt m i)(h':Bt m j):Bt (m+1) (i+j):=by
  unfold Bt at*
  have e:(2:Nat) ^ (m+1)=2 ^ m+2 ^ m:=by rw [Nat.pow_succ];lia
  rw [e]
  have:=Int.natAbs_add_le i j
  lia
theorem Bt.log{m:Nat}{i:Int}(h:Bt m i)(hm:0 < m):i.natAbs.log2 < m:=by
  unfold Bt at h
  rcases Nat.eq_zero_or_pos i.natAbs with h0 | hp
  · rw [h0];exact hm
  · exact(Nat.log2_lt (by lia)).mpr h
theorem Bt.bits{m:Nat}{i:Int}(h:Bt m i)(hm:0 < m):Builtin.Int.intBits i≤m:=by
  unfold Builtin.Int.intBits
  split
  · exact Nat.zero_le _
  · exact h.log hm
theorem Bt.of_le{m:Nat}{i:Int}{j:Int}(h:Bt m j)(e:i.natAbs≤j.natAbs):Bt m i:=Nat.lt_of_le_of_lt e h
section
variable{X:Cx}
def An(i j:Int):Prop:=Bt 4000 i∧Bt 4000 j
theorem zv:gu X (binaryOp .Mult) (rI An fun i j=>.int (i*j)):=DK fun _ _ _ _ _ _ _ hc q=>
  mul_int q (.of_bits (Nat.le_trans (hc.1.bits (by decide)) (by decide)) (Nat.le_trans (hc.2.bits (by decide)) (by decide)))
def Am(i j:Int):Prop:=j≠0∧Bt 8000 j
theorem xm:gu X (binaryOp .FloorDiv) (rI Am fun i j=>.int (i.fdiv j)):=DK fun _ _ _ _ _ _ _ hc q=>
  floordiv_int hc.1 q (.inl (PyProof.noPylong_of_log2 (Nat.lt_trans (hc.2.log (by decide)) (by decide))))
def Fv(K:PySem.W.Frag):R2:=fun x y H Q=>∃a b xs,x=.ref a∧y=.ref b∧eI K H a xs∧eI K H b []∧Q (.bl xs.isEmpty) H
theorem BD(hu:X.A.units < cLine):gu X (compareOp .Eq) (Fv X.K):=by
  intro pins s σ H x y v u Q I rx ry h
  obtain⟨a,b,xs,rfl,rfl,ha,hb,q⟩:=h
  cases rx
  cases ry
  obtain⟨its,r,p,hz⟩:=I.list ha
  obtain⟨its2,r2,p2,hz2⟩:=I.list hb
  cases r2
  cases r with
  | nil=>
    refine SeqAt.eq_listAt (e:=fun _=>true) p.isList p2.isList rfl hu (fun j h1 h2=>by simp at h1) ?_
    exact⟨.bl true,H,I,rfl,q⟩
  | cons r rr=>
    refine SeqAt.eq_list_lengthsAt p.isList p2.isList (by simp) hu ?_
    exact⟨.bl false,H,I,rfl,q⟩
theorem BG:gu X (compareOp .Is) (fun x y H Q=>∃b c,x=.bl b∧y=.bl c∧Q (.bl (b==c)) H):=by
  intro pins s σ H x y v u Q I rx ry h
  obtain⟨b,c,rfl,rfl,q⟩:=h
  cases rx;cases ry
  exact is_bool ⟨.bl _,H,I,rfl,q⟩
end
def lA(H H':Hp):Prop:=∀a o,H a=some o→(∀xs,o≠.lst xs)→(∀ob xs,o≠.frz ob (.lst xs))→H' a=some o
theorem lA.trans{H H1 H2:Hp}(a:lA H H1)(b:lA H1 H2):lA H H2:=fun c o h n m=>b c o (a c o h n m) n m
theorem aA.ts{H H':Hp}(h:aA H H'):lA H H':=fun a o e _ _=>h a o e
theorem lA.tup{K:PySem.W.Frag}{H H':Hp}(h:lA H H'){a:Addr}{xs:List V}(q:dO K H a xs):dO K H' a xs:=by
  rcases q with (q | ⟨o,q⟩) | q
  · exact .inl (.inl (h _ _ q (fun _ e=>nomatch e) (fun _ _ e=>nomatch e)))
  · exact .inl (.inr ⟨o,h _ _ q (fun _ e=>nomatch e) (fun _ _ e=>nomatch e)⟩)
  · exact .inr q
section
variable{X:Cx}
end
end L2
namespace L2
open PySem PySem.Spec PyProof.Rows
structure aY (K:PySem.W.Frag) (mg:Str→Option Value) (x:Str) (st:Stmt) (f:Addr) (fd:FuncData) (ps:List Str):Prop where
  F:CS K x x st f fd
  m:mg x=some (.ref f)
  b:oj K fd ps []
theorem Be{K:PySem.W.Frag}{mg:Str→Option Value}{h:Heap}{x:Str}{st:Stmt}{f:Addr}{ps:List Str}{oc:Value}{od an:Option Addr}{osl:Array (Option Value)}{kV doc pm cdv ct:Value}(X:K.In h)(G:h.Ns mainGlobals mg)(a:PySem.W.nsIn K mainGlobals x=some (some (.ref f)))
    (l:K.lookup f=some ⟨oc,od,.func (PySem.W.fnOf x x (dt st) (cR st) (am st) .none kV doc pm an cdv ct),osl⟩)(c:PySem.W.codeIn K cdv x=true)(k:PySem.W.keepIn K (.ref f)=true)
    (hb:∀(kV doc pm:Value) (an:Option Addr) (cdv ct:Value) (us:List Value),us.length=ps.length→bindArgs (PySem.W.fnOf x x (dt st) (cR st) (am st) .none kV doc pm an cdv ct) ⟨us,[]⟩=pure (ps.zip us)):
    aY K mg x st f (PySem.W.fnOf x x (dt st) (cR st) (am st) .none kV doc pm an cdv ct) ps:=⟨wo l c k,PySem.W.mg_of X G a,(wo l c k).binds hb⟩
theorem DV{X:Cx}{x:Str}{st:Stmt}{f:Addr}{fd:FuncData}{ps:List Str}{k:Nat}{sp:Sp}{e:Expr}{es:List Expr}{t:TA}{p pos:Pos}(h:aY X.K X.mg x st f fd ps)(G:aC X.prog X.w X.K X.mg X.base bB k f fd ps sp)(hr:cQ k X.A)(ha:PA X (e::es) t)
    (hg:Gl X x:=by rfl)(hdb:(x==("__debug__":Str))=false:=by decide)(he:starEach (e::es) X.env=(false,eval e X.env)::starEach es X.env:=by rfl)(hpl:(backTo pos (starEach es X.env)).any (·.1)=false:=by rfl):
    PE X (.Call (.Name x p) (e::es) [] pos) (ul sp [] E0 t):=zy G hr hg h.m h.F.kp h.b .nil DP ha hdb he hpl
theorem aA.new{H:Hp}{p:Addr}{o:HO}(h:H p=none):aA H (bi H p o):=fun b u e=>by
  rw [aM (dW e h)];exact e
theorem aA.tup{K:PySem.W.Frag}{H H':Hp}{a:Addr}{xs:List V}(e:aA H H')(h:dO K H a xs):dO K H' a xs:=e.ts.tup h
end L2
namespace L2
open PySem PySem.Spec PyProof.Rows
def lowM(t b:Int):Int × Int:=if b < 0 then(t.fdiv (-(Int.gcd t b:Int)),b.fdiv (-(Int.gcd t b:Int))) else(t.fdiv (Int.gcd t b:Int),b.fdiv (Int.gcd t b:Int))
theorem qC(x y:Int):Int.gcd y (x.fmod y)=Int.gcd x y:=by
  rw [Int.fmod_def,Int.gcd_sub_mul_left_right,Int.gcd_comm]
theorem fR(x:Int){y:Int}(h:y≠0):(x.fmod y).natAbs < y.natAbs:=by
  rcases Int.lt_or_gt_of_ne h with h | h
  · have h1:x.fmod y= -((-x).fmod (-y)):=by
      have:=Int.neg_fmod_neg x y
      lia
    have h2:=Int.fmod_nonneg_of_pos (-x) (b:= -y) (by lia)
    have h3:=Int.fmod_lt_of_pos (-x) (b:= -y) (by lia)
    lia
  · have h2:=Int.fmod_nonneg_of_pos x h
    have h3:=Int.fmod_lt_of_pos x h
    lia
theorem pM{t b:Int}(h:b≠0):(0:Int) < Int.gcd t b:=by
  have:=Int.gcd_pos_of_ne_zero_right t h
  lia
theorem gG{t b:Int}(h:b≠0):∃d:Int,d.natAbs=Int.gcd t b∧d≠0∧(lowM t b).1*d=t∧(lowM t b).2*d=b∧0 < (lowM t b).2:=by
  have hg:=pM (t:=t) h
  have d1:(Int.gcd t b:Int) ∣ t:=Int.gcd_dvd_left ..
  have d2:(Int.gcd t b:Int) ∣ b:=Int.gcd_dvd_right ..
  unfold lowM
  split
  · rename_i hb
    have e1:t.fdiv (-(Int.gcd t b:Int))*(-(Int.gcd t b:Int))=t:=Int.fdiv_mul_cancel (Int.neg_dvd.mpr d1)
    have e2:b.fdiv (-(Int.gcd t b:Int))*(-(Int.gcd t b:Int))=b:=Int.fdiv_mul_cancel (Int.neg_dvd.mpr d2)
    refine⟨-(Int.gcd t b:Int),by lia,by lia,e1,e2,?_⟩
    show 0 < b.fdiv (-(Int.gcd t b:Int))
    have h3:b.fdiv (-(Int.gcd t b:Int))*(Int.gcd t b:Int)= -b:=by rw [Int.mul_neg] at e2;lia
    exact Int.pos_of_mul_pos_left (by lia) (by lia) (b:=(Int.gcd t b:Int))
  · rename_i hb
    have e1:t.fdiv (Int.gcd t b:Int)*(Int.gcd t b:Int)=t:=Int.fdiv_mul_cancel d1
    have e2:b.fdiv (Int.gcd t b:Int)*(Int.gcd t b:Int)=b:=Int.fdiv_mul_cancel d2
    refine⟨(Int.gcd t b:Int),by lia,by lia,e1,e2,?_⟩
    show 0 < b.fdiv (Int.gcd t b:Int)
    exact Int.pos_of_mul_pos_left (by lia) (by lia) (b:=(Int.gcd t b:Int))
theorem mW{t b:Int}(h:b≠0):Int.gcd (lowM t b).1 (lowM t b).2=1:=by
  obtain⟨d,h1,h2,h3,h4,h5⟩:=gG (t:=t) h
  have e:Int.gcd ((lowM t b).1*d) ((lowM t b).2*d)=Int.gcd (lowM t b).1 (lowM t b).2*d.natAbs:=Int.gcd_mul_right ..
  rw [h3,h4,←h1] at e
  have hd:0 < d.natAbs:=by lia
  exact(Nat.eq_of_mul_eq_mul_right hd (by rw [Nat.one_mul];exact e)).symm
theorem sC{t b:Int}(h:b≠0):(lowM t b).1*b=(lowM t b).2*t:=by
  obtain⟨d,h1,h2,h3,h4,h5⟩:=gG (t:=t) h
  generalize (lowM t b).1=x at*
  generalize (lowM t b).2=y at*
  subst h3 h4
  rw [←Int.mul_assoc,←Int.mul_assoc,Int.mul_comm x]
theorem jg{x d:Int}(h:d≠0):x.natAbs≤(x*d).natAbs:=by
  rw [Int.natAbs_mul]
  exact Nat.le_mul_of_pos_right _ (by lia)
theorem tV{t b:Int}(h:b≠0){n:Nat}(ht:Bt n t)(hb:Bt n b):Bt n (lowM t b).1∧Bt n (lowM t b).2:=by
  obtain⟨d,h1,h2,h3,h4,h5⟩:=gG (t:=t) h
  refine⟨ht.of_le ?_,hb.of_le ?_⟩
  · conv=>rhs;rw [←h3]
    exact jg h2
  · conv=>rhs;rw [←h4]
    exact jg h2
theorem wH{t b:Int}(h:b≠0){n:Nat}(hb:Bt n b):Bt n (Int.gcd t b:Int):=by
  refine hb.of_le ?_
  have h1:=Nat.le_of_dvd (show 0 < b.natAbs by lia) (Int.ofNat_dvd.mp (by rw [Int.dvd_natAbs];exact Int.gcd_dvd_right t b))
  lia
mutual
def cnt:PyData→Nat
  | .tuple ds=>1+js ds
  | .str _=>0
  | _=>1
def js:List PyData→Nat
  | []=>0
  | d::ds=>cnt d+js ds
end
mutual
def m7:PyData→Bool
  | .tuple ds=>gJ ds
  | .str _=>false
  | .list _=>false
  | .dict _=>false
  | _=>true
def gJ:List PyData→Bool
  | []=>true
  | d::ds=>m7 d&&gJ ds
end
theorem oa{a:Int}(h:a.natAbs.log2 < 1920):(Str.ofString (toString a)).length≤1921:=by
  have e:=int_text_length_le (k:=1920) (by decide) h
  rw [PySem.ofString_length];lia
theorem hR(x:Str)(r:List Str):piled (x::r)=x.length+2+piled r:=by
  simp [piled]
theorem ly(ts:List Str):(tupleText ts).length≤piled ts+3:=by
  unfold tupleText
  rw [strLen_append,strLen_append]
  have h1:(("(":Str)).length=1:=by decide
  have h2:(Str.ofString (if (ts.length==1)=true then ",)" else ")")).length≤2:=by split<;>decide
  have h3:(Str.join ", " ts).length≤piled ts:=by
    cases ts with
    | nil=>show(Str.join ", " []).length≤0;decide
    | cons x r=>have:=join_length_add (x::r) (by simp);lia
  lia
mutual
theorem oU:∀{d:PyData},m7 d=true→d.showable=true→d.shown.length+2≤2000*cnt d
  | .none,_,_=>by show(Str.ofString "None").length+2≤2000*1;decide
  | .bool b,_,_=>by
    cases b
    · show(Str.ofString "False").length+2≤2000*1;decide
    · show(Str.ofString "True").length+2≤2000*1;decide
  | .int i,_,hs=>by
    simp only [PyData.showable,decide_eq_true_eq] at hs
    have:=oa hs
    show(Str.ofString (toString i)).length+2≤2000*1
    lia
  | .tuple ds,hn,hs=>by
    simp only [PyData.showable] at hs
    simp only [m7] at hn
    have h1:=kx hn hs
    have h2:=ly (PyData.shownAll ds)
    simp only [PyData.shown,cnt]
    lia
  | .str _,hn,_=>by simp [m7] at hn
  | .list _,hn,_=>by simp [m7] at hn
  | .dict _,hn,_=>by simp [m7] at hn
theorem kx:∀{ds:List PyData},gJ ds=true→PyData.showableAll ds=true→piled (PyData.shownAll ds)≤2000*js ds
  | [],_,_=>by simp [PyData.shownAll,piled]
  | d::ds,hn,hs=>by
    simp only [gJ,Bool.and_eq_true] at hn
    simp only [PyData.showableAll,Bool.and_eq_true] at hs
    have h1:=oU hn.1 hs.1
    have h2:=kx hn.2 hs.2
    simp only [PyData.shownAll,js,hR]
    lia
end
end L2
namespace L2
open PySem PySem.Spec PyProof.Rows
def iu(env:Env):List (Str × NameKind)→List (Str × Addr)→List (Str × Addr)
  | [],cs=>cs
  | (n,k)::r,cs=>iu env r (if k==.free then(n,(env.cells.lookup n).getD 0)::cs else cs)
theorem jR{env:Env}:∀(names:List (Str × NameKind)) (cs:List (Str × Addr)),(∀y∈names,y.2=.free→∃c,env.cells.lookup y.1=some c)→
    (forIn names cs (fun(x:Str × NameKind) (r:List (Str × Addr))=>(if (x.2==NameKind.free)=true then do let a ←cellOf env x.1;pure (ForInStep.yield ((x.1,a)::r)) else pure (ForInStep.yield r):Sem (ForInStep (List (Str × Addr))))):Sem (List (Str × Addr)))=pure (iu env names cs)
  | [],cs,_=>rfl
  | (n,k)::r,cs,h=>by
    rw [List.forIn_cons]
    have ih:=fun cs'=>jR (env:=env) r cs' (fun y hy=>h y (List.mem_cons_of_mem _ hy))
    by_cases hk:(k==NameKind.free)=true
    · have hk':k=.free:=by simpa using hk
      obtain⟨c,hc⟩:=h (n,k) List.mem_cons_self hk'
      have e:cellOf env n=pure c:=by unfold cellOf;rw [hc]
      simp only [hk,if_true,e,pure_bind,iu,hc,Option.getD_some]
      exact ih _
    · have hk':(k==NameKind.free)=false:=by simpa using hk
      simp only [hk',Bool.false_eq_true,if_false,pure_bind,iu]
      exact ih _
theorem my{scope:Scope}{env:Env}(h:∀y∈scope.names,y.2=.free→∃c,env.cells.lookup y.1=some c):closureFor scope env=pure (iu env scope.names []):=by
  have e:=jR (env:=env) scope.names [] h
  unfold closureFor
  simp only [pure_bind,bind_pure] at e ⊢
  exact e
theorem jr{env:Env}:∀(names:List (Str × NameKind)) (cs:List (Str × Addr)) (x:Str) (c:Addr),(∀y∈names,y.2=.free→∃c,env.cells.lookup y.1=some c)→(∀x c,cs.lookup x=some c→env.cells.lookup x=some c)→(iu env names cs).lookup x=some c→env.cells.lookup x=some c
  | [],cs,x,c,_,hs,h=>hs x c h
  | (n,k)::r,cs,x,c,hn,hs,h=>by
    refine jr r _ x c (fun y hy=>hn y (List.mem_cons_of_mem _ hy)) (fun x' c' e=>?_) h
    by_cases hk:(k==NameKind.free)=true
    · rw [if_pos hk] at e
      obtain⟨c0,hc⟩:=hn (n,k) List.mem_cons_self (by simpa using hk)
      rw [List.lookup_cons] at e
      cases hx:x'==n with
      | true=>
        rw [hx] at e
        have e1:x'=n:=by simpa using hx
        subst e1
        simp only [hc,Option.getD_some,Option.some.injEq] at e
        rw [←e];exact hc
      | false=>rw [hx] at e;exact hs x' c' e
    · rw [if_neg hk] at e
      exact hs x' c' e
theorem mx{env:Env}:∀(names:List (Str × NameKind)) (cs:List (Str × Addr)) (x:Str),((∃y∈names,y.1=x∧y.2=.free)∨∃c,cs.lookup x=some c)→∃c,(iu env names cs).lookup x=some c
  | [],cs,x,h=>by
    rcases h with ⟨y,hy,_⟩ | h
    · cases hy
    · exact h
  | (n,k)::r,cs,x,h=>by
    refine mx r _ x ?_
    by_cases hk:(k==NameKind.free)=true
    · rw [if_pos hk,List.lookup_cons]
      cases hx:x==n with
      | true=>exact .inr ⟨_,rfl⟩
      | false=>
        rcases h with ⟨y,hy,e1,e2⟩ | h
        · rcases List.mem_cons.mp hy with z | z
          · subst z;subst e1;simp at hx
          · exact .inl ⟨y,z,e1,e2⟩
        · exact .inr h
    · rw [if_neg hk]
      rcases h with ⟨y,hy,e1,e2⟩ | h
      · rcases List.mem_cons.mp hy with z | z
        · subst z;exact absurd (by simpa using e2) hk
        · exact .inl ⟨y,z,e1,e2⟩
      · exact .inr h
theorem dB{env:Env}:∀{names:List (Str × NameKind)} {x:Str},(∀y∈names,y.2≠.cell)→(names.map fun(n,k)=>if (k==NameKind.free&&env.scope.kind==.function&&env.kindOf n==some .cell) then(n,NameKind.cell) else(n,k)).lookup x=some .cell∨
    (names.map fun(n,k)=>if (k==NameKind.free&&env.scope.kind==.function&&env.kindOf n==some .cell) then(n,NameKind.cell) else(n,k)).lookup x=some .free→∃y∈names,y.1=x∧y.2=.free
  | [],x,_,h=>by simp at h
  | (n,k)::r,x,hc,h=>by
    have ih:=@dB env r x (fun y hy=>hc y (List.mem_cons_of_mem _ hy))
    have nc:k≠.cell:=hc (n,k) List.mem_cons_self
    rw [List.map_cons] at h
    cases hx:x==n with
    | true=>
      have e1:x=n:=by simpa using hx
      subst e1
      refine⟨(x,k),List.mem_cons_self,rfl,?_⟩
      by_cases q:(k==NameKind.free&&env.scope.kind==.function&&env.kindOf x==some .cell)=true
      · simp only [Bool.and_eq_true,beq_iff_eq] at q;exact q.1.1
      · simp only [q,Bool.false_eq_true,if_false,List.lookup_cons,beq_self_eq_true,Option.some.injEq] at h
        rcases h with h | h
        · exact absurd h nc
        · exact h
    | false=>
      have e2:∀(l:List (Str × NameKind)),((if (k==NameKind.free&&env.scope.kind==.function&&env.kindOf n==some .cell)=true then(n,NameKind.cell) else(n,k))::l).lookup x=l.lookup x:=fun l=>by
        split<;>simp [List.lookup_cons,hx]
      simp only [e2] at h
      obtain⟨y,hy,z⟩:=ih h
      exact⟨y,List.mem_cons_of_mem _ hy,z⟩
theorem eB{env:Env}:∀{names:List (Str × NameKind)} {x:Str},names.lookup x=some .free→
    (names.map fun(n,k)=>if (k==NameKind.free&&env.scope.kind==.function&&env.kindOf n==some .cell) then(n,NameKind.cell) else(n,k)).lookup x≠some .local
  | [],x,h=>by simp at h
  | (n,k)::r,x,h=>by
    rw [List.map_cons]
    cases hx:x==n with
    | true=>
      simp only [hx,List.lookup_cons] at h
      cases h
      show List.lookup x ((if (NameKind.free==NameKind.free&&env.scope.kind==.function&&env.kindOf n==some .cell)=true then(n,NameKind.cell) else(n,NameKind.free))::_)≠_
      split<;>simp [List.lookup_cons,hx]
    | false=>
      simp only [hx,List.lookup_cons] at h
      have ih:=@eB env r x h
      have e2:∀(l:List (Str × NameKind)),((if (k==NameKind.free&&env.scope.kind==.function&&env.kindOf n==some .cell)=true then(n,NameKind.cell) else(n,k))::l).lookup x=l.lookup x:=fun l=>by
        split<;>simp [List.lookup_cons,hx]
      simp only [e2]
      exact ih
def aV(X:Cx)(scope:Scope)(cp:List (Nat × Str))(tgN:List Str)(C:Addr)(s0:Shared)(H0:Hp)(fp:List Addr):Cx where
  prog:=X.prog
  w:=X.w
  K:=X.K
  mg:=X.mg
  base:=X.base
  A:=X.A
  N:=cp.map (·.2)++tgN
  s₀:=s0
  H₀:=H0
  env:=compEnvC scope (iu X.env scope.names []) C X.env
  outer:=X.stack
  stack:=X.stack
  ex:=fp
  fn:=fun x=>scope.names.lookup x==some .local
  calm:=X.calm
  pn:=[]
  xe:=fun _ _=>False
def vB(X:Cx)(ifs:List Expr)(t:TT):Prop:=
  ∀(pins:List (Addr × Obj)) (s:Shared) (σ:L2.St) (H:Hp) (Q:Bool→Hp→Prop),aF X pins σ H s→t σ H Q→
    wpAny (model X.prog X.w) X.A (forIn ifs true fun c r=>if r=true then do let ok ←isTrue c X.env (eval c X.env);pure (ForInStep.yield ok) else pure (ForInStep.yield r)) (TP X pins σ Q) X.xe s
theorem zS{X:Cx}:vB X [] (fun _ H Q=>Q true H):=fun _ _ _ H _ I h=>wpAny_tests_nil ⟨H,I,h⟩
theorem zT{X:Cx}{c:Expr}{t:TT}(h:PT X c t):vB X [c] t:=fun pins s σ H Q I q=>wpAny_tests_one (h pins s σ H Q I q)
abbrev CW:Value→Shared→Prop:=fun _ _=>False
def A9(prog:Program)(w:World)(A:Around)(elt tg:Expr)(ifs:List Expr)(env:Env)(it acc:Value)(onward:Shared→Prop)(v:Value)(u:Shared):Prop:=
  wpAny (model prog w) A (letOwnedTupleGo tg it v) (fun _ u1=>wpAny (model prog w) A (assign tg env v) (fun _ u2=>wpAny (model prog w) A
    (forIn ifs true fun c r=>if r=true then do let ok ←isTrue c env (eval c env);pure (ForInStep.yield ok) else pure (ForInStep.yield r)) (fun ok u3=>if ok=true then wpAny (model prog w) A (eval elt env) (fun x u4=>wpAny (model prog w) A (call (.builtin "list.append") [acc,x]) (fun _ u5=>onward u5) CW u4) CW u3 else onward u3) CW u2) CW u1) CW u
theorem jS{prog:Program}{w:World}{A:Around}{R:Result→Shared→Prop}{elt tg iter:Expr}{ifs:List Expr}{scope:Scope}{pos:Pos}{it acc:Value}{env:Env}(J:Nat→Shared→Prop)
    (turn:∀n u,J n u→wpAny (model prog w) A (pyNext it) (fun r u1=>(r=none→R (.ok .next) u1)∧∀v,r=some v→A9 prog w A elt tg ifs env it acc (fun u2=>∃m,m < n∧J m u2) v u1) CW u){n0:Nat}{u0:Shared}(iq:J n0 u0):
    codeAny (model prog w) A (.compLoop (.ListComp elt [⟨tg,iter,ifs,0⟩] scope pos) 0 it acc env) R u0:=by
  refine codeAny_loop rfl J (fun n u ju=>?_) n0 iq
  show wpAny _ A ((compTurn (.ListComp elt [⟨tg,iter,ifs,0⟩] scope pos) 0 it acc env).onRaise _) _ _ u;refine wpAny_noted ?_;rw [compTurn_list]
  refine wpAny_bind (wpAny_standAt (wpAny_bind (wpAny_mono (turn n u ju) (fun r u1 k1=>?_) fun _ _ z=>z.elim)))
  cases r with
  | none=>exact wpAny_pure (k1.1 rfl)
  | some v=>
    refine wpAny_bind (wpAny_mono (k1.2 v rfl) (fun _ u2 k2=>wpAny_bind (wpAny_mono k2 (fun _ u3 k3=>wpAny_bind (wpAny_mono k3 (fun ok u4 k4=>?_) fun _ _ z=>z.elim)) fun _ _ z=>z.elim)) fun _ _ z=>z.elim)
    cases ok with
    | false=>rw [if_neg Bool.false_ne_true] at k4;exact wpAny_pure ⟨rfl,k4⟩
    | true=>
      rw [if_pos rfl] at k4
      refine wpAny_bind (wpAny_bind (wpAny_mono k4 (fun x u5 k5=>wpAny_bind (wpAny_mono k5 (fun _ u6 k6=>?_) fun _ _ z=>z.elim)) fun _ _ z=>z.elim));exact wpAny_pure (wpAny_pure ⟨rfl,k6⟩)
def gO(cp:List (Nat × Str))(nT:Nat)(σ:L2.St):L2.St:=cp.map (fun p=>(σ[p.1]?).join)++List.replicate nT none
structure um (cp:List (Nat × Str)) (nT:Nat) (wi:TI) (g:TG) (tc:TT) (te:TE) (σ:L2.St) (H:Hp) (Q:VK):Prop where
  go:wi σ H fun J H1=>∀l,H1 l=none→
  ∃W:Nat→Nat→L2.St→Hp→Prop,(∃m,W 0 m (gO cp nT σ) (bi H1 l (.lst [])))∧∀i m σ' H',W i m σ' H'→
    (J.stop i H'∧Q (.ref l) H')∨(J.go i H'∧∃N:L2.St→Hp→Prop,(∀σ2 H2,N σ2 H2→∃m',m' < m∧W (i+1) m' σ2 H2)∧
      ∀x H2,J.yld i H' x H2→g x σ' H2 fun σ2 H3=>tc σ2 H3 fun b H4=>if b=true then te σ2 H4 fun v H5=>∃ys,H5 l=some (.lst ys)∧ys.length < sizeLine∧N σ2 (bi H5 l (.lst (ys++[v]))) else N σ2 H4)
theorem zA{X:Cx}{elt iter tg:Expr}{ifs:List Expr}{scope:Scope}{pos:Pos}{wi:TI}{g:TG}{tc:TT}{te:TE}(sc0:Scope)(N0:List Str)(cp:List (Nat × Str))(tgN:List Str)
    (hc:X.calm=true)(hsc:X.env.scope=sc0)(hN0:X.N=N0)(hi:PI X tg iter wi)
    (hg:∀C s0 H0 fp,PG (aV X scope cp tgN C s0 H0 fp) tg g)
    (ht:∀C s0 H0 fp,vB (aV X scope cp tgN C s0 H0 fp) ifs tc)
    (he:∀C s0 H0 fp,PE (aV X scope cp tgN C s0 H0 fp) elt te)
    (hk:scope.kind=.function)(hcell:∀y∈scope.names,y.2≠.cell)(hnames:∀y∈scope.names,y.2=.local→scope.names.lookup y.1=some .local)
    (hfr:∀y∈scope.names,y.2=.free→scope.names.lookup y.1=some .free∧sc0.names.lookup y.1=some .cell)
    (hcp:∀p∈cp,N0[p.1]?=some p.2)(hcq:∀p∈cp,sc0.names.lookup p.2=some .cell∧scope.names.lookup p.2=some .free)
    (hs:∀x,foldedSetIterable iter X.env x=pure x:=by intro _;rfl):
    PE X (.ListComp elt [⟨tg,iter,ifs,0⟩] scope pos) (um cp tgN.length wi g tc te):=by
  intro pins s σ H Q I h
  have hkind:∀x,X.env.kindOf x=sc0.names.lookup x:=fun x=>by unfold Env.kindOf;rw [hsc]
  have hfree:∀y∈scope.names,y.2=.free→∃c,X.env.cells.lookup y.1=some c:=fun y hy e=>I.ok.has y.1 (.inl (by rw [hkind];exact(hfr y hy e).2))
  rw [eval_ListComp]
  refine wpAny_comprehension_free (use:=none) rfl hs (my hfree) hk hnames (wpAny_mono (hi pins s σ H _ I h.go) (fun xv s₁ h₁=>wpAny_mono h₁ (fun itv s₂ h₂=>?_) fun _ _ e=>e) fun _ _ e=>e)
  obtain⟨it,fp,tn,J,H2,rfl,I2,T,st2,f2,hq⟩:=h₂
  refine wpAny_newObj_type ?_
  have hlF:H2 s₂.heap.objs.size=none:=I2.hok.fresh (Nat.le_refl _)
  have I3:aF X pins σ (bi H2 s₂.heap.objs.size (.lst [])) {s₂ with heap:=s₂.heap.push {cls:=.type "list",data:=.seq ([]:List Value).toArray}}:=I2.lnew (t':=s₂.toks) .nil (Nat.zero_le _)
  obtain⟨W,⟨m0,w0⟩,turn⟩:=hq _ hlF
  have f3:∀b∈fp,i_ X pins (bi H2 s₂.heap.objs.size (.lst [])) b:=fun b hb=>by
    obtain⟨f0,fr⟩:=f2 b hb
    obtain⟨o,ho,_⟩:=T.obj _ _ st2 b hb
    exact⟨by rw [aM (Nat.ne_of_lt (Heap.lt_size ho))];exact f0,fr⟩
  have st3:tn 0 (s₂.heap.push {cls:=.type "list",data:=.seq ([]:List Value).toArray}):=T.keep _ _ _ st2 fun b _ o e=>Heap.get?_push_of_some _ e
  generalize hD:s₂.heap.objs.size=D at*
  generalize hs3:({s₂ with heap:=s₂.heap.push {cls:=.type "list",data:=.seq ([]:List Value).toArray}}:Shared)=s₃ at*
  have hst3:tn 0 s₃.heap:=by rw [←hs3];exact st3
  refine wpAny_newFunctionEnv hcell (by intro y hy;simp at hy) (fun h₁ hns₁ hsb₁=>?_) hk
  generalize hC:s₃.heap.objs.size=C at*
  have old:∀b o,s₃.heap.get? b=some o→h₁.get? b=some o:=fun b o e=>hsb₁.extBut b o (by rw [←hC];exact Nat.ne_of_lt (Heap.lt_size e)) (Heap.get?_push_of_some _ e)
  have nC:∀b o,s₃.heap.get? b=some o→b≠C:=fun b o e=>by rw [←hC];exact Nat.ne_of_lt (Heap.lt_size e)
  have hHC:(bi H2 D (.lst [])) C=none:=I3.hok.fresh (by rw [hC];exact Nat.le_refl _)
  have clS:∀x c,(iu X.env scope.names []).lookup x=some c→X.env.cells.lookup x=some c:=fun x c e=>jr _ _ x c hfree (fun _ _ z=>by simp at z) e
  have clH:∀x,(∃y∈scope.names,y.1=x∧y.2=.free)→∃c,(iu X.env scope.names []).lookup x=some c:=fun x e=>mx _ _ x (.inl e)
  have ok':(aV X scope cp tgN C s₃ (bi H2 D (.lst [])) fp).Ok:=by
    refine⟨I.ok.mod,hk,I.ok.glob,I.ok.blt,by rw [←hC];exact Nat.le_refl _,fun x y c e1 e2=>I.ok.inj x y c (clS _ _ e1) (clS _ _ e2),fun x e=>clH x (dB hcell e),fun x c e1 e2=>?_,I.ok.hd,I.ok.frames,.inl rfl,fun b hb=>?_,fun b o e=>I3.bs b o e,?_,fun b o e hb=>?_,fun b hb z=>?_,I3.stack,fun b hb=>I3.stkFree b hb⟩
    · exfalso
      have e1':scope.names.lookup x=some .local:=by simpa [aV] using e1
      have e2':=clS x c e2
      obtain⟨c',hc'⟩:∃y∈scope.names,y.1=x∧y.2=.free:=by
        by_cases q:∃y∈scope.names,y.1=x∧y.2=.free
        · exact q
        · exfalso
          have:∀(names:List (Str × NameKind)) (cs:List (Str × Addr)),(¬∃y∈names,y.1=x∧y.2=.free)→cs.lookup x=none→(iu X.env names cs).lookup x=none:=by
            intro names
            induction names with
            | nil=>intro cs _ h;exact h
            | cons y r ih=>
              intro cs hn hcs
              obtain⟨n,k⟩:=y
              refine ih _ (fun⟨y,hy,z⟩=>hn ⟨y,List.mem_cons_of_mem _ hy,z⟩) ?_
              by_cases hk:(k==NameKind.free)=true
              · rw [if_pos hk,List.lookup_cons]
                cases hx:x==n with
                | true=>exact absurd ⟨(n,k),List.mem_cons_self,(by simpa using hx:x=n).symm,by simpa using hk⟩ hn
                | false=>exact hcs
              · rw [if_neg hk];exact hcs
          have z:=this scope.names [] q rfl
          have e2'':(iu X.env scope.names []).lookup x=some c:=e2
          rw [z] at e2'';cases e2''
      have z:=(hfr c' hc'.1 hc'.2.2).1
      rw [hc'.2.1,e1'] at z;cases z
    · obtain⟨f0,f1,f4,f5,f6,f7⟩:=f3 b hb
      obtain⟨o,ho,_⟩:=T.obj _ _ hst3 b hb
      exact⟨nC b o ho,fun x c e=>f6 x c (clS x c e)⟩
    · exact Nat.le_trans I.ok.bsz I3.sz
    · obtain⟨f0,f1,f4,f5,f6,f7⟩:=f3 b hb
      rcases f5 with z | z
      · exact I.ok.noex b o e z
      · have:=(I.ok.bs b o e).1
        exact absurd (Nat.lt_of_lt_of_le (Heap.lt_size this) z) (Nat.lt_irrefl _)
    · obtain⟨f0,f1,f4,f5,f6,f7⟩:=f3 b hb
      rcases List.mem_cons.mp (I3.stkSub b z) with z | z
      · exact f1 z
      · exact f4 z
  have I4:aF (aV X scope cp tgN C s₃ (bi H2 D (.lst [])) fp) [] (gO cp tgN.length σ) (bi H2 D (.lst [])) {s₃ with heap:=h₁,toks:=s₃.toks+([]:List (Str × Value)).length}:=by
    refine⟨ok',rfl,I3.bare,Un.kept old,⟨_,hns₁,fun i x v e1 e2 e3=>?_⟩,fun x c e=>?_,hHC,fun x c e=>I3.freeC x c (clS x c e),fun p hp=>by simp [aV] at hp,I3.hok.kept old,by simp [gO,aV]⟩
    · have hlt:i < cp.length:=by
        by_cases q:i < cp.length
        · exact q
        · exfalso
          unfold gO at e2
          rw [List.getElem?_append_right (by simp;lia)] at e2
          rw [List.getElem?_replicate] at e2
          split at e2<;>cases e2
      have e1':(cp.map (·.2))[i]?=some x:=by
        have e1'':(cp.map (·.2)++tgN)[i]?=some x:=e1
        rwa [List.getElem?_append_left (by simp;exact hlt)] at e1''
      have e2':(cp.map (fun p=>(σ[p.1]?).join))[i]?=some (some v):=by
        unfold gO at e2
        rwa [List.getElem?_append_left (by simp;exact hlt)] at e2
      rw [List.getElem?_map,List.getElem?_eq_getElem hlt] at e1' e2'
      have ex:(cp[i]).2=x:=by simpa using e1'
      have ev:(σ[(cp[i]).1]?).join=some v:=by simpa using e2'
      have ev':σ[(cp[i]).1]?=some (some v):=by
        cases q:σ[(cp[i]).1]? with
        | none=>rw [q] at ev;cases ev
        | some z=>rw [q] at ev;simp only [Option.join_some] at ev;rw [ev]
      have hN:=hcp cp[i] (List.getElem_mem hlt)
      rw [←hN0] at hN
      obtain⟨hcl,hcf⟩:=hcq cp[i] (List.getElem_mem hlt)
      rw [ex] at hN hcl hcf
      obtain⟨m,hn,hl⟩:=I3.loc
      obtain⟨u,r,l⟩:=hl _ x v hN ev' (.inr (.inl (by rw [hsc];exact hcl)))
      refine⟨u,r,.inr ?_⟩
      rcases l with ⟨k1,_⟩ | ⟨k1,c,hcc,o,ho,hd⟩
      · rw [hkind,hcl] at k1;cases k1
      · have e3':(relabel scope X.env).names.lookup x=some .local∨(relabel scope X.env).names.lookup x=some .cell∨(relabel scope X.env).names.lookup x=some .free:=e3
        have nl:(relabel scope X.env).names.lookup x=some .cell∨(relabel scope X.env).names.lookup x=some .free:=by
          rcases e3' with z | z | z
          · exact absurd z (eB hcf)
          · exact .inl z
          · exact .inr z
        obtain⟨c',hc'⟩:=clH x (dB hcell nl)
        have:=clS x c' hc'
        rw [hcc] at this;cases this
        exact⟨nl,c,hc',o,old c o ho,hd⟩
    · obtain⟨v,o,ho,hd⟩:=I3.cell x c (clS x c e)
      exact⟨v,o,old c o ho,hd⟩
  have hst4:tn 0 h₁:=T.keep _ _ _ hst3 fun b _ o e=>old b o e
  have loop:codeAny (model X.prog X.w) X.A (.compLoop (.ListComp elt [⟨tg,iter,ifs,0⟩] scope pos) 0 (.ref it) (.ref D) (compEnvC scope (iu X.env scope.names []) C X.env))
      (compPost (model X.prog X.w) X.A X.xe none (EP X pins σ Q) (.ref D) C) {s₃ with heap:=h₁,toks:=s₃.toks+([]:List (Str × Value)).length}:=by
    refine jS (fun n s'=>∃i σ' H',aF (aV X scope cp tgN C s₃ (bi H2 D (.lst [])) fp) [] σ' H' s'∧tn i s'.heap∧(∀b∈fp,H' b=none)∧W i n σ' H') ?_ (n0:=m0) ⟨0,_,_,I4,hst4,fun b hb=>(f3 b hb).1,w0⟩
    rintro n s5 ⟨i,σ5,H5,I5,st5,fr5,w5⟩
    have stat:∀{H':Hp},(∀b∈fp,H' b=none)→∀b∈fp,i_ (aV X scope cp tgN C s₃ (bi H2 D (.lst [])) fp) [] H' b:=fun hn b hb=>
      ⟨hn b hb,(ok'.exf b hb).1,ok'.exfs b hb,.inl hb,(ok'.exf b hb).2,fun p hp=>by simp [aV] at hp⟩
    rcases turn i n σ5 H5 w5 with ⟨stop,qn⟩ | ⟨go,N,hN,step⟩
    · refine cP (T.done (aV X scope cp tgN C s₃ (bi H2 D (.lst [])) fp) rfl rfl rfl hc i [] s5 σ5 H5 (fun _ _=>False) I5 (stat fr5) st5 stop) fun r s6 ⟨hr,I6⟩=>?_
      subst hr
      refine⟨fun _=>?_,fun v z=>by cases z⟩
      obtain⟨m,hn,_⟩:=I6.loc
      refine⟨m,hn,fun h' sb=>⟨.ref D,H5,?_,rfl,qn⟩⟩
      have ub:=I6.base
      have kp:∀b u,b≠C→s6.heap.get? b=some u→h'.get? b=some u:=fun b u ne e=>sb.extBut b u ne e
      have nit:∀b u,H5 b=some u→b≠C:=fun b u e z=>by
        have:=I6.free
        rw [z] at e
        rw [show H5 C=none from this] at e;cases e
      refine I3.call' (s':={s6 with heap:=h'}) (ch:=fp) I6.os ⟨fun b o e n hb hx=>kp b o (nC b o e) (ub.keep b o e n hb hx),fun b o e n hb hx=>?_,ub.free,fun b o e hx=>?_,ub.tups,ub.frzs,ub.tbls⟩ (fun b u e=>?_) I6.bare (fun b hb=>?_)
      · obtain⟨sl,q⟩:=ub.slot b o e n hb hx
        exact⟨sl,kp b _ (nC b o e) q⟩
      · obtain⟨o',q⟩:=ub.there b o e hx
        exact⟨o',kp b _ (nC b o e) q⟩
      · refine(I6.hok b u e).stay (fun c v hc q=>kp c v ?_ q) (fun _ q=>q) fun _ _ q=>q
        rcases hc with z | z
        · rw [z];exact nit b u e
        · exact nit c _ z
      · obtain⟨f0,f1,f4,f5,f6,f7⟩:=f3 b hb
        exact⟨f5,f1,f6,f7⟩
    · refine cP (T.item (aV X scope cp tgN C s₃ (bi H2 D (.lst [])) fp) rfl rfl rfl hc i [] s5 σ5 H5 (fun _ _=>False) I5 (stat fr5) st5 go) fun r s6 ⟨u,hr,h6⟩=>?_
      subst hr
      refine⟨fun z=>(by cases z),fun v z=>?_⟩
      cases z
      refine cP h6 fun _ s7 ⟨x,H7,I7,r7,y7,st7,fr7⟩=>?_
      have I7':=I7.pinned (stat fr7) (T.obj _ _ st7)
      have again:∀{σ8:L2.St} {H8:Hp} {s8:Shared},aF (aV X scope cp tgN C s₃ (bi H2 D (.lst [])) fp) ([]++k_ fp s7.heap) σ8 H8 s8→N σ8 H8→∃m,m < n∧∃i σ' H',aF (aV X scope cp tgN C s₃ (bi H2 D (.lst [])) fp) [] σ' H' s8∧tn i s8.heap∧(∀b∈fp,H' b=none)∧W i m σ' H':=fun{σ8 H8 s8} I8 n8=>by
        obtain⟨m',hm,w8⟩:=hN σ8 H8 n8
        refine⟨m',hm,i+1,σ8,H8,I8.unpinned,T.keep _ _ _ st7 fun b hb o e=>(I8.pin (b,o) (List.mem_append_right _ (List.mem_append_right _ (dU hb e)))).1,fun b hb=>?_,w8⟩
        obtain⟨o,e,d⟩:=T.obj _ _ st7 b hb
        exact(I8.pin (b,o) (List.mem_append_right _ (List.mem_append_right _ (dU hb e)))).2.1
      refine cP (hg C s₃ (bi H2 D (.lst [])) fp _ s7 σ5 H7 x u _ I7' r7 (step x H7 y7)) fun _ s8 ⟨σ8,H8,I8,q8⟩=>?_
      refine cP (ht C s₃ (bi H2 D (.lst [])) fp _ s8 σ8 H8 _ I8 q8) fun ok s9 ⟨H9,I9,q9⟩=>?_
      cases ok with
      | false=>
        rw [if_neg Bool.false_ne_true] at q9 ⊢
        exact again I9 q9
      | true=>
        rw [if_pos rfl] at q9 ⊢
        refine cP (he C s₃ (bi H2 D (.lst [])) fp _ s9 σ8 H9 _ I9 q9) fun v s10 ⟨xv,H10,I10,r10,ys,hl,hz,n10⟩=>?_
        refine cP (k8 _ s10 σ8 H10 (.ref D) [xv] (.ref D) [v] (fun _ H=>N σ8 H) I10 rfl (.cons r10 .nil) ⟨D,ys,xv,rfl,rfl,hl,hz,n10⟩) fun _ s11 ⟨_,H11,I11,_,q11⟩=>?_
        exact again I11 q11
  exact codeAny_compStart_list loop (T.self X.A 0 _ _ _ hst4 loop)
end L2
namespace L2
open PySem PySem.Spec PyProof.Rows
section
variable{X:Cx}
def xW(K:PySem.W.Frag):R2:=fun x y H Q=>∃a b xs ys,x=.ref a∧y=.ref b∧dO K H a xs∧dO K H b ys∧xs.length+ys.length≤sizeLine∧∀p H',aA H H'→dO K H' p (xs++ys)→Q (.ref p) H'
theorem zo:gu X (binaryOp .Add) (xW X.K):=by
  intro pins s σ H x y v u Q I rx ry h
  obtain⟨a,b,xs,ys,rfl,rfl,ha,hb,hz,q⟩:=h
  cases rx;cases ry
  by_cases hx:xs=[]
  · obtain⟨i1,r1,p1,_⟩:=I.tuple ha
    obtain⟨i2,r2,p2,_⟩:=I.tuple hb
    obtain⟨m,F⟩:=I.fr
    have e1:i1=[]:=by subst hx;cases r1;rfl
    refine add_tuples F (wX (g:=X.base)) p1 p2 (fun _=>?_) (fun z1 _=>absurd e1 z1) (fun z1 _ _ _ _=>absurd e1 z1) (by rw [←r1.length,←r2.length];exact hz)
    exact⟨.ref b,H,I,rfl,q b H (aA.refl H) (by rw [hx];exact hb)⟩
  · exact zp pins s σ H (.ref a) (.ref b) _ _ Q I rfl rfl ⟨a,b,xs,ys,rfl,rfl,ha,hb,hx,hz,fun z=>q a H (aA.refl H) (by rw [z,List.append_nil];exact ha),fun _ p hp=>q p _ (aA.new hp) (dO.of aG)⟩
theorem nj{x:V}{us:List Value}(r:aQ [x] us):∃u,us=[u]∧bu x u:=by
  cases r with
  | cons p p'=>cases p';exact⟨_,rfl,p⟩
end
end L2
namespace L2
open PySem PySem.Spec PyProof.Rows
section
variable{X:Cx}
end
theorem vp{e:Expr}{es:List Expr}{env:Env}(h:PySem.W.isStarred e=false):starEach (e::es) env=(false,eval e env)::starEach es env:=by
  cases e<;>first | rfl | cases h
theorem BN{X:Cx}{e:Expr}{es:List Expr}{te:TE}{t:TA}(ha:PE X e te)(hr:PA X es t)(h:PySem.W.isStarred e=false:=by rfl):PA X (e::es) (nS te t):=pX ha hr (vp h)
def uq:List (Int × Int)→TA
  | []=>Cs
  | p::r=>nS (Ct (nS (tC (.int p.1)) (nS (tC (.int p.2)) Cs))) (uq r)
@[irreducible] def FH(ps:List (Int × Int)):TA:=uq ps
structure iA where
  one:Int
  other:Int
  top:Int
  bot:Int
  worth:Int
structure bz where
  things:Int
  ties:List iA
  pat:List Int
  asks:Int
structure iA.Ok (n:Int) (t:iA):Prop where
  o0:0≤t.one
  o1:t.one < t.other
  o2:t.other < n
  c0:0≤t.top
  c1:t.top≤t.bot
  b0:1≤t.bot
  b1:t.bot≤100
  w0:0≤t.worth
  w1:t.worth≤1000
  cop:Int.gcd t.top t.bot=1
structure bz.Ok (w:bz):Prop where
  t0:0≤w.things
  t1:w.things≤12
  ties:∀t∈w.ties,t.Ok w.things
  len:w.ties.length≤16
  pl:(w.pat.length:Int)=w.things
  pat:∀p∈w.pat,0≤p∧p≤20
  a0:0≤w.asks
  a1:w.asks≤40
def C5(K:PySem.W.Frag)(H:Hp)(v:V)(t:iA):Prop:=∃p q,v=.ref p∧dO K H p [.int t.one,.int t.other,.ref q,.int t.worth]∧dO K H q [.int t.top,.int t.bot]
inductive pe (K:PySem.W.Frag) (H:Hp):List V→List iA→Prop
  | nil:pe K H [] []
  | cons {v vs t ts}:C5 K H v t→pe K H vs ts→pe K H (v::vs) (t::ts)
structure F8 (K:PySem.W.Frag) (H:Hp) (v:V) (w:bz):Prop where
  ex:∃a b c ts,v=.ref a∧dO K H a [.int w.things,.ref b,.ref c,.int w.asks]∧dO K H b ts∧pe K H ts w.ties∧dO K H c (w.pat.map V.int)
section
variable{K:PySem.W.Frag}{H H':Hp}
end
theorem sD{t b:Int}(hb:0 < b)(h0:0≤t)(h1:t≤b)(h2:b≤100):0≤(lowM t b).1∧(lowM t b).1≤(lowM t b).2∧1≤(lowM t b).2∧(lowM t b).2≤100:=by
  obtain⟨d,e1,e2,e3,e4,e5⟩:=gG (t:=t) (b:=b) (by lia)
  generalize (lowM t b).1=x at*
  generalize (lowM t b).2=y at*
  have dp:0 < d:=by
    rcases Int.lt_or_gt_of_ne e2 with z | z
    · exfalso
      have:y*d < 0:=Int.mul_neg_of_pos_of_neg e5 z
      lia
    · exact z
  have x0:0≤x:=by
    rcases Int.lt_or_le x 0 with z | z
    · have:x*d < 0:=Int.mul_neg_of_neg_of_pos z dp
      lia
    · exact z
  have xy:x≤y:=by
    rcases Int.lt_or_le y x with z | z
    · have:y*d < x*d:=Int.mul_lt_mul_of_pos_right z dp
      lia
    · exact z
  have yb:y≤y*d:=by
    have:=Int.mul_le_mul_of_nonneg_left (show(1:Int)≤d by lia) (show 0≤y by lia)
    lia
  exact⟨x0,xy,by lia,by lia⟩
end L2
namespace L2
open PySem PySem.Spec PyProof.Rows
inductive lO {α β:Type} (R:α→β→Prop):List α→List β→Prop
  | nil:lO R [] []
  | cons {a b as bs}:R a b→lO R as bs→lO R (a::as) (b::bs)
namespace lO
variable{α β:Type}{R S:α→β→Prop}
theorem mono(h:∀a b,R a b→S a b):∀{as:List α} {bs:List β},lO R as bs→lO S as bs
  | _,_,.nil=>.nil
  | _,_,.cons x r=>.cons (h _ _ x) (mono h r)
theorem len:∀{as:List α} {bs:List β},lO R as bs→as.length=bs.length
  | _,_,.nil=>rfl
  | _,_,.cons _ r=>by simp [len r]
theorem snoc{a:α}{b:β}(h:R a b):∀{as:List α} {bs:List β},lO R as bs→lO R (as++[a]) (bs++[b])
  | _,_,.nil=>.cons h .nil
  | _,_,.cons x r=>.cons x (snoc h r)
theorem get:∀{as:List α} {bs:List β} {i:Nat} {b:β},lO R as bs→bs[i]?=some b→∃a,as[i]?=some a∧R a b
  | _,_,_,_,.nil,e=>by simp at e
  | _,_,0,_,.cons x _,e=>by simp at e;subst e;exact⟨_,rfl,x⟩
  | _,_,i+1,b,.cons _ r,e=>by
    obtain⟨v,h1,h2⟩:=get (i:=i) (b:=b) r (by simpa using e)
    exact⟨v,by simpa using h1,h2⟩
end lO
section
variable{K:PySem.W.Frag}{a l:Addr}{xs:List V}{g:TG}{tc:TT}{te:TE}{Q:VK}{σ:L2.St}{H:Hp}{α β:Type}{us:List α}{cp:List (Nat × Str)}{nT:Nat}
def EN(bf:Hp→V→β→Prop)(SI:L2.St→Prop)(us:List α)(f:α→Option β)(H:Hp)(l:Addr)(i:Nat)(σ:L2.St)(H':Hp):Prop:=SI σ∧aA H H'∧∃vs,H' l=some (.lst vs)∧vs.length≤i∧lO (bf H') vs ((us.take i).filterMap f)
end
def rp(ns:List Int):List Int:=ns.mergeSort
theorem nP(ns:List Int):(rp ns).Perm ns:=List.mergeSort_perm ns _
theorem CZ{ns:List Int}{x:Int}:x∈rp ns↔ x∈ns:=(nP ns).mem_iff
theorem CY(ns:List Int):(rp ns).length=ns.length:=(nP ns).length_eq
section
variable{X:Cx}{K:PySem.W.Frag}{pos:Pos}
theorem zE{es:List Expr}{k:Nat}{t:yv}{n:Nat}(hK:X.K=K)(hc:X.calm=true)(h:vw X es t)(hn:(assignEach es X.env).length=n:=by rfl)(hst:(assignEach es X.env).findIdx? (·.1)=none:=by rfl):PG X (.Tuple es k pos) (sr K n t):=hK ▸ BX hc h hn hst
theorem zH{tg l:Expr}{tl:TE}(h:X.K=K)(hl:PE X l tl):PI X tg l (Dq K tl):=h ▸ BY hl
theorem xC{tg l:Expr}{tl:TE}(h:X.K=K)(hl:PE X l tl):PI X tg l (Az K tl):=h ▸ zG hl
end
instance:Inhabited iA:=⟨⟨0,1,1,1,0⟩⟩
def bz.tie(W:bz)(k:Int):iA:=W.ties.getD k.toNat default
def bz.has(W:bz)(k thing:Int):Bool:=(W.tie k).one==thing || (W.tie k).other==thing
def bz.many(W:bz)(asked:List Int)(thing:Int):Int:=((asked.filter fun k=>W.has k thing).length:Nat)
def bz.bears(W:bz)(asked taken:List Int)(thing:Int):Bool:= !taken.contains thing&&decide (W.many asked thing < W.pat.getD thing.toNat 0)
def bz.may(W:bz)(asked taken:List Int)(k:Int):Bool:= !(asked.contains k || decide (W.asks≤(asked.length:Int)))&&(W.bears asked taken (W.tie k).one&&W.bears asked taken (W.tie k).other)
def bz.askd(asked:List Int)(k:Int):List Int:=rp (asked++[k])
def bz.took(W:bz)(taken:List Int)(k:Int)(truth:Bool):List Int:=if truth then rp (taken++[(W.tie k).one,(W.tie k).other]) else taken
def bz.rng(W:bz):List Int:=(List.range W.ties.length).map Int.ofNat
def rM(W:bz)(k:Int):Prop:=0≤k∧k < (W.ties.length:Int)
theorem rM.get{W:bz}{k:Int}(h:rM W k):W.ties[k.toNat]?=some (W.tie k):=by
  have hk:k.toNat < W.ties.length:=by have:=h.1;have:=h.2;lia
  unfold bz.tie
  rw [List.getD_eq_getElem?_getD,List.getElem?_eq_getElem hk];rfl
theorem rM.ok{W:bz}{k:Int}(h:rM W k)(o:W.Ok):(W.tie k).Ok W.things:=o.ties _ (List.mem_of_getElem? h.get)
theorem EU{W:bz}{k:Int}:k∈W.rng↔ rM W k:=by
  unfold bz.rng rM
  rw [List.mem_map]
  constructor
  · rintro⟨n,hn,rfl⟩
    have:=List.mem_range.mp hn
    exact⟨Int.natCast_nonneg n,by simp;lia⟩
  · rintro⟨h0,h1⟩
    exact⟨k.toNat,List.mem_range.mpr (by lia),by simp;lia⟩
def AU(K:PySem.W.Frag)(H:Hp)(v:V)(asked taken:List Int):Prop:=∃a b c,v=.ref a∧dO K H a [.ref b,.ref c]∧dO K H b (asked.map V.int)∧dO K H c (taken.map V.int)
theorem AU.ts{K:PySem.W.Frag}{H H':Hp}(s:lA H H'){v:V}{asked taken:List Int}(h:AU K H v asked taken):AU K H' v asked taken:=by
  obtain⟨a,b,c,e,h1,h2,h3⟩:=h
  exact⟨a,b,c,e,s.tup h1,s.tup h2,s.tup h3⟩
section
variable{K:PySem.W.Frag}{σ:L2.St}{H:Hp}{Q:VK}{i j:Nat}{vW:V}{W:bz}{k:Int}
end
def AI(k:Int):Prop:= -1000000≤k∧k≤1000000
def Dk(n dep:Nat)(d:PyData):Prop:=d.showable=true∧m7 d=true∧L2.cnt d≤n∧d.depth≤dep
theorem Dk.mono{n m dep e:Nat}{d:PyData}(h:Dk n dep d)(h1:n≤m)(h2:dep≤e):Dk m e d:=⟨h.1,h.2.1,Nat.le_trans h.2.2.1 h1,Nat.le_trans h.2.2.2 h2⟩
theorem Dk.int{k:Int}(h:AI k):Dk 1 2 (.int k):=by
  refine⟨?_,rfl,Nat.le_refl _,by simp [PyData.depth]⟩
  show decide (k.natAbs.log2 < 1920)=true
  rw [decide_eq_true_eq]
  exact Nat.lt_trans ((show Bt 64 k by have:=h.1;have:=h.2;unfold Bt;lia).log (by decide)) (by decide)
theorem Dk.bool(b:Bool):Dk 1 2 (.bool b):=⟨rfl,rfl,Nat.le_refl _,by simp [PyData.depth]⟩
theorem Dk.none:Dk 1 2 .none:=⟨rfl,rfl,Nat.le_refl _,by simp [PyData.depth]⟩
theorem Dk.all{n dep:Nat}:∀{ds:List PyData},(∀d∈ds,Dk n dep d)→PyData.showableAll ds=true∧gJ ds=true∧js ds≤ds.length*n∧PyData.depthAll ds≤dep
  | [],_=>⟨rfl,rfl,by simp [js],by simp [PyData.depthAll]⟩
  | d::r,h=>by
    obtain⟨a1,a2,a3,a4⟩:=h d (by simp)
    obtain⟨b1,b2,b3,b4⟩:=Dk.all (ds:=r) fun x hx=>h x (by simp [hx])
    refine⟨?_,?_,?_,?_⟩
    · simp only [PyData.showableAll,a1,b1,Bool.and_self]
    · simp only [gJ,a2,b2,Bool.and_self]
    · simp only [js,List.length_cons,Nat.succ_mul]
      lia
    · simp only [PyData.depthAll];lia
theorem Dk.tup{n dep m:Nat}{ds:List PyData}(h:∀d∈ds,Dk n dep d)(hl:ds.length≤m):Dk (1+m*n) (dep+2) (.tuple ds):=by
  obtain⟨b1,b2,b3,b4⟩:=Dk.all h
  refine⟨b1,b2,?_,?_⟩
  · simp only [L2.cnt]
    have:=Nat.mul_le_mul_right n hl
    lia
  · simp only [PyData.depth];lia
theorem Dk.ok{n dep:Nat}{d:PyData}(h:Dk n dep d)(h1:n≤8000)(h2:dep≤60):d.showable=true∧d.depth≤60∧d.shown.length≤sizeLine:=by
  have:=oU h.2.1 h.1
  have sl:sizeLine=16777216:=sizeLine_eq
  have:=h.2.2.1
  exact⟨h.1,Nat.le_trans h.2.2.2 h2,by lia⟩
theorem Dk.ints{ns:List Int}{m:Nat}(hl:ns.length≤m)(h:∀r∈ns,AI r):Dk (1+m) 4 (.tuple (ns.map .int)):=by
  have:=Dk.tup (n:=1) (dep:=2) (m:=m) (ds:=ns.map PyData.int) (fun d hd=>by
    obtain⟨x,hx,rfl⟩:=List.mem_map.mp hd
    exact Dk.int (h x hx)) (by rw [List.length_map];exact hl)
  simpa using this
section
variable{K:PySem.W.Frag}{H:Hp}
theorem Dk.bools{ns:List Bool}{m:Nat}(hl:ns.length≤m):Dk (1+m) 4 (.tuple (ns.map .bool)):=by
  have:=Dk.tup (n:=1) (dep:=2) (m:=m) (ds:=ns.map PyData.bool) (fun d hd=>by
    obtain⟨x,hx,rfl⟩:=List.mem_map.mp hd
    exact Dk.bool x) (by rw [List.length_map];exact hl)
  simpa using this
def bh(t:iA):PyData:=.tuple [.int t.one,.int t.other,.tuple [.int t.top,.int t.bot],.int t.worth]
def aO(W:bz):PyData:=.tuple [.int W.things,.tuple (W.ties.map bh),.tuple (W.pat.map .int),.int W.asks]
def GI(asked taken:List Int):PyData:=.tuple [.tuple (asked.map .int),.tuple (taken.map .int)]
end
end L2
namespace L2
open PySem PySem.Spec PyProof.Rows
theorem rW:∀{bs:List Bool} {us:List Value} {i:Nat} {v:Value},aQ (bs.map V.bl) us→us[i]?=some v→∃b,bs[i]?=some b∧v=.bool b
  | [],us,i,v,r,e=>by cases r;simp at e
  | b::bs,us,i,v,r,e=>by
    cases r with
    | cons p q=>
      cases i with
      | zero=>simp at e;subst e;cases p;exact⟨b,rfl,rfl⟩
      | succ i=>
        obtain⟨c,h1,h2⟩:=rW (bs:=bs) (i:=i) (v:=v) q (by simpa using e)
        exact⟨c,by simpa using h1,h2⟩
theorem zZ(bs:List Bool):((List.range bs.length).all fun i=>(bs[i]?).getD true)=bs.all id:=by
  rw [Bool.eq_iff_iff,List.all_eq_true,List.all_eq_true]
  constructor
  · intro h b hb
    obtain⟨i,hi,rfl⟩:=List.getElem_of_mem hb
    have:=h i (List.mem_range.mpr hi)
    rw [List.getElem?_eq_getElem hi] at this
    exact this
  · intro h i hi
    have hi':=List.mem_range.mp hi
    rw [List.getElem?_eq_getElem hi']
    exact h _ (List.getElem_mem hi')
theorem z7(bs:List Bool):((List.range bs.length).any fun i=>(bs[i]?).getD false)=bs.any id:=by
  rw [Bool.eq_iff_iff,List.any_eq_true,List.any_eq_true]
  constructor
  · rintro⟨i,hi,e⟩
    have hi':=List.mem_range.mp hi
    rw [List.getElem?_eq_getElem hi'] at e
    exact⟨_,List.getElem_mem hi',e⟩
  · rintro⟨b,hb,e⟩
    obtain⟨i,hi,rfl⟩:=List.getElem_of_mem hb
    refine⟨i,List.mem_range.mpr hi,?_⟩
    rw [List.getElem?_eq_getElem hi]
    exact e
section
variable{X:Cx}
theorem vP{k:Nat}{K:PySem.W.Frag}(hr:cQ k X.A)(hK:X.K=K):ed X (.builtin "all") (fun xs H Q=>∃(l:Addr) (bs:List Bool),xs=[.ref l]∧eI K H l (bs.map V.bl)∧Q (.bl (bs.all id)) H):=by
  intro pins s σ H xs us Q I r h
  subst hK
  obtain⟨l,bs,rfl,hs,q⟩:=h
  obtain⟨u,rfl,ru⟩:=nj r
  cases ru
  obtain⟨its,rv,p,hz⟩:=I.list hs
  have hl:=p.isList
  have lt:l < s.heap.objs.size:=by obtain⟨_,e,_⟩:=hl;exact Heap.lt_size e
  refine PySem.call_all_walk (wpAny_pyIter_list hl ?_)
  refine⟨s.heap.objs.size,[s.heap.objs.size,l],[s.heap.objs.size],its.toArray.size,_,_,fun i=>(bs[i]?).getD true,rfl,Walks.list (A:=X.A.in1) hr.hd _ l (Nat.ne_of_lt lt) its.toArray,⟨⟨_,Heap.get?_push_size _ rfl,rfl,rfl⟩,hl.push _⟩,fun i v s' Q' E' hP hQ=>?_,fun h' tk hk=>?_⟩
  · obtain⟨b,e,rfl⟩:=rW rv (by simpa using hP)
    simp only [e,Option.getD_some] at hQ
    exact wpAny_truthy_bool hQ
  · have e:its.toArray.size=bs.length:=by have:=rv.length;rw [List.length_map] at this;simpa using this.symm
    rw [e,zZ]
    refine⟨.bl (bs.all id),H,I.kept fun b x e=>hk b x (fun hm=>?_) (Heap.get?_push_of_some _ e),rfl,q⟩
    rw [List.mem_singleton.mp hm] at e
    exact Nat.lt_irrefl _ (Heap.lt_size e)
theorem vQ{k:Nat}{K:PySem.W.Frag}(hr:cQ k X.A)(hK:X.K=K):ed X (.builtin "any") (fun xs H Q=>∃(l:Addr) (bs:List Bool),xs=[.ref l]∧eI K H l (bs.map V.bl)∧Q (.bl (bs.any id)) H):=by
  intro pins s σ H xs us Q I r h
  subst hK
  obtain⟨l,bs,rfl,hs,q⟩:=h
  obtain⟨u,rfl,ru⟩:=nj r
  cases ru
  obtain⟨its,rv,p,hz⟩:=I.list hs
  have hl:=p.isList
  have lt:l < s.heap.objs.size:=by obtain⟨_,e,_⟩:=hl;exact Heap.lt_size e
  refine PySem.call_any_walk (wpAny_pyIter_list hl ?_)
  refine⟨s.heap.objs.size,[s.heap.objs.size,l],[s.heap.objs.size],its.toArray.size,_,_,fun i=>(bs[i]?).getD false,rfl,Walks.list (A:=X.A.in1) hr.hd _ l (Nat.ne_of_lt lt) its.toArray,⟨⟨_,Heap.get?_push_size _ rfl,rfl,rfl⟩,hl.push _⟩,fun i v s' Q' E' hP hQ=>?_,fun h' tk hk=>?_⟩
  · obtain⟨b,e,rfl⟩:=rW rv (by simpa using hP)
    simp only [e,Option.getD_some] at hQ
    exact wpAny_truthy_bool hQ
  · have e:its.toArray.size=bs.length:=by have:=rv.length;rw [List.length_map] at this;simpa using this.symm
    rw [e,z7]
    refine⟨.bl (bs.any id),H,I.kept fun b x e=>hk b x (fun hm=>?_) (Heap.get?_push_of_some _ e),rfl,q⟩
    rw [List.mem_singleton.mp hm] at e
    exact Nat.lt_irrefl _ (Heap.lt_size e)
end
end L2
namespace L2
theorem vK:PySem.bootBuiltins "all"=some (.builtin "all"):=by decide+kernel
theorem vL:PySem.bootBuiltins "any"=some (.builtin "any"):=by decide+kernel
end L2
namespace L2
open PySem PySem.Spec PyProof.Rows
section
variable{prog:Program}{w:World}{A:Around}{E:Value→Shared→Prop}{s:Shared}
theorem yq{it t:Addr}{i:Nat}{ys}{x:Value}{Q:Value→Shared→Prop}(hi:s.heap.IsTupleIter it t i)(ht:s.heap.IsTuple t ys)(hx:ys[i]?=some x)
    (q:∀g,g.IsTupleIter it t (i+1)→Heap.SameBut it s.heap g→Q x {s with heap:=g}):wpAny (model prog w) A (Builtin.SmallTypes.nextOf (.ref it)) Q E s:=by
  obtain⟨o,ho,hc,hd⟩:=id hi;obtain⟨p,hp,_,n,hpd⟩:=ht;unfold Builtin.SmallTypes.nextOf
  refine wpAny_bind (wpAny_callSpecial?_slot (name:=Str.ofString "__next__") hi.typeIs F.slot_tuple_iterator_next (wpAny_call_entry F.slot_tuple_iterator_next hi.typeIs F.entry_tuple_iterator_next ?_ (F.args_tuple_iterator_next_1 _)))
  show wpAny _ _ (field (.ref it) 0 >>= _) _ _ s;refine wpAny_bind (wpAny_field ho hd (x:=.ref t) rfl ?_)
  show wpAny _ _ (if (Value.ref t==Value.none)=true then _ else _) _ _ s;rw [if_neg (show ¬((Value.ref t==Value.none)=true) from Bool.false_ne_true)]
  show wpAny _ _ (field (.ref it) 1 >>= _) _ _ s;refine wpAny_bind (wpAny_field ho hd (x:=.int i 0) rfl ?_)
  show wpAny _ _ (seqItems? (.ref t) >>= _) _ _ s;refine wpAny_bind (wpAny_seqItems hp hpd ?_)
  simp only [Int.toNat_natCast,hx];refine wpAny_bind (wpAny_setField ho hd (by simp) (wpAny_pure ⟨x,rfl,wpAny_pure (q _ ?_ (Heap.SameBut.update ..))⟩))
  refine⟨_,Heap.get?_update_self _ ho (Obj.isFreed_of_fields (Obj.data_mapFields hd _)),(Obj.cls_mapFields ..).trans hc,?_⟩;rw [Obj.data_mapFields hd];simp [rawInt]
theorem yp{it t:Addr}{i:Nat}{ys}{Q:Value→Shared→Prop}(hh:A.handled=none)(hi:s.heap.IsTupleIter it t i)(ht:s.heap.IsTuple t ys)(hx:ys[i]?=none)
    (q:∀g e,Heap.ExtBut it s.heap g→(∃o,g.get? e=some o∧o.cls=.type "StopIteration")→E (.ref e) {s with heap:=g}):wpAny (model prog w) A (Builtin.SmallTypes.nextOf (.ref it)) Q E s:=by
  obtain⟨o,ho,hc,hd⟩:=id hi;obtain⟨p,hp,_,n,hpd⟩:=ht;unfold Builtin.SmallTypes.nextOf
  refine wpAny_bind (wpAny_callSpecial?_slot (name:=Str.ofString "__next__") hi.typeIs F.slot_tuple_iterator_next (wpAny_call_entry F.slot_tuple_iterator_next hi.typeIs F.entry_tuple_iterator_next ?_ (F.args_tuple_iterator_next_1 _)))
  show wpAny _ _ (field (.ref it) 0 >>= _) _ _ s;refine wpAny_bind (wpAny_field ho hd (x:=.ref t) rfl ?_)
  show wpAny _ _ (if (Value.ref t==Value.none)=true then _ else _) _ _ s;rw [if_neg (show ¬((Value.ref t==Value.none)=true) from Bool.false_ne_true)]
  show wpAny _ _ (field (.ref it) 1 >>= _) _ _ s;refine wpAny_bind (wpAny_field ho hd (x:=.int i 0) rfl ?_)
  show wpAny _ _ (seqItems? (.ref t) >>= _) _ _ s;refine wpAny_bind (wpAny_seqItems hp hpd ?_)
  simp only [Int.toNat_natCast,hx];refine wpAny_bind (wpAny_rule (wpAny_bind (wpAny_setField ho hd (by simp) ?_)))
  show wpAny _ _ (newExc (.type "StopIteration") [] >>= _) _ _ _;refine wpAny_bind ?_;simp only [newExc,newTuple]
  refine wpAny_bind (wpAny_newObj_type ?_ (by size_fits));refine wpAny_bind (m:=firstArgMember _ _) (wpAny_of_eq (a:=Value.none) (by first | rfl | (simp only [firstArgMember];rfl)) ?_)
  refine wpAny_newObj_type ?_ (by size_fits);simp only [raiseNew];refine wpAny_bind (wpAny_handled ?_);first | rw [show A.in1.handled=none from hh] | rw [hh]
  refine wpAny_bind (wpAny_pure (wpAny_throw ?_));exact q _ _ (((Heap.SameBut.update ..).extBut.push _).push _) ⟨_,Heap.get?_push_size _ rfl,rfl⟩
end
structure Sc (prog:Program) (w:World) (it l:Addr) (St:Nat→Heap→Prop) (Sq:Heap→Array Value→Prop):Prop where
  stay:∀{k h h'},St k h→(∀o,h.get? it=some o→h'.get? it=some o)→St k h'
  live:∀{k h},St k h→∃o,h.get? it=some o∧∀v,o.data≠.cell v
  row:∀{h h' xs},Sq h xs→(∀o,h.get? l=some o→h'.get? l=some o)→Sq h' xs
  next:∀{A:Around} {s:Shared} {E:Value→Shared→Prop} {Q:Value→Shared→Prop} {k:Nat} {xs:Array Value} {x:Value},St k s.heap→Sq s.heap xs→xs[k]?=some x→(∀g,St (k+1) g→Heap.SameBut it s.heap g→Q x {s with heap:=g})→wpAny (model prog w) A (Builtin.SmallTypes.nextOf (.ref it)) Q E s
  last:∀{A:Around} {s:Shared} {E:Value→Shared→Prop} {Q:Value→Shared→Prop} {k:Nat} {xs:Array Value},A.handled=none→St k s.heap→Sq s.heap xs→xs[k]?=none→(∀g e,Heap.ExtBut it s.heap g→(∃o,g.get? e=some o∧o.cls=.type "StopIteration")→E (.ref e) {s with heap:=g})→wpAny (model prog w) A (Builtin.SmallTypes.nextOf (.ref it)) Q E s
theorem yh{prog:Program}{w:World}(it l:Addr):Sc prog w it l (fun k h=>h.IsTupleIter it l k) (fun h xs=>h.IsTuple l xs) where
  stay:=fun st k=>st.at fun o e=>k o e
  live:=fun st=>by
    obtain⟨o,e,c,d⟩:=st
    exact⟨o,e,fun v z=>by rw [d] at z;cases z⟩
  row:=fun q k=>by
    obtain⟨o,e,r⟩:=q
    exact⟨o,k o e,r⟩
  next:=fun st sq hx q=>yq st sq hx q
  last:=fun hh st sq hx q=>yp hh st sq hx q
theorem uj{prog:Program}{w:World}(it l:Addr):Sc prog w it l (fun k h=>h.IsListIter it l k) (fun h xs=>h.IsList l xs) where
  stay:=fun st k=>st.at fun o e=>k o e
  live:=fun st=>by
    obtain⟨o,e,c,d⟩:=st
    exact⟨o,e,fun v z=>by rw [d] at z;cases z⟩
  row:=fun q k=>by
    obtain⟨o,e,r⟩:=q
    exact⟨o,k o e,r⟩
  next:=fun st sq hx q=>wpAny_nextOf_list_item st sq hx q
  last:=fun hh st sq hx q=>wpAny_nextOf_list_end hh st sq hx q
structure FU (z TI TO i1 i2 l1 l2:Addr):Prop where
  a1:TO≠z
  a2:i1≠z
  a3:i2≠z
  a4:TO≠i1
  a5:TO≠i2
  a6:i1≠i2
  b1:l1≠z
  b2:l1≠TO
  b3:l1≠i1
  b4:l1≠i2
  c1:l2≠z
  c2:l2≠TO
  c3:l2≠i1
  c4:l2≠i2
section
variable{prog:Program}{w:World}{A:Around}{E:Value→Shared→Prop}{s:Shared}{z TI TO i1 i2 l1 l2:Addr}{k:Nat}{xs ys:Array Value}{a b:Value}{S1 S2:Nat→Heap→Prop}{R1 R2:Heap→Array Value→Prop}
end
end L2
namespace L2
open PySem PySem.Spec PyProof.Rows
section
variable{X:Cx}{pins:List (Addr × Obj)}{σ:L2.St}{H:Hp}{s:Shared}{h':Heap}
theorem aF.turnedL{t':Nat}{fp:List Addr}(I:aF X pins σ H s)(hf:∀b∈fp,i_ X pins H b)(k:∀b o,b∉fp→s.heap.get? b=some o→h'.get? b=some o):aF X pins σ H {s with heap:=h',toks:=t'}:=by
  have hL:X.env.locals∉fp:=fun z=>(hf _ z).2.1 rfl
  have nit:∀b u,H b=some u→b∉fp:=fun b u e z=>by have:=(hf b z).1;rw [this] at e;cases e
  refine I.step (g':=s.gens) (d':=s.drawn) (ch:=fp) (fun b hb=>?_) (fun b o _ _ hc e _=>k b o hc e) (fun b o _ _ hc e _=>⟨o.slots,k b o hc e⟩) (fun _ _ _ _ n=>n) (fun b o hc e=>⟨o,k b o hc e⟩) (fun _ _ e=>e) (fun _ _ _ e=>e) (fun b ps e=>⟨#[],by rw [e];simp⟩) (fun m hm=>?_) (fun b u e=>?_) I.bare
  · obtain⟨f0,f1,f2,f3,f4,f5⟩:=hf b hb
    exact⟨f3,f1,f4,f5⟩
  · obtain⟨o,es,ep,ho,r⟩:=hm
    exact⟨o,es,ep,k _ o hL ho,r⟩
  · refine(I.hok b u e).stay (fun c v hc q=>k c v ?_ q) (fun _ q=>q) fun _ _ q=>q
    rcases hc with z | z
    · rw [z];exact nit b u e
    · exact nit c _ z
theorem qh(I:aF X pins σ H s){b l:Addr}{xs:List V}(f:i_ X pins H b)(q:dO X.K H l xs):l≠b:=by
  intro z
  subst z
  rcases q with (q | ⟨o,q⟩) | ⟨o,its,n,hk,_⟩
  · rw [f.1] at q;cases q
  · rw [f.1] at q;cases q
  · have hb:X.base.get? l=some o:=I.ok.mod.kin l o hk
    rcases f.2.2.2.1 with z | z
    · exact I.ok.noex l o hb z
    · exact absurd (Nat.lt_of_lt_of_le (Heap.lt_size (I.ok.bs l o hb).1) z) (Nat.lt_irrefl _)
end
section
variable{prog:Program}{w:World}{A:Around}{E:Value→Shared→Prop}{s:Shared}
end
end L2
namespace L2
open PySem PySem.Spec PyProof.Rows
section
variable{prog:Program}{w:World}{A:Around}{E:Value→Shared→Prop}{s:Shared}{e it l:Addr}{k:Nat}{xs:Array Value}{S:Nat→Heap→Prop}{R:Heap→Array Value→Prop}
theorem rh(P1:Sc prog w it l S R)(hh:A.handled=none)(hne:l≠it)(xs:Array Value):Draws prog w A it [it,l] xs.size (fun i v=>xs[i]?=some v) (fun i h=>S i h∧R h xs) where
  live:=fun _ _ st=>let ⟨o,ho,_⟩:=P1.live st.1;⟨o,ho⟩
  frame:=fun _ _ _ st hk=>⟨P1.stay st.1 fun o e=>hk it (by simp) o e,P1.row st.2 fun o e=>hk l (by simp) o e⟩
  item:=fun i s Q E hi st hQ=>P1.next st.1 st.2 (x:=xs[i]) (by simp [hi]) fun g h1 h2=>hQ _ g s.toks (by simp [hi]) ⟨h1,P1.row st.2 fun o e=>h2.extBut _ _ hne e⟩ h2
  done:=fun s Q E st hE=>P1.last hh st.1 st.2 (by simp) hE
theorem oA{i:Int}{old:Value}{Q:Option Value→Shared→Prop}(P1:Sc prog w it l S R)(hh:A.handled=none)(he:IsEnum s.heap e it i old)(st:S k s.heap)(sq:R s.heap xs)(hx:xs[k]?=none)(q:∀g,Heap.ExtBut it s.heap g→Q none {s with heap:=g}):wpAny (model prog w) A (pyNext (.ref e)) Q E s:=by
  have hT:s.TypeIs (.ref e) "enumerate":=⟨_,he,rfl⟩;unfold pyNext
  refine wpAny_bind (wpAny_attempt (wpAny_callSpecial?_slot (name:=Str.ofString "__next__") hT F.slot_enumerate_next (wpAny_call_entry F.slot_enumerate_next hT F.entry_enumerate_next ?_ (F.args_enumerate_next_1 _))))
  show wpAny _ _ (field (.ref e) 2 >>= _) _ _ _;refine wpAny_bind (wpAny_field he rfl (x:=.ref it) rfl ?_)
  refine wpAny_bind (P1.last hh st sq hx fun g x hk hx'=>?_);obtain⟨o,ho,hc⟩:=hx'
  refine wpAny_bind (wpAny_isInstance (T:="StopIteration") (b:=true) ⟨o,ho,hc⟩ isSubtype_stop ?_);exact wpAny_pure (q _ hk)
theorem iY{i:Int}{old:Value}{Q:Value→Shared→Prop}(he:IsEnum s.heap e it i old)(h:Q (.ref e) s):wpAny (model prog w) A (pyIter (.ref e)) Q E s:=by
  have hT:s.TypeIs (.ref e) "enumerate":=⟨_,he,rfl⟩
  refine wpAny_pyIter_slot hT F.slot_enumerate_iter (wpAny_call_entry F.slot_enumerate_iter hT F.entry_enumerate_iter ?_ (F.args_enumerate_iter_1 _))
  show wpAny _ _ (ret (.ref e)) _ _ s;exact wpAny_pure ⟨_,rfl,"enumerate",_,hT,F.slot_enumerate_next.lookup,h⟩
end
section
variable{X:Cx}{pins:List (Addr × Obj)}{σ:L2.St}{H:Hp}{s:Shared}
theorem ol(I:aF X pins σ H s){b l:Addr}{xs:List V}(f:i_ X pins H b)(q:eI X.K H l xs):l≠b:=by
  intro z
  subst z
  rcases q with (q | ⟨o,q⟩) | ⟨o,its,n,hk,_⟩
  · rw [f.1] at q;cases q
  · rw [f.1] at q;cases q
  · have hb:X.base.get? l=some o:=I.ok.mod.kin l o hk
    rcases f.2.2.2.1 with z | z
    · exact I.ok.noex l o hb z
    · exact absurd (Nat.lt_of_lt_of_le (Heap.lt_size (I.ok.bs l o hb).1) z) (Nat.lt_irrefl _)
end
def AQ(K:PySem.W.Frag)(l:Addr):It:=
  ⟨fun i H=>∃xs x,dO K H l xs∧xs[i]?=some x,fun i H v H'=>∃p x,v=.ref p∧H p=none∧H'=bi H p (.tup [.int i,x])∧∀xs,dO K H l xs→xs[i]?=some x,fun i H=>∃xs,dO K H l xs∧xs.length≤i⟩
def tL(e it l:Addr)(i:Nat)(h:Heap):Prop:=(∃old,IsEnum h e it i old)∧h.IsTupleIter it l i
theorem sV{P:Program}{w:World}{K:PySem.W.Frag}{es:List Expr}{k0:Nat}{pos:Pos}{e it:Addr}(l:Addr)(ne:e≠it):uB P w K (.Tuple es k0 pos) (AQ K l) [e,it] e (tL e it l) where
  mem:=by simp
  obj:=fun i h st b hb=>by
    obtain⟨⟨old,he⟩,u⟩:=st
    simp only [List.mem_cons,List.not_mem_nil,or_false] at hb
    rcases hb with rfl | rfl
    · exact⟨_,he,fun v z=>by cases z⟩
    · obtain⟨o,e,c,d⟩:=u
      exact⟨o,e,fun v z=>by rw [d] at z;cases z⟩
  keep:=fun i h h' st k=>by
    obtain⟨⟨old,he⟩,u⟩:=st
    exact⟨⟨old,k _ (by simp) _ he⟩,u.at fun o e=>k _ (by simp) o e⟩
  item:=by
    intro X hP hw hK hc i pins s σ H E I hf st hg
    subst hP hw hK
    obtain⟨xs,x,q1,hx⟩:=hg
    obtain⟨⟨old,he⟩,u⟩:=id st
    obtain⟨its,rv,p,hz⟩:=I.tuple q1
    obtain⟨ux,hux,rux⟩:=rv.get hx
    have fe:=hf e (by simp);have ft:=hf it (by simp)
    have n1:l≠e:=qh I fe q1
    have n2:l≠it:=qh I ft q1
    have hi:i < its.toArray.size:=by have:=(List.getElem?_eq_some_iff.mp hux).1;simpa using this
    refine wpAny_pyNext_enum_itemD (rh (A:=X.A.in1) (yh it l) (show X.A.in1.handled=none from I.ok.hd hc) n2 its.toArray) he ⟨u,p⟩ hi ne (by simpa using ⟨ne,fun z=>n1 z.symm⟩) fun x' g tk hP ho hs hT hsz hk=>?_
    have ex:x'=ux:=by
      have:its[i]?=some x':=by simpa using hP
      rw [hux] at this;exact(Option.some.inj this).symm
    subst ex
    refine⟨_,rfl,wpAny_letOwnedTupleGo_enum ho fun g' he' ge=>?_⟩
    have lt:∀b∈[e,it],b < s.heap.objs.size:=fun b hb=>by
      simp only [List.mem_cons,List.not_mem_nil,or_false] at hb
      rcases hb with rfl | rfl
      · exact Heap.lt_size he
      · obtain⟨o,e,_⟩:=u;exact Heap.lt_size e
    have hTn:H s.heap.objs.size=none:=I.hok.fresh (Nat.le_refl _)
    have vv:aQ [.int i,x] [.int i tk,x']:=.cons ⟨tk,rfl⟩ (.cons rux .nil)
    have I1:aF X pins σ (bi H s.heap.objs.size (.tup [.int i,x])) {s with heap:=s.heap.push {cls:=.type "tuple",data:=.seq #[.int i tk,x']},toks:=s.toks}:=
      I.laid (t':=s.toks) (fun b u e=>Heap.get?_push_of_some _ e) (Nat.le_refl _) ⟨(by show 2≤sizeLine;decide),[.int i tk,x'],vv,ml.new _ _⟩
    have hf1:∀b∈[e,it],i_ X pins (bi H s.heap.objs.size (.tup [.int i,x])) b:=fun b hb=>by
      obtain⟨f0,fr⟩:=hf b hb
      exact⟨by rw [aM (Nat.ne_of_lt (lt b hb))];exact f0,fr⟩
    have I2:aF X pins σ (bi H s.heap.objs.size (.tup [.int i,x])) {s with heap:=g',toks:=tk+1}:=by
      refine I1.turnedL (t':=tk+1) hf1 fun b o nb eb=>?_
      have nb':b≠e∧b≠it:=by simpa using nb
      refine ge.extBut _ _ nb'.1 ?_
      rcases Heap.get?_push_cases eb with ⟨rfl,rfl⟩ | eb
      · exact hT
      · exact hk b o nb'.1 nb'.2 eb
    refine⟨.ref s.heap.objs.size,_,I2,rfl,⟨_,x,rfl,hTn,rfl,fun xs' w1=>by rw [I.tuple_inj w1 q1];exact hx⟩,⟨⟨_,by simpa using he'⟩,hs.1.at fun o e=>ge.extBut _ _ (fun z=>ne z.symm) e⟩,fun b hb=>(hf1 b hb).1⟩
  done:=by
    intro X hP hw hK hc i pins s σ H E I hf st hg
    subst hP hw hK
    obtain⟨xs,q1,hn⟩:=hg
    obtain⟨⟨old,he⟩,u⟩:=id st
    obtain⟨its,rv,p,hz⟩:=I.tuple q1
    have e1:=rv.length
    refine oA (xs:=its.toArray) (yh it l) (I.ok.hd hc) he u p (by simp;lia) fun g gk=>⟨rfl,I.turnedL (t':=s.toks) hf fun b o nb eb=>?_⟩
    have nb':b≠e∧b≠it:=by simpa using nb
    exact gk b o nb'.2 eb
  self:=fun A i s Q E st h=>by
    obtain⟨⟨old,he⟩,u⟩:=st
    exact iY he h
def AO(K:PySem.W.Frag)(l:Addr):It:=
  ⟨fun i H=>∃xs x,eI K H l xs∧xs[i]?=some x,fun i H v H'=>∃p x,v=.ref p∧H p=none∧H'=bi H p (.tup [.int i,x])∧∀xs,eI K H l xs→xs[i]?=some x,fun i H=>∃xs,eI K H l xs∧xs.length≤i⟩
def yN(e it l:Addr)(i:Nat)(h:Heap):Prop:=(∃old,IsEnum h e it i old)∧h.IsListIter it l i
theorem sU{P:Program}{w:World}{K:PySem.W.Frag}{es:List Expr}{k0:Nat}{pos:Pos}{e it:Addr}(l:Addr)(ne:e≠it):uB P w K (.Tuple es k0 pos) (AO K l) [e,it] e (yN e it l) where
  mem:=by simp
  obj:=fun i h st b hb=>by
    obtain⟨⟨old,he⟩,u⟩:=st
    simp only [List.mem_cons,List.not_mem_nil,or_false] at hb
    rcases hb with rfl | rfl
    · exact⟨_,he,fun v z=>by cases z⟩
    · obtain⟨o,e,c,d⟩:=u
      exact⟨o,e,fun v z=>by rw [d] at z;cases z⟩
  keep:=fun i h h' st k=>by
    obtain⟨⟨old,he⟩,u⟩:=st
    exact⟨⟨old,k _ (by simp) _ he⟩,u.at fun o e=>k _ (by simp) o e⟩
  item:=by
    intro X hP hw hK hc i pins s σ H E I hf st hg
    subst hP hw hK
    obtain⟨xs,x,q1,hx⟩:=hg
    obtain⟨⟨old,he⟩,u⟩:=id st
    obtain⟨its,rv,p,hz⟩:=I.list q1
    obtain⟨ux,hux,rux⟩:=rv.get hx
    have fe:=hf e (by simp);have ft:=hf it (by simp)
    have n1:l≠e:=ol I fe q1
    have n2:l≠it:=ol I ft q1
    have hi:i < its.toArray.size:=by have:=(List.getElem?_eq_some_iff.mp hux).1;simpa using this
    refine wpAny_pyNext_enum_itemD (rh (A:=X.A.in1) (uj it l) (show X.A.in1.handled=none from I.ok.hd hc) n2 its.toArray) he ⟨u,p.isList⟩ hi ne (by simpa using ⟨ne,fun z=>n1 z.symm⟩) fun x' g tk hP ho hs hT hsz hk=>?_
    have ex:x'=ux:=by
      have:its[i]?=some x':=by simpa using hP
      rw [hux] at this;exact(Option.some.inj this).symm
    subst ex
    refine⟨_,rfl,wpAny_letOwnedTupleGo_enum ho fun g' he' ge=>?_⟩
    have lt:∀b∈[e,it],b < s.heap.objs.size:=fun b hb=>by
      simp only [List.mem_cons,List.not_mem_nil,or_false] at hb
      rcases hb with rfl | rfl
      · exact Heap.lt_size he
      · obtain⟨o,e,_⟩:=u;exact Heap.lt_size e
    have hTn:H s.heap.objs.size=none:=I.hok.fresh (Nat.le_refl _)
    have vv:aQ [.int i,x] [.int i tk,x']:=.cons ⟨tk,rfl⟩ (.cons rux .nil)
    have I1:aF X pins σ (bi H s.heap.objs.size (.tup [.int i,x])) {s with heap:=s.heap.push {cls:=.type "tuple",data:=.seq #[.int i tk,x']},toks:=s.toks}:=
      I.laid (t':=s.toks) (fun b u e=>Heap.get?_push_of_some _ e) (Nat.le_refl _) ⟨(by show 2≤sizeLine;decide),[.int i tk,x'],vv,ml.new _ _⟩
    have hf1:∀b∈[e,it],i_ X pins (bi H s.heap.objs.size (.tup [.int i,x])) b:=fun b hb=>by
      obtain⟨f0,fr⟩:=hf b hb
      exact⟨by rw [aM (Nat.ne_of_lt (lt b hb))];exact f0,fr⟩
    have I2:aF X pins σ (bi H s.heap.objs.size (.tup [.int i,x])) {s with heap:=g',toks:=tk+1}:=by
      refine I1.turnedL (t':=tk+1) hf1 fun b o nb eb=>?_
      have nb':b≠e∧b≠it:=by simpa using nb
      refine ge.extBut _ _ nb'.1 ?_
      rcases Heap.get?_push_cases eb with ⟨rfl,rfl⟩ | eb
      · exact hT
      · exact hk b o nb'.1 nb'.2 eb
    refine⟨.ref s.heap.objs.size,_,I2,rfl,⟨_,x,rfl,hTn,rfl,fun xs' w1=>by rw [I.list_inj w1 q1];exact hx⟩,⟨⟨_,by simpa using he'⟩,hs.1.at fun o e=>ge.extBut _ _ (fun z=>ne z.symm) e⟩,fun b hb=>(hf1 b hb).1⟩
  done:=by
    intro X hP hw hK hc i pins s σ H E I hf st hg
    subst hP hw hK
    obtain⟨xs,q1,hn⟩:=hg
    obtain⟨⟨old,he⟩,u⟩:=id st
    obtain⟨its,rv,p,hz⟩:=I.list q1
    have e1:=rv.length
    refine oA (xs:=its.toArray) (uj it l) (I.ok.hd hc) he u p.isList (by simp;lia) fun g gk=>⟨rfl,I.turnedL (t':=s.toks) hf fun b o nb eb=>?_⟩
    have nb':b≠e∧b≠it:=by simpa using nb
    exact gk b o nb'.2 eb
  self:=fun A i s Q E st h=>by
    obtain⟨⟨old,he⟩,u⟩:=st
    exact iY he h
end L2
namespace L2
open PySem PySem.Spec PyProof.Rows
section
variable{X:Cx}{a:Expr}{ta:TA}{p p2 pos pos2:Pos}
end
end L2
namespace L2
open PySem PySem.Spec PyProof.Rows
theorem u7:fillsNumberSlot (.type "tuple") "mul"=pure false:=
  PySem.fillsNumberSlot_seq (id:="tuple.__mul__") (r:=some (.builtin "tuple.__rmul__")) F.slot_tuple_mul.lookup (by decide+kernel) F.slot_tuple_rmul.lookup (by decide+kernel)
theorem Cg:seqRepeat? (.type "tuple")=pure (some (.builtin "tuple.__mul__")):=by
  unfold seqRepeat?;rw [PySem.seqSlot_of (T:="tuple") (name:="__mul__") (id:="tuple.__mul__") F.slot_tuple_mul.lookup (by decide+kernel),PySem.seqSlot_of (T:="tuple") (name:="__rmul__") (id:="tuple.__rmul__") F.slot_tuple_rmul.lookup (by decide+kernel)];rfl
theorem zY(a:Int)(t:Tok)(l:Addr)(items:Array Value)(n:Nat)(dd:Option Addr)(sl:Array (Option Value)):
    Meets (Builtin.«int.__rmul__» ⟨[.int a t,.ref l],[]⟩) (fun _ R s=>s.heap.get? l=some {cls:=.type "tuple",dict:=dd,data:=.seq items n,slots:=sl}∧R (.ok (.ret Value.notImplemented)) s):=
  .of_wp fun prog w A R s h=>by obtain⟨hp,g,d,tk,os⟩:=s;obtain⟨hl,h⟩:=h;wp_walk;exact⟨_,rfl,h⟩
theorem Bp(l:Addr)(x:Value)(n:Nat)(k:Int)(u:Tok)(dd:Option Addr)(sl:Array (Option Value))(h0:2≤k)(h1:k≤100000):
    Meets (Builtin.«tuple.__mul__» ⟨[.ref l,.int k u],[]⟩) (fun _ R s=>s.heap.get? l=some {cls:=.type "tuple",dict:=dd,data:=.seq #[x] n,slots:=sl}∧
      R (.ok (.ret (.ref s.heap.objs.size))) {s with heap:=s.heap.push {cls:=.type "tuple",data:=.seq (List.replicate k.toNat x).toArray}}):=
  .of_wp fun prog w A R s h=>by
    obtain⟨hp,g,d,tk,os⟩:=s;obtain⟨hl,h⟩:=h
    have f1:=AutoSeq1.idx_int
    have c1:¬(decide (k < -(2 ^ 63)) || decide (k≥2 ^ 63))=true:=by simp;lia
    have c2:¬((#[x]:Array Value).isEmpty || k==1)=true:=by simp;lia
    have c3:¬(decide (k≤0) || (#[x]:Array Value).isEmpty)=true:=by simp;lia
    have c4:¬(((#[x]:Array Value).size:Int)*k > (2 ^ 63 - 1) / 8):=by simp;lia
    have c5:¬Builtin.Tuple.tupleTooMany (((#[x]:Array Value).size:Int)*k)=true:=by
      unfold Builtin.Tuple.tupleTooMany;rw [sizeLine_eq];simp;lia
    wp_walk using wpAny_loadPart' hl
    rw [if_neg c1]
    wp_walk using wpAny_loadPart' hl
    rw [if_neg c2]
    wp_walk using wpAny_loadPart' hl
    rw [if_neg c3]
    wp_walk using wpAny_loadPart' hl
    rw [if_neg c4]
    show wpAny _ _ (if Builtin.Tuple.tupleTooMany (((#[x]:Array Value).size:Int)*k)=true then _ else _) _ _ _
    rw [if_neg c5]
    have f0:∀(m:Nat) (acc:Array Value),List.foldl (fun x1 x2=>x1++x2) acc (List.replicate m #[x])=acc++(List.replicate m x).toArray:=by
      intro m
      induction m with
      | zero=>intro acc;simp
      | succ m ih=>intro acc;rw [List.replicate_succ,List.foldl_cons,ih,List.replicate_succ];apply Array.toList_inj.mp;simp
    have e:List.foldl (fun x1 x2=>x1++x2) #[] (List.replicate k.toNat #[x])=(List.replicate k.toNat x).toArray:=by rw [f0];simp
    show wpAny _ _ (Builtin.Tuple.tupleExact (List.foldl (fun x1 x2=>x1++x2) #[] (List.replicate k.toNat #[x])) >>= fun v=>ret v) _ _ _
    rw [e]
    unfold Builtin.Tuple.tupleExact
    refine wpAny_bind (wpAny_newObj_type ?_ (by show(List.replicate k.toNat x).toArray.size≤sizeLine;rw [List.size_toArray,List.length_replicate,sizeLine_eq];lia))
    exact wpAny_pure ⟨_,rfl,h⟩
theorem y8(l:Addr)(x:Value)(n:Nat)(u:Tok)(dd:Option Addr)(sl:Array (Option Value)):
    Meets (Builtin.«tuple.__mul__» ⟨[.ref l,.int 0 u],[]⟩) (fun _ R s=>s.heap.get? l=some {cls:=.type "tuple",dict:=dd,data:=.seq #[x] n,slots:=sl}∧R (.ok (.ret (.ref s.heap.objs.size))) {s with heap:=s.heap.push {cls:=.type "tuple",data:=.seq #[]}}):=
  .of_wp fun prog w A R s h=>by
    obtain⟨hp,g,d,tk,os⟩:=s;obtain⟨hl,h⟩:=h;have f1:=AutoSeq1.idx_int
    have c2:¬((#[x]:Array Value).isEmpty || (0:Int)==1)=true:=by simp
    wp_walk using wpAny_loadPart' hl
    first | rw [if_neg c2] | skip
    wp_walk using wpAny_loadPart' hl
    exact⟨_,rfl,h⟩
theorem y9(l:Addr)(x:Value)(n:Nat)(u:Tok)(dd:Option Addr)(sl:Array (Option Value)):
    Meets (Builtin.«tuple.__mul__» ⟨[.ref l,.int 1 u],[]⟩) (fun _ R s=>s.heap.get? l=some {cls:=.type "tuple",dict:=dd,data:=.seq #[x] n,slots:=sl}∧R (.ok (.ret (.ref l))) s):=
  .of_wp fun prog w A R s h=>by
    obtain⟨hp,g,d,tk,os⟩:=s;obtain⟨hl,h⟩:=h;have f1:=AutoSeq1.idx_int
    wp_walk using wpAny_loadPart' hl
    exact⟨_,rfl,h⟩
section
variable{X:Cx}
def xY(K:PySem.W.Frag):R2:=fun x y H Q=>∃a k v,x=.ref a∧y=.int k∧dO K H a [v]∧0≤k∧k≤100000∧∀p H',aA H H'→dO K H' p (List.replicate k.toNat v)→Q (.ref p) H'
theorem zx:gu X (binaryOp .Mult) (xY X.K):=by
  intro pins s σ H x y v u Q I rx ry h
  obtain⟨a,k,z,rfl,rfl,ha,k0,k1,q⟩:=h
  cases rx
  obtain⟨t,rfl⟩:=ry
  obtain⟨its,r,p,hz⟩:=I.tuple ha
  obtain⟨uz,rfl,rz⟩:=nj r
  obtain⟨⟨cls,dd,data,sl⟩,ho,hc,n,hd⟩:=id p
  simp only at hc hd
  subst hc hd
  refine wpAny_binaryOp_repeat_ref (T:="tuple") (U:="int") (by decide) ⟨_,ho,rfl⟩ (fun s'=>PySem.typeIs_int s' k t) u7 F.fills_int_mul F.slot_int_rmul Cg F.slot_int_index.lookup (call_meets F.slot_int_rmul (PySem.typeIs_int s k t) F.entry_int_rmul (F.args_int_rmul_2 _ _) (zY k t a #[uz] n dd sl) ⟨ho,rfl,⟨_,ho,rfl⟩,?_⟩)
  have new:∀m:Nat,m=k.toNat→EP X pins σ Q (.ref s.heap.objs.size) {s with heap:=s.heap.push {cls:=.type "tuple",data:=.seq (List.replicate m uz).toArray},toks:=s.toks}:=fun m hm=>by
    have hf:H s.heap.objs.size=none:=I.hok.fresh (Nat.le_refl _)
    have vv:∀j:Nat,aQ (List.replicate j z) (List.replicate j uz):=fun j=>by
      induction j with
      | zero=>exact .nil
      | succ j ih=>exact .cons rz ih
    refine⟨.ref s.heap.objs.size,_,I.laid (t':=s.toks) (o:=.tup (List.replicate m z)) (fun b ob q=>Heap.get?_push_of_some _ q) (Nat.le_refl _) ⟨by rw [List.length_replicate,sizeLine_eq];lia,_,vv m,ml.new _ _⟩,rfl,q _ _ (aA.new hf) (dO.of (by rw [aG,hm]))⟩
  rcases(by lia:k=0∨k=1∨2≤k) with e | e | e
  · subst e
    exact call_meets F.slot_tuple_mul ⟨_,ho,rfl⟩ F.entry_tuple_mul (F.args_tuple_mul_2 _ _) (y8 a uz n t dd sl) ⟨ho,new 0 rfl⟩
  · subst e
    exact call_meets F.slot_tuple_mul ⟨_,ho,rfl⟩ F.entry_tuple_mul (F.args_tuple_mul_2 _ _) (y9 a uz n t dd sl) ⟨ho,⟨.ref a,H,I,rfl,q a H (aA.refl H) ha⟩⟩
  · exact call_meets F.slot_tuple_mul ⟨_,ho,rfl⟩ F.entry_tuple_mul (F.args_tuple_mul_2 _ _) (Bp a uz n k t dd sl e k1) ⟨ho,new _ rfl⟩
end
end L2
namespace L2
open PySem PySem.Spec PyProof.Rows
section
variable{prog:Program}{w:World}{A:Around}{E:Value→Shared→Prop}{s:Shared}
end
section
variable{X:Cx}{a:Expr}{ta:TA}{p p2 p3 pos pos2 pos3:Pos}
end
end L2
namespace L2
open PySem PySem.Spec PyProof.Rows
theorem uH(l:Addr)(xs:Array Value):
    Meets (Builtin.«enumerate.__new__» ⟨[.type "enumerate",.ref l],[]⟩) (fun _ R s=>s.heap.IsTuple l xs∧R (.ok (.ret (.ref (s.heap.objs.size+1)))) {s with heap:=(s.heap.push {cls:=.type "tuple_iterator",data:=.fields #[.ref l,.int 0 0]}).push {cls:=.type "enumerate",data:=.fields #[.none,.bool false,.ref s.heap.objs.size,rawInt 0,.none,.none]}}):=
  .of_wp fun prog w A R s h=>by
    obtain⟨hp,g,d,tk,os⟩:=s;obtain⟨ht,h⟩:=h;have a1:=sub_enumerate
    have T1:Heap.IsTuple (Shared.heap ⟨hp,g,d,tk,os⟩) l xs:=ht
    obtain⟨⟨cls,dd,data,sl⟩,ho,hc,n,hd⟩:=id ht
    simp only at hc hd
    subst hc hd
    wp_walk using wpAny_loadPart' ho
    refine wpAny_stack_any fun st=>wpAny_pure ?_
    split
    · rename_i c _ _ _ _ _
      cases (c==Value.type "enumerate")
      · wp_walk using wpAny_loadPart' ho,wpAny_pyIter_tuple T1
        refine⟨_,rfl,?_⟩
        simp only [Heap.size_push]
        exact h
      · wp_walk using wpAny_loadPart' ho,wpAny_pyIter_tuple T1
        refine⟨_,rfl,?_⟩
        simp only [Heap.size_push]
        exact h
    · wp_walk using wpAny_loadPart' ho,wpAny_pyIter_tuple T1
      refine⟨_,rfl,?_⟩
      simp only [Heap.size_push]
      exact h
section
variable{prog:Program}{w:World}{A:Around}{E:Value→Shared→Prop}{s:Shared}
theorem r8{l:Addr}{xs:Array Value}{Q:Value→Shared→Prop}(t1:s.heap.IsTuple l xs)(h:∀g,tL (s.heap.objs.size+1) s.heap.objs.size l 0 g→(∀c o,s.heap.get? c=some o→g.get? c=some o)→Q (.ref (s.heap.objs.size+1)) {s with heap:=g}):wpAny (model prog w) A (call (.type "enumerate") [.ref l]) Q E s:=by
  refine callType_new F.called_enumerate (by decide) (F.typeCall_enumerate_1 _) (F.newCall_enumerate_1 _) (fun obj=>F.args_object_init_2 obj _) F.entry_enumerate_new (uH l xs) ⟨t1,?_⟩
  have g2:((s.heap.push {cls:=.type "tuple_iterator",data:=.fields #[.ref l,.int 0 0]}).push {cls:=.type "enumerate",data:=.fields #[.none,.bool false,.ref s.heap.objs.size,rawInt 0,.none,.none]}).get? (s.heap.objs.size+1)=some {cls:=.type "enumerate",data:=.fields #[.none,.bool false,.ref s.heap.objs.size,rawInt 0,.none,.none]}:=by
    have e:s.heap.objs.size+1=(s.heap.push {cls:=.type "tuple_iterator",data:=.fields #[.ref l,.int 0 0]}).objs.size:=by simp only [Heap.size_push]
    rw [e];exact Heap.get?_push_size _ rfl
  exact⟨⟨_,g2,rfl⟩,h _ ⟨⟨.none,g2⟩,⟨_,Heap.get?_push_of_some _ (Heap.get?_push_size _ rfl),rfl,rfl⟩⟩ fun c o x=>Heap.get?_push_of_some _ (Heap.get?_push_of_some _ x)⟩
end
theorem iE:PySem.bootBuiltins "enumerate"=some (.type "enumerate"):=by decide+kernel
def Fj(K:PySem.W.Frag)(ta:TA):TI:=fun σ H R=>ta σ H fun vs H1=>∃a,vs=[.ref a]∧(∃xs,dO K H1 a xs)∧R (AQ K a) H1
def Fi(K:PySem.W.Frag)(ta:TA):TI:=fun σ H R=>ta σ H fun vs H1=>∃a,vs=[.ref a]∧(∃xs,eI K H1 a xs)∧R (AO K a) H1
section
variable{X:Cx}{K:PySem.W.Frag}{es:List Expr}{k0:Nat}{tp:Pos}{a:Expr}{ta:TA}{p pos:Pos}
theorem xB(hK:X.K=K)(hg:Gl X "enumerate")(hm:X.mg "enumerate"=none)(ha:PA X [a] ta)(hs:starEach [a] X.env=[(false,eval a X.env)]:=by rfl):PI X (.Tuple es k0 tp) (.Call (.Name "enumerate" p) [a] [] pos) (Fj K ta):=by
  intro pins s σ H R I h
  subst hK
  refine Call_ (k7 I hg hm iE (PyProof.Rows.callWith_type1 (cP (ha pos pins s σ H _ I h) fun us s1 ⟨vs,H1,I1,r1,q1⟩=>?_) hs rfl))
  obtain⟨a,e,⟨xs,qx⟩,q⟩:=q1
  subst e
  obtain⟨u,rfl,ru⟩:=nj r1
  cases ru
  obtain⟨i1,v1,p1,_⟩:=I1.tuple qx
  refine r8 p1 fun g st hk=>?_
  obtain⟨⟨old,he⟩,hit⟩:=id st
  refine iY he ?_
  have I2:aF X pins σ H1 {s1 with heap:=g,toks:=s1.toks}:=I1.kept (t':=s1.toks) fun b o e=>hk b o e
  refine⟨s1.heap.objs.size+1,[s1.heap.objs.size+1,s1.heap.objs.size],_,_,H1,rfl,I2,sV a (show((s1.heap.objs.size+1:Nat)≠s1.heap.objs.size) by lia),st,fun c hc=>?_,q⟩
  have le:s1.heap.objs.size≤c:=by
    simp only [List.mem_cons,List.not_mem_nil,or_false] at hc
    rcases hc with rfl | rfl
    · exact Nat.le_add_right _ 1
    · exact Nat.le_refl _
  exact I1.fpOk (H':=H1) le (I1.hok.fresh le)
theorem xA(hK:X.K=K)(hg:Gl X "enumerate")(hm:X.mg "enumerate"=none)(ha:PA X [a] ta)(hs:starEach [a] X.env=[(false,eval a X.env)]:=by rfl):PI X (.Tuple es k0 tp) (.Call (.Name "enumerate" p) [a] [] pos) (Fi K ta):=by
  intro pins s σ H R I h
  subst hK
  refine Call_ (k7 I hg hm iE (PyProof.Rows.callWith_type1 (cP (ha pos pins s σ H _ I h) fun us s1 ⟨vs,H1,I1,r1,q1⟩=>?_) hs rfl))
  obtain⟨a,e,⟨xs,qx⟩,q⟩:=q1
  subst e
  obtain⟨u,rfl,ru⟩:=nj r1
  cases ru
  obtain⟨i1,v1,p1,_⟩:=I1.list qx
  refine call_enumerate_list p1.isList fun g he hit hsz hk=>?_
  refine iY he ?_
  have I2:aF X pins σ H1 {s1 with heap:=g,toks:=s1.toks}:=I1.kept (t':=s1.toks) fun b o e=>hk b o e
  refine⟨s1.heap.objs.size+1,[s1.heap.objs.size+1,s1.heap.objs.size],_,_,H1,rfl,I2,sU a (show((s1.heap.objs.size+1:Nat)≠s1.heap.objs.size) by lia),⟨⟨_,he⟩,hit⟩,fun c hc=>?_,q⟩
  have le:s1.heap.objs.size≤c:=by
    simp only [List.mem_cons,List.not_mem_nil,or_false] at hc
    rcases hc with rfl | rfl
    · exact Nat.le_add_right _ 1
    · exact Nat.le_refl _
  exact I1.fpOk (H':=H1) le (I1.hok.fresh le)
end
end L2
namespace L2
open PySem PySem.Spec PyProof.Rows
theorem ve{X:Cx}:gu X (compareOp .IsNot) (fun x y H Q=>∃b c,x=.bl b∧y=.bl c∧Q (.bl (!(b==c))) H):=by
  intro pins s σ H x y v u Q I rx ry h
  obtain⟨b,c,rfl,rfl,q⟩:=h
  cases rx;cases ry
  refine wpAny_isNot_plain (by cases b<;>cases c<;>rfl) ⟨.bl (!(b==c)),H,I,?_,q⟩
  show Value.bool _=Value.bool _
  cases b<;>cases c<;>rfl
section
variable{prog:Program}{w:World}{A:Around}{E:Value→Shared→Prop}{s:Shared}
end
section
variable{prog:Program}{w:World}{A:Around}{E:Value→Shared→Prop}{s:Shared}
end
section
variable{prog:Program}{w:World}{A:Around}{E:Value→Shared→Prop}{s:Shared}
end
end L2
namespace L2
open PySem PySem.Spec PyProof.Rows
theorem sO{X:Cx}{ix:Nat}{nm:Str}{posn poss:Pos}{elt iter tg:Expr}{ifs:List Expr}{scope:Scope}{pos:Pos}{wi:TI}{g:TG}{tc:TT}{te:TE}(sc0:Scope)(N0:List Str)(cp:List (Nat × Str))(tgN:List Str)
    (hc:X.calm=true)(hsc:X.env.scope=sc0)(hN0:X.N=N0)(hi:PI X tg iter wi)
    (hg:∀C s0 H0 fp,PG (aV X scope cp tgN C s0 H0 fp) tg g)
    (ht:∀C s0 H0 fp,vB (aV X scope cp tgN C s0 H0 fp) ifs tc)
    (he:∀C s0 H0 fp,PE (aV X scope cp tgN C s0 H0 fp) elt te)
    (hk:scope.kind=.function)(hcell:∀y∈scope.names,y.2≠.cell)(hnames:∀y∈scope.names,y.2=.local→scope.names.lookup y.1=some .local)
    (hfr:∀y∈scope.names,y.2=.free→scope.names.lookup y.1=some .free∧sc0.names.lookup y.1=some .cell)
    (hcp:∀p∈cp,N0[p.1]?=some p.2)(hcq:∀p∈cp,sc0.names.lookup p.2=some .cell∧scope.names.lookup p.2=some .free)
    (hNd:X.N.Nodup)(hix:X.N[ix]?=some nm)(hlc:X.env.scope.names.lookup nm=some .local)(hsw:swapsWith (.ListComp elt [⟨tg,iter,ifs,0⟩] scope pos) (some (.Name nm posn)) poss.line X.env=pure true)
    (hs:∀x,foldedSetIterable iter X.env x=pure x:=by intro _;rfl):
    PS X (.Assign [.Name nm posn] (.ListComp elt [⟨tg,iter,ifs,0⟩] scope pos) poss) (Cp (um cp tgN.length wi g tc te) (wF ix)):=by
  intro pins s σ H D0 I h
  let Q:VK:=fun x H1=>D0.nx (σ.set ix (some x)) H1
  have h:um cp tgN.length wi g tc te σ H Q:=h
  have hkind:∀x,X.env.kindOf x=sc0.names.lookup x:=fun x=>by unfold Env.kindOf;rw [hsc]
  have hfree:∀y∈scope.names,y.2=.free→∃c,X.env.cells.lookup y.1=some c:=fun y hy e=>I.ok.has y.1 (.inl (by rw [hkind];exact(hfr y hy e).2))
  rw [exec_Assign_Name_used _ _ _ _ hsw]
  refine wpAny_bind (wpAny_standAt (wpAny_bind ?_))
  unfold evalThenUse
  refine wpAny_bind ?_
  refine wpAny_comprehension_free (use:=some (assign (.Name nm posn) X.env)) rfl hs (my hfree) hk hnames (wpAny_mono (hi pins s σ H _ I h.go) (fun xv s₁ h₁=>wpAny_mono h₁ (fun itv s₂ h₂=>?_) fun _ _ e=>e) fun _ _ e=>e)
  obtain⟨it,fp,tn,J,H2,rfl,I2,T,st2,f2,hq⟩:=h₂
  refine wpAny_newObj_type ?_
  have hlF:H2 s₂.heap.objs.size=none:=I2.hok.fresh (Nat.le_refl _)
  have I3:aF X pins σ (bi H2 s₂.heap.objs.size (.lst [])) {s₂ with heap:=s₂.heap.push {cls:=.type "list",data:=.seq ([]:List Value).toArray}}:=I2.lnew (t':=s₂.toks) .nil (Nat.zero_le _)
  obtain⟨W,⟨m0,w0⟩,turn⟩:=hq _ hlF
  have f3:∀b∈fp,i_ X pins (bi H2 s₂.heap.objs.size (.lst [])) b:=fun b hb=>by
    obtain⟨f0,fr⟩:=f2 b hb
    obtain⟨o,ho,_⟩:=T.obj _ _ st2 b hb
    exact⟨by rw [aM (Nat.ne_of_lt (Heap.lt_size ho))];exact f0,fr⟩
  have st3:tn 0 (s₂.heap.push {cls:=.type "list",data:=.seq ([]:List Value).toArray}):=T.keep _ _ _ st2 fun b _ o e=>Heap.get?_push_of_some _ e
  generalize hD:s₂.heap.objs.size=D at*
  generalize hs3:({s₂ with heap:=s₂.heap.push {cls:=.type "list",data:=.seq ([]:List Value).toArray}}:Shared)=s₃ at*
  have hst3:tn 0 s₃.heap:=by rw [←hs3];exact st3
  refine wpAny_newFunctionEnv hcell (by intro y hy;simp at hy) (fun h₁ hns₁ hsb₁=>?_) hk
  generalize hC:s₃.heap.objs.size=C at*
  have old:∀b o,s₃.heap.get? b=some o→h₁.get? b=some o:=fun b o e=>hsb₁.extBut b o (by rw [←hC];exact Nat.ne_of_lt (Heap.lt_size e)) (Heap.get?_push_of_some _ e)
  have nC:∀b o,s₃.heap.get? b=some o→b≠C:=fun b o e=>by rw [←hC];exact Nat.ne_of_lt (Heap.lt_size e)
  have hHC:(bi H2 D (.lst [])) C=none:=I3.hok.fresh (by rw [hC];exact Nat.le_refl _)
  have clS:∀x c,(iu X.env scope.names []).lookup x=some c→X.env.cells.lookup x=some c:=fun x c e=>jr _ _ x c hfree (fun _ _ z=>by simp at z) e
  have clH:∀x,(∃y∈scope.names,y.1=x∧y.2=.free)→∃c,(iu X.env scope.names []).lookup x=some c:=fun x e=>mx _ _ x (.inl e)
  have ok':(aV X scope cp tgN C s₃ (bi H2 D (.lst [])) fp).Ok:=by
    refine⟨I.ok.mod,hk,I.ok.glob,I.ok.blt,by rw [←hC];exact Nat.le_refl _,fun x y c e1 e2=>I.ok.inj x y c (clS _ _ e1) (clS _ _ e2),fun x e=>clH x (dB hcell e),fun x c e1 e2=>?_,I.ok.hd,I.ok.frames,.inl rfl,fun b hb=>?_,fun b o e=>I3.bs b o e,?_,fun b o e hb=>?_,fun b hb z=>?_,I3.stack,fun b hb=>I3.stkFree b hb⟩
    · exfalso
      have e1':scope.names.lookup x=some .local:=by simpa [aV] using e1
      have e2':=clS x c e2
      obtain⟨c',hc'⟩:∃y∈scope.names,y.1=x∧y.2=.free:=by
        by_cases q:∃y∈scope.names,y.1=x∧y.2=.free
        · exact q
        · exfalso
          have:∀(names:List (Str × NameKind)) (cs:List (Str × Addr)),(¬∃y∈names,y.1=x∧y.2=.free)→cs.lookup x=none→(iu X.env names cs).lookup x=none:=by
            intro names
            induction names with
            | nil=>intro cs _ h;exact h
            | cons y r ih=>
              intro cs hn hcs
              obtain⟨n,k⟩:=y
              refine ih _ (fun⟨y,hy,z⟩=>hn ⟨y,List.mem_cons_of_mem _ hy,z⟩) ?_
              by_cases hk:(k==NameKind.free)=true
              · rw [if_pos hk,List.lookup_cons]
                cases hx:x==n with
                | true=>exact absurd ⟨(n,k),List.mem_cons_self,(by simpa using hx:x=n).symm,by simpa using hk⟩ hn
                | false=>exact hcs
              · rw [if_neg hk];exact hcs
          have z:=this scope.names [] q rfl
          have e2'':(iu X.env scope.names []).lookup x=some c:=e2
          rw [z] at e2'';cases e2''
      have z:=(hfr c' hc'.1 hc'.2.2).1
      rw [hc'.2.1,e1'] at z;cases z
    · obtain⟨f0,f1,f4,f5,f6,f7⟩:=f3 b hb
      obtain⟨o,ho,_⟩:=T.obj _ _ hst3 b hb
      exact⟨nC b o ho,fun x c e=>f6 x c (clS x c e)⟩
    · exact Nat.le_trans I.ok.bsz I3.sz
    · obtain⟨f0,f1,f4,f5,f6,f7⟩:=f3 b hb
      rcases f5 with z | z
      · exact I.ok.noex b o e z
      · have:=(I.ok.bs b o e).1
        exact absurd (Nat.lt_of_lt_of_le (Heap.lt_size this) z) (Nat.lt_irrefl _)
    · obtain⟨f0,f1,f4,f5,f6,f7⟩:=f3 b hb
      rcases List.mem_cons.mp (I3.stkSub b z) with z | z
      · exact f1 z
      · exact f4 z
  have I4:aF (aV X scope cp tgN C s₃ (bi H2 D (.lst [])) fp) [] (gO cp tgN.length σ) (bi H2 D (.lst [])) {s₃ with heap:=h₁,toks:=s₃.toks+([]:List (Str × Value)).length}:=by
    refine⟨ok',rfl,I3.bare,Un.kept old,⟨_,hns₁,fun i x v e1 e2 e3=>?_⟩,fun x c e=>?_,hHC,fun x c e=>I3.freeC x c (clS x c e),fun p hp=>by simp [aV] at hp,I3.hok.kept old,by simp [gO,aV]⟩
    · have hlt:i < cp.length:=by
        by_cases q:i < cp.length
        · exact q
        · exfalso
          unfold gO at e2
          rw [List.getElem?_append_right (by simp;lia)] at e2
          rw [List.getElem?_replicate] at e2
          split at e2<;>cases e2
      have e1':(cp.map (·.2))[i]?=some x:=by
        have e1'':(cp.map (·.2)++tgN)[i]?=some x:=e1
        rwa [List.getElem?_append_left (by simp;exact hlt)] at e1''
      have e2':(cp.map (fun p=>(σ[p.1]?).join))[i]?=some (some v):=by
        unfold gO at e2
        rwa [List.getElem?_append_left (by simp;exact hlt)] at e2
      rw [List.getElem?_map,List.getElem?_eq_getElem hlt] at e1' e2'
      have ex:(cp[i]).2=x:=by simpa using e1'
      have ev:(σ[(cp[i]).1]?).join=some v:=by simpa using e2'
      have ev':σ[(cp[i]).1]?=some (some v):=by
        cases q:σ[(cp[i]).1]? with
        | none=>rw [q] at ev;cases ev
        | some z=>rw [q] at ev;simp only [Option.join_some] at ev;rw [ev]
      have hN:=hcp cp[i] (List.getElem_mem hlt)
      rw [←hN0] at hN
      obtain⟨hcl,hcf⟩:=hcq cp[i] (List.getElem_mem hlt)
      rw [ex] at hN hcl hcf
      obtain⟨m,hn,hl⟩:=I3.loc
      obtain⟨u,r,l⟩:=hl _ x v hN ev' (.inr (.inl (by rw [hsc];exact hcl)))
      refine⟨u,r,.inr ?_⟩
      rcases l with ⟨k1,_⟩ | ⟨k1,c,hcc,o,ho,hd⟩
      · rw [hkind,hcl] at k1;cases k1
      · have e3':(relabel scope X.env).names.lookup x=some .local∨(relabel scope X.env).names.lookup x=some .cell∨(relabel scope X.env).names.lookup x=some .free:=e3
        have nl:(relabel scope X.env).names.lookup x=some .cell∨(relabel scope X.env).names.lookup x=some .free:=by
          rcases e3' with z | z | z
          · exact absurd z (eB hcf)
          · exact .inl z
          · exact .inr z
        obtain⟨c',hc'⟩:=clH x (dB hcell nl)
        have:=clS x c' hc'
        rw [hcc] at this;cases this
        exact⟨nl,c,hc',o,old c o ho,hd⟩
    · obtain⟨v,o,ho,hd⟩:=I3.cell x c (clS x c e)
      exact⟨v,o,old c o ho,hd⟩
  have hst4:tn 0 h₁:=T.keep _ _ _ hst3 fun b _ o e=>old b o e
  have loop:codeAny (model X.prog X.w) X.A (.compLoop (.ListComp elt [⟨tg,iter,ifs,0⟩] scope pos) 0 (.ref it) (.ref D) (compEnvC scope (iu X.env scope.names []) C X.env))
      (compPost (model X.prog X.w) X.A X.xe (some (assign (.Name nm posn) X.env)) (fun _ s'=>wpAny (model X.prog X.w) X.A (pure ()) (fun _ s''=>wpAny (model X.prog X.w) X.A (pure Flow.next) (SP X pins D0) X.xe s'') X.xe s') (.ref D) C) {s₃ with heap:=h₁,toks:=s₃.toks+([]:List (Str × Value)).length}:=by
    refine jS (fun n s'=>∃i σ' H',aF (aV X scope cp tgN C s₃ (bi H2 D (.lst [])) fp) [] σ' H' s'∧tn i s'.heap∧(∀b∈fp,H' b=none)∧W i n σ' H') ?_ (n0:=m0) ⟨0,_,_,I4,hst4,fun b hb=>(f3 b hb).1,w0⟩
    rintro n s5 ⟨i,σ5,H5,I5,st5,fr5,w5⟩
    have stat:∀{H':Hp},(∀b∈fp,H' b=none)→∀b∈fp,i_ (aV X scope cp tgN C s₃ (bi H2 D (.lst [])) fp) [] H' b:=fun hn b hb=>
      ⟨hn b hb,(ok'.exf b hb).1,ok'.exfs b hb,.inl hb,(ok'.exf b hb).2,fun p hp=>by simp [aV] at hp⟩
    rcases turn i n σ5 H5 w5 with ⟨stop,qn⟩ | ⟨go,N,hN,step⟩
    · refine cP (T.done (aV X scope cp tgN C s₃ (bi H2 D (.lst [])) fp) rfl rfl rfl hc i [] s5 σ5 H5 (fun _ _=>False) I5 (stat fr5) st5 stop) fun r s6 ⟨hr,I6⟩=>?_
      subst hr
      refine⟨fun _=>?_,fun v z=>by cases z⟩
      obtain⟨m,hn,_⟩:=I6.loc
      have I7:aF X pins σ H5 s6:=by
        have key:∀h':Heap,Heap.SameBut C s6.heap h'→aF X pins σ H5 {s6 with heap:=h'}:=fun h' sb=>by
          have ub:=I6.base
          have kp:∀b u,b≠C→s6.heap.get? b=some u→h'.get? b=some u:=fun b u ne e=>sb.extBut b u ne e
          have nit:∀b u,H5 b=some u→b≠C:=fun b u e z=>by
            have:=I6.free
            rw [z] at e
            rw [show H5 C=none from this] at e;cases e
          refine I3.call' (s':={s6 with heap:=h'}) (ch:=fp) I6.os ⟨fun b o e n hb hx=>kp b o (nC b o e) (ub.keep b o e n hb hx),fun b o e n hb hx=>?_,ub.free,fun b o e hx=>?_,ub.tups,ub.frzs,ub.tbls⟩ (fun b u e=>?_) I6.bare (fun b hb=>?_)
          · obtain⟨sl,q⟩:=ub.slot b o e n hb hx
            exact⟨sl,kp b _ (nC b o e) q⟩
          · obtain⟨o',q⟩:=ub.there b o e hx
            exact⟨o',kp b _ (nC b o e) q⟩
          · refine(I6.hok b u e).stay (fun c v hc q=>kp c v ?_ q) (fun _ q=>q) fun _ _ q=>q
            rcases hc with z | z
            · rw [z];exact nit b u e
            · exact nit c _ z
          · obtain⟨f0,f1,f4,f5,f6,f7⟩:=f3 b hb
            exact⟨f5,f1,f6,f7⟩
        exact key s6.heap ⟨rfl,fun _ _=>rfl⟩
      have fC:i_ X pins H5 C:=I3.fpOk (by rw [hC];exact Nat.le_refl _) I6.free
      show wpAny (model X.prog X.w) X.A (assign (.Name nm posn) X.env (.ref D)) _ X.xe s6
      refine wpAny_assign_Name (oV (v:=.ref D) I7 hNd hix (Or.inl hlc) rfl (fun s' I' hsb=>?_) (Or.inr hlc))
      obtain⟨a,sb,ha⟩:=hsb
      have nCa:C≠a:=by
        rcases ha with z | z
        · rw [z];exact fC.2.1
        · exact fun e=>fC.2.2.2.2.1 _ _ z e.symm
      obtain⟨oN,esN,epN,hoN,rN⟩:=hn
      refine⟨m,⟨oN,esN,epN,(sb.2 C nCa).trans hoN,rN⟩,fun h' sb'=>wpAny_pure (wpAny_pure ?_)⟩
      have I8:aF X pins (σ.set ix (some (.ref D))) H5 {s' with heap:=h',toks:=s'.toks}:=I'.turnedL (t':=s'.toks) (fp:=[C]) (fun b hb=>by rw [List.mem_singleton.mp hb];exact fC) fun b o nb e=>sb'.extBut b o (by simpa using nb) e
      exact⟨_,H5,I8,qn⟩
    · refine cP (T.item (aV X scope cp tgN C s₃ (bi H2 D (.lst [])) fp) rfl rfl rfl hc i [] s5 σ5 H5 (fun _ _=>False) I5 (stat fr5) st5 go) fun r s6 ⟨u,hr,h6⟩=>?_
      subst hr
      refine⟨fun z=>(by cases z),fun v z=>?_⟩
      cases z
      refine cP h6 fun _ s7 ⟨x,H7,I7,r7,y7,st7,fr7⟩=>?_
      have I7':=I7.pinned (stat fr7) (T.obj _ _ st7)
      have again:∀{σ8:L2.St} {H8:Hp} {s8:Shared},aF (aV X scope cp tgN C s₃ (bi H2 D (.lst [])) fp) ([]++k_ fp s7.heap) σ8 H8 s8→N σ8 H8→∃m,m < n∧∃i σ' H',aF (aV X scope cp tgN C s₃ (bi H2 D (.lst [])) fp) [] σ' H' s8∧tn i s8.heap∧(∀b∈fp,H' b=none)∧W i m σ' H':=fun{σ8 H8 s8} I8 n8=>by
        obtain⟨m',hm,w8⟩:=hN σ8 H8 n8
        refine⟨m',hm,i+1,σ8,H8,I8.unpinned,T.keep _ _ _ st7 fun b hb o e=>(I8.pin (b,o) (List.mem_append_right _ (List.mem_append_right _ (dU hb e)))).1,fun b hb=>?_,w8⟩
        obtain⟨o,e,d⟩:=T.obj _ _ st7 b hb
        exact(I8.pin (b,o) (List.mem_append_right _ (List.mem_append_right _ (dU hb e)))).2.1
      refine cP (hg C s₃ (bi H2 D (.lst [])) fp _ s7 σ5 H7 x u _ I7' r7 (step x H7 y7)) fun _ s8 ⟨σ8,H8,I8,q8⟩=>?_
      refine cP (ht C s₃ (bi H2 D (.lst [])) fp _ s8 σ8 H8 _ I8 q8) fun ok s9 ⟨H9,I9,q9⟩=>?_
      cases ok with
      | false=>
        rw [if_neg Bool.false_ne_true] at q9 ⊢
        exact again I9 q9
      | true=>
        rw [if_pos rfl] at q9 ⊢
        refine cP (he C s₃ (bi H2 D (.lst [])) fp _ s9 σ8 H9 _ I9 q9) fun v s10 ⟨xv,H10,I10,r10,ys,hl,hz,n10⟩=>?_
        refine cP (k8 _ s10 σ8 H10 (.ref D) [xv] (.ref D) [v] (fun _ H=>N σ8 H) I10 rfl (.cons r10 .nil) ⟨D,ys,xv,rfl,rfl,hl,hz,n10⟩) fun _ s11 ⟨_,H11,I11,_,q11⟩=>?_
        exact again I11 q11
  exact codeAny_compStart_list loop (T.self X.A 0 _ _ _ hst4 loop)
end L2
namespace L2
open PySem PySem.Spec PyProof.Rows
mutual
def DA(K:PySem.W.Frag)(F:Hp):PyData→V→Prop
  | .none,v=>v=.non
  | .bool b,v=>v=.bl b
  | .int i,v=>v=.int i
  | .str x,v=>v=.str x
  | .tuple ds,v=>∃a xs,v=.ref a∧dO K F a xs∧aJ K F ds xs
  | .list ds,v=>∃a xs,v=.ref a∧eI K F a xs∧aJ K F ds xs
  | .dict kvs,v=>∃(a:Addr) (m:List (Int × Int)),v=.ref a∧F a=some (.dK (m.map fun p=>(Sum.inl p.1,V.int p.2)))∧kvs=m.map fun p=>(PyData.int p.1,PyData.int p.2)
def aJ(K:PySem.W.Frag)(F:Hp):List PyData→List V→Prop
  | [],xs=>xs=[]
  | d::ds,xs=>∃x r,xs=x::r∧DA K F d x∧aJ K F ds r
end
mutual
theorem DA.mono{K:PySem.W.Frag}{F F':Hp}(h:aA F F'):∀{d:PyData} {v:V},DA K F d v→DA K F' d v
  | .none,_,q=>by simp only [DA] at q ⊢;exact q
  | .bool b,_,q=>by simp only [DA] at q ⊢;exact q
  | .int i,_,q=>by simp only [DA] at q ⊢;exact q
  | .str x,_,q=>by simp only [DA] at q ⊢;exact q
  | .tuple ds,_,q=>by
    simp only [DA] at q ⊢
    obtain⟨a,xs,e,s,r⟩:=q
    exact⟨a,xs,e,h.tup s,aJ.mono h r⟩
  | .list ds,_,q=>by
    simp only [DA] at q ⊢
    obtain⟨a,xs,e,s,r⟩:=q
    exact⟨a,xs,e,h.seq s,aJ.mono h r⟩
  | .dict _,_,q=>by
    simp only [DA] at q ⊢
    obtain⟨a,m,e,s,k⟩:=q
    exact⟨a,m,e,h _ _ s,k⟩
theorem aJ.mono{K:PySem.W.Frag}{F F':Hp}(h:aA F F'):∀{ds:List PyData} {xs:List V},aJ K F ds xs→aJ K F' ds xs
  | [],_,q=>by simp only [aJ] at q ⊢;exact q
  | d::ds,_,q=>by
    simp only [aJ] at q ⊢
    obtain⟨x,r,e,a,b⟩:=q
    exact⟨x,r,e,DA.mono h a,aJ.mono h b⟩
end
section
variable{K:PySem.W.Frag}{F:Hp}
theorem aJ.len:∀{ds:List PyData} {xs:List V},aJ K F ds xs→ds.length=xs.length
  | [],_,q=>by simp only [aJ] at q;subst q;rfl
  | d::ds,_,q=>by
    simp only [aJ] at q
    obtain⟨x,r,e,a,b⟩:=q
    subst e
    simp [aJ.len b]
theorem aJ.get:∀{ds:List PyData} {xs:List V} {i:Nat} {d:PyData},aJ K F ds xs→ds[i]?=some d→∃v,xs[i]?=some v∧DA K F d v
  | [],_,_,_,_,h=>by simp at h
  | d::ds,_,i,d',q,h=>by
    simp only [aJ] at q
    obtain⟨x,r,e,a,b⟩:=q
    subst e
    cases i with
    | zero=>simp at h;subst h;exact⟨x,rfl,a⟩
    | succ i=>
      obtain⟨v,h1,h2⟩:=aJ.get (i:=i) b (by simpa using h)
      exact⟨v,by simpa using h1,h2⟩
theorem aJ.append:∀{ds es:List PyData} {xs ys:List V},aJ K F ds xs→aJ K F es ys→aJ K F (ds++es) (xs++ys)
  | [],_,_,_,q,s=>by simp only [aJ] at q;subst q;simpa using s
  | d::ds,es,_,ys,q,s=>by
    simp only [aJ] at q
    obtain⟨x,r,e,a,b⟩:=q
    subst e
    simp only [List.cons_append,aJ]
    exact⟨x,_,rfl,a,aJ.append b s⟩
theorem aJ.one{d:PyData}{v:V}(h:DA K F d v):aJ K F [d] [v]:=by simp only [aJ];exact⟨_,_,rfl,h,rfl⟩
theorem aJ.nil:aJ K F [] []:=by simp only [aJ]
theorem aJ.cons{d:PyData}{v:V}{ds:List PyData}{vs:List V}(h:DA K F d v)(r:aJ K F ds vs):aJ K F (d::ds) (v::vs):=by simp only [aJ];exact⟨_,_,rfl,h,r⟩
theorem aJ.drop:∀{ds:List PyData} {xs:List V} (n:Nat),aJ K F ds xs→aJ K F (ds.drop n) (xs.drop n)
  | _,_,0,q=>q
  | [],_,n+1,q=>by simp only [aJ] at q;subst q;exact aJ.nil
  | d::ds,_,n+1,q=>by
    simp only [aJ] at q
    obtain⟨x,r,e,a,b⟩:=q
    subst e
    simpa using aJ.drop n b
theorem aJ.take:∀{ds:List PyData} {xs:List V} (n:Nat),aJ K F ds xs→aJ K F (ds.take n) (xs.take n)
  | _,_,0,q=>by simpa using aJ.nil
  | [],_,n+1,q=>by simp only [aJ] at q;subst q;exact aJ.nil
  | d::ds,_,n+1,q=>by
    simp only [aJ] at q
    obtain⟨x,r,e,a,b⟩:=q
    subst e
    simpa using aJ.cons a (aJ.take n b)
theorem aJ.set{d:PyData}{v:V}(h:DA K F d v):∀{ds:List PyData} {xs:List V} (n:Nat),aJ K F ds xs→aJ K F (ds.set n d) (xs.set n v)
  | [],_,_,q=>by simp only [aJ] at q;subst q;exact aJ.nil
  | e::ds,_,n,q=>by
    simp only [aJ] at q
    obtain⟨x,r,e,a,b⟩:=q
    subst e
    cases n with
    | zero=>exact aJ.cons h b
    | succ n=>exact aJ.cons a (aJ.set h n b)
theorem aJ.erase:∀{ds:List PyData} {xs:List V} (n:Nat),aJ K F ds xs→aJ K F (ds.eraseIdx n) (xs.eraseIdx n)
  | [],_,_,q=>by simp only [aJ] at q;subst q;exact aJ.nil
  | e::ds,_,n,q=>by
    simp only [aJ] at q
    obtain⟨x,r,e,a,b⟩:=q
    subst e
    cases n with
    | zero=>exact b
    | succ n=>exact aJ.cons a (aJ.erase n b)
theorem aJ.ints:∀{ns:List Int} {xs:List V},aJ K F (ns.map .int) xs↔ xs=ns.map V.int
  | [],xs=>by simp [aJ]
  | n::ns,xs=>by
    simp only [List.map_cons,aJ,DA]
    constructor
    · rintro⟨x,r,e,rfl,q⟩;rw [e,aJ.ints.mp q]
    · rintro rfl;exact⟨_,_,rfl,rfl,aJ.ints.mpr rfl⟩
theorem aJ.bools:∀{ns:List Bool} {xs:List V},aJ K F (ns.map .bool) xs↔ xs=ns.map V.bl
  | [],xs=>by simp [aJ]
  | n::ns,xs=>by
    simp only [List.map_cons,aJ,DA]
    constructor
    · rintro⟨x,r,e,rfl,q⟩;rw [e,aJ.bools.mp q]
    · rintro rfl;exact⟨_,_,rfl,rfl,aJ.bools.mpr rfl⟩
theorem cH{i:Int}{v:V}:DA K F (.int i) v↔ v=.int i:=by simp only [DA]
theorem c_{b:Bool}{v:V}:DA K F (.bool b) v↔ v=.bl b:=by simp only [DA]
theorem gZ{v:V}:DA K F .none v↔ v=.non:=by simp only [DA]
theorem pA{x:Str}{v:V}:DA K F (.str x) v↔ v=.str x:=by simp only [DA]
theorem di{ds:List PyData}{v:V}:DA K F (.tuple ds) v↔ ∃a xs,v=.ref a∧dO K F a xs∧aJ K F ds xs:=by simp only [DA]
theorem dS{ds:List PyData}{v:V}:DA K F (.list ds) v↔ ∃a xs,v=.ref a∧eI K F a xs∧aJ K F ds xs:=by simp only [DA]
end
inductive Sv where
  | d (x:PyData)
  | l (xs:List PyData)
  /-- a list of lists that nobody else holds -/
  | n (xss:List (List PyData))
abbrev En:=List (Option Sv)
inductive Rv where
  | d (x:PyData)
  | l (xs:List PyData)
  | s (i:Nat)
def Fp(σ:L2.St)(e:En)(H:Hp)(i:Nat)(a:Addr):Prop:=(∃xs:List PyData,e[i]?=some (some (Sv.l xs))∧σ[i]?=some (some (.ref a)))∨
  ∃(xss:List (List PyData)) (l:Addr) (bs:List Addr),e[i]?=some (some (Sv.n xss))∧σ[i]?=some (some (.ref l))∧H l=some (.lst (bs.map V.ref))∧(a=l∨a∈bs)
def cV(σ:L2.St)(e:En)(H:Hp)(a:Addr):Prop:=∃i,Fp σ e H i a
structure bf (K:PySem.W.Frag) (F H:Hp) (σ:L2.St) (e:En):Prop where
  sm:aA F H
  len:σ.length=e.length
  dat:∀(i:Nat) (x:PyData),e[i]?=some (some (.d x))→∃v,σ[i]?=some (some v)∧DA K F x v
  own:∀(i:Nat) (xs:List PyData),e[i]?=some (some (.l xs))→∃l vs,σ[i]?=some (some (.ref l))∧F l=none∧H l=some (.lst vs)∧aJ K F xs vs
  nst:∀(i:Nat) (xss:List (List PyData)),e[i]?=some (some (.n xss))→∃(l:Addr) (bs:List Addr),σ[i]?=some (some (.ref l))∧F l=none∧H l=some (.lst (bs.map V.ref))∧bs.length=xss.length∧bs.Nodup∧l∉bs∧
    ∀(k:Nat) (b:Addr) (ys:List PyData),bs[k]?=some b→xss[k]?=some ys→F b=none∧∃us,H b=some (.lst us)∧aJ K F ys us
  fp:∀(i j:Nat) (a:Addr),Fp σ e H i a→Fp σ e H j a→i=j
theorem bf.inj{K:PySem.W.Frag}{F H:Hp}{σ:L2.St}{e:En}(R:bf K F H σ e)(i j:Nat)(xs ys:List PyData)(l:Addr)(h1:e[i]?=some (some (.l xs)))(h2:e[j]?=some (some (.l ys)))(h3:σ[i]?=some (some (.ref l)))(h4:σ[j]?=some (some (.ref l))):i=j:=R.fp i j l (.inl ⟨xs,h1,h3⟩) (.inl ⟨ys,h2,h4⟩)
theorem bf.fpAt{K:PySem.W.Frag}{F H:Hp}{σ:L2.St}{e:En}(R:bf K F H σ e){i:Nat}{a:Addr}(h:Fp σ e H i a):F a=none∧∃vs,H a=some (.lst vs):=by
  rcases h with ⟨xs,h1,h2⟩ | ⟨xss,l,bs,h1,h2,h3,h4⟩
  · obtain⟨l,vs,g1,g2,g3,_⟩:=R.own i xs h1
    rw [h2] at g1;cases g1
    exact⟨g2,vs,g3⟩
  · obtain⟨l',bs',g1,g2,g3,g4,g5,g6,g7⟩:=R.nst i xss h1
    rw [h2] at g1;cases g1
    rw [h3] at g3
    have e1:bs=bs':=by
      have:=HO.lst.inj (Option.some.inj g3)
      exact List.map_inj_right (fun _ _ z=>V.ref.inj z) |>.mp this
    subst e1
    rcases h4 with rfl | h4
    · exact⟨g2,_,h3⟩
    · obtain⟨k,hk⟩:=List.getElem?_of_mem h4
      have hk2:k < xss.length:=by rw [←g4];exact(List.getElem?_eq_some_iff.mp hk).1
      obtain⟨c1,us,c2,_⟩:=g7 k a xss[k] hk (List.getElem?_eq_getElem hk2)
      exact⟨c1,us,c2⟩
structure dJ (σ:L2.St) (F H:Hp) (e:En) (F' H':Hp) (e':En):Prop where
  sf:aA F F'
  dom:∀a,H' a=none→H a=none
  fr:∀a vs,F a=none→H a=some (.lst vs)→¬cV σ e H a→F' a=none
  lst:∀a vs,H a=some (.lst vs)→∃vs',H' a=some (.lst vs')
  tmp:∀a o,H a=some o→¬cV σ e H a→H' a=some o
  shp:∀i:Nat,(∃xs,e'[i]?=some (some (.l xs)))↔ (∃xs,e[i]?=some (some (.l xs)))
  ow:∀a,cV σ e' H' a→cV σ e H a∨H a=none
theorem dJ.refl(σ:L2.St)(F H:Hp)(e:En):dJ σ F H e F H e:=⟨aA.refl _,fun _ h=>h,fun _ _ h _ _=>h,fun _ vs h=>⟨vs,h⟩,fun _ _ h _=>h,fun _=>Iff.rfl,fun _ h=>.inl h⟩
theorem dJ.trans{σ:L2.St}{F H F1 H1 F2 H2:Hp}{e e1 e2:En}(x:dJ σ F H e F1 H1 e1)(y:dJ σ F1 H1 e1 F2 H2 e2):dJ σ F H e F2 H2 e2:=
  ⟨x.sf.trans y.sf,fun a h=>x.dom a (y.dom a h),fun a vs h n no=>let ⟨vs',q⟩:=x.lst a vs n;y.fr a vs' (x.fr a vs h n no) q (fun z=>(x.ow a z).elim no fun z=>by rw [n] at z;cases z),fun a vs h=>let ⟨vs',q⟩:=x.lst a vs h;y.lst a vs' q,
    fun a o h n=>y.tmp a o (x.tmp a o h n) (fun z=>(x.ow a z).elim n fun z=>by rw [h] at z;cases z),fun i=>(y.shp i).trans (x.shp i),fun a h=>(y.ow a h).elim (x.ow a) fun z=>.inr (x.dom a z)⟩
def cC(K:PySem.W.Frag)(σ:L2.St)(H0 F H:Hp)(e:En):Rv→V→Prop
  | .d x,v=>DA K F x v
  | .l xs,v=>∃l vs,v=.ref l∧H0 l=none∧F l=none∧H l=some (.lst vs)∧aJ K F xs vs∧¬cV σ e H l
  | .s i,v=>σ[i]?=some (some v)∧∃xs,e[i]?=some (some (.l xs))
section
variable{K:PySem.W.Frag}{σ:L2.St}{H0 F H F' H':Hp}{e e':En}{r:Rv}{v:V}
theorem cC.ext(h:cC K σ H0 F H e r v)(x:dJ σ F H e F' H' e'):cC K σ H0 F' H' e' r v:=by
  cases r with
  | d y=>exact DA.mono x.sf h
  | l xs=>
    obtain⟨l,vs,e1,h1,h2,h3,h4,h5⟩:=h
    exact⟨l,vs,e1,h1,x.fr l _ h2 h3 h5,x.tmp l _ h3 h5,aJ.mono x.sf h4,fun z=>(x.ow l z).elim h5 fun z=>by rw [h3] at z;cases z⟩
  | s i=>exact⟨h.1,(x.shp i).mpr h.2⟩
theorem cC.weak{H1:Hp}(h:cC K σ H1 F H e r v)(d:∀a,H1 a=none→H0 a=none):cC K σ H0 F H e r v:=by
  cases r with
  | d y=>exact h
  | l xs=>
    obtain⟨l,vs,e1,h1,r⟩:=h
    exact⟨l,vs,e1,d l h1,r⟩
  | s i=>exact h
theorem bf.ownH(R:bf K F H σ e)(a:Addr)(h:cV σ e H a):H a≠none:=by
  obtain⟨i,h⟩:=h
  obtain⟨_,vs,h2⟩:=R.fpAt h
  rw [h2];simp
theorem bf.freeF(R:bf K F H σ e){p:Addr}(hp:H p=none):F p=none:=R.sm.free hp
theorem yP(R:bf K F H σ e)(h:∀l bs,H l=some (.lst bs)→cV σ e H l→H' l=some (.lst bs)){i:Nat}{a:Addr}:Fp σ e H' i a↔ Fp σ e H i a:=by
  have key:∀xss l,e[i]?=some (some (.n xss))→σ[i]?=some (some (.ref l))→H' l=H l:=fun xss l h1 h2=>by
    obtain⟨l',bs,g1,g2,g3,_⟩:=R.nst i xss h1
    rw [h2] at g1;cases g1
    rw [g3]
    exact h l _ g3 ⟨i,.inr ⟨xss,l,bs,h1,h2,g3,.inl rfl⟩⟩
  constructor
  · rintro(h1 | ⟨xss,l,bs,h1,h2,h3,h4⟩)
    · exact .inl h1
    · exact .inr ⟨xss,l,bs,h1,h2,by rw [←key xss l h1 h2];exact h3,h4⟩
  · rintro(h1 | ⟨xss,l,bs,h1,h2,h3,h4⟩)
    · exact .inl h1
    · exact .inr ⟨xss,l,bs,h1,h2,by rw [key xss l h1 h2];exact h3,h4⟩
theorem bf.keep(R:bf K F H σ e)(sF:aA F F')(sm:aA F' H')(hf:∀a,cV σ e H a→F' a=none)(hh:∀a o,cV σ e H a→H a=some o→H' a=some o):bf K F' H' σ e∧∀a,cV σ e H' a↔ cV σ e H a:=by
  have fs:∀{i a},Fp σ e H' i a↔ Fp σ e H i a:=fun{i a}=>yP R fun l bs h1 h2=>hh l _ h2 h1
  refine⟨⟨sm,R.len,fun i x h=>let ⟨v,h1,h2⟩:=R.dat i x h;⟨v,h1,DA.mono sF h2⟩,fun i xs h=>?_,fun i xss h=>?_,fun i j a h1 h2=>R.fp i j a (fs.mp h1) (fs.mp h2)⟩,fun a=>⟨fun⟨i,h⟩=>⟨i,fs.mp h⟩,fun⟨i,h⟩=>⟨i,fs.mpr h⟩⟩⟩
  · obtain⟨l,vs,h1,h2,h3,h4⟩:=R.own i xs h
    have o:cV σ e H l:=⟨i,.inl ⟨xs,h,h1⟩⟩
    exact⟨l,vs,h1,hf l o,hh l _ o h3,h4.mono sF⟩
  · obtain⟨l,bs,h1,h2,h3,h4,h5,h6,h7⟩:=R.nst i xss h
    have o:cV σ e H l:=⟨i,.inr ⟨xss,l,bs,h,h1,h3,.inl rfl⟩⟩
    refine⟨l,bs,h1,hf l o,hh l _ o h3,h4,h5,h6,fun k b ys g1 g2=>?_⟩
    obtain⟨c1,us,c2,c3⟩:=h7 k b ys g1 g2
    have ob:cV σ e H b:=⟨i,.inr ⟨xss,l,bs,h,h1,h3,.inr (List.mem_of_getElem? g1)⟩⟩
    exact⟨hf b ob,us,hh b _ ob c2,c3.mono sF⟩
theorem bf.same(R:bf K F H σ e)(s:aA H H'):bf K F H' σ e∧dJ σ F H e F H' e:=by
  obtain⟨R',o'⟩:=R.keep (aA.refl F) (R.sm.trans s) (fun a ⟨i,h⟩=>(R.fpAt h).1) fun a o _ h=>s a o h
  exact⟨R',⟨aA.refl _,fun a h=>s.free h,fun _ _ h _ _=>h,fun a vs h=>⟨vs,s _ _ h⟩,fun a o h _=>s a o h,fun _=>Iff.rfl,fun a h=>.inl ((o' a).mp h)⟩⟩
theorem bf.freeze(R:bf K F H σ e){p:Addr}{o:HO}(hF:F p=none)(hp:H p=some o)(hn:¬cV σ e H p):bf K (bi F p o) H σ e∧aA F (bi F p o):=by
  have sF:aA F (bi F p o):=aA.new hF
  refine⟨(R.keep sF (fun b u q=>?_) (fun a ha=>?_) fun _ _ _ h=>h).1,sF⟩
  · by_cases z:b=p
    · subst z;rw [aG] at q;cases q;exact hp
    · rw [aM z] at q;exact R.sm _ _ q
  · obtain⟨i,hi⟩:=ha
    have z:a≠p:=fun z=>hn ⟨i,by rw [←z];exact hi⟩
    rw [aM z];exact(R.fpAt hi).1
theorem bf.notOwn(R:bf K F H σ e){p:Addr}{o:HO}(hp:H p=some o)(hl:∀vs,o≠.lst vs):¬cV σ e H p:=fun⟨i,h⟩=>by
  obtain⟨_,vs,g⟩:=R.fpAt h
  rw [hp] at g;cases g
  exact hl _ rfl
theorem bf.newT(R:bf K F H σ e){p:Addr}{vs:List V}(hp:H p=none):bf K (bi F p (.tup vs)) (bi H p (.tup vs)) σ e∧dJ σ F H e (bi F p (.tup vs)) (bi H p (.tup vs)) e:=by
  have hF:=R.freeF hp
  obtain⟨R1,X1⟩:=R.same (aA.new hp (o:=.tup vs))
  obtain⟨R2,s2⟩:=R1.freeze (p:=p) hF aG (R1.notOwn aG (fun _ z=>nomatch z))
  refine⟨R2,⟨s2,X1.dom,fun a ws h n _=>?_,X1.lst,X1.tmp,X1.shp,X1.ow⟩⟩
  have z:a≠p:=fun z=>by rw [z,hp] at n;cases n
  rw [aM z];exact h
theorem bf.sameOwn(R:bf K F H σ e)(s:aA H H')(a:Addr):cV σ e H' a↔ cV σ e H a:=(R.keep (aA.refl F) (R.sm.trans s) (fun a ⟨i,h⟩=>(R.fpAt h).1) fun a o _ h=>s a o h).2 a
theorem bf.newL(R:bf K F H σ e){p:Addr}{vs:List V}(hp:H p=none):bf K F (bi H p (.lst vs)) σ e∧dJ σ F H e F (bi H p (.lst vs)) e∧F p=none∧¬cV σ e (bi H p (.lst vs)) p:=
  ⟨(R.same (aA.new hp)).1,(R.same (aA.new hp)).2,R.freeF hp,fun z=>R.ownH p ((R.sameOwn (aA.new hp) p).mp z) hp⟩
theorem bf.growT(R:bf K F H σ e){p:Addr}{xs:List V}(s:aA H H')(hp:dO K H' p xs):∃F',bf K F' H' σ e∧dJ σ F H e F' H' e∧dO K F' p xs:=by
  obtain⟨R1,X1⟩:=R.same s
  rcases hp with hp | hp
  · have key:∀o,H' p=some o→(∀vs,o≠.lst vs)→(∀G:Hp,G p=some o→Rd G p (.tup xs))→∃F',bf K F' H' σ e∧dJ σ F H e F' H' e∧dO K F' p xs:=by
      intro o ho hl hr
      cases q:F p with
      | some u=>
        have:=R1.sm _ _ q
        rw [ho] at this;cases this
        exact⟨F,R1,X1,.inl (hr F q)⟩
      | none=>
        obtain⟨R2,s2⟩:=R1.freeze q ho (R1.notOwn ho hl)
        refine⟨_,R2,⟨s2,X1.dom,fun a ws h n _=>?_,X1.lst,X1.tmp,X1.shp,X1.ow⟩,.inl (hr _ aG)⟩
        have z:a≠p:=fun z=>by rw [z] at n;rw [s _ _ n] at ho;cases ho;exact hl _ rfl
        rw [aM z];exact h
    rcases hp with hp | ⟨ob,hp⟩
    · exact key _ hp (fun _ z=>nomatch z) fun G g=>.inl g
    · exact key _ hp (fun _ z=>nomatch z) fun G g=>.inr ⟨ob,g⟩
  · exact⟨F,R1,X1,.inr hp⟩
theorem cC.frozen(R:bf K F H σ e){xs:List PyData}(h:cC K σ H0 F H e (.l xs) v):∃F',bf K F' H σ e∧aA F F'∧DA K F' (.list xs) v∧(∀a,F a=none→H0 a≠none→F' a=none):=by
  obtain⟨l,vs,rfl,h1,h2,h3,h4,h5⟩:=h
  obtain⟨R2,s2⟩:=R.freeze h2 h3 h5
  refine⟨_,R2,s2,?_,fun a ha hn=>?_⟩
  · rw [dS]
    exact⟨l,vs,rfl,.inl (.inl aG),aJ.mono s2 h4⟩
  · have z:a≠l:=fun z=>hn (by rw [z];exact h1)
    rw [aM z];exact ha
def dY(e:En):Rv→Option (Bool × List PyData)
  | .d (.tuple xs)=>some (false,xs)
  | .d (.list xs)=>some (true,xs)
  | .l xs=>some (true,xs)
  | .s i=>match e[i]? with
    | some (some (.l xs))=>some (true,xs)
    | _=>none
  | _=>none
theorem dH(R:bf K F H σ e)(h:cC K σ H0 F H e r v){b:Bool}{xs:List PyData}(q:dY e r=some (b,xs)):
    ∃p vs,v=.ref p∧aJ K F xs vs∧(if b=true then eI K H p vs else dO K H p vs):=by
  cases r with
  | d x=>
    cases x with
    | tuple ds=>
      cases q
      obtain⟨a,ys,e1,e2,e3⟩:=di.mp h
      exact⟨a,ys,e1,e3,R.sm.tup e2⟩
    | list ds=>
      cases q
      obtain⟨a,ys,e1,e2,e3⟩:=dS.mp h
      exact⟨a,ys,e1,e3,R.sm.seq e2⟩
    | _=>cases q
  | l ys=>
    cases q
    obtain⟨l,vs,e1,h1,h2,h3,h4,_⟩:=h
    exact⟨l,vs,e1,h4,.inl (.inl h3)⟩
  | s i=>
    obtain⟨h1,ys,h2⟩:=h
    simp only [dY,h2] at q
    cases q
    obtain⟨l,vs,e1,e2,e3,e4⟩:=R.own i _ h2
    rw [h1] at e1;cases e1
    exact⟨l,vs,rfl,e4,.inl (.inl e3)⟩
end
end L2
namespace L2
open PySem PySem.Spec PyProof.Rows
abbrev FE:=En→Option (Rv × En)
abbrev FT:=En→Option (Bool × En)
abbrev FA:=En→Option (List Rv × En)
def b7(K:PySem.W.Frag)(σ:L2.St)(H0 F H:Hp)(e:En):List Rv→List V→Prop
  | [],vs=>vs=[]
  | r::rs,vs=>∃v ws,vs=v::ws∧cC K σ H0 F H e r v∧b7 K σ H0 F H e rs ws
def fE(K:PySem.W.Frag)(f:FE):TE:=fun σ H Q=>∃F e r e',bf K F H σ e∧f e=some (r,e')∧∀F' H' v,dJ σ F H e F' H' e'→bf K F' H' σ e'→cC K σ H F' H' e' r v→Q v H'
def fT(K:PySem.W.Frag)(f:FT):TT:=fun σ H Q=>∃F e b e',bf K F H σ e∧f e=some (b,e')∧∀F' H',dJ σ F H e F' H' e'→bf K F' H' σ e'→Q b H'
def fA(K:PySem.W.Frag)(f:FA):TA:=fun σ H Q=>∃F e rs e',bf K F H σ e∧f e=some (rs,e')∧∀F' H' vs,dJ σ F H e F' H' e'→bf K F' H' σ e'→b7 K σ H F' H' e' rs vs→Q vs H'
theorem PE.mono{X:Cx}{e:Expr}{t t':TE}(h:PE X e t)(m:∀σ H Q,t' σ H Q→t σ H Q):PE X e t':=fun pins s σ H Q I q=>h pins s σ H Q I (m σ H Q q)
theorem PT.mono{X:Cx}{e:Expr}{t t':TT}(h:PT X e t)(m:∀σ H Q,t' σ H Q→t σ H Q):PT X e t':=fun pins s σ H Q I q=>h pins s σ H Q I (m σ H Q q)
theorem PW.mono{X:Cx}{e:Expr}{t t':TT}(h:PW X e t)(m:∀σ H Q,t' σ H Q→t σ H Q):PW X e t':=fun wh pins s σ H Q I q=>h wh pins s σ H Q I (m σ H Q q)
theorem PA.mono{X:Cx}{es:List Expr}{t t':TA}(h:PA X es t)(m:∀σ H Q,t' σ H Q→t σ H Q):PA X es t':=fun pos pins s σ H Q I q=>h pos pins s σ H Q I (m σ H Q q)
section
variable{K:PySem.W.Frag}{σ:L2.St}{H0 F H F' H':Hp}{e e':En}
theorem b7.ext:∀{rs:List Rv} {vs:List V},b7 K σ H0 F H e rs vs→dJ σ F H e F' H' e'→b7 K σ H0 F' H' e' rs vs
  | [],_,h,_=>h
  | r::rs,_,h,x=>by
    obtain⟨v,ws,rfl,h1,h2⟩:=h
    exact⟨v,ws,rfl,h1.ext x,b7.ext h2 x⟩
theorem b7.weak{H1:Hp}(d:∀a,H1 a=none→H0 a=none):∀{rs:List Rv} {vs:List V},b7 K σ H1 F H e rs vs→b7 K σ H0 F H e rs vs
  | [],_,h=>h
  | r::rs,_,h=>by
    obtain⟨v,ws,rfl,h1,h2⟩:=h
    exact⟨v,ws,rfl,h1.weak d,b7.weak d h2⟩
theorem dJ.frz{F'':Hp}(x:dJ σ F H e F' H' e')(s:aA F' F'')(h:∀a,F' a=none→H a≠none→F'' a=none):dJ σ F H e F'' H' e':=
  ⟨x.sf.trans s,x.dom,fun a vs h1 h2 h3=>h a (x.fr a vs h1 h2 h3) (by rw [h2];simp),x.lst,x.tmp,x.shp,x.ow⟩
def je:List Rv→Option (List PyData)
  | []=>some []
  | .d x::rs=>(je rs).map (x::·)
  | .l xs::rs=>(je rs).map (.list xs::·)
  | .s _::_=>none
theorem b7.frozen:∀{rs:List Rv} {vs:List V} {ds:List PyData} {F:Hp},bf K F H σ e→b7 K σ H0 F H e rs vs→je rs=some ds→
    ∃F',bf K F' H σ e∧aA F F'∧aJ K F' ds vs∧(∀a,F a=none→H0 a≠none→F' a=none)
  | [],_,_,F,R,h,q=>by
    cases q
    have h':_=[]:=h
    subst h'
    exact⟨F,R,aA.refl _,aJ.nil,fun _ h _=>h⟩
  | .d x::rs,_,ds,F,R,h,q=>by
    obtain⟨v,ws,rfl,h1,h2⟩:=h
    obtain⟨ds',q1,rfl⟩:=Option.map_eq_some_iff.mp q
    obtain⟨F',R',s',d',f'⟩:=b7.frozen R h2 q1
    exact⟨F',R',s',.cons (DA.mono s' h1) d',f'⟩
  | .l xs::rs,_,ds,F,R,h,q=>by
    obtain⟨v,ws,rfl,h1,h2⟩:=h
    obtain⟨ds',q1,rfl⟩:=Option.map_eq_some_iff.mp q
    obtain⟨F',R',s',d',f'⟩:=b7.frozen R h2 q1
    obtain⟨l,us,rfl,g1,g2,g3,g4,g5⟩:=h1
    cases hl:F' l with
    | none=>
      have h1':cC K σ H0 F' H e (.l xs) (.ref l):=⟨l,us,rfl,g1,hl,g3,aJ.mono s' g4,g5⟩
      obtain⟨F2,R2,s2,d2,f2⟩:=h1'.frozen R'
      exact⟨F2,R2,s'.trans s2,.cons d2 (aJ.mono s2 d'),fun a ha hn=>f2 a (f' a ha hn) hn⟩
    | some o=>
      have:=R'.sm _ _ hl
      rw [g3] at this;cases this
      exact⟨F',R',s',.cons (dS.mpr ⟨l,us,rfl,.inl (.inl hl),aJ.mono s' g4⟩) d',f'⟩
end
section
variable{X:Cx}{K:PySem.W.Frag}{a b c:Expr}{fa fb:FE}{ft fu:FT}{pos:Pos}{es:List Expr}{fs:FA}
def ae(i:Nat):FE:=fun e=>match e[i]? with
  | some (some (.d x))=>some (.d x,e)
  | some (some (.l _))=>some (.s i,e)
  | _=>none
def vC(x:PyData):FE:=fun e=>some (.d x,e)
theorem Ak{i:Nat}{σ:L2.St}{H:Hp}{Q:VK}(h:fE K (ae i) σ H Q):EC i σ H Q:=by
  obtain⟨F,e,r,e',R,hf,q⟩:=h
  unfold ae at hf
  match h1:e[i]?,hf with
  | some (some (.d x)),hf=>
    cases hf
    obtain⟨v,h2,h3⟩:=R.dat i x h1
    exact⟨v,h2,q F H v (dJ.refl _ _ _ _) R h3⟩
  | some (some (.n _)),hf=>cases hf
  | some (some (.l xs)),hf=>
    cases hf
    obtain⟨l,vs,h2,h3⟩:=R.own i xs h1
    exact⟨_,h2,q F H _ (dJ.refl _ _ _ _) R ⟨h2,xs,h1⟩⟩
  | some none,hf=>cases hf
  | none,hf=>cases hf
theorem qv(i:Nat){x:Str}{pos:Pos}(hN:X.N[i]?=some x)(hv:C7 X.env.scope x)(hd:(x==("__debug__":Str))=false)(hcd:(x==("__classdict__":Str))=false):PE X (.Name x pos) (fE K (ae i)):=(BV hN hv hd hcd).mono fun _ _ _ h=>Ak h
theorem rD{x:PyData}{v:V}{σ:L2.St}{H:Hp}{Q:VK}(hx:∀F,DA K F x v)(h:fE K (vC x) σ H Q):tC v σ H Q:=by
  obtain⟨F,e,r,e',R,hf,q⟩:=h
  cases hf
  exact q F H v (dJ.refl _ _ _ _) R (hx F)
theorem ac{i j pos}:PE X (.Constant (.int i) j pos) (fE K (vC (.int i))):=sJ.mono fun _ _ _ h=>rD (fun _=>cH.mpr rfl) h
theorem cq{b j pos}:PE X (.Constant (.bool b) j pos) (fE K (vC (.bool b))):=DR.mono fun _ _ _ h=>rD (fun _=>c_.mpr rfl) h
theorem pZ{j pos}:PE X (.Constant .none j pos) (fE K (vC .none)):=BQ.mono fun _ _ _ h=>rD (fun _=>gZ.mpr rfl) h
theorem nA{x j pos}:PE X (.Constant (.str x) j pos) (fE K (vC (.str x))):=BU.mono fun _ _ _ h=>rD (fun _=>pA.mpr rfl) h
theorem zW{x:Str}{v:V}{u:Value}{pos:Pos}{y:PyData}(hg:Gl X x)(hm:X.mg x=some u)(r:bu v u)(hy:∀F,DA K F y v)(hd:(x==("__debug__":Str))=false):PE X (.Name x pos) (fE K (vC y)):=(zC hg hm r hd).mono fun _ _ _ h=>rD hy h
def gq(K:PySem.W.Frag)(r:R2)(g:En→Rv→Rv→Option Rv):Prop:=
  ∀(σ:L2.St) (H0 F H:Hp) (e:En) (x y z:Rv) (v u:V) (Q:VK),bf K F H σ e→cC K σ H0 F H e x v→cC K σ H0 F H e y u→g e x y=some z→
    (∀F' H' w,dJ σ F H e F' H' e→bf K F' H' σ e→cC K σ H F' H' e z w→Q w H')→r v u H Q
def ao(g:En→Rv→Rv→Option Rv)(fa fb:FE):FE:=fun e=>(fa e).bind fun p=>(fb p.2).bind fun q=>(g q.2 p.1 q.1).map fun z=>(z,q.2)
theorem qb{r:R2}{g:En→Rv→Rv→Option Rv}(ho:gq K r g){σ:L2.St}{H:Hp}{Q:VK}(h:fE K (ao g fa fb) σ H Q):Ez r (fE K fa) (fE K fb) σ H Q:=by
  obtain⟨F,e,z,e2,R,hf,q⟩:=h
  unfold ao at hf
  obtain⟨⟨x,e1⟩,h1,hf⟩:=Option.bind_eq_some_iff.mp hf
  obtain⟨⟨y,e2'⟩,h2,hf⟩:=Option.bind_eq_some_iff.mp hf
  obtain⟨z',h3,hf⟩:=Option.map_eq_some_iff.mp hf
  cases hf
  refine⟨F,e,x,e1,R,h1,fun F1 H1 v X1 R1 A1=>⟨F1,e1,y,_,R1,h2,fun F2 H2 u X2 R2 A2=>?_⟩⟩
  have X12:=X1.trans X2
  refine ho σ H F2 H2 _ x y _ v u Q R2 (A1.ext X2) (A2.weak X1.dom) h3 fun F3 H3 w X3 R3 A3=>?_
  exact q F3 H3 w (X12.trans X3) R3 (A3.weak X12.dom)
theorem oO{op:Operator}{r:R2}{g:En→Rv→Rv→Option Rv}(hr:gu X (binaryOp op) r)(ho:gq K r g)(ha:PE X a (fE K fa))(hb:PE X b (fE K fb)):PE X (.BinOp a op b pos) (fE K (ao g fa fb)):=(DY hr ha hb).mono fun _ _ _ h=>qb ho h
theorem B_{op:CmpOp}{r:R2}{g:En→Rv→Rv→Option Rv}(hr:gu X (compareOp op) r)(ho:gq K r g)(ha:PE X a (fE K fa))(hb:PE X b (fE K fb))(hm:behindInMarks op b=false):PE X (.Compare a [op] [b] pos) (fE K (ao g fa fb)):=(zz hr ha hb hm).mono fun _ _ _ h=>qb ho h
theorem D8{r:R2}{g:En→Rv→Rv→Option Rv}(hr:yG X r)(ho:gq K r g)(ha:PE X a (fE K fa))(hb:PE X b (fE K fb))(hs:pd b):PE X (.Subscript a b pos) (fE K (ao g fa fb)):=(DX hr ha hb hs).mono fun _ _ _ h=>qb ho h
def qe(g:En→Rv→Option Rv)(fa:FE):FE:=fun e=>(fa e).bind fun p=>(g p.2 p.1).map fun z=>(z,p.2)
def C6(K:PySem.W.Frag)(r:V→Hp→VK→Prop)(g:En→Rv→Option Rv):Prop:=
  ∀(σ:L2.St) (H0 F H:Hp) (e:En) (x z:Rv) (v:V) (Q:VK),bf K F H σ e→cC K σ H0 F H e x v→g e x=some z→
    (∀F' H' w,dJ σ F H e F' H' e→bf K F' H' σ e→cC K σ H F' H' e z w→Q w H')→r v H Q
theorem yt{r:V→Hp→VK→Prop}{g:En→Rv→Option Rv}(ho:C6 K r g){σ:L2.St}{H:Hp}{Q:VK}(h:fE K (qe g fa) σ H Q):Gd r (fE K fa) σ H Q:=by
  obtain⟨F,e,z,e2,R,hf,q⟩:=h
  unfold qe at hf
  obtain⟨⟨x,e1⟩,h1,hf⟩:=Option.bind_eq_some_iff.mp hf
  obtain⟨z',h3,hf⟩:=Option.map_eq_some_iff.mp hf
  cases hf
  refine⟨F,e,x,_,R,h1,fun F1 H1 v X1 R1 A1=>?_⟩
  refine ho σ H F1 H1 _ x _ v Q R1 A1 h3 fun F3 H3 w X3 R3 A3=>?_
  exact q F3 H3 w (X1.trans X3) R3 (A3.weak X1.dom)
theorem D9{op:UnaryOp}{r:V→Hp→VK→Prop}{g:En→Rv→Option Rv}(hr:EQ X (unaryOp op) r)(ho:C6 K r g)(ha:PE X a (fE K fa)):PE X (.UnaryOp op a pos) (fE K (qe g fa)):=(DZ hr ha).mono fun _ _ _ h=>yt ho h
def e7:Rv→Option Bool
  | .d (.bool b)=>some b
  | _=>none
theorem dQ{σ:L2.St}{H0 F H:Hp}{e:En}{r:Rv}{v:V}{b:Bool}(h:cC K σ H0 F H e r v)(q:e7 r=some b):v=.bl b:=by
  unfold e7 at q
  split at q
  · cases q;exact c_.mp (show DA K F (.bool _) v from h)
  · cases q
theorem dD{σ:L2.St}{H0 F H:Hp}{e:En}{b:Bool}:cC K σ H0 F H e (.d (.bool b)) (.bl b):=(c_ (K:=K) (F:=F)).mpr rfl
def aL(f:FE):FT:=fun e=>(f e).bind fun p=>(e7 p.1).map fun b=>(b,p.2)
theorem rL{σ:L2.St}{H:Hp}{Q:Bool→Hp→Prop}(h:fT K (aL fa) σ H Q):fE K fa σ H fun x H'=>∃k,x=.bl k∧Q k H':=by
  obtain⟨F,e,b,e1,R,hf,q⟩:=h
  unfold aL at hf
  obtain⟨⟨x,e1'⟩,h1,hf⟩:=Option.bind_eq_some_iff.mp hf
  obtain⟨b',h3,hf⟩:=Option.map_eq_some_iff.mp hf
  cases hf
  exact⟨F,e,x,_,R,h1,fun F1 H1 v X1 R1 A1=>⟨_,dQ A1 h3,q F1 H1 X1 R1⟩⟩
theorem Ca{op:CmpOp}{r:R2}{g:En→Rv→Rv→Option Rv}(hr:gu X (compareOp op) r)(ho:gq K r g)(ha:PE X a (fE K fa))(hb:PE X b (fE K fb))(hm:behindInMarks op b=false):PT X (.Compare a [op] [b] pos) (fT K (aL (ao g fa fb))):=
  (zR hr ha hb hm).mono fun σ H Q h=>by
    obtain⟨F,e,z,e2,R,hf,q⟩:=rL h
    exact qb ho ⟨F,e,z,e2,R,hf,q⟩
theorem cj{e:Expr}(h:PE X e (fE K fa))(he:∀whole,isTrue e X.env whole=(do let v ←whole;standAt e.pos;holding [v] (truthy v))):PT X e (fT K (aL fa)):=(B7 h he).mono fun _ _ _ h=>rL h
def nW(f g:FT):FT:=fun e=>(f e).bind fun p=>if p.1=true then g p.2 else some (false,p.2)
def rH(f g:FT):FT:=fun e=>(f e).bind fun p=>if p.1=true then some (true,p.2) else g p.2
def fK(f:FT):FT:=fun e=>(f e).map fun p=>(!p.1,p.2)
theorem Ah{σ:L2.St}{H:Hp}{Q:Bool→Hp→Prop}(h:fT K (nW ft fu) σ H Q):Er (fT K ft) (fT K fu) σ H Q:=by
  obtain⟨F,e,b,e1,R,hf,q⟩:=h
  unfold nW at hf
  obtain⟨⟨x,e1'⟩,h1,hf⟩:=Option.bind_eq_some_iff.mp hf
  refine⟨F,e,x,e1',R,h1,fun F1 H1 X1 R1=>?_⟩
  cases x with
  | true=>exact⟨F1,e1',b,e1,R1,hf,fun F2 H2 X2 R2=>q F2 H2 (X1.trans X2) R2⟩
  | false=>cases hf;exact q F1 H1 X1 R1
theorem CM{σ:L2.St}{H:Hp}{Q:Bool→Hp→Prop}(h:fT K (rH ft fu) σ H Q):Gc (fT K ft) (fT K fu) σ H Q:=by
  obtain⟨F,e,b,e1,R,hf,q⟩:=h
  unfold rH at hf
  obtain⟨⟨x,e1'⟩,h1,hf⟩:=Option.bind_eq_some_iff.mp hf
  refine⟨F,e,x,e1',R,h1,fun F1 H1 X1 R1=>?_⟩
  cases x with
  | false=>exact⟨F1,e1',b,e1,R1,hf,fun F2 H2 X2 R2=>q F2 H2 (X1.trans X2) R2⟩
  | true=>cases hf;exact q F1 H1 X1 R1
theorem Aj{σ:L2.St}{H:Hp}{Q:Bool→Hp→Prop}(h:fT K (fK ft) σ H Q):Ex (fT K ft) σ H Q:=by
  obtain⟨F,e,b,e1,R,hf,q⟩:=h
  unfold fK at hf
  obtain⟨⟨x,e1'⟩,h1,hf⟩:=Option.map_eq_some_iff.mp hf
  cases hf
  exact⟨F,e,x,_,R,h1,fun F1 H1 X1 R1=>q F1 H1 X1 R1⟩
variable{fM:List Expr}
theorem md(ha:PT X a (fT K ft)):PW X (.BoolOp .And [a] pos) (fT K ft):=zU ha
theorem gj(ha:PT X a (fT K ft)):PW X (.BoolOp .Or [a] pos) (fT K ft):=B9 ha
theorem p6(ha:PT X a (fT K ft))(hb:PW X (.BoolOp .And (b::fM) pos) (fT K fu)):PW X (.BoolOp .And (a::b::fM) pos) (fT K (nW ft fu)):=(B8 ha hb).mono fun _ _ _ h=>Ah h
theorem iN(ha:PT X a (fT K ft))(hb:PW X (.BoolOp .Or (b::fM) pos) (fT K fu)):PW X (.BoolOp .Or (a::b::fM) pos) (fT K (rH ft fu)):=(D6 ha hb).mono fun _ _ _ h=>CM h
theorem cN(ha:PT X a (fT K ft)):PT X (.UnaryOp .Not a pos) (fT K (fK ft)):=(B6 ha).mono fun _ _ _ h=>Aj h
theorem kc{e:Expr}(h:PW X e (fT K ft)):PT X e (fT K ft):=h.pt
def iT(f g:FE):FE:=fun e=>(f e).bind fun p=>(e7 p.1).bind fun b=>if b=true then g p.2 else some (.d (.bool false),p.2)
def CL(f g:FE):FE:=fun e=>(f e).bind fun p=>(e7 p.1).bind fun b=>if b=true then some (.d (.bool true),p.2) else g p.2
def nX(f:FE):FE:=fun e=>(f e).bind fun p=>(e7 p.1).map fun b=>(.d (.bool (!b)),p.2)
theorem li(ha:PE X a (fE K fa))(hb:PE X (.BoolOp .And (b::fM) pos) (fE K fb)):PE X (.BoolOp .And (a::b::fM) pos) (fE K (iT fa fb)):=(BO ha hb).mono fun σ H Q h=>by
  obtain⟨F,e,z,e2,R,hf,q⟩:=h
  unfold iT at hf
  obtain⟨⟨x,e1⟩,h1,hf⟩:=Option.bind_eq_some_iff.mp hf
  obtain⟨b,h2,hf⟩:=Option.bind_eq_some_iff.mp hf
  refine⟨F,e,x,e1,R,h1,fun F1 H1 v X1 R1 A1=>⟨b,dQ A1 h2,?_⟩⟩
  cases b with
  | true=>exact⟨F1,e1,z,e2,R1,hf,fun F2 H2 w X2 R2 A2=>q F2 H2 w (X1.trans X2) R2 (A2.weak X1.dom)⟩
  | false=>cases hf;exact q F1 H1 _ X1 R1 dD
theorem lj{op}(h:PE X a (fE K fa)):PE X (.BoolOp op [a] pos) (fE K fa):=BS h
theorem xT(ha:PE X a (fE K fa)):PE X (.UnaryOp .Not a pos) (fE K (nX fa)):=(BR ha).mono fun σ H Q h=>by
  obtain⟨F,e,z,e2,R,hf,q⟩:=h
  unfold nX at hf
  obtain⟨⟨x,e1⟩,h1,hf⟩:=Option.bind_eq_some_iff.mp hf
  obtain⟨b,h2,hf⟩:=Option.map_eq_some_iff.mp hf
  cases hf
  exact⟨F,e,x,_,R,h1,fun F1 H1 v X1 R1 A1=>⟨b,dQ A1 h2,q F1 H1 _ X1 R1 dD⟩⟩
def FN(t:FT)(f g:FE):FE:=fun e=>(t e).bind fun p=>if p.1=true then f p.2 else g p.2
def ag:FA:=fun e=>some ([],e)
def aa(fa:FE)(fs:FA):FA:=fun e=>(fa e).bind fun p=>(fs p.2).map fun q=>(p.1::q.1,q.2)
theorem ab:PA X [] (fA K ag):=xn.mono fun σ H Q h=>by
  obtain⟨F,e,r,e',R,hf,q⟩:=h
  cases hf
  exact q F H [] (dJ.refl _ _ _ _) R rfl
theorem Fu(ha:PE X a (fE K fa))(hr:PA X es (fA K fs))(h:PySem.W.isStarred a=false):PA X (a::es) (fA K (aa fa fs)):=(BN ha hr h).mono fun σ H Q h=>by
  obtain⟨F,e,z,e2,R,hf,q⟩:=h
  unfold aa at hf
  obtain⟨⟨x,e1⟩,h1,hf⟩:=Option.bind_eq_some_iff.mp hf
  obtain⟨⟨xs,e2'⟩,h2,hf⟩:=Option.map_eq_some_iff.mp hf
  cases hf
  refine⟨F,e,x,e1,R,h1,fun F1 H1 v X1 R1 A1=>⟨F1,e1,xs,_,R1,h2,fun F2 H2 vs X2 R2 A2=>?_⟩⟩
  exact q F2 H2 (v::vs) (X1.trans X2) R2 ⟨v,vs,rfl,A1.ext X2,A2.weak X1.dom⟩
def aS(fs:FA):FE:=fun e=>(fs e).bind fun p=>(je p.1).bind fun ds=>if ds.length≤1000 then some (.d (.tuple ds),p.2) else none
def bT(fs:FA):FE:=fun e=>(fs e).bind fun p=>(je p.1).bind fun ds=>if ds.length≤1000 then some (.l ds,p.2) else none
theorem aq{x1}(h:PA X es (fA K fs)):PE X (.Tuple es x1 pos) (fE K (aS fs)):=(xw h).mono fun σ H Q h=>by
  obtain⟨F,e,z,e2,R,hf,q⟩:=h
  unfold aS at hf
  obtain⟨⟨rs,e1⟩,h1,hf⟩:=Option.bind_eq_some_iff.mp hf
  obtain⟨ds,h2,hf⟩:=Option.bind_eq_some_iff.mp hf
  split at hf
  case isFalse=>cases hf
  case isTrue hl=>
  cases hf
  refine⟨F,e,rs,_,R,h1,fun F1 H1 vs X1 R1 A1=>?_⟩
  obtain⟨F2,R2,s2,d2,f2⟩:=b7.frozen R1 A1 h2
  have hlen:=d2.len
  refine⟨Nat.le_of_lt (ls (by lia)),fun p hp=>?_⟩
  obtain⟨R3,X3⟩:=R2.newT (vs:=vs) hp
  exact q _ _ _ ((X1.frz s2 f2).trans X3) R3 (di.mpr ⟨p,vs,rfl,.inl (.inl aG),aJ.mono X3.sf d2⟩)
theorem aR(h:PA X es (fA K fs)):PE X (.List es pos) (fE K (bT fs)):=(BP h).mono fun σ H Q h=>by
  obtain⟨F,e,z,e2,R,hf,q⟩:=h
  unfold bT at hf
  obtain⟨⟨rs,e1⟩,h1,hf⟩:=Option.bind_eq_some_iff.mp hf
  obtain⟨ds,h2,hf⟩:=Option.bind_eq_some_iff.mp hf
  split at hf
  case isFalse=>cases hf
  case isTrue hl=>
  cases hf
  refine⟨F,e,rs,_,R,h1,fun F1 H1 vs X1 R1 A1=>?_⟩
  obtain⟨F2,R2,s2,d2,f2⟩:=b7.frozen R1 A1 h2
  have hlen:=d2.len
  refine⟨Nat.le_of_lt (ls (by lia)),fun p hp=>?_⟩
  obtain⟨R3,X3,hF,no⟩:=R2.newL (vs:=vs) hp
  exact q _ _ _ ((X1.frz s2 f2).trans X3) R3 ⟨p,vs,rfl,X1.dom p hp,hF,aG,d2,no⟩
def dN(K:PySem.W.Frag)(r:List V→Hp→VK→Prop)(g:En→List Rv→Option Rv):Prop:=
  ∀(σ:L2.St) (H0 F H:Hp) (e:En) (xs:List Rv) (z:Rv) (vs:List V) (Q:VK),bf K F H σ e→b7 K σ H0 F H e xs vs→g e xs=some z→
    (∀F' H' w,dJ σ F H e F' H' e→bf K F' H' σ e→cC K σ H F' H' e z w→Q w H')→r vs H Q
def aZ(g:En→List Rv→Option Rv)(fs:FA):FE:=fun e=>(fs e).bind fun p=>(g p.2 p.1).map fun z=>(z,p.2)
theorem rE{r:List V→Hp→VK→Prop}{g:En→List Rv→Option Rv}(ho:dN K r g){σ:L2.St}{H:Hp}{Q:VK}(h:fE K (aZ g fs) σ H Q):Fy r (fA K fs) σ H Q:=by
  obtain⟨F,e,z,e2,R,hf,q⟩:=h
  unfold aZ at hf
  obtain⟨⟨x,e1⟩,h1,hf⟩:=Option.bind_eq_some_iff.mp hf
  obtain⟨z',h3,hf⟩:=Option.map_eq_some_iff.mp hf
  cases hf
  refine⟨F,e,x,_,R,h1,fun F1 H1 vs X1 R1 A1=>?_⟩
  refine ho σ H F1 H1 _ x _ vs Q R1 A1 h3 fun F3 H3 w X3 R3 A3=>?_
  exact q F3 H3 w (X1.trans X3) R3 (A3.weak X1.dom)
theorem xQ{x:Str}{p pos:Pos}{id:String}{r:List V→Hp→VK→Prop}{g:En→List Rv→Option Rv}(hc:ed X (.builtin id) r)(ho:dN K r g)(hg:Gl X x)(hm:X.mg x=none)(hv:bootBuiltins x=some (.builtin id))(ha:PA X (a::es) (fA K fs))(hn:x≠"__name__")(hdb:(x==("__debug__":Str))=false)
    (he:starEach (a::es) X.env=(false,eval a X.env)::starEach es X.env)(hpl:(backTo pos (starEach es X.env)).any (·.1)=false):PE X (.Call (.Name x p) (a::es) [] pos) (fE K (aZ g fs)):=(qR hc hg hm hv ha hn hdb he hpl).mono fun _ _ _ h=>rE ho h
theorem vi{x:Str}{p pos:Pos}{T:String}{r:List V→Hp→VK→Prop}{g:En→List Rv→Option Rv}(hc:ed X (.type T) r)(ho:dN K r g)(hg:Gl X x)(hm:X.mg x=none)(hv:bootBuiltins x=some (.type T))(ha:PA X (a::es) (fA K fs))(hn:x≠"__name__")(hdb:(x==("__debug__":Str))=false)
    (he:starEach (a::es) X.env=(false,eval a X.env)::starEach es X.env)(hpl:(backTo pos (starEach es X.env)).any (·.1)=false):PE X (.Call (.Name x p) (a::es) [] pos) (fE K (aZ g fs)):=(vf hc hg hm hv ha hn hdb he hpl).mono fun _ _ _ h=>rE ho h
end
end L2
namespace L2
open PySem PySem.Spec PyProof.Rows
mutual
theorem DA.reads{X:Cx}{pins:List (Addr × Obj)}{σ:L2.St}{H:Hp}{s:Shared}(I:aF X pins σ H s):∀{d:PyData} {v:V} {u:Value},d.canLay0=true→DA X.K H d v→bu v u→∃as,Reads s.heap u d as
  | .none,_,_,_,q,r=>by
    simp only [DA] at q;subst q;cases r;exact⟨_,.none⟩
  | .bool b,_,_,_,q,r=>by
    simp only [DA] at q;subst q;cases r;exact⟨_,.bool b⟩
  | .int i,_,_,_,q,r=>by
    simp only [DA] at q;subst q;obtain⟨t,rfl⟩:=r;exact⟨_,.int i t⟩
  | .str x,_,_,_,q,r=>by
    simp only [DA] at q;subst q;obtain⟨t,rfl⟩:=r;exact⟨_,.str x t⟩
  | .tuple ds,_,_,c,q,r=>by
    simp only [DA] at q
    obtain⟨a,xs,e,hs,rr⟩:=q
    subst e;cases r
    obtain⟨its,rv,⟨o,ho,hc,n,hd⟩,hz⟩:=I.tuple hs
    obtain⟨as,q⟩:=aJ.reads I (by simpa [PyData.canLay0] using c) rr rv
    exact⟨_,.tuple ho hc hd q⟩
  | .list ds,_,_,c,q,r=>by
    simp only [DA] at q
    obtain⟨a,xs,e,hs,rr⟩:=q
    subst e;cases r
    obtain⟨its,rv,ht,hz⟩:=I.list hs
    obtain⟨o,ho,hc,n,hd⟩:=ht.isList
    obtain⟨as,q⟩:=aJ.reads I (by simpa [PyData.canLay0] using c) rr rv
    exact⟨_,.list ho hc hd q⟩
  | .dict _,_,_,c,_,_=>by simp [PyData.canLay0] at c
theorem aJ.reads{X:Cx}{pins:List (Addr × Obj)}{σ:L2.St}{H:Hp}{s:Shared}(I:aF X pins σ H s):∀{ds:List PyData} {xs:List V} {us:List Value},PyData.canLayAll0 ds=true→aJ X.K H ds xs→aQ xs us→∃as,ReadsAll s.heap us ds as
  | [],_,_,_,q,r=>by
    simp only [aJ] at q;subst q;cases r;exact⟨_,.nil⟩
  | d::ds,_,_,c,q,r=>by
    simp only [aJ] at q
    simp only [PyData.canLayAll0,Bool.and_eq_true] at c
    obtain⟨x,rr,e,a,b⟩:=q
    subst e
    cases r with
    | cons p p'=>
      obtain⟨as,q1⟩:=DA.reads I c.1 a p
      obtain⟨bs,q2⟩:=aJ.reads I c.2 b p'
      exact⟨_,.cons q1 q2⟩
end
def ii(e:En):Rv→Option PyData
  | .d x=>some x
  | .l xs=>some (.list xs)
  | .s i=>match e[i]? with
    | some (some (.l xs))=>some (.list xs)
    | _=>none
theorem jU{K:PySem.W.Frag}{σ:L2.St}{H0 F H:Hp}{e:En}{r:Rv}{v:V}{d:PyData}(R:bf K F H σ e)(h:cC K σ H0 F H e r v)(q:ii e r=some d):DA K H d v:=by
  cases r with
  | d x=>cases q;exact DA.mono R.sm h
  | l xs=>
    cases q
    obtain⟨l,vs,rfl,h1,h2,h3,h4,_⟩:=h
    exact dS.mpr ⟨l,vs,rfl,.inl (.inl h3),aJ.mono R.sm h4⟩
  | s i=>
    obtain⟨h1,ys,h2⟩:=h
    simp only [ii,h2] at q
    cases q
    obtain⟨l,vs,e1,e2,e3,e4⟩:=R.own i _ h2
    rw [h1] at e1;cases e1
    exact dS.mpr ⟨l,vs,rfl,.inl (.inl e3),aJ.mono R.sm e4⟩
section
variable{X:Cx}{K:PySem.W.Frag}
def cn:Rv→Option Int
  | .d (.int i)=>some i
  | _=>none
theorem cK{σ:L2.St}{H0 F H:Hp}{e:En}{r:Rv}{v:V}{i:Int}(h:cC K σ H0 F H e r v)(q:cn r=some i):v=.int i:=by
  unfold cn at q
  split at q
  · cases q;exact cH.mp (show DA K F (.int _) v from h)
  · cases q
theorem nE{σ:L2.St}{H0 F H:Hp}{e:En}{i:Int}:cC K σ H0 F H e (.d (.int i)) (.int i):=(cH (K:=K) (F:=F)).mpr rfl
def gI(C:Int→Int→Bool)(f:Int→Int→PyData):En→Rv→Rv→Option Rv:=fun _ x y=>(cn x).bind fun i=>(cn y).bind fun j=>if C i j=true then some (.d (f i j)) else none
theorem qQ{C:Int→Int→Prop}{c:Int→Int→Bool}{g:Int→Int→V}{f:Int→Int→PyData}(hc:∀i j,c i j=true→C i j)(hf:∀F i j,DA K F (f i j) (g i j)):gq K (rI C g) (gI c f):=by
  intro σ H0 F H e x y z v u Q R A B hg q
  unfold gI at hg
  obtain⟨i,h1,hg⟩:=Option.bind_eq_some_iff.mp hg
  obtain⟨j,h2,hg⟩:=Option.bind_eq_some_iff.mp hg
  split at hg
  case isFalse=>cases hg
  case isTrue hh=>
  cases hg
  exact⟨i,j,cK A h1,cK B h2,hc i j hh,q F H _ (dJ.refl _ _ _ _) R (hf F i j)⟩
theorem jF{g:Int→Int→V}{f:Int→Int→PyData}(hf:∀F i j,DA K F (f i j) (g i j)):gq K (vj g) (gI (fun _ _=>true) f):=by
  intro σ H0 F H e x y z v u Q R A B hg q
  obtain⟨i,j,h1,h2,h3,h4⟩:=qQ (K:=K) (C:=fun _ _=>True) (c:=fun _ _=>true) (g:=g) (f:=f) (fun _ _ _=>trivial) hf σ H0 F H e x y z v u Q R A B hg q
  exact⟨i,j,h1,h2,h4⟩
def uP(g g':En→Rv→Rv→Option Rv):En→Rv→Rv→Option Rv:=fun e x y=>(g e x y).or (g' e x y)
theorem gq.or{r r':R2}{g g':En→Rv→Rv→Option Rv}(h:gq K r g)(h':gq K r' g'):gq K (fun x y H Q=>r x y H Q∨r' x y H Q) (uP g g'):=by
  intro σ H0 F H e x y z v u Q R A B hg q
  unfold uP at hg
  cases e1:g e x y with
  | some w=>
    rw [e1] at hg
    cases hg
    exact .inl (h σ H0 F H e x y _ v u Q R A B e1 q)
  | none=>
    rw [e1] at hg
    exact .inr (h' σ H0 F H e x y _ v u Q R A B hg q)
def tO:=gI (fun _ _=>true) fun i j=>.int (i+j)
def gf:=gI (fun _ _=>true) fun i j=>.int (i - j)
def hX(i:Int):Bool:=decide (-(2 ^ 64) < i)&&decide (i < 2 ^ 64)
def Dd(n:Nat)(i:Int):Bool:=decide (i.natAbs < 2 ^ n)
theorem gW{n:Nat}{i:Int}:Dd n i=true↔ Bt n i:=by unfold Dd Bt;exact decide_eq_true_iff
def jE(i j:Int):Bool:=hX i || hX j || (Dd 4000 i&&Dd 4000 j)
def qz:=gI jE fun i j=>.int (i*j)
def cI:=gI (fun _ j=>j != 0&&Dd 8000 j) fun i j=>.int (i.fdiv j)
def aT:=gI (fun _ j=>j != 0) fun i j=>.int (i.fmod j)
def xG(i j:Int):Bool:=decide (0≤j)&&decide (j≤1000000)&&hX i
def mM:=gI xG fun i j=>.int (i ^ j.toNat)
theorem jJ{i:Int}(h:hX i=true): -(2 ^ 64) < i∧i < 2 ^ 64:=by
  unfold hX at h
  rw [Bool.and_eq_true,decide_eq_true_iff,decide_eq_true_iff] at h
  exact h
theorem zM{i j:Int}(h:xG i j=true):AN i j:=by
  unfold xG at h
  rw [Bool.and_eq_true,Bool.and_eq_true,decide_eq_true_iff,decide_eq_true_iff] at h
  have:=jJ h.2
  exact⟨h.1.1,h.1.2,by lia⟩
def sZ(i j:Int):Prop:=yE i j∨An i j
theorem zu:gu X (binaryOp .Mult) (rI sZ fun i j=>.int (i*j)):=by
  intro pins s σ H x y v u Q I rx ry h
  obtain⟨i,j,e1,e2,h1,q⟩:=h
  rcases h1 with h1 | h1
  · exact BI pins s σ H x y v u Q I rx ry ⟨i,j,e1,e2,h1,q⟩
  · exact zv pins s σ H x y v u Q I rx ry ⟨i,j,e1,e2,h1,q⟩
theorem za{i j:Int}(h:jE i j=true):sZ i j:=by
  unfold jE at h
  rw [Bool.or_eq_true,Bool.or_eq_true,Bool.and_eq_true] at h
  rcases h with (h | h) | h
  · exact .inl (.inl (jJ h))
  · exact .inl (.inr (jJ h))
  · exact .inr ⟨gW.mp h.1,gW.mp h.2⟩
theorem Bo:gq K (rI sZ fun i j=>.int (i*j)) qz:=qQ (fun _ _ h=>za h) fun _ _ _=>cH.mpr rfl
theorem Ep:gq K (vj fun i j=>.int (i - j)) gf:=jF fun _ _ _=>cH.mpr rfl
theorem Ba:gq K (rI Am fun i j=>.int (i.fdiv j)) cI:=qQ (fun i j h=>by
  rw [Bool.and_eq_true] at h
  exact⟨by simpa using h.1,gW.mp h.2⟩) fun _ _ _=>cH.mpr rfl
theorem DF:gq K (rI (fun _ j=>j≠0) fun i j=>.int (i.fmod j)) aT:=qQ (fun i j h=>by simpa using h) fun _ _ _=>cH.mpr rfl
theorem D4:gq K (rI AN fun i j=>.int (i ^ j.toNat)) mM:=qQ (fun _ _ h=>zM h) fun _ _ _=>cH.mpr rfl
def oF:En→Rv→Rv→Option Rv:=fun e x y=>match dY e x,dY e y with
  | some (false,xs),some (false,ys)=>if xs.length+ys.length≤1000000 then some (.d (.tuple (xs++ys))) else none
  | _,_=>none
theorem A7:gq K (xW K) oF:=by
  intro σ H0 F H e x y z v u Q R A B hg q
  unfold oF at hg
  match h1:dY e x,h2:dY e y,hg with
  | some (false,xs),some (false,ys),hg=>
    obtain⟨p,vs,rfl,d1,s1⟩:=dH R A h1
    obtain⟨p',us,rfl,d2,s2⟩:=dH R B h2
    dsimp only at hg
    split at hg
    case isFalse=>cases hg
    case isTrue hl=>
    cases hg
    have l1:=d1.len
    have l2:=d2.len
    have sl:sizeLine=16777216:=sizeLine_eq
    refine⟨p,p',vs,us,rfl,rfl,s1,s2,by lia,fun t H' sm hT=>?_⟩
    obtain⟨F',R',X',hF⟩:=R.growT sm hT
    exact q F' H' _ X' R' (di.mpr ⟨t,_,rfl,hF,(d1.append d2).mono X'.sf⟩)
def qF(e:En):Rv→Option (List PyData)
  | .l xs=>some xs
  | .s i=>match e[i]? with
    | some (some (.l xs))=>some xs
    | _=>none
  | _=>none
theorem pR{σ:L2.St}{H0 F H:Hp}{e:En}{r:Rv}{v:V}(R:bf K F H σ e)(h:cC K σ H0 F H e r v){xs:List PyData}(q:qF e r=some xs):∃p vs,v=.ref p∧F p=none∧H p=some (.lst vs)∧aJ K F xs vs:=by
  cases r with
  | d x=>cases q
  | l ys=>
    cases q
    obtain⟨l,vs,e1,h1,h2,h3,h4,_⟩:=h
    exact⟨l,vs,e1,h2,h3,h4⟩
  | s i=>
    obtain⟨h1,ys,h2⟩:=h
    simp only [qF,h2] at q
    cases q
    obtain⟨l,vs,e1,e2,e3,e4⟩:=R.own i _ h2
    rw [h1] at e1;cases e1
    exact⟨l,vs,rfl,e2,e3,e4⟩
def qy:En→Rv→Rv→Option Rv:=fun e x y=>(qF e x).bind fun xs=>(qF e y).bind fun ys=>if xs.length+ys.length≤1000000 then some (.l (xs++ys)) else none
theorem A0:gq K Cb qy:=by
  intro σ H0 F H e x y z v u Q R A B hg q
  unfold qy at hg
  obtain⟨xs,h1,hg⟩:=Option.bind_eq_some_iff.mp hg
  obtain⟨ys,h2,hg⟩:=Option.bind_eq_some_iff.mp hg
  split at hg
  case isFalse=>cases hg
  case isTrue hl=>
  cases hg
  obtain⟨p,vs,rfl,f1,s1,d1⟩:=pR R A h1
  obtain⟨p',us,rfl,f2,s2,d2⟩:=pR R B h2
  have l1:=d1.len
  have l2:=d2.len
  have sl:sizeLine=16777216:=sizeLine_eq
  refine⟨p,p',vs,us,rfl,rfl,s1,s2,by lia,fun t ht=>?_⟩
  obtain⟨R3,X3,hF,no⟩:=R.newL (vs:=vs++us) ht
  exact q _ _ _ X3 R3 ⟨t,_,rfl,ht,hF,aG,d1.append d2,no⟩
def bE:En→Rv→Rv→Option Rv:=uP tO (uP oF qy)
def AG(K:PySem.W.Frag):R2:=fun x y H Q=>vj (fun i j=>.int (i+j)) x y H Q∨(xW K x y H Q∨Cb x y H Q)
theorem zm:gu X (binaryOp .Add) (AG X.K):=Bz.or (zo.or BA)
theorem C9:gq K (AG K) bE:=gq.or (jF fun _ _ _=>cH.mpr rfl) (gq.or A7 A0)
def qB:En→Rv→Rv→Option Rv:=fun e x y=>match dY e x,cn y with
  | some (false,[d]),some k=>if 0≤k∧k≤100000 then some (.d (.tuple (List.replicate k.toNat d))) else none
  | _,_=>none
theorem aJ.rep{F:Hp}{d:PyData}{v:V}(h:DA K F d v):∀n,aJ K F (List.replicate n d) (List.replicate n v)
  | 0=>aJ.nil
  | n+1=>aJ.cons h (aJ.rep h n)
theorem Cf:gq K (xY K) qB:=by
  intro σ H0 F H e x y z v u Q R A B hg q
  unfold qB at hg
  match h1:dY e x,h2:cn y,hg with
  | some (false,[d]),some k,hg=>
    obtain⟨p,vs,rfl,d1,s1⟩:=dH R A h1
    dsimp only at hg
    split at hg
    case isFalse=>cases hg
    case isTrue hl=>
    cases hg
    have hd:=d1
    simp only [aJ] at hd
    obtain⟨w,r,e1,hw,e2⟩:=hd
    subst e2 e1
    refine⟨p,k,w,rfl,cK B h2,s1,hl.1,hl.2,fun t H' sm hT=>?_⟩
    obtain⟨F',R',X',hF⟩:=R.growT sm hT
    exact q F' H' _ X' R' (di.mpr ⟨t,_,rfl,hF,(aJ.rep hw _).mono X'.sf⟩)
def qA:En→Rv→Rv→Option Rv:=fun e x y=>(qF e x).bind fun xs=>(cn y).bind fun k=>if -100000≤k∧k≤100000∧xs.length*k.toNat≤1000000 then some (.l (List.replicate k.toNat xs).flatten) else none
theorem aJ.reps{F:Hp}{ds:List PyData}{vs:List V}(h:aJ K F ds vs):∀n,aJ K F (List.replicate n ds).flatten (List.replicate n vs).flatten
  | 0=>aJ.nil
  | n+1=>by simpa [List.replicate_succ] using aJ.append h (aJ.reps h n)
theorem Ce:gq K Cd qA:=by
  intro σ H0 F H e x y z v u Q R A B hg q
  unfold qA at hg
  obtain⟨xs,h1,hg⟩:=Option.bind_eq_some_iff.mp hg
  obtain⟨k,h2,hg⟩:=Option.bind_eq_some_iff.mp hg
  split at hg
  case isFalse=>cases hg
  case isTrue hl=>
  cases hg
  obtain⟨p,vs,rfl,f1,s1,d1⟩:=pR R A h1
  have l1:=d1.len
  have sl:sizeLine=16777216:=sizeLine_eq
  refine⟨p,k,vs,rfl,cK B h2,s1,by lia,by lia,by rw [←l1];lia,fun t ht=>?_⟩
  obtain⟨R3,X3,hF,no⟩:=R.newL (vs:=(List.replicate k.toNat vs).flatten) ht
  exact q _ _ _ X3 R3 ⟨t,_,rfl,ht,hF,aG,aJ.reps d1 _,no⟩
def be:En→Rv→Rv→Option Rv:=uP qz (uP qB qA)
def AH(K:PySem.W.Frag):R2:=fun x y H Q=>rI sZ (fun i j=>.int (i*j)) x y H Q∨(xY K x y H Q∨Cd x y H Q)
theorem zt:gu X (binaryOp .Mult) (AH X.K):=zu.or (zx.or BL)
theorem DG:gq K (AH K) be:=gq.or Bo (gq.or Cf Ce)
def uL:=gI (fun _ _=>true) fun i j=>.bool (decide (i < j))
def Gs:=gI (fun _ _=>true) fun i j=>.bool (decide (i≤j))
def tQ:=gI (fun _ _=>true) fun i j=>.bool (decide (j < i))
def Bc:=gI (fun _ _=>true) fun i j=>.bool (decide (j≤i))
theorem Ft:gq K (vj fun i j=>.bl (decide (i < j))) uL:=jF fun _ _ _=>c_.mpr rfl
theorem Fg:gq K (vj fun i j=>.bl (decide (j < i))) tQ:=jF fun _ _ _=>c_.mpr rfl
theorem Ff:gq K (vj fun i j=>.bl (decide (j≤i))) Bc:=jF fun _ _ _=>c_.mpr rfl
def Cc(K:PySem.W.Frag)(neg:Bool):R2:=fun x y H Q=>∃a b,DA K H a x∧DA K H b y∧SeqAt.shaped a=true∧SeqAt.shaped b=true∧Q (.bl (if neg then !PyData.eqv a b else PyData.eqv a b)) H
theorem BC{k:Nat}(hr:cQ k X.A):gu X (compareOp .Eq) (Cc X.K false):=by
  intro pins s σ H x y v u Q I rx ry h
  obtain⟨a,b,ha,hb,s1,s2,q⟩:=h
  obtain⟨as,ra⟩:=DA.reads I (SeqAt.canLay_of_shaped s1) ha rx
  obtain⟨bs,rb⟩:=DA.reads I (SeqAt.canLay_of_shaped s2) hb ry
  exact SeqAt.compareEq_shaped ra rb s1 s2 hr.units ⟨.bl _,H,I,rfl,q⟩
theorem BJ{k:Nat}(hr:cQ k X.A):gu X (compareOp .NotEq) (Cc X.K true):=by
  intro pins s σ H x y v u Q I rx ry h
  obtain⟨a,b,ha,hb,s1,s2,q⟩:=h
  obtain⟨as,ra⟩:=DA.reads I (SeqAt.canLay_of_shaped s1) ha rx
  obtain⟨bs,rb⟩:=DA.reads I (SeqAt.canLay_of_shaped s2) hb ry
  exact SeqAt.compareNe_shaped ra rb s1 s2 hr.units ⟨.bl _,H,I,rfl,q⟩
def cg(neg:Bool):En→Rv→Rv→Option Rv:=fun e x y=>(ii e x).bind fun a=>(ii e y).bind fun b=>if (SeqAt.shaped a&&SeqAt.shaped b)=true then some (.d (.bool (if neg then !PyData.eqv a b else PyData.eqv a b))) else none
theorem Ax{neg:Bool}:gq K (Cc K neg) (cg neg):=by
  intro σ H0 F H e x y z v u Q R A B hg q
  unfold cg at hg
  obtain⟨a,h1,hg⟩:=Option.bind_eq_some_iff.mp hg
  obtain⟨b,h2,hg⟩:=Option.bind_eq_some_iff.mp hg
  split at hg
  case isFalse=>cases hg
  case isTrue hl=>
  cases hg
  rw [Bool.and_eq_true] at hl
  exact⟨a,b,jU R A h1,jU R B h2,hl.1,hl.2,q F H _ (dJ.refl _ _ _ _) R dD⟩
def Fb(neg:Bool):En→Rv→Rv→Option Rv:=fun e x y=>(ii e x).bind fun a=>(dY e y).bind fun p=>if (a.canLay0&&decide (a.depth≤60)&&PyData.canLayAll0 p.2)=true then some (.d (.bool (if neg then !(p.2.any fun y=>PyData.eqv y a) else p.2.any fun y=>PyData.eqv y a))) else none
def pP:PyData→Bool
  | .none=>true
  | _=>false
theorem oy{F:Hp}{d:PyData}{v:V}(h:DA K F d v):decide (v=.non)=pP d:=by
  cases d with
  | none=>rw [gZ.mp h];rfl
  | bool b=>rw [c_.mp h];rfl
  | int b=>rw [cH.mp h];rfl
  | str b=>rw [pA.mp h];rfl
  | tuple b=>obtain⟨a,_,e,_⟩:=di.mp h;rw [e];rfl
  | list b=>obtain⟨a,_,e,_⟩:=dS.mp h;rw [e];rfl
  | dict b=>simp only [DA] at h;obtain⟨a,m,rfl,_⟩:=h;rfl
def uK(neg:Bool):En→Rv→Rv→Option Rv:=fun e x y=>(ii e x).bind fun a=>match y with
  | .d .none=>some (.d (.bool (if neg then !pP a else pP a)))
  | _=>none
def uJ(neg:Bool):En→Rv→Rv→Option Rv:=fun e x y=>(e7 x).bind fun a=>(e7 y).bind fun b=>some (.d (.bool (if neg then !(a==b) else a==b)))
theorem Dt:gq K (fun x y H Q=>y=.non∧Q (.bl (decide (x=.non))) H) (uK false):=by
  intro σ H0 F H e x y z v u Q R A B hg q
  unfold uK at hg
  obtain⟨a,h1,hg⟩:=Option.bind_eq_some_iff.mp hg
  split at hg
  · cases hg
    refine⟨gZ.mp (show DA K F .none u from B),?_⟩
    rw [oy (jU R A h1)]
    exact q F H _ (dJ.refl _ _ _ _) R dD
  · cases hg
theorem Br:gq K (fun x y H Q=>y=.non∧Q (.bl (!decide (x=.non))) H) (uK true):=by
  intro σ H0 F H e x y z v u Q R A B hg q
  unfold uK at hg
  obtain⟨a,h1,hg⟩:=Option.bind_eq_some_iff.mp hg
  split at hg
  · cases hg
    refine⟨gZ.mp (show DA K F .none u from B),?_⟩
    rw [oy (jU R A h1)]
    exact q F H _ (dJ.refl _ _ _ _) R dD
  · cases hg
theorem Ds:gq K (fun x y H Q=>∃b c,x=.bl b∧y=.bl c∧Q (.bl (b==c)) H) (uJ false):=by
  intro σ H0 F H e x y z v u Q R A B hg q
  unfold uJ at hg
  obtain⟨a,h1,hg⟩:=Option.bind_eq_some_iff.mp hg
  obtain⟨b,h2,hg⟩:=Option.bind_eq_some_iff.mp hg
  cases hg
  exact⟨a,b,dQ A h1,dQ B h2,q F H _ (dJ.refl _ _ _ _) R dD⟩
theorem wN:gq K (fun x y H Q=>∃b c,x=.bl b∧y=.bl c∧Q (.bl (!(b==c))) H) (uJ true):=by
  intro σ H0 F H e x y z v u Q R A B hg q
  unfold uJ at hg
  obtain⟨a,h1,hg⟩:=Option.bind_eq_some_iff.mp hg
  obtain⟨b,h2,hg⟩:=Option.bind_eq_some_iff.mp hg
  cases hg
  exact⟨a,b,dQ A h1,dQ B h2,q F H _ (dJ.refl _ _ _ _) R dD⟩
def Dm:En→Rv→Rv→Option Rv:=uP (uK false) (uJ false)
def pJ:En→Rv→Rv→Option Rv:=uP (uK true) (uJ true)
def Eb:R2:=fun x y H Q=>(y=.non∧Q (.bl (decide (x=.non))) H)∨∃b c,x=.bl b∧y=.bl c∧Q (.bl (b==c)) H
def ua:R2:=fun x y H Q=>(y=.non∧Q (.bl (!decide (x=.non))) H)∨∃b c,x=.bl b∧y=.bl c∧Q (.bl (!(b==c))) H
theorem BF:gu X (compareOp .Is) Eb:=BH.or BG
theorem vd:gu X (compareOp .IsNot) ua:=zw.or ve
theorem Fn:gq K Eb Dm:=gq.or Dt Ds
theorem yX:gq K ua pJ:=gq.or Br wN
def bg:En→Rv→Rv→Option Rv:=fun e x y=>(dY e x).bind fun p=>(cn y).bind fun i=>(atI p.2 i).map .d
def Ec(K:PySem.W.Frag):R2:=fun x y H Q=>Ed K x y H Q∨Ee K x y H Q
theorem Fo:yG X (Ec X.K):=yY.or Bf
theorem aJ.atI{F:Hp}{ds:List PyData}{vs:List V}(h:aJ K F ds vs){i:Int}{d:PyData}(q:atI ds i=some d):∃v,L2.atI vs i=some v∧DA K F d v:=by
  unfold L2.atI at q ⊢
  obtain⟨j,h1,h2⟩:=Option.bind_eq_some_iff.mp q
  obtain⟨v,h3,h4⟩:=h.get h2
  exact⟨v,by rw [←h.len,h1];exact h3,h4⟩
theorem Fq:gq K (Ec K) bg:=by
  intro σ H0 F H e x y z v u Q R A B hg q
  unfold bg at hg
  obtain⟨⟨b,xs⟩,h1,hg⟩:=Option.bind_eq_some_iff.mp hg
  obtain⟨i,h2,hg⟩:=Option.bind_eq_some_iff.mp hg
  obtain⟨d,h3,hg⟩:=Option.map_eq_some_iff.mp hg
  cases hg
  obtain⟨p,vs,rfl,d1,s1⟩:=dH R A h1
  obtain⟨w,h4,h5⟩:=d1.atI h3
  have fin:=q F H w (dJ.refl _ _ _ _) R h5
  cases b with
  | true=>exact .inl ⟨p,vs,i,w,rfl,cK B h2,s1,h4,fin⟩
  | false=>exact .inr ⟨p,vs,i,w,rfl,cK B h2,s1,h4,fin⟩
end
end L2
namespace HT
open PySem PySem.Spec PyProof.Rows
section
variable{prog:Program}{w:World}{A:Around}{E:Value→Shared→Prop}{s:Shared}
theorem getItem_tuple_all{t sl:Addr}{items:Array Value}{vl vu:Value}{lo hi:Option Int}{Q:Value→Shared→Prop}(ht:IsTup s.heap t items)(hs:s.heap.IsSliceOf sl vl vu .none)(pl:IsPart vl lo)(pu:IsPart vu hi)
    (hw:sIx items.size 0 lo=0∧sIx items.size items.size hi=items.size)
    (h:Q (.ref t) s):wpAny (model prog w) A (getItem (.ref t) (.ref sl)) Q E s:=by
  obtain⟨os,hos,hcs,hds⟩:=id hs
  have hTs:s.TypeIs (.ref sl) "slice":=⟨os,hos,hcs⟩
  unfold getItem
  try with_reducible refine wpAny_holding ?_
  first | refine wpAny_bind (wpAny_pure ?_) | skip
  refine wpAny_bind (wpAny_sequenceKey ht.typeIs (by decide) ?_)
  refine wpAny_bind (wpAny_callSpecial?_slot (name:=Str.ofString "__getitem__") ht.typeIs PyProof.Rows.slot_tuple_getitem
    (wpAny_call_entry PyProof.Rows.slot_tuple_getitem ht.typeIs entry_tuple_getitem ?_ (args_tuple_getitem _ _)))
  show wpAny _ _ (Builtin.Tuple.tupleItemsOf (.ref t) >>= _) _ _ s
  refine wpAny_bind (tupleItemsOf_ ht ?_)
  refine wpAny_bind (wpAny_typeOf hTs ?_)
  rw [if_pos (by decide)]
  refine wpAny_bind (gP hs pl pu ?_)
  have hno:(((sIx items.size 0 lo:Nat):Int)==0&&(1:Int)==1&&(sIx items.size items.size hi - sIx items.size 0 lo)==items.size)=true:=by
    rw [hw.1,hw.2];simp
  show wpAny _ _ (if (((sIx items.size 0 lo:Nat):Int)==0&&(1:Int)==1&&(sIx items.size items.size hi - sIx items.size 0 lo)==items.size)=true then _ else _) _ _ s
  rw [if_pos hno]
  unfold Builtin.Tuple.tupleIsExact
  refine wpAny_bind (wpAny_bind (wpAny_typeOf ht.typeIs (wpAny_pure ?_)))
  rw [if_pos (by decide)]
  exact wpAny_bind (wpAny_rule (wpAny_pure ⟨_,rfl,wpAny_pure h⟩))
end
end HT
namespace L2
open PySem PySem.Spec PyProof.Rows
section
variable{X:Cx}{K:PySem.W.Frag}{a:Expr}{fa:FE}{lo hi:Option Expr}{pos p2:Pos}
def cutD(xs:List PyData)(lo hi:Option Int):List PyData:=(xs.drop (HT.sIx xs.length 0 lo)).take (HT.sIx xs.length xs.length hi - HT.sIx xs.length 0 lo)
def Ei(K:PySem.W.Frag):V→Option Int→Option Int→Hp→VK→Prop:=fun x lo hi H Q=>∃a xs,x=.ref a∧dO K H a xs∧
  (HT.sIx xs.length 0 lo=0∧HT.sIx xs.length xs.length hi=xs.length)∧Q (.ref a) H
theorem z9:yH X (Ei X.K):=by
  intro pins s σ H x v vl vu lo hi sl Q I rx hs pl pu h
  obtain⟨a,xs,rfl,hx,hw,q⟩:=h
  cases rx
  obtain⟨its,r,ht,hz⟩:=I.tuple hx
  have hlen:its.toArray.size=xs.length:=by rw [List.size_toArray];exact r.length.symm
  refine⟨"tuple",_,PyProof.Rows.slot_tuple_getitem.lookup,ht.typeIs,?_⟩
  exact HT.getItem_tuple_all ht hs pl pu (by rw [hlen];exact hw) ⟨.ref a,H,I,rfl,q⟩
def Fw(K:PySem.W.Frag):V→Option Int→Option Int→Hp→VK→Prop:=fun x lo hi H Q=>Eh K x lo hi H Q∨(Ei K x lo hi H Q∨Eg K x lo hi H Q)
theorem Fx:yH X (Fw X.K):=Cn.or (z9.or z8)
abbrev FO:=En→Option (Option Int × En)
def fO(K:PySem.W.Frag)(f:FO):TO:=fun σ H Q=>∃F e o e',bf K F H σ e∧f e=some (o,e')∧∀F' H',dJ σ F H e F' H' e'→bf K F' H' σ e'→Q o H'
theorem PO.mono{e:Option Expr}{t t':TO}(h:PO X e t)(m:∀σ H Q,t' σ H Q→t σ H Q):PO X e t':=fun pins s σ H Q I q=>h pins s σ H Q I (m σ H Q q)
def lG:FO:=fun e=>some (none,e)
def j8(f:FE):FO:=fun e=>(f e).bind fun p=>(cn p.1).map fun i=>(some i,p.2)
theorem l_:PO X none (fO K lG):=zJ.mono fun σ H Q h=>by
  obtain⟨F,e,o,e',R,hf,q⟩:=h
  cases hf
  exact q F H (dJ.refl _ _ _ _) R
theorem ma(h:PE X a (fE K fa)):PO X (some a) (fO K (j8 fa)):=(zK h).mono fun σ H Q h=>by
  obtain⟨F,e,o,e',R,hf,q⟩:=h
  unfold j8 at hf
  obtain⟨⟨x,e1⟩,h1,hf⟩:=Option.bind_eq_some_iff.mp hf
  obtain⟨i,h2,hf⟩:=Option.map_eq_some_iff.mp hf
  cases hf
  exact⟨F,e,x,_,R,h1,fun F1 H1 v X1 R1 A1=>⟨i,cK A1 h2,q F1 H1 X1 R1⟩⟩
def Fd(e:En)(x:Rv)(lo hi:Option Int):Option Rv:=(dY e x).map fun p=>if p.1=true then .l (cutD p.2 lo hi) else .d (.tuple (cutD p.2 lo hi))
def yC(fa:FE)(fl fh:FO):FE:=fun e=>(fa e).bind fun p=>(fl p.2).bind fun l=>(fh l.2).bind fun h=>(Fd h.2 p.1 l.1 h.1).map fun z=>(z,h.2)
theorem vX{F:Hp}{ds:List PyData}{vs:List V}(h:aJ K F ds vs)(lo hi:Option Int):aJ K F (cutD ds lo hi) (n9 vs lo hi):=by
  unfold cutD n9
  rw [h.len]
  exact(h.drop _).take _
theorem yL{α:Type}{xs:List α}{lo hi:Option Int}(h:HT.sIx xs.length 0 lo=0∧HT.sIx xs.length xs.length hi=xs.length):(xs.drop (HT.sIx xs.length 0 lo)).take (HT.sIx xs.length xs.length hi - HT.sIx xs.length 0 lo)=xs:=by
  rw [h.1,h.2];simp
theorem xU{fl fh:FO}(he:PE X a (fE X.K fa))(hl:PO X lo (fO X.K fl))(hh:PO X hi (fO X.K fh)):PE X (.Subscript a (.Slice lo hi none p2) pos) (fE X.K (yC fa fl fh)):=(xt Fx he hl hh).mono fun σ H Q h=>by
  obtain⟨F,e,z,e',R,hf,q⟩:=h
  unfold yC at hf
  obtain⟨⟨x,e1⟩,h1,hf⟩:=Option.bind_eq_some_iff.mp hf
  obtain⟨⟨l,e2⟩,h2,hf⟩:=Option.bind_eq_some_iff.mp hf
  obtain⟨⟨u,e3⟩,h3,hf⟩:=Option.bind_eq_some_iff.mp hf
  obtain⟨z',h4,hf⟩:=Option.map_eq_some_iff.mp hf
  cases hf
  refine⟨F,e,x,e1,R,h1,fun F1 H1 v X1 R1 A1=>⟨F1,e1,l,e2,R1,h2,fun F2 H2 X2 R2=>⟨F2,e2,u,_,R2,h3,fun F3 H3 X3 R3=>?_⟩⟩⟩
  have X12:=X1.trans X2
  have X13:=X12.trans X3
  have A3:=(A1.ext X2).ext X3
  unfold Fd at h4
  obtain⟨⟨b,xs⟩,h5,h4⟩:=Option.map_eq_some_iff.mp h4
  obtain⟨p,vs,rfl,d1,s1⟩:=dH R3 A3 h5
  cases b with
  | true=>
    rw [if_pos rfl] at h4;cases h4
    refine .inr (.inr ⟨p,vs,rfl,s1,fun t ht=>?_⟩)
    obtain⟨R4,X4,hF,no⟩:=R3.newL (vs:=n9 vs l u) ht
    exact q _ _ _ (X13.trans X4) R4 ⟨t,_,rfl,X13.dom _ ht,hF,aG,vX d1 l u,no⟩
  | false=>
    rw [if_neg (by simp)] at h4;cases h4
    by_cases hw:HT.sIx vs.length 0 l=0∧HT.sIx vs.length vs.length u=vs.length
    · refine .inr (.inl ⟨p,vs,rfl,s1,hw,?_⟩)
      have e5:cutD xs l u=xs:=by unfold cutD;exact yL (by rw [d1.len];exact hw)
      rw [e5] at q
      obtain⟨F4,R4,X4,hF⟩:=R3.growT (aA.refl _) s1
      exact q _ _ _ (X13.trans X4) R4 (di.mpr ⟨p,vs,rfl,hF,d1.mono X4.sf⟩)
    · refine .inl ⟨p,vs,rfl,s1,hw,fun t ht=>?_⟩
      obtain⟨R4,X4⟩:=R3.newT (vs:=n9 vs l u) ht
      exact q _ _ _ (X13.trans X4) R4 (di.mpr ⟨t,_,rfl,.inl (.inl aG),(vX d1 l u).mono X4.sf⟩)
end
section
variable{X:Cx}{K:PySem.W.Frag}
theorem kf{σ:L2.St}{H0 F H:Hp}{e:En}{x:Rv}{vs:List V}(h:b7 K σ H0 F H e [x] vs):∃v,vs=[v]∧cC K σ H0 F H e x v:=by
  obtain⟨v,ws,rfl,h1,h2⟩:=h
  have h2':ws=[]:=h2
  subst h2'
  exact⟨v,rfl,h1⟩
theorem uc{σ:L2.St}{H0 F H:Hp}{e:En}{x y:Rv}{vs:List V}(h:b7 K σ H0 F H e [x,y] vs):∃v u,vs=[v,u]∧cC K σ H0 F H e x v∧cC K σ H0 F H e y u:=by
  obtain⟨v,ws,rfl,h1,h2⟩:=h
  obtain⟨u,rfl,h3⟩:=kf h2
  exact⟨v,u,rfl,h1,h3⟩
def g1(g:En→Rv→Option Rv):En→List Rv→Option Rv:=fun e xs=>match xs with
  | [x]=>g e x
  | _=>none
def g2(g:En→Rv→Rv→Option Rv):En→List Rv→Option Rv:=fun e xs=>match xs with
  | [x,y]=>g e x y
  | _=>none
theorem gY{r:List V→Hp→VK→Prop}{g:En→Rv→Option Rv}(h:C6 K (fun v H Q=>r [v] H Q) g):dN K r (g1 g):=by
  intro σ H0 F H e xs z vs Q R A hg q
  unfold g1 at hg
  match xs,hg with
  | [x],hg=>
    obtain⟨v,rfl,h1⟩:=kf A
    exact h σ H0 F H e x z v Q R h1 hg q
theorem tJ{r:List V→Hp→VK→Prop}{g:En→Rv→Rv→Option Rv}(h:gq K (fun v u H Q=>r [v,u] H Q) g):dN K r (g2 g):=by
  intro σ H0 F H e xs z vs Q R A hg q
  unfold g2 at hg
  match xs,hg with
  | [x,y],hg=>
    obtain⟨v,u,rfl,h1,h2⟩:=uc A
    exact h σ H0 F H e x y z v u Q R h1 h2 hg q
def ff:En→Rv→Option Rv:=fun e x=>(dY e x).map fun p=>.d (.int p.2.length)
theorem Dz:dN K (fun xs H Q=>∃p ys,xs=[.ref p]∧(eI K H p ys∨dO K H p ys)∧Q (.int ys.length) H) (g1 ff):=gY fun σ H0 F H e x z v Q R A hg q=>by
  obtain⟨⟨b,xs⟩,h5,h4⟩:=Option.map_eq_some_iff.mp hg
  obtain⟨p,vs,rfl,d1,s1⟩:=dH R A h5
  cases h4
  refine⟨p,vs,rfl,?_,?_⟩
  · cases b with
    | true=>exact .inl s1
    | false=>exact .inr s1
  · rw [←d1.len]
    exact q F H _ (dJ.refl _ _ _ _) R nE
def r9:En→Rv→Option Rv:=fun _ x=>(cn x).map fun i=>.d (.int (if i < 0 then -i else i))
theorem C8:dN K (fun xs H Q=>∃i,xs=[.int i]∧Q (.int (if i < 0 then -i else i)) H) (g1 r9):=gY fun σ H0 F H e x z v Q R A hg q=>by
  obtain⟨i,h5,h4⟩:=Option.map_eq_some_iff.mp hg
  cases h4
  exact⟨i,by rw [cK A h5],q F H _ (dJ.refl _ _ _ _) R nE⟩
def uI:En→Rv→Option Rv:=fun _ x=>match x with
  | .d (.int i)=>some (.d (.int i))
  | .d (.bool k)=>some (.d (.int (if k then 1 else 0)))
  | _=>none
theorem Dr:dN K (fun xs H Q=>(∃i,xs=[.int i]∧Q (.int i) H)∨∃k,xs=[.bl k]∧Q (.int (if k then 1 else 0)) H) (g1 uI):=gY fun σ H0 F H e x z v Q R A hg q=>by
  unfold uI at hg
  split at hg
  · cases hg
    exact .inl ⟨_,by rw [cH.mp (show DA K F (.int _) v from A)],q F H _ (dJ.refl _ _ _ _) R nE⟩
  · cases hg
    exact .inr ⟨_,by rw [c_.mp (show DA K F (.bool _) v from A)],q F H _ (dJ.refl _ _ _ _) R nE⟩
  · cases hg
def wC:=gI (fun _ _=>true) fun i j=>.int (if j < i then j else i)
def uM:=gI (fun _ _=>true) fun i j=>.int (if j > i then j else i)
theorem DE:dN K (fun xs H Q=>∃i j,xs=[.int i,.int j]∧Q (.int (if j < i then j else i)) H) (g2 wC):=tJ fun σ H0 F H e x y z v u Q R A B hg q=>by
  obtain⟨i,j,h1,h2,h3⟩:=jF (K:=K) (g:=fun i j=>.int (if j < i then j else i)) (fun _ _ _=>cH.mpr rfl) σ H0 F H e x y z v u Q R A B hg q
  exact⟨i,j,by rw [h1,h2],h3⟩
theorem DC:dN K (fun xs H Q=>∃i j,xs=[.int i,.int j]∧Q (.int (if j > i then j else i)) H) (g2 uM):=tJ fun σ H0 F H e x y z v u Q R A B hg q=>by
  obtain⟨i,j,h1,h2,h3⟩:=jF (K:=K) (g:=fun i j=>.int (if j > i then j else i)) (fun _ _ _=>cH.mpr rfl) σ H0 F H e x y z v u Q R A B hg q
  exact⟨i,j,by rw [h1,h2],h3⟩
def ey:En→Rv→Option Rv:=fun e x=>(dY e x).map fun p=>.d (.tuple p.2)
theorem Af:dN K (fun xs H Q=>∃p ys,xs=[.ref p]∧((eI K H p ys∧∀l,H l=none→Q (.ref l) (bi H l (.tup ys)))∨(dO K H p ys∧Q (.ref p) H))) (g1 ey):=gY fun σ H0 F H e x z v Q R A hg q=>by
  obtain⟨⟨b,xs⟩,h5,h4⟩:=Option.map_eq_some_iff.mp hg
  obtain⟨p,vs,rfl,d1,s1⟩:=dH R A h5
  cases h4
  refine⟨p,vs,rfl,?_⟩
  cases b with
  | true=>
    refine .inl ⟨s1,fun t ht=>?_⟩
    obtain⟨R4,X4⟩:=R.newT (vs:=vs) ht
    exact q _ _ _ X4 R4 (di.mpr ⟨t,_,rfl,.inl (.inl aG),d1.mono X4.sf⟩)
  | false=>
    obtain⟨F4,R4,X4,hF⟩:=R.growT (aA.refl _) s1
    exact .inr ⟨s1,q _ _ _ X4 R4 (di.mpr ⟨p,vs,rfl,hF,d1.mono X4.sf⟩)⟩
def oG:En→Rv→Option Rv:=fun e x=>(dY e x).map fun p=>.l p.2
theorem Bm:dN K (fun xs H Q=>∃p ys,xs=[.ref p]∧(eI K H p ys∨dO K H p ys)∧∀l,H l=none→Q (.ref l) (bi H l (.lst ys))) (g1 oG):=gY fun σ H0 F H e x z v Q R A hg q=>by
  obtain⟨⟨b,xs⟩,h5,h4⟩:=Option.map_eq_some_iff.mp hg
  obtain⟨p,vs,rfl,d1,s1⟩:=dH R A h5
  cases h4
  refine⟨p,vs,rfl,?_,fun t ht=>?_⟩
  · cases b with
    | true=>exact .inl s1
    | false=>exact .inr s1
  · obtain⟨R4,X4,hF,no⟩:=R.newL (vs:=vs) ht
    exact q _ _ _ X4 R4 ⟨t,_,rfl,ht,hF,aG,d1,no⟩
def kL:List PyData→Option (List Bool)
  | []=>some []
  | .bool i::r=>(kL r).map (i::·)
  | _=>none
theorem kM:∀{ds:List PyData} {ns:List Bool},kL ds=some ns→ds=ns.map .bool
  | [],_,h=>by cases h;rfl
  | .bool i::r,_,h=>by
    obtain⟨ns,h1,rfl⟩:=Option.map_eq_some_iff.mp h
    rw [kM h1];rfl
def ij(g:List PyData→Option PyData):En→Rv→Option Rv:=fun e x=>match dY e x with
  | some (true,xs)=>(g xs).map .d
  | _=>none
theorem yi{r:List V→Hp→VK→Prop}{g:List PyData→Option PyData}(h:∀(F H:Hp) (p:Addr) (xs:List PyData) (vs:List V) (d:PyData) (Q:VK),aJ K F xs vs→eI K H p vs→g xs=some d→(∀v,(∀F,DA K F d v)→Q v H)→r [.ref p] H Q):dN K r (g1 (ij g)):=gY fun σ H0 F H e x z v Q R A hg q=>by
  unfold ij at hg
  split at hg
  case h_2=>cases hg
  case h_1 xs h5=>
  obtain⟨p,vs,rfl,d1,s1⟩:=dH R A h5
  obtain⟨d,h6,hg⟩:=Option.map_eq_some_iff.mp hg
  cases hg
  exact h F H p xs vs d Q d1 s1 h6 fun v hv=>q F H v (dJ.refl _ _ _ _) R (hv F)
def qt:List PyData→Option PyData:=fun xs=>(kL xs).map fun ns=>.bool (ns.all id)
def qu:List PyData→Option PyData:=fun xs=>(kL xs).map fun ns=>.bool (ns.any id)
theorem C_:dN K (fun xs H Q=>∃(l:Addr) (bs:List Bool),xs=[.ref l]∧eI K H l (bs.map V.bl)∧Q (.bl (bs.all id)) H) (g1 (ij qt)):=yi fun F H p xs vs d Q d1 s1 hg q=>by
  obtain⟨ns,h1,h2⟩:=Option.map_eq_some_iff.mp hg
  cases h2
  rw [kM h1] at d1
  rw [aJ.bools.mp d1] at s1
  exact⟨p,ns,rfl,s1,q _ fun _=>c_.mpr rfl⟩
theorem C':dN K (fun xs H Q=>∃(l:Addr) (bs:List Bool),xs=[.ref l]∧eI K H l (bs.map V.bl)∧Q (.bl (bs.any id)) H) (g1 (ij qu)):=yi fun F H p xs vs d Q d1 s1 hg q=>by
  obtain⟨ns,h1,h2⟩:=Option.map_eq_some_iff.mp hg
  cases h2
  rw [kM h1] at d1
  rw [aJ.bools.mp d1] at s1
  exact⟨p,ns,rfl,s1,q _ fun _=>c_.mpr rfl⟩
mutual
def gD:PyData→Bool
  | .tuple ds=>i0 ds
  | .list _=>false
  | .dict _=>false
  | _=>true
def i0:List PyData→Bool
  | []=>true
  | d::r=>gD d&&i0 r
end
mutual
def fv:PyData→Bool
  | .list _=>false
  | .tuple ds=>er ds
  | _=>true
def er:List PyData→Bool
  | []=>true
  | d::r=>fv d&&er r
end
theorem nD{h:Heap}:∀{m:List (Int × Int)} {es:List DictEntry} {vs:List (gv × Value)} {P:Program} {w:World},KV (m.map fun p=>((Sum.inl p.1:gv),V.int p.2)) vs→Pairs (dA P w) es vs→
    ReadsAll h (es.map (·.key)) (m.map fun p=>PyData.int p.1) []∧ReadsAll h (es.map (·.val)) (m.map fun p=>PyData.int p.2) []
  | [],es,vs,P,w,r,q=>by
    cases r
    cases q
    exact⟨.nil,.nil⟩
  | p::m,es,vs,P,w,r,q=>by
    rw [List.map_cons] at r
    cases r with
    | @cons a b as bs h1 t=>
      cases q with
      | @cons e kv es' kvs' h2 h3 h4=>
        obtain⟨z1,z2⟩:=h1
        obtain⟨c1,c2⟩:=nD t h4
        obtain⟨tk,z2⟩:=z2
        have k1:mU (Sum.inl p.1) e.key=true:=by
          have:b.1=Sum.inl p.1:=z1.symm
          rw [←this];exact h2
        rcases bH k1 with ⟨i,t',e1,e2⟩ | ⟨x,t',e1,e2⟩
        · cases e1
          refine⟨?_,?_⟩
          · simp only [List.map_cons,e2]
            exact ReadsAll.cons (as:=[]) (bs:=[]) (.int p.1 t') c1
          · simp only [List.map_cons,h3,z2]
            exact ReadsAll.cons (as:=[]) (bs:=[]) (.int p.2 tk) c2
        · cases e1
mutual
theorem DA.readsR{X:Cx}{pins:List (Addr × Obj)}{σ:L2.St}{H:Hp}{s:Shared}(I:aF X pins σ H s):∀{d:PyData} {v:V} {u:Value},DA X.K H d v→bu v u→∃as,Reads s.heap u d as∧(fv d=true→sysModules∉as)
  | .none,_,_,q,r=>by
    simp only [DA] at q;subst q;cases r;exact⟨_,.none,fun _=>by simp⟩
  | .bool b,_,_,q,r=>by
    simp only [DA] at q;subst q;cases r;exact⟨_,.bool b,fun _=>by simp⟩
  | .int i,_,_,q,r=>by
    simp only [DA] at q;subst q;obtain⟨t,rfl⟩:=r;exact⟨_,.int i t,fun _=>by simp⟩
  | .str x,_,_,q,r=>by
    simp only [DA] at q;subst q;obtain⟨t,rfl⟩:=r;exact⟨_,.str x t,fun _=>by simp⟩
  | .tuple ds,_,_,q,r=>by
    simp only [DA] at q
    obtain⟨a,xs,e,hs,rr⟩:=q
    subst e;cases r
    obtain⟨its,rv,⟨o,ho,hc,n,hd⟩,hz⟩:=I.tuple hs
    obtain⟨as,q,z⟩:=aJ.readsR I rr rv
    exact⟨_,.tuple ho hc hd q,fun c=>z (by simpa [fv] using c)⟩
  | .list ds,_,_,q,r=>by
    simp only [DA] at q
    obtain⟨a,xs,e,hs,rr⟩:=q
    subst e;cases r
    obtain⟨its,rv,ht,hz⟩:=I.list hs
    obtain⟨o,ho,hc,n,hd⟩:=ht.isList
    obtain⟨as,q,z⟩:=aJ.readsR I rr rv
    exact⟨_,.list ho hc hd q,fun c=>by simp [fv] at c⟩
  | .dict kvs,_,_,q,r=>by
    simp only [DA] at q
    obtain⟨a,m,e,hs,rfl⟩:=q
    subst e;cases r
    obtain⟨_,hS,vs,kv,o,es,ep,ho,hx,hd,_,hp,_⟩:=(show cY X.prog X.w H s.heap a (.dK (m.map fun p=>(Sum.inl p.1,V.int p.2))) from I.hok a _ hs)
    obtain⟨c1,c2⟩:=nD (h:=s.heap) kv hp
    refine⟨_,Reads.dict (as:=[]) (bs:=[]) ho hx.1 hd ?_ ?_,fun _=>?_⟩
    · rw [List.map_map];exact c1
    · rw [List.map_map];exact c2
    · have:a≠sysModules:=by simpa using hS
      simpa using this.symm
theorem aJ.readsR{X:Cx}{pins:List (Addr × Obj)}{σ:L2.St}{H:Hp}{s:Shared}(I:aF X pins σ H s):∀{ds:List PyData} {xs:List V} {us:List Value},aJ X.K H ds xs→aQ xs us→∃as,ReadsAll s.heap us ds as∧(er ds=true→sysModules∉as)
  | [],_,_,q,r=>by
    simp only [aJ] at q;subst q;cases r;exact⟨_,.nil,fun _=>by simp⟩
  | d::ds,_,_,q,r=>by
    simp only [aJ] at q
    obtain⟨x,rr,e,a,b⟩:=q
    subst e
    cases r with
    | cons p p'=>
      obtain⟨as,q1,z1⟩:=DA.readsR I a p
      obtain⟨bs,q2,z2⟩:=aJ.readsR I b p'
      refine⟨_,.cons q1 q2,fun c=>?_⟩
      simp only [er,Bool.and_eq_true] at c
      intro z
      rcases List.mem_append.mp z with z | z
      · exact z1 c.1 z
      · exact z2 c.2 z
end
def ku(d:PyData):Bool:=(gD d || (!d.hasDict || fv d))&&d.showable&&decide (d.depth≤60)&&decide (d.shown.length≤sizeLine)
def lF:En→Rv→Option Rv:=fun _ x=>match x with
  | .d d=>if ku d=true then some (.d (.str d.shown)) else none
  | _=>none
def xZ(K:PySem.W.Frag):List V→Hp→VK→Prop:=fun xs H Q=>∃x d,xs=[x]∧DA K H d x∧(d.hasDict=true→fv d=true)∧d.showable=true∧d.depth≤60∧d.shown.length≤sizeLine∧Q (.str d.shown) H
mutual
theorem fQ:∀(d:PyData),gD d=true→d.hasDict=false
  | .none,_=>rfl
  | .bool _,_=>rfl
  | .int _,_=>rfl
  | .str _,_=>rfl
  | .tuple ds,h=>by simp only [PyData.hasDict];exact jV ds (by simpa [gD] using h)
  | .list ds,h=>by simp [gD] at h
  | .dict _,h=>by simp [gD] at h
theorem jV:∀(ds:List PyData),i0 ds=true→PyData.hasDictAll ds=false
  | [],_=>rfl
  | d::r,h=>by
    simp only [i0,Bool.and_eq_true] at h
    simp only [PyData.hasDictAll,fQ d h.1,jV r h.2,Bool.or_self]
end
theorem rZ{X:Cx}{k:Nat}(hr:cQ k X.A):ed X (.builtin "repr") (xZ X.K):=by
  intro pins s σ H xs us Q I r h
  obtain⟨x,d,rfl,ha,hdl,hsh,hdp,hsz,q⟩:=h
  obtain⟨u,rfl,ru⟩:∃u,us=[u]∧bu x u:=by
    cases r with
    | cons p p'=>cases p';exact⟨_,rfl,p⟩
  have hun:=hr.un
  obtain⟨as,rd,hm⟩:=DA.readsR I ha ru
  have fin:∀a,u=.ref a→wpAny (model X.prog X.w) X.A (call (.builtin "repr") [u]) (EP X pins σ Q) X.xe s:=fun a e=>by
    subst e
    exact repr_of_reads' rd hsh (fun z=>hm (hdl z)) hr.gd (by lia) (fun _ _ e=>e) (fun h' u tk hk=>⟨.str _,H,I.kept hk,⟨_,rfl⟩,q⟩) hsz
  cases d with
  | none=>simp only [DA] at ha;subst ha;cases ru;exact P.repr_of_none ⟨.str _,H,I.tok _,⟨_,rfl⟩,q⟩
  | bool b=>simp only [DA] at ha;subst ha;cases ru;exact P.repr_of_bool ⟨.str _,H,I.tok _,⟨_,rfl⟩,q⟩
  | int i=>
    simp only [DA] at ha;subst ha;obtain⟨t,rfl⟩:=ru
    simp only [PyData.showable,decide_eq_true_eq] at hsh
    exact P.repr_of_int hsh ⟨.str _,H,I.tok _,⟨_,rfl⟩,q⟩
  | str y=>simp only [DA] at ha;subst ha;obtain⟨t,rfl⟩:=ru;exact P.repr_of_str ⟨.str _,H,I.tok _,⟨_,rfl⟩,q⟩ hsz
  | list ds=>obtain⟨a,_,e,_⟩:=dS.mp ha;subst e;exact fin a ru
  | dict ds=>simp only [DA] at ha;obtain⟨a,_,e,_⟩:=ha;subst e;exact fin a ru
  | tuple ds=>obtain⟨a,_,e,_⟩:=di.mp ha;subst e;exact fin a ru
theorem Ci:dN K (xZ K) (g1 lF):=gY fun σ H0 F H e x z v Q R A hg q=>by
  unfold lF at hg
  split at hg
  case h_2=>cases hg
  case h_1 d=>
  split at hg
  case isFalse=>cases hg
  case isTrue hl=>
  cases hg
  unfold ku at hl
  rw [Bool.and_eq_true,Bool.and_eq_true,Bool.and_eq_true,decide_eq_true_iff,decide_eq_true_iff] at hl
  refine⟨v,d,rfl,DA.mono R.sm A,fun z=>?_,hl.1.1.2,hl.1.2,hl.2,q F H _ (dJ.refl _ _ _ _) R ((pA (K:=K) (F:=F)).mpr rfl)⟩
  have c:=hl.1.1.1
  cases hf:gD d with
  | true=>rw [fQ d hf] at z;cases z
  | false=>rw [hf,z] at c;simpa using c
end
end L2
namespace L2
open PySem PySem.Spec PyProof.Rows
section
variable{K:PySem.W.Frag}{σ:L2.St}{H0 F H F' H':Hp}{e e':En}
theorem bf.upd1(R:bf K F H σ e){σ':L2.St}(i:Nat)(hl:σ'.length=e'.length)(hσ:∀j,j≠i→σ'[j]?=σ[j]?)(he:∀j,j≠i→e'[j]?=e[j]?)(sF:aA F F')(sm:aA F' H')(hf:∀j a,j≠i→Fp σ e H j a→F' a=none)
    (hh:∀j a o,j≠i→Fp σ e H j a→H a=some o→H' a=some o)(hd:∀x,e'[i]?=some (some (.d x))→∃v,σ'[i]?=some (some v)∧DA K F' x v)
    (ho:∀xs,e'[i]?=some (some (.l xs))→∃l vs,σ'[i]?=some (some (.ref l))∧F' l=none∧H' l=some (.lst vs)∧aJ K F' xs vs)
    (hn:∀xss,e'[i]?=some (some (.n xss))→∃(l:Addr) (bs:List Addr),σ'[i]?=some (some (.ref l))∧F' l=none∧H' l=some (.lst (bs.map V.ref))∧bs.length=xss.length∧bs.Nodup∧l∉bs∧
      ∀(k:Nat) (b:Addr) (ys:List PyData),bs[k]?=some b→xss[k]?=some ys→F' b=none∧∃us,H' b=some (.lst us)∧aJ K F' ys us)
    (hi:∀a j,j≠i→Fp σ' e' H' i a→¬Fp σ e H j a):bf K F' H' σ' e'∧∀j a,j≠i→(Fp σ' e' H' j a↔ Fp σ e H j a):=by
  have fs:∀j a,j≠i→(Fp σ' e' H' j a↔ Fp σ e H j a):=by
    intro j a hj
    have key:∀xss l,e[j]?=some (some (.n xss))→σ[j]?=some (some (.ref l))→H' l=H l:=fun xss l h1 h2=>by
      obtain⟨l',bs,g1,g2,g3,_⟩:=R.nst j xss h1
      rw [h2] at g1;cases g1
      rw [g3]
      exact hh j l _ hj (.inr ⟨xss,l,bs,h1,h2,g3,.inl rfl⟩) g3
    unfold Fp
    rw [he j hj,hσ j hj]
    constructor
    · rintro(h1 | ⟨xss,l,bs,h1,h2,h3,h4⟩)
      · exact .inl h1
      · exact .inr ⟨xss,l,bs,h1,h2,by rw [←key xss l h1 h2];exact h3,h4⟩
    · rintro(h1 | ⟨xss,l,bs,h1,h2,h3,h4⟩)
      · exact .inl h1
      · exact .inr ⟨xss,l,bs,h1,h2,by rw [key xss l h1 h2];exact h3,h4⟩
  refine⟨⟨sm,hl,fun j x q=>?_,fun j xs q=>?_,fun j xss q=>?_,fun j k a q1 q2=>?_⟩,fs⟩
  · by_cases z:j=i
    · subst z;exact hd x q
    · rw [he j z] at q
      obtain⟨v,h1,h2⟩:=R.dat j x q
      exact⟨v,by rw [hσ j z];exact h1,DA.mono sF h2⟩
  · by_cases z:j=i
    · subst z;exact ho xs q
    · rw [he j z] at q
      obtain⟨l,vs,h1,h2,h3,h4⟩:=R.own j xs q
      have o:Fp σ e H j l:=.inl ⟨xs,q,h1⟩
      exact⟨l,vs,by rw [hσ j z];exact h1,hf j l z o,hh j l _ z o h3,h4.mono sF⟩
  · by_cases z:j=i
    · subst z;exact hn xss q
    · rw [he j z] at q
      obtain⟨l,bs,h1,h2,h3,h4,h5,h6,h7⟩:=R.nst j xss q
      have o:Fp σ e H j l:=.inr ⟨xss,l,bs,q,h1,h3,.inl rfl⟩
      refine⟨l,bs,by rw [hσ j z];exact h1,hf j l z o,hh j l _ z o h3,h4,h5,h6,fun k b ys g1 g2=>?_⟩
      obtain⟨c1,us,c2,c3⟩:=h7 k b ys g1 g2
      have ob:Fp σ e H j b:=.inr ⟨xss,l,bs,q,h1,h3,.inr (List.mem_of_getElem? g1)⟩
      exact⟨hf j b z ob,us,hh j b _ z ob c2,c3.mono sF⟩
  · by_cases zj:j=i
    · subst zj
      by_cases zk:k=j
      · exact zk.symm
      · exact absurd ((fs k a zk).mp q2) (hi a k zk q1)
    · by_cases zk:k=i
      · subst zk
        exact absurd ((fs j a zj).mp q1) (hi a j zj q2)
      · exact R.fp j k a ((fs j a zj).mp q1) ((fs k a zk).mp q2)
theorem bf.putL(R:bf K F H σ e){i:Nat}{xs ys:List PyData}{l:Addr}{vs:List V}(hi:e[i]?=some (some (.l xs)))(hl:σ[i]?=some (some (.ref l)))(hd:aJ K F ys vs):
    bf K F (bi H l (.lst vs)) σ (e.set i (some (.l ys)))∧dJ σ F H e F (bi H l (.lst vs)) (e.set i (some (.l ys))):=by
  obtain⟨l',vs',h1,h2,h3,h4⟩:=R.own i xs hi
  rw [hl] at h1;cases h1
  have hlt:i < e.length:=(List.getElem?_eq_some_iff.mp hi).1
  have fi:Fp σ e H i l:=.inl ⟨xs,hi,hl⟩
  have gi:(e.set i (some (Sv.l ys)))[i]?=some (some (.l ys)):=List.getElem?_set_self hlt
  obtain⟨R',fs⟩:=R.upd1 (F':=F) (H':=bi H l (.lst vs)) (e':=e.set i (some (.l ys))) i (by rw [List.length_set];exact R.len) (fun _ _=>rfl) (fun j hj=>List.getElem?_set_ne (Ne.symm hj)) (aA.refl F)
    (fun b o q=>by
      have z:b≠l:=fun z=>by rw [z,h2] at q;cases q
      rw [aM z];exact R.sm b o q)
    (fun j a _ q=>(R.fpAt q).1)
    (fun j a o hj q ha=>by
      have z:a≠l:=fun z=>hj (R.fp j i a q (by rw [z];exact fi))
      rw [aM z];exact ha)
    (fun x q=>by rw [gi] at q;cases q) (fun zs q=>by rw [gi] at q;cases q;exact⟨l,vs,hl,h2,aG,hd⟩) (fun xss q=>by rw [gi] at q;cases q)
    (fun a j hj q q2=>by
      rcases q with ⟨zs,_,q⟩ | ⟨xss,_,_,q,_⟩
      · rw [hl] at q;cases q
        exact hj (R.fp j i _ q2 fi)
      · rw [gi] at q;cases q)
  refine⟨R',⟨aA.refl _,fun a q=>?_,fun _ _ q _ _=>q,fun a ws q=>?_,fun a o q n=>?_,fun j=>?_,fun a ⟨j,q⟩=>?_⟩⟩
  · by_cases z:a=l
    · rw [z,aG] at q;cases q
    · rw [aM z] at q;exact q
  · by_cases z:a=l
    · rw [z];exact⟨vs,aG⟩
    · rw [aM z];exact⟨ws,q⟩
  · have z:a≠l:=fun z=>n ⟨i,by rw [z];exact fi⟩
    rw [aM z];exact q
  · by_cases z:j=i
    · subst z;rw [gi];exact⟨fun _=>⟨xs,hi⟩,fun _=>⟨ys,rfl⟩⟩
    · rw [List.getElem?_set_ne (Ne.symm z)]
  · by_cases z:j=i
    · subst z
      rcases q with ⟨zs,_,q⟩ | ⟨xss,_,_,q,_⟩
      · rw [hl] at q;cases q;exact .inl ⟨j,fi⟩
      · rw [gi] at q;cases q
    · exact .inl ⟨j,(fs j a z).mp q⟩
theorem bf.setD(R:bf K F H σ e)(i:Nat){x:PyData}{v:V}(h:DA K F x v):bf K F H (σ.set i (some v)) (e.set i (some (.d x)))∧∀a,cV (σ.set i (some v)) (e.set i (some (.d x))) H a→cV σ e H a:=by
  have gi:∀s,(e.set i (some (Sv.d x)))[i]?=some (some s)→s=.d x∧i < e.length:=fun s q=>by
    have hlt:i < e.length:=by have:=(List.getElem?_eq_some_iff.mp q).1;simpa using this
    rw [List.getElem?_set_self hlt] at q
    exact⟨(Option.some.inj (Option.some.inj q)).symm,hlt⟩
  have nofp:∀a,¬Fp (σ.set i (some v)) (e.set i (some (.d x))) H i a:=fun a q=>by
    rcases q with ⟨zs,q,_⟩ | ⟨xss,_,_,q,_⟩
    · cases (gi _ q).1
    · cases (gi _ q).1
  obtain⟨R',fs⟩:=R.upd1 (F':=F) (H':=H) (σ':=σ.set i (some v)) (e':=e.set i (some (.d x))) i (by rw [List.length_set,List.length_set];exact R.len) (fun j hj=>List.getElem?_set_ne (Ne.symm hj)) (fun j hj=>List.getElem?_set_ne (Ne.symm hj)) (aA.refl F) R.sm
    (fun j a _ q=>(R.fpAt q).1) (fun j a o _ _ ha=>ha)
    (fun y q=>by
      obtain⟨z,hlt⟩:=gi _ q
      cases z
      exact⟨v,List.getElem?_set_self (by rw [R.len];exact hlt),h⟩)
    (fun zs q=>by cases (gi _ q).1) (fun xss q=>by cases (gi _ q).1) (fun a j hj q=>absurd q (nofp a))
  refine⟨R',fun a ⟨j,q⟩=>?_⟩
  by_cases z:j=i
  · subst z;exact absurd q (nofp a)
  · exact⟨j,(fs j a z).mp q⟩
theorem bf.setL(R:bf K F H σ e)(i:Nat){xs:List PyData}{l:Addr}{vs:List V}(h1:F l=none)(h2:H l=some (.lst vs))(h3:aJ K F xs vs)(h4:¬cV σ e H l):bf K F H (σ.set i (some (.ref l))) (e.set i (some (.l xs)))∧∀a,cV (σ.set i (some (.ref l))) (e.set i (some (.l xs))) H a→cV σ e H a∨a=l:=by
  have gi:∀s,(e.set i (some (Sv.l xs)))[i]?=some (some s)→s=.l xs∧i < e.length:=fun s q=>by
    have hlt:i < e.length:=by have:=(List.getElem?_eq_some_iff.mp q).1;simpa using this
    rw [List.getElem?_set_self hlt] at q
    exact⟨(Option.some.inj (Option.some.inj q)).symm,hlt⟩
  have onefp:∀a,Fp (σ.set i (some (.ref l))) (e.set i (some (.l xs))) H i a→a=l:=fun a q=>by
    rcases q with ⟨zs,q,q2⟩ | ⟨xss,_,_,q,_⟩
    · obtain⟨_,hlt⟩:=gi _ q
      rw [List.getElem?_set_self (by rw [R.len];exact hlt)] at q2
      cases q2;rfl
    · cases (gi _ q).1
  obtain⟨R',fs⟩:=R.upd1 (F':=F) (H':=H) (σ':=σ.set i (some (.ref l))) (e':=e.set i (some (.l xs))) i (by rw [List.length_set,List.length_set];exact R.len) (fun j hj=>List.getElem?_set_ne (Ne.symm hj)) (fun j hj=>List.getElem?_set_ne (Ne.symm hj)) (aA.refl F) R.sm
    (fun j a _ q=>(R.fpAt q).1) (fun j a o _ _ ha=>ha) (fun y q=>by cases (gi _ q).1)
    (fun zs q=>by
      obtain⟨z,hlt⟩:=gi _ q
      cases z
      exact⟨l,vs,List.getElem?_set_self (by rw [R.len];exact hlt),h1,h2,h3⟩)
    (fun xss q=>by cases (gi _ q).1) (fun a j hj q q2=>h4 ⟨j,by rw [onefp a q] at q2;exact q2⟩)
  refine⟨R',fun a ⟨j,q⟩=>?_⟩
  by_cases z:j=i
  · subst z;exact .inr (onefp a q)
  · exact .inl ⟨j,(fs j a z).mp q⟩
end
section
variable{X:Cx}{K:PySem.W.Frag}{o a:Expr}{es:List Expr}{fo:FE}{fs:FA}{name:Str}{apos cpos:Pos}{id:String}
def s_(K:PySem.W.Frag)(r:V→List V→Hp→VK→Prop)(g:List PyData→List PyData→Option (PyData × List PyData)):Prop:=
  ∀(F H:Hp) (l:Addr) (xs ys ds:List PyData) (z:PyData) (vs us:List V) (Q:VK),F l=none→aA F H→H l=some (.lst vs)→aJ K F xs vs→aJ K F ds us→g xs ds=some (z,ys)→
    (∀w ws,DA K F z w→aJ K F ys ws→Q w (bi H l (.lst ws)))→r (.ref l) us H Q
def fZ(g:List PyData→List PyData→Option (PyData × List PyData))(fo:FE)(fs:FA):FE:=fun e=>(fo e).bind fun p=>match p.1 with
  | .s i=>(fs p.2).bind fun q=>(je q.1).bind fun ds=>match q.2[i]? with
    | some (some (.l xs))=>(g xs ds).map fun z=>(.d z.1,q.2.set i (some (.l z.2)))
    | _=>none
  | _=>none
theorem yr{r:V→List V→Hp→VK→Prop}{g:List PyData→List PyData→Option (PyData × List PyData)}(hm:s_ K r g){σ:L2.St}{H:Hp}{Q:VK}(h:fE K (fZ g fo fs) σ H Q):Gb K "list" r (fE K fo) (fA K fs) σ H Q:=by
  obtain⟨F,e,z,e',R,hf,q⟩:=h
  unfold fZ at hf
  obtain⟨⟨x,e1⟩,h1,hf⟩:=Option.bind_eq_some_iff.mp hf
  match x,h1,hf with
  | .s i,h1,hf=>
  dsimp only at hf
  obtain⟨⟨rs,e2⟩,h2,hf⟩:=Option.bind_eq_some_iff.mp hf
  obtain⟨ds,h3,hf⟩:=Option.bind_eq_some_iff.mp hf
  refine⟨F,e,_,e1,R,h1,fun F1 H1 v X1 R1 A1=>?_⟩
  obtain⟨g1,zs,g2⟩:=A1
  obtain⟨l,vs,c1,c2,c3,c4⟩:=R1.own i zs g2
  rw [g1] at c1;cases c1
  refine⟨.inl ⟨rfl,vs,.inl (.inl c3)⟩,F1,e1,rs,e2,R1,h2,fun F2 H2 us X2 R2 A2=>?_⟩
  match h4:e2[i]?,hf with
  | some (some (.l xs)),hf=>
  dsimp only at hf
  obtain⟨⟨zd,ys⟩,h5,hf⟩:=Option.map_eq_some_iff.mp hf
  cases hf
  obtain⟨F3,R3,s3,d3,f3⟩:=b7.frozen R2 A2 h3
  obtain⟨l',vs',k1,k2,k3,k4⟩:=R3.own i xs h4
  rw [g1] at k1;cases k1
  refine hm F3 H2 l xs ys ds zd vs' us Q k2 R3.sm k3 k4 d3 h5 fun w ws hw hws=>?_
  obtain⟨R4,X4⟩:=R3.putL h4 g1 hws
  exact q _ _ _ ((X1.trans (X2.frz s3 f3)).trans X4) R4 hw
theorem AF{r:V→List V→Hp→VK→Prop}{g:List PyData→List PyData→Option (PyData × List PyData)}(slot:Slot "list" name id)(hty:typeOf (.builtin id)=pure (.type "method_descriptor"))(hm:FW X id r)(hf:s_ X.K r g)(ho:PE X o (fE X.K fo))(ha:PA X (a::es) (fA X.K fs))
    (hbase:attributeBase o name X.env (eval o X.env)=eval o X.env)
    (hfew:((backTo cpos (starEach (a::es) X.env)).all (fun x=> !x.1)&&(backToKw cpos (keywordEach [] X.env)).all (fun x=>x.1.isSome)
      &&decide ((a::es).length+([]:List Keyword).length+(if ([]:List Keyword).isEmpty then 0 else 1) < 30))=true)
    (hline:(apos.endLine==cpos.line)=true)(hs:starEach (a::es) X.env=(false,eval a X.env)::starEach es X.env)(hplain:(backTo cpos (starEach es X.env)).any (·.1)=false):
    PE X (.Call (.Attribute o name apos) (a::es) [] cpos) (fE X.K (fZ g fo fs)):=(DU PySem.F.plainAttrs_list slot hty hm ho ha hbase hfew hline hs hplain).mono fun _ _ _ h=>yr hf h
def dy:List PyData→List PyData→Option (PyData × List PyData):=fun xs ds=>match ds with
  | [d]=>if xs.length < 1000000 then some (.none,xs++[d]) else none
  | _=>none
theorem vD:s_ K t_ dy:=by
  intro F H l xs ys ds z vs us Q hF sm hl d1 d2 hg q
  unfold dy at hg
  match ds,hg,d2 with
  | [d],hg,d2=>
    simp only [aJ] at d2
    obtain⟨w,r,rfl,hw,rfl⟩:=d2
    dsimp only at hg
    split at hg
    case isFalse=>cases hg
    case isTrue hlt=>
    cases hg
    have:=d1.len
    have sl:sizeLine=16777216:=sizeLine_eq
    exact⟨l,vs,w,rfl,rfl,hl,by lia,q _ _ (gZ.mpr rfl) (d1.append (aJ.one hw))⟩
def Bn:List PyData→List PyData→Option (PyData × List PyData):=fun xs ds=>match ds with
  | []=>(xs[xs.length - 1]?).map fun d=>(d,xs.dropLast)
  | _=>none
def jC:List PyData→List PyData→Option (PyData × List PyData):=fun xs ds=>match ds with
  | [.int i]=>if 0≤i∧i < 1000000000 then(xs[i.toNat]?).map fun d=>(d,xs.eraseIdx i.toNat) else none
  | _=>none
theorem zL:s_ K xX jC:=by
  intro F H l xs ys ds z vs us Q hF sm hl d1 d2 hg q
  unfold jC at hg
  match ds,hg,d2 with
  | [.int i],hg,d2=>
    simp only [aJ,DA] at d2
    obtain⟨w,r,rfl,rfl,rfl⟩:=d2
    dsimp only at hg
    split at hg
    case isFalse=>cases hg
    case isTrue hlt=>
    obtain⟨d,h1,h2⟩:=Option.map_eq_some_iff.mp hg
    cases h2
    obtain⟨v,g1,g2⟩:=d1.get h1
    have hlt2:i.toNat < vs.length:=(List.getElem?_eq_some_iff.mp g1).1
    exact⟨l,vs,i,i.toNat,v,rfl,rfl,hl,by lia,by lia,seqIndex_of hlt.1 (by lia),g1,q _ _ g2 (d1.erase _)⟩
end
end L2
namespace L2
open PySem PySem.Spec PyProof.Rows
inductive Fl where
  | nx (e:En)
  | bk (e:En)
  | ct (e:En)
  | rt (r:Rv) (e:En)
abbrev FS:=En→Option Fl
structure dM (W:List Nat) (σ:L2.St) (F H:Hp) (e:En) (σ':L2.St) (F' H':Hp) (e':En):Prop where
  sf:aA F F'
  dom:∀a,H' a=none→H a=none
  fr:∀a vs,F a=none→H a=some (.lst vs)→¬cV σ e H a→F' a=none
  lst:∀a vs,H a=some (.lst vs)→∃vs',H' a=some (.lst vs')
  tmp:∀a o,H a=some o→¬cV σ e H a→H' a=some o
  own:∀a,cV σ' e' H' a→cV σ e H a∨H a=none
  wr:∀j,j∉W→σ'[j]?=σ[j]?
section
variable{K:PySem.W.Frag}{W W1 W2:List Nat}{σ σ1 σ2 σ':L2.St}{H0 F H F1 H1 F2 H2 F' H':Hp}{e e1 e2 e':En}
theorem dM.refl:dM W σ F H e σ F H e:=⟨aA.refl _,fun _ h=>h,fun _ _ h _ _=>h,fun _ vs h=>⟨vs,h⟩,fun _ _ h _=>h,fun _ h=>.inl h,fun _ _=>rfl⟩
theorem dJ.s(x:dJ σ F H e F' H' e'):dM W σ F H e σ F' H' e':=⟨x.sf,x.dom,x.fr,x.lst,x.tmp,x.ow,fun _ _=>rfl⟩
theorem dM.trans(x:dM W σ F H e σ1 F1 H1 e1)(y:dM W σ1 F1 H1 e1 σ2 F2 H2 e2):dM W σ F H e σ2 F2 H2 e2:=
  ⟨x.sf.trans y.sf,fun a h=>x.dom a (y.dom a h),fun a vs h n no=>let ⟨vs',q⟩:=x.lst a vs n;y.fr a vs' (x.fr a vs h n no) q (fun z=>(x.own a z).elim no fun z=>by rw [n] at z;cases z),fun a vs h=>let ⟨vs',q⟩:=x.lst a vs h;y.lst a vs' q,
    fun a o h n=>y.tmp a o (x.tmp a o h n) (fun z=>(x.own a z).elim n fun z=>by rw [h] at z;cases z),
    fun a h=>(y.own a h).elim (x.own a) (fun z=>.inr (x.dom a z)),
    fun j h=>(y.wr j h).trans (x.wr j h)⟩
theorem dM.mono(x:dM W1 σ F H e σ' F' H' e')(h:∀j,j∈W1→j∈W):dM W σ F H e σ' F' H' e':=⟨x.sf,x.dom,x.fr,x.lst,x.tmp,x.own,fun j n=>x.wr j fun z=>n (h j z)⟩
end
def mD(K:PySem.W.Frag)(W:List Nat)(σ:L2.St)(F H:Hp)(e:En)(D:rP):Fl→Prop
  | .nx e'=>∀F' H' σ',dM W σ F H e σ' F' H' e'→bf K F' H' σ' e'→D.nx σ' H'
  | .bk e'=>∀F' H' σ',dM W σ F H e σ' F' H' e'→bf K F' H' σ' e'→D.bk σ' H'
  | .ct e'=>∀F' H' σ',dM W σ F H e σ' F' H' e'→bf K F' H' σ' e'→D.ct σ' H'
  | .rt r e'=>∀F' H' σ' v,dM W σ F H e σ' F' H' e'→bf K F' H' σ' e'→cC K σ' H F' H' e' r v→D.rt v H'
def fS(K:PySem.W.Frag)(f:FS)(W:List Nat):TS:=fun D σ H=>∃F e fl,bf K F H σ e∧f e=some fl∧mD K W σ F H e D fl
theorem PS.mono{X:Cx}{st:Stmt}{t t':TS}(h:PS X st t)(m:∀D σ H,t' D σ H→t D σ H):PS X st t':=fun pins s σ H D I q=>h pins s σ H D I (m D σ H q)
theorem lQ.mono{X:Cx}{st:List Stmt}{t t':TS}(h:lQ X st t)(m:∀D σ H,t' D σ H→t D σ H):lQ X st t':=fun pins s σ H D I q=>h pins s σ H D I (m D σ H q)
theorem mD.later{K:PySem.W.Frag}{W W1 W2:List Nat}{σ σ1:L2.St}{F H F1 H1:Hp}{e e1:En}{D:rP}{fl:Fl}(h:mD K W σ F H e D fl)(x:dM W1 σ F H e σ1 F1 H1 e1)(h1:∀j,j∈W1→j∈W)(h2:∀j,j∈W2→j∈W):mD K W2 σ1 F1 H1 e1 D fl:=by
  cases fl with
  | nx e'=>exact fun F' H' σ' y R=>h F' H' σ' ((x.mono h1).trans (y.mono h2)) R
  | bk e'=>exact fun F' H' σ' y R=>h F' H' σ' ((x.mono h1).trans (y.mono h2)) R
  | ct e'=>exact fun F' H' σ' y R=>h F' H' σ' ((x.mono h1).trans (y.mono h2)) R
  | rt r e'=>exact fun F' H' σ' v y R A=>h F' H' σ' v ((x.mono h1).trans (y.mono h2)) R (A.weak x.dom)
section
variable{X:Cx}{K:PySem.W.Frag}{W W1 W2:List Nat}{st:Stmt}{fM:List Stmt}{f g:FS}{a b:Expr}{fa:FE}{ft:FT}{pos:Pos}
def dG:FS:=fun e=>some (.nx e)
def aE(f g:FS):FS:=fun e=>(f e).bind fun fl=>match fl with
  | .nx e1=>g e1
  | fl=>some fl
theorem a9:lQ X [] (fS K dG []):=zP.mono fun D σ H h=>by
  obtain⟨F,e,fl,R,hf,q⟩:=h
  cases hf
  exact q F H σ dM.refl R
theorem af(h1:PS X st (fS K f W1))(h2:lQ X fM (fS K g W2)):lQ X (st::fM) (fS K (aE f g) (W1++W2)):=(xM h1 h2).mono fun D σ H h=>by
  obtain⟨F,e,fl,R,hf,q⟩:=h
  unfold aE at hf
  obtain⟨fl1,h1,hf⟩:=Option.bind_eq_some_iff.mp hf
  have s1:∀j,j∈W1→j∈W1++W2:=fun j h=>List.mem_append.mpr (.inl h)
  have s2:∀j,j∈W2→j∈W1++W2:=fun j h=>List.mem_append.mpr (.inr h)
  refine⟨F,e,fl1,R,h1,?_⟩
  cases fl1 with
  | nx e1=>exact fun F' H' σ' x R'=>⟨F',e1,fl,R',hf,q.later x s1 s2⟩
  | bk e1=>cases hf;exact fun F' H' σ' x R'=>q F' H' σ' (x.mono s1) R'
  | ct e1=>cases hf;exact fun F' H' σ' x R'=>q F' H' σ' (x.mono s1) R'
  | rt r e1=>cases hf;exact fun F' H' σ' v x R' A=>q F' H' σ' v (x.mono s1) R' A
theorem aj(h1:PS X st (fS K f W)):lQ X [st] (fS K f W):=zQ h1
def kg(fa:FE):FS:=fun e=>(fa e).map fun p=>.nx p.2
theorem kb(he:PE X a (fE K fa))(hs:swapsWith a none pos.line X.env=pure false):PS X (.Expr a pos) (fS K (kg fa) []):=(zO he hs).mono fun D σ H h=>by
  obtain⟨F,e,fl,R,hf,q⟩:=h
  obtain⟨⟨x,e1⟩,h1,hf⟩:=Option.map_eq_some_iff.mp hf
  cases hf
  exact⟨F,e,x,e1,R,h1,fun F1 H1 v X1 R1 A1=>q F1 H1 σ X1.s R1⟩
def bc(fa:FE):FS:=fun e=>(fa e).map fun p=>.rt p.1 p.2
theorem av(he:PE X a (fE K fa)):PS X (.Return (some a) pos) (fS K (bc fa) []):=(B4 he).mono fun D σ H h=>by
  obtain⟨F,e,fl,R,hf,q⟩:=h
  obtain⟨⟨x,e1⟩,h1,hf⟩:=Option.map_eq_some_iff.mp hf
  cases hf
  exact⟨F,e,x,e1,R,h1,fun F1 H1 v X1 R1 A1=>q F1 H1 σ v X1.s R1 A1⟩
def iz(ft:FT)(f g:FS):FS:=fun e=>(ft e).bind fun p=>if p.1=true then f p.2 else g p.2
theorem b_{c:Expr}{bs cs:List Stmt}(hc:PT X c (fT K ft))(ha:lQ X bs (fS K f W1))(hb:lQ X cs (fS K g W2)):PS X (.If c bs cs pos) (fS K (iz ft f g) (W1++W2)):=(D5 hc ha hb).mono fun D σ H h=>by
  obtain⟨F,e,fl,R,hf,q⟩:=h
  unfold iz at hf
  obtain⟨⟨x,e1⟩,h1,hf⟩:=Option.bind_eq_some_iff.mp hf
  refine⟨F,e,x,e1,R,h1,fun F1 H1 X1 R1=>?_⟩
  cases x with
  | true=>exact⟨F1,e1,fl,R1,hf,q.later (W1:=[]) X1.s (fun j h=>by cases h) fun j h=>List.mem_append.mpr (.inl h)⟩
  | false=>exact⟨F1,e1,fl,R1,hf,q.later (W1:=[]) X1.s (fun j h=>by cases h) fun j h=>List.mem_append.mpr (.inr h)⟩
def xN(i:Nat)(r:Rv)(e:En):Option En:=match r with
  | .d x=>some (e.set i (some (.d x)))
  | .l xs=>some (e.set i (some (.l xs)))
  | .s _=>none
theorem xO{σ:L2.St}{H F H1 F1:Hp}{e e1 e2:En}{i:Nat}{r:Rv}{v:V}(R:bf K F H σ e)(X1:dJ σ F H e F1 H1 e1)(R1:bf K F1 H1 σ e1)(A1:cC K σ H F1 H1 e1 r v)(h:xN i r e1=some e2):
    dM [i] σ F H e (σ.set i (some v)) F1 H1 e2∧bf K F1 H1 (σ.set i (some v)) e2:=by
  have wr:∀j,j∉[i]→(σ.set i (some v))[j]?=σ[j]?:=fun j n=>List.getElem?_set_ne (fun z=>n (by simp [z]))
  cases r with
  | d x=>
    cases h
    obtain⟨R2,o2⟩:=R1.setD i A1
    exact⟨⟨X1.sf,X1.dom,X1.fr,X1.lst,X1.tmp,fun a h=>X1.ow a (o2 a h),wr⟩,R2⟩
  | l xs=>
    cases h
    obtain⟨l,vs,rfl,h1,h2,h3,h4,h5⟩:=A1
    obtain⟨R2,o2⟩:=R1.setL i h2 h3 h4 h5
    refine⟨⟨X1.sf,X1.dom,X1.fr,X1.lst,X1.tmp,fun a h=>?_,wr⟩,R2⟩
    rcases o2 a h with z | z
    · exact X1.ow a z
    · exact .inr (by rw [z];exact h1)
  | s j=>cases h
def a7(i:Nat)(fa:FE):FS:=fun e=>(fa e).bind fun p=>(xN i p.1 p.2).map .nx
theorem az{i:Nat}{x:Str}{pos':Pos}(hN:X.N.Nodup)(hi:X.N[i]?=some x)(hx:CT X.env.scope x)(he:PE X a (fE K fa))(hs:swapsWith a (some (.Name x pos')) pos.line X.env=pure false)(hf:X.fn x=true∨X.env.scope.names.lookup x=some .local):
    PS X (.Assign [.Name x pos'] a pos) (fS K (a7 i fa) [i]):=(B5 hN hi hx he hs hf).mono fun D σ H h=>by
  obtain⟨F,e,fl,R,hf,q⟩:=h
  unfold a7 at hf
  obtain⟨⟨r,e1⟩,h1,hf⟩:=Option.bind_eq_some_iff.mp hf
  obtain⟨e2,h2,hf⟩:=Option.map_eq_some_iff.mp hf
  cases hf
  refine⟨F,e,r,e1,R,h1,fun F1 H1 v X1 R1 A1=>?_⟩
  obtain⟨x,R2⟩:=xO R X1 R1 A1 h2
  exact q F1 H1 _ x R2
abbrev FG:=PyData→En→Option En
def fG(K:PySem.W.Frag)(g:FG)(W:List Nat):TG:=fun v σ H Q=>∃F e x e',bf K F H σ e∧DA K F x v∧g x e=some e'∧∀σ',dM W σ F H e σ' F H e'→bf K F H σ' e'→Q σ' H
abbrev Ao:=List PyData→En→Option En
def ES(K:PySem.W.Frag)(g:Ao)(W:List Nat):yv:=fun vs σ H Q=>∃F e xs e',bf K F H σ e∧aJ K F xs vs∧g xs e=some e'∧∀σ',dM W σ F H e σ' F H e'→bf K F H σ' e'→Q σ' H
theorem PG.mono{tg:Expr}{t t':TG}(h:PG X tg t)(m:∀v σ H Q,t' v σ H Q→t v σ H Q):PG X tg t':=fun pins s σ H v u Q I r q=>h pins s σ H v u Q I r (m v σ H Q q)
theorem vw.mono{tg:List Expr}{t t':yv}(h:vw X tg t)(m:∀v σ H Q,t' v σ H Q→t v σ H Q):vw X tg t':=fun pins s σ H v u Q I r q=>h pins s σ H v u Q I r (m v σ H Q q)
def ah(i:Nat):FG:=fun x e=>some (e.set i (some (.d x)))
def cJ:Ao:=fun xs e=>match xs with
  | []=>some e
  | _=>none
def aw(g:FG)(gs:Ao):Ao:=fun xs e=>match xs with
  | x::r=>(g x e).bind fun e1=>gs r e1
  | _=>none
def c7(gs:Ao):FG:=fun x e=>match x with
  | .tuple xs=>gs xs e
  | _=>none
theorem ap{i:Nat}{x:Str}(hN:X.N.Nodup)(hi:X.N[i]?=some x)(hx:CT X.env.scope x)(hf:X.fn x=true∨X.env.scope.names.lookup x=some .local):PG X (.Name x pos) (fG K (ah i) [i]):=(zD hN hi hx hf).mono fun v σ H Q h=>by
  obtain⟨F,e,x,e',R,hx,hg,q⟩:=h
  cases hg
  obtain⟨R2,o2⟩:=R.setD i hx
  exact q _ ⟨aA.refl _,fun _ h=>h,fun _ _ h _ _=>h,fun _ vs h=>⟨vs,h⟩,fun _ _ h _=>h,fun a h=>.inl (o2 a h),fun j n=>List.getElem?_set_ne (fun z=>n (by simp [z]))⟩ R2
theorem de:vw X [] (ES K cJ []):=zF.mono fun v σ H Q h=>by
  obtain⟨F,e,x,e',R,hx,hg,q⟩:=h
  unfold cJ at hg
  split at hg
  · cases hg
    simp only [aJ] at hx
    exact⟨hx,q σ dM.refl R⟩
  · cases hg
theorem ar{es:List Expr}{g1:FG}{gs:Ao}(h1:PG X a (fG K g1 W1))(h2:vw X es (ES K gs W2))
    (hs:(assignEach (a::es) X.env).map (·.2)=assign a X.env::(assignEach es X.env).map (·.2)):vw X (a::es) (ES K (aw g1 gs) (W1++W2)):=(xx h1 h2 hs).mono fun v σ H Q h=>by
  obtain⟨F,e,xs,e',R,hx,hg,q⟩:=h
  unfold aw at hg
  match xs,hg,hx with
  | x::r,hg,hx=>
    simp only [aJ] at hx
    obtain⟨w,ws,e1,hw,hr⟩:=hx
    dsimp only at hg
    obtain⟨e1',h3,h4⟩:=Option.bind_eq_some_iff.mp hg
    refine⟨w,ws,e1,F,e,x,e1',R,hw,h3,fun σ1 x1 R1=>⟨F,e1',r,e',R1,hr,h4,fun σ2 x2 R2=>?_⟩⟩
    exact q σ2 ((x1.mono fun j h=>List.mem_append.mpr (.inl h)).trans (x2.mono fun j h=>List.mem_append.mpr (.inr h))) R2
theorem eA{es:List Expr}{k n:Nat}{gs:Ao}(hK:X.K=K)(hc:X.calm=true)(h:vw X es (ES K gs W))(hl:∀xs e e',gs xs e=some e'→xs.length=n)(hn:(assignEach es X.env).length=n)(hst:(assignEach es X.env).findIdx? (·.1)=none):PG X (.Tuple es k pos) (fG K (c7 gs) W):=(zE hK hc h hn hst).mono fun v σ H Q h=>by
  obtain⟨F,e,x,e',R,hx,hg,q⟩:=h
  unfold c7 at hg
  match x,hg,hx with
  | .tuple xs,hg,hx=>
    obtain⟨p,vs,e1,e2,e3⟩:=di.mp hx
    exact⟨p,vs,e1,R.sm.tup e2,by rw [←e3.len];exact hl xs e e' hg,F,e,xs,e',R,e3,hg,q⟩
theorem ez(xs:List PyData)(e e':En)(h:cJ xs e=some e'):xs.length=0:=by
  unfold cJ at h
  split at h
  · rfl
  · cases h
theorem aD{g:FG}{gs:Ao}{n:Nat}(hl:∀xs e e',gs xs e=some e'→xs.length=n)(xs:List PyData)(e e':En)(h:aw g gs xs e=some e'):xs.length=n+1:=by
  unfold aw at h
  match xs,h with
  | x::r,h=>
    obtain⟨e1,h3,h4⟩:=Option.bind_eq_some_iff.mp h
    simp [hl r e1 e' h4]
def jd(fa:FE)(g:FG):FS:=fun e=>(fa e).bind fun p=>match p.1 with
  | .d x=>(g x p.2).map .nx
  | _=>none
theorem fx{tg:Expr}{g:FG}(he:PE X a (fE K fa))(hg:PG X tg (fG K g W))(hs:swapsWithSole [tg] a pos.line X.env=pure false)(hw:swappedStores [tg] a X.env=pure none)
    (h1:(assignEach [tg] X.env).map (·.2)=[assign tg X.env]):PS X (.Assign [tg] a pos) (fS K (jd fa g) W):=(xJ he hg hs hw h1).mono fun D σ H h=>by
  obtain⟨F,e,fl,R,hf,q⟩:=h
  unfold jd at hf
  obtain⟨⟨r,e1⟩,h1,hf⟩:=Option.bind_eq_some_iff.mp hf
  match r,h1,hf with
  | .d x,h1,hf=>
    obtain⟨e2,h2,hf⟩:=Option.map_eq_some_iff.mp hf
    cases hf
    exact⟨F,e,_,e1,R,h1,fun F1 H1 v X1 R1 A1=>⟨F1,e1,x,e2,R1,A1,h2,fun σ' x2 R2=>q F1 H1 σ' (X1.s.trans x2) R2⟩⟩
def sR(i j:Nat)(fs:FA):FS:=fun e=>(fs e).bind fun p=>match p.1 with
  | [.d x,.d y]=>some (.nx ((p.2.set i (some (.d x))).set j (some (.d y))))
  | _=>none
theorem xV{i j:Nat}{x y:Str}{fs:FA}{px py pt:Pos}{kt k2 pt2}(hc:X.calm=true)(hN:X.N.Nodup)(hi:X.N[i]?=some x)(hj:X.N[j]?=some y)(hij:i≠j)
    (hx:X.env.scope.names.lookup x=some .local)(hy:X.env.scope.names.lookup y=some .local)(ha:PA X [a,b] (fA K fs))
    (hw:swappedStores [.Tuple [.Name x px,.Name y py] kt pt] (.Tuple [a,b] k2 pt2) X.env=pure (some [x,y]))
    (hs:swapsWithSole [.Tuple [.Name x px,.Name y py] kt pt] (.Tuple [a,b] k2 pt2) pos.line X.env=pure false):
    PS X (.Assign [.Tuple [.Name x px,.Name y py] kt pt] (.Tuple [a,b] k2 pt2) pos) (fS K (sR i j fs) [i,j]):=(B3 hc hN hi hj hij hx hy ha hw hs).mono fun D σ H h=>by
  obtain⟨F,e,fl,R,hf,q⟩:=h
  unfold sR at hf
  obtain⟨⟨rs,e1⟩,h1,hf⟩:=Option.bind_eq_some_iff.mp hf
  refine⟨F,e,rs,e1,R,h1,fun F1 H1 vs X1 R1 A1=>?_⟩
  match rs,hf,A1 with
  | [.d x,.d y],hf,A1=>
    cases hf
    obtain⟨v,u,rfl,a1,a2⟩:=uc A1
    obtain⟨R2,o2⟩:=R1.setD i a1
    obtain⟨R3,o3⟩:=R2.setD j a2
    refine⟨v,u,rfl,q F1 H1 _ ⟨X1.sf,X1.dom,X1.fr,X1.lst,X1.tmp,fun a h=>X1.ow a (o2 a (o3 a h)),fun m n=>?_⟩ R3⟩
    rw [List.getElem?_set_ne (fun z=>n (by simp [z])),List.getElem?_set_ne (fun z=>n (by simp [z]))]
def pB:Rv→Option PyData
  | .d x=>some x
  | .l xs=>some (.list xs)
  | .s _=>none
theorem oz{r:Rv}{d:PyData}(h:pB r=some d):je [r]=some [d]:=by
  cases r with
  | d x=>cases h;rfl
  | l xs=>cases h;rfl
  | s i=>cases h
def lr(e:En):Rv→Option (Nat × List PyData)
  | .s n=>match e[n]? with
    | some (some (.l xs))=>some (n,xs)
    | _=>none
  | _=>none
theorem vm{e:En}{r:Rv}{n:Nat}{xs:List PyData}(h:lr e r=some (n,xs)):r=.s n∧e[n]?=some (some (.l xs)):=by
  unfold lr at h
  split at h
  · split at h
    · rename_i heq
      cases h;exact⟨rfl,heq⟩
    · cases h
  · cases h
def qX(fa fo fi:FE):FS:=fun e=>(fa e).bind fun p=>(pB p.1).bind fun d=>(fo p.2).bind fun o=>(fi o.2).bind fun i=>(cn i.1).bind fun k=>(lr i.2 o.1).bind fun s=>(uU s.2.length k).map fun j=>.nx (i.2.set s.1 (some (.l (s.2.set j d))))
theorem sP{o i:Expr}{fo fi:FE}{ps:Pos}(he:PE X a (fE K fa))(ho:PE X o (fE K fo))(hi:PE X i (fE K fi))
    (ha:∀v,assign (.Subscript o i ps) X.env v=(do
      let ov ←holding [v] (eval o X.env)
      let iv ←holding [v,ov] (eval i X.env)
      standAt ps
      holding [v,ov,iv] (setItem ov iv v)
      release [v,ov,iv] []))
    (hs:swapsWithSole [.Subscript o i ps] a pos.line X.env=pure false)(hw:swappedStores [.Subscript o i ps] a X.env=pure none)
    (h1:(assignEach [.Subscript o i ps] X.env).map (·.2)=[assign (.Subscript o i ps) X.env]):PS X (.Assign [.Subscript o i ps] a pos) (fS K (qX fa fo fi) []):=(xJ he (BW ho hi yj ha) hs hw h1).mono fun D σ H h=>by
  obtain⟨F,e,fl,R,hf,q⟩:=h
  unfold qX at hf
  obtain⟨⟨r,e1⟩,g1,hf⟩:=Option.bind_eq_some_iff.mp hf
  obtain⟨d,g2,hf⟩:=Option.bind_eq_some_iff.mp hf
  obtain⟨⟨ro,e2⟩,g3,hf⟩:=Option.bind_eq_some_iff.mp hf
  obtain⟨⟨ri,e3⟩,g4,hf⟩:=Option.bind_eq_some_iff.mp hf
  obtain⟨k,g5,hf⟩:=Option.bind_eq_some_iff.mp hf
  obtain⟨⟨n,xs⟩,g6,hf⟩:=Option.bind_eq_some_iff.mp hf
  obtain⟨j,g7,hf⟩:=Option.map_eq_some_iff.mp hf
  cases hf
  obtain⟨z6,g6'⟩:=vm g6
  dsimp only at z6 g6'
  subst z6
  refine⟨F,e,r,e1,R,g1,fun F1 H1 v X1 R1 A1=>?_⟩
  refine⟨F1,e1,_,e2,R1,g3,fun F2 H2 u X2 R2 A2=>⟨F2,e2,ri,e3,R2,g4,fun F3 H3 w X3 R3 A3=>?_⟩⟩
  have X12:=X1.trans X2
  have X13:=X12.trans X3
  have A1':=(A1.ext X2).ext X3
  obtain⟨F4,R4,s4,d4,f4⟩:=b7.frozen R3 (rs:=[r]) (vs:=[v]) ⟨v,[],rfl,A1',rfl⟩ (oz g2)
  obtain⟨h1,_⟩:=A2
  obtain⟨l,vs,k1,k2,k3,k4⟩:=R4.own n xs g6'
  rw [h1] at k1;cases k1
  simp only [aJ] at d4
  obtain⟨v',r',e',hv,_⟩:=d4
  cases e'
  refine⟨l,vs,k,j,rfl,cK A3 g5,k3,by rw [←k4.len];exact g7,?_⟩
  obtain⟨R5,X5⟩:=R4.putL g6' h1 (k4.set hv j)
  exact q _ _ σ ((X13.frz s4 f4).trans X5).s R5
def h_(ft:FT)(f:FS):Nat→FS
  | 0,_=>none
  | n+1,e=>(ft e).bind fun p=>if p.1=true then(f p.2).bind fun fl=>match fl with
      | .nx e1=>h_ ft f n e1
      | .ct e1=>h_ ft f n e1
      | .bk e1=>some (.nx e1)
      | .rt r e1=>some (.rt r e1)
    else some (.nx p.2)
def jI(n:Nat)(ft:FT)(f:FS):FS:=h_ ft f n
theorem nB{n:Nat}{c:Expr}{body:List Stmt}(hp:PassesOwn (model X.prog X.w) X.A X.env X.xe)(hc:PT X c (fT K ft))(hb:lQ X body (fS K f W)):PS X (.While c body [] pos) (fS K (jI n ft f) W):=(xK hp hc hb).mono fun D σ H h=>by
  refine⟨fun m σ H=>∃F e fl,bf K F H σ e∧h_ ft f m e=some fl∧mD K W σ F H e D fl,⟨n,h⟩,?_⟩
  rintro m σ H ⟨F,e,fl,R,hf,q⟩
  cases m with
  | zero=>cases hf
  | succ m=>
    unfold h_ at hf
    obtain⟨⟨x,e1⟩,h1,hf⟩:=Option.bind_eq_some_iff.mp hf
    refine⟨F,e,x,e1,R,h1,fun F1 H1 X1 R1=>?_⟩
    have sub:∀j,j∈([]:List Nat)→j∈W:=fun j h=>by cases h
    cases x with
    | false=>
      rw [if_neg (by simp)] at hf
      cases hf
      exact Dw (q F1 H1 σ X1.s R1)
    | true=>
      rw [if_pos rfl] at hf
      refine Dx ?_
      obtain⟨fl1,h2,hf⟩:=Option.bind_eq_some_iff.mp hf
      have q1:mD K W σ F1 H1 e1 D fl:=q.later (W1:=[]) X1.s sub fun j h=>h
      refine⟨fun σ' H'=>∃F' e',bf K F' H' σ' e'∧h_ ft f m e'=some fl∧mD K W σ' F' H' e' D fl,fun σ' H' ⟨F',e',r1,r2,r3⟩=>⟨m,Nat.lt_succ_self m,F',e',fl,r1,r2,r3⟩,F1,e1,fl1,R1,h2,?_⟩
      cases fl1 with
      | nx e2=>exact fun F2 H2 σ2 x R2=>⟨F2,e2,R2,hf,q1.later x (fun j h=>h) fun j h=>h⟩
      | ct e2=>exact fun F2 H2 σ2 x R2=>⟨F2,e2,R2,hf,q1.later x (fun j h=>h) fun j h=>h⟩
      | bk e2=>cases hf;exact fun F2 H2 σ2 x R2=>q1 F2 H2 σ2 x R2
      | rt r e2=>cases hf;exact fun F2 H2 σ2 v x R2 A=>q1 F2 H2 σ2 v x R2 A
end
end L2
namespace L2
open PySem PySem.Spec PyProof.Rows
theorem PI.mono{X:Cx}{tg iter:Expr}{t t':TI}(h:PI X tg iter t)(m:∀σ H R,t' σ H R→t σ H R):PI X tg iter t':=fun pins s σ H R I q=>h pins s σ H R I (m σ H R q)
theorem PI.or{X:Cx}{tg iter:Expr}{t t':TI}(h:PI X tg iter t)(h':PI X tg iter t'):PI X tg iter (fun σ H R=>t σ H R∨t' σ H R):=fun pins s σ H R I q=>by
  rcases q with q | q
  · exact h pins s σ H R I q
  · exact h' pins s σ H R I q
abbrev ir:=List (Nat × List PyData)
def vA(K:PySem.W.Frag)(σ:L2.St)(F H:Hp)(own:ir):Prop:=∀p∈own,∃l vs,σ[p.1]?=some (some (.ref l))∧H l=some (.lst vs)∧aJ K F p.2 vs
def uA(K:PySem.W.Frag)(σ:L2.St)(J:It)(items:List PyData)(own:ir)(F0:Hp):Prop:=∀F H,aA F0 F→aA F H→vA K σ F H own→
  (∀i,i < items.length→J.go i H)∧(∀i,items.length≤i→J.stop i H)∧∀i d x H',items[i]?=some d→J.yld i H x H'→∃F',aA H H'∧aA F F'∧aA F' H'∧(∀a,F a=none→H a≠none→F' a=none)∧DA K F' d x
abbrev FI:=En→Option (List PyData × ir × En)
def keeps(own:ir)(e:En):Prop:=∀p∈own,e[p.1]?=some (some (.l p.2))
def fI(K:PySem.W.Frag)(f:FI):TI:=fun σ H R=>∃F e items own e',bf K F H σ e∧f e=some (items,own,e')∧∀J F' H',dJ σ F H e F' H' e'→bf K F' H' σ e'→keeps own e'→uA K σ J items own F'→R J H'
section
variable{K:PySem.W.Frag}{σ:L2.St}{H0 F H F' H':Hp}{e e':En}
theorem bf.held(R:bf K F H σ e){own:ir}(h:keeps own e):vA K σ F H own:=fun p hp=>by
  obtain⟨l,vs,h1,h2,h3,h4⟩:=R.own p.1 p.2 (h p hp)
  exact⟨l,vs,h1,h3,h4⟩
theorem bf.step(R:bf K F H σ e)(s:aA H H')(sF:aA F F')(sm:aA F' H')(fz:∀a,F a=none→H a≠none→F' a=none):bf K F' H' σ e∧dJ σ F H e F' H' e:=by
  obtain⟨R',o'⟩:=R.keep sF sm (fun a ⟨i,h⟩=>by
    obtain⟨h1,vs,h2⟩:=R.fpAt h
    exact fz a h1 (by rw [h2];simp)) fun a o _ h=>s a o h
  exact⟨R',⟨sF,fun a h=>s.free h,fun a vs h1 h2 _=>fz a h1 (by rw [h2];simp),fun a vs h=>⟨vs,s _ _ h⟩,fun a o h _=>s a o h,fun _=>Iff.rfl,fun a h=>.inl ((o' a).mp h)⟩⟩
inductive yu (K:PySem.W.Frag) (σ:L2.St) (F:Hp) (p:Addr):Bool→List PyData→ir→Prop
  | tup {xs vs}:dO K F p vs→aJ K F xs vs→yu K σ F p false xs []
  | lst {xs vs}:eI K F p vs→aJ K F xs vs→yu K σ F p true xs []
  | own {i xs}:σ[i]?=some (some (.ref p))→yu K σ F p true xs [(i,xs)]
theorem yu.at{p:Addr}{b:Bool}{xs:List PyData}{own:ir}{F0:Hp}(h:yu K σ F0 p b xs own)(s0:aA F0 F)(s1:aA F H){own':ir}(hh:vA K σ F H own')(hs:∀q∈own,q∈own'):∃vs,aJ K F xs vs∧(if b=true then eI K H p vs else dO K H p vs):=by
  cases h with
  | tup h1 h2=>exact⟨_,h2.mono s0,(s0.trans s1).tup h1⟩
  | lst h1 h2=>exact⟨_,h2.mono s0,(s0.trans s1).seq h1⟩
  | @own i xs h1=>
    obtain⟨l,vs,g1,g2,g3⟩:=hh (i,xs) (hs (i,xs) (by simp))
    dsimp only at g1 g3
    rw [h1] at g1;cases g1
    exact⟨vs,g3,.inl (.inl g2)⟩
def yk(e:En):Rv→Option (Bool × List PyData × ir)
  | .d (.tuple xs)=>some (false,xs,[])
  | .d (.list xs)=>some (true,xs,[])
  | .l xs=>some (true,xs,[])
  | .s i=>match e[i]? with
    | some (some (.l xs))=>some (true,xs,[(i,xs)])
    | _=>none
  | _=>none
theorem mh{r:Rv}{v:V}{b:Bool}{xs:List PyData}{own:ir}(R:bf K F H σ e)(A:cC K σ H0 F H e r v)(h:yk e r=some (b,xs,own)):
    ∃F' p,bf K F' H σ e∧aA F F'∧(∀a,F a=none→H0 a≠none→F' a=none)∧v=.ref p∧yu K σ F' p b xs own∧keeps own e:=by
  cases r with
  | d x=>
    cases x with
    | tuple ds=>
      cases h
      obtain⟨a,ys,e1,e2,e3⟩:=di.mp A
      exact⟨F,a,R,aA.refl _,fun _ h _=>h,e1,.tup e2 e3,fun p hp=>by cases hp⟩
    | list ds=>
      cases h
      obtain⟨a,ys,e1,e2,e3⟩:=dS.mp A
      exact⟨F,a,R,aA.refl _,fun _ h _=>h,e1,.lst e2 e3,fun p hp=>by cases hp⟩
    | _=>cases h
  | l ys=>
    cases h
    obtain⟨F',R',s',d',f'⟩:=A.frozen R
    obtain⟨a,ys,e1,e2,e3⟩:=dS.mp d'
    exact⟨F',a,R',s',f',e1,.lst e2 e3,fun p hp=>by cases hp⟩
  | s i=>
    obtain⟨h1,ys,h2⟩:=A
    simp only [yk,h2] at h
    cases h
    obtain⟨l,vs,e1,e2,e3,e4⟩:=R.own i _ h2
    rw [h1] at e1;cases e1
    exact⟨F,l,R,aA.refl _,fun _ h _=>h,rfl,.own h1,fun p hp=>by simp only [List.mem_singleton] at hp;subst hp;exact h2⟩
theorem uT{p:Addr}{xs:List PyData}{own:ir}{F0:Hp}(h:yu K σ F0 p true xs own):uA K σ (EY K p) xs own F0:=by
  intro F H s0 s1 hh
  obtain⟨vs,d,q⟩:=h.at s0 s1 hh fun _ h=>h
  have q:eI K H p vs:=q
  refine⟨fun i hi=>⟨vs,vs[i]'(by rw [←d.len];exact hi),q,List.getElem?_eq_getElem _⟩,fun i hi=>⟨vs,q,by rw [←d.len];exact hi⟩,fun i x v H' hx hy=>?_⟩
  obtain⟨rfl,hy⟩:=hy
  obtain⟨w,g1,g2⟩:=d.get hx
  have e:=hy vs q
  rw [g1] at e;cases e
  exact⟨F,aA.refl _,aA.refl _,s1,fun _ h _=>h,g2⟩
theorem wO{p:Addr}{xs:List PyData}{own:ir}{F0:Hp}(h:yu K σ F0 p false xs own):uA K σ (EZ K p) xs own F0:=by
  intro F H s0 s1 hh
  obtain⟨vs,d,q⟩:=h.at s0 s1 hh fun _ h=>h
  have q:dO K H p vs:=q
  refine⟨fun i hi=>⟨vs,vs[i]'(by rw [←d.len];exact hi),q,List.getElem?_eq_getElem _⟩,fun i hi=>⟨vs,q,by rw [←d.len];exact hi⟩,fun i x v H' hx hy=>?_⟩
  obtain⟨rfl,hy⟩:=hy
  obtain⟨w,g1,g2⟩:=d.get hx
  have e:=hy vs q
  rw [g1] at e;cases e
  exact⟨F,aA.refl _,aA.refl _,s1,fun _ h _=>h,g2⟩
theorem qK{p:Addr}{x y:V}{a b:PyData}(s1:aA F H)(hp:H p=none)(hx:DA K F a x)(hy:DA K F b y):∃F',aA H (bi H p (.tup [x,y]))∧aA F F'∧aA F' (bi H p (.tup [x,y]))∧(∀c,F c=none→H c≠none→F' c=none)∧DA K F' (.tuple [a,b]) (.ref p):=by
  have hF:F p=none:=s1.free hp
  have sF:aA F (bi F p (.tup [x,y])):=aA.new hF
  refine⟨bi F p (.tup [x,y]),aA.new hp,sF,fun b o q=>?_,fun c h n=>?_,di.mpr ⟨p,_,rfl,.inl (.inl aG),.cons (DA.mono sF hx) (.one (DA.mono sF hy))⟩⟩
  · by_cases z:b=p
    · subst z;rw [aG] at q ⊢;exact q
    · rw [aM z] at q ⊢;exact s1 _ _ q
  · have z:c≠p:=fun z=>n (by rw [z];exact hp)
    rw [aM z];exact h
def eE:Nat→List PyData→List PyData
  | _,[]=>[]
  | n,x::r=>.tuple [.int n,x]::eE (n+1) r
theorem iX:∀{xs:List PyData} {n i:Nat},(eE n xs)[i]?=(xs[i]?).map fun x=>.tuple [.int ((n+i:Nat):Int),x]
  | [],n,i=>by simp [eE]
  | x::r,n,0=>by simp [eE]
  | x::r,n,i+1=>by
    simp only [eE,List.getElem?_cons_succ]
    rw [iX (xs:=r) (n:=n+1) (i:=i)]
    congr 1
    funext y
    rw [show n+1+i=n+(i+1) by lia]
theorem eW:∀(xs:List PyData) (n:Nat),(eE n xs).length=xs.length
  | [],_=>rfl
  | x::r,n=>by simp [eE,eW r (n+1)]
theorem sv{p:Addr}{xs:List PyData}{own:ir}{F0:Hp}(h:yu K σ F0 p true xs own):uA K σ (AO K p) (eE 0 xs) own F0:=by
  intro F H s0 s1 hh
  obtain⟨vs,d,q⟩:=h.at s0 s1 hh fun _ h=>h
  have q:eI K H p vs:=q
  rw [eW]
  refine⟨fun i hi=>⟨vs,vs[i]'(by rw [←d.len];exact hi),q,List.getElem?_eq_getElem _⟩,fun i hi=>⟨vs,q,by rw [←d.len];exact hi⟩,fun i x v H' hx hy=>?_⟩
  obtain⟨t,y,rfl,ht,rfl,hy⟩:=hy
  rw [iX] at hx
  obtain⟨x',hx2,rfl⟩:=Option.map_eq_some_iff.mp hx
  obtain⟨w,g1,g2⟩:=d.get hx2
  have e:=hy vs q
  rw [g1] at e;cases e
  exact qK s1 ht (cH.mpr (by simp)) g2
theorem sx{p:Addr}{xs:List PyData}{own:ir}{F0:Hp}(h:yu K σ F0 p false xs own):uA K σ (AQ K p) (eE 0 xs) own F0:=by
  intro F H s0 s1 hh
  obtain⟨vs,d,q⟩:=h.at s0 s1 hh fun _ h=>h
  have q:dO K H p vs:=q
  rw [eW]
  refine⟨fun i hi=>⟨vs,vs[i]'(by rw [←d.len];exact hi),q,List.getElem?_eq_getElem _⟩,fun i hi=>⟨vs,q,by rw [←d.len];exact hi⟩,fun i x v H' hx hy=>?_⟩
  obtain⟨t,y,rfl,ht,rfl,hy⟩:=hy
  rw [iX] at hx
  obtain⟨x',hx2,rfl⟩:=Option.map_eq_some_iff.mp hx
  obtain⟨w,g1,g2⟩:=d.get hx2
  have e:=hy vs q
  rw [g1] at e;cases e
  exact qK s1 ht (cH.mpr (by simp)) g2
def ba(lo:Int)(n:Nat):List PyData:=(List.range n).map fun(i:Nat)=>.int (lo+(i:Int))
theorem sy{lo:Int}{n:Nat}{F0:Hp}:uA K σ (EL lo n) (ba lo n) [] F0:=by
  intro F H s0 s1 hh
  unfold ba
  rw [List.length_map,List.length_range]
  refine⟨fun i hi=>hi,fun i hi=>hi,fun i x v H' hx hy=>?_⟩
  obtain⟨rfl,rfl⟩:=hy
  rw [List.getElem?_map] at hx
  obtain⟨k,h1,rfl⟩:=Option.map_eq_some_iff.mp hx
  have h2:=(List.getElem?_eq_some_iff.mp h1).2
  simp at h2
  subst h2
  exact⟨F,aA.refl _,aA.refl _,s1,fun _ h _=>h,cH.mpr rfl⟩
end
inductive EX (K:PySem.W.Frag) (own:ir) (σ0:L2.St) (F1:Hp) (P:En→Prop) (G:L2.St→Hp→Hp→En→Prop) (σ:L2.St) (H:Hp):Prop
  | mk {F:Hp} {e:En} (R:bf K F H σ e) (kp:keeps own e) (hσ:∀p∈own,σ[p.1]?=σ0[p.1]?) (sF:aA F1 F) (hf:P e) (q:G σ F H e):EX K own σ0 F1 P G σ H
section
variable{X:Cx}{K:PySem.W.Frag}{tg a b:Expr}{es:List Expr}{fa:FE}{fs:FA}{pos p tp:Pos}{k0:Nat}
def jB(fa:FE):FI:=fun e=>(fa e).bind fun p=>(yk p.2 p.1).map fun s=>(s.2.1,s.2.2,p.2)
theorem jH(hK:X.K=K)(h:PE X a (fE K fa)):PI X tg a (fI K (jB fa)):=((xC (tg:=tg) hK h).or (zH (tg:=tg) hK h)).mono fun σ H R hh=>by
  obtain⟨F,e,items,own,e',R0,hf,q⟩:=hh
  unfold jB at hf
  obtain⟨⟨r,e1⟩,h1,hf⟩:=Option.bind_eq_some_iff.mp hf
  obtain⟨⟨b,xs,ow⟩,h2,hf⟩:=Option.map_eq_some_iff.mp hf
  cases hf
  cases b with
  | true=>
    refine .inl ⟨F,e,r,e1,R0,h1,fun F1 H1 v X1 R1 A1=>?_⟩
    obtain⟨F2,p,R2,s2,f2,rfl,sc,kp⟩:=mh R1 A1 h2
    obtain⟨vs,_,c⟩:=sc.at (aA.refl _) R2.sm (R2.held kp) fun _ h=>h
    exact⟨p,rfl,⟨vs,c⟩,q _ F2 H1 (X1.frz s2 f2) R2 kp (uT sc)⟩
  | false=>
    refine .inr ⟨F,e,r,e1,R0,h1,fun F1 H1 v X1 R1 A1=>?_⟩
    obtain⟨F2,p,R2,s2,f2,rfl,sc,kp⟩:=mh R1 A1 h2
    obtain⟨vs,_,c⟩:=sc.at (aA.refl _) R2.sm (R2.held kp) fun _ h=>h
    exact⟨p,rfl,⟨vs,c⟩,q _ F2 H1 (X1.frz s2 f2) R2 kp (wO sc)⟩
def tS(fs:FA):FI:=fun e=>(fs e).bind fun p=>match p.1 with
  | [r]=>(yk p.2 r).map fun s=>(eE 0 s.2.1,s.2.2,p.2)
  | _=>none
theorem zX(hK:X.K=K)(hg:Gl X "enumerate")(hm:X.mg "enumerate"=none)(ha:PA X [a] (fA K fs))(hs:starEach [a] X.env=[(false,eval a X.env)]):PI X (.Tuple es k0 tp) (.Call (.Name "enumerate" p) [a] [] pos) (fI K (tS fs)):=((xA (es:=es) (k0:=k0) (tp:=tp) hK hg hm ha hs).or (xB (es:=es) (k0:=k0) (tp:=tp) hK hg hm ha hs)).mono fun σ H R hh=>by
  obtain⟨F,e,items,own,e',R0,hf,q⟩:=hh
  unfold tS at hf
  obtain⟨⟨rs,e1⟩,h1,hf⟩:=Option.bind_eq_some_iff.mp hf
  match rs,h1,hf with
  | [r],h1,hf=>
  obtain⟨⟨b,xs,ow⟩,h2,hf⟩:=Option.map_eq_some_iff.mp hf
  cases hf
  cases b with
  | true=>
    refine .inl ⟨F,e,_,e1,R0,h1,fun F1 H1 vs X1 R1 A1=>?_⟩
    obtain⟨v,rfl,A2⟩:=kf A1
    obtain⟨F2,p,R2,s2,f2,rfl,sc,kp⟩:=mh R1 A2 h2
    obtain⟨vs,_,c⟩:=sc.at (aA.refl _) R2.sm (R2.held kp) fun _ h=>h
    exact⟨p,rfl,⟨vs,c⟩,q _ F2 H1 (X1.frz s2 f2) R2 kp (sv sc)⟩
  | false=>
    refine .inr ⟨F,e,_,e1,R0,h1,fun F1 H1 vs X1 R1 A1=>?_⟩
    obtain⟨v,rfl,A2⟩:=kf A1
    obtain⟨F2,p,R2,s2,f2,rfl,sc,kp⟩:=mh R1 A2 h2
    obtain⟨vs,_,c⟩:=sc.at (aA.refl _) R2.sm (R2.held kp) fun _ h=>h
    exact⟨p,rfl,⟨vs,c⟩,q _ F2 H1 (X1.frz s2 f2) R2 kp (sx sc)⟩
def x_(j:Int):Bool:=decide (-1000000≤j)&&decide (j≤1000000)
theorem ya{j:Int}(h:x_ j=true): -1000000≤j∧j≤1000000:=by
  unfold x_ at h
  rw [Bool.and_eq_true,decide_eq_true_iff,decide_eq_true_iff] at h
  exact h
def cD(fs:FA):FI:=fun e=>(fs e).bind fun p=>match p.1 with
  | [r]=>(cn r).bind fun j=>if x_ j=true then some (ba 0 j.toNat,[],p.2) else none
  | _=>none
theorem cA(hg:Gl X "range")(hm:X.mg "range"=none)(ha:PA X [a] (fA K fs))(hs:starEach [a] X.env=[(false,eval a X.env)]):PI X tg (.Call (.Name "range" p) [a] [] pos) (fI K (cD fs)):=(vg hg hm ha hs).mono fun σ H R hh=>by
  obtain⟨F,e,items,own,e',R0,hf,q⟩:=hh
  unfold cD at hf
  obtain⟨⟨rs,e1⟩,h1,hf⟩:=Option.bind_eq_some_iff.mp hf
  match rs,h1,hf with
  | [r],h1,hf=>
  obtain⟨j,h2,hf⟩:=Option.bind_eq_some_iff.mp hf
  split at hf
  case isFalse=>cases hf
  case isTrue hj=>
  cases hf
  refine⟨F,e,_,e1,R0,h1,fun F1 H1 vs X1 R1 A1=>?_⟩
  obtain⟨v,rfl,A2⟩:=kf A1
  have:=ya hj
  exact⟨j,by rw [cK A2 h2],by lia,by lia,q _ F1 H1 X1 R1 (fun _ h=>by cases h) sy⟩
open Classical in
noncomputable def iw(own:ir)(g:FG)(f:FS):List PyData→FS
  | [],e=>some (.nx e)
  | x::r,e=>(g x e).bind fun e1=>(f e1).bind fun fl=>match fl with
    | .nx e2=>if keeps own e2 then iw own g f r e2 else none
    | .ct e2=>if keeps own e2 then iw own g f r e2 else none
    | .bk e2=>some (.nx e2)
    | .rt v e2=>some (.rt v e2)
noncomputable def eC(W:List Nat)(fi:FI)(g:FG)(f:FS):FS:=fun e=>(fi e).bind fun p=>if (p.2.1.all fun q=> !W.contains q.1)=true then iw p.2.1 g f p.1 p.2.2 else none
theorem fy{W1 W2:List Nat}{iter:Expr}{body:List Stmt}{fi:FI}{g:FG}{f:FS}(hp:PassesOwn (model X.prog X.w) X.A X.env X.xe)(hc:X.calm=true)(hi:PI X tg iter (fI K fi))(hg:PG X tg (fG K g W1))(hb:lQ X body (fS K f W2))(hs:∀x,foldedSetIterable iter X.env x=pure x):
    PS X (.For tg iter body [] pos) (fS K (eC (W1++W2) fi g f) (W1++W2)):=(B1 hp hc hi hg hb hs).mono fun D σ0 H0 hh=>by
  obtain⟨F0,e0,fl,R0,hf,q0⟩:=hh
  unfold eC at hf
  obtain⟨⟨items,own,e1⟩,h1,hf⟩:=Option.bind_eq_some_iff.mp hf
  dsimp only at hf
  split at hf
  case isFalse=>cases hf
  case isTrue hW=>
  have hW':∀p∈own,p.1∉W1++W2:=fun p hp=>by
    have:=List.all_eq_true.mp hW p hp
    simpa using this
  refine⟨F0,e0,items,own,e1,R0,h1,fun J F1 H1 X1 R1 kp ok=>?_⟩
  have s1:∀j,j∈W1→j∈W1++W2:=fun j h=>List.mem_append.mpr (.inl h)
  have s2:∀j,j∈W2→j∈W1++W2:=fun j h=>List.mem_append.mpr (.inr h)
  have q1:mD K (W1++W2) σ0 F1 H1 e1 D fl:=q0.later (W1:=[]) X1.s (fun j h=>by cases h) fun j h=>h
  refine⟨fun i m σ H=>m=items.length - i∧i≤items.length∧EX K own σ0 F1 (fun e=>iw own g f (items.drop i) e=some fl) (fun σ F H e=>mD K (W1++W2) σ F H e D fl) σ H,
    ⟨items.length,by simp,Nat.zero_le _,.mk R1 kp (fun _ _=>rfl) (aA.refl _) hf q1⟩,?_⟩
  rintro i m σ H ⟨rfl,hi,⟨R,kp,hσ,sF,hf,q⟩⟩
  rename_i F e
  have held:vA K σ0 F H own:=fun p hp=>by
    obtain⟨l,vs,g1,g2⟩:=R.held kp p hp
    exact⟨l,vs,by rw [←hσ p hp];exact g1,g2⟩
  obtain⟨go,stop,yld⟩:=ok F H sF R.sm held
  by_cases hlt:i < items.length
  · have hd:items.drop i=items[i]::items.drop (i+1):=List.drop_eq_getElem_cons hlt
    rw [hd] at hf
    unfold iw at hf
    obtain⟨e2,h2,hf⟩:=Option.bind_eq_some_iff.mp hf
    obtain⟨fl2,h3,hf⟩:=Option.bind_eq_some_iff.mp hf
    refine .inr ⟨go i hlt,EX K own σ0 F1 (fun e=>iw own g f (items.drop (i+1)) e=some fl) (fun σ F H e=>mD K (W1++W2) σ F H e D fl),
      fun σ' H' r=>⟨items.length - (i+1),by lia,rfl,hlt,r⟩,fun x H' hy=>?_⟩
    obtain⟨F',sH,sF',sm',fz,hx⟩:=yld i items[i] x H' (List.getElem?_eq_getElem hlt) hy
    obtain⟨R',X'⟩:=R.step sH sF' sm' fz
    refine⟨F',e,items[i],e2,R',hx,h2,fun σ2 x2 R2=>⟨F',e2,fl2,R2,h3,?_⟩⟩
    have q2:mD K (W1++W2) σ2 F' H' e2 D fl:=(q.later (W1:=[]) (W2:=W1++W2) X'.s (fun j h=>by cases h) fun j h=>h).later x2 s1 fun j h=>h
    have w2:∀p∈own,σ2[p.1]?=σ0[p.1]?:=fun p hp=>(x2.wr p.1 fun z=>hW' p hp (s1 _ z)).trans (hσ p hp)
    cases fl2 with
    | nx e3=>
      intro F3 H3 σ3 x3 R3
      dsimp only at hf
      split at hf
      case isFalse=>cases hf
      case isTrue kp3=>
      exact .mk R3 kp3 (fun p hp=>(x3.wr p.1 fun z=>hW' p hp (s2 _ z)).trans (w2 p hp)) (sF.trans (sF'.trans x3.sf)) hf (q2.later x3 s2 fun j h=>h)
    | ct e3=>
      intro F3 H3 σ3 x3 R3
      dsimp only at hf
      split at hf
      case isFalse=>cases hf
      case isTrue kp3=>
      exact .mk R3 kp3 (fun p hp=>(x3.wr p.1 fun z=>hW' p hp (s2 _ z)).trans (w2 p hp)) (sF.trans (sF'.trans x3.sf)) hf (q2.later x3 s2 fun j h=>h)
    | bk e3=>
      cases hf
      exact fun F3 H3 σ3 x3 R3=>q2 F3 H3 σ3 (x3.mono s2) R3
    | rt r e3=>
      cases hf
      exact fun F3 H3 σ3 v x3 R3 A3=>q2 F3 H3 σ3 v (x3.mono s2) R3 A3
  · have hd:items.drop i=[]:=List.drop_eq_nil_of_le (by lia)
    rw [hd] at hf
    cases hf
    exact .inl ⟨stop i (by lia),q F H σ dM.refl R⟩
end
end L2
namespace L2
open PySem PySem.Spec PyProof.Rows
def yw:Option (Option Sv)→Bool
  | some (some (.l _))=>true
  | _=>false
theorem yW{s:Option (Option Sv)}:yw s=true↔ ∃xs,s=some (some (.l xs)):=by
  unfold yw
  split
  · simp
  · rename_i h
    constructor
    · intro z;cases z
    · rintro⟨xs,rfl⟩;exact absurd rfl (h xs)
def kD(pos:Nat→Option Nat)(ei e:En):En:=e.mapIdx fun i s=>match s with
  | some (.l xs)=>match pos i with
    | some k=>(ei[k]?).join
    | none=>some (.l xs)
  | s=>s
theorem cv{pos:Nat→Option Nat}{ei e:En}{i:Nat}:(kD pos ei e)[i]?=(e[i]?).map fun s=>match s with
  | some (.l xs)=>match pos i with
    | some k=>(ei[k]?).join
    | none=>some (.l xs)
  | s=>s:=by unfold kD;rw [List.getElem?_mapIdx]
structure qf (σ:L2.St) (e:En) (σi:L2.St) (ei:En) (pos:Nat→Option Nat):Prop where
  a:∀(i k:Nat) (xs:List PyData),e[i]?=some (some (.l xs))→pos i=some k→σi[k]?=σ[i]?
  b:∀(k:Nat) (ys:List PyData),ei[k]?=some (some (.l ys))→∃(i:Nat) (xs:List PyData),e[i]?=some (some (.l xs))∧pos i=some k∧σi[k]?=σ[i]?
section
variable{K:PySem.W.Frag}{σ σi σi':L2.St}{F H F' H':Hp}{e ei ei':En}{pos:Nat→Option Nat}
def Bq(e:En):Prop:=∀(i:Nat) (xss:List (List PyData)),e[i]?≠some (some (.n xss))
theorem qf.own(s:qf σ e σi ei pos)(hn:Bq ei){a:Addr}{H H':Hp}(h:cV σi ei H a):∃(i k:Nat) (xs:List PyData),e[i]?=some (some (.l xs))∧pos i=some k∧σ[i]?=some (some (.ref a)):=by
  obtain⟨k,⟨ys,h1,h2⟩ | ⟨xss,_,_,h1,_⟩⟩:=h
  · obtain⟨i,xs,g1,g2,g3⟩:=s.b k ys h1
    exact⟨i,k,xs,g1,g2,by rw [←g3];exact h2⟩
  · exact absurd h1 (hn k xss)
theorem rq(R:bf K F H σ e)(s:qf σ e σi ei pos)(hnn:Bq ei)(sf:aA F F')(dom:∀a,H' a=none→H a=none)(fr:∀a vs,F a=none→H a=some (.lst vs)→¬cV σi ei H a→F' a=none)(lst:∀a vs,H a=some (.lst vs)→∃vs',H' a=some (.lst vs'))
    (tmp:∀a o,H a=some o→¬cV σi ei H a→H' a=some o)(R':bf K F' H' σi' ei')(hσ:∀(i k:Nat) (xs:List PyData),e[i]?=some (some (.l xs))→pos i=some k→σi'[k]?=σi[k]?)(hsh:∀(i k:Nat) (xs:List PyData),e[i]?=some (some (.l xs))→pos i=some k→∃ys,ei'[k]?=some (some (.l ys))):
    bf K F' H' σ (kD pos ei' e)∧dJ σ F H e F' H' (kD pos ei' e)∧∀a,cV σ (kD pos ei' e) H' a→cV σ e H a:=by
  have shp:∀i:Nat,(∃xs,(kD pos ei' e)[i]?=some (some (.l xs)))↔ (∃xs,e[i]?=some (some (.l xs))):=by
    intro i
    rw [cv]
    match h:e[i]? with
    | none=>simp
    | some none=>simp
    | some (some (.d x))=>simp
    | some (some (.n x))=>simp
    | some (some (.l xs))=>
      simp only [Option.map_some]
      constructor
      · intro _;exact⟨xs,rfl⟩
      · intro _
        match hp:pos i with
        | none=>exact⟨xs,rfl⟩
        | some k=>
          obtain⟨ys,g⟩:=hsh i k xs h hp
          exact⟨ys,by show some ((ei'[k]?).join)=_;rw [g];rfl⟩
  have oth:∀(i:Nat) (s:Sv),(∀xs,s≠.l xs)→((kD pos ei' e)[i]?=some (some s)↔ e[i]?=some (some s)):=by
    intro i s hs
    constructor
    · intro h
      rw [cv] at h
      match h1:e[i]?,h with
      | some (some (.d y)),h=>exact h
      | some (some (.n y)),h=>exact h
      | some (some (.l ys)),h=>
        simp only [Option.map_some,Option.some.injEq] at h
        match hp:pos i,h with
        | none,h=>cases h;exact absurd rfl (hs _)
        | some k,h=>
          obtain⟨zs,g⟩:=hsh i k ys h1 hp
          change (ei'[k]?).join=_ at h
          rw [g] at h;cases h;exact absurd rfl (hs _)
      | some none,h=>simp at h
      | none,h=>simp at h
    · intro h
      rw [cv,h]
      cases s with
      | d y=>rfl
      | n y=>rfl
      | l y=>exact absurd rfl (hs y)
  have out:∀i a,Fp σ e H i a→(∀k xs,e[i]?=some (some (.l xs))→pos i≠some k)→¬cV σi ei H a:=by
    intro i a hi hp z
    obtain⟨j,k,ws,d1,d2,d3⟩:=s.own hnn (H':=H') z
    have:i=j:=R.fp i j a hi (.inl ⟨ws,d1,d3⟩)
    subst this
    exact hp k ws d1 d2
  have keep:∀i a o,Fp σ e H i a→(∀k xs,e[i]?=some (some (.l xs))→pos i≠some k)→H a=some o→H' a=some o:=fun i a o hi hp ha=>tmp a o ha (out i a hi hp)
  have sown:∀a,cV σi ei H a→cV σ e H a:=fun a z=>by
    obtain⟨j,k,ws,d1,d2,d3⟩:=s.own hnn (H':=H') z
    exact⟨j,.inl ⟨ws,d1,d3⟩⟩
  have fs:∀i a,Fp σ (kD pos ei' e) H' i a↔ Fp σ e H i a:=by
    intro i a
    have key:∀xss l,e[i]?=some (some (.n xss))→σ[i]?=some (some (.ref l))→H' l=H l:=fun xss l h1 h2=>by
      obtain⟨l',bs,g1,g2,g3,_⟩:=R.nst i xss h1
      rw [h2] at g1;cases g1
      rw [g3]
      exact keep i l _ (.inr ⟨xss,l,bs,h1,h2,g3,.inl rfl⟩) (fun k xs z=>by rw [h1] at z;cases z) g3
    constructor
    · rintro(⟨xs,h1,h2⟩ | ⟨xss,l,bs,h1,h2,h3,h4⟩)
      · obtain⟨ys,h⟩:=(shp i).mp ⟨xs,h1⟩
        exact .inl ⟨ys,h,h2⟩
      · have h1':=(oth i (.n xss) (fun _ z=>nomatch z)).mp h1
        exact .inr ⟨xss,l,bs,h1',h2,by rw [←key xss l h1' h2];exact h3,h4⟩
    · rintro(⟨xs,h1,h2⟩ | ⟨xss,l,bs,h1,h2,h3,h4⟩)
      · obtain⟨ys,h⟩:=(shp i).mpr ⟨xs,h1⟩
        exact .inl ⟨ys,h,h2⟩
      · exact .inr ⟨xss,l,bs,(oth i (.n xss) (fun _ z=>nomatch z)).mpr h1,h2,by rw [key xss l h1 h2];exact h3,h4⟩
  refine⟨⟨R'.sm,?_,fun i x h=>?_,fun i xs h=>?_,fun i xss h=>?_,fun i j a h1 h2=>R.fp i j a ((fs i a).mp h1) ((fs j a).mp h2)⟩,⟨sf,dom,fun a vs h1 h2 n=>fr a vs h1 h2 fun z=>n (sown a z),lst,fun a o h n=>tmp a o h fun z=>n (sown a z),shp,fun a ⟨i,h⟩=>.inl ⟨i,(fs i a).mp h⟩⟩,fun a ⟨i,h⟩=>⟨i,(fs i a).mp h⟩⟩
  · unfold kD;rw [List.length_mapIdx];exact R.len
  · obtain⟨v,g1,g2⟩:=R.dat i x ((oth i (.d x) (fun _ z=>nomatch z)).mp h)
    exact⟨v,g1,DA.mono sf g2⟩
  · obtain⟨ys,h1⟩:=(shp i).mp ⟨xs,h⟩
    obtain⟨l,vs,g1,g2,g3,g4⟩:=R.own i ys h1
    rw [cv,h1] at h
    simp only [Option.map_some,Option.some.injEq] at h
    match hp:pos i,h with
    | none,h=>
      cases h
      have np:∀k xs,e[i]?=some (some (Sv.l xs))→pos i≠some k:=fun k xs _ z=>by rw [hp] at z;cases z
      have fi:Fp σ e H i l:=.inl ⟨_,h1,g1⟩
      exact⟨l,vs,g1,fr l vs g2 g3 (out i l fi np),keep i l _ fi np g3,g4.mono sf⟩
    | some k,h=>
      obtain⟨zs,c1⟩:=hsh i k ys h1 hp
      change (ei'[k]?).join=_ at h
      rw [c1] at h;cases h
      obtain⟨l',vs',d1,d2,d3,d4⟩:=R'.own k _ c1
      rw [hσ i k ys h1 hp,s.a i k ys h1 hp] at d1
      exact⟨l',vs',d1,d2,d3,d4⟩
  · have h1:=(oth i (.n xss) (fun _ z=>nomatch z)).mp h
    obtain⟨l,bs,g1,g2,g3,g4,g5,g6,g7⟩:=R.nst i xss h1
    have np:∀k xs,e[i]?=some (some (Sv.l xs))→pos i≠some k:=fun k xs z=>by rw [h1] at z;cases z
    have fi:Fp σ e H i l:=.inr ⟨xss,l,bs,h1,g1,g3,.inl rfl⟩
    refine⟨l,bs,g1,fr l _ g2 g3 (out i l fi np),keep i l _ fi np g3,g4,g5,g6,fun k b ys q1 q2=>?_⟩
    obtain⟨c1,us,c2,c3⟩:=g7 k b ys q1 q2
    have fb:Fp σ e H i b:=.inr ⟨xss,l,bs,h1,g1,g3,.inr (List.mem_of_getElem? q1)⟩
    exact⟨fr b _ c1 c2 (out i b fb np),us,keep i b _ fb np c2,c3.mono sf⟩
end
def dg(e:En):List Rv→Option (List Sv)
  | []=>some []
  | .d x::r=>(dg e r).map (.d x::·)
  | .l xs::r=>(dg e r).map (.d (.list xs)::·)
  | .s i::r=>match e[i]? with
    | some (some (.l xs))=>(dg e r).map (.l xs::·)
    | _=>none
def aN:List Rv→List Nat
  | []=>[]
  | .s i::r=>i::aN r
  | .d _::r=>aN r
  | .l _::r=>aN r
def jG(rs:List Rv)(i:Nat):Option Nat:=rs.findIdx? fun r=>match r with
  | .s j=>j==i
  | _=>false
def noS:Rv→Prop
  | .s _=>False
  | _=>True
abbrev FM:=List Sv→Option (Rv × List Sv)
def bD(K:PySem.W.Frag)(n:Nat)(m:FM):Sp:=fun vs H Q _=>vs.length=n∧∃F as r as',bf K F H (vs.map some) (as.map some)∧Bq (as.map some)∧m as=some (r,as')∧noS r∧
  ∀F' H' v,dJ (vs.map some) F H (as.map some) F' H' (as'.map some)→bf K F' H' (vs.map some) (as'.map some)→cC K (vs.map some) H F' H' (as'.map some) r v→Q v H'
def bF:List Rv→List Sv→Bool
  | [],[]=>true
  | .s _::r,.l _::s=>bF r s
  | .d _::r,_::s=>bF r s
  | .l _::r,_::s=>bF r s
  | _,_=>false
def y_:Rv→Bool
  | .s _=>false
  | _=>true
def e6:List Rv→List Sv→En→En
  | .s i::r,.l ys::s,e=>e6 r s (e.set i (some (.l ys)))
  | .d _::r,_::s,e=>e6 r s e
  | .l _::r,_::s,e=>e6 r s e
  | _,_,e=>e
def bG(n:Nat)(m:FM)(fs:FA):FE:=fun e=>(fs e).bind fun p=>(dg p.2 p.1).bind fun as=>(m as).bind fun z=>if p.1.length=n∧(aN p.1).Nodup∧bF p.1 z.2=true∧y_ z.1=true then some (z.1,e6 p.1 z.2 p.2) else none
theorem hG:∀{rs:List Rv} {as:List Sv},bF rs as=true→∀(k i:Nat),rs[k]?=some (.s i)→∃ys,as[k]?=some (.l ys)
  | [],[],_,k,i,h=>by simp at h
  | .s j::r,.l ys::s,h,k,i,hk=>by
    cases k with
    | zero=>exact⟨ys,rfl⟩
    | succ k=>simpa using hG (rs:=r) (as:=s) (by simpa [bF] using h) k i (by simpa using hk)
  | .d x::r,y::s,h,k,i,hk=>by
    cases k with
    | zero=>simp at hk
    | succ k=>simpa using hG (rs:=r) (as:=s) (by simpa [bF] using h) k i (by simpa using hk)
  | .l x::r,y::s,h,k,i,hk=>by
    cases k with
    | zero=>simp at hk
    | succ k=>simpa using hG (rs:=r) (as:=s) (by simpa [bF] using h) k i (by simpa using hk)
  | .s _::_,.d _::_,h,_,_,_=>by simp [bF] at h
  | .s _::_,[],h,_,_,_=>by simp [bF] at h
  | .d _::_,[],h,_,_,_=>by simp [bF] at h
  | .l _::_,[],h,_,_,_=>by simp [bF] at h
theorem lg{r0:Rv}{rs:List Rv}{i:Nat}:jG (r0::rs) i=if (match r0 with | .s j=>j==i | _=>false)=true then some 0 else(jG rs i).map (· +1):=by
  unfold jG;rw [List.findIdx?_cons]
theorem lh{rs:List Rv}{i k:Nat}(h:jG rs i=some k):rs[k]?=some (.s i):=by
  unfold jG at h
  rw [List.findIdx?_eq_some_iff_getElem] at h
  obtain⟨hk,h1,_⟩:=h
  rw [List.getElem?_eq_getElem hk]
  split at h1
  · rename_i heq
    rw [heq]
    have:=eq_of_beq h1
    rw [this]
  · cases h1
theorem eX:∀{rs:List Rv} {i:Nat},i∈aN rs↔ Rv.s i∈rs
  | [],i=>by simp [aN]
  | .s j::r,i=>by simp [aN,eX (rs:=r)]
  | .d x::r,i=>by simp [aN,eX (rs:=r)]
  | .l x::r,i=>by simp [aN,eX (rs:=r)]
theorem fJ:∀{rs:List Rv} {i k j:Nat},(aN rs).Nodup→rs[k]?=some (.s i)→rs[j]?=some (.s i)→k=j
  | [],i,k,j,_,h,_=>by simp at h
  | .s m::r,i,k,j,hn,h1,h2=>by
    simp only [aN,List.nodup_cons] at hn
    cases k with
    | zero=>
      simp at h1;subst h1
      cases j with
      | zero=>rfl
      | succ j=>exact absurd (eX.mpr (List.mem_of_getElem? (by simpa using h2))) hn.1
    | succ k=>
      cases j with
      | zero=>
        simp at h2;subst h2
        exact absurd (eX.mpr (List.mem_of_getElem? (by simpa using h1))) hn.1
      | succ j=>
        have:=fJ (rs:=r) (i:=i) (k:=k) (j:=j) hn.2 (by simpa using h1) (by simpa using h2)
        lia
  | .d x::r,i,k,j,hn,h1,h2=>by
    cases k with
    | zero=>simp at h1
    | succ k=>
      cases j with
      | zero=>simp at h2
      | succ j=>
        have:=fJ (rs:=r) (i:=i) (k:=k) (j:=j) (by simpa [aN] using hn) (by simpa using h1) (by simpa using h2)
        lia
  | .l x::r,i,k,j,hn,h1,h2=>by
    cases k with
    | zero=>simp at h1
    | succ k=>
      cases j with
      | zero=>simp at h2
      | succ j=>
        have:=fJ (rs:=r) (i:=i) (k:=k) (j:=j) (by simpa [aN] using hn) (by simpa using h1) (by simpa using h2)
        lia
theorem xF{rs:List Rv}{i:Nat}(h:i∉aN rs):jG rs i=none:=by
  unfold jG
  rw [List.findIdx?_eq_none_iff]
  intro r hr
  cases r with
  | d x=>rfl
  | l x=>rfl
  | s j=>
    have:j≠i:=fun z=>h (by rw [←z];exact eX.mpr hr)
    simpa using this
theorem lZ:∀{rs:List Rv} {as:List Sv} {e:En},(aN rs).Nodup→bF rs as=true→(∀j∈aN rs,∃xs,e[j]?=some (some (.l xs)))→e6 rs as e=kD (jG rs) (as.map some) e
  | [],[],e,_,_,_=>by
    refine List.ext_getElem? fun i=>?_
    rw [cv]
    have:jG [] i=none:=rfl
    rw [this]
    simp only [e6]
    match e[i]? with
    | none=>rfl
    | some none=>rfl
    | some (some (.d x))=>rfl
    | some (some (.l x))=>rfl
    | some (some (.n x))=>rfl
  | .d x::r,y::s,e,hn,hl,hs=>by
    rw [show e6 (.d x::r) (y::s) e=e6 r s e from rfl,lZ (by simpa [aN] using hn) (by simpa [bF] using hl) (fun j hj=>hs j (by simpa [aN] using hj))]
    refine List.ext_getElem? fun i=>?_
    rw [cv,cv,lg]
    cases jG r i<;>simp
  | .l x::r,y::s,e,hn,hl,hs=>by
    rw [show e6 (.l x::r) (y::s) e=e6 r s e from rfl,lZ (by simpa [aN] using hn) (by simpa [bF] using hl) (fun j hj=>hs j (by simpa [aN] using hj))]
    refine List.ext_getElem? fun i=>?_
    rw [cv,cv,lg]
    cases jG r i<;>simp
  | .s k::r,.l ys::s,e,hn,hl,hs=>by
    simp only [aN,List.nodup_cons] at hn
    obtain⟨xs,hk⟩:=hs k (by simp [aN])
    have hlt:k < e.length:=(List.getElem?_eq_some_iff.mp hk).1
    rw [show e6 (.s k::r) (.l ys::s) e=e6 r s (e.set k (some (.l ys))) from rfl,lZ hn.2 (by simpa [bF] using hl) (fun j hj=>by
      have z:k≠j:=fun z=>hn.1 (by rw [z];exact hj)
      rw [List.getElem?_set_ne z]
      exact hs j (by simp [aN,hj]))]
    refine List.ext_getElem? fun i=>?_
    rw [cv,cv,lg]
    by_cases z:k=i
    · subst z
      rw [List.getElem?_set_self hlt,hk,xF hn.1]
      simp
    · rw [List.getElem?_set_ne z]
      have:((match (Rv.s k) with | .s j=>j==i | _=>false)=true)=False:=by simp [z]
      simp only [this,if_false]
      cases jG r i<;>simp
  | .s _::_,.d _::_,_,_,h,_=>by simp [bF] at h
  | .s _::_,.n _::_,_,_,h,_=>by simp [bF] at h
  | .s _::_,[],_,_,h,_=>by simp [bF] at h
  | .d _::_,[],_,_,h,_=>by simp [bF] at h
  | .l _::_,[],_,_,h,_=>by simp [bF] at h
  | [],_::_,_,_,h,_=>by simp [bF] at h
theorem eJ{e:En}:∀{rs:List Rv} {as:List Sv},dg e rs=some as→∀j∈aN rs,∃xs,e[j]?=some (some (.l xs))
  | [],_,_,j,h=>by simp [aN] at h
  | .d x::rs,as,q,j,h=>by
    obtain⟨as',q1,rfl⟩:=Option.map_eq_some_iff.mp q
    exact eJ q1 j (by simpa [aN] using h)
  | .l x::rs,as,q,j,h=>by
    obtain⟨as',q1,rfl⟩:=Option.map_eq_some_iff.mp q
    exact eJ q1 j (by simpa [aN] using h)
  | .s k::rs,as,q,j,h=>by
    unfold dg at q
    match he:e[k]?,q with
    | some (some (.l xs)),q=>
      obtain⟨as',q1,rfl⟩:=Option.map_eq_some_iff.mp q
      simp only [aN,List.mem_cons] at h
      rcases h with rfl | h
      · exact⟨xs,he⟩
      · exact eJ q1 j h
theorem jO{e:En}:∀{rs:List Rv} {as:List Sv} {k i:Nat},dg e rs=some as→rs[k]?=some (.s i)→∃xs,as[k]?=some (.l xs)
  | [],_,k,i,_,h=>by simp at h
  | .d x::rs,as,k,i,q,h=>by
    obtain⟨as',q1,rfl⟩:=Option.map_eq_some_iff.mp q
    cases k with
    | zero=>simp at h
    | succ k=>simpa using jO (k:=k) (i:=i) q1 (by simpa using h)
  | .l x::rs,as,k,i,q,h=>by
    obtain⟨as',q1,rfl⟩:=Option.map_eq_some_iff.mp q
    cases k with
    | zero=>simp at h
    | succ k=>simpa using jO (k:=k) (i:=i) q1 (by simpa using h)
  | .s j::rs,as,k,i,q,h=>by
    unfold dg at q
    match he:e[j]?,q with
    | some (some (.l xs)),q=>
      obtain⟨as',q1,rfl⟩:=Option.map_eq_some_iff.mp q
      cases k with
      | zero=>exact⟨xs,rfl⟩
      | succ k=>simpa using jO (k:=k) (i:=i) q1 (by simpa using h)
section
variable{X:Cx}{K:PySem.W.Frag}{σ:L2.St}{H0 H:Hp}{e:En}
theorem lV:∀{rs:List Rv} {vs:List V} {as:List Sv} {F:Hp},bf K F H σ e→b7 K σ H0 F H e rs vs→dg e rs=some as→
    ∃F',bf K F' H σ e∧aA F F'∧(∀a,F a=none→H0 a≠none→F' a=none)∧vs.length=as.length∧rs.length=as.length∧
      (∀(k:Nat) (x:PyData),as[k]?=some (.d x)→∃v,vs[k]?=some v∧DA K F' x v)∧∀(k:Nat) (xs:List PyData),as[k]?=some (.l xs)→∃i,rs[k]?=some (.s i)∧e[i]?=some (some (.l xs))∧∃v,vs[k]?=some v∧σ[i]?=some (some v)
  | [],vs,as,F,R,h,q=>by
    cases q
    have h':vs=[]:=h
    subst h'
    exact⟨F,R,aA.refl _,fun _ h _=>h,rfl,rfl,fun k x h=>by simp at h,fun k x h=>by simp at h⟩
  | .d x::rs,_,as,F,R,h,q=>by
    obtain⟨v,ws,rfl,h1,h2⟩:=h
    obtain⟨as',q1,rfl⟩:=Option.map_eq_some_iff.mp q
    obtain⟨F',R',s',f',l1,l2,d',o'⟩:=lV R h2 q1
    refine⟨F',R',s',f',by simp [l1],by simp [l2],fun k y hk=>?_,fun k ys hk=>?_⟩
    · cases k with
      | zero=>simp at hk;subst hk;exact⟨v,rfl,DA.mono s' h1⟩
      | succ k=>simpa using d' k y (by simpa using hk)
    · cases k with
      | zero=>simp at hk
      | succ k=>simpa using o' k ys (by simpa using hk)
  | .l xs::rs,_,as,F,R,h,q=>by
    obtain⟨v,ws,rfl,h1,h2⟩:=h
    obtain⟨as',q1,rfl⟩:=Option.map_eq_some_iff.mp q
    obtain⟨F',R',s',f',l1,l2,d',o'⟩:=lV R h2 q1
    have key:∃F2,bf K F2 H σ e∧aA F' F2∧(∀a,F' a=none→H0 a≠none→F2 a=none)∧DA K F2 (.list xs) v:=by
      obtain⟨l,us,rfl,g1,g2,g3,g4,g5⟩:=h1
      cases hl:F' l with
      | none=>
        have h1':cC K σ H0 F' H e (.l xs) (.ref l):=⟨l,us,rfl,g1,hl,g3,aJ.mono s' g4,g5⟩
        obtain⟨F2,R2,s2,d2,f2⟩:=h1'.frozen R'
        exact⟨F2,R2,s2,f2,d2⟩
      | some o=>
        have:=R'.sm _ _ hl
        rw [g3] at this;cases this
        exact⟨F',R',aA.refl _,fun _ h _=>h,dS.mpr ⟨l,us,rfl,.inl (.inl hl),aJ.mono s' g4⟩⟩
    obtain⟨F2,R2,s2,f2,d2⟩:=key
    refine⟨F2,R2,s'.trans s2,fun a ha hn=>f2 a (f' a ha hn) hn,by simp [l1],by simp [l2],fun k y hk=>?_,fun k ys hk=>?_⟩
    · cases k with
      | zero=>simp at hk;subst hk;exact⟨v,rfl,d2⟩
      | succ k=>
        obtain⟨u,c1,c2⟩:=d' k y (by simpa using hk)
        exact⟨u,by simpa using c1,DA.mono s2 c2⟩
    · cases k with
      | zero=>simp at hk
      | succ k=>simpa using o' k ys (by simpa using hk)
  | .s i::rs,_,as,F,R,h,q=>by
    obtain⟨v,ws,rfl,h1,h2⟩:=h
    unfold dg at q
    match he:e[i]?,q with
    | some (some (.l xs)),q=>
      obtain⟨as',q1,rfl⟩:=Option.map_eq_some_iff.mp q
      obtain⟨F',R',s',f',l1,l2,d',o'⟩:=lV R h2 q1
      refine⟨F',R',s',f',by simp [l1],by simp [l2],fun k y hk=>?_,fun k ys hk=>?_⟩
      · cases k with
        | zero=>simp at hk
        | succ k=>simpa using d' k y (by simpa using hk)
      · cases k with
        | zero=>simp at hk;subst hk;exact⟨i,rfl,he,v,rfl,h1.1⟩
        | succ k=>simpa using o' k ys (by simpa using hk)
theorem ej{α:Type}{l:List α}{k:Nat}{x:α}:(l.map some)[k]?=some (some x)↔ l[k]?=some x:=by
  rw [List.getElem?_map]
  cases l[k]?<;>simp
theorem cC.noS{σ':L2.St}{e':En}{F H:Hp}{r:Rv}{v:V}(h:cC K σ' H0 F H e' r v)(n:L2.noS r)(ho:∀a,cV σ e H a→H0 a≠none):cC K σ H0 F H e r v:=by
  cases r with
  | d x=>exact h
  | l xs=>
    obtain⟨l,vs,e1,h1,h2,h3,h4,_⟩:=h
    exact⟨l,vs,e1,h1,h2,h3,h4,fun z=>ho l z h1⟩
  | s i=>exact absurd n (by simp [L2.noS])
theorem gS:∀{rs:List Rv} {as:List Sv},dg e rs=some as→Bq (as.map some)
  | [],_,q=>by cases q;intro i xss h;simp at h
  | .d x::rs,as,q=>by
    obtain⟨as',q1,rfl⟩:=Option.map_eq_some_iff.mp q
    have ih:=gS q1
    intro i xss h
    cases i with
    | zero=>simp at h
    | succ i=>exact ih i xss (by simpa using h)
  | .l x::rs,as,q=>by
    obtain⟨as',q1,rfl⟩:=Option.map_eq_some_iff.mp q
    have ih:=gS q1
    intro i xss h
    cases i with
    | zero=>simp at h
    | succ i=>exact ih i xss (by simpa using h)
  | .s j::rs,as,q=>by
    unfold dg at q
    match he:e[j]?,q with
    | some (some (.l xs)),q=>
      obtain⟨as',q1,rfl⟩:=Option.map_eq_some_iff.mp q
      have ih:=gS q1
      intro i xss h
      cases i with
      | zero=>simp at h
      | succ i=>exact ih i xss (by simpa using h)
theorem CK{n:Nat}{m:FM}{fs:FA}{Q:VK}{E:XK}(h:fE K (bG n m fs) σ H Q):ul (bD K n m) [] E (fA K fs) σ H Q:=by
  obtain⟨F,e,z,e',R,hf,q⟩:=h
  unfold bG at hf
  obtain⟨⟨rs,e1⟩,h1,hf⟩:=Option.bind_eq_some_iff.mp hf
  obtain⟨as,h2,hf⟩:=Option.bind_eq_some_iff.mp hf
  obtain⟨⟨r,as'⟩,h3,hf⟩:=Option.bind_eq_some_iff.mp hf
  split at hf
  case isFalse=>cases hf
  case isTrue hc=>
  obtain⟨c1,c2,c3,c4⟩:=hc
  cases hf
  refine⟨F,e,rs,e1,R,h1,fun F1 H1 vs X1 R1 A1=>?_⟩
  obtain⟨F2,R2,s2,f2,l1,l2,d2,o2⟩:=lV R1 A1 h2
  have X2:=X1.frz s2 f2
  rw [List.append_nil]
  have hn:L2.noS r:=by
    cases r with
    | d x=>trivial
    | l x=>trivial
    | s i=>cases c4
  have nN:=gS h2
  have RA:bf K F2 H1 (vs.map some) (as.map some):=by
    refine⟨R2.sm,by simp [l1],fun k x hk=>?_,fun k xs hk=>?_,fun k xss hk=>absurd hk (nN k xss),fun k j l f1 f2=>?_⟩
    · obtain⟨v,g1,g2⟩:=d2 k x (ej.mp hk)
      exact⟨v,ej.mpr g1,g2⟩
    · obtain⟨i,g1,g2,v,g3,g4⟩:=o2 k xs (ej.mp hk)
      obtain⟨l,us,k1,k2,k3,k4⟩:=R2.own i xs g2
      rw [g4] at k1;cases k1
      exact⟨l,us,ej.mpr g3,k2,k3,k4⟩
    · obtain⟨xs,g1,g3⟩:=f1.resolve_right fun⟨xss,_,_,z,_⟩=>nN k xss z
      obtain⟨ys,g2,g4⟩:=f2.resolve_right fun⟨xss,_,_,z,_⟩=>nN j xss z
      obtain⟨i1,a1,a2,v1,a3,a4⟩:=o2 k xs (ej.mp g1)
      obtain⟨i2,b1,b2,v2,b3,b4⟩:=o2 j ys (ej.mp g2)
      have e1:=ej.mp g3
      have e2:=ej.mp g4
      rw [a3] at e1;cases e1
      rw [b3] at e2;cases e2
      have:i1=i2:=R2.inj i1 i2 xs ys l a2 b2 a4 b4
      subst this
      exact fJ c2 a1 b1
  have sub:qf σ e1 (vs.map some) (as.map some) (jG rs):=by
    refine⟨fun i k xs g1 g2=>?_,fun k ys g1=>?_⟩
    · have g3:=lh g2
      obtain⟨zs,hs⟩:=jO h2 g3
      obtain⟨i',a1,a2,v,a3,a4⟩:=o2 k zs hs
      rw [g3] at a1;cases a1
      rw [ej.mpr a3,a4]
    · obtain⟨i,a1,a2,v,a3,a4⟩:=o2 k ys (ej.mp g1)
      refine⟨i,ys,a2,?_,by rw [ej.mpr a3,a4]⟩
      cases hp:jG rs i with
      | none=>
        unfold jG at hp
        rw [List.findIdx?_eq_none_iff] at hp
        have:=hp _ (List.mem_of_getElem? a1)
        simp at this
      | some j=>rw [fJ c2 (lh hp) a1]
  refine⟨by rw [l1,←l2];exact c1,F2,as,r,as',RA,nN,h3,hn,fun F' H' v X3 R3 A3=>?_⟩
  obtain⟨R4,X4,o4⟩:=rq R2 sub nN X3.sf X3.dom X3.fr X3.lst X3.tmp R3 (fun _ _ _ _ _=>rfl) fun i k xs g1 g2=>by
    obtain⟨ys,g3⟩:=hG c3 k i (lh g2)
    exact⟨ys,ej.mpr g3⟩
  have hb:=lZ (e:=e1) c2 c3 (eJ h2)
  rw [←hb] at R4 X4 o4
  exact q F' H' v (X2.trans X4) R4 ((A3.noS hn fun a z=>R2.ownH a (o4 a z)).weak X2.dom)
theorem aI{x:Str}{st:Stmt}{f:Addr}{fd:FuncData}{ps:List Str}{k n:Nat}{m:FM}{a:Expr}{es:List Expr}{fs:FA}{p pos:Pos}(h:aY X.K X.mg x st f fd ps)(G:aC X.prog X.w X.K X.mg X.base bB k f fd ps (bD K n m))(hr:cQ k X.A)(ha:PA X (a::es) (fA K fs))
    (hg:Gl X x)(hdb:(x==("__debug__":Str))=false)(he:starEach (a::es) X.env=(false,eval a X.env)::starEach es X.env)(hpl:(backTo pos (starEach es X.env)).any (·.1)=false):
    PE X (.Call (.Name x p) (a::es) [] pos) (fE K (bG n m fs)):=(DV h G hr ha hg hdb he hpl).mono fun _ _ _ h=>CK h
def uw:List Sv→En→Option (List Sv)
  | [],_=>some []
  | .d x::r,e=>(uw r e.tail).map (.d x::·)
  | .l _::r,e=>match e.head? with
    | some (some (.l ys))=>(uw r e.tail).map (.l ys::·)
    | _=>none
  | .n _::_,_=>none
def v_(n:Nat)(e:En):Rv→Option Rv
  | .s i=>if n≤i then match e[i]? with
      | some (some (.l xs))=>some (.l xs)
      | _=>none
    else none
  | r=>some r
def oK(W:List Nat)(as:List Sv):Bool:=W.all fun j=>match as[j]? with
  | some (.l _)=>false
  | _=>true
def gh(n k:Nat)(W:List Nat)(f:FS):FM:=fun as=>if as.length=n∧oK W as=true then(f (as.map some++List.replicate k none)).bind fun fl=>match fl with
    | .rt r e=>(v_ n e r).bind fun r'=>(uw as e).map fun as'=>(r',as')
    | .nx e=>(uw as e).map fun as'=>(.d .none,as')
    | _=>none
  else none
theorem mi:∀{as as':List Sv} {e:En},uw as e=some as'→as'.length=as.length∧(∀(j:Nat) (x:PyData),as'[j]?=some (.d x)↔ as[j]?=some (.d x))∧(∀(j:Nat) (ys:List PyData),as'[j]?=some (.l ys)→(∃xs,as[j]?=some (.l xs))∧e[j]?=some (some (.l ys)))∧∀(j:Nat) (xs:List PyData),as[j]?=some (.l xs)→∃ys,as'[j]?=some (.l ys)
  | [],_,e,h=>by cases h;simp
  | .d x::r,_,e,h=>by
    obtain⟨s,h1,rfl⟩:=Option.map_eq_some_iff.mp h
    obtain⟨g1,g2,g3,g4⟩:=mi h1
    refine⟨by simp [g1],fun j y=>?_,fun j ys hj=>?_,fun j xs hj=>?_⟩
    · cases j with
      | zero=>simp
      | succ j=>simpa using g2 j y
    · cases j with
      | zero=>simp at hj
      | succ j=>
        obtain⟨c1,c2⟩:=g3 j ys (by simpa using hj)
        refine⟨by simpa using c1,?_⟩
        rw [List.getElem?_tail] at c2
        exact c2
    · cases j with
      | zero=>simp at hj
      | succ j=>simpa using g4 j xs (by simpa using hj)
  | .l xs::r,_,e,h=>by
    unfold uw at h
    match he:e.head?,h with
    | some (some (.l ys)),h=>
      obtain⟨s,h1,rfl⟩:=Option.map_eq_some_iff.mp h
      obtain⟨g1,g2,g3,g4⟩:=mi h1
      refine⟨by simp [g1],fun j y=>?_,fun j zs hj=>?_,fun j zs hj=>?_⟩
      · cases j with
        | zero=>simp
        | succ j=>simpa using g2 j y
      · cases j with
        | zero=>
          simp at hj;subst hj
          exact⟨⟨xs,rfl⟩,by rw [List.head?_eq_getElem?] at he;exact he⟩
        | succ j=>
          obtain⟨c1,c2⟩:=g3 j zs (by simpa using hj)
          refine⟨by simpa using c1,?_⟩
          rw [List.getElem?_tail] at c2
          exact c2
      · cases j with
        | zero=>exact⟨ys,rfl⟩
        | succ j=>simpa using g4 j zs (by simpa using hj)
  | .n x::r,_,e,h=>by simp [uw] at h
end
end L2
namespace L2
open PySem PySem.Spec PyProof.Rows
theorem d9{α:Type}{l:List (Option α)}{k i:Nat}{x:α}(h:(l++List.replicate k none)[i]?=some (some x)):l[i]?=some (some x):=by
  rw [List.getElem?_append] at h
  split at h
  · exact h
  · rw [List.getElem?_replicate] at h
    split at h<;>simp at h
theorem eh{α:Type}{l:List (Option α)}{k i:Nat}{x:α}(h:l[i]?=some (some x)):(l++List.replicate k none)[i]?=some (some x):=by
  have hi:i < l.length:=(List.getElem?_eq_some_iff.mp h).1
  rw [List.getElem?_append_left hi];exact h
section
variable{K:PySem.W.Frag}{F H:Hp}{σ:L2.St}{e:En}{k:Nat}
theorem pC{i:Nat}{a:Addr}:Fp (σ++List.replicate k none) (e++List.replicate k none) H i a↔ Fp σ e H i a:=by
  constructor
  · rintro(⟨xs,h1,h2⟩ | ⟨xss,l,bs,h1,h2,h3⟩)
    · exact .inl ⟨xs,d9 h1,d9 h2⟩
    · exact .inr ⟨xss,l,bs,d9 h1,d9 h2,h3⟩
  · rintro(⟨xs,h1,h2⟩ | ⟨xss,l,bs,h1,h2,h3⟩)
    · exact .inl ⟨xs,eh h1,eh h2⟩
    · exact .inr ⟨xss,l,bs,eh h1,eh h2,h3⟩
theorem pW{a:Addr}:cV (σ++List.replicate k none) (e++List.replicate k none) H a↔ cV σ e H a:=⟨fun⟨i,h⟩=>⟨i,pC.mp h⟩,fun⟨i,h⟩=>⟨i,pC.mpr h⟩⟩
theorem bf.pad(R:bf K F H σ e):bf K F H (σ++List.replicate k none) (e++List.replicate k none):=by
  refine⟨R.sm,by simp [R.len],fun i x h=>?_,fun i xs h=>?_,fun i xss h=>?_,fun i j a h1 h2=>R.fp i j a (pC.mp h1) (pC.mp h2)⟩
  · obtain⟨v,g1,g2⟩:=R.dat i x (d9 h)
    exact⟨v,eh g1,g2⟩
  · obtain⟨l,vs,g1,g2⟩:=R.own i xs (d9 h)
    exact⟨l,vs,eh g1,g2⟩
  · obtain⟨l,bs,g1,g2⟩:=R.nst i xss (d9 h)
    exact⟨l,bs,eh g1,g2⟩
end
theorem qa:∀{as as':List Sv} {e:En},uw as e=some as'→Bq (as'.map some)
  | [],_,e,h=>by cases h;intro i xss z;simp at z
  | .d x::r,_,e,h=>by
    obtain⟨s,h1,rfl⟩:=Option.map_eq_some_iff.mp h
    have ih:=qa h1
    intro i xss z
    cases i with
    | zero=>simp at z
    | succ i=>exact ih i xss (by simpa using z)
  | .l xs::r,_,e,h=>by
    unfold uw at h
    match he:e.head?,h with
    | some (some (.l ys)),h=>
      obtain⟨s,h1,rfl⟩:=Option.map_eq_some_iff.mp h
      have ih:=qa h1
      intro i xss z
      cases i with
      | zero=>simp at z
      | succ i=>exact ih i xss (by simpa using z)
  | .n x::r,_,e,h=>by simp [uw] at h
theorem qM{W:List Nat}{as:List Sv}(h:oK W as=true){j:Nat}{xs:List PyData}(hj:as[j]?=some (.l xs)):j∉W:=fun z=>by
  unfold oK at h
  have:=List.all_eq_true.mp h j z
  rw [hj] at this
  cases this
section
variable{P:Program}{w:World}{K:PySem.W.Frag}{mg:Str→Option Value}{base:Heap}
theorem aY.fn{x:Str}{st:Stmt}{f:Addr}{fd:FuncData}{N ps:List Str}{k n k0:Nat}{W:List Nat}{fb:FS}(h:aY K mg x st f fd ps)(S:aB N ps (am st))(hn:ps.length=n)(hN:N.length=n+k0)
    (hb:∀(cdv:Value) (A:Around) (outer:List Env) (s:Shared) (H:Hp) (E:XK),cQ k (A.deeper (envOfC x (am st) s.heap.objs.size f cdv))→lQ (r6 bB P w K mg base N x (am st) f cdv A outer s H E).nox (cR st) (fS K fb W)):
    aC P w K mg base bB (k+1) f fd ps (bD K n (gh n k0 W fb)):=by
  refine h.F.ok S (fun vs H Q E q=>?_) fun cdv A outer s H vs Q E hr hsp=>⟨_,hb cdv A outer s H E hr,?_⟩
  · rw [hn];exact q.1
  · obtain⟨hl,F,as,r,as',R,nN,hm,nr,q⟩:=hsp
    unfold gh at hm
    split at hm
    case isFalse=>cases hm
    case isTrue hc=>
    obtain⟨la,nl⟩:=hc
    obtain⟨fl,h1,hm⟩:=Option.bind_eq_some_iff.mp hm
    have hst:iq N vs=vs.map some++List.replicate k0 none:=by unfold iq;rw [hN,hl];congr 2;lia
    rw [hst]
    have key:∀{as':List Sv} {e':En},uw as e'=some as'→∀F' H' σ',dM W (vs.map some++List.replicate k0 none) F H (as.map some++List.replicate k0 none) σ' F' H' e'→bf K F' H' σ' e'→
        dJ (vs.map some) F H (as.map some) F' H' (as'.map some)∧bf K F' H' (vs.map some) (as'.map some)∧∀a,cV (vs.map some) (as'.map some) H' a→cV (vs.map some) (as.map some) H a:=by
      intro as' e' hu F' H' σ' X' R'
      obtain⟨u1,u2,u3,u4⟩:=mi hu
      have uN:=qa hu
      have ow:∀a,cV (vs.map some) (as'.map some) H' a→cV (vs.map some) (as.map some) H a:=by
        rintro a ⟨j,⟨ys,c1,c2⟩ | ⟨xss,_,_,z,_⟩⟩
        · obtain⟨⟨xs,c3⟩,_⟩:=u3 j ys (ej.mp c1)
          exact⟨j,.inl ⟨xs,ej.mpr c3,c2⟩⟩
        · exact absurd z (uN j xss)
      have sg:∀(j:Nat) (xs:List PyData),as[j]?=some (.l xs)→σ'[j]?=(vs.map some)[j]?:=fun j xs hj=>by
        rw [X'.wr j (qM nl hj)]
        have hj2:j < (vs.map some).length:=by rw [List.length_map,hl,←la];exact(List.getElem?_eq_some_iff.mp hj).1
        rw [List.getElem?_append_left hj2]
      refine⟨⟨X'.sf,X'.dom,fun a vs h1 h2 hn=>X'.fr a vs h1 h2 fun z=>hn (pW.mp z),X'.lst,fun a o ha hn=>X'.tmp a o ha fun z=>hn (pW.mp z),fun j=>?_,fun a z=>.inl (ow a z)⟩,⟨R'.sm,?_,fun j y hj=>?_,fun j ys hj=>?_,fun j xss hj=>absurd hj (uN j xss),fun j i l f1 f2=>?_⟩,ow⟩
      · constructor
        · rintro⟨ys,hj⟩
          obtain⟨⟨xs,c⟩,_⟩:=u3 j ys (ej.mp hj)
          exact⟨xs,ej.mpr c⟩
        · rintro⟨xs,hj⟩
          obtain⟨ys,c⟩:=u4 j xs (ej.mp hj)
          exact⟨ys,ej.mpr c⟩
      · simp [u1,hl,la]
      · obtain⟨v,c1,c2⟩:=R.dat j y (ej.mpr ((u2 j y).mp (ej.mp hj)))
        exact⟨v,c1,DA.mono X'.sf c2⟩
      · obtain⟨⟨xs,c1⟩,c2⟩:=u3 j ys (ej.mp hj)
        obtain⟨l,us,d1,d2⟩:=R'.own j ys c2
        exact⟨l,us,by rw [←sg j xs c1];exact d1,d2⟩
      · obtain⟨xs,g1,g3⟩:=f1.resolve_right fun⟨xss,_,_,z,_⟩=>uN j xss z
        obtain⟨ys,g2,g4⟩:=f2.resolve_right fun⟨xss,_,_,z,_⟩=>uN i xss z
        obtain⟨⟨zs,c1⟩,c2⟩:=u3 j xs (ej.mp g1)
        obtain⟨⟨ws,c3⟩,c4⟩:=u3 i ys (ej.mp g2)
        exact R'.inj j i xs ys l c2 c4 (by rw [sg j zs c1];exact g3) (by rw [sg i ws c3];exact g4)
    refine⟨F,as.map some++List.replicate k0 none,fl,R.pad,h1,?_⟩
    cases fl with
    | bk e'=>cases hm
    | ct e'=>cases hm
    | nx e'=>
      obtain⟨as2,h2,hm⟩:=Option.map_eq_some_iff.mp hm
      cases hm
      intro F' H' σ' X' R'
      obtain⟨X2,R2,_⟩:=key h2 F' H' σ' X' R'
      exact q F' H' .non X2 R2 ((gZ (K:=K) (F:=F')).mpr rfl)
    | rt r0 e'=>
      obtain⟨r1,h2,hm⟩:=Option.bind_eq_some_iff.mp hm
      obtain⟨as2,h3,hm⟩:=Option.map_eq_some_iff.mp hm
      cases hm
      intro F' H' σ' v X' R' A'
      obtain⟨X2,R2,ow2⟩:=key h3 F' H' σ' X' R'
      have noo:∀l,H l=none→¬cV (vs.map some) (as'.map some) H' l:=fun l hl z=>R.ownH l (ow2 l z) hl
      refine q F' H' v X2 R2 ?_
      cases r0 with
      | d y=>cases h2;exact A'
      | l ys=>
        cases h2
        obtain⟨l,us,d0,d1,d2,d3,d4,_⟩:=A'
        exact⟨l,us,d0,d1,d2,d3,d4,noo l d1⟩
      | s i=>
        simp only [v_] at h2
        split at h2
        case isFalse=>cases h2
        case isTrue hi=>
        obtain⟨a1,xs,a2⟩:=A'
        rw [a2] at h2
        cases h2
        obtain⟨l,us,d1,d2,d3,d4⟩:=R'.own i _ a2
        rw [a1] at d1;cases d1
        suffices hl0:H l=none from⟨l,us,rfl,hl0,d2,d3,d4,noo l hl0⟩
        rcases X'.own l ⟨i,.inl ⟨_,a2,a1⟩⟩ with z | z
        · obtain⟨j,zf⟩:=pW.mp z
          obtain⟨ys,z1,z2⟩:=zf.resolve_right fun⟨xss,_,_,z,_⟩=>nN j xss z
          have z1':=ej.mp z1
          obtain⟨u1,u2,u3,u4⟩:=mi h3
          obtain⟨ws,w1⟩:=u4 j ys z1'
          obtain⟨_,w2⟩:=u3 j ws w1
          have hj2:j < vs.length:=by rw [hl,←la];exact(List.getElem?_eq_some_iff.mp z1').1
          have e3:σ'[j]?=some (some (.ref l)):=by
            rw [X'.wr j (qM nl z1'),List.getElem?_append_left (by simpa using hj2)]
            exact z2
          have:=R'.inj i j _ ws l a2 w2 a1 e3
          lia
        · exact z
end
def DB:Option Sv→Option Sv
  | some (.n _)=>none
  | s=>s
def rO(cp:List (Nat × Str))(nT:Nat)(e:En):En:=cp.map (fun p=>DB (e[p.1]?).join)++List.replicate nT none
def j'(cp:List (Nat × Str))(i:Nat):Option Nat:=cp.findIdx? fun p=>p.1==i
def eD(g:FG)(ft:FT)(fe:FE):List PyData→En→List PyData→Option (List PyData × En)
  | [],e,acc=>some (acc,e)
  | x::r,e,acc=>(g x e).bind fun e1=>(ft e1).bind fun b=>if b.1=true then(fe b.2).bind fun v=>(pB v.1).bind fun d=>if acc.length < 1000000 then eD g ft fe r v.2 (acc++[d]) else none else eD g ft fe r b.2 acc
def mv(cp:List (Nat × Str))(ei e:En):Bool:=cp.all fun p=> !yw e[p.1]? || yw ei[(j' cp p.1).getD 0]?
def eu(cp:List (Nat × Str))(nT:Nat)(fi:FI)(g:FG)(ft:FT)(fe:FE):FE:=fun e=>(fi e).bind fun p=>if (p.2.1.all fun q=> !(cp.any fun c=>c.1==q.1))=true then(eD g ft fe p.1 (rO cp nT p.2.2) []).bind fun z=>if mv cp z.2 p.2.2=true then some (.l z.1,kD (j' cp) z.2 p.2.2) else none else none
section
variable{K:PySem.W.Frag}{F H:Hp}{σ:L2.St}{e:En}{cp:List (Nat × Str)}{nT:Nat}
theorem gM{i k:Nat}(h:j' cp i=some k):∃s,cp[k]?=some (i,s):=by
  unfold j' at h
  rw [List.findIdx?_eq_some_iff_getElem] at h
  obtain⟨hk,h1,_⟩:=h
  refine⟨cp[k].2,?_⟩
  rw [List.getElem?_eq_getElem hk]
  have:=eq_of_beq h1
  rw [←this]
theorem i4{k:Nat}{x:Sv}(h:(rO cp nT e)[k]?=some (some x)):∃i s,cp[k]?=some (i,s)∧e[i]?=some (some x):=by
  unfold rO at h
  have h:=d9 h
  rw [List.getElem?_map] at h
  obtain⟨p,h1,h2⟩:=Option.map_eq_some_iff.mp h
  refine⟨p.1,p.2,h1,?_⟩
  cases q:e[p.1]? with
  | none=>rw [q] at h2;cases h2
  | some y=>
    rw [q] at h2
    match y,h2 with
    | some (.d z),h2=>exact congrArg some h2
    | some (.l z),h2=>exact congrArg some h2
    | some (.n z),h2=>cases h2
    | none,h2=>cases h2
theorem jZ:Bq (rO cp nT e):=by
  intro k xss h
  unfold rO at h
  have h:=d9 h
  rw [List.getElem?_map] at h
  obtain⟨p,h1,h2⟩:=Option.map_eq_some_iff.mp h
  match (e[p.1]?).join,h2 with
  | some (.d z),h2=>cases h2
  | some (.l z),h2=>cases h2
  | some (.n z),h2=>cases h2
  | none,h2=>cases h2
theorem me{k i:Nat}{s:Str}{v:V}(h:cp[k]?=some (i,s))(hv:σ[i]?=some (some v)):(gO cp nT σ)[k]?=some (some v):=by
  unfold gO
  refine eh ?_
  rw [List.getElem?_map,h]
  simp [hv]
theorem nL{k i:Nat}{s:Str}{v:V}(h:cp[k]?=some (i,s))(hv:(gO cp nT σ)[k]?=some (some v)):σ[i]?=some (some v):=by
  unfold gO at hv
  have hv:=d9 hv
  rw [List.getElem?_map,h] at hv
  simp only [Option.map_some,Option.some.injEq] at hv
  cases q:σ[i]? with
  | none=>rw [q] at hv;cases hv
  | some y=>rw [q] at hv;exact congrArg some hv
theorem pw:∀{cp:List (Nat × Str)} {k j i:Nat} {s t:Str},(cp.map (·.1)).Nodup→cp[k]?=some (i,s)→cp[j]?=some (i,t)→k=j
  | [],k,j,i,s,t,_,h,_=>by simp at h
  | p::r,k,j,i,s,t,hn,h1,h2=>by
    simp only [List.map_cons,List.nodup_cons] at hn
    cases k with
    | zero=>
      simp at h1;subst h1
      cases j with
      | zero=>rfl
      | succ j=>
        have hm:(i,t)∈r:=List.mem_of_getElem? (i:=j) (by simpa using h2)
        exact absurd (List.mem_map.mpr ⟨(i,t),hm,rfl⟩) hn.1
    | succ k=>
      cases j with
      | zero=>
        simp at h2;subst h2
        have hm:(i,s)∈r:=List.mem_of_getElem? (i:=k) (by simpa using h1)
        exact absurd (List.mem_map.mpr ⟨(i,s),hm,rfl⟩) hn.1
      | succ j=>
        have:=pw (cp:=r) (k:=k) (j:=j) hn.2 (by simpa using h1) (by simpa using h2)
        lia
theorem bf.inn(R:bf K F H σ e)(hn:(cp.map (·.1)).Nodup):bf K F H (gO cp nT σ) (rO cp nT e)∧qf σ e (gO cp nT σ) (rO cp nT e) (j' cp):=by
  refine⟨⟨R.sm,by simp [gO,rO],fun k x h=>?_,fun k xs h=>?_,fun k xss h=>absurd h (jZ k xss),fun k j l f1 f2=>?_⟩,⟨fun i k xs h1 h2=>?_,fun k ys h=>?_⟩⟩
  · obtain⟨i,s,h1,h2⟩:=i4 h
    obtain⟨v,g1,g2⟩:=R.dat i x h2
    exact⟨v,me h1 g1,g2⟩
  · obtain⟨i,s,h1,h2⟩:=i4 h
    obtain⟨l,vs,g1,g2⟩:=R.own i xs h2
    exact⟨l,vs,me h1 g1,g2⟩
  · obtain⟨xs,h1,h3⟩:=f1.resolve_right fun⟨xss,_,_,z,_⟩=>jZ k xss z
    obtain⟨ys,h2,h4⟩:=f2.resolve_right fun⟨xss,_,_,z,_⟩=>jZ j xss z
    obtain⟨i,s,a1,a2⟩:=i4 h1
    obtain⟨i',s',b1,b2⟩:=i4 h2
    have:i=i':=R.inj i i' xs ys l a2 b2 (nL a1 h3) (nL b1 h4)
    subst this
    exact pw hn a1 b1
  · obtain⟨s,g⟩:=gM h2
    obtain⟨l,vs,g1,_⟩:=R.own i xs h1
    rw [g1];exact me g g1
  · obtain⟨i,s,h1,h2⟩:=i4 h
    obtain⟨l,vs,g1,_⟩:=R.own i ys h2
    refine⟨i,ys,h2,?_,by rw [g1];exact me h1 g1⟩
    cases hp:j' cp i with
    | none=>
      unfold j' at hp
      rw [List.findIdx?_eq_none_iff] at hp
      have:=hp _ (List.mem_of_getElem? h1)
      simp at this
    | some j=>
      obtain⟨t,g⟩:=gM hp
      rw [pw hn g h1]
theorem bf.putT(R:bf K F H σ e){l:Addr}{ws:List V}(h1:F l=none)(h2:¬cV σ e H l):bf K F (bi H l (.lst ws)) σ e∧∀a,cV σ e (bi H l (.lst ws)) a↔ cV σ e H a:=
  R.keep (aA.refl F) (fun b o q=>by
    have z:b≠l:=fun z=>by rw [z,h1] at q;cases q
    rw [aM z];exact R.sm b o q) (fun a ⟨i,h⟩=>(R.fpAt h).1) fun a o ha q=>by
      have z:a≠l:=fun z=>h2 (by rw [←z];exact ha)
      rw [aM z];exact q
theorem dM.putT{W:List Nat}{σ':L2.St}{F' H':Hp}{e':En}(x:dM W σ F H e σ' F' H' e'){l:Addr}{o:HO}(h:H l=none)(ho:∀a,cV σ' e' (bi H' l o) a↔ cV σ' e' H' a):dM W σ F H e σ' F' (bi H' l o) e':=by
  refine⟨x.sf,fun a q=>?_,x.fr,fun a vs q=>?_,fun a u q n=>?_,fun a q=>x.own a ((ho a).mp q),x.wr⟩
  · by_cases z:a=l
    · rw [z];exact h
    · rw [aM z] at q;exact x.dom a q
  · have z:a≠l:=fun z=>by rw [z,h] at q;cases q
    rw [aM z];exact x.lst a vs q
  · have z:a≠l:=fun z=>by rw [z,h] at q;cases q
    rw [aM z];exact x.tmp a u q n
inductive CI (K:PySem.W.Frag) (W:List Nat) (σ0:L2.St) (F1 H1:Hp) (e0:En) (l:Addr) (P:Hp→En→List PyData→Prop) (σ':L2.St) (H':Hp):Prop
  | mk {F':Hp} {ei:En} {acc:List PyData} {vs:List V} (R:bf K F' H' σ' ei) (X:dM W σ0 F1 H1 e0 σ' F' H' ei) (fl:F' l=none) (no:¬cV σ' ei H' l) (hl:H' l=some (.lst vs)) (da:aJ K F' acc vs) (hc:P F' ei acc):CI K W σ0 F1 H1 e0 l P σ' H'
theorem rF{Q:VK}{fi:FI}{g:FG}{W:List Nat}{ft:FT}{fe:FE}(hn:(cp.map (·.1)).Nodup)(hW:∀j∈W,cp.length≤j)(h:fE K (eu cp nT fi g ft fe) σ H Q):um cp nT (fI K fi) (fG K g W) (fT K ft) (fE K fe) σ H Q:=by
  obtain⟨F0,e0,z,e',R0,hf,q⟩:=h
  unfold eu at hf
  obtain⟨⟨items,own,e1⟩,h1,hf⟩:=Option.bind_eq_some_iff.mp hf
  dsimp only at hf
  split at hf
  case isFalse=>cases hf
  case isTrue hO=>
  obtain⟨⟨out,eo⟩,h2,hf⟩:=Option.bind_eq_some_iff.mp hf
  dsimp only at hf
  split at hf
  case isFalse=>cases hf
  case isTrue hB=>
  cases hf
  refine⟨⟨F0,e0,items,own,e1,R0,h1,fun J F1 H1 X1 R1 kp ok=>?_⟩⟩
  intro l hl
  obtain⟨Ri,sub⟩:=R1.inn (nT:=nT) hn
  have hFl:F1 l=none:=R1.freeF hl
  let Iv:Nat→L2.St→Hp→Prop:=fun i=>CI K W (gO cp nT σ) F1 H1 (rO cp nT e1) l fun _ ei acc=>eD g ft fe (items.drop i) ei acc=some (out,eo)
  have notown:∀p∈own,∀a,σ[p.1]?=some (some (.ref a))→¬cV (gO cp nT σ) (rO cp nT e1) H1 a:=by
    rintro p hp a ha ⟨k,zf⟩
    obtain⟨xs,c1,c2⟩:=zf.resolve_right fun⟨xss,_,_,z,_⟩=>jZ k xss z
    obtain⟨i,s,d1,d2⟩:=i4 c1
    have e2:=nL d1 c2
    have:p.1=i:=R1.inj p.1 i p.2 xs a (kp p hp) d2 ha e2
    have hh:=List.all_eq_true.mp hO p hp
    simp only [Bool.not_eq_true',List.any_eq_false,beq_iff_eq] at hh
    exact hh (i,s) (List.mem_of_getElem? d1) this.symm
  refine⟨fun i m σ' H'=>m=items.length - i∧i≤items.length∧Iv i σ' H',⟨items.length,by simp,Nat.zero_le _,.mk (Ri.putT hFl (fun z=>(Ri.ownH l z) hl)).1 (dM.refl.putT hl (Ri.putT hFl (fun z=>(Ri.ownH l z) hl)).2) hFl (fun z=>(Ri.ownH l (((Ri.putT hFl (fun z=>(Ri.ownH l z) hl)).2 l).mp z)) hl) aG aJ.nil h2⟩,?_⟩
  rintro i m σ' H' ⟨rfl,hi,⟨R',X',fl,no,hl',da,hc⟩⟩
  rename_i F' ei acc vs
  have held:vA K σ F' H' own:=fun p hp=>by
    obtain⟨a,us,c1,c2,c3,c4⟩:=R1.own p.1 p.2 (kp p hp)
    exact⟨a,us,c1,X'.tmp a _ c3 (notown p hp a c1),c4.mono X'.sf⟩
  obtain⟨go,stop,yld⟩:=ok F' H' X'.sf R'.sm held
  by_cases hlt:i < items.length
  · have hd:items.drop i=items[i]::items.drop (i+1):=List.drop_eq_getElem_cons hlt
    rw [hd] at hc
    unfold eD at hc
    obtain⟨e2,c2,hc⟩:=Option.bind_eq_some_iff.mp hc
    obtain⟨⟨b,e3⟩,c3,hc⟩:=Option.bind_eq_some_iff.mp hc
    refine .inr ⟨go i hlt,Iv (i+1),fun σ2 H2 r=>⟨items.length - (i+1),by lia,rfl,hlt,r⟩,fun x H2 hy=>?_⟩
    obtain⟨F2,sH,sF2,sm2,fz,hx⟩:=yld i items[i] x H2 (List.getElem?_eq_getElem hlt) hy
    obtain⟨R2,X2⟩:=R'.step sH sF2 sm2 fz
    refine⟨F2,ei,items[i],e2,R2,hx,c2,fun σ3 X3 R3=>⟨F2,e2,b,e3,R3,c3,fun F4 H4 X4 R4=>?_⟩⟩
    have hlH2:H2 l=some (.lst vs):=sH _ _ hl'
    have no2:¬cV σ' ei H2 l:=fun z=>by
      rcases X2.ow l z with z | z
      · exact no z
      · rw [hl'] at z;cases z
    have no3:¬cV σ3 e2 H2 l:=fun z=>by
      rcases X3.own l z with z | z
      · exact no2 z
      · rw [hlH2] at z;cases z
    have fl2:F2 l=none:=fz l fl (by rw [hl'];simp)
    have hlH4:H4 l=some (.lst vs):=X4.tmp l _ hlH2 no3
    have fl4:F4 l=none:=X4.fr l vs fl2 hlH2 no3
    have no4:¬cV σ3 e3 H4 l:=fun z=>by
      rcases X4.ow l z with z | z
      · exact no3 z
      · rw [hlH2] at z;cases z
    have E4:dM W (gO cp nT σ) F1 H1 (rO cp nT e1) σ3 F4 H4 e3:=((X'.trans X2.s).trans X3).trans X4.s
    cases b with
    | false=>
      rw [if_neg (by simp)] at hc
      exact Dw (.mk R4 E4 fl4 no4 hlH4 (da.mono (sF2.trans X4.sf)) hc)
    | true=>
      rw [if_pos rfl] at hc
      obtain⟨⟨r,e5⟩,c5,hc⟩:=Option.bind_eq_some_iff.mp hc
      obtain⟨d,c6,hc⟩:=Option.bind_eq_some_iff.mp hc
      split at hc
      case isFalse=>cases hc
      case isTrue hlen=>
      refine Dx ⟨F4,e3,r,e5,R4,c5,fun F5 H5 v X5 R5 A5=>?_⟩
      have hlH5:H5 l=some (.lst vs):=X5.tmp l _ hlH4 no4
      have fl5:F5 l=none:=X5.fr l vs fl4 hlH4 no4
      have no5:¬cV σ3 e5 H5 l:=fun z=>by
        rcases X5.ow l z with z | z
        · exact no4 z
        · rw [hlH4] at z;cases z
      obtain⟨F6,R6,s6,d6,f6⟩:=b7.frozen R5 (rs:=[r]) (vs:=[v]) ⟨v,[],rfl,A5,rfl⟩ (oz c6)
      have fl6:F6 l=none:=f6 l fl5 (by rw [hlH4];simp)
      have X6:=X5.frz s6 f6
      have ll:=da.len
      have sl:sizeLine=16777216:=sizeLine_eq
      have dv:DA K F6 d v:=by
        simp only [aJ] at d6
        obtain⟨v',r',e',hv,_⟩:=d6
        cases e';exact hv
      obtain⟨R7,o7⟩:=R6.putT (ws:=vs++[v]) fl6 no5
      exact⟨vs,hlH5,by lia,.mk R7 ((E4.trans X6.s).putT hl o7) fl6 (fun z=>no5 ((o7 l).mp z)) aG ((da.mono (sF2.trans (X4.sf.trans (X5.sf.trans s6)))).append (aJ.one dv)) hc⟩
  · have hd:items.drop i=[]:=List.drop_eq_nil_of_le (by lia)
    rw [hd] at hc
    cases hc
    refine .inl ⟨stop i (by lia),?_⟩
    obtain⟨R9,X9,o9⟩:=rq R1 sub jZ X'.sf X'.dom X'.fr X'.lst X'.tmp R' (fun i k xs g1 g2=>X'.wr k fun z=>by
      obtain⟨s,g⟩:=gM g2
      have:=(List.getElem?_eq_some_iff.mp g).1
      have:=hW k z
      lia) fun i k xs g1 g2=>by
        obtain⟨s,g⟩:=gM g2
        unfold mv at hB
        have hb:=List.all_eq_true.mp hB _ (List.mem_of_getElem? g)
        simp only [g1,g2,Option.getD_some,yw,Bool.not_true,Bool.false_or] at hb
        exact yW.mp hb
    exact q F' H' (.ref l) (X1.trans X9) R9 ⟨l,vs,rfl,X1.dom l hl,fl,hl',da,fun z=>R1.ownH l (o9 l z) hl⟩
end
end L2
namespace L2
open PySem PySem.Spec PyProof.Rows
section
variable{X:Cx}{K:PySem.W.Frag}{a b:Expr}{es:List Expr}{fa fb:FE}{fs:FA}{pos p p2 p3:Pos}{lo hi:Option Expr}
def uO:En→Rv→Option Rv:=fun _ x=>(cn x).map fun i=>.d (.int (-i))
theorem DH:C6 K (rU fun i=>.int (-i)) uO:=by
  intro σ H0 F H e x z v Q R A hg q
  obtain⟨i,h5,h4⟩:=Option.map_eq_some_iff.mp hg
  cases h4
  exact⟨i,cK A h5,q F H _ (dJ.refl _ _ _ _) R nE⟩
theorem xP(ha:PE X a (fE K fa)):PE X (.UnaryOp .USub a pos) (fE K (qe uO fa)):=D9 CJ DH ha
theorem br(hK:X.K=K)(ha:PE X a (fE K fa))(hb:PE X b (fE K fb)):PE X (.BinOp a .Add b pos) (fE K (ao bE fa fb)):=oO (hK ▸ zm) C9 ha hb
theorem nz(ha:PE X a (fE K fa))(hb:PE X b (fE K fb)):PE X (.BinOp a .Sub b pos) (fE K (ao gf fa fb)):=oO BM Ep ha hb
theorem bL(hK:X.K=K)(ha:PE X a (fE K fa))(hb:PE X b (fE K fb)):PE X (.BinOp a .Mult b pos) (fE K (ao be fa fb)):=oO (hK ▸ zt) DG ha hb
theorem dX(ha:PE X a (fE K fa))(hb:PE X b (fE K fb)):PE X (.BinOp a .FloorDiv b pos) (fE K (ao cI fa fb)):=oO xm Ba ha hb
theorem aU(ha:PE X a (fE K fa))(hb:PE X b (fE K fb)):PE X (.BinOp a .Mod b pos) (fE K (ao aT fa fb)):=oO zq DF ha hb
theorem tZ(ha:PE X a (fE K fa))(hb:PE X b (fE K fb)):PE X (.BinOp a .Pow b pos) (fE K (ao mM fa fb)):=oO BK D4 ha hb
theorem aK(hK:X.K=K)(ha:PE X a (fE K fa))(hb:PE X b (fE K fb))(hs:pd b):PE X (.Subscript a b pos) (fE K (ao bg fa fb)):=D8 (hK ▸ Fo) Fq ha hb hs
theorem l9{fl fh:FO}(hK:X.K=K)(he:PE X a (fE K fa))(hl:PO X lo (fO K fl))(hh:PO X hi (fO K fh)):PE X (.Subscript a (.Slice lo hi none p2) pos) (fE K (yC fa fl fh)):=by subst hK;exact xU he hl hh
structure nZ (X:Cx) (K:PySem.W.Frag) (op:CmpOp) (g:En→Rv→Rv→Option Rv):Prop where
  ex:∃r,gu X (compareOp op) r∧gq K r g
theorem rX:nZ X K .Lt uL:=⟨_,DO,Ft⟩
theorem uC:nZ X K .Gt tQ:=⟨_,DN,Fg⟩
theorem AZ:nZ X K .GtE Bc:=⟨_,DM,Ff⟩
theorem n5{k:Nat}(hK:X.K=K)(hr:cQ k X.A):nZ X K .Eq (cg false):=⟨_,hK ▸ BC hr,Ax⟩
theorem rY{k:Nat}(hK:X.K=K)(hr:cQ k X.A):nZ X K .NotEq (cg true):=⟨_,hK ▸ BJ hr,Ax⟩
theorem De:nZ X K .Is Dm:=⟨_,BF,Fn⟩
theorem yJ:nZ X K .IsNot pJ:=⟨_,vd,yX⟩
theorem iM{op:CmpOp}{g:En→Rv→Rv→Option Rv}(h:nZ X K op g)(ha:PE X a (fE K fa))(hb:PE X b (fE K fb))(hm:behindInMarks op b=false):PE X (.Compare a [op] [b] pos) (fE K (ao g fa fb)):=by
  obtain⟨r,h1,h2⟩:=h.ex;exact B_ h1 h2 ha hb hm
theorem bj{op:CmpOp}{g:En→Rv→Rv→Option Rv}(h:nZ X K op g)(ha:PE X a (fE K fa))(hb:PE X b (fE K fb))(hm:behindInMarks op b=false):PT X (.Compare a [op] [b] pos) (fT K (aL (ao g fa fb))):=by
  obtain⟨r,h1,h2⟩:=h.ex;exact Ca h1 h2 ha hb hm
structure mj (X:Cx) (K:PySem.W.Frag) (x:Str) (g:En→List Rv→Option Rv):Prop where
  ex:(∃id r,ed X (.builtin id) r∧dN K r g∧bootBuiltins x=some (.builtin id))∨∃T r,ed X (.type T) r∧dN K r g∧bootBuiltins x=some (.type T)
theorem bC{x:Str}{g:En→List Rv→Option Rv}(h:mj X K x g)(hg:Gl X x)(hm:X.mg x=none)(ha:PA X (a::es) (fA K fs))(hn:x≠"__name__")(hdb:(x==("__debug__":Str))=false)
    (he:starEach (a::es) X.env=(false,eval a X.env)::starEach es X.env)(hpl:(backTo pos (starEach es X.env)).any (·.1)=false):PE X (.Call (.Name x p) (a::es) [] pos) (fE K (aZ g fs)):=by
  rcases h.ex with ⟨id,r,h1,h2,h3⟩ | ⟨T,r,h1,h2,h3⟩
  · exact xQ h1 h2 hg hm h3 ha hn hdb he hpl
  · exact vi h1 h2 hg hm h3 ha hn hdb he hpl
theorem b_len(hK:X.K=K):mj X K "len" (g1 ff):=⟨.inl ⟨_,_,hK ▸ pq,Dz,PySem.boot_len⟩⟩
theorem b_abs:mj X K "abs" (g1 r9):=⟨.inl ⟨_,_,vO,C8,PyProof.Rows.boot_abs⟩⟩
theorem b_min(hc:X.calm=true):mj X K "min" (g2 wC):=⟨.inl ⟨_,_,uF hc,DE,PyProof.Rows.boot_min⟩⟩
theorem b_max(hc:X.calm=true):mj X K "max" (g2 uM):=⟨.inl ⟨_,_,uE hc,DC,PyProof.Rows.boot_max⟩⟩
theorem b_int:mj X K "int" (g1 uI):=⟨.inr ⟨_,_,uD,Dr,PyProof.Rows.boot_int⟩⟩
theorem b_tuple(hK:X.K=K):mj X K "tuple" (g1 ey):=⟨.inr ⟨_,_,hK ▸ n6,Af,PyProof.Rows.boot_tuple⟩⟩
theorem b_list(hK:X.K=K):mj X K "list" (g1 oG):=⟨.inr ⟨_,_,hK ▸ pv,Bm,PyProof.Rows.boot_list⟩⟩
theorem b_all{k:Nat}(hK:X.K=K)(hr:cQ k X.A):mj X K "all" (g1 (ij qt)):=⟨.inl ⟨_,_,vP hr hK,C_,vK⟩⟩
theorem b_any{k:Nat}(hK:X.K=K)(hr:cQ k X.A):mj X K "any" (g1 (ij qu)):=⟨.inl ⟨_,_,vQ hr hK,C',vL⟩⟩
theorem b_repr{k:Nat}(hK:X.K=K)(hr:cQ k X.A):mj X K "repr" (g1 lF):=⟨.inl ⟨_,_,hK ▸ rZ hr,Ci,PyProof.Rows.boot_repr⟩⟩
abbrev fY:FT:=fun e=>some (true,e)
theorem vB.mono{ifs:List Expr}{t t':TT}(h:vB X ifs t)(m:∀σ H Q,t' σ H Q→t σ H Q):vB X ifs t':=fun pins s σ H Q I q=>h pins s σ H Q I (m σ H Q q)
theorem kd:vB X [] (fT K fY):=zS.mono fun σ H Q h=>by
  obtain⟨F,e,b,e',R,hf,q⟩:=h
  cases hf
  exact q F H (dJ.refl _ _ _ _) R
theorem t9{c:Expr}{ft:FT}(h:PT X c (fT K ft)):vB X [c] (fT K ft):=zT h
theorem nv{elt iter tg:Expr}{ifs:List Expr}{scope:Scope}{fi:FI}{g:FG}{ft:FT}{fe:FE}{W:List Nat}(sc0:Scope)(N0:List Str)(cp:List (Nat × Str))(tgN:List Str)
    (hc:X.calm=true)(hsc:X.env.scope=sc0)(hN0:X.N=N0)(hi:PI X tg iter (fI K fi))
    (hg:∀C s0 H0 fp,PG (aV X scope cp tgN C s0 H0 fp) tg (fG K g W))
    (ht:∀C s0 H0 fp,vB (aV X scope cp tgN C s0 H0 fp) ifs (fT K ft))
    (he:∀C s0 H0 fp,PE (aV X scope cp tgN C s0 H0 fp) elt (fE K fe))
    (hk:scope.kind=.function)(hcell:∀y∈scope.names,y.2≠.cell)(hnames:∀y∈scope.names,y.2=.local→scope.names.lookup y.1=some .local)
    (hfr:∀y∈scope.names,y.2=.free→scope.names.lookup y.1=some .free∧sc0.names.lookup y.1=some .cell)
    (hcp:∀p∈cp,N0[p.1]?=some p.2)(hcq:∀p∈cp,sc0.names.lookup p.2=some .cell∧scope.names.lookup p.2=some .free)(hnd:(cp.map (·.1)).Nodup)(hW:∀j∈W,cp.length≤j)
    (hs:∀x,foldedSetIterable iter X.env x=pure x):
    PE X (.ListComp elt [⟨tg,iter,ifs,0⟩] scope pos) (fE K (eu cp tgN.length fi g ft fe)):=(zA sc0 N0 cp tgN hc hsc hN0 hi hg ht he hk hcell hnames hfr hcp hcq hs).mono fun _ _ _ h=>rF hnd hW h
theorem oM{ix:Nat}{nm:Str}{posn poss:Pos}{elt iter tg:Expr}{ifs:List Expr}{scope:Scope}{fi:FI}{g:FG}{ft:FT}{fe:FE}{W:List Nat}(sc0:Scope)(N0:List Str)(cp:List (Nat × Str))(tgN:List Str)
    (hc:X.calm=true)(hsc:X.env.scope=sc0)(hN0:X.N=N0)(hi:PI X tg iter (fI K fi))
    (hg:∀C s0 H0 fp,PG (aV X scope cp tgN C s0 H0 fp) tg (fG K g W))
    (ht:∀C s0 H0 fp,vB (aV X scope cp tgN C s0 H0 fp) ifs (fT K ft))
    (he:∀C s0 H0 fp,PE (aV X scope cp tgN C s0 H0 fp) elt (fE K fe))
    (hk:scope.kind=.function)(hcell:∀y∈scope.names,y.2≠.cell)(hnames:∀y∈scope.names,y.2=.local→scope.names.lookup y.1=some .local)
    (hfr:∀y∈scope.names,y.2=.free→scope.names.lookup y.1=some .free∧sc0.names.lookup y.1=some .cell)
    (hcp:∀p∈cp,N0[p.1]?=some p.2)(hcq:∀p∈cp,sc0.names.lookup p.2=some .cell∧scope.names.lookup p.2=some .free)(hnd:(cp.map (·.1)).Nodup)(hW:∀j∈W,cp.length≤j)
    (hNd:X.N.Nodup)(hix:X.N[ix]?=some nm)(hlc:X.env.scope.names.lookup nm=some .local)(hsw:swapsWith (.ListComp elt [⟨tg,iter,ifs,0⟩] scope pos) (some (.Name nm posn)) poss.line X.env=pure true)
    (hs:∀x,foldedSetIterable iter X.env x=pure x):
    PS X (.Assign [.Name nm posn] (.ListComp elt [⟨tg,iter,ifs,0⟩] scope pos) poss) (fS K (a7 ix (eu cp tgN.length fi g ft fe)) [ix]):=(sO sc0 N0 cp tgN hc hsc hN0 hi hg ht he hk hcell hnames hfr hcp hcq hNd hix hlc hsw hs).mono fun D σ H h=>by
  obtain⟨F,e,fl,R,hf,q⟩:=h
  unfold a7 at hf
  obtain⟨⟨r,e1⟩,h1,hf⟩:=Option.bind_eq_some_iff.mp hf
  obtain⟨e2,h2,hf⟩:=Option.map_eq_some_iff.mp hf
  cases hf
  refine rF hnd hW ⟨F,e,r,e1,R,h1,fun F1 H1 v X1 R1 A1=>?_⟩
  obtain⟨x,R2⟩:=xO R X1 R1 A1 h2
  exact q F1 H1 _ x R2
variable{o:Expr}{fo:FE}{apos cpos:Pos}
theorem iL(hK:X.K=K)(ho:PE X o (fE K fo))(ha:PA X (a::es) (fA K fs))(hbase:attributeBase o "append" X.env (eval o X.env)=eval o X.env)
    (hfew:((backTo cpos (starEach (a::es) X.env)).all (fun x=> !x.1)&&(backToKw cpos (keywordEach [] X.env)).all (fun x=>x.1.isSome)
      &&decide ((a::es).length+([]:List Keyword).length+(if ([]:List Keyword).isEmpty then 0 else 1) < 30))=true)
    (hline:(apos.endLine==cpos.line)=true)(hs:starEach (a::es) X.env=(false,eval a X.env)::starEach es X.env)(hplain:(backTo cpos (starEach es X.env)).any (·.1)=false):
    PE X (.Call (.Attribute o "append" apos) (a::es) [] cpos) (fE K (fZ dy fo fs)):=by
  subst hK;exact AF PySem.F.slot_list_append PySem.F.type_list_append k8 vD ho ha hbase hfew hline hs hplain
theorem zV(hK:X.K=K)(ho:PE X o (fE K fo))(ha:PA X (a::es) (fA K fs))(hbase:attributeBase o "pop" X.env (eval o X.env)=eval o X.env)
    (hfew:((backTo cpos (starEach (a::es) X.env)).all (fun x=> !x.1)&&(backToKw cpos (keywordEach [] X.env)).all (fun x=>x.1.isSome)
      &&decide ((a::es).length+([]:List Keyword).length+(if ([]:List Keyword).isEmpty then 0 else 1) < 30))=true)
    (hline:(apos.endLine==cpos.line)=true)(hs:starEach (a::es) X.env=(false,eval a X.env)::starEach es X.env)(hplain:(backTo cpos (starEach es X.env)).any (·.1)=false):
    PE X (.Call (.Attribute o "pop" apos) (a::es) [] cpos) (fE K (fZ jC fo fs)):=by
  subst hK;exact AF PySem.F.slot_list_pop PySem.F.type_list_pop wV zL ho ha hbase hfew hline hs hplain
end
end L2
namespace L2
open PySem PySem.Spec PyProof.Rows
theorem sS{K:PySem.W.Frag}{H:Hp}{a:Addr}{ns:List Int}{m:FM}{as':List Sv}{Q:VK}{E:XK}(hS:eI K H a (ns.map V.int))(hm:m [.d (.list (ns.map .int))]=some (.d (.bool true),as'))(q:∀H',Q (.bl true) H'):bD K 1 m [.ref a] H Q E:=by
  refine⟨rfl,H,[.d (.list (ns.map .int))],_,as',?_,?_,hm,trivial,fun F' H' v X' R' A'=>?_⟩
  · refine⟨aA.refl _,rfl,fun i x h=>?_,fun i xs h=>?_,fun i xss h=>?_,fun i j l f1 _=>?_⟩
    · match i,h with
      | 0,h=>
        simp at h;subst h
        exact⟨.ref a,rfl,dS.mpr ⟨a,_,rfl,hS,aJ.ints.mpr rfl⟩⟩
      | i+1,h=>simp at h
    · match i,h with
      | 0,h=>simp at h
      | i+1,h=>simp at h
    · match i,h with
      | 0,h=>simp at h
      | i+1,h=>simp at h
    · rcases f1 with ⟨_,h,_⟩ | ⟨_,_,_,h,_⟩
      · match i,h with
        | 0,h=>simp at h
        | i+1,h=>simp at h
      · match i,h with
        | 0,h=>simp at h
        | i+1,h=>simp at h
  · intro i xss h
    match i,h with
    | 0,h=>simp at h
    | i+1,h=>simp at h
  · rw [c_.mp (show DA K F' (.bool true) v from A')];exact q H'
end L2
namespace L2
open PySem PySem.Spec PyProof.Rows
section
variable{K:PySem.W.Frag}{σ:L2.St}{H0 F H F' H':Hp}{e e':En}
end
section
variable{X:Cx}{K:PySem.W.Frag}{a b:Expr}{es:List Expr}{fa fb:FE}{fs:FA}{pos p p2 p3 pos':Pos}{x:Str}{i:Nat}
def nC(k:Int):En→Option Int:=fun _=>some k
end
end L2
namespace L2
open PySem PySem.Spec PyProof.Rows
theorem kS{C:Int→Int→Bool}{f:Int→Int→PyData}{e:En}{i j:Int}(h:C i j=true):gI C f e (.d (.int i)) (.d (.int j))=some (.d (f i j)):=by simp [gI,cn,h]
theorem mH{e:En}{i j:Int}:bE e (.d (.int i)) (.d (.int j))=some (.d (.int (i+j))):=rfl
theorem jA{e:En}{i j:Int}:gf e (.d (.int i)) (.d (.int j))=some (.d (.int (i - j))):=rfl
theorem aW{e:En}{i j:Int}(h:jE i j=true):be e (.d (.int i)) (.d (.int j))=some (.d (.int (i*j))):=by
  unfold be uP qz;rw [kS h];rfl
theorem pT{i j:Int}(h1: -(2 ^ 64) < i)(h2:i < 2 ^ 64):jE i j=true:=by
  have:hX i=true:=by unfold hX;rw [decide_eq_true h1,decide_eq_true h2];rfl
  unfold jE;rw [this];simp
theorem k9{i j:Int}(h1: -(2 ^ 64) < j)(h2:j < 2 ^ 64):jE i j=true:=by
  have:hX j=true:=by unfold hX;rw [decide_eq_true h1,decide_eq_true h2];rfl
  unfold jE;rw [this];simp
theorem cW{i j:Int}(h1:Bt 4000 i)(h2:Bt 4000 j):jE i j=true:=by unfold jE;rw [gW.mpr h1,gW.mpr h2];simp
theorem aH{e:En}{i j:Int}(h:0 < j):aT e (.d (.int i)) (.d (.int j))=some (.d (.int (i % j))):=by
  unfold aT;rw [kS (by simp;lia)]
  rw [Int.fmod_eq_emod_of_nonneg i (by lia)]
theorem cS{e:En}{i j:Int}(h:0 < j)(h2:Bt 8000 j):cI e (.d (.int i)) (.d (.int j))=some (.d (.int (i / j))):=by
  unfold cI;rw [kS (by simp [gW.mpr h2];lia)]
  rw [Int.fdiv_eq_ediv_of_nonneg i (by lia)]
theorem eM{e:En}{i j:Int}{neg:Bool}:cg neg e (.d (.int i)) (.d (.int j))=some (.d (.bool (if neg then !(i==j) else i==j))):=by
  unfold cg;simp [ii,SeqAt.shaped,PyData.canLay0,PyData.depth,PyData.eqv]
theorem jY{e:En}{i j:Int}:uL e (.d (.int i)) (.d (.int j))=some (.d (.bool (decide (i < j)))):=rfl
theorem pK{e:En}{i j:Int}:Gs e (.d (.int i)) (.d (.int j))=some (.d (.bool (decide (i≤j)))):=rfl
theorem du{e:En}{i j:Int}:tQ e (.d (.int i)) (.d (.int j))=some (.d (.bool (decide (j < i)))):=rfl
theorem pH{e:En}{i j:Int}:Bc e (.d (.int i)) (.d (.int j))=some (.d (.bool (decide (j≤i)))):=rfl
theorem mK{e:En}{i j:Int}:g2 wC e [.d (.int i),.d (.int j)]=some (.d (.int (min i j))):=by
  show some (Rv.d (.int (if j < i then j else i)))=_
  congr 3
  split<;>lia
theorem mJ{e:En}{i j:Int}:g2 uM e [.d (.int i),.d (.int j)]=some (.d (.int (max i j))):=by
  show some (Rv.d (.int (if j > i then j else i)))=_
  congr 3
  split<;>lia
theorem mL{e:En}{i:Int}:uO e (.d (.int i))=some (.d (.int (-i))):=rfl
theorem kU{e:En}{b:Bool}:g1 uI e [.d (.bool b)]=some (.d (.int (if b then 1 else 0))):=rfl
theorem mG{e:En}{i:Int}:g1 r9 e [.d (.int i)]=some (.d (.int i.natAbs)):=by
  show some (Rv.d (.int (if i < 0 then -i else i)))=_
  congr 3
  split<;>lia
theorem gX{j:Int}(h1:0 < j)(h2:j < 2 ^ 64):Bt 8000 j:=Bt.mono (m:=64) (by unfold Bt;lia) (by decide)
theorem iB{α:Type}{xs:List α}{i:Int}(h0:0≤i)(h:i < xs.length):atI xs i=xs[i.toNat]?:=by
  unfold atI uU
  rw [if_pos h0,if_pos h];rfl
theorem ww{e:En}{i:Nat}{xs:List PyData}{neg:Bool}(h:e[i]?=some (some (.l xs)))(hs:SeqAt.shaped (.list xs)=true):cg neg e (.s i) (.l [])=some (.d (.bool (if neg then !xs.isEmpty else xs.isEmpty))):=by
  unfold cg
  simp only [ii,h,Option.bind_some,hs]
  have h0:SeqAt.shaped (.list [])=true:=by simp [SeqAt.shaped,PyData.canLay0,PyData.canLayAll0,PyData.depth,PyData.depthAll]
  rw [h0]
  cases xs<;>simp [PyData.eqv,PyData.eqvAll]
theorem rm(ns:List Int):SeqAt.shaped (.list (ns.map .int))=true∧SeqAt.shaped (.tuple (ns.map .int))=true:=by
  have h1:PyData.canLayAll0 (ns.map PyData.int)=true:=by
    induction ns with
    | nil=>rfl
    | cons n r ih=>simp [PyData.canLayAll0,PyData.canLay0,ih]
  have h2:PyData.depthAll (ns.map PyData.int)=0:=by
    clear h1
    induction ns with
    | nil=>rfl
    | cons n r ih=>simp [PyData.depthAll,PyData.depth,ih]
  constructor<;>simp [SeqAt.shaped,PyData.canLay0,PyData.depth,h1,h2]
theorem ee{own:ir}{g:FG}{f:FS}(P:Nat→En→Prop):∀(items:List PyData) (k:Nat) (e:En),(∀i x e,items[i]?=some x→P (k+i) e→∃e1 e2,g x e=some e1∧f e1=some (.nx e2)∧keeps own e2∧P (k+i+1) e2)→P k e→∃e',iw own g f items e=some (.nx e')∧P (k+items.length) e'
  | [],k,e,_,h=>⟨e,rfl,h⟩
  | x::r,k,e,hs,h=>by
    obtain⟨e1,e2,h1,h2,h3,h4⟩:=hs 0 x e rfl h
    obtain⟨e',h5,h6⟩:=ee P r (k+1) e2 (fun i y e hy hp=>by
      have:=hs (i+1) y e (by simpa using hy) (by rw [show k+(i+1)=k+1+i by lia];exact hp)
      rw [show k+(i+1)+1=k+1+i+1 by lia] at this
      exact this) h4
    refine⟨e',?_,by rw [List.length_cons,show k+(r.length+1)=k+1+r.length by lia];exact h6⟩
    unfold iw
    simp only [h1,h2,Option.bind_some,if_pos h3]
    exact h5
theorem cz{e:En}:keeps [] e:=fun _ h=>by cases h
theorem d_{W:List Nat}{fi:FI}{g:FG}{f:FS}{e e1:En}{items:List PyData}(h:fi e=some (items,[],e1)):eC W fi g f e=iw [] g f items e1:=by
  unfold eC;rw [h];rfl
theorem dk{lo:Int}{n i:Nat}{x:PyData}(h:(ba lo n)[i]?=some x):x=.int (lo+i)∧i < n:=by
  unfold ba at h
  rw [List.getElem?_map] at h
  obtain⟨k,h1,rfl⟩:=Option.map_eq_some_iff.mp h
  obtain⟨h2,h3⟩:=List.getElem?_eq_some_iff.mp h1
  simp at h2 h3
  subst h3
  exact⟨rfl,h2⟩
theorem ck{lo:Int}{n:Nat}:(ba lo n).length=n:=by simp [ba]
theorem dj{fs:FA}{e e1:En}{n:Int}(h:fs e=some ([.d (.int n)],e1))(h1: -1000000≤n)(h2:n≤1000000):cD fs e=some (ba 0 n.toNat,[],e1):=by
  unfold cD;rw [h]
  have:x_ n=true:=by unfold x_;rw [decide_eq_true h1,decide_eq_true h2];rfl
  simp [cn,this]
theorem jM{ft:FT}{f:FS}(P:En→Prop)(μ:En→Nat)(hs:∀e,P e→(∃e1,ft e=some (false,e1)∧True)∨∃e1 e2,ft e=some (true,e1)∧f e1=some (.nx e2)∧P e2∧μ e2 < μ e):
    ∀(n:Nat) (e:En),P e→μ e < n→∃e0 e',h_ ft f n e=some (.nx e')∧P e0∧ft e0=some (false,e'):=by
  intro n
  induction n with
  | zero=>intro e _ h;lia
  | succ n ih=>
    intro e hp hm
    rcases hs e hp with ⟨e1,h1,_⟩ | ⟨e1,e2,h1,h2,h3,h4⟩
    · exact⟨e,e1,by unfold h_;rw [h1];rfl,hp,h1⟩
    · obtain⟨e0,e',g1,g2⟩:=ih e2 h3 (by lia)
      exact⟨e0,e',by unfold h_;rw [h1];simp only [Option.bind_some,if_true,h2];exact g1,g2⟩
theorem gC{cs:En}{ft:FT}{fe:FE}{b:PyData→Bool}{y:PyData→PyData}:∀(items:List PyData) (t:Option Sv) (acc:List PyData),(∀x∈items,ft (cs++[some (.d x)])=some (b x,cs++[some (.d x)]))→(∀x∈items,b x=true→fe (cs++[some (.d x)])=some (.d (y x),cs++[some (.d x)]))→
    acc.length+items.length≤1000000→∃t',eD (ah cs.length) ft fe items (cs++[t]) acc=some (acc++(items.filter b).map y,cs++[t'])
  | [],t,acc,_,_,_=>⟨t,by simp [eD]⟩
  | x::r,t,acc,h1,h2,hl=>by
    have hg:ah cs.length x (cs++[t])=some (cs++[some (.d x)]):=by simp [ah]
    have h1x:=h1 x (by simp)
    unfold eD
    rw [hg]
    simp only [Option.bind_some,h1x]
    cases hb:b x with
    | true=>
      simp only [if_true,h2 x (by simp) hb,Option.bind_some,pB]
      rw [if_pos (by simp at hl;lia)]
      obtain⟨t',ih⟩:=gC (b:=b) (y:=y) r (some (.d x)) (acc++[y x]) (fun z hz=>h1 z (by simp [hz])) (fun z hz=>h2 z (by simp [hz])) (by simp at hl ⊢;lia)
      exact⟨t',by rw [ih];simp [hb]⟩
    | false=>
      simp only [Bool.false_eq_true,if_false]
      obtain⟨t',ih⟩:=gC (b:=b) (y:=y) r (some (.d x)) acc (fun z hz=>h1 z (by simp [hz])) (fun z hz=>h2 z (by simp [hz])) (by simp at hl;lia)
      exact⟨t',by rw [ih];simp [hb]⟩
theorem wL{fa:FE}{e e1:En}{xs:List PyData}(h:fa e=some (.d (.tuple xs),e1)):jB fa e=some (xs,[],e1):=by
  unfold jB;rw [h];rfl
theorem yT{fa:FE}{e e1:En}{xs:List PyData}(h:fa e=some (.d (.list xs),e1)):jB fa e=some (xs,[],e1):=by
  unfold jB;rw [h];rfl
theorem wM{fa:FE}{e e1:En}{xs:List PyData}(h:fa e=some (.l xs,e1)):jB fa e=some (xs,[],e1):=by
  unfold jB;rw [h];rfl
theorem kG{cp:List (Nat × Str)}{nT:Nat}{fi:FI}{g:FG}{ft:FT}{fe:FE}{e e1 cs:En}{t t':En}{items out:List PyData}(h1:fi e=some (items,[],e1))(hc:rO cp nT e1=cs++t)(hl:cs.length=cp.length)(h3:eD g ft fe items (rO cp nT e1) []=some (out,cs++t')):eu cp nT fi g ft fe e=some (.l out,e1):=by
  have key:∀i x,e1[i]?=some (some (.l x))→∀k,j' cp i=some k→(cs++t')[k]?=some (some (.l x)):=by
    intro i x hi k hk
    obtain⟨s,hs⟩:=gM hk
    have hk2:k < cp.length:=(List.getElem?_eq_some_iff.mp hs).1
    have:(rO cp nT e1)[k]?=some (some (.l x)):=by
      unfold rO
      rw [List.getElem?_append_left (by simpa using hk2),List.getElem?_map,hs]
      simp [hi,DB]
    rw [hc,List.getElem?_append_left (by lia)] at this
    rw [List.getElem?_append_left (by lia)]
    exact this
  unfold eu
  rw [h1]
  simp only [Option.bind_some,List.all_nil,if_true,h3]
  have hb:mv cp (cs++t') e1=true:=by
    unfold mv
    rw [List.all_eq_true]
    intro p hp
    match hi:e1[p.1]? with
    | none=>simp [yw]
    | some none=>simp [yw]
    | some (some (.d x))=>simp [yw]
    | some (some (.n x))=>simp [yw]
    | some (some (.l x))=>
      cases hq:j' cp p.1 with
      | none=>
        unfold j' at hq
        rw [List.findIdx?_eq_none_iff] at hq
        have:=hq p hp
        simp at this
      | some k=>simp [key p.1 x hi k hq,yw]
  rw [if_pos hb]
  congr 2
  refine List.ext_getElem? fun i=>?_
  rw [cv]
  match hi:e1[i]? with
  | none=>rfl
  | some none=>rfl
  | some (some (.d x))=>rfl
  | some (some (.n x))=>rfl
  | some (some (.l x))=>
    cases hp:j' cp i with
    | none=>simp [hp]
    | some k=>simp [hp,key i x hi k hp]
theorem f9{α:Type}{xs:List α}{i:Int}(h0:0≤i)(h1:i < xs.length):∃x∈xs,atI xs i=some x:=by
  rw [iB h0 h1]
  exact⟨xs[i.toNat]'(by lia),List.getElem_mem _,List.getElem?_eq_getElem _⟩
theorem wA{e:En}{xs:List PyData}{i:Int}:bg e (.l xs) (.d (.int i))=(atI xs i).map .d:=rfl
theorem mI{e:En}{xs:List PyData}{i:Int}:bg e (.d (.tuple xs)) (.d (.int i))=(atI xs i).map .d:=rfl
theorem se{e:En}{xs:List PyData}{i:Int}:bg e (.d (.list xs)) (.d (.int i))=(atI xs i).map .d:=rfl
theorem wB{e:En}{j:Nat}{xs:List PyData}{i:Int}(h:e[j]?=some (some (.l xs))):bg e (.s j) (.d (.int i))=(atI xs i).map .d:=by
  simp [bg,dY,h,cn]
theorem sk{e:En}{xs:List PyData}:g1 ff e [.d (.tuple xs)]=some (.d (.int xs.length)):=rfl
theorem pL{e:En}{xs:List PyData}:g1 ff e [.d (.list xs)]=some (.d (.int xs.length)):=rfl
theorem si{e:En}{xs:List PyData}:g1 ff e [.l xs]=some (.d (.int xs.length)):=rfl
theorem sj{e:En}{j:Nat}{xs:List PyData}(h:e[j]?=some (some (.l xs))):g1 ff e [.s j]=some (.d (.int xs.length)):=by
  simp [g1,ff,dY,h]
theorem mO{e:En}{j:Nat}{xs:List PyData}(h:e[j]?=some (some (.l xs))):g1 ey e [.s j]=some (.d (.tuple xs)):=by
  simp [g1,ey,dY,h]
theorem mN{e:En}{xs:List PyData}:g1 ey e [.l xs]=some (.d (.tuple xs)):=rfl
theorem kW{e:En}{xs:List PyData}:g1 ey e [.d (.list xs)]=some (.d (.tuple xs)):=rfl
theorem mP{e:En}{xs:List PyData}:g1 ey e [.d (.tuple xs)]=some (.d (.tuple xs)):=rfl
theorem wG{e:En}{xs:List PyData}{lo hi:Option Int}:Fd e (.d (.tuple xs)) lo hi=some (.d (.tuple (cutD xs lo hi))):=rfl
theorem pG{e:En}{xs ys:List PyData}(h:xs.length+ys.length≤1000000):bE e (.d (.tuple xs)) (.d (.tuple ys))=some (.d (.tuple (xs++ys))):=by
  simp [bE,uP,tO,gI,cn,oF,dY,h]
theorem wD{e:En}{i j:Int}(h:j≠0):aT e (.d (.int i)) (.d (.int j))=some (.d (.int (i.fmod j))):=by
  unfold aT;rw [kS (by simpa using h)]
theorem tP{e:En}{i j:Int}(h:j≠0)(h2:Bt 8000 j):cI e (.d (.int i)) (.d (.int j))=some (.d (.int (i.fdiv j))):=by
  unfold cI;rw [kS (by simp [gW.mpr h2,h])]
theorem gE{e:En}{i j:Int}(h:xG i j=true):mM e (.d (.int i)) (.d (.int j))=some (.d (.int (i ^ j.toNat))):=by
  unfold mM;rw [kS h]
theorem ka:xG 10 18=true:=by decide
theorem bN{f g:FS}{e e1:En}(h:f e=some (.nx e1)):aE f g e=g e1:=by unfold aE;rw [h];rfl
theorem Em{ft:FT}{f g:FS}{e e1:En}(h:ft e=some (true,e1)):iz ft f g e=f e1:=by unfold iz;rw [h];rfl
theorem El{ft:FT}{f g:FS}{e e1:En}(h:ft e=some (false,e1)):iz ft f g e=g e1:=by unfold iz;rw [h];rfl
def AC(i:Nat)(e:En):Nat:=match e[i]? with
  | some (some (.l xs))=>xs.length
  | _=>0
def oJ(i:Nat)(e:En):Nat:=match e[i]? with
  | some (some (.d (.int k)))=>k.natAbs
  | _=>0
theorem pS{n m:Nat}(h:n < 2 ^ m)(hm:m≤4200):n < 2 ^ 4200:=Nat.lt_of_lt_of_le h (Nat.pow_le_pow_right (by decide) hm)
theorem pk{α:Type}{a:α}{r:List α}:atI (a::r) 0=some a:=by
  rw [iB (by decide) (by simp)];rfl
theorem kJ{α:Type}{a b:α}{r:List α}:atI (a::b::r) 1=some b:=by
  rw [iB (by decide) (by simp;lia)];rfl
theorem rS{α:Type}{a b c:α}{r:List α}:atI (a::b::c::r) 2=some c:=by
  rw [iB (by decide) (by simp;lia)];rfl
theorem rT{α:Type}{a b c d:α}{r:List α}:atI (a::b::c::d::r) 3=some d:=by
  rw [iB (by decide) (by simp;lia)];rfl
theorem mr{W:bz}{k:Int}(h:rM W k):atI (W.ties.map bh) k=some (bh (W.tie k)):=by
  rw [iB h.1 (by rw [List.length_map];exact h.2),List.getElem?_map,h.get];rfl
theorem vV{a b c d:PyData}:cutD [a,b,c,d] none (some 2)=[a,b]:=rfl
theorem kQ{a b c d:PyData}:cutD [a,b,c,d] (some 2) none=[c,d]:=rfl
theorem kP{a b c:PyData}:cutD [a,b,c] (some 1) none=[b,c]:=rfl
theorem qm(ns:List Int):PyData.canLayAll0 (ns.map PyData.int)=true:=by
  induction ns with
  | nil=>rfl
  | cons n r ih=>simp [PyData.canLayAll0,PyData.canLay0,ih]
theorem qg{x:Int}:∀(ns:List Int),((ns.map PyData.int).any fun y=>PyData.eqv y (.int x))=ns.contains x
  | []=>rfl
  | n::r=>by
    rw [List.map_cons,List.any_cons,qg r,List.contains_cons]
    show(n==x || _)=_
    rw [show(n==x)=(x==n) by rw [Bool.eq_iff_iff];simp;exact eq_comm]
theorem jW{e:En}{x:Int}{ns:List Int}{neg:Bool}:Fb neg e (.d (.int x)) (.d (.tuple (ns.map .int)))=some (.d (.bool (if neg then !ns.contains x else ns.contains x))):=by
  unfold Fb
  simp only [ii,dY,Option.bind_some,qm,qg]
  simp [PyData.canLay0,PyData.depth]
theorem pI{e:En}{x a b:Int}{neg:Bool}:Fb neg e (.d (.int x)) (.d (.tuple [.int a,.int b]))=some (.d (.bool (if neg then !(a==x || b==x) else(a==x || b==x)))):=by
  have h:=jW (e:=e) (x:=x) (ns:=[a,b]) (neg:=neg)
  simp only [List.map_cons,List.map_nil] at h
  rw [h]
  have:[a,b].contains x=(a==x || b==x):=by
    simp only [List.contains_cons,List.contains_nil,Bool.or_false]
    rw [show(x==a)=(a==x) by rw [Bool.eq_iff_iff];simp;exact eq_comm,show(x==b)=(b==x) by rw [Bool.eq_iff_iff];simp;exact eq_comm]
  rw [this]
theorem jT(W:bz):aO W=.tuple [.int W.things,.tuple (W.ties.map bh),.tuple (W.pat.map .int),.int W.asks]:=rfl
end L2
namespace L2
open PySem PySem.Spec PyProof.Rows
def Sh(n:Nat)(d:PyData):Prop:=d.canLay0=true∧d.depth≤n
theorem Sh.ok{n:Nat}{d:PyData}(h:Sh n d)(l:n≤64):SeqAt.shaped d=true:=by
  unfold SeqAt.shaped;rw [h.1,decide_eq_true (Nat.le_trans h.2 l)];rfl
theorem Sh.int{k:Int}:Sh 2 (.int k):=⟨by simp [PyData.canLay0],by simp [PyData.depth]⟩
theorem Sh.all{n:Nat}:∀{ds:List PyData},(∀d∈ds,Sh n d)→PyData.canLayAll0 ds=true∧PyData.depthAll ds≤n
  | [],_=>⟨rfl,by simp [PyData.depthAll]⟩
  | d::r,h=>by
    obtain⟨a1,a2⟩:=h d (by simp)
    obtain⟨b1,b2⟩:=Sh.all (ds:=r) fun x hx=>h x (by simp [hx])
    exact⟨by simp [PyData.canLayAll0,a1,b1],by simp only [PyData.depthAll];lia⟩
theorem Sh.tup{n:Nat}{ds:List PyData}(h:∀d∈ds,Sh n d):Sh (n+2) (.tuple ds):=by
  obtain⟨b1,b2⟩:=Sh.all h
  exact⟨by simp [PyData.canLay0,b1],by simp only [PyData.depth];lia⟩
theorem Sh.ints{ns:List Int}:Sh 4 (.tuple (ns.map .int)):=Sh.tup (n:=2) fun d hd=>by
  obtain⟨k,_,rfl⟩:=List.mem_map.mp hd
  exact Sh.int
abbrev Std:=List Int × List Int
structure C4 (W:bz) (s:Std):Prop where
  inw:∀k∈s.1,rM W k
  nd:s.1.Nodup
  tk:s.2.length≤2*s.1.length
  th:∀t∈s.2,0≤t∧t < W.things
def nxt(W:bz)(s:Std)(k:Int)(b:Bool):Std:=(bz.askd s.1 k,W.took s.2 k b)
structure Nd where
  tie:Int
  yes:Int
  no:Int
def C0(W:bz)(n:Nat)(S:Nat→Std)(i:Nat)(k:Int)(b:Bool)(l:Int):Prop:=l= -1∨(0≤l∧l < (n:Int)∧S l.toNat=nxt W (S i) k b)
structure E5 (W:bz) (n:Nat) (S:Nat→Std) (i:Nat) (x:Nd):Prop where
  tie:rM W x.tie
  st:C4 W (S i)
  may:W.may (S i).1 (S i).2 x.tie=true
  yes:C0 W n S i x.tie true x.yes
  no:C0 W n S i x.tie false x.no
def E6(W:bz)(T:List Nd)(S:Nat→Std):Prop:=∀(i:Nat) (x:Nd),T[i]?=some x→E5 W T.length S i x
structure Wt where
  st:Std
  par:Int
  side:Int
def rC(S:Nat→Std)(n:Nat)(s:Std):Nat→Std:=fun i=>if i=n then s else S i
structure Gh (W:bz) (T:List Nd) (S:Nat→Std) (ws:List Wt):Prop where
  tr:E6 W T S
  wt:∀w∈ws,C4 W w.st∧(w.par= -1∨∃(p:Nat) (x:Nd),w.par=(p:Int)∧T[p]?=some x∧((w.side=0∧w.st=L2.nxt W (S p) x.tie true)∨(w.side=1∧w.st=L2.nxt W (S p) x.tie false)))
  side:∀w∈ws,w.side=0∨w.side=1
end L2
namespace L2
open PySem PySem.Spec PyProof.Rows
theorem oC{α:Type}(x:α):∀n,(List.replicate n [x]).flatten=List.replicate n x
  | 0=>rfl
  | n+1=>by rw [List.replicate_succ,List.flatten_cons,oC x n];rfl
theorem Dn{e:En}{x:PyData}{n:Int}(h0:0≤n)(h1:n≤100000):be e (.l [x]) (.d (.int n))=some (.l (List.replicate n.toNat x)):=by
  have a:qA e (.l [x]) (.d (.int n))=some (.l (List.replicate n.toNat [x]).flatten):=by
    simp [qA,qF,cn]
    lia
  have b:qz e (.l [x]) (.d (.int n))=none:=by simp [qz,gI,cn]
  have c:qB e (.l [x]) (.d (.int n))=none:=by simp [qB,dY,cn]
  unfold be uP
  rw [b,c,a,oC]
  rfl
def nm(nums:List Int)(l:Int):Int:=(atI nums l).getD (-1)
structure FX (order:List Int) (n:Nat) (nums:List Int):Prop where
  len:nums.length=n+1
  top:nums[n]?=some (-1)
  at':∀(j:Nat) (v:Int),j < n→nums[j]?=some v→v= -1∨∃p:Nat,v=(p:Int)∧order[p]?=some (j:Int)
def wW(T:List Nd)(w:Int):Nd:=T.getD w.toNat ⟨0,0,0⟩
end L2
namespace L2
open PySem PySem.Spec PyProof.Rows
structure Gq (S:Nat→Std) (n:Nat) (ss:List Std):Prop where
  len:ss.length=n
  at':∀(j:Nat) (s:Std),ss[j]?=some s→s.1.length≤(S j).1.length∧s.2.length≤2*s.1.length∧(∀k∈s.1,0≤k∧k < 16)∧∀t∈s.2,0≤t∧t < 12
end L2
namespace L2
open PySem PySem.Spec PyProof.Rows
theorem bM(s:String):PyData.strOk (Str.ofString s)=true:=by
  rw [Str.ofString_eq_toList]
  unfold PyData.strOk
  simp only [List.size_toArray,List.length_map]
  rw [show(List.map Char.toNat s.toList).toArray.all (fun a=>decide (a < 1114112)) 0 s.toList.length=(List.map Char.toNat s.toList).all (fun a=>decide (a < 1114112)) by simp]
  rw [List.all_map,List.all_eq_true]
  intro c _
  show decide (c.toNat < 1114112)=true
  rw [decide_eq_true_eq]
  have:=c.valid
  unfold UInt32.isValidChar Nat.isValidChar at this
  show c.val.toNat < _
  lia
theorem dZ{a b:Str}(h1:PyData.strOk a=true)(h2:PyData.strOk b=true):PyData.strOk (a++b)=true:=by
  unfold PyData.strOk at*
  rw [show(a++b).cps=a.cps++b.cps from rfl]
  simp only [Array.all_append,h1,h2,Bool.and_self]
theorem nQ{sep:Str}(h:PyData.strOk sep=true):∀(ts:List Str),(∀t∈ts,PyData.strOk t=true)→PyData.strOk (Str.join sep ts)=true
  | [],_=>by show PyData.strOk Str.empty=true;simp [PyData.strOk,Str.empty]
  | [x],hx=>hx x (by simp)
  | x::y::r,hx=>dZ (dZ (hx x (by simp)) h) (nQ h (y::r) fun t ht=>hx t (by simp at ht ⊢;exact .inr ht))
theorem oY{ts:List Str}(h:∀t∈ts,PyData.strOk t=true):PyData.strOk (tupleText ts)=true:=by
  unfold tupleText
  exact dZ (dZ (bM _) (nQ (bM _) ts h)) (bM _)
structure Sz (n dep:Nat) (d:PyData):Prop where
  fl:gD d=true
  sh:d.showable=true
  dp:d.depth≤dep
  ln:d.shown.length≤n
  so:PyData.strOk d.shown=true
theorem yS{e:En}{d:PyData}(h:ku d=true):g1 lF e [.d d]=some (.d (.str d.shown)):=by
  simp [g1,lF,h]
end L2
namespace L2
open PySem PySem.Spec PyProof.Rows
theorem pF{e:En}{i:Nat}{xs ys:List PyData}(h:e[i]?=some (some (.l xs)))(hl:xs.length+ys.length≤1000000):bE e (.s i) (.l ys)=some (.l (xs++ys)):=by
  simp [bE,uP,tO,gI,cn,oF,dY,qy,qF,h,hl]
theorem yR{e:En}{xs ys:List PyData}(hl:xs.length+ys.length≤1000000):bE e (.l xs) (.l ys)=some (.l (xs++ys)):=by
  simp [bE,uP,tO,gI,cn,oF,dY,qy,qF,hl]
def rn(T:List Nd)(ans:List Bool):Nat→Int→List (Int × Bool)
  | 0,_=>[]
  | f+1,at'=>if at' < 0 then [] else((wW T at').tie,ans.getD (wW T at').tie.toNat false)::rn T ans f (if ans.getD (wW T at').tie.toNat false=true then(wW T at').yes else(wW T at').no)
def rt(T:List Nd):Int:=if T.length=0 then -1 else 0
structure F7 (W:bz) (T:List Nd) (S:Nat→Std) (ans:List Bool) (r:List (Int × Bool)) (a:Int):Prop where
  at':a= -1∨(0≤a∧a < (T.length:Int)∧r.length≤(S a.toNat).1.length)
  eq:r++rn T ans (17 - r.length) a=rn T ans 17 (rt T)
  len:r.length≤16
  inw:∀p∈r,rM W p.1
theorem Sz.bool{b:Bool}:Sz 5 2 (.bool b):=by
  cases b
  · exact⟨rfl,rfl,by simp [PyData.depth],by show(Str.ofString "False").length≤5;decide,bM _⟩
  · exact⟨rfl,rfl,by simp [PyData.depth],by show(Str.ofString "True").length≤5;decide,bM _⟩
end L2
namespace L2
open PySem PySem.Spec PyProof.Rows
abbrev Fr:=Int × Int
def dF(f:Fr):PyData:=.tuple [.int f.1,.int f.2]
def tm(a b:Fr):Fr:=lowM (a.1*b.1) (a.2*b.2)
def pl(a b:Fr):Fr:=lowM (a.1*b.2+b.1*a.2) (a.2*b.2)
structure Gm (M:Int) (f:Fr):Prop where
  pos:0 < f.2
  lo:0≤f.1
  hi:f.1≤f.2
  dv:f.2 ∣ M
structure EO (M i:Int) (f:Fr):Prop where
  pos:0 < f.2
  lo:0≤f.1
  hi:f.1≤i*f.2
  dv:f.2 ∣ M
def bp(W:bz):List Int→Int
  | []=>1
  | k::r=>(W.tie k).bot*bp W r
def Dc(W:bz):Int:=bp W W.rng
def ch(W:bz)(k:Int)(b:Bool):Fr:=if b then((W.tie k).top,(W.tie k).bot) else((W.tie k).bot - (W.tie k).top,(W.tie k).bot)
structure Gp (W:bz) (S:Nat→Std) (n:Nat) (rs:List Fr):Prop where
  len:rs.length=n
  at':∀(j:Nat) (f:Fr),rs[j]?=some f→Gm (bp W (S j).1) f
theorem AW{rs:List Fr}{i:Nat}{z:Fr}(h:i < rs.length):atI (rs.map dF) (i:Int)=some (dF (rs.getD i z)):=by
  rw [iB (by lia) (by rw [List.length_map];lia),List.getElem?_map]
  simp [h,dF]
theorem eK{rs:List Fr}{k:Int}{z:Fr}(h0:0≤k)(h:k < (rs.length:Int)):atI (rs.map dF) k=some (dF (rs.getD k.toNat z)):=by
  have:=AW (rs:=rs) (i:=k.toNat) (z:=z) (by lia)
  rw [show((k.toNat:Nat):Int)=k by lia] at this
  exact this
structure Gi (W:bz) (i:Nat) (ss:List Fr):Prop where
  len:ss.length=W.ties.length
  at':∀(j:Nat) (f:Fr),ss[j]?=some f→EO (Dc W) (i:Int) f
theorem Sz.intB{n:Nat}{k:Int}(h:Bt n k)(h0:0 < n)(hn:n≤1900):Sz (n+1) 2 (.int k):=by
  have l:=h.log h0
  refine⟨rfl,?_,by simp [PyData.depth],?_,bM _⟩
  · show decide (k.natAbs.log2 < 1920)=true
    rw [decide_eq_true_eq];lia
  · have:=int_text_length_le h0 l
    show(Str.ofString (toString k)).length≤n+1
    rw [PySem.ofString_length];exact this
def EK(l:Int)(f:Fr):PyData:=.tuple [.int l,dF f]
def ways(W:bz)(x:Nd):List PyData:=(if x.yes= -1 then [] else [EK x.yes (ch W x.tie true)])++(if x.no= -1 then [] else [EK x.no (ch W x.tie false)])
end L2
namespace L2
open PySem PySem.Spec PyProof.Rows
def CO(sc:Scope)(x:Str):Bool:=match sc.names.lookup x with
  | some .local=>true
  | some .cell=>true
  | some .free=>true
  | _=>false
theorem Al{sc:Scope}{x:Str}(h:CO sc x=true):C7 sc x:=by
  unfold CO at h
  unfold C7
  split at h
  · rename_i e;exact .inl e
  · rename_i e;exact .inr (.inl e)
  · rename_i e;exact .inr (.inr e)
  · cases h
section
variable{X:Cx}{K:PySem.W.Frag}
theorem qw(i:Nat){x:Str}{pos:Pos}(hN:X.N[i]?=some x)(hv:CO X.env.scope x=true)(hd:((x==("__debug__":Str)) || (x==("__classdict__":Str)))=false):PE X (.Name x pos) (fE K (ae i)):=qv i hN (Al hv) (Bool.or_eq_false_iff.mp hd).1 (Bool.or_eq_false_iff.mp hd).2
end
end L2
namespace L2
open PySem PySem.Spec PyProof.Rows
section
variable{X:Cx}{tg a b c:Expr}{ta:TA}{p pos p2 pos2:Pos}
end
section
variable{K:PySem.W.Frag}{σ:L2.St}
end
section
variable{X:Cx}{K:PySem.W.Frag}{tg a b c:Expr}{fs:FA}{pos p p2 pos2:Pos}
end
end L2
namespace L2
open PySem PySem.Spec PyProof.Rows
end L2
namespace L2
open PySem PySem.Spec PyProof.Rows
section
variable(P:Program)(w:World)
end
section
variable{P:Program}{w:World}{H H':Hp}{h h':Heap}{a:Addr}{o:HO}
end
section
variable{P:Program}{w:World}{H:Hp}{h h':Heap}{x e:Addr}{o':HO}
end
section
variable{fs fs' ex ex':List Addr}{H H1 H2:Hp}{h h1 h2 h':Heap}{a x e:Addr}{o:HO}
end
end L2
namespace L2
open PySem PySem.Spec PyProof.Rows
section
variable{X:Cx}{pins:List (Addr × Obj)}{σ:List (Option V)}{H H':Hp}{s:Shared}{h':Heap}
end
end L2
namespace L2
open PySem PySem.Spec PyProof.Rows
section
variable{X:Cx}
variable{a b:Expr}{ta tb:TE}{pos:Pos}
variable{tA tB':TT}{fM:List Expr}
end
end L2
namespace L2
open PySem PySem.Spec PyProof.Rows
section
variable{X:Cx}{pins:List (Addr × Obj)}{σ:St}{H:Hp}{s:Shared}{a:Addr}{xs ys:List V}
end
section
variable{X:Cx}{pins:List (Addr × Obj)}{σ:St}{H:Hp}{s:Shared}{E:Value→Shared→Prop}
end
section
variable{X:Cx}{st:Stmt}{fM:List Stmt}{t u:TS}{e:Expr}{te:TE}{pos:Pos}
end
section
variable{X:Cx}{pos:Pos}
end
section
variable{X:Cx}{pos:Pos}
end
end L2
namespace L2
open PySem PySem.Spec PyProof.Rows
section
variable{X:Cx}{tg:Expr}
end
end L2
namespace L2
open PySem PySem.Spec PyProof.Rows
section
variable{X:Cx}{a b c:Expr}{ta tb tc:TE}{pos:Pos}
end
section
variable{X:Cx}{a b c:Expr}{ta tb tc:TE}{pos:Pos}
end
end L2
namespace L2
open PySem PySem.Spec PyProof.Rows
section
variable{prog:Program}{w:World}{A:Around}{E:Value→Shared→Prop}{s:Shared}{K:PySem.W.Frag}{x dx C f:Addr}{mA:Str→Option Value}{name:Str}{v:Value}
end
section
variable{P:Program}{w:World}{H H':Hp}{h h':Heap}{a C dx:Addr}{fs fs':List (Str × V)}
end
section
variable{X:Cx}{pins:List (Addr × Obj)}{σ:St}{H:Hp}{s:Shared}{a C dx:Addr}{fs:List (Str × V)}{f:Str}{v:V}{A:Around}{E:Value→Shared→Prop}
end
section
variable{X:Cx}{o e value:Expr}{f:Str}{pos pos' tpos:Pos}{ta tv:TE}
end
section
variable{X:Cx}{pins:List (Addr × Obj)}{σ:St}{H:Hp}{s:Shared}{A:Around}{E:Value→Shared→Prop}{Q:Value→Shared→Prop}{c:Value}{b:Bool}
end
end L2
namespace L2
open PySem PySem.Spec PyProof.Rows
section
variable{X:Cx}{e:Expr}{es:List Expr}{te:TE}{t:TA}{pos:Pos}
end
section
variable{X:Cx}{pins:List (Addr × Obj)}{σ:St}{H:Hp}{s s':Shared}
end
section
variable{X:Cx}{CX:uy}{k:Nat}{f C:Addr}{fd:FuncData}{ps:List Str}{sp:Sp}{dvs:List V}{ds:List Value}{E:XK}{x m:Str}{p pos apos:Pos}{e o:Expr}{es:List Expr}{ta:TE}{t:TA}
end
section
variable{X:Cx}{CX:uy}{k:Nat}{f C:Addr}{fd:FuncData}{ps ks:List Str}{sp:Sp}{E:XK}{x m:Str}{p pos apos kpos:Pos}{e o:Expr}{es:List Expr}{kws:List Keyword}{te ta:TE}{t tk:TA}{nm:Option Str}
variable{g:List Value→List Value→List Value}{gV:List V→List V→List V}
end
end L2
namespace L2
open PySem PySem.Spec PyProof.Rows
section
variable{X:Cx}{x:Str}{p pos:Pos}{e:Expr}{es:List Expr}{t:TA}{id T:String}{r:List V→Hp→VK→Prop}
end
end L2
namespace L2
open PySem PySem.Spec PyProof.Rows
section
variable{κ:Type}[DecidableEq κ]
def qS(kvs:List (κ × V))(k:κ)(v:V):List (κ × V):=
  if (kvs.any fun kv=>decide (kv.1=k))=true then kvs.map (fun kv=>if kv.1=k then(kv.1,v) else kv) else kvs++[(k,v)]
theorem qD(kvs:List (κ × V))(k:κ)(v:V):(qS kvs k v).length≤kvs.length+1:=by
  unfold qS
  split
  · rw [List.length_map];lia
  · rw [List.length_append,List.length_cons,List.length_nil];lia
theorem KV.any{kvs:List (κ × V)}{vs:List (κ × Value)}(r:KV kvs vs)(k:κ):(kvs.any fun kv=>decide (kv.1=k))=vs.any fun kv=>decide (kv.1=k):=by
  unfold KV at r
  induction r with
  | nil=>rfl
  | cons h t ih=>rw [List.any_cons,List.any_cons,ih,h.1]
theorem KV.repl{kvs:List (κ × V)}{vs:List (κ × Value)}(r:KV kvs vs)(k:κ){y:V}{u:Value}(ry:bu y u):
    KV (kvs.map fun kv=>if kv.1=k then(kv.1,y) else kv) (vs.map fun kv=>if kv.1=k then(kv.1,u) else kv):=by
  unfold KV at r ⊢
  induction r with
  | nil=>exact .nil
  | @cons p q ps qs h t ih=>
    rw [List.map_cons,List.map_cons]
    refine .cons ?_ ih
    obtain⟨h1,h2⟩:=h
    by_cases e:p.1=k
    · rw [if_pos e,if_pos (h1.symm.trans e)];exact⟨h1,ry⟩
    · rw [if_neg e,if_neg (fun z=>e (h1.trans z))];exact⟨h1,h2⟩
theorem KV.put{kvs:List (κ × V)}{vs:List (κ × Value)}(r:KV kvs vs)(k:κ){y:V}{u:Value}(ry:bu y u):KV (qS kvs k y) (stored vs k u):=by
  unfold qS stored
  rw [r.any k]
  by_cases e:(vs.any fun kv=>decide (kv.1=k))=true
  · rw [if_pos e,if_pos e];exact r.repl k ry
  · rw [if_neg e,if_neg e];exact Paired.snoc r ⟨rfl,ry⟩
end
theorem Dy{P:Program}{w:World}{k:gv}{u:Value}(r:bu (kV k) u):(dA P w).is k u=true:=by
  cases k with
  | inl i=>obtain⟨t,e⟩:=(show ∃t,u=Value.int i t from r);subst e;exact qI P w i t
  | inr x=>obtain⟨t,e⟩:=(show ∃t,u=Value.str x t from r);subst e;exact qJ P w x t
section
variable{P:Program}{w:World}{H:Hp}{h:Heap}{a:Addr}
theorem Ej{u:HO}(ok:lz P w H h)(e:Rd H a u):cY P w H h a u:=e.ok ok
theorem Dg{kvs:List (gv × V)}(ok:lz P w H h)(e:Rd H a (.dK kvs)):kvs.length≤sizeLine∧(a==sysModules)=false∧∃vs,KV kvs vs∧h.DictOf (dA P w) a vs:=
  show cY P w H h a (.dK kvs) from Ej ok e
theorem Df{kvs:List (gv × V)}(ok:lz P w H h)(e:H a=some (.dK kvs)):kvs.length≤sizeLine∧(a==sysModules)=false∧∃vs,KV kvs vs∧h.DictOf (dA P w) a vs:=Dg ok (.inl e)
end
section
variable{X:Cx}{pins:List (Addr × Obj)}{σ:St}{H:Hp}{s:Shared}{a:Addr}{y v:V}{u r:Value}{o:Option V}{A:Around}{E:Value→Shared→Prop}
theorem aF.big(I:aF X pins σ H s):sysModules < s.heap.objs.size:=by
  have h:mainGlobals < s.heap.objs.size:=(I.mod.glob.keeps I.bk).lt
  exact Nat.lt_trans (by decide) h
theorem yM{h':Heap}{t':Nat}{ob:HO}(I:aF X pins σ H s)(mu:C1 (H a))(hs:Heap.SameBut a s.heap h')(he:∃q,h'.get? a=some q)(new:cY X.prog X.w (bi H a ob) h' a ob):
    aF X pins σ (bi H a ob) {s with heap:=h',toks:=t'}:=
  I.write (x:=a) (e:=a) mu (.inl rfl) (fun b q hb z=>(hs.2 b hb).trans z) he new
theorem A_{P:Program}{w:World}{H':Hp}{h':Heap}{kvs:List (gv × V)}{vs:List (gv × Value)}(z:kvs.length≤sizeLine)(hd:(a==sysModules)=false)(rel:KV kvs vs)(dd:h'.DictOf (dA P w) a vs):
    cY P w H' h' a (.dK kvs):=⟨z,hd,vs,rel,dd⟩
end
section
variable{X:Cx}{pins:List (Addr × Obj)}{σ:St}{H:Hp}{s:Shared}{a:Addr}{kvs:List (gv × V)}{k:gv}{u:Value}{A:Around}{E:Value→Shared→Prop}
end
section
variable{X:Cx}{o i e value:Expr}{pos pos' tpos:Pos}{td ty tv:TE}
end
theorem qr{P:Program}{w:World}{H:Hp}(h:Heap)(hb:sysModules < h.objs.size):cY P w H (h.push {cls:=.type "dict",data:=.dict #[]}) h.objs.size (.dK []):=
  ⟨Nat.zero_le _,beq_eq_false_iff_ne.mpr (Ne.symm (Nat.ne_of_lt hb)),[],.nil,Heap.DictOf.new h⟩
def Cq:TE:=fun _ H Q=>∀p,H p=none→Q (.ref p) (bi H p (.dK []))
section
variable{X:Cx}{pos:Pos}
theorem xr:PE X (.Dict [] [] pos) Cq:=fun pins s σ H Q I h=>
  wpAny_Dict_empty ⟨.ref s.heap.objs.size,_,I.laid (a:=s.heap.objs.size) (o:=.dK []) (t':=s.toks) (fun _ _ q=>Heap.get?_push_of_some _ q) (Nat.le_refl _) (qr s.heap I.big),rfl,h _ (I.hok.fresh (Nat.le_refl _))⟩
end
def p9:List (TE × TE)→St→Hp→(List (V × V)→Hp→Prop)→Prop
  | [],_,H,Q=>Q [] H
  | (tk,tv)::r,σ,H,Q=>tk σ H fun x H1=>tv σ H1 fun y H2=>p9 r σ H2 fun ps H3=>Q ((x,y)::ps) H3
abbrev VV:List (V × V)→List (Value × Value)→Prop:=Paired fun p q=>bu p.1 q.1∧bu p.2 q.2
def EM(X:Cx)(pos:Pos)(keys:List (Option Expr))(values:List Expr)(trs:List (TE × TE)):Prop:=
  ∀(pins:List (Addr × Obj)) (s:Shared) (σ:St) (H:Hp) (Q:List (V × V)→Hp→Prop),aF X pins σ H s→p9 trs σ H Q→
    wpAny (model X.prog X.w) X.A (evalPairs (pairTrees keys values X.env pos)) (fun vs s'=>∃ps H',aF X pins σ H' s'∧VV ps vs∧Q ps H') X.xe s
theorem zN{X:Cx}{pos:Pos}:EM X pos [] [] []:=fun pins s σ H Q I h=>pairTrees_nil_walk ⟨[],H,I,.nil,h⟩
theorem xH{X:Cx}{pos:Pos}{k v:Expr}{ks:List (Option Expr)}{vs:List Expr}{tk tv:TE}{trs:List (TE × TE)}(hk:PE X k tk)(hv:PE X v tv)(hr:EM X pos ks vs trs):
    EM X pos (some k::ks) (v::vs) ((tk,tv)::trs):=fun pins s σ H Q I h=>
  pairTrees_cons_walk (cP (hk pins s σ H _ I h) fun u s1 ⟨x,H1,I1,rx,q1⟩=>cP (hv pins s1 σ H1 _ I1 q1) fun w2 s2 ⟨y,H2,I2,ry,q2⟩=>
    cP (hr pins s2 σ H2 _ I2 q2) fun ws s3 ⟨ps,H3,I3,rel,q3⟩=>⟨(x,y)::ps,H3,I3,.cons ⟨rx,ry⟩ rel,q3⟩)
def iK(kvs more:List (gv × V)):List (gv × V):=more.foldl (fun acc kv=>qS acc kv.1 kv.2) kvs
theorem KV.merge:∀{more:List (gv × V)} {rs:List (gv × Value)} {kvs:List (gv × V)} {vs:List (gv × Value)},KV more rs→KV kvs vs→KV (iK kvs more) (merged vs rs):=by
  intro more rs kvs vs r
  unfold KV at r
  induction r generalizing kvs vs with
  | nil=>intro q;exact q
  | @cons p q ps qs h t ih=>
    intro r0
    have e:KV (qS kvs p.1 p.2) (stored vs q.1 q.2):=by
      have:=r0.put p.1 h.2
      rw [←h.1];exact this
    exact ih e
theorem jf:∀(more kvs:List (gv × V)),(iK kvs more).length≤kvs.length+more.length
  | [],kvs=>by show kvs.length≤kvs.length+0;lia
  | p::r,kvs=>by
    have h1:=jf r (qS kvs p.1 p.2)
    have h2:=qD kvs p.1 p.2
    show(iK (qS kvs p.1 p.2) r).length≤_
    rw [List.length_cons];lia
theorem mw{P:Program}{w:World}:∀{kvs:List (gv × V)} {ws:List (Value × Value)},VV (kvs.map fun kv=>(kV kv.1,kv.2)) ws→∃rs,Carries (dA P w) ws rs∧KV kvs rs
  | [],_,r=>by rw [List.map_nil] at r;cases r;exact⟨[],True.intro,.nil⟩
  | p::kvs,_,r=>by
    rw [List.map_cons] at r
    cases r with
    | @cons a b as bs h t=>
      obtain⟨rs,c,q⟩:=mw (P:=P) (w:=w) t
      obtain⟨b1,b2⟩:=b
      exact⟨(p.1,b2)::rs,⟨Dy h.1,rfl,c⟩,.cons ⟨rfl,h.2⟩ q⟩
def Et(trs:List (TE × TE)):TE:=fun σ H Q=>∀p,H p=none→p9 trs σ (bi H p (.dK [])) fun ps H2=>H2 p=some (.dK [])∧∃kvs:List (gv × V),ps=kvs.map (fun kv=>(kV kv.1,kv.2))∧kvs.length≤15∧Q (.ref p) (bi H2 p (.dK (iK [] kvs)))
theorem zB{X:Cx}{pos:Pos}{keys:List (Option Expr)}{values:List Expr}{trs:List (TE × TE)}(h:EM X pos keys values trs)(hall:keys.all (·.isSome)=true)(hl:keys.length=values.length)(h0:keys≠[])
    (h15:keys.length≤15):PE X (.Dict keys values pos) (Et trs):=by
  intro pins s σ H Q I q
  have hn:=I.hok.fresh (Nat.le_refl s.heap.objs.size)
  have I1:=I.laid (a:=s.heap.objs.size) (o:=.dK []) (h':=s.heap.push {cls:=.type "dict",data:=.dict #[]}) (t':=s.toks) (fun _ _ q=>Heap.get?_push_of_some _ q) (Nat.le_refl _) (qr s.heap I.big)
  refine wpAny_Dict_walk (knd:=dA X.prog X.w) hall hl h0 h15 (cP (h pins _ σ _ _ I1 (q _ hn)) fun ws s2 ⟨ps,H2,I2,rel,e,kvs,ep,lk,q2⟩=>?_)
  subst ep
  obtain⟨rs,c,rk⟩:=mw (P:=X.prog) (w:=X.w) rel
  obtain⟨z,hd,vs0,r0,dd⟩:=Df I2.hok e
  cases r0
  refine⟨rs,c,dd,fun h' dd' hs=>⟨.ref s.heap.objs.size,_,?_,rfl,q2⟩⟩
  have hz:(iK [] kvs).length≤sizeLine:=by
    have h1:=jf kvs []
    rw [List.length_nil] at h1
    rw [sizeLine_eq];lia
  have he:∃q,h'.get? s.heap.objs.size=some q:=let ⟨q,_,_,hq,_⟩:=dd';⟨q,hq⟩
  exact yM I2 (by rw [e];exact True.intro) hs he (A_ hz hd (rk.merge .nil) dd')
section
variable{X:Cx}{pins:List (Addr × Obj)}{σ:St}{H:Hp}{s:Shared}{a:Addr}{y d:V}{u r:Value}{o:Option V}{A:Around}{E:Value→Shared→Prop}
end
section
variable{X:Cx}{o e f:Expr}{apos cpos:Pos}{td ty tx:TE}
end
section
variable{X:Cx}{pins:List (Addr × Obj)}{σ:St}{H:Hp}{s:Shared}{a:Addr}{kvs:List (gv × V)}{A:Around}{E:Value→Shared→Prop}
end
section
variable{X:Cx}{pins:List (Addr × Obj)}{σ:St}{H:Hp}{s:Shared}{a:Addr}{y:V}{u:Value}{A:Around}{E:Value→Shared→Prop}
end
end L2
namespace Att
open PySem PySem.W PySem.Calls PyProof.Rows
section
variable{prog:Program}{w:World}{A:Around}{E:Value→Shared→Prop}{s:Shared}{K:Frag}
end
end Att
namespace L2
open PySem PySem.Spec PyProof.Rows
end L2
namespace L2
open PySem PySem.Spec PyProof.Rows
end L2
namespace L2
open PySem PySem.Spec PyProof.Rows
section
variable{P:Program}{w:World}{K:PySem.W.Frag}{mg:Str→Option Value}{base:Heap}
end
section
variable{X:Cx}
end
section
variable{κ:Type}[DecidableEq κ]
end
end L2
namespace L2
open PySem PySem.Spec PyProof.Rows
def EI:PyData→String
  | .none=>"NoneType"
  | .bool _=>"bool"
  | .int _=>"int"
  | .str _=>"str"
  | .tuple _=>"tuple"
  | .list _=>"list"
  | .dict _=>"dict"
def Co(t T:String):Bool:=t==T || (t=="bool"&&T=="int")
def Du(T:String)(d:PyData):Bool:=Co (EI d) T
def jz(T:String):En→Rv→Option Rv:=fun _ r=>match r with
  | .d x=>some (.d (.bool (Du T x)))
  | _=>some (.d (.bool (Du T (.list []))))
section
variable{X:Cx}{K:PySem.W.Frag}{a:Expr}{fa:FE}{pos p p2:Pos}
def E7(K:PySem.W.Frag)(H:Hp):V→String→Prop
  | .non,t=>t="NoneType"
  | .bl _,t=>t="bool"
  | .int _,t=>t="int"
  | .str _,t=>t="str"
  | .ref a,t=>(t="tuple"∧∃xs,dO K H a xs)∨(t="list"∧∃xs,eI K H a xs)∨(t="dict"∧∃m,H a=some (.dK m))
  | _,_=>False
theorem vS{T:String}:ed X (.builtin "isinstance") (fun xs H Q=>∃x t b,xs=[x,.ty T]∧E7 X.K H x t∧PySem.W.kitOne X.K (.type t) (.type T)=some b∧Q (.bl b) H):=by
  intro pins s σ H xs us Q I r h
  obtain⟨x,t,b,rfl,ht,hk,q⟩:=h
  obtain⟨u1,u2,rfl,r1,r2⟩:∃u1 u2,us=[u1,u2]∧bu x u1∧bu (.ty T) u2:=by
    cases r with
    | cons p q=>cases q with
      | cons p' q'=>cases q';exact⟨_,_,rfl,p,p'⟩
  cases r2
  have q':∀tk,EP X pins σ Q (.bool b) {s with toks:=tk}:=fun tk=>⟨.bl b,H,I.tok _,rfl,q⟩
  cases x with
  | non=>cases (show u1=Value.none from r1);cases (show t=_ from ht);exact PySem.W.kia_one PySem.W.kitx_none I.kIn True.intro hk (fun z=>nomatch z) q'
  | bl y=>cases (show u1=Value.bool y from r1);cases (show t=_ from ht);exact PySem.W.kia_one PySem.W.kitx_bool I.kIn True.intro hk (fun z=>nomatch z) q'
  | int i=>obtain⟨tt,rfl⟩:=r1;cases (show t=_ from ht);exact PySem.W.kia_one PySem.W.kitx_int I.kIn True.intro hk (fun z=>nomatch z) q'
  | str y=>obtain⟨tt,rfl⟩:=r1;cases (show t=_ from ht);exact PySem.W.kia_one PySem.W.kitx_str I.kIn True.intro hk (fun z=>nomatch z) q'
  | ref a=>
    cases (show u1=Value.ref a from r1)
    rcases ht with ⟨rfl,xs,hs⟩ | ⟨rfl,xs,hs⟩ | ⟨rfl,m,hs⟩
    · obtain⟨its,rv,pl,hz⟩:=I.tuple hs
      obtain⟨o,h1,h2⟩:=pl.typeIs
      exact PySem.W.kia_one PySem.W.kitx_tuple I.kIn ⟨o,h1,h2⟩ hk (fun z=>nomatch z) q'
    · obtain⟨its,rv,pl,hz⟩:=I.list hs
      obtain⟨o,h1,h2⟩:=pl.isList.typeIs
      exact PySem.W.kia_one PySem.W.kitx_list I.kIn ⟨o,h1,h2⟩ hk (fun z=>nomatch z) q'
    · obtain⟨_,_,vs,_,pp⟩:=(show cY X.prog X.w H s.heap a (.dK m) from I.hok a _ hs)
      obtain⟨o,es,ep,h1,h2,_⟩:=pp
      exact PySem.W.kia_one PySem.W.kitx_dict I.kIn ⟨o,h1,h2.1⟩ hk (fun z=>nomatch z) q'
  | _=>exact False.elim ht
theorem xu{x:Str}{T:String}(hg:Gl X x)(hm:X.mg x=none)(hv:bootBuiltins x=some (.type T))(hn:x≠"__name__")(hd:(x==("__debug__":Str))=false):PE X (.Name x pos) (tC (.ty T)):=fun pins s σ H Q I h=>
  k7 I hg hm hv ⟨.ty T,H,I,rfl,h⟩ hn hd
theorem Bk{t T:String}(ht:t∈["NoneType","bool","int","str","tuple","list","dict"])(hT:T∈["int","bool","tuple","str"]):PySem.W.kitOne K (.type t) (.type T)=some (Co t T):=by
  simp only [List.mem_cons,List.not_mem_nil,or_false] at ht hT
  rcases ht with rfl | rfl | rfl | rfl | rfl | rfl | rfl<;>rcases hT with rfl | rfl | rfl | rfl<;>rfl
theorem Ag(d:PyData):EI d∈["NoneType","bool","int","str","tuple","list","dict"]:=by cases d<;>simp [EI]
theorem CG{F H:Hp}{d:PyData}{v:V}(h:DA K F d v)(s:aA F H):E7 K H v (EI d):=by
  have h:=DA.mono s h
  cases d with
  | none=>rw [gZ.mp h];rfl
  | bool b=>rw [c_.mp h];rfl
  | int b=>rw [cH.mp h];rfl
  | str b=>rw [pA.mp h];rfl
  | tuple ds=>obtain⟨a,xs,rfl,h1,_⟩:=di.mp h;exact .inl ⟨rfl,xs,h1⟩
  | list ds=>obtain⟨a,xs,rfl,h1,_⟩:=dS.mp h;exact .inr (.inl ⟨rfl,xs,h1⟩)
  | dict m=>simp only [DA] at h;obtain⟨a,m,rfl,h1,_⟩:=h;exact .inr (.inr ⟨rfl,_,h1⟩)
theorem yO{f:FE}{σ:L2.St}{H:Hp}{Q Q':VK}(h:fE K f σ H Q)(m:∀v H1,Q v H1→Q' v H1):fE K f σ H Q':=by
  obtain⟨F,e,r,e',R,hf,q⟩:=h
  exact⟨F,e,r,e',R,hf,fun F' H' v x R' A=>m _ _ (q F' H' v x R' A)⟩
theorem Dv{T:String}:C6 K (fun v H Q=>∃t,t∈["NoneType","bool","int","str","tuple","list","dict"]∧E7 K H v t∧Q (.bl (Co t T)) H) (jz T):=by
  intro σ H0 F H e x z v Q R A hg q
  unfold jz at hg
  cases x with
  | d d=>
    cases hg
    exact⟨EI d,Ag d,CG A R.sm,q F H _ (dJ.refl _ _ _ _) R dD⟩
  | l xs=>
    cases hg
    obtain⟨l,vs,rfl,h1,h2,h3,h4⟩:=A
    exact⟨"list",by simp,.inr (.inl ⟨rfl,vs,eI.of h3⟩),q F H _ (dJ.refl _ _ _ _) R dD⟩
  | s i=>
    cases hg
    obtain⟨h1,xs,h2⟩:=A
    obtain⟨l,vs,h3,h4,h5,h6⟩:=R.own i xs h2
    rw [h1] at h3;cases h3
    exact⟨"list",by simp,.inr (.inl ⟨rfl,vs,eI.of h5⟩),q F H _ (dJ.refl _ _ _ _) R dD⟩
theorem lH{x:Str}{T:String}(hK:X.K=K)(hT:T∈["int","bool","tuple","str"])(hg:Gl X "isinstance")(hm:X.mg "isinstance"=none)(hgT:Gl X x)(hmT:X.mg x=none)(F9:bootBuiltins x=some (.type T))(hn:x≠"__name__")(hd:(x==("__debug__":Str))=false)
    (ha:PE X a (fE K fa))(he:starEach [a,.Name x p2] X.env=(false,eval a X.env)::starEach [.Name x p2] X.env)(hpl:(backTo pos (starEach [.Name x p2] X.env)).any (·.1)=false):
    PE X (.Call (.Name "isinstance" p) [a,.Name x p2] [] pos) (fE K (qe (jz T) fa)):=
  (qR (vS (T:=T)) hg hm boot_isinstance (pX ha (pX (xu hgT hmT F9 hn hd) xn) he) (by decide) (by decide) he hpl).mono fun σ H Q h=>by
    subst hK
    have h1:=yt (Dv (T:=T)) h
    refine yO h1 fun v H1 ⟨t,ht,k,q⟩=>?_
    exact⟨v,t,_,rfl,k,Bk ht hT,q⟩
end
end L2
namespace L2
open PySem PySem.Spec PyProof.Rows
section
variable{X:Cx}{K:PySem.W.Frag}
end
end L2
namespace L2
open PySem PySem.Spec PyProof.Rows
section
variable{X:Cx}{K:PySem.W.Frag}{σ:L2.St}{F H:Hp}{e:En}{pos p1 p2:Pos}
theorem bf.newD(R:bf K F H σ e){p:Addr}{m:List (gv × V)}(hp:H p=none):bf K (bi F p (.dK m)) (bi H p (.dK m)) σ e∧dJ σ F H e (bi F p (.dK m)) (bi H p (.dK m)) e:=by
  have hF:=R.freeF hp
  obtain⟨R1,X1⟩:=R.same (aA.new hp (o:=.dK m))
  obtain⟨R2,s2⟩:=R1.freeze (p:=p) hF aG (R1.notOwn aG (fun _ z=>nomatch z))
  refine⟨R2,⟨s2,X1.dom,fun a ws h n _=>?_,X1.lst,X1.tmp,X1.shp,X1.ow⟩⟩
  have z:a≠p:=fun z=>by rw [z,hp] at n;cases n
  rw [aM z];exact h
def rG(m:List (Int × Int)):FE:=fun e=>some (.d (.dict (m.map fun p=>(PyData.int p.1,PyData.int p.2))),e)
theorem xR:PE X (.Dict [] [] pos) (fE K (rG [])):=xr.mono fun σ H Q h=>by
  obtain⟨F,e,z,e2,R,hf,q⟩:=h
  cases hf
  intro p hp
  obtain⟨R3,X3⟩:=R.newD (m:=[]) hp
  exact q _ _ _ X3 R3 (by simp only [cC,DA];exact⟨p,[],rfl,aG,rfl⟩)
theorem xS{i j:Int}{k1 k2}:PE X (.Dict [some (.Constant (.int i) k1 p1)] [.Constant (.int j) k2 p2] pos) (fE K (rG [(i,j)])):=
  (zB (xH (@sJ X i k1 p1) (@sJ X j k2 p2) zN) rfl rfl (by simp) (by simp)).mono fun σ H Q h=>by
  obtain⟨F,e,z,e2,R,hf,q⟩:=h
  cases hf
  intro p hp
  refine⟨aG,[(Sum.inl i,.int j)],rfl,by simp,?_⟩
  have e1:bi (bi H p (.dK [])) p (.dK (iK [] [((Sum.inl i:gv),V.int j)]))=bi H p (.dK (iK [] [((Sum.inl i:gv),V.int j)])):=by
    funext a;by_cases h:a=p
    · subst h;rw [aG,aG]
    · rw [aM h,aM h,aM h]
  rw [e1]
  obtain⟨R3,X3⟩:=R.newD (m:=iK [] [((Sum.inl i:gv),V.int j)]) hp
  exact q _ _ _ X3 R3 (by simp only [cC,DA];exact⟨p,[(i,j)],rfl,aG,rfl⟩)
end
end L2
namespace L2
open PySem PySem.Spec PyProof.Rows
section
variable{X:Cx}{K:PySem.W.Frag}{a b c d:Expr}{ta tb tc td:TE}{fa fb fc fd:FE}{pos:Pos}
end
end L2
namespace L2
open PySem PySem.Spec PyProof.Rows
section
variable{X:Cx}{K:PySem.W.Frag}{a b:Expr}{es:List Expr}{fa fb:FE}{fs:FA}{pos p apos:Pos}
end
end L2
namespace L2
open PySem PySem.Spec PyProof.Rows
section
variable{X:Cx}{K:PySem.W.Frag}{a b:Expr}{fa fb:FE}{fs:FA}{pos p p2 p3:Pos}
end
end L2
namespace L2
open PySem PySem.Spec PyProof.Rows
def bq(W:bz)(as:List Int):Int:=bp W (W.rng.filter fun k=> !as.contains k)
def wI(l:Nat):Int:=1000*(2 ^ (16 - l) - 1)
structure Gf (W:bz) (k:Int) (as:List Int) (y n:Fr):Prop where
  y:EO (bq W (bz.askd as k)) (wI (as.length+1)) y
  n:EO (bq W (bz.askd as k)) (wI (as.length+1)) n
  len:as.length≤15
  inw:rM W k
  new:k∉as
def lk(ws:List Fr)(l:Int):Fr:=if l= -1 then(0,1) else ws.getD l.toNat (0,1)
structure Gr (W:bz) (S:Nat→Std) (n:Nat) (ws:List Fr):Prop where
  len:ws.length=n
  at':∀(j:Nat) (f:Fr),ws[j]?=some f→EO (bq W (S j).1) (wI (S j).1.length) f
theorem Sz.int10{n m:Nat}{k:Int}(hb:Bt m k)(m0:0 < m)(m1:m≤1900)(h:k.natAbs < 10 ^ n)(h0:0 < n):Sz (n+1) 2 (.int k):=by
  refine⟨rfl,?_,by simp [PyData.depth],?_,bM _⟩
  · show decide (k.natAbs.log2 < 1920)=true
    rw [decide_eq_true_eq]
    have:=hb.log m0
    lia
  · have:=int_text_length_le10 h0 h
    show(Str.ofString (toString k)).length≤n+1
    rw [PySem.ofString_length];exact this
end L2
namespace L2
open PySem PySem.Spec PyProof.Rows
theorem jv{cs:En}{g:FG}{ft:FT}{fe:FE}{b:PyData→Bool}{y:PyData→PyData}{u:PyData→En}(n:Nat):∀(items:List PyData) (t:En) (acc:List PyData),t.length=n→(∀x∈items,∀t:En,t.length=n→g x (cs++t)=some (cs++u x))→(∀x∈items,(u x).length=n)→
    (∀x∈items,ft (cs++u x)=some (b x,cs++u x))→(∀x∈items,b x=true→fe (cs++u x)=some (.d (y x),cs++u x))→acc.length+items.length≤1000000→
    ∃t',t'.length=n∧eD g ft fe items (cs++t) acc=some (acc++(items.filter b).map y,cs++t')
  | [],t,acc,h,_,_,_,_,_=>⟨t,h,by simp [eD]⟩
  | x::r,t,acc,h,hg,hu,h1,h2,hl=>by
    have h1x:=h1 x (by simp)
    unfold eD
    rw [hg x (by simp) t h]
    simp only [Option.bind_some,h1x]
    cases hb:b x with
    | true=>
      simp only [if_true,h2 x (by simp) hb,Option.bind_some,pB]
      rw [if_pos (by simp at hl;lia)]
      obtain⟨t',e1,ih⟩:=jv (b:=b) (y:=y) (u:=u) n r (u x) (acc++[y x]) (hu x (by simp)) (fun z hz=>hg z (by simp [hz])) (fun z hz=>hu z (by simp [hz])) (fun z hz=>h1 z (by simp [hz])) (fun z hz=>h2 z (by simp [hz])) (by simp at hl ⊢;lia)
      exact⟨t',e1,by rw [ih];simp [hb]⟩
    | false=>
      simp only [Bool.false_eq_true,if_false]
      obtain⟨t',e1,ih⟩:=jv (b:=b) (y:=y) (u:=u) n r (u x) acc (hu x (by simp)) (fun z hz=>hg z (by simp [hz])) (fun z hz=>hu z (by simp [hz])) (fun z hz=>h1 z (by simp [hz])) (fun z hz=>h2 z (by simp [hz])) (by simp at hl;lia)
      exact⟨t',e1,by rw [ih];simp [hb]⟩
theorem oX{x:Str}(h:PyData.strOk x=true):∀c∈x.cps.toList,c < 1114112:=by
  intro c hc
  unfold PyData.strOk at h
  rw [Array.all_eq_true'] at h
  have:=h c (by simpa using hc)
  simpa using this
theorem yl{l:Array Nat}(h:∀c∈l.toList,c < 1114112):PyData.strOk ⟨l⟩=true:=by
  unfold PyData.strOk
  rw [Array.all_eq_true']
  intro c hc
  simpa using h c (by simpa using hc)
theorem yK(c:Char):c.toNat < 1114112:=by
  have:=c.valid
  unfold UInt32.isValidChar Nat.isValidChar at this
  show c.val.toNat < _
  lia
open PySem.Builtin.Str in
theorem qT{q c:Nat}(hc:c < 1114112):∀d∈reprChar q c,d < 1114112:=by
  intro d hd
  unfold reprChar at hd
  have hx:∀w:Nat,∀d∈(List.replicate (w - ((Nat.toDigits 16 c).map Char.toNat).length) 48++(Nat.toDigits 16 c).map Char.toNat),d < 1114112:=by
    intro w d hd
    rcases List.mem_append.mp hd with h | h
    · have:=List.eq_of_mem_replicate h;lia
    · obtain⟨ch,_,rfl⟩:=List.mem_map.mp h;exact yK ch
  dsimp only at hd
  split at hd
  · simp only [List.mem_cons,List.not_mem_nil,or_false] at hd;lia
  split at hd
  · simp only [List.mem_cons,List.not_mem_nil,or_false] at hd;lia
  split at hd
  · simp only [List.mem_cons,List.not_mem_nil,or_false] at hd;lia
  split at hd
  · simp only [List.mem_cons,List.not_mem_nil,or_false] at hd;lia
  split at hd
  · simp only [List.mem_cons,List.not_mem_nil,or_false] at hd;lia
  split at hd
  · rcases List.mem_append.mp hd with h | h
    · simp only [List.mem_cons,List.not_mem_nil,or_false] at h;lia
    · exact hx 2 d h
  split at hd
  · rcases List.mem_append.mp hd with h | h
    · simp only [List.mem_cons,List.not_mem_nil,or_false] at h;lia
    · exact hx 4 d h
  · rcases List.mem_append.mp hd with h | h
    · simp only [List.mem_cons,List.not_mem_nil,or_false] at h;lia
    · exact hx 8 d h
open PySem.Builtin.Str in
theorem oP{q:Nat}:∀(l:List Nat) (acc:Array Nat),(∀c∈l,c < 1114112)→(∀c∈acc.toList,c < 1114112)→∀c∈(l.foldl (fun out c=>out++(reprChar q c).toArray) acc).toList,c < 1114112
  | [],acc,_,h=>h
  | x::r,acc,h1,h2=>oP r _ (fun c hc=>h1 c (by simp [hc])) fun c hc=>by
    simp only [Array.toList_append,List.mem_append] at hc
    rcases hc with hc | hc
    · exact h2 c hc
    · exact qT (h1 x (by simp)) c hc
theorem qU{x:Str}(h:PyData.strOk x=true):PyData.strOk (reprText x)=true:=by
  unfold reprText
  refine yl fun c hc=>?_
  have hq:reprQuote x < 1114112:=by unfold reprQuote;split<;>lia
  rw [Array.toList_push] at hc
  rcases List.mem_append.mp hc with hc | hc
  · rw [←Array.foldl_toList] at hc
    exact oP _ _ (oX h) (fun c hc=>by simp at hc;lia) c hc
  · simp at hc;lia
theorem Sz.str{x:Str}{n:Nat}(h:PyData.strOk x=true)(hl:x.length≤n):Sz (10*n+2) 2 (.str x):=by
  refine⟨rfl,rfl,by simp [PyData.depth],?_,qU h⟩
  have:=PySem.StrLaws.reprText_len x fun c hc=>Nat.lt_of_lt_of_le (oX h c hc) (by decide)
  show(reprText x).length≤_
  lia
end L2
namespace L2
open PySem PySem.Spec PyProof.Rows
section
variable{X:Cx}{K:PySem.W.Frag}{a:Expr}{fa:FE}{pos p pos2 p2:Pos}
end
end L2
namespace L2
open PySem PySem.Spec PyProof.Rows
section
variable{X:Cx}{K:PySem.W.Frag}{a:Expr}{fa:FE}
end
end L2
namespace L2
open PySem PySem.Spec PyProof.Rows
abbrev Rn:=List (Int × Bool)
def yQ(R:Rn):List Int:=R.map (·.1)
def Aw(W:bz)(R:Rn):List Int:=(R.filter (·.2)).flatMap fun r=>[(W.tie r.1).one,(W.tie r.1).other]
structure Gn (W:bz) (R:Rn) (asked taken:List Int):Prop where
  pa:asked.Perm (yQ R)
  pt:taken.Perm (Aw W R)
  inw:∀k∈yQ R,rM W k
  nd:(yQ R).Nodup
  nk:(Aw W R).Nodup
  bd:∀t:Int,0≤t→t < W.things→W.many (yQ R) t≤W.pat.getD t.toNat 0
  ak:(R.length:Int)≤W.asks
  sa:asked.Pairwise (· ≤·)
  st:taken.Pairwise (· ≤·)
end L2
namespace L2
open PySem PySem.Spec PyProof.Rows
section
variable{prog:Program}{w:World}{A:Around}{R:Result→Shared→Prop}
end
def Cr(l:Addr)(wi:TI)(g:TG)(tc:TT)(te:TE)(σ:L2.St)(H:Hp)(N:L2.St→Hp→Prop):Prop:=
  wi σ H fun J H1=>∃W:Nat→Nat→L2.St→Hp→Prop,(∃m,W 0 m σ H1)∧∀i m σ' H',W i m σ' H'→
    (J.stop i H'∧N σ' H')∨(J.go i H'∧∃N2:L2.St→Hp→Prop,(∀σ2 H2,N2 σ2 H2→∃m',m' < m∧W (i+1) m' σ2 H2)∧
      ∀x H2,J.yld i H' x H2→g x σ' H2 fun σ2 H3=>tc σ2 H3 fun b H4=>if b=true then te σ2 H4 fun v H5=>∃ys,H5 l=some (.lst ys)∧ys.length < sizeLine∧N2 σ2 (bi H5 l (.lst (ys++[v]))) else N2 σ2 H4)
structure Fz (cp:List (Nat × Str)) (nT:Nat) (wi:TI) (g:TG) (tc:TT) (wi2:TI) (g2:TG) (tc2:TT) (te:TE) (σ:L2.St) (H:Hp) (Q:VK):Prop where
  go:wi σ H fun J H1=>∀l,H1 l=none→
  ∃W:Nat→Nat→L2.St→Hp→Prop,(∃m,W 0 m (gO cp nT σ) (bi H1 l (.lst [])))∧∀i m σ' H',W i m σ' H'→
    (J.stop i H'∧Q (.ref l) H')∨(J.go i H'∧∃N:L2.St→Hp→Prop,(∀σ2 H2,N σ2 H2→∃m',m' < m∧W (i+1) m' σ2 H2)∧
      ∀x H2,J.yld i H' x H2→g x σ' H2 fun σ2 H3=>tc σ2 H3 fun b H4=>if b=true then Cr l wi2 g2 tc2 te σ2 H4 N else N σ2 H4)
section
variable{K:PySem.W.Frag}{F H:Hp}{σ:L2.St}{e:En}{cp:List (Nat × Str)}{nT:Nat}
end
section
variable{X:Cx}{K:PySem.W.Frag}{pos:Pos}
end
section
variable{X:Cx}{K:PySem.W.Frag}{pos:Pos}
variable{o:Expr}{fo:FE}{apos cpos:Pos}
end
end L2
namespace L2
open PySem PySem.Spec PyProof.Rows
section
variable{X:Cx}{K:PySem.W.Frag}
def Gv:List Int→Int
  | []=>0
  | x::r=>r.foldl max x
end
end L2
namespace L2
open PySem PySem.Spec PyProof.Rows
structure lP (f:Fr):Prop where
  pos:0 < f.2
  cop:Int.gcd f.1 f.2=1
theorem lP.lowM{t b:Int}(h:0 < b):lP (L2.lowM t b):=by
  obtain⟨d,_,_,_,_,h5⟩:=gG (t:=t) (b:=b) (by lia)
  exact⟨h5,mW (by lia)⟩
theorem lP.pl{a b:Fr}(pa:0 < a.2)(pb:0 < b.2):lP (pl a b):=lP.lowM (Int.mul_pos pa pb)
abbrev Pg:=List Int × Int
def Gw(t:iA)(p:Pg):Bool:= !p.1.contains t.one&& !p.1.contains t.other
def E_(t:iA)(p:Pg):Pg:=(p.1++[t.one,t.other],p.2+t.worth)
def Gy(ps:List Pg)(t:iA):List Pg:=ps++(ps.filter (Gw t)).map (E_ t)
def Gx(ts:List iA):List Pg:=ts.foldl Gy [([],0)]
structure FZ (k:Nat) (ps:List Pg):Prop where
  ne:ps≠[]
  len:ps.length≤2 ^ k
  pt:∀p∈ps,p.1.length≤2*k∧0≤p.2∧p.2≤1000*(k:Int)
def F9(ts:List iA):Int:=Gv ((Gx ts).map (·.2))
end L2
namespace L2
open PySem PySem.Spec PyProof.Rows
end L2
namespace L2
open PySem PySem.Spec PyProof.Rows
section
variable{prog:Program}{w:World}{A:Around}{E:Value→Shared→Prop}{s:Shared}
end
section
variable{X:Cx}{a:Expr}{ta:TA}{p p2 pos pos2:Pos}
variable{K:PySem.W.Frag}{fs:FA}{p3:Pos}
end
end L2
namespace L2
open PySem PySem.Spec PyProof.Rows
def yx:PyData→Bool
  | .int _=>true
  | _=>false
theorem kN{α:Type}(p:α→Bool):∀(ds:List α),kL (ds.map fun d=>PyData.bool (p d))=some (ds.map p)
  | []=>rfl
  | d::r=>by simp [kL,kN p r]
theorem wq{α:Type}{e:En}(p:α→Bool)(ds:List α):g1 (ij qt) e [.l (ds.map fun d=>.bool (p d))]=some (.d (.bool (ds.all p))):=by
  simp [g1,ij,dY,qt,kN p,List.all_map]
theorem wu{α:Type}{e:En}(p:α→Bool)(ds:List α):g1 (ij qu) e [.l (ds.map fun d=>.bool (p d))]=some (.d (.bool (ds.any p))):=by
  simp [g1,ij,dY,qu,kN p,List.any_map]
theorem cut_len{xs:List PyData}{lo hi:Option Int}:(cutD xs lo hi).length≤xs.length:=by
  unfold cutD
  rw [List.length_take,List.length_drop]
  lia
theorem kO{g:FG}{ft:FT}{fe:FE}(P:Nat→En→Prop)(R:PyData→Prop):∀(items:List PyData) (k:Nat) (e:En) (acc:List PyData),(∀i x e,items[i]?=some x→P (k+i) e→∃e1 r d e2,g x e=some e1∧ft e1=some (true,e1)∧fe e1=some (r,e2)∧pB r=some d∧R d∧P (k+i+1) e2)→P k e→acc.length+items.length≤1000000→
    ∃out e',eD g ft fe items e acc=some (acc++out,e')∧out.length=items.length∧(∀d∈out,R d)∧P (k+items.length) e'
  | [],k,e,acc,_,h,_=>⟨[],e,by simp [eD],rfl,(fun _ h=>by cases h),h⟩
  | x::r,k,e,acc,hs,h,hl=>by
    obtain⟨e1,v,d,e2,h1,h2,h3,h3',h4,h5⟩:=hs 0 x e rfl h
    simp only [List.length_cons] at hl
    obtain⟨out,e',h6,h7,h8,h9⟩:=kO P R r (k+1) e2 (acc++[d]) (fun i y e hy hp=>by
      have:=hs (i+1) y e (by simpa using hy) (by rw [show k+(i+1)=k+1+i by lia];exact hp)
      rw [show k+(i+1)+1=k+1+i+1 by lia] at this
      exact this) (by simpa using h5) (by simp;lia)
    refine⟨d::out,e',?_,by simp [h7],fun y hy=>?_,by rw [List.length_cons,show k+(r.length+1)=k+1+r.length by lia];exact h9⟩
    · unfold eD
      simp only [h1,h2,h3,h3',Option.bind_some,if_true]
      rw [if_pos (by lia),h6]
      simp
    · rcases List.mem_cons.mp hy with rfl | hy
      · exact h4
      · exact h8 y hy
theorem o5{cp:List (Nat × Str)}{nT:Nat}{fi:FI}{g:FG}{ft:FT}{fe:FE}{e e1 eo:En}{items out:List PyData}(h1:fi e=some (items,[],e1))(h3:eD g ft fe items (rO cp nT e1) []=some (out,eo))(hb:mv cp eo e1=true):eu cp nT fi g ft fe e=some (.l out,kD (j' cp) eo e1):=by
  unfold eu
  rw [h1]
  simp only [Option.bind_some,List.all_nil,if_true,h3]
  rw [if_pos hb]
theorem oE{own:ir}{g:FG}{f:FS}{Z:Rv}(ok:PyData→Bool)(P Q:En→Prop):∀(items:List PyData) (e:En),(∀x∈items,∀e,P e→∃e1,g x e=some e1∧(ok x=true→∃e2,f e1=some (.nx e2)∧keeps own e2∧P e2)∧(ok x=false→∃e2,f e1=some (.rt Z e2)∧Q e2))→P e→
    (items.all ok=true→∃e',iw own g f items e=some (.nx e')∧P e')∧(items.all ok=false→∃e',iw own g f items e=some (.rt Z e')∧Q e')
  | [],e,_,h=>⟨fun _=>⟨e,rfl,h⟩,fun z=>by simp at z⟩
  | x::r,e,hs,h=>by
    obtain⟨e1,h1,h2,h3⟩:=hs x (by simp) e h
    rw [List.all_cons]
    cases c:ok x with
    | true=>
      obtain⟨e2,h4,h5,h6⟩:=h2 c
      have ih:=oE ok P Q r e2 (fun y hy=>hs y (by simp [hy])) h6
      rw [Bool.true_and]
      have e0:iw own g f (x::r) e=iw own g f r e2:=by
        simp only [iw,h1,h4,Option.bind_some]
        rw [if_pos h5]
      rw [e0]
      exact ih
    | false=>
      obtain⟨e2,h4,h5⟩:=h3 c
      refine⟨fun z=>by simp at z,fun _=>⟨e2,?_,h5⟩⟩
      simp only [iw,h1,h4,Option.bind_some]
end L2
namespace L2
open PySem PySem.Spec PyProof.Rows
mutual
def u_:Nat→PyData→Bool
  | _,.none=>true
  | _,.bool _=>true
  | _,.int i=>decide (i.natAbs < 2 ^ 128)
  | _,.str x=>PyData.strOk x&&decide (x.length≤10)
  | k,.list xs=>decide (0 < k)&&m9 (k - 1) xs
  | k,.tuple xs=>decide (0 < k)&&m9 (k - 1) xs
  | _,.dict _=>false
def m9:Nat→List PyData→Bool
  | _,[]=>true
  | k,x::r=>u_ k x&&m9 k r
end
mutual
def wt:PyData→Nat
  | .list xs=>nY xs+1
  | .tuple xs=>nY xs+1
  | .dict _=>1
  | .none=>1
  | .bool _=>1
  | .int _=>1
  | .str _=>1
def nY:List PyData→Nat
  | []=>0
  | x::r=>wt x+nY r
end
theorem rB:∀(ts:List Str) (k:Nat) (acc:Str),(textFrom k acc ts).length≤acc.length+piled ts
  | [],_,acc=>by show acc.length≤acc.length+0;lia
  | t::r,k,acc=>by
    have ih:=rB r (k+1) (acc++(if k > 0 then ", " else "":String)++t)
    have e:(acc++(if k > 0 then ", " else "":String)++t).length≤acc.length+2+t.length:=by
      rw [strLen_append,strLen_append]
      have:(Str.ofString (if k > 0 then ", " else "")).length≤2:=by split<;>decide
      lia
    show(textFrom (k+1) _ r).length≤_
    rw [hR];lia
theorem qE(ts:List Str):(listText ts).length≤piled ts+2:=by
  unfold listText
  rw [strLen_append]
  have h:=rB ts 0 "["
  have h1:(("[":Str)).length=1:=by decide
  have h2:(("]":Str)).length=1:=by decide
  lia
theorem nR:∀(ts:List Str) (k:Nat) (acc:Str),PyData.strOk acc=true→(∀t∈ts,PyData.strOk t=true)→PyData.strOk (textFrom k acc ts)=true
  | [],_,acc,h,_=>h
  | t::r,k,acc,h,hs=>nR r (k+1) _ (dZ (dZ h (bM _)) (hs t (by simp))) fun u hu=>hs u (by simp [hu])
theorem oW{ts:List Str}(h:∀t∈ts,PyData.strOk t=true):PyData.strOk (listText ts)=true:=dZ (nR ts 0 _ (bM _) h) (bM _)
structure CQ (d:PyData) (k:Nat):Prop where
  lay:d.canLay0=true
  sh:d.showable=true
  dp:d.depth≤k
  ln:d.shown.length+2≤104*wt d
  so:PyData.strOk d.shown=true
theorem mq{d:PyData}{n:Nat}{k:Nat}(h:Sz n 0 d∨Sz n 2 d)(hn:n≤102)(hw:wt d=1)(hl:d.canLay0=true)(hd:d.depth=0):CQ d k:=by
  rcases h with h | h<;>exact⟨hl,h.sh,by lia,by have:=h.ln;lia,h.so⟩
mutual
theorem jq{k:Nat}:∀{d:PyData},u_ k d=true→CQ d k
  | .none,_=>⟨rfl,rfl,by simp [PyData.depth],by show(Str.ofString "None").length+2≤104*1;decide,bM _⟩
  | .bool b,_=>mq (.inr Sz.bool) (by decide) rfl rfl (by simp [PyData.depth])
  | .int i,h=>by
    simp only [u_,decide_eq_true_eq] at h
    exact mq (.inr (Sz.int10 (n:=39) (m:=128) (show Bt 128 i from h) (by decide) (by decide) (Nat.lt_of_lt_of_le h (by decide)) (by decide))) (by decide) rfl rfl (by simp [PyData.depth])
  | .str x,h=>by
    simp only [u_,Bool.and_eq_true,decide_eq_true_eq] at h
    exact mq (.inr (Sz.str (n:=10) h.1 h.2)) (by decide) rfl (by simpa [PyData.canLay0] using h.1) (by simp [PyData.depth])
  | .dict _,h=>by simp [u_] at h
  | .list xs,h=>by
    simp only [u_,Bool.and_eq_true,decide_eq_true_eq] at h
    obtain⟨a1,a2,a3,a4,a5⟩:=pj h.2
    have:=qE (PyData.shownAll xs)
    refine⟨by simpa [PyData.canLay0] using a1,a2,by simp only [PyData.depth];lia,by simp only [PyData.shown,wt];lia,by simp only [PyData.shown];exact oW a5⟩
  | .tuple xs,h=>by
    simp only [u_,Bool.and_eq_true,decide_eq_true_eq] at h
    obtain⟨a1,a2,a3,a4,a5⟩:=pj h.2
    have:=ly (PyData.shownAll xs)
    refine⟨by simpa [PyData.canLay0] using a1,a2,by simp only [PyData.depth];lia,by simp only [PyData.shown,wt];lia,by simp only [PyData.shown];exact oY a5⟩
theorem pj{k:Nat}:∀{ds:List PyData},m9 k ds=true→PyData.canLayAll0 ds=true∧PyData.showableAll ds=true∧PyData.depthAll ds≤k∧piled (PyData.shownAll ds)≤104*nY ds∧∀t∈PyData.shownAll ds,PyData.strOk t=true
  | [],_=>⟨rfl,rfl,by simp [PyData.depthAll],by simp [PyData.shownAll,piled],by simp [PyData.shownAll]⟩
  | d::r,h=>by
    simp only [m9,Bool.and_eq_true] at h
    obtain⟨a1,a2,a3,a4,a5⟩:=jq h.1
    obtain⟨b1,b2,b3,b4,b5⟩:=pj h.2
    refine⟨by simp only [PyData.canLayAll0,a1,b1,Bool.and_self],by simp only [PyData.showableAll,a2,b2,Bool.and_self],by simp only [PyData.depthAll];lia,by simp only [PyData.shownAll,hR,nY];lia,fun t ht=>?_⟩
    simp only [PyData.shownAll,List.mem_cons] at ht
    rcases ht with rfl | ht
    · exact a5
    · exact b5 t ht
end
def cX(n:Int):PyData→Bool
  | .tuple ds=>(ds.length:Int)==n
  | _=>false
def lR:PyData→Bool
  | .tuple [.int t,.int b]=>decide (1≤b)&&decide (Int.gcd t b=1)
  | _=>false
theorem wx{e:En}{xs:List PyData}{neg:Bool}(hs:SeqAt.shaped (.tuple xs)=true):cg neg e (.d (.tuple xs)) (.d (.tuple []))=some (.d (.bool (if neg then !xs.isEmpty else xs.isEmpty))):=by
  unfold cg
  simp only [ii,Option.bind_some,hs]
  have h0:SeqAt.shaped (.tuple [])=true:=by simp [SeqAt.shaped,PyData.canLay0,PyData.canLayAll0,PyData.depth,PyData.depthAll]
  rw [h0]
  cases xs<;>simp [PyData.eqv,PyData.eqvAll]
theorem wz{e:En}{s:Str}(h:PyData.strOk s=true):cg true e (.d (.str s)) (.d (.str s))=some (.d (.bool false)):=by
  unfold cg
  simp only [ii,Option.bind_some]
  have h0:SeqAt.shaped (.str s)=true:=by simp [SeqAt.shaped,PyData.canLay0,PyData.depth,h]
  rw [h0]
  simp [PyData.eqv]
theorem Ek{d:PyData}(h:cX 2 d=true):∃x y,d=.tuple [x,y]:=by
  cases d with
  | tuple ds=>
    rcases ds with _ | ⟨x,_ | ⟨y,_ | ⟨z,r⟩⟩⟩
    · simp [cX] at h
    · simp [cX] at h
    · exact⟨x,y,rfl⟩
    · simp [cX] at h;lia
  | _=>simp [cX] at h
theorem Cj{d:PyData}(h:cX 4 d=true):∃x y z w,d=.tuple [x,y,z,w]:=by
  cases d with
  | tuple ds=>
    rcases ds with _ | ⟨x,_ | ⟨y,_ | ⟨z,_ | ⟨w,_ | ⟨v,r⟩⟩⟩⟩⟩
    · simp [cX] at h
    · simp [cX] at h
    · simp [cX] at h
    · simp [cX] at h
    · exact⟨x,y,z,w,rfl⟩
    · simp [cX] at h;lia
  | _=>simp [cX] at h
theorem l5{d:PyData}(h:yx d=true):∃i,d=.int i:=by
  cases d with
  | int i=>exact⟨i,rfl⟩
  | _=>simp [yx] at h
theorem wy{e:En}{a b c d:Int}:cg false e (.d (.tuple [.int a,.int b])) (.d (.tuple [.int c,.int d]))=some (.d (.bool (a==c&&b==d))):=by
  unfold cg
  have h0:∀x y:Int,SeqAt.shaped (.tuple [.int x,.int y])=true:=fun x y=>by simp [SeqAt.shaped,PyData.canLay0,PyData.canLayAll0,PyData.depth,PyData.depthAll]
  simp only [ii,Option.bind_some,h0,Bool.and_self,if_true]
  simp [PyData.eqv,PyData.eqvAll]
theorem vM{b:Int}(h:b.natAbs.log2 < 1920)(h0:b≠0):Bt 4000 b:=Bt.mono (m:=1920) ((Nat.log2_lt (by lia)).mp h) (by decide)
theorem y6{t b:Int}(hb:0 < b):((lowM t b).1==t&&(lowM t b).2==b)=decide (Int.gcd t b=1):=by
  rw [Bool.eq_iff_iff]
  simp only [Bool.and_eq_true,beq_iff_eq,decide_eq_true_eq]
  constructor
  · rintro⟨h1,h2⟩
    have:=mW (t:=t) (b:=b) (by lia)
    rwa [h1,h2] at this
  · intro h
    unfold lowM
    rw [if_neg (by lia),h]
    simp
theorem jN{ds:List PyData}(h:PyData.showableAll ds=true):∀d∈ds,d.showable=true:=fun d hd=>by
  induction ds with
  | nil=>cases hd
  | cons x r ih=>
    simp only [PyData.showableAll,Bool.and_eq_true] at h
    rcases List.mem_cons.mp hd with rfl | hd
    · exact h.1
    · exact ih h.2 hd
end L2
namespace L2
open PySem PySem.Spec PyProof.Rows
section
variable{X:Cx}{K:PySem.W.Frag}
variable{a b:Expr}{fa fb:FE}{pos:Pos}
end
end L2
namespace L2
open PySem PySem.Spec PyProof.Rows
def tx(s:Str):List Nat:=s.cps.toList
end L2
namespace L2
open PySem PySem.Spec PyProof.Rows
end L2
namespace L2
open PySem PySem.Spec PyProof.Rows
end L2
namespace L2
open PySem PySem.Spec PyProof.Rows
section
variable{X:Cx}{K:PySem.W.Frag}{es:List Expr}{k0:Nat}{tp:Pos}{a b:Expr}{fs:FA}{p pos:Pos}
end
end L2
namespace L2
open PySem PySem.Spec PyProof.Rows
def Gu(x:Nd)(b:Bool):Int:=if b=true then x.yes else x.no
def AD(T:List Nd)(i:Nat)(b:Bool):Int:=match T[i]? with
  | some x=>Gu x b
  | none=> -1
def E8(T:List Nd):Prop:=∀(i j:Nat) (a b:Bool),AD T i a=AD T j b→AD T i a≠ -1→i=j∧a=b
def FP(w:Wt):Int × Int:=(w.par,w.side)
structure GD (T:List Nd) (ws:List Wt):Prop where
  unq:E8 T
  rng:∀i a,AD T i a= -1∨(0 < AD T i a∧AD T i a < (T.length:Int))
  free:∀w∈ws,w.par= -1∨(0≤w.par∧w.par < (T.length:Int)∧AD T w.par.toNat (w.side==0)= -1)
  dst:(ws.map FP).Nodup
  side:∀w∈ws,w.side=0∨w.side=1
structure GF (T:List Nd) (w0 ws order:List Int):Prop where
  nd:(order++ws).Nodup
  par:∀v∈order++ws,v=0∨∃u∈order,∃b,AD T u.toNat b=v∧v≠ -1
  fst:(order=[]∧ws=w0)∨order[0]?=some 0
end L2
namespace L2
open PySem PySem.Spec PyProof.Rows
section
variable{prog:Program}{w:World}{A:Around}{E:Value→Shared→Prop}{s:Shared}
end
section
variable{X:Cx}{tg a:Expr}{ta:TA}{p pos:Pos}
end
section
variable{X:Cx}{K:PySem.W.Frag}{σ:L2.St}{tg a:Expr}{fs:FA}{p pos:Pos}
end
end L2
namespace L2
open PySem PySem.Spec PyProof.Rows
section
variable{X:Cx}{a k:Expr}{p2 pos:Pos}{fa fk:FE}{K:PySem.W.Frag}
section
variable{prog:Program}{w:World}{A:Around}{E:Value→Shared→Prop}{s:Shared}
end
end
end L2
namespace L2
open PySem PySem.Spec PyProof.Rows
section
variable{X:Cx}{a b:Expr}{ta:TA}{p p2 pos pos2:Pos}{K:PySem.W.Frag}{fs:FA}
end
section
variable{X:Cx}{o i e:Expr}{fo fi:FE}{tpos pos:Pos}{K:PySem.W.Frag}
end
end L2
namespace L2
open PySem PySem.Spec PyProof.Rows
section
variable{X:Cx}{K:PySem.W.Frag}
def Ea(K:PySem.W.Frag)(neg:Bool):R2:=fun x y H Q=>∃a b xs,x=.ref a∧y=.ref b∧eI K H a xs∧eI K H b []∧Q (.bl (if neg then !xs.isEmpty else xs.isEmpty)) H
theorem BE(hu:X.A.units < cLine):gu X (compareOp .Eq) (Ea X.K false):=by
  intro pins s σ H x y v u Q I rx ry h
  exact BD hu pins s σ H x y v u Q I rx ry h
def r_(neg:Bool):En→Rv→Rv→Option Rv:=fun e x y=>(dY e x).bind fun a=>(dY e y).bind fun b=>if a.1=true∧b.1=true∧b.2.isEmpty=true then some (.d (.bool (if neg then !a.2.isEmpty else a.2.isEmpty))) else none
theorem Dh{neg:Bool}:gq K (Ea K neg) (r_ neg):=by
  intro σ H0 F H e x y z v u Q R A B hg q
  unfold r_ at hg
  obtain⟨⟨b1,xs⟩,h1,hg⟩:=Option.bind_eq_some_iff.mp hg
  obtain⟨⟨b2,ys⟩,h2,hg⟩:=Option.bind_eq_some_iff.mp hg
  split at hg
  case isFalse=>cases hg
  case isTrue hl=>
  cases hg
  obtain⟨z1,z2,z3⟩:=hl
  dsimp only at z1 z2 z3
  subst z1 z2
  have z4:ys=[]:=List.isEmpty_iff.mp z3
  subst z4
  obtain⟨p,vs,rfl,d1,s1⟩:=dH R A h1
  obtain⟨p',vs',rfl,d2,s2⟩:=dH R B h2
  have e2:vs'=[]:=by simpa only [aJ] using d2
  subst e2
  rw [if_pos rfl] at s1 s2
  refine⟨p,p',vs,rfl,rfl,s1,s2,?_⟩
  have e1:vs.isEmpty=xs.isEmpty:=by
    have:=d1.len
    cases xs with
    | nil=>cases vs with
      | nil=>rfl
      | cons=>simp at this
    | cons=>cases vs with
      | nil=>simp at this
      | cons=>rfl
  rw [e1]
  exact q F H _ (dJ.refl _ _ _ _) R dD
theorem Av{k:Nat}(hK:X.K=K)(hr:cQ k X.A):nZ X K .Eq (r_ false):=⟨_,hK ▸ BE hr.units0,Dh⟩
end
end L2
namespace L2
open PySem PySem.Spec PyProof.Rows
section
open PySem.MeetsSeq2 PySem.AutoSeq1 PySem.SeqAt
end
section
variable{X:Cx}{K:PySem.W.Frag}{o a:Expr}{to te:TE}{name:Str}{apos cpos:Pos}{T id:String}{r:V→List V→Hp→VK→Prop}{fo fa:FE}
end
end L2
namespace L2
open PySem PySem.Spec PyProof.Rows
section
variable{X:Cx}{K:PySem.W.Frag}{o a:Expr}{apos cpos:Pos}{fo fa:FE}
end
end L2
namespace L2
open PySem PySem.Spec PyProof.Rows
section
variable{K:PySem.W.Frag}{F H:Hp}{σ:L2.St}{e:En}{cp:List (Nat × Str)}{nT:Nat}
end
section
variable{X:Cx}{K:PySem.W.Frag}{a b:Expr}{es:List Expr}{fa fb:FE}{fs:FA}{pos p p2 p3:Pos}{lo hi:Option Expr}
end
end L2
namespace L2
open PySem PySem.Spec PyProof.Rows
section
variable{X:Cx}{K:PySem.W.Frag}
end
end L2
namespace L2
open PySem PySem.Spec PyProof.Rows
section
variable{X:Cx}{K:PySem.W.Frag}{a b:Expr}{fa fb:FE}{pos:Pos}
end
end L2
namespace L2
open PySem PySem.Spec PyProof.Rows
section
variable{X:Cx}{K:PySem.W.Frag}
end
end L2
namespace L2
open PySem PySem.Spec PyProof.Rows
mutual
theorem jw:∀(d:PyData),gD d=true→fv d=true
  | .none,_=>rfl
  | .bool _,_=>rfl
  | .int _,_=>rfl
  | .str _,_=>rfl
  | .tuple ds,h=>by simp only [fv];exact lE ds (by simpa [gD] using h)
  | .list ds,h=>by simp [gD] at h
  | .dict _,h=>by simp [gD] at h
theorem lE:∀(ds:List PyData),i0 ds=true→er ds=true
  | [],_=>rfl
  | d::r,h=>by
    simp only [i0,Bool.and_eq_true] at h
    simp only [er,jw d h.1,lE r h.2,Bool.and_self]
end
structure Sw (b:Bool) (n dep:Nat) (d:PyData):Prop where
  dl:bif b then fv d=true else d.hasDict=false
  sh:d.showable=true
  dp:d.depth≤dep
  ln:d.shown.length+2≤n
  so:PyData.strOk d.shown=true
theorem Sw.mono{b:Bool}{n m dep e:Nat}{d:PyData}(h:Sw b n dep d)(h1:n≤m)(h2:dep≤e):Sw b m e d:=⟨h.dl,h.sh,Nat.le_trans h.dp h2,Nat.le_trans h.ln h1,h.so⟩
theorem Sz.sw{n dep:Nat}{d:PyData}(h:Sz n dep d)(b:Bool):Sw b (n+2) dep d:=⟨by cases b;exact fQ d h.fl;exact jw d h.fl,h.sh,h.dp,by have:=h.ln;lia,h.so⟩
theorem CQ.sw{k:Nat}{d:PyData}(h:CQ d k):Sw false (104*wt d) k d:=⟨PyData.hasDict_of_canLay d h.lay,h.sh,h.dp,h.ln,h.so⟩
theorem CQ.swF{k:Nat}{d:PyData}(h:CQ d k)(f:gD d=true)(b:Bool):Sw b (104*wt d) k d:=⟨by cases b;exact fQ d f;exact jw d f,h.sh,h.dp,h.ln,h.so⟩
theorem Sw.all{b:Bool}{n dep:Nat}:∀{ds:List PyData},(∀d∈ds,Sw b n dep d)→(bif b then er ds=true else PyData.hasDictAll ds=false)∧PyData.showableAll ds=true∧PyData.depthAll ds≤dep∧piled (PyData.shownAll ds)≤ds.length*n∧∀t∈PyData.shownAll ds,PyData.strOk t=true
  | [],_=>⟨by cases b<;>rfl,rfl,by simp [PyData.depthAll],by simp [PyData.shownAll,piled],by simp [PyData.shownAll]⟩
  | d::r,h=>by
    obtain⟨a1,a2,a3,a4,a5⟩:=h d (by simp)
    obtain⟨b1,b2,b3,b4,b5⟩:=Sw.all (ds:=r) fun x hx=>h x (by simp [hx])
    refine⟨?_,?_,?_,?_,?_⟩
    · cases b
      · simp only [cond_false] at a1 b1 ⊢;simp only [PyData.hasDictAll,a1,b1,Bool.or_self]
      · simp only [cond_true] at a1 b1 ⊢;simp only [er,a1,b1,Bool.and_self]
    · simp only [PyData.showableAll,a2,b2,Bool.and_self]
    · simp only [PyData.depthAll];lia
    · simp only [PyData.shownAll,hR,List.length_cons,Nat.succ_mul];lia
    · intro t ht
      simp only [PyData.shownAll,List.mem_cons] at ht
      rcases ht with rfl | ht
      · exact a5
      · exact b5 t ht
theorem Sw.tup{b:Bool}{n dep m:Nat}{ds:List PyData}(h:∀d∈ds,Sw b n dep d)(hl:ds.length≤m):Sw b (m*n+5) (dep+1) (.tuple ds):=by
  obtain⟨b1,b2,b3,b4,b5⟩:=Sw.all h
  refine⟨by cases b<;>simpa [fv,PyData.hasDict] using b1,b2,by simp only [PyData.depth];lia,?_,by simp only [PyData.shown];exact oY b5⟩
  have h2:=ly (PyData.shownAll ds)
  have:=Nat.mul_le_mul_right n hl
  simp only [PyData.shown]
  lia
theorem Sw.lst{n dep m:Nat}{ds:List PyData}(h:∀d∈ds,Sw false n dep d)(hl:ds.length≤m):Sw false (m*n+5) (dep+1) (.list ds):=by
  obtain⟨b1,b2,b3,b4,b5⟩:=Sw.all h
  refine⟨by simpa [PyData.hasDict] using b1,b2,by simp only [PyData.depth];lia,?_,by simp only [PyData.shown];exact oW b5⟩
  have h2:=qE (PyData.shownAll ds)
  have:=Nat.mul_le_mul_right n hl
  simp only [PyData.shown]
  lia
theorem Sw.ok{b:Bool}{n dep:Nat}{d:PyData}(h:Sw b n dep d)(h1:n≤16777216)(h2:dep≤60):ku d=true:=by
  have sl:sizeLine=16777216:=sizeLine_eq
  have hd:(!d.hasDict || fv d)=true:=by
    have:=h.dl
    cases b
    · simp only [cond_false] at this;simp [this]
    · simp only [cond_true] at this;simp [this]
  have:=h.ln
  unfold ku
  rw [hd,h.sh,decide_eq_true (Nat.le_trans h.dp h2),decide_eq_true (show d.shown.length≤sizeLine by rw [sl];lia)]
  simp
theorem Sw.repr{b:Bool}{n dep:Nat}{d:PyData}(h:Sw b n dep d)(h1:n≤16777216)(h2:dep≤60)(e:En):g1 lF e [.d d]=some (.d (.str d.shown)):=yS (h.ok h1 h2)
theorem Sw.int{b:Bool}{i:Int}(h:i.natAbs < 2 ^ 128):Sw b 200 0 (.int i):=((jq (k:=0) (d:=.int i) (by simp only [u_,decide_eq_true_eq];exact h)).swF rfl b).mono (by simp [wt]) (by decide)
theorem Sw.ints{b:Bool}{ns:List Int}{m:Nat}(h:∀r∈ns,r.natAbs < 2 ^ 128)(hl:ns.length≤m):Sw b (m*200+5) 1 (.tuple (ns.map .int)):=Sw.tup (n:=200) (dep:=0) (fun d hd=>by
  obtain⟨x,hx,rfl⟩:=List.mem_map.mp hd
  exact Sw.int (h x hx)) (by rw [List.length_map];exact hl)
theorem Sw.bool{b c:Bool}:Sw b 200 0 (.bool c):=((jq (k:=0) (d:=.bool c) rfl).swF rfl b).mono (by simp [wt]) (by decide)
end L2
namespace L2
open PySem PySem.Spec PyProof.Rows
def vz:List Fr→Int
  | []=>1
  | f::r=>f.2*vz r
structure S1 (n:Nat) (f:Fr):Prop where
  low:lP f
  lo:0≤f.1
  hi:f.1≤f.2
  bt:Bt n f.2
theorem S1.top{n:Nat}{f:Fr}(h:S1 n f):Bt n f.1:=h.bt.of_le (by have:=h.lo;have:=h.hi;lia)
def ie(t:iA):Fr:=(t.top,t.bot)
theorem A8{W:bz}(ok:W.Ok){t:iA}(ht:t∈W.ties):S1 7 (ie t):=by
  have o:=ok.ties t ht
  exact⟨⟨by have:=o.b0;show 0 < t.bot;lia,o.cop⟩,o.c0,o.c1,by have:=o.b1;have:=o.b0;show Bt 7 t.bot;unfold Bt;lia⟩
structure GH (b f g:Fr):Prop where
  pf:0 < f.2
  pg:0 < g.2
  eq:g.1*(f.2*b.1)=g.2*(f.1*b.2)
end L2
namespace L2
open PySem PySem.Spec PyProof.Rows
def vR(f:Fr):Rat:=(f.1:Rat) / (f.2:Rat)
theorem bU{b:Int}(h:0 < b):(b:Rat)≠0:=fun e=>by
  have:b=0:=by exact_mod_cast e
  lia
theorem qd{t b:Int}(hb:0 < b):vR (lowM t b)=(t:Rat) / (b:Rat):=by
  have c:=sC (t:=t) (b:=b) (Int.ne_of_gt hb)
  have p:=(lP.lowM (t:=t) hb).pos
  have c':((lowM t b).1:Rat)*(b:Rat)=((lowM t b).2:Rat)*(t:Rat):=by exact_mod_cast c
  have h1:=bU hb
  have h2:=bU p
  unfold vR
  generalize ((lowM t b).1:Rat)=x at*
  generalize ((lowM t b).2:Rat)=y at*
  generalize (b:Rat)=z at*
  generalize (t:Rat)=w at*
  grind
theorem iU{a b:Fr}(ha:0 < a.2)(hb:0 < b.2):vR (pl a b)=vR a+vR b:=by
  have h:=qd (t:=a.1*b.2+b.1*a.2) (Int.mul_pos ha hb)
  have h1:=bU ha
  have h2:=bU hb
  change vR (pl a b)=_ at h
  rw [h]
  unfold vR
  rw [Rat.intCast_add,Rat.intCast_mul,Rat.intCast_mul,Rat.intCast_mul]
  generalize (a.1:Rat)=x at*
  generalize (a.2:Rat)=y at*
  generalize (b.1:Rat)=z at*
  generalize (b.2:Rat)=w at*
  grind
theorem AL{a b:Fr}(ha:0 < a.2)(hb:0 < b.2):vR (tm a b)=vR a*vR b:=by
  have h:=qd (t:=a.1*b.1) (Int.mul_pos ha hb)
  have h1:=bU ha
  have h2:=bU hb
  change vR (tm a b)=_ at h
  rw [h]
  unfold vR
  rw [Rat.intCast_mul,Rat.intCast_mul]
  generalize (a.1:Rat)=x at*
  generalize (a.2:Rat)=y at*
  generalize (b.1:Rat)=z at*
  generalize (b.2:Rat)=w at*
  grind
theorem CN:vR (0,1)=0:=by unfold vR;simp;grind
theorem qc(n:Int):vR (n,1)=(n:Rat):=by unfold vR;simp;grind
end L2
namespace L2
open PySem PySem.Spec PyProof.Rows
end L2
namespace L2
open PySem PySem.Spec PyProof.Rows
structure GE (O:bz) (ss ws:List Std):Prop where
  len:ss.length=ws.length
  at':∀j,(ss.getD j ([],[])).1=(ws.getD j ([],[])).1∧(ss.getD j ([],[])).2.length≤2*(ss.getD j ([],[])).1.length∧∀k∈(ss.getD j ([],[])).1,rM O k
structure GC (O:bz) (T:List Nd):Prop where
  tie:∀(i:Nat) (x:Nd),T[i]?=some x→rM O x.tie
  lk:∀(i:Nat) (x:Nd),T[i]?=some x→(-1≤x.yes∧x.yes < (T.length:Int))∧(-1≤x.no∧x.no < (T.length:Int))
def eF(O:bz)(T:List Nd):Bool:=T.all fun x=>decide (0≤x.tie)&&decide (x.tie < (O.ties.length:Int))
end L2
namespace L2
open PySem PySem.Spec PyProof.Rows
mutual
def uZ:PyData→Bool
  | .list _=>false
  | .tuple ds=>tY ds
  | _=>true
def tY:List PyData→Bool
  | []=>true
  | d::ds=>uZ d&&tY ds
end
section
variable{K:PySem.W.Frag}
mutual
theorem tX{F F':Hp}(h:∀a o,F a=some o→(∀vs,o≠.lst vs)→F' a=some o):∀{d:PyData} {v:V},uZ d=true→DA K F d v→DA K F' d v
  | .none,_,_,q=>by simp only [DA] at q ⊢;exact q
  | .bool b,_,_,q=>by simp only [DA] at q ⊢;exact q
  | .int i,_,_,q=>by simp only [DA] at q ⊢;exact q
  | .str x,_,_,q=>by simp only [DA] at q ⊢;exact q
  | .tuple ds,_,n,q=>by
    simp only [DA] at q ⊢
    obtain⟨a,xs,e,s,r⟩:=q
    refine⟨a,xs,e,?_,qL h (by simpa only [uZ] using n) r⟩
    rcases s with (s | ⟨o,s⟩) | s
    · exact .inl (.inl (h _ _ s fun _ z=>nomatch z))
    · exact .inl (.inr ⟨o,h _ _ s fun _ z=>nomatch z⟩)
    · exact .inr s
  | .list ds,_,n,q=>by simp [uZ] at n
  | .dict _,_,_,q=>by
    simp only [DA] at q ⊢
    obtain⟨a,m,e,s,k⟩:=q
    exact⟨a,m,e,(h _ _ s fun _ z=>nomatch z),k⟩
theorem qL{F F':Hp}(h:∀a o,F a=some o→(∀vs,o≠.lst vs)→F' a=some o):∀{ds:List PyData} {xs:List V},tY ds=true→aJ K F ds xs→aJ K F' ds xs
  | [],_,_,q=>by simp only [aJ] at q ⊢;exact q
  | d::ds,_,n,q=>by
    simp only [aJ] at q ⊢
    simp only [tY,Bool.and_eq_true] at n
    obtain⟨x,r,e,a,b⟩:=q
    exact⟨x,r,e,tX h n.1 a,qL h n.2 b⟩
end
def lD(e:En):List Rv→Option (List PyData)
  | []=>some []
  | .d x::rs=>(lD e rs).map (x::·)
  | .l _::_=>none
  | .s i::rs=>match e[i]? with
    | some (some (.l xs))=>(lD e rs).map (.list xs::·)
    | _=>none
def qq:List Rv→Option (List PyData)
  | []=>some []
  | .d x::rs=>(qq rs).map (x::·)
  | _=>none
def vt(n:Nat)(m:FM)(fa:FE)(ft fr:FA):FE:=fun e=>(fa e).bind fun p=>(ft p.2).bind fun t=>(fr t.2).bind fun s=>(qq (p.1::[])).bind fun x=>(lD s.2 t.1).bind fun ds=>(qq s.1).bind fun ys=>
  (m ((x++.tuple ds::ys).map .d)).bind fun z=>match z.1 with
    | .d y=>if ds.length≤1000∧ys.length+2=n∧uZ y=true then some (.d y,s.2) else none
    | _=>none
variable{X:Cx}{σ:L2.St}{H0 H:Hp}{e:En}
theorem mz{F:Hp}:∀{rs:List Rv} {vs:List V} {ds:List PyData},b7 K σ H0 F H e rs vs→qq rs=some ds→aJ K F ds vs
  | [],_,_,h,q=>by
    cases q
    have h':_=[]:=h
    subst h'
    exact aJ.nil
  | .d x::rs,_,ds,h,q=>by
    obtain⟨v,ws,rfl,h1,h2⟩:=h
    obtain⟨ds',q1,rfl⟩:=Option.map_eq_some_iff.mp q
    exact .cons h1 (mz h2 q1)
theorem mB{F F':Hp}(R:bf K F H σ e)(s:aA F F')(ho:∀a,cV σ e H a→F' a=H a):∀{rs:List Rv} {vs:List V} {ds:List PyData},b7 K σ H0 F H e rs vs→lD e rs=some ds→aJ K F' ds vs
  | [],_,_,h,q=>by
    cases q
    have h':_=[]:=h
    subst h'
    exact aJ.nil
  | .d x::rs,_,ds,h,q=>by
    obtain⟨v,ws,rfl,h1,h2⟩:=h
    obtain⟨ds',q1,rfl⟩:=Option.map_eq_some_iff.mp q
    exact .cons (DA.mono s h1) (mB R s ho h2 q1)
  | .s i::rs,_,ds,h,q=>by
    obtain⟨v,ws,rfl,h1,h2⟩:=h
    unfold lD at q
    match he:e[i]?,q with
    | some (some (.l xs)),q=>
      obtain⟨ds',q1,rfl⟩:=Option.map_eq_some_iff.mp q
      refine .cons ?_ (mB R s ho h2 q1)
      obtain⟨l,vs,g1,g2,g3,g4⟩:=R.own i xs he
      have g5:=h1.1
      rw [g1] at g5;cases g5
      have o:cV σ e H l:=⟨i,.inl ⟨xs,he,g1⟩⟩
      exact dS.mpr ⟨l,vs,rfl,.inl (.inl (by rw [ho l o,g3])),aJ.mono s g4⟩
theorem x9{F:Hp}{ds:List PyData}{vs:List V}(s:aA F H)(h:aJ K F ds vs):bf K F H (vs.map some) ((ds.map Sv.d).map some)∧Bq ((ds.map Sv.d).map some)∧∀a,¬cV (vs.map some) ((ds.map Sv.d).map some) H a:=by
  have key:∀(i:Nat) (z:Sv),((ds.map Sv.d).map some)[i]?=some (some z)→∃x,z=.d x∧ds[i]?=some x:=by
    intro i z hz
    have:=ej.mp hz
    rw [List.getElem?_map] at this
    obtain⟨x,h1,h2⟩:=Option.map_eq_some_iff.mp this
    exact⟨x,h2.symm,h1⟩
  have nf:∀(i:Nat) (a:Addr),¬Fp (vs.map some) ((ds.map Sv.d).map some) H i a:=by
    rintro i a (⟨xs,h1,_⟩ | ⟨xss,l,bs,h1,_⟩)
    · obtain⟨x,z,_⟩:=key i _ h1;cases z
    · obtain⟨x,z,_⟩:=key i _ h1;cases z
  refine⟨⟨s,by simp [h.len],fun i x hx=>?_,fun i xs hx=>?_,fun i xs hx=>?_,fun i j a h1=>absurd h1 (nf i a)⟩,fun i xss hx=>?_,fun a ⟨i,h1⟩=>nf i a h1⟩
  · obtain⟨y,z,hy⟩:=key i _ hx
    cases z
    obtain⟨v,g1,g2⟩:=h.get hy
    exact⟨v,ej.mpr g1,g2⟩
  · obtain⟨y,z,hy⟩:=key i _ hx;cases z
  · obtain⟨y,z,hy⟩:=key i _ hx;cases z
  · obtain⟨y,z,hy⟩:=key i _ hx;cases z
open Classical in
theorem Ai{n:Nat}{m:FM}{fa:FE}{ft fr:FA}{Q:VK}{E:XK}(h:fE K (vt n m fa ft fr) σ H Q):ul (bD K n m) [] E (nS (fE K fa) (nS (Ct (fA K ft)) (fA K fr))) σ H Q:=by
  obtain⟨F,e,z,e',R,hf,q⟩:=h
  unfold vt at hf
  obtain⟨⟨r0,e1⟩,h1,hf⟩:=Option.bind_eq_some_iff.mp hf
  obtain⟨⟨rt,e2⟩,h2,hf⟩:=Option.bind_eq_some_iff.mp hf
  obtain⟨⟨rr,e3⟩,h3,hf⟩:=Option.bind_eq_some_iff.mp hf
  obtain⟨x,k1,hf⟩:=Option.bind_eq_some_iff.mp hf
  obtain⟨ds,k2,hf⟩:=Option.bind_eq_some_iff.mp hf
  obtain⟨ys,k3,hf⟩:=Option.bind_eq_some_iff.mp hf
  obtain⟨⟨rv,as'⟩,k4,hf⟩:=Option.bind_eq_some_iff.mp hf
  match rv,k4,hf with
  | .l _,_,hf=>cases hf
  | .s _,_,hf=>cases hf
  | .d y,k4,hf=>
  simp only at hf
  split at hf
  case isFalse=>cases hf
  case isTrue hc=>
  obtain⟨c1,c2,c3⟩:=hc
  cases hf
  simp only at h2 h3 k1 k2 k3
  refine⟨F,e,r0,e1,R,h1,fun F1 H1 v0 X1 R1 A1=>⟨F1,e1,rt,e2,R1,h2,fun F2 H2 ts X2 R2 A2=>?_⟩⟩
  have lts:ts.length=ds.length:=by
    have:∀{rs:List Rv} {vs:List V} {ds:List PyData},b7 K σ H1 F2 H2 e2 rs vs→lD e' rs=some ds→vs.length=ds.length:=by
      intro rs
      induction rs with
      | nil=>intro vs ds h q;cases q;have h':_=[]:=h;subst h';rfl
      | cons r rs ih=>
        intro vs ds h q
        obtain⟨v,ws,rfl,g1,g2⟩:=h
        cases r with
        | d x=>obtain⟨ds',q1,rfl⟩:=Option.map_eq_some_iff.mp q;simp [ih g2 q1]
        | l x=>cases q
        | s i=>
          unfold lD at q
          match he:e'[i]?,q with
          | some (some (.l xs)),q=>obtain⟨ds',q1,rfl⟩:=Option.map_eq_some_iff.mp q;simp [ih g2 q1]
    exact this A2 k2
  refine⟨Nat.le_of_lt (ls (by lia)),fun p hp=>?_⟩
  obtain⟨R3,X3⟩:=R2.newT (vs:=ts) hp
  refine⟨_,e2,rr,e',R3,h3,fun F4 H4 ws X4 R4 A4=>?_⟩
  have A2':=(A2.ext X3).ext X4
  have A1':=((A1.ext X2).ext X3).ext X4
  have hp4:F4 p=some (.tup ts):=X4.sf _ _ aG
  let F5:Hp:=fun a=>if cV σ e' H4 a then H4 a else F4 a
  have s45:aA F4 F5:=fun a o ha=>by
    show(if cV σ e' H4 a then H4 a else F4 a)=some o
    split
    · exact R4.sm _ _ ha
    · exact ha
  have s5:aA F5 H4:=fun a o ha=>by
    change (if cV σ e' H4 a then H4 a else F4 a)=some o at ha
    split at ha
    · exact ha
    · exact R4.sm _ _ ha
  have D1:aJ K F5 x [v0]:=aJ.mono s45 (mz (rs:=[r0]) (vs:=[v0]) (H0:=H) (H:=H4) (σ:=σ) (e:=e') ⟨v0,[],rfl,A1',rfl⟩ k1)
  have D2:aJ K F5 ds ts:=mB R4 s45 (fun a ha=>if_pos ha) A2' k2
  have D3:aJ K F5 ys ws:=aJ.mono s45 (mz A4 k3)
  have DT:aJ K F5 (x++.tuple ds::ys) (v0::.ref p::ws):=aJ.append D1 (.cons (di.mpr ⟨p,ts,rfl,.inl (.inl (s45 _ _ hp4)),D2⟩) D3)
  obtain⟨RA,nN,nO⟩:=x9 s5 DT
  have lx:x.length=1:=by simpa using D1.len
  refine⟨?_,F5,_,.d y,as',?_,nN,k4,trivial,fun F' H' v X5 R5 A5=>?_⟩
  · have:=DT.len
    simp only [List.length_append,List.length_cons,List.length_nil] at this ⊢
    lia
  · simpa using RA
  · simp only [List.append_nil] at X5 R5 A5
    let F6:Hp:=fun a=>if cV σ e' H4 a then none else F' a
    have f6:∀a,¬cV σ e' H4 a→F6 a=F' a:=fun a ha=>if_neg ha
    have sH:∀a o,H4 a=some o→H' a=some o:=fun a o ha=>X5.tmp a o ha (nO a)
    have s46:aA F4 F6:=fun a o ha=>by
      have no:¬cV σ e' H4 a:=fun⟨i,hi⟩=>by rw [(R4.fpAt hi).1] at ha;cases ha
      rw [f6 a no]
      exact X5.sf _ _ (s45 _ _ ha)
    have s6:aA F6 H':=fun a o ha=>by
      change (if cV σ e' H4 a then none else F' a)=some o at ha
      split at ha
      · cases ha
      · exact R5.sm _ _ ha
    obtain⟨R6,o6⟩:=R4.keep s46 s6 (fun a ha=>if_pos ha) fun a o _ ha=>sH a o ha
    have X6:dJ σ F4 H4 e' F6 H' e':=⟨s46,X5.dom,fun a vs g1 g2 g3=>by
      rw [f6 a g3]
      exact X5.fr a vs (by show(if cV σ e' H4 a then H4 a else F4 a)=none;rw [if_neg g3];exact g1) g2 (nO a),X5.lst,fun a o g _=>sH a o g,fun _=>Iff.rfl,fun a g=>.inl ((o6 a).mp g)⟩
    have A6:DA K F6 y v:=tX (fun a o ha hl=>by
      by_cases g:cV σ e' H4 a
      · obtain⟨i,hi⟩:=g
        obtain⟨_,vs,g2⟩:=R4.fpAt hi
        have:=sH _ _ g2
        rw [R5.sm _ _ ha] at this
        cases this
        exact absurd rfl (hl vs)
      · rw [f6 a g];exact ha) c3 A5
    exact q F6 H' v ((((X1.trans X2).trans X3).trans X4).trans X6) R6 A6
theorem D7{x:Str}{st:Stmt}{f:Addr}{fd:FuncData}{ps:List Str}{k n:Nat}{m:FM}{a:Expr}{ts es:List Expr}{fa:FE}{ft fr:FA}{x1}{p pos pt:Pos}(h:aY X.K X.mg x st f fd ps)(G:aC X.prog X.w X.K X.mg X.base bB k f fd ps (bD K n m))(hr:cQ k X.A)(ha:PE X a (fE K fa))(hs:PySem.W.isStarred a=false)(ht:PA X ts (fA K ft))(hq:PA X es (fA K fr))
    (hg:Gl X x)(hdb:(x==("__debug__":Str))=false)(he:starEach (a::.Tuple ts x1 pt::es) X.env=(false,eval a X.env)::starEach (.Tuple ts x1 pt::es) X.env)(hpl:(backTo pos (starEach (.Tuple ts x1 pt::es) X.env)).any (·.1)=false):
    PE X (.Call (.Name x p) (a::.Tuple ts x1 pt::es) [] pos) (fE K (vt n m fa ft fr)):=(DV h G hr (BN ha (BN (xw ht) hq rfl) hs) hg hdb he hpl).mono fun _ _ _ h=>Ai h
end
end L2
namespace V47
open PySem PySem.Spec PyProof.Rows L2
variable{P:Program}{w:World}{K:W.Frag}{mg:Str→Option Value}{base:Heap}{f:Addr}{fd:FuncData}
local macro_rules|`(tactic|trivial)=>`(tactic|first|exact .inl rfl|exact .inr rfl|assumption)
local macro_rules|`(¬$n:num)=>`(@qw _ _ $n _ _ (by rfl) (by rfl) (by decide))
local macro_rules|`($a∘$b)=>`(@Fu _ _ _ _ _ _ $a $b (by rfl))
def top(i:Nat):Stmt:=PySem.Challenge.pw_askedpairs_k47_prices_right_or_not.main.body.getD i (.Pass ⟨0,0,0,0⟩)
theorem wg{α:Type u}{β:Type v}{f:α→β}:List.map f []=[]:=rfl
theorem wf{α:Type u}{β:Type v}{f:α→β}{a:α}{l:List α}:List.map f (a::l)=f a::List.map f l:=rfl
theorem wb{α:Type u}{l:List α}:[]++l=l:=rfl
theorem wa{α:Type u}{a:α}{l m:List α}:(a::l)++m=a::(l++m):=rfl
theorem wd{α:Type u}{a:α}{l:List α}:(a::l)[0]?=some a:=rfl
theorem we{α:Type u}{a:α}{l:List α}{i:Nat}:(a::l)[i+1]?=l[i]?:=rfl
theorem wc{α:Type u}{β:Type v}{a:α}{f:α→Option β}:Option.bind (some a) f=f a:=rfl
theorem wj{α:Type u}{β:Type v}{a:α}{f:α→β}:Option.map f (some a)=some (f a):=rfl
abbrev bX:Stmt:=top 2
abbrev fF:Stmt:=top 3
abbrev lq:Stmt:=top 4
abbrev i8:Stmt:=top 5
abbrev nI:Stmt:=top 6
abbrev kn:Stmt:=top 7
abbrev et:Stmt:=top 9
abbrev cO:Stmt:=top 10
abbrev c9:Stmt:=top 11
abbrev bY:Stmt:=top 12
abbrev bo:Stmt:=top 13
abbrev gN:Stmt:=top 15
abbrev bZ:Stmt:=top 17
abbrev fH:Stmt:=top 18
abbrev cB:Stmt:=top 19
abbrev ki:Stmt:=top 21
abbrev kh:Stmt:=top 22
abbrev iP:Stmt:=top 23
abbrev oQ:Stmt:=top 24
abbrev jh:Stmt:=top 25
abbrev lm:Stmt:=top 26
abbrev kl:Stmt:=top 27
abbrev nG:Stmt:=top 28
abbrev iO:Stmt:=top 29
abbrev km:Stmt:=top 30
abbrev nH:Stmt:=top 31
abbrev qW:Stmt:=top 32
abbrev qV:Stmt:=top 33
abbrev c8:Stmt:=top 34
abbrev eY:Stmt:=top 35
abbrev kj:Stmt:=top 36
abbrev fD:Stmt:=top 37
abbrev cT:Stmt:=top 38
abbrev i7:Stmt:=top 39
abbrev cU:Stmt:=top 40
abbrev fB:Stmt:=top 41
abbrev nF:Stmt:=top 42
abbrev lI:Stmt:=top 43
structure gR (mg:Str→Option Value):Prop where
  b_abs:mg "abs"=none
  b_len:mg "len"=none
  b_min:mg "min"=none
  b_max:mg "max"=none
  b_range:mg "range"=none
  b_repr:mg "repr"=none
  b_tuple:mg "tuple"=none
  b_int:mg "int"=none
  b_enumerate:mg "enumerate"=none
  b_isinstance:mg "isinstance"=none
  b_bool:mg "bool"=none
  b_any:mg "any"=none
  b_all:mg "all"=none
  b_list:mg "list"=none
noncomputable def bK:FT:=(aL (ao (cg true) (ae 1) (vC (.int 0))))
noncomputable def ce:FS:=(sR 0 1 (aa (ae 1) (aa (ao aT (ae 0) (ae 1)) ag)))
noncomputable def gA:FS:=(aE (jI (2 ^ 4200) bK ce)
    (bc (aZ (g1 r9) (aa (ae 0) ag))))
noncomputable def bW:FM:=gh 2 0 ([0,1]++[]) gA
theorem fW:aB ["one","other"] ["one","other"] (am bX):=⟨rfl,rfl,rfl,by decide+kernel,rfl,by decide+kernel,by decide+kernel⟩
theorem j9(h:aY K mg "common_divisor" bX f fd ["one","other"])(T:gR mg):aC P w K mg base bB 1 f fd ["one","other"] (bD K 2 bW):=by
  have nd:=fW.nd
  exact h.fn fW rfl rfl (fun cdv A outer s H E hr=>(@af _ _ _ _ _ _ _ _ (@nB _ _ _ _ _ _ _ _ _ PassesOwn.never (@bj _ _ _ _ _ _ _ _ _ (@rY _ _ _ rfl hr) (¬1) ac (aP _))
      (@aj _ _ _ _ _ (@xV _ _ _ _ _ 0 1 _ _ _ _ _ _ _ _ _ rfl nd rfl rfl (by decide) rfl rfl ((¬1)∘((@aU _ _ _ _ _ _ _ (¬0) (¬1))∘ab)) (by rfl) (by rfl))))
      (@aj _ _ _ _ _ (@av _ _ _ _ _ (@bC _ _ _ _ _ _ _ _ _ (@b_abs _ _) (by rfl) T.b_abs ((¬0)∘ab) (by decide) (by decide) (by rfl) (by rfl))))))
noncomputable def qj:FS:=(aE (a7 2 (bG 2 bW (aa (ae 0) (aa (ae 1) ag))))
    (aE (iz (aL (ao uL (ae 1) (vC (.int 0))))
    (a7 2 (qe uO (ae 2)))
    dG)
    (bc (aS (aa (ao cI (ae 0) (ae 2)) (aa (ao cI (ae 1) (ae 2)) ag))))))
noncomputable def dz:FM:=gh 2 1 ([2]++(([2]++[])++[])) qj
theorem oT:aB ["top","bottom","divisor"] ["top","bottom"] (am fF):=⟨rfl,rfl,rfl,by decide+kernel,rfl,by decide+kernel,by decide+kernel⟩
theorem vc(h:aY K mg "lowest" fF f fd ["top","bottom"])(T:gR mg){f_common_divisor:Addr}{e_common_divisor:FuncData}(h_common_divisor:aY K mg "common_divisor" bX f_common_divisor e_common_divisor ["one","other"])(G_common_divisor:aC P w K mg base bB 1 f_common_divisor e_common_divisor ["one","other"] (bD K 2 bW)):aC P w K mg base bB 2 f fd ["top","bottom"] (bD K 2 dz):=by
  have nd:=oT.nd
  exact h.fn oT rfl rfl (fun cdv A outer s H E hr=>(@af _ _ _ _ _ _ _ _ (@az _ _ _ _ _ 2 _ _ nd rfl (Or.inl rfl) (@aI _ _ _ _ _ _ _ _ _ _ _ _ _ _ _ h_common_divisor G_common_divisor (hr.mono (by decide)) ((¬0)∘((¬1)∘ab)) (by rfl) (by decide) (by rfl) (by rfl)) (by rfl) (by trivial))
      (@af _ _ _ _ _ _ _ _ (@b_ _ _ _ _ _ _ _ _ _ _ _ (@bj _ _ _ _ _ _ _ _ _ (@rX _ _) (¬1) ac (aP _))
      (@aj _ _ _ _ _ (@az _ _ _ _ _ 2 _ _ nd rfl (Or.inl rfl) (@xP _ _ _ _ _ (¬2)) (by rfl) (by trivial)))
      (@a9 _ _))
      (@aj _ _ _ _ _ (@av _ _ _ _ _ (@aq _ _ _ _ _ _ ((@dX _ _ _ _ _ _ _ (¬0) (¬2))∘((@dX _ _ _ _ _ _ _ (¬1) (¬2))∘ab))))))))
noncomputable def vJ:FS:=(bc (bG 2 dz (aa (ao bE (ao be (ao bg (ae 0) (vC (.int 0))) (ao bg (ae 1) (vC (.int 1)))) (ao be (ao bg (ae 1) (vC (.int 0))) (ao bg (ae 0) (vC (.int 1))))) (aa (ao be (ao bg (ae 0) (vC (.int 1))) (ao bg (ae 1) (vC (.int 1)))) ag))))
noncomputable def jD:FM:=gh 2 0 [] vJ
theorem uk:aB ["one","other"] ["one","other"] (am lq):=⟨rfl,rfl,rfl,by decide+kernel,rfl,by decide+kernel,by decide+kernel⟩
theorem zl(h:aY K mg "plus" lq f fd ["one","other"])(T:gR mg){f_lowest:Addr}{e_lowest:FuncData}(h_lowest:aY K mg "lowest" fF f_lowest e_lowest ["top","bottom"])(G_lowest:aC P w K mg base bB 2 f_lowest e_lowest ["top","bottom"] (bD K 2 dz)):aC P w K mg base bB 3 f fd ["one","other"] (bD K 2 jD):=by
  have nd:=uk.nd
  exact h.fn uk rfl rfl (fun cdv A outer s H E hr=>(@aj _ _ _ _ _ (@av _ _ _ _ _ (@aI _ _ _ _ _ _ _ _ _ _ _ _ _ _ _ h_lowest G_lowest (hr.mono (by decide)) ((@br _ _ _ _ _ _ _ rfl (@bL _ _ _ _ _ _ _ rfl (@aK _ _ _ _ _ _ _ rfl (¬0) ac (fun _ _=>rfl)) (@aK _ _ _ _ _ _ _ rfl (¬1) ac (fun _ _=>rfl))) (@bL _ _ _ _ _ _ _ rfl (@aK _ _ _ _ _ _ _ rfl (¬1) ac (fun _ _=>rfl)) (@aK _ _ _ _ _ _ _ rfl (¬0) ac (fun _ _=>rfl))))∘((@bL _ _ _ _ _ _ _ rfl (@aK _ _ _ _ _ _ _ rfl (¬0) ac (fun _ _=>rfl)) (@aK _ _ _ _ _ _ _ rfl (¬1) ac (fun _ _=>rfl)))∘ab)) (by rfl) (by decide) (by rfl) (by rfl)))))
noncomputable def tH:FS:=(bc (bG 2 dz (aa (ao be (ao bg (ae 0) (vC (.int 0))) (ao bg (ae 1) (vC (.int 0)))) (aa (ao be (ao bg (ae 0) (vC (.int 1))) (ao bg (ae 1) (vC (.int 1)))) ag))))
noncomputable def eO:FM:=gh 2 0 [] tH
theorem rj:aB ["one","other"] ["one","other"] (am i8):=⟨rfl,rfl,rfl,by decide+kernel,rfl,by decide+kernel,by decide+kernel⟩
theorem xj(h:aY K mg "times" i8 f fd ["one","other"])(T:gR mg){f_lowest:Addr}{e_lowest:FuncData}(h_lowest:aY K mg "lowest" fF f_lowest e_lowest ["top","bottom"])(G_lowest:aC P w K mg base bB 2 f_lowest e_lowest ["top","bottom"] (bD K 2 dz)):aC P w K mg base bB 3 f fd ["one","other"] (bD K 2 eO):=by
  have nd:=rj.nd
  exact h.fn rj rfl rfl (fun cdv A outer s H E hr=>(@aj _ _ _ _ _ (@av _ _ _ _ _ (@aI _ _ _ _ _ _ _ _ _ _ _ _ _ _ _ h_lowest G_lowest (hr.mono (by decide)) ((@bL _ _ _ _ _ _ _ rfl (@aK _ _ _ _ _ _ _ rfl (¬0) ac (fun _ _=>rfl)) (@aK _ _ _ _ _ _ _ rfl (¬1) ac (fun _ _=>rfl)))∘((@bL _ _ _ _ _ _ _ rfl (@aK _ _ _ _ _ _ _ rfl (¬0) ac (fun _ _=>rfl)) (@aK _ _ _ _ _ _ _ rfl (¬1) ac (fun _ _=>rfl)))∘ab)) (by rfl) (by decide) (by rfl) (by rfl)))))
noncomputable def vI:FS:=(bc (ao uL (ao be (ao bg (ae 0) (vC (.int 0))) (ao bg (ae 1) (vC (.int 1)))) (ao be (ao bg (ae 1) (vC (.int 0))) (ao bg (ae 0) (vC (.int 1))))))
noncomputable def m6:FM:=gh 2 0 [] vI
theorem ui:aB ["one","other"] ["one","other"] (am nI):=⟨rfl,rfl,rfl,by decide+kernel,rfl,by decide+kernel,by decide+kernel⟩
theorem zi(h:aY K mg "less" nI f fd ["one","other"])(T:gR mg):aC P w K mg base bB 1 f fd ["one","other"] (bD K 2 m6):=by
  have nd:=ui.nd
  exact h.fn ui rfl rfl (fun cdv A outer s H E hr=>(@aj _ _ _ _ _ (@av _ _ _ _ _ (@iM _ _ _ _ _ _ _ _ _ (@rX _ _) (@bL _ _ _ _ _ _ _ rfl (@aK _ _ _ _ _ _ _ rfl (¬0) ac (fun _ _=>rfl)) (@aK _ _ _ _ _ _ _ rfl (¬1) ac (fun _ _=>rfl))) (@bL _ _ _ _ _ _ _ rfl (@aK _ _ _ _ _ _ _ rfl (¬1) ac (fun _ _=>rfl)) (@aK _ _ _ _ _ _ _ rfl (¬0) ac (fun _ _=>rfl))) (aP _)))))
noncomputable def kZ:FI:=(jB (ae 0))
noncomputable def iW:FS:=(a7 1 (bG 2 jD (aa (ae 1) (aa (ae 2) ag))))
noncomputable def tI:FS:=(aE (a7 1 (vC (.tuple [.int (0),.int (1)])))
    (aE (eC ([2]++[1]) kZ (ah 2) iW)
    (bc (ae 1))))
noncomputable def i6:FM:=gh 1 2 ([1]++(([2]++[1])++[])) tI
theorem rl:aB ["row","amount","part"] ["row"] (am kn):=⟨rfl,rfl,rfl,by decide+kernel,rfl,by decide+kernel,by decide+kernel⟩
theorem xl(h:aY K mg "total" kn f fd ["row"])(T:gR mg){f_plus:Addr}{e_plus:FuncData}(h_plus:aY K mg "plus" lq f_plus e_plus ["one","other"])(G_plus:aC P w K mg base bB 3 f_plus e_plus ["one","other"] (bD K 2 jD)){g_ZERO:Addr}(m_ZERO:mg "ZERO"=some (.ref g_ZERO))(c_ZERO:∀F,DA K F (.tuple [.int (0),.int (1)]) (.ref g_ZERO)):aC P w K mg base bB 4 f fd ["row"] (bD K 1 i6):=by
  have nd:=rl.nd
  exact h.fn rl rfl rfl (fun cdv A outer s H E hr=>(@af _ _ _ _ _ _ _ _ (@az _ _ _ _ _ 1 _ _ nd rfl (Or.inl rfl) (@zW _ _ _ (V.ref g_ZERO) _ _ (PyData.tuple [.int (0),.int (1)]) rfl m_ZERO rfl c_ZERO (by decide)) (by rfl) (by trivial))
      (@af _ _ _ _ _ _ _ _ (@fy _ _ _ _ _ _ _ _ _ _ _ PassesOwn.never rfl (@jH _ _ _ _ _ rfl (¬0)) (@ap _ _ _ 2 _ nd rfl (Or.inl rfl) (by trivial))
      (@aj _ _ _ _ _ (@az _ _ _ _ _ 1 _ _ nd rfl (Or.inl rfl) (@aI _ _ _ _ _ _ _ _ _ _ _ _ _ _ _ h_plus G_plus (hr.mono (by decide)) ((¬1)∘((¬2)∘ab)) (by rfl) (by decide) (by rfl) (by rfl)) (by rfl) (by trivial))) (by intro _;rfl))
      (@aj _ _ _ _ _ (@av _ _ _ _ _ (¬1))))))
noncomputable def lB:FS:=(bc (iT (qe (jz "int") (ae 0)) (nX (qe (jz "bool") (ae 0)))))
noncomputable def dr:FM:=gh 1 0 [] lB
theorem ko:aB ["thing"] ["thing"] (am et):=⟨rfl,rfl,rfl,by decide+kernel,rfl,by decide+kernel,by decide+kernel⟩
theorem pU(h:aY K mg "is_number" et f fd ["thing"])(T:gR mg):aC P w K mg base bB 1 f fd ["thing"] (bD K 1 dr):=by
  have nd:=ko.nd
  exact h.fn ko rfl rfl (fun cdv A outer s H E hr=>(@aj _ _ _ _ _ (@av _ _ _ _ _ (@li _ _ _ _ _ _ _ _ (@lH _ _ _ _ _ _ _ _ "int" rfl (by decide) rfl T.b_isinstance rfl T.b_int PyProof.Rows.boot_int (by decide) (by decide) (¬0) (by rfl) (by rfl)) (@lj _ _ _ _ _ _ (@xT _ _ _ _ _ (@lH _ _ _ _ _ _ _ _ "bool" rfl (by decide) rfl T.b_isinstance rfl T.b_bool PyProof.Rows.boot_bool (by decide) (by decide) (¬0) (by rfl) (by rfl))))))))
noncomputable def iD:FS:=(bc (iT (qe (jz "tuple") (ae 0)) (ao (cg false) (aZ (g1 ff) (aa (ae 0) ag)) (ae 1))))
noncomputable def bI:FM:=gh 2 0 [] iD
theorem kr:aB ["thing","many"] ["thing","many"] (am cO):=⟨rfl,rfl,rfl,by decide+kernel,rfl,by decide+kernel,by decide+kernel⟩
theorem pV(h:aY K mg "is_row_of" cO f fd ["thing","many"])(T:gR mg):aC P w K mg base bB 1 f fd ["thing","many"] (bD K 2 bI):=by
  have nd:=kr.nd
  exact h.fn kr rfl rfl (fun cdv A outer s H E hr=>(@aj _ _ _ _ _ (@av _ _ _ _ _ (@li _ _ _ _ _ _ _ _ (@lH _ _ _ _ _ _ _ _ "tuple" rfl (by decide) rfl T.b_isinstance rfl T.b_tuple PyProof.Rows.boot_tuple (by decide) (by decide) (¬0) (by rfl) (by rfl)) (@lj _ _ _ _ _ _ (@iM _ _ _ _ _ _ _ _ _ (@n5 _ _ _ rfl hr) (@bC _ _ _ _ _ _ _ _ _ (@b_len _ _ rfl) (by rfl) T.b_len ((¬0)∘ab) (by decide) (by decide) (by rfl) (by rfl)) (¬1) (aP _)))))))
noncomputable def cy:FS:=(aE (iz (fK (aL (bG 2 bI (aa (ae 0) (aa (vC (.int 2)) ag)))))
    (bc (vC (.bool false)))
    dG)
    (aE (jd (ae 0) (c7 (aw (ah 1) (aw (ah 2) cJ))))
    (aE (iz (rH (fK (aL (bG 1 dr (aa (ae 1) ag)))) (rH (fK (aL (bG 1 dr (aa (ae 2) ag)))) (aL (ao uL (ae 2) (vC (.int 1))))))
    (bc (vC (.bool false)))
    dG)
    (bc (ao (cg false) (bG 2 dz (aa (ae 1) (aa (ae 2) ag))) (ae 0))))))
noncomputable def bx:FM:=gh 1 2 (([]++[])++(([1]++([2]++[]))++(([]++[])++[]))) cy
theorem iR:aB ["thing","top","bottom"] ["thing"] (am c9):=⟨rfl,rfl,rfl,by decide+kernel,rfl,by decide+kernel,by decide+kernel⟩
theorem nh(h:aY K mg "is_fraction" c9 f fd ["thing"])(T:gR mg){f_is_row_of:Addr}{e_is_row_of:FuncData}(h_is_row_of:aY K mg "is_row_of" cO f_is_row_of e_is_row_of ["thing","many"])(G_is_row_of:aC P w K mg base bB 1 f_is_row_of e_is_row_of ["thing","many"] (bD K 2 bI)){f_lowest:Addr}{e_lowest:FuncData}(h_lowest:aY K mg "lowest" fF f_lowest e_lowest ["top","bottom"])(G_lowest:aC P w K mg base bB 2 f_lowest e_lowest ["top","bottom"] (bD K 2 dz)){f_is_number:Addr}{e_is_number:FuncData}(h_is_number:aY K mg "is_number" et f_is_number e_is_number ["thing"])(G_is_number:aC P w K mg base bB 1 f_is_number e_is_number ["thing"] (bD K 1 dr)):aC P w K mg base bB 3 f fd ["thing"] (bD K 1 bx):=by
  have nd:=iR.nd
  exact h.fn iR rfl rfl (fun cdv A outer s H E hr=>(@af _ _ _ _ _ _ _ _ (@b_ _ _ _ _ _ _ _ _ _ _ _ (@cN _ _ _ _ _ (@cj _ _ _ _ (@aI _ _ _ _ _ _ _ _ _ _ _ _ _ _ _ h_is_row_of G_is_row_of (hr.mono (by decide)) ((¬0)∘(ac∘ab)) (by rfl) (by decide) (by rfl) (by rfl)) (by intro _;rfl)))
      (@aj _ _ _ _ _ (@av _ _ _ _ _ (@cq _ _ _ _ _)))
      (@a9 _ _))
      (@af _ _ _ _ _ _ _ _ (@fx _ _ _ _ _ _ _ _ (¬0) (@eA _ _ _ _ _ _ _ _ rfl rfl (@ar _ _ _ _ _ _ _ _ (@ap _ _ _ 1 _ nd rfl (Or.inl rfl) (by trivial)) (@ar _ _ _ _ _ _ _ _ (@ap _ _ _ 2 _ nd rfl (Or.inl rfl) (by trivial)) (@de _ _) (by rfl)) (by rfl)) (aD (aD ez)) (by rfl) (by rfl)) (by rfl) (by rfl) (by rfl))
      (@af _ _ _ _ _ _ _ _ (@b_ _ _ _ _ _ _ _ _ _ _ _ (@kc _ _ _ _ (@iN _ _ _ _ _ _ _ _ (@cN _ _ _ _ _ (@cj _ _ _ _ (@aI _ _ _ _ _ _ _ _ _ _ _ _ _ _ _ h_is_number G_is_number (hr.mono (by decide)) ((¬1)∘ab) (by rfl) (by decide) (by rfl) (by rfl)) (by intro _;rfl))) (@iN _ _ _ _ _ _ _ _ (@cN _ _ _ _ _ (@cj _ _ _ _ (@aI _ _ _ _ _ _ _ _ _ _ _ _ _ _ _ h_is_number G_is_number (hr.mono (by decide)) ((¬2)∘ab) (by rfl) (by decide) (by rfl) (by rfl)) (by intro _;rfl))) (@gj _ _ _ _ _ (@bj _ _ _ _ _ _ _ _ _ (@rX _ _) (¬2) ac (aP _))))))
      (@aj _ _ _ _ _ (@av _ _ _ _ _ (@cq _ _ _ _ _)))
      (@a9 _ _))
      (@aj _ _ _ _ _ (@av _ _ _ _ _ (@iM _ _ _ _ _ _ _ _ _ (@n5 _ _ _ rfl hr) (@aI _ _ _ _ _ _ _ _ _ _ _ _ _ _ _ h_lowest G_lowest (hr.mono (by decide)) ((¬1)∘((¬2)∘ab)) (by rfl) (by decide) (by rfl) (by rfl)) (¬0) (aP _))))))))
noncomputable def eZ:FS:=(bc (iT (bG 1 bx (aa (ae 0) ag)) (ao Bc (ao bg (ae 0) (vC (.int 0))) (vC (.int 0)))))
noncomputable def bA:FM:=gh 1 0 [] eZ
theorem io:aB ["thing"] ["thing"] (am bY):=⟨rfl,rfl,rfl,by decide+kernel,rfl,by decide+kernel,by decide+kernel⟩
theorem lU(h:aY K mg "is_from_zero" bY f fd ["thing"])(T:gR mg){f_is_fraction:Addr}{e_is_fraction:FuncData}(h_is_fraction:aY K mg "is_fraction" c9 f_is_fraction e_is_fraction ["thing"])(G_is_fraction:aC P w K mg base bB 3 f_is_fraction e_is_fraction ["thing"] (bD K 1 bx)):aC P w K mg base bB 4 f fd ["thing"] (bD K 1 bA):=by
  have nd:=io.nd
  exact h.fn io rfl rfl (fun cdv A outer s H E hr=>(@aj _ _ _ _ _ (@av _ _ _ _ _ (@li _ _ _ _ _ _ _ _ (@aI _ _ _ _ _ _ _ _ _ _ _ _ _ _ _ h_is_fraction G_is_fraction (hr.mono (by decide)) ((¬0)∘ab) (by rfl) (by decide) (by rfl) (by rfl)) (@lj _ _ _ _ _ _ (@iM _ _ _ _ _ _ _ _ _ (@AZ _ _) (@aK _ _ _ _ _ _ _ rfl (¬0) ac (fun _ _=>rfl)) ac (aP _)))))))
noncomputable def el:FI:=(jB (ae 0))
noncomputable def bP:FE:=(bG 1 bA (aa (ae 0) ag))
noncomputable def dh:FS:=(bc (iT (bG 2 bI (aa (ae 0) (aa (ae 1) ag))) (aZ (g1 (ij qt)) (aa (eu [] 1 el (ah 0) fY bP) ag))))
noncomputable def aX:FM:=gh 2 0 [] dh
theorem eH:aB ["thing","many"] ["thing","many"] (am bo):=⟨rfl,rfl,rfl,by decide+kernel,rfl,by decide+kernel,by decide+kernel⟩
theorem jc(h:aY K mg "is_row_from_zero" bo f fd ["thing","many"])(T:gR mg){f_is_row_of:Addr}{e_is_row_of:FuncData}(h_is_row_of:aY K mg "is_row_of" cO f_is_row_of e_is_row_of ["thing","many"])(G_is_row_of:aC P w K mg base bB 1 f_is_row_of e_is_row_of ["thing","many"] (bD K 2 bI)){f_is_from_zero:Addr}{e_is_from_zero:FuncData}(h_is_from_zero:aY K mg "is_from_zero" bY f_is_from_zero e_is_from_zero ["thing"])(G_is_from_zero:aC P w K mg base bB 4 f_is_from_zero e_is_from_zero ["thing"] (bD K 1 bA)):aC P w K mg base bB 5 f fd ["thing","many"] (bD K 2 aX):=by
  have nd:=eH.nd
  exact h.fn eH rfl rfl (fun cdv A outer s H E hr=>(@aj _ _ _ _ _ (@av _ _ _ _ _ (@li _ _ _ _ _ _ _ _ (@aI _ _ _ _ _ _ _ _ _ _ _ _ _ _ _ h_is_row_of G_is_row_of (hr.mono (by decide)) ((¬0)∘((¬1)∘ab)) (by rfl) (by decide) (by rfl) (by rfl)) (@lj _ _ _ _ _ _ (@bC _ _ _ _ _ _ _ _ _ (@b_all _ _ _ rfl hr) (by rfl) T.b_all ((@nv _ _ _ _ _ _ _ _ _ _ _ _ _ (am bo) ["thing","many"] [] ["part"] rfl rfl rfl (@jH _ _ _ _ _ rfl (¬0))
        (fun C s0 H0 fp=>(@ap _ _ _ 0 _ (show List.Nodup (["part"]:List Str) by decide+kernel) rfl (Or.inl rfl) (by trivial))) (fun C s0 H0 fp=>(@kd _ _))
        (fun C s0 H0 fp=>(@aI _ _ _ _ _ _ _ _ _ _ _ _ _ _ _ h_is_from_zero G_is_from_zero (hr.mono (by decide)) ((¬0)∘ab) (by rfl) (by decide) (by rfl) (by rfl))) rfl (by decide+kernel) (by decide+kernel) (by decide+kernel) (by decide+kernel) (by decide+kernel) (by decide+kernel) (by decide+kernel) (by intro _;rfl))∘ab) (by decide) (by decide) (by rfl) (by rfl)))))))
noncomputable def oo:FS:=(bc (bG 2 eO (aa (ao bg (ae 0) (vC (.int 2))) (aa (aS (aa (ao bg (ae 0) (vC (.int 3))) (aa (vC (.int 1)) ag))) ag))))
noncomputable def gH:FM:=gh 1 0 [] oo
theorem nK:aB ["tie"] ["tie"] (am gN):=⟨rfl,rfl,rfl,by decide+kernel,rfl,by decide+kernel,by decide+kernel⟩
theorem sI(h:aY K mg "gain_of" gN f fd ["tie"])(T:gR mg){f_times:Addr}{e_times:FuncData}(h_times:aY K mg "times" i8 f_times e_times ["one","other"])(G_times:aC P w K mg base bB 3 f_times e_times ["one","other"] (bD K 2 eO)):aC P w K mg base bB 4 f fd ["tie"] (bD K 1 gH):=by
  have nd:=nK.nd
  exact h.fn nK rfl rfl (fun cdv A outer s H E hr=>(@aj _ _ _ _ _ (@av _ _ _ _ _ (@aI _ _ _ _ _ _ _ _ _ _ _ _ _ _ _ h_times G_times (hr.mono (by decide)) ((@aK _ _ _ _ _ _ _ rfl (¬0) ac (fun _ _=>rfl))∘((@aq _ _ _ _ _ _ ((@aK _ _ _ _ _ _ _ rfl (¬0) ac (fun _ _=>rfl))∘(ac∘ab)))∘ab)) (by rfl) (by decide) (by rfl) (by rfl)))))
noncomputable def dP:FS:=(aE (iz (fK (aL (bG 2 bI (aa (ae 1) (aa (vC (.int 4)) ag)))))
    (bc (vC (.bool false)))
    dG)
    (aE (jd (ae 1) (c7 (aw (ah 2) (aw (ah 3) (aw (ah 4) (aw (ah 5) cJ))))))
    (aE (iz (rH (fK (aL (bG 2 aX (aa (ae 2) (aa (ao bg (ae 0) (vC (.int 0))) ag))))) (fK (aL (bG 2 aX (aa (ae 3) (aa (ao bg (ae 0) (vC (.int 0))) ag))))))
    (bc (vC (.bool false)))
    dG)
    (bc (iT (bG 1 bA (aa (ae 4) ag)) (bG 2 aX (aa (ae 5) (aa (aZ (g1 ff) (aa (ao bg (ae 0) (vC (.int 1))) ag)) ag))))))))
noncomputable def bJ:FM:=gh 2 4 (([]++[])++(([2]++([3]++([4]++([5]++[]))))++(([]++[])++[]))) dP
theorem fX:aB ["web","thing","keeping","bearing","asking","once"] ["web","thing"] (am bZ):=⟨rfl,rfl,rfl,by decide+kernel,rfl,by decide+kernel,by decide+kernel⟩
theorem j_(h:aY K mg "is_prices_form" bZ f fd ["web","thing"])(T:gR mg){f_is_row_of:Addr}{e_is_row_of:FuncData}(h_is_row_of:aY K mg "is_row_of" cO f_is_row_of e_is_row_of ["thing","many"])(G_is_row_of:aC P w K mg base bB 1 f_is_row_of e_is_row_of ["thing","many"] (bD K 2 bI)){f_is_from_zero:Addr}{e_is_from_zero:FuncData}(h_is_from_zero:aY K mg "is_from_zero" bY f_is_from_zero e_is_from_zero ["thing"])(G_is_from_zero:aC P w K mg base bB 4 f_is_from_zero e_is_from_zero ["thing"] (bD K 1 bA)){f_is_row_from_zero:Addr}{e_is_row_from_zero:FuncData}(h_is_row_from_zero:aY K mg "is_row_from_zero" bo f_is_row_from_zero e_is_row_from_zero ["thing","many"])(G_is_row_from_zero:aC P w K mg base bB 5 f_is_row_from_zero e_is_row_from_zero ["thing","many"] (bD K 2 aX)):aC P w K mg base bB 6 f fd ["web","thing"] (bD K 2 bJ):=by
  have nd:=fX.nd
  exact h.fn fX rfl rfl (fun cdv A outer s H E hr=>(@af _ _ _ _ _ _ _ _ (@b_ _ _ _ _ _ _ _ _ _ _ _ (@cN _ _ _ _ _ (@cj _ _ _ _ (@aI _ _ _ _ _ _ _ _ _ _ _ _ _ _ _ h_is_row_of G_is_row_of (hr.mono (by decide)) ((¬1)∘(ac∘ab)) (by rfl) (by decide) (by rfl) (by rfl)) (by intro _;rfl)))
      (@aj _ _ _ _ _ (@av _ _ _ _ _ (@cq _ _ _ _ _)))
      (@a9 _ _))
      (@af _ _ _ _ _ _ _ _ (@fx _ _ _ _ _ _ _ _ (¬1) (@eA _ _ _ _ _ _ _ _ rfl rfl (@ar _ _ _ _ _ _ _ _ (@ap _ _ _ 2 _ nd rfl (Or.inl rfl) (by trivial)) (@ar _ _ _ _ _ _ _ _ (@ap _ _ _ 3 _ nd rfl (Or.inl rfl) (by trivial)) (@ar _ _ _ _ _ _ _ _ (@ap _ _ _ 4 _ nd rfl (Or.inl rfl) (by trivial)) (@ar _ _ _ _ _ _ _ _ (@ap _ _ _ 5 _ nd rfl (Or.inl rfl) (by trivial)) (@de _ _) (by rfl)) (by rfl)) (by rfl)) (by rfl)) (aD (aD (aD (aD ez)))) (by rfl) (by rfl)) (by rfl) (by rfl) (by rfl))
      (@af _ _ _ _ _ _ _ _ (@b_ _ _ _ _ _ _ _ _ _ _ _ (@kc _ _ _ _ (@iN _ _ _ _ _ _ _ _ (@cN _ _ _ _ _ (@cj _ _ _ _ (@aI _ _ _ _ _ _ _ _ _ _ _ _ _ _ _ h_is_row_from_zero G_is_row_from_zero (hr.mono (by decide)) ((¬2)∘((@aK _ _ _ _ _ _ _ rfl (¬0) ac (fun _ _=>rfl))∘ab)) (by rfl) (by decide) (by rfl) (by rfl)) (by intro _;rfl))) (@gj _ _ _ _ _ (@cN _ _ _ _ _ (@cj _ _ _ _ (@aI _ _ _ _ _ _ _ _ _ _ _ _ _ _ _ h_is_row_from_zero G_is_row_from_zero (hr.mono (by decide)) ((¬3)∘((@aK _ _ _ _ _ _ _ rfl (¬0) ac (fun _ _=>rfl))∘ab)) (by rfl) (by decide) (by rfl) (by rfl)) (by intro _;rfl))))))
      (@aj _ _ _ _ _ (@av _ _ _ _ _ (@cq _ _ _ _ _)))
      (@a9 _ _))
      (@aj _ _ _ _ _ (@av _ _ _ _ _ (@li _ _ _ _ _ _ _ _ (@aI _ _ _ _ _ _ _ _ _ _ _ _ _ _ _ h_is_from_zero G_is_from_zero (hr.mono (by decide)) ((¬4)∘ab) (by rfl) (by decide) (by rfl) (by rfl)) (@lj _ _ _ _ _ _ (@aI _ _ _ _ _ _ _ _ _ _ _ _ _ _ _ h_is_row_from_zero G_is_row_from_zero (hr.mono (by decide)) ((¬5)∘((@bC _ _ _ _ _ _ _ _ _ (@b_len _ _ rfl) (by rfl) T.b_len ((@aK _ _ _ _ _ _ _ rfl (¬0) ac (fun _ _=>rfl))∘ab) (by decide) (by decide) (by rfl) (by rfl))∘ab)) (by rfl) (by decide) (by rfl) (by rfl))))))))))
noncomputable def ms:FS:=(aE (jd (ae 1) (c7 (aw (ah 3) (aw (ah 4) (aw (ah 5) (aw (ah 6) cJ))))))
    (aE (jd (ao bg (ao bg (ae 0) (vC (.int 1))) (ae 2)) (c7 (aw (ah 7) (aw (ah 8) (aw (ah 9) (aw (ah 10) cJ))))))
    (aE (a7 11 (bG 2 eO (aa (ae 9) (aa (bG 2 jD (aa (ao bg (ae 3) (ae 7)) (aa (ao bg (ae 3) (ae 8)) ag))) ag))))
    (bc (bG 1 i6 (aa (bT (aa (ae 11) (aa (ao bg (ae 4) (ae 7)) (aa (ao bg (ae 4) (ae 8)) (aa (ae 5) (aa (ao bg (ae 6) (ae 2)) ag)))))) ag))))))
noncomputable def fq:FM:=gh 3 9 (([3]++([4]++([5]++([6]++[]))))++(([7]++([8]++([9]++([10]++[]))))++([11]++[]))) ms
theorem lK:aB ["web","prices","tie","keeping","bearing","asking","once","one","other","chance","worth","kept"] ["web","prices","tie"] (am fH):=⟨rfl,rfl,rfl,by decide+kernel,rfl,by decide+kernel,by decide+kernel⟩
theorem qP(h:aY K mg "paid_for" fH f fd ["web","prices","tie"])(T:gR mg){f_times:Addr}{e_times:FuncData}(h_times:aY K mg "times" i8 f_times e_times ["one","other"])(G_times:aC P w K mg base bB 3 f_times e_times ["one","other"] (bD K 2 eO)){f_total:Addr}{e_total:FuncData}(h_total:aY K mg "total" kn f_total e_total ["row"])(G_total:aC P w K mg base bB 4 f_total e_total ["row"] (bD K 1 i6)){f_plus:Addr}{e_plus:FuncData}(h_plus:aY K mg "plus" lq f_plus e_plus ["one","other"])(G_plus:aC P w K mg base bB 3 f_plus e_plus ["one","other"] (bD K 2 jD)):aC P w K mg base bB 5 f fd ["web","prices","tie"] (bD K 3 fq):=by
  have nd:=lK.nd
  exact h.fn lK rfl rfl (fun cdv A outer s H E hr=>(@af _ _ _ _ _ _ _ _ (@fx _ _ _ _ _ _ _ _ (¬1) (@eA _ _ _ _ _ _ _ _ rfl rfl (@ar _ _ _ _ _ _ _ _ (@ap _ _ _ 3 _ nd rfl (Or.inl rfl) (by trivial)) (@ar _ _ _ _ _ _ _ _ (@ap _ _ _ 4 _ nd rfl (Or.inl rfl) (by trivial)) (@ar _ _ _ _ _ _ _ _ (@ap _ _ _ 5 _ nd rfl (Or.inl rfl) (by trivial)) (@ar _ _ _ _ _ _ _ _ (@ap _ _ _ 6 _ nd rfl (Or.inl rfl) (by trivial)) (@de _ _) (by rfl)) (by rfl)) (by rfl)) (by rfl)) (aD (aD (aD (aD ez)))) (by rfl) (by rfl)) (by rfl) (by rfl) (by rfl))
      (@af _ _ _ _ _ _ _ _ (@fx _ _ _ _ _ _ _ _ (@aK _ _ _ _ _ _ _ rfl (@aK _ _ _ _ _ _ _ rfl (¬0) ac (fun _ _=>rfl)) (¬2) (fun _ _=>rfl)) (@eA _ _ _ _ _ _ _ _ rfl rfl (@ar _ _ _ _ _ _ _ _ (@ap _ _ _ 7 _ nd rfl (Or.inl rfl) (by trivial)) (@ar _ _ _ _ _ _ _ _ (@ap _ _ _ 8 _ nd rfl (Or.inl rfl) (by trivial)) (@ar _ _ _ _ _ _ _ _ (@ap _ _ _ 9 _ nd rfl (Or.inl rfl) (by trivial)) (@ar _ _ _ _ _ _ _ _ (@ap _ _ _ 10 _ nd rfl (Or.inl rfl) (by trivial)) (@de _ _) (by rfl)) (by rfl)) (by rfl)) (by rfl)) (aD (aD (aD (aD ez)))) (by rfl) (by rfl)) (by rfl) (by rfl) (by rfl))
      (@af _ _ _ _ _ _ _ _ (@az _ _ _ _ _ 11 _ _ nd rfl (Or.inl rfl) (@aI _ _ _ _ _ _ _ _ _ _ _ _ _ _ _ h_times G_times (hr.mono (by decide)) ((¬9)∘((@aI _ _ _ _ _ _ _ _ _ _ _ _ _ _ _ h_plus G_plus (hr.mono (by decide)) ((@aK _ _ _ _ _ _ _ rfl (¬3) (¬7) (fun _ _=>rfl))∘((@aK _ _ _ _ _ _ _ rfl (¬3) (¬8) (fun _ _=>rfl))∘ab)) (by rfl) (by decide) (by rfl) (by rfl))∘ab)) (by rfl) (by decide) (by rfl) (by rfl)) (by rfl) (by trivial))
      (@aj _ _ _ _ _ (@av _ _ _ _ _ (@aI _ _ _ _ _ _ _ _ _ _ _ _ _ _ _ h_total G_total (hr.mono (by decide)) ((@aR _ _ _ _ _ ((¬11)∘((@aK _ _ _ _ _ _ _ rfl (¬4) (¬7) (fun _ _=>rfl))∘((@aK _ _ _ _ _ _ _ rfl (¬4) (¬8) (fun _ _=>rfl))∘((¬5)∘((@aK _ _ _ _ _ _ _ rfl (¬6) (¬2) (fun _ _=>rfl))∘ab))))))∘ab) (by rfl) (by decide) (by rfl) (by rfl))))))))
noncomputable def dc:FI:=(tS (aa (ao bg (ae 0) (vC (.int 1))) ag))
noncomputable def cm:FE:=(bG 2 m6 (aa (bG 3 fq (aa (ae 0) (aa (ae 1) (aa (ae 2) ag)))) (aa (bG 1 gH (aa (ae 3) ag)) ag)))
noncomputable def f_:FS:=(aE (iz (fK (aL (bG 2 bJ (aa (ae 0) (aa (ae 1) ag)))))
    (bc (vC (.bool false)))
    dG)
    (bc (nX (aZ (g1 (ij qu)) (aa (eu [(0,"web"),(1,"thing")] 2 dc (c7 (aw (ah 2) (aw (ah 3) cJ))) fY cm) ag)))))
noncomputable def bS:FM:=gh 2 0 (([]++[])++[]) f_
theorem iS:aB ["web","thing"] ["web","thing"] (am cB):=⟨rfl,rfl,rfl,by decide+kernel,rfl,by decide+kernel,by decide+kernel⟩
theorem ni(h:aY K mg "prices_hold" cB f fd ["web","thing"])(T:gR mg){f_is_prices_form:Addr}{e_is_prices_form:FuncData}(h_is_prices_form:aY K mg "is_prices_form" bZ f_is_prices_form e_is_prices_form ["web","thing"])(G_is_prices_form:aC P w K mg base bB 6 f_is_prices_form e_is_prices_form ["web","thing"] (bD K 2 bJ)){f_less:Addr}{e_less:FuncData}(h_less:aY K mg "less" nI f_less e_less ["one","other"])(G_less:aC P w K mg base bB 1 f_less e_less ["one","other"] (bD K 2 m6)){f_paid_for:Addr}{e_paid_for:FuncData}(h_paid_for:aY K mg "paid_for" fH f_paid_for e_paid_for ["web","prices","tie"])(G_paid_for:aC P w K mg base bB 5 f_paid_for e_paid_for ["web","prices","tie"] (bD K 3 fq)){f_gain_of:Addr}{e_gain_of:FuncData}(h_gain_of:aY K mg "gain_of" gN f_gain_of e_gain_of ["tie"])(G_gain_of:aC P w K mg base bB 4 f_gain_of e_gain_of ["tie"] (bD K 1 gH)):aC P w K mg base bB 7 f fd ["web","thing"] (bD K 2 bS):=by
  have nd:=iS.nd
  exact h.fn iS rfl rfl (fun cdv A outer s H E hr=>(@af _ _ _ _ _ _ _ _ (@b_ _ _ _ _ _ _ _ _ _ _ _ (@cN _ _ _ _ _ (@cj _ _ _ _ (@aI _ _ _ _ _ _ _ _ _ _ _ _ _ _ _ h_is_prices_form G_is_prices_form (hr.mono (by decide)) ((¬0)∘((¬1)∘ab)) (by rfl) (by decide) (by rfl) (by rfl)) (by intro _;rfl)))
      (@aj _ _ _ _ _ (@av _ _ _ _ _ (@cq _ _ _ _ _)))
      (@a9 _ _))
      (@aj _ _ _ _ _ (@av _ _ _ _ _ (@xT _ _ _ _ _ (@bC _ _ _ _ _ _ _ _ _ (@b_any _ _ _ rfl hr) (by rfl) T.b_any ((@nv _ _ _ _ _ _ _ _ _ _ _ _ _ (am cB) ["web","thing"] [(0,"web"),(1,"thing")] ["at","tie"] rfl rfl rfl (@zX _ _ _ _ _ _ _ _ _ rfl rfl T.b_enumerate ((@aK _ _ _ _ _ _ _ rfl (¬0) ac (fun _ _=>rfl))∘ab) (by rfl))
        (fun C s0 H0 fp=>(@eA _ _ _ _ _ _ _ _ rfl rfl (@ar _ _ _ _ _ _ _ _ (@ap _ _ _ 2 _ (show List.Nodup (["web","thing","at","tie"]:List Str) by decide+kernel) rfl (Or.inl rfl) (by trivial)) (@ar _ _ _ _ _ _ _ _ (@ap _ _ _ 3 _ (show List.Nodup (["web","thing","at","tie"]:List Str) by decide+kernel) rfl (Or.inl rfl) (by trivial)) (@de _ _) (by rfl)) (by rfl)) (aD (aD ez)) (by rfl) (by rfl))) (fun C s0 H0 fp=>(@kd _ _))
        (fun C s0 H0 fp=>(@aI _ _ _ _ _ _ _ _ _ _ _ _ _ _ _ h_less G_less (hr.mono (by decide)) ((@aI _ _ _ _ _ _ _ _ _ _ _ _ _ _ _ h_paid_for G_paid_for (hr.mono (by decide)) ((¬0)∘((¬1)∘((¬2)∘ab))) (by rfl) (by decide) (by rfl) (by rfl))∘((@aI _ _ _ _ _ _ _ _ _ _ _ _ _ _ _ h_gain_of G_gain_of (hr.mono (by decide)) ((¬3)∘ab) (by rfl) (by decide) (by rfl) (by rfl))∘ab)) (by rfl) (by decide) (by rfl) (by rfl))) rfl (by decide+kernel) (by decide+kernel) (by decide+kernel) (by decide+kernel) (by decide+kernel) (by decide+kernel) (by decide+kernel) (by intro _;rfl))∘ab) (by decide) (by decide) (by rfl) (by rfl)))))))
noncomputable def tD:FS:=(aE (a7 2 (ao aT (ao bE (ao bE (ao be (ao aT (ae 0) (vC (.int 2147483647))) (vC (.int 48271))) (ao be (ao be (vC (.int 7919)) (ae 1)) (ae 1))) (vC (.int 104729))) (vC (.int 2147483647))))
    (bc (ao aT (ao be (ae 2) (ae 2)) (vC (.int 2147483629)))))
noncomputable def i5:FM:=gh 2 1 ([2]++[]) tD
theorem qZ:aB ["_law_cell","_law_k","_law_number"] ["_law_cell","_law_k"] (am ki):=⟨rfl,rfl,rfl,by decide+kernel,rfl,by decide+kernel,by decide+kernel⟩
theorem xc(h:aY K mg "_law_mixed" ki f fd ["_law_cell","_law_k"])(T:gR mg):aC P w K mg base bB 1 f fd ["_law_cell","_law_k"] (bD K 2 i5):=by
  have nd:=qZ.nd
  exact h.fn qZ rfl rfl (fun cdv A outer s H E hr=>(@af _ _ _ _ _ _ _ _ (@az _ _ _ _ _ 2 _ _ nd rfl (Or.inl rfl) (@aU _ _ _ _ _ _ _ (@br _ _ _ _ _ _ _ rfl (@br _ _ _ _ _ _ _ rfl (@bL _ _ _ _ _ _ _ rfl (@aU _ _ _ _ _ _ _ (¬0) ac) ac) (@bL _ _ _ _ _ _ _ rfl (@bL _ _ _ _ _ _ _ rfl ac (¬1)) (¬1))) ac) ac) (by rfl) (by trivial))
      (@aj _ _ _ _ _ (@av _ _ _ _ _ (@aU _ _ _ _ _ _ _ (@bL _ _ _ _ _ _ _ rfl (¬2) (¬2)) ac)))))
noncomputable def eV:FT:=(nW (aL (ao Bc (ae 3) (ao mM (vC (.int 10)) (vC (.int 18))))) (aL (ao uL (aZ (g1 ff) (aa (ae 1) ag)) (vC (.int 900)))))
noncomputable def iV:FS:=(aE (kg (fZ dy (ae 1) (aa (ao aT (ae 3) (vC (.int 2147483629))) ag)))
    (a7 3 (ao cI (ae 3) (vC (.int 2147483629)))))
noncomputable def i3:FI:=(cD (aa (vC (.int 12)) ag))
noncomputable def gy:FS:=(kg (fZ dy (ae 1) (aa (bG 2 i5 (aa (bG 2 i5 (aa (ae 3) (aa (ao bE (ao be (vC (.int 3)) (ae 4)) (vC (.int 1))) ag))) (aa (ao bE (ao bE (ae 4) (ae 2)) (vC (.int 2))) ag))) ag)))
noncomputable def kX:FI:=(cD (aa (aZ (g2 wC) (aa (aZ (g1 ff) (aa (ae 0) ag)) (aa (vC (.int 63)) ag))) ag))
noncomputable def eU:FS:=(aE (a7 3 (aZ (g1 r9) (aa (ao bg (ae 0) (ae 2)) ag)))
    (aE (iz (aL (ao uL (ae 3) (ao mM (vC (.int 10)) (vC (.int 18)))))
    (eC ([4]++[]) i3 (ah 4) gy)
    dG)
    (aE (jI (2 ^ 4200) eV iV)
    (iz (aL (ao Bc (ae 3) (vC (.int 2147483629))))
    (kg (fZ dy (ae 1) (aa (ao aT (ae 3) (vC (.int 2147483629))) ag)))
    dG))))
noncomputable def tu:FS:=(aE (a7 1 (bT ag))
    (aE (eC ([2]++([3]++((([4]++[])++[])++(([]++[3])++([]++[]))))) kX (ah 2) eU)
    (bc (ae 1))))
noncomputable def j5:FM:=gh 1 4 ([1]++(([2]++([3]++((([4]++[])++[])++(([]++[3])++([]++[])))))++[])) tu
theorem qY:aB ["_law_script","_law_drawn","_law_k","_law_cell","_law_j"] ["_law_script"] (am kh):=⟨rfl,rfl,rfl,by decide+kernel,rfl,by decide+kernel,by decide+kernel⟩
theorem w_(h:aY K mg "_law_draws" kh f fd ["_law_script"])(T:gR mg){fLmixed:Addr}{eLmixed:FuncData}(hLmixed:aY K mg "_law_mixed" ki fLmixed eLmixed ["_law_cell","_law_k"])(GLmixed:aC P w K mg base bB 1 fLmixed eLmixed ["_law_cell","_law_k"] (bD K 2 i5)):aC P w K mg base bB 2 f fd ["_law_script"] (bD K 1 j5):=by
  have nd:=qY.nd
  exact h.fn qY rfl rfl (fun cdv A outer s H E hr=>(@af _ _ _ _ _ _ _ _ (@az _ _ _ _ _ 1 _ _ nd rfl (Or.inl rfl) (@aR _ _ _ _ _ ab) (by rfl) (by trivial))
      (@af _ _ _ _ _ _ _ _ (@fy _ _ _ _ _ _ _ _ _ _ _ PassesOwn.never rfl (@cA _ _ _ _ _ _ _ rfl T.b_range ((@bC _ _ _ _ _ _ _ _ _ (@b_min _ _ rfl) (by rfl) T.b_min ((@bC _ _ _ _ _ _ _ _ _ (@b_len _ _ rfl) (by rfl) T.b_len ((¬0)∘ab) (by decide) (by decide) (by rfl) (by rfl))∘(ac∘ab)) (by decide) (by decide) (by rfl) (by rfl))∘ab) (by rfl)) (@ap _ _ _ 2 _ nd rfl (Or.inl rfl) (by trivial))
      (@af _ _ _ _ _ _ _ _ (@az _ _ _ _ _ 3 _ _ nd rfl (Or.inl rfl) (@bC _ _ _ _ _ _ _ _ _ (@b_abs _ _) (by rfl) T.b_abs ((@aK _ _ _ _ _ _ _ rfl (¬0) (¬2) (fun _ _=>rfl))∘ab) (by decide) (by decide) (by rfl) (by rfl)) (by rfl) (by trivial))
      (@af _ _ _ _ _ _ _ _ (@b_ _ _ _ _ _ _ _ _ _ _ _ (@bj _ _ _ _ _ _ _ _ _ (@rX _ _) (¬3) (@tZ _ _ _ _ _ _ _ ac ac) (aP _))
      (@aj _ _ _ _ _ (@fy _ _ _ _ _ _ _ _ _ _ _ PassesOwn.never rfl (@cA _ _ _ _ _ _ _ rfl T.b_range (ac∘ab) (by rfl)) (@ap _ _ _ 4 _ nd rfl (Or.inl rfl) (by trivial))
      (@aj _ _ _ _ _ (@kb _ _ _ _ _ (@iL _ _ _ _ _ _ _ _ _ rfl (¬1) ((@aI _ _ _ _ _ _ _ _ _ _ _ _ _ _ _ hLmixed GLmixed (hr.mono (by decide)) ((@aI _ _ _ _ _ _ _ _ _ _ _ _ _ _ _ hLmixed GLmixed (hr.mono (by decide)) ((¬3)∘((@br _ _ _ _ _ _ _ rfl (@bL _ _ _ _ _ _ _ rfl ac (¬4)) ac)∘ab)) (by rfl) (by decide) (by rfl) (by rfl))∘((@br _ _ _ _ _ _ _ rfl (@br _ _ _ _ _ _ _ rfl (¬4) (¬2)) ac)∘ab)) (by rfl) (by decide) (by rfl) (by rfl))∘ab) (by rfl) (by rfl) (by rfl) (by rfl) (by rfl)) (by rfl))) (by intro _;rfl)))
      (@a9 _ _))
      (@af _ _ _ _ _ _ _ _ (@nB _ _ _ _ _ _ _ _ _ PassesOwn.never (@kc _ _ _ _ (@p6 _ _ _ _ _ _ _ _ (@bj _ _ _ _ _ _ _ _ _ (@AZ _ _) (¬3) (@tZ _ _ _ _ _ _ _ ac ac) (aP _)) (@md _ _ _ _ _ (@bj _ _ _ _ _ _ _ _ _ (@rX _ _) (@bC _ _ _ _ _ _ _ _ _ (@b_len _ _ rfl) (by rfl) T.b_len ((¬1)∘ab) (by decide) (by decide) (by rfl) (by rfl)) ac (aP _)))))
      (@af _ _ _ _ _ _ _ _ (@kb _ _ _ _ _ (@iL _ _ _ _ _ _ _ _ _ rfl (¬1) ((@aU _ _ _ _ _ _ _ (¬3) ac)∘ab) (by rfl) (by rfl) (by rfl) (by rfl) (by rfl)) (by rfl))
      (@aj _ _ _ _ _ (@az _ _ _ _ _ 3 _ _ nd rfl (Or.inl rfl) (@dX _ _ _ _ _ _ _ (¬3) ac) (by rfl) (by trivial)))))
      (@aj _ _ _ _ _ (@b_ _ _ _ _ _ _ _ _ _ _ _ (@bj _ _ _ _ _ _ _ _ _ (@AZ _ _) (¬3) ac (aP _))
      (@aj _ _ _ _ _ (@kb _ _ _ _ _ (@iL _ _ _ _ _ _ _ _ _ rfl (¬1) ((@aU _ _ _ _ _ _ _ (¬3) ac)∘ab) (by rfl) (by rfl) (by rfl) (by rfl) (by rfl)) (by rfl)))
      (@a9 _ _)))))) (by intro _;rfl))
      (@aj _ _ _ _ _ (@av _ _ _ _ _ (¬1))))))
noncomputable def rV:FS:=(aE (iz (aL (ao (cg false) (ae 0) (bT ag)))
    (bc (vC (.int 0)))
    dG)
    (bc (fZ jC (ae 0) (aa (vC (.int 0)) ag))))
noncomputable def a8:FM:=gh 1 0 (([]++[])++[]) rV
theorem ue:aB ["_law_drawn"] ["_law_drawn"] (am iP):=⟨rfl,rfl,rfl,by decide+kernel,rfl,by decide+kernel,by decide+kernel⟩
theorem zc(h:aY K mg "_law_next" iP f fd ["_law_drawn"])(T:gR mg):aC P w K mg base bB 1 f fd ["_law_drawn"] (bD K 1 a8):=by
  have nd:=ue.nd
  exact h.fn ue rfl rfl (fun cdv A outer s H E hr=>(@af _ _ _ _ _ _ _ _ (@b_ _ _ _ _ _ _ _ _ _ _ _ (@bj _ _ _ _ _ _ _ _ _ (@n5 _ _ _ rfl hr) (¬0) (@aR _ _ _ _ _ ab) (aP _))
      (@aj _ _ _ _ _ (@av _ _ _ _ _ ac))
      (@a9 _ _))
      (@aj _ _ _ _ _ (@av _ _ _ _ _ (@zV _ _ _ _ _ _ _ _ _ rfl (¬0) (ac∘ab) (by rfl) (by rfl) (by rfl) (by rfl) (by rfl))))))
noncomputable def jQ:FT:=(aL (ao (cg true) (ae 1) (vC (.int 0))))
noncomputable def lW:FS:=(sR 0 1 (aa (ae 1) (aa (ao aT (ae 0) (ae 1)) ag)))
noncomputable def Ap:FS:=(aE (jI (2 ^ 4200) jQ lW)
    (bc (aZ (g1 r9) (aa (ae 0) ag))))
noncomputable def mY:FM:=gh 2 0 ([0,1]++[]) Ap
theorem yc:aB ["_law_one","_law_other"] ["_law_one","_law_other"] (am oQ):=⟨rfl,rfl,rfl,by decide+kernel,rfl,by decide+kernel,by decide+kernel⟩
theorem Bs(h:aY K mg "_law_gcd" oQ f fd ["_law_one","_law_other"])(T:gR mg):aC P w K mg base bB 1 f fd ["_law_one","_law_other"] (bD K 2 mY):=by
  have nd:=yc.nd
  exact h.fn yc rfl rfl (fun cdv A outer s H E hr=>(@af _ _ _ _ _ _ _ _ (@nB _ _ _ _ _ _ _ _ _ PassesOwn.never (@bj _ _ _ _ _ _ _ _ _ (@rY _ _ _ rfl hr) (¬1) ac (aP _))
      (@aj _ _ _ _ _ (@xV _ _ _ _ _ 0 1 _ _ _ _ _ _ _ _ _ rfl nd rfl rfl (by decide) rfl rfl ((¬1)∘((@aU _ _ _ _ _ _ _ (¬0) (¬1))∘ab)) (by rfl) (by rfl))))
      (@aj _ _ _ _ _ (@av _ _ _ _ _ (@bC _ _ _ _ _ _ _ _ _ (@b_abs _ _) (by rfl) T.b_abs ((¬0)∘ab) (by decide) (by decide) (by rfl) (by rfl))))))
noncomputable def Aq:FS:=(aE (a7 2 (bG 2 mY (aa (ae 0) (aa (ae 1) ag))))
    (bc (aS (aa (ao cI (ae 0) (ae 2)) (aa (ao cI (ae 1) (ae 2)) ag)))))
noncomputable def dq:FM:=gh 2 1 ([2]++[]) Aq
theorem yd:aB ["_law_top","_law_bottom","_law_common"] ["_law_top","_law_bottom"] (am jh):=⟨rfl,rfl,rfl,by decide+kernel,rfl,by decide+kernel,by decide+kernel⟩
theorem Bu(h:aY K mg "_law_low" jh f fd ["_law_top","_law_bottom"])(T:gR mg){fLgcd:Addr}{eLgcd:FuncData}(hLgcd:aY K mg "_law_gcd" oQ fLgcd eLgcd ["_law_one","_law_other"])(GLgcd:aC P w K mg base bB 1 fLgcd eLgcd ["_law_one","_law_other"] (bD K 2 mY)):aC P w K mg base bB 2 f fd ["_law_top","_law_bottom"] (bD K 2 dq):=by
  have nd:=yd.nd
  exact h.fn yd rfl rfl (fun cdv A outer s H E hr=>(@af _ _ _ _ _ _ _ _ (@az _ _ _ _ _ 2 _ _ nd rfl (Or.inl rfl) (@aI _ _ _ _ _ _ _ _ _ _ _ _ _ _ _ hLgcd GLgcd (hr.mono (by decide)) ((¬0)∘((¬1)∘ab)) (by rfl) (by decide) (by rfl) (by rfl)) (by rfl) (by trivial))
      (@aj _ _ _ _ _ (@av _ _ _ _ _ (@aq _ _ _ _ _ _ ((@dX _ _ _ _ _ _ _ (¬0) (¬2))∘((@dX _ _ _ _ _ _ _ (¬1) (¬2))∘ab)))))))
noncomputable def vF:FS:=(bc (bG 2 dq (aa (ao bE (ao be (ao bg (ae 0) (vC (.int 0))) (ao bg (ae 1) (vC (.int 1)))) (ao be (ao bg (ae 1) (vC (.int 0))) (ao bg (ae 0) (vC (.int 1))))) (aa (ao be (ao bg (ae 0) (vC (.int 1))) (ao bg (ae 1) (vC (.int 1)))) ag))))
noncomputable def fm:FM:=gh 2 0 [] vF
theorem uf:aB ["_law_one","_law_other"] ["_law_one","_law_other"] (am lm):=⟨rfl,rfl,rfl,by decide+kernel,rfl,by decide+kernel,by decide+kernel⟩
theorem ze(h:aY K mg "_law_plus" lm f fd ["_law_one","_law_other"])(T:gR mg){fLlow:Addr}{eLlow:FuncData}(hLlow:aY K mg "_law_low" jh fLlow eLlow ["_law_top","_law_bottom"])(GLlow:aC P w K mg base bB 2 fLlow eLlow ["_law_top","_law_bottom"] (bD K 2 dq)):aC P w K mg base bB 3 f fd ["_law_one","_law_other"] (bD K 2 fm):=by
  have nd:=uf.nd
  exact h.fn uf rfl rfl (fun cdv A outer s H E hr=>(@aj _ _ _ _ _ (@av _ _ _ _ _ (@aI _ _ _ _ _ _ _ _ _ _ _ _ _ _ _ hLlow GLlow (hr.mono (by decide)) ((@br _ _ _ _ _ _ _ rfl (@bL _ _ _ _ _ _ _ rfl (@aK _ _ _ _ _ _ _ rfl (¬0) ac (fun _ _=>rfl)) (@aK _ _ _ _ _ _ _ rfl (¬1) ac (fun _ _=>rfl))) (@bL _ _ _ _ _ _ _ rfl (@aK _ _ _ _ _ _ _ rfl (¬1) ac (fun _ _=>rfl)) (@aK _ _ _ _ _ _ _ rfl (¬0) ac (fun _ _=>rfl))))∘((@bL _ _ _ _ _ _ _ rfl (@aK _ _ _ _ _ _ _ rfl (¬0) ac (fun _ _=>rfl)) (@aK _ _ _ _ _ _ _ rfl (¬1) ac (fun _ _=>rfl)))∘ab)) (by rfl) (by decide) (by rfl) (by rfl)))))
noncomputable def tF:FS:=(bc (bG 2 dq (aa (ao be (ao bg (ae 0) (vC (.int 0))) (ao bg (ae 1) (vC (.int 0)))) (aa (ao be (ao bg (ae 0) (vC (.int 1))) (ao bg (ae 1) (vC (.int 1)))) ag))))
noncomputable def fV:FM:=gh 2 0 [] tF
theorem rf:aB ["_law_one","_law_other"] ["_law_one","_law_other"] (am kl):=⟨rfl,rfl,rfl,by decide+kernel,rfl,by decide+kernel,by decide+kernel⟩
theorem xh(h:aY K mg "_law_times" kl f fd ["_law_one","_law_other"])(T:gR mg){fLlow:Addr}{eLlow:FuncData}(hLlow:aY K mg "_law_low" jh fLlow eLlow ["_law_top","_law_bottom"])(GLlow:aC P w K mg base bB 2 fLlow eLlow ["_law_top","_law_bottom"] (bD K 2 dq)):aC P w K mg base bB 3 f fd ["_law_one","_law_other"] (bD K 2 fV):=by
  have nd:=rf.nd
  exact h.fn rf rfl rfl (fun cdv A outer s H E hr=>(@aj _ _ _ _ _ (@av _ _ _ _ _ (@aI _ _ _ _ _ _ _ _ _ _ _ _ _ _ _ hLlow GLlow (hr.mono (by decide)) ((@bL _ _ _ _ _ _ _ rfl (@aK _ _ _ _ _ _ _ rfl (¬0) ac (fun _ _=>rfl)) (@aK _ _ _ _ _ _ _ rfl (¬1) ac (fun _ _=>rfl)))∘((@bL _ _ _ _ _ _ _ rfl (@aK _ _ _ _ _ _ _ rfl (¬0) ac (fun _ _=>rfl)) (@aK _ _ _ _ _ _ _ rfl (¬1) ac (fun _ _=>rfl)))∘ab)) (by rfl) (by decide) (by rfl) (by rfl)))))
noncomputable def vG:FS:=(aE (iz (aL (ae 1))
    (bc (ao Dm (ae 0) (vC (.bool true))))
    dG)
    (bc (ao Dm (ae 0) (vC (.bool false)))))
noncomputable def mZ:FM:=gh 2 0 (([]++[])++[]) vG
theorem ug:aB ["_law_found","_law_due"] ["_law_found","_law_due"] (am nG):=⟨rfl,rfl,rfl,by decide+kernel,rfl,by decide+kernel,by decide+kernel⟩
theorem zg(h:aY K mg "_law_says" nG f fd ["_law_found","_law_due"])(T:gR mg):aC P w K mg base bB 1 f fd ["_law_found","_law_due"] (bD K 2 mZ):=by
  have nd:=ug.nd
  exact h.fn ug rfl rfl (fun cdv A outer s H E hr=>(@af _ _ _ _ _ _ _ _ (@b_ _ _ _ _ _ _ _ _ _ _ _ (@cj _ _ _ _ (¬1) (by intro _;rfl))
      (@aj _ _ _ _ _ (@av _ _ _ _ _ (@iM _ _ _ _ _ _ _ _ _ (@De _ _) (¬0) (@cq _ _ _ _ _) (aP _))))
      (@a9 _ _))
      (@aj _ _ _ _ _ (@av _ _ _ _ _ (@iM _ _ _ _ _ _ _ _ _ (@De _ _) (¬0) (@cq _ _ _ _ _) (aP _))))))
noncomputable def iC:FS:=(aE (iz (aL (ao (cg false) (ae 1) (vC (.int 0))))
    (bc (ao bg (bT (aa (aS (aa (vC (.int 1)) (aa (vC (.int 2)) ag))) (aa (aS (aa (vC (.int 1)) (aa (vC (.int 3)) ag))) (aa (aS (aa (vC (.int 2)) (aa (vC (.int 3)) ag))) (aa (aS (aa (vC (.int 1)) (aa (vC (.int 1)) ag))) (aa (aS (aa (vC (.int 0)) (aa (vC (.int 1)) ag))) (aa (aS (aa (vC (.int 3)) (aa (vC (.int 4)) ag))) ag))))))) (ao aT (ae 0) (vC (.int 6)))))
    dG)
    (aE (iz (aL (ao (cg false) (ae 1) (vC (.int 1))))
    (aE (a7 2 (ao bE (vC (.int 2)) (ao aT (ae 0) (vC (.int 9)))))
    (bc (bG 2 dq (aa (ao bE (vC (.int 1)) (ao aT (ao cI (ae 0) (vC (.int 9))) (ao gf (ae 2) (vC (.int 1))))) (aa (ae 2) ag)))))
    dG)
    (aE (iz (aL (ao (cg false) (ae 1) (vC (.int 2))))
    (aE (a7 2 (ao bE (vC (.int 1)) (ao aT (ae 0) (vC (.int 100)))))
    (bc (bG 2 dq (aa (ao aT (ao cI (ae 0) (vC (.int 100))) (ao bE (ae 2) (vC (.int 1)))) (aa (ae 2) ag)))))
    dG)
    (bc (aS (aa (vC (.int 1)) (aa (vC (.int 1)) ag)))))))
noncomputable def en:FM:=gh 2 1 (([]++[])++((([2]++[])++[])++((([2]++[])++[])++[]))) iC
theorem oR:aB ["_law_number","_law_kind","_law_bottom"] ["_law_number","_law_kind"] (am iO):=⟨rfl,rfl,rfl,by decide+kernel,rfl,by decide+kernel,by decide+kernel⟩
theorem va(h:aY K mg "_law_chance" iO f fd ["_law_number","_law_kind"])(T:gR mg){fLlow:Addr}{eLlow:FuncData}(hLlow:aY K mg "_law_low" jh fLlow eLlow ["_law_top","_law_bottom"])(GLlow:aC P w K mg base bB 2 fLlow eLlow ["_law_top","_law_bottom"] (bD K 2 dq)):aC P w K mg base bB 3 f fd ["_law_number","_law_kind"] (bD K 2 en):=by
  have nd:=oR.nd
  exact h.fn oR rfl rfl (fun cdv A outer s H E hr=>(@af _ _ _ _ _ _ _ _ (@b_ _ _ _ _ _ _ _ _ _ _ _ (@bj _ _ _ _ _ _ _ _ _ (@n5 _ _ _ rfl hr) (¬1) ac (aP _))
      (@aj _ _ _ _ _ (@av _ _ _ _ _ (@aK _ _ _ _ _ _ _ rfl (@aR _ _ _ _ _ ((@aq _ _ _ _ _ _ (ac∘(ac∘ab)))∘((@aq _ _ _ _ _ _ (ac∘(ac∘ab)))∘((@aq _ _ _ _ _ _ (ac∘(ac∘ab)))∘((@aq _ _ _ _ _ _ (ac∘(ac∘ab)))∘((@aq _ _ _ _ _ _ (ac∘(ac∘ab)))∘((@aq _ _ _ _ _ _ (ac∘(ac∘ab)))∘ab))))))) (@aU _ _ _ _ _ _ _ (¬0) ac) (fun _ _=>rfl))))
      (@a9 _ _))
      (@af _ _ _ _ _ _ _ _ (@b_ _ _ _ _ _ _ _ _ _ _ _ (@bj _ _ _ _ _ _ _ _ _ (@n5 _ _ _ rfl hr) (¬1) ac (aP _))
      (@af _ _ _ _ _ _ _ _ (@az _ _ _ _ _ 2 _ _ nd rfl (Or.inl rfl) (@br _ _ _ _ _ _ _ rfl ac (@aU _ _ _ _ _ _ _ (¬0) ac)) (by rfl) (by trivial))
      (@aj _ _ _ _ _ (@av _ _ _ _ _ (@aI _ _ _ _ _ _ _ _ _ _ _ _ _ _ _ hLlow GLlow (hr.mono (by decide)) ((@br _ _ _ _ _ _ _ rfl ac (@aU _ _ _ _ _ _ _ (@dX _ _ _ _ _ _ _ (¬0) ac) (@nz _ _ _ _ _ _ _ (¬2) ac)))∘((¬2)∘ab)) (by rfl) (by decide) (by rfl) (by rfl)))))
      (@a9 _ _))
      (@af _ _ _ _ _ _ _ _ (@b_ _ _ _ _ _ _ _ _ _ _ _ (@bj _ _ _ _ _ _ _ _ _ (@n5 _ _ _ rfl hr) (¬1) ac (aP _))
      (@af _ _ _ _ _ _ _ _ (@az _ _ _ _ _ 2 _ _ nd rfl (Or.inl rfl) (@br _ _ _ _ _ _ _ rfl ac (@aU _ _ _ _ _ _ _ (¬0) ac)) (by rfl) (by trivial))
      (@aj _ _ _ _ _ (@av _ _ _ _ _ (@aI _ _ _ _ _ _ _ _ _ _ _ _ _ _ _ hLlow GLlow (hr.mono (by decide)) ((@aU _ _ _ _ _ _ _ (@dX _ _ _ _ _ _ _ (¬0) ac) (@br _ _ _ _ _ _ _ rfl (¬2) ac))∘((¬2)∘ab)) (by rfl) (by decide) (by rfl) (by rfl)))))
      (@a9 _ _))
      (@aj _ _ _ _ _ (@av _ _ _ _ _ (@aq _ _ _ _ _ _ (ac∘(ac∘ab)))))))))
noncomputable def tG:FS:=(bc (ao bg (bT (aa (ao aT (ae 0) (vC (.int 7))) (aa (ao bE (vC (.int 5)) (ao aT (ae 0) (vC (.int 2)))) (aa (ao aT (ae 0) (vC (.int 1001))) (aa (ao gf (vC (.int 1000)) (ao aT (ae 0) (vC (.int 3)))) ag))))) (ao aT (ae 1) (vC (.int 4)))))
noncomputable def j6:FM:=gh 2 0 [] tG
theorem rg:aB ["_law_number","_law_kind"] ["_law_number","_law_kind"] (am km):=⟨rfl,rfl,rfl,by decide+kernel,rfl,by decide+kernel,by decide+kernel⟩
theorem xi(h:aY K mg "_law_worth" km f fd ["_law_number","_law_kind"])(T:gR mg):aC P w K mg base bB 1 f fd ["_law_number","_law_kind"] (bD K 2 j6):=by
  have nd:=rg.nd
  exact h.fn rg rfl rfl (fun cdv A outer s H E hr=>(@aj _ _ _ _ _ (@av _ _ _ _ _ (@aK _ _ _ _ _ _ _ rfl (@aR _ _ _ _ _ ((@aU _ _ _ _ _ _ _ (¬0) ac)∘((@br _ _ _ _ _ _ _ rfl ac (@aU _ _ _ _ _ _ _ (¬0) ac))∘((@aU _ _ _ _ _ _ _ (¬0) ac)∘((@nz _ _ _ _ _ _ _ ac (@aU _ _ _ _ _ _ _ (¬0) ac))∘ab))))) (@aU _ _ _ _ _ _ _ (¬1) ac) (fun _ _=>rfl)))))
noncomputable def mT:FI:=(cD (aa (ae 2) ag))
noncomputable def gz:FS:=(aE (a7 8 (bG 1 a8 (aa (ae 0) ag)))
    (aE (a7 9 (ao bg (bT (aa (ao aT (ae 8) (ae 1)) (aa (vC (.int 0)) (aa (ao aT (ae 7) (ae 1)) (aa (ao aT (ae 8) (ae 1)) (aa (ao aT (ae 8) (vC (.int 2))) (aa (ao aT (ae 8) (ae 1)) ag))))))) (ae 3)))
    (aE (a7 10 (ao aT (ao bE (ao bE (ae 9) (vC (.int 1))) (ao aT (ao cI (ae 8) (vC (.int 12))) (ao gf (ae 1) (vC (.int 1))))) (ae 1)))
    (aE (iz (aL (ao (cg false) (ae 3) (vC (.int 4))))
    (jd (aS (aa (vC (.int 0)) (aa (vC (.int 1)) ag))) (c7 (aw (ah 9) (aw (ah 10) cJ))))
    dG)
    (aE (a7 11 (bG 1 a8 (aa (ae 0) ag)))
    (aE (a7 12 (aS (aa (aZ (g2 wC) (aa (ae 9) (aa (ae 10) ag))) (aa (aZ (g2 uM) (aa (ae 9) (aa (ae 10) ag))) ag))))
    (kg (fZ dy (ae 6) (aa (ao bE (ae 12) (aS (aa (bG 2 en (aa (ae 11) (aa (ae 4) ag))) (aa (bG 2 j6 (aa (ao cI (ae 11) (vC (.int 10007))) (aa (ae 5) ag))) ag)))) ag)))))))))
noncomputable def vH:FS:=(aE (a7 3 (ao aT (bG 1 a8 (aa (ae 0) ag)) (vC (.int 6))))
    (aE (a7 4 (ao aT (bG 1 a8 (aa (ae 0) ag)) (vC (.int 4))))
    (aE (a7 5 (ao aT (bG 1 a8 (aa (ae 0) ag)) (vC (.int 4))))
    (aE (a7 6 (bT ag))
    (aE (eC ([7]++([8]++([9]++([10]++((([9]++([10]++[]))++[])++([11]++([12]++[]))))))) mT (ah 7) gz)
    (bc (aZ (g1 ey) (aa (ae 6) ag))))))))
noncomputable def m4:FM:=gh 3 10 ([3]++([4]++([5]++([6]++(([7]++([8]++([9]++([10]++((([9]++([10]++[]))++[])++([11]++([12]++[])))))))++[]))))) vH
theorem uh:aB ["_law_drawn","_law_things","_law_many","_law_shape","_law_odds","_law_worths","_law_found","_law_k","_law_number","_law_one","_law_other","_law_cell","_law_ends"] ["_law_drawn","_law_things","_law_many"] (am nH):=⟨rfl,rfl,rfl,by decide+kernel,rfl,by decide+kernel,by decide+kernel⟩
theorem zh(h:aY K mg "_law_ties" nH f fd ["_law_drawn","_law_things","_law_many"])(T:gR mg){fLnext:Addr}{eLnext:FuncData}(hLnext:aY K mg "_law_next" iP fLnext eLnext ["_law_drawn"])(GLnext:aC P w K mg base bB 1 fLnext eLnext ["_law_drawn"] (bD K 1 a8)){fLchance:Addr}{eLchance:FuncData}(hLchance:aY K mg "_law_chance" iO fLchance eLchance ["_law_number","_law_kind"])(GLchance:aC P w K mg base bB 3 fLchance eLchance ["_law_number","_law_kind"] (bD K 2 en)){fLworth:Addr}{eLworth:FuncData}(hLworth:aY K mg "_law_worth" km fLworth eLworth ["_law_number","_law_kind"])(GLworth:aC P w K mg base bB 1 fLworth eLworth ["_law_number","_law_kind"] (bD K 2 j6)):aC P w K mg base bB 4 f fd ["_law_drawn","_law_things","_law_many"] (bD K 3 m4):=by
  have nd:=uh.nd
  exact h.fn uh rfl rfl (fun cdv A outer s H E hr=>(@af _ _ _ _ _ _ _ _ (@az _ _ _ _ _ 3 _ _ nd rfl (Or.inl rfl) (@aU _ _ _ _ _ _ _ (@aI _ _ _ _ _ _ _ _ _ _ _ _ _ _ _ hLnext GLnext (hr.mono (by decide)) ((¬0)∘ab) (by rfl) (by decide) (by rfl) (by rfl)) ac) (by rfl) (by trivial))
      (@af _ _ _ _ _ _ _ _ (@az _ _ _ _ _ 4 _ _ nd rfl (Or.inl rfl) (@aU _ _ _ _ _ _ _ (@aI _ _ _ _ _ _ _ _ _ _ _ _ _ _ _ hLnext GLnext (hr.mono (by decide)) ((¬0)∘ab) (by rfl) (by decide) (by rfl) (by rfl)) ac) (by rfl) (by trivial))
      (@af _ _ _ _ _ _ _ _ (@az _ _ _ _ _ 5 _ _ nd rfl (Or.inl rfl) (@aU _ _ _ _ _ _ _ (@aI _ _ _ _ _ _ _ _ _ _ _ _ _ _ _ hLnext GLnext (hr.mono (by decide)) ((¬0)∘ab) (by rfl) (by decide) (by rfl) (by rfl)) ac) (by rfl) (by trivial))
      (@af _ _ _ _ _ _ _ _ (@az _ _ _ _ _ 6 _ _ nd rfl (Or.inl rfl) (@aR _ _ _ _ _ ab) (by rfl) (by trivial))
      (@af _ _ _ _ _ _ _ _ (@fy _ _ _ _ _ _ _ _ _ _ _ PassesOwn.never rfl (@cA _ _ _ _ _ _ _ rfl T.b_range ((¬2)∘ab) (by rfl)) (@ap _ _ _ 7 _ nd rfl (Or.inl rfl) (by trivial))
      (@af _ _ _ _ _ _ _ _ (@az _ _ _ _ _ 8 _ _ nd rfl (Or.inl rfl) (@aI _ _ _ _ _ _ _ _ _ _ _ _ _ _ _ hLnext GLnext (hr.mono (by decide)) ((¬0)∘ab) (by rfl) (by decide) (by rfl) (by rfl)) (by rfl) (by trivial))
      (@af _ _ _ _ _ _ _ _ (@az _ _ _ _ _ 9 _ _ nd rfl (Or.inl rfl) (@aK _ _ _ _ _ _ _ rfl (@aR _ _ _ _ _ ((@aU _ _ _ _ _ _ _ (¬8) (¬1))∘(ac∘((@aU _ _ _ _ _ _ _ (¬7) (¬1))∘((@aU _ _ _ _ _ _ _ (¬8) (¬1))∘((@aU _ _ _ _ _ _ _ (¬8) ac)∘((@aU _ _ _ _ _ _ _ (¬8) (¬1))∘ab))))))) (¬3) (fun _ _=>rfl)) (by rfl) (by trivial))
      (@af _ _ _ _ _ _ _ _ (@az _ _ _ _ _ 10 _ _ nd rfl (Or.inl rfl) (@aU _ _ _ _ _ _ _ (@br _ _ _ _ _ _ _ rfl (@br _ _ _ _ _ _ _ rfl (¬9) ac) (@aU _ _ _ _ _ _ _ (@dX _ _ _ _ _ _ _ (¬8) ac) (@nz _ _ _ _ _ _ _ (¬1) ac))) (¬1)) (by rfl) (by trivial))
      (@af _ _ _ _ _ _ _ _ (@b_ _ _ _ _ _ _ _ _ _ _ _ (@bj _ _ _ _ _ _ _ _ _ (@n5 _ _ _ rfl hr) (¬3) ac (aP _))
      (@aj _ _ _ _ _ (@fx _ _ _ _ _ _ _ _ (@aq _ _ _ _ _ _ (ac∘(ac∘ab))) (@eA _ _ _ _ _ _ _ _ rfl rfl (@ar _ _ _ _ _ _ _ _ (@ap _ _ _ 9 _ nd rfl (Or.inl rfl) (by trivial)) (@ar _ _ _ _ _ _ _ _ (@ap _ _ _ 10 _ nd rfl (Or.inl rfl) (by trivial)) (@de _ _) (by rfl)) (by rfl)) (aD (aD ez)) (by rfl) (by rfl)) (by rfl) (by rfl) (by rfl)))
      (@a9 _ _))
      (@af _ _ _ _ _ _ _ _ (@az _ _ _ _ _ 11 _ _ nd rfl (Or.inl rfl) (@aI _ _ _ _ _ _ _ _ _ _ _ _ _ _ _ hLnext GLnext (hr.mono (by decide)) ((¬0)∘ab) (by rfl) (by decide) (by rfl) (by rfl)) (by rfl) (by trivial))
      (@af _ _ _ _ _ _ _ _ (@az _ _ _ _ _ 12 _ _ nd rfl (Or.inl rfl) (@aq _ _ _ _ _ _ ((@bC _ _ _ _ _ _ _ _ _ (@b_min _ _ rfl) (by rfl) T.b_min ((¬9)∘((¬10)∘ab)) (by decide) (by decide) (by rfl) (by rfl))∘((@bC _ _ _ _ _ _ _ _ _ (@b_max _ _ rfl) (by rfl) T.b_max ((¬9)∘((¬10)∘ab)) (by decide) (by decide) (by rfl) (by rfl))∘ab))) (by rfl) (by trivial))
      (@aj _ _ _ _ _ (@kb _ _ _ _ _ (@iL _ _ _ _ _ _ _ _ _ rfl (¬6) ((@br _ _ _ _ _ _ _ rfl (¬12) (@aq _ _ _ _ _ _ ((@aI _ _ _ _ _ _ _ _ _ _ _ _ _ _ _ hLchance GLchance (hr.mono (by decide)) ((¬11)∘((¬4)∘ab)) (by rfl) (by decide) (by rfl) (by rfl))∘((@aI _ _ _ _ _ _ _ _ _ _ _ _ _ _ _ hLworth GLworth (hr.mono (by decide)) ((@dX _ _ _ _ _ _ _ (¬11) ac)∘((¬5)∘ab)) (by rfl) (by decide) (by rfl) (by rfl))∘ab))))∘ab) (by rfl) (by rfl) (by rfl) (by rfl) (by rfl)) (by rfl))))))))) (by intro _;rfl))
      (@aj _ _ _ _ _ (@av _ _ _ _ _ (@bC _ _ _ _ _ _ _ _ _ (@b_tuple _ _ rfl) (by rfl) T.b_tuple ((¬6)∘ab) (by decide) (by decide) (by rfl) (by rfl))))))))))
noncomputable def pO:FI:=(cD (aa (ae 3) ag))
noncomputable def lY:FS:=(kg (fZ dy (ae 7) (aa (ao bg (bT (aa (vC (.int 20)) (aa (ao bE (vC (.int 1)) (ao aT (bG 1 a8 (aa (ae 0) ag)) (vC (.int 3)))) (aa (ao aT (bG 1 a8 (aa (ae 0) ag)) (vC (.int 21))) ag)))) (ae 6)) ag)))
noncomputable def As:FS:=(aE (a7 3 (ao aT (bG 1 a8 (aa (ae 0) ag)) (ao bE (ae 1) (vC (.int 1)))))
    (aE (a7 4 (ao be (ao aT (bG 1 a8 (aa (ae 0) ag)) (ao bE (ae 2) (vC (.int 1)))) (aZ (g1 uI) (aa (ao tQ (ae 3) (vC (.int 1))) ag))))
    (aE (a7 5 (bG 3 m4 (aa (ae 0) (aa (aZ (g2 uM) (aa (vC (.int 2)) (aa (ae 3) ag))) (aa (ae 4) ag)))))
    (aE (a7 6 (ao aT (bG 1 a8 (aa (ae 0) ag)) (vC (.int 3))))
    (aE (a7 7 (bT ag))
    (aE (eC ([8]++[]) pO (ah 8) lY)
    (aE (a7 9 (ao bg (bT (aa (vC (.int 40)) (aa (ao bE (vC (.int 1)) (ao aT (bG 1 a8 (aa (ae 0) ag)) (aZ (g2 uM) (aa (vC (.int 1)) (aa (ae 4) ag))))) (aa (ao aT (bG 1 a8 (aa (ae 0) ag)) (vC (.int 41))) ag)))) (ao aT (bG 1 a8 (aa (ae 0) ag)) (vC (.int 3)))))
    (bc (aS (aa (ae 3) (aa (ae 5) (aa (aZ (g1 ey) (aa (ae 7) ag)) (aa (ae 9) ag)))))))))))))
noncomputable def qH:FM:=gh 3 7 ([3]++([4]++([5]++([6]++([7]++(([8]++[])++([9]++[]))))))) As
theorem yf:aB ["_law_drawn","_law_most","_law_ties_here","_law_things","_law_many","_law_rows","_law_way","_law_patience","_law_k","_law_asks"] ["_law_drawn","_law_most","_law_ties_here"] (am qW):=⟨rfl,rfl,rfl,by decide+kernel,rfl,by decide+kernel,by decide+kernel⟩
theorem Bw(h:aY K mg "_law_web" qW f fd ["_law_drawn","_law_most","_law_ties_here"])(T:gR mg){fLties:Addr}{eLties:FuncData}(hLties:aY K mg "_law_ties" nH fLties eLties ["_law_drawn","_law_things","_law_many"])(GLties:aC P w K mg base bB 4 fLties eLties ["_law_drawn","_law_things","_law_many"] (bD K 3 m4)){fLnext:Addr}{eLnext:FuncData}(hLnext:aY K mg "_law_next" iP fLnext eLnext ["_law_drawn"])(GLnext:aC P w K mg base bB 1 fLnext eLnext ["_law_drawn"] (bD K 1 a8)):aC P w K mg base bB 5 f fd ["_law_drawn","_law_most","_law_ties_here"] (bD K 3 qH):=by
  have nd:=yf.nd
  exact h.fn yf rfl rfl (fun cdv A outer s H E hr=>(@af _ _ _ _ _ _ _ _ (@az _ _ _ _ _ 3 _ _ nd rfl (Or.inl rfl) (@aU _ _ _ _ _ _ _ (@aI _ _ _ _ _ _ _ _ _ _ _ _ _ _ _ hLnext GLnext (hr.mono (by decide)) ((¬0)∘ab) (by rfl) (by decide) (by rfl) (by rfl)) (@br _ _ _ _ _ _ _ rfl (¬1) ac)) (by rfl) (by trivial))
      (@af _ _ _ _ _ _ _ _ (@az _ _ _ _ _ 4 _ _ nd rfl (Or.inl rfl) (@bL _ _ _ _ _ _ _ rfl (@aU _ _ _ _ _ _ _ (@aI _ _ _ _ _ _ _ _ _ _ _ _ _ _ _ hLnext GLnext (hr.mono (by decide)) ((¬0)∘ab) (by rfl) (by decide) (by rfl) (by rfl)) (@br _ _ _ _ _ _ _ rfl (¬2) ac)) (@bC _ _ _ _ _ _ _ _ _ (@b_int _ _) (by rfl) T.b_int ((@iM _ _ _ _ _ _ _ _ _ (@uC _ _) (¬3) ac (aP _))∘ab) (by decide) (by decide) (by rfl) (by rfl))) (by rfl) (by trivial))
      (@af _ _ _ _ _ _ _ _ (@az _ _ _ _ _ 5 _ _ nd rfl (Or.inl rfl) (@aI _ _ _ _ _ _ _ _ _ _ _ _ _ _ _ hLties GLties (hr.mono (by decide)) ((¬0)∘((@bC _ _ _ _ _ _ _ _ _ (@b_max _ _ rfl) (by rfl) T.b_max (ac∘((¬3)∘ab)) (by decide) (by decide) (by rfl) (by rfl))∘((¬4)∘ab))) (by rfl) (by decide) (by rfl) (by rfl)) (by rfl) (by trivial))
      (@af _ _ _ _ _ _ _ _ (@az _ _ _ _ _ 6 _ _ nd rfl (Or.inl rfl) (@aU _ _ _ _ _ _ _ (@aI _ _ _ _ _ _ _ _ _ _ _ _ _ _ _ hLnext GLnext (hr.mono (by decide)) ((¬0)∘ab) (by rfl) (by decide) (by rfl) (by rfl)) ac) (by rfl) (by trivial))
      (@af _ _ _ _ _ _ _ _ (@az _ _ _ _ _ 7 _ _ nd rfl (Or.inl rfl) (@aR _ _ _ _ _ ab) (by rfl) (by trivial))
      (@af _ _ _ _ _ _ _ _ (@fy _ _ _ _ _ _ _ _ _ _ _ PassesOwn.never rfl (@cA _ _ _ _ _ _ _ rfl T.b_range ((¬3)∘ab) (by rfl)) (@ap _ _ _ 8 _ nd rfl (Or.inl rfl) (by trivial))
      (@aj _ _ _ _ _ (@kb _ _ _ _ _ (@iL _ _ _ _ _ _ _ _ _ rfl (¬7) ((@aK _ _ _ _ _ _ _ rfl (@aR _ _ _ _ _ (ac∘((@br _ _ _ _ _ _ _ rfl ac (@aU _ _ _ _ _ _ _ (@aI _ _ _ _ _ _ _ _ _ _ _ _ _ _ _ hLnext GLnext (hr.mono (by decide)) ((¬0)∘ab) (by rfl) (by decide) (by rfl) (by rfl)) ac))∘((@aU _ _ _ _ _ _ _ (@aI _ _ _ _ _ _ _ _ _ _ _ _ _ _ _ hLnext GLnext (hr.mono (by decide)) ((¬0)∘ab) (by rfl) (by decide) (by rfl) (by rfl)) ac)∘ab)))) (¬6) (fun _ _=>rfl))∘ab) (by rfl) (by rfl) (by rfl) (by rfl) (by rfl)) (by rfl))) (by intro _;rfl))
      (@af _ _ _ _ _ _ _ _ (@az _ _ _ _ _ 9 _ _ nd rfl (Or.inl rfl) (@aK _ _ _ _ _ _ _ rfl (@aR _ _ _ _ _ (ac∘((@br _ _ _ _ _ _ _ rfl ac (@aU _ _ _ _ _ _ _ (@aI _ _ _ _ _ _ _ _ _ _ _ _ _ _ _ hLnext GLnext (hr.mono (by decide)) ((¬0)∘ab) (by rfl) (by decide) (by rfl) (by rfl)) (@bC _ _ _ _ _ _ _ _ _ (@b_max _ _ rfl) (by rfl) T.b_max (ac∘((¬4)∘ab)) (by decide) (by decide) (by rfl) (by rfl))))∘((@aU _ _ _ _ _ _ _ (@aI _ _ _ _ _ _ _ _ _ _ _ _ _ _ _ hLnext GLnext (hr.mono (by decide)) ((¬0)∘ab) (by rfl) (by decide) (by rfl) (by rfl)) ac)∘ab)))) (@aU _ _ _ _ _ _ _ (@aI _ _ _ _ _ _ _ _ _ _ _ _ _ _ _ hLnext GLnext (hr.mono (by decide)) ((¬0)∘ab) (by rfl) (by decide) (by rfl) (by rfl)) ac) (fun _ _=>rfl)) (by rfl) (by trivial))
      (@aj _ _ _ _ _ (@av _ _ _ _ _ (@aq _ _ _ _ _ _ ((¬3)∘((¬5)∘((@bC _ _ _ _ _ _ _ _ _ (@b_tuple _ _ rfl) (by rfl) T.b_tuple ((¬7)∘ab) (by decide) (by decide) (by rfl) (by rfl))∘((¬9)∘ab)))))))))))))))
noncomputable def Ar:FS:=(aE (a7 1 (bT (aa (vC .none) (aa (vC (.bool true)) (aa (vC (.bool false)) (aa (vC (.int 0)) (aa (vC (.int 1)) (aa (qe uO (vC (.int 1))) (aa (vC (.int 5)) (aa (vC (.str ("":Str))) (aa (vC (.str ("a":Str))) (aa (vC (.str ("0":Str))) (aa (aS ag) (aa (aS (aa (vC (.int 0)) ag)) (aa (aS (aa (vC (.int 0)) (aa (vC (.int 1)) ag))) (aa (aS (aa (aS ag) (aa (aS ag) ag))) (aa (bT ag) (aa (bT (aa (vC (.int 0)) ag)) (aa (rG []) (aa (rG [(0,1)]) ag))))))))))))))))))))
    (aE (a7 1 (ao bE (ae 1) (bT (aa (aS (aa (vC .none) ag)) (aa (aS (aa (aS ag) ag)) (aa (bT (aa (aS ag) ag)) (aa (aS (aa (vC (.bool true)) (aa (vC (.bool false)) ag))) (aa (aS (aa (aS (aa (vC (.int 0)) (aa (vC (.int 1)) ag))) (aa (aS (aa (vC (.int 1)) (aa (vC (.int 2)) ag))) ag))) (aa (aS (aa (aS (aa (aS ag) (aa (aS ag) ag))) ag)) (aa (aS (aa (vC (.str ("a":Str))) (aa (vC (.int 1)) ag))) (aa (aS (aa (aS (aa (vC (.int 0)) (aa (vC (.int 1)) ag))) ag)) (aa (ao mM (vC (.int 10)) (vC (.int 30))) ag))))))))))))
    (bc (ao bg (ae 1) (ao aT (ae 0) (aZ (g1 ff) (aa (ae 1) ag)))))))
noncomputable def qG:FM:=gh 1 1 ([1]++([1]++[])) Ar
theorem ye:aB ["_law_number","_law_odd_here"] ["_law_number"] (am qV):=⟨rfl,rfl,rfl,by decide+kernel,rfl,by decide+kernel,by decide+kernel⟩
theorem Bv(h:aY K mg "_law_odd" qV f fd ["_law_number"])(T:gR mg):aC P w K mg base bB 1 f fd ["_law_number"] (bD K 1 qG):=by
  have nd:=ye.nd
  exact h.fn ye rfl rfl (fun cdv A outer s H E hr=>(@af _ _ _ _ _ _ _ _ (@az _ _ _ _ _ 1 _ _ nd rfl (Or.inl rfl) (@aR _ _ _ _ _ ((@pZ _ _ _ _)∘((@cq _ _ _ _ _)∘((@cq _ _ _ _ _)∘(ac∘(ac∘((@xP _ _ _ _ _ ac)∘(ac∘((@nA _ _ _ _ _)∘((@nA _ _ _ _ _)∘((@nA _ _ _ _ _)∘((@aq _ _ _ _ _ _ ab)∘((@aq _ _ _ _ _ _ (ac∘ab))∘((@aq _ _ _ _ _ _ (ac∘(ac∘ab)))∘((@aq _ _ _ _ _ _ ((@aq _ _ _ _ _ _ ab)∘((@aq _ _ _ _ _ _ ab)∘ab)))∘((@aR _ _ _ _ _ ab)∘((@aR _ _ _ _ _ (ac∘ab))∘((@xR _ _ _)∘((@xS _ _ _ _ _ _ _ _ _)∘ab))))))))))))))))))) (by rfl) (by trivial))
      (@af _ _ _ _ _ _ _ _ (@az _ _ _ _ _ 1 _ _ nd rfl (Or.inl rfl) (@br _ _ _ _ _ _ _ rfl (¬1) (@aR _ _ _ _ _ ((@aq _ _ _ _ _ _ ((@pZ _ _ _ _)∘ab))∘((@aq _ _ _ _ _ _ ((@aq _ _ _ _ _ _ ab)∘ab))∘((@aR _ _ _ _ _ ((@aq _ _ _ _ _ _ ab)∘ab))∘((@aq _ _ _ _ _ _ ((@cq _ _ _ _ _)∘((@cq _ _ _ _ _)∘ab)))∘((@aq _ _ _ _ _ _ ((@aq _ _ _ _ _ _ (ac∘(ac∘ab)))∘((@aq _ _ _ _ _ _ (ac∘(ac∘ab)))∘ab)))∘((@aq _ _ _ _ _ _ ((@aq _ _ _ _ _ _ ((@aq _ _ _ _ _ _ ab)∘((@aq _ _ _ _ _ _ ab)∘ab)))∘ab))∘((@aq _ _ _ _ _ _ ((@nA _ _ _ _ _)∘(ac∘ab)))∘((@aq _ _ _ _ _ _ ((@aq _ _ _ _ _ _ (ac∘(ac∘ab)))∘ab))∘((@tZ _ _ _ _ _ _ _ ac ac)∘ab))))))))))) (by rfl) (by trivial))
      (@aj _ _ _ _ _ (@av _ _ _ _ _ (@aK _ _ _ _ _ _ _ rfl (¬1) (@aU _ _ _ _ _ _ _ (¬0) (@bC _ _ _ _ _ _ _ _ _ (@b_len _ _ rfl) (by rfl) T.b_len ((¬1)∘ab) (by decide) (by decide) (by rfl) (by rfl))) (fun _ _=>rfl)))))))
noncomputable def il:FI:=(jB (ae 0))
noncomputable def bO:FS:=(iz (rH (fK (aL (qe (jz "int") (ae 1)))) (aL (qe (jz "bool") (ae 1))))
    (bc (vC (.bool false)))
    dG)
noncomputable def cx:FS:=(aE (iz (rH (fK (aL (qe (jz "tuple") (ae 0)))) (aL (ao (cg true) (aZ (g1 ff) (aa (ae 0) ag)) (vC (.int 2)))))
    (bc (vC (.bool false)))
    dG)
    (aE (eC ([1]++([]++[])) il (ah 1) bO)
    (bc (iT (ao tQ (ao bg (ae 0) (vC (.int 1))) (vC (.int 0))) (ao (cg false) (bG 2 mY (aa (ao bg (ae 0) (vC (.int 0))) (aa (ao bg (ae 0) (vC (.int 1))) ag))) (vC (.int 1)))))))
noncomputable def bw:FM:=gh 1 1 (([]++[])++(([1]++([]++[]))++[])) cx
theorem iQ:aB ["_law_thing","_law_part"] ["_law_thing"] (am c8):=⟨rfl,rfl,rfl,by decide+kernel,rfl,by decide+kernel,by decide+kernel⟩
theorem m_(h:aY K mg "_law_is_fraction" c8 f fd ["_law_thing"])(T:gR mg){fLgcd:Addr}{eLgcd:FuncData}(hLgcd:aY K mg "_law_gcd" oQ fLgcd eLgcd ["_law_one","_law_other"])(GLgcd:aC P w K mg base bB 1 fLgcd eLgcd ["_law_one","_law_other"] (bD K 2 mY)):aC P w K mg base bB 2 f fd ["_law_thing"] (bD K 1 bw):=by
  have nd:=iQ.nd
  exact h.fn iQ rfl rfl (fun cdv A outer s H E hr=>(@af _ _ _ _ _ _ _ _ (@b_ _ _ _ _ _ _ _ _ _ _ _ (@kc _ _ _ _ (@iN _ _ _ _ _ _ _ _ (@cN _ _ _ _ _ (@cj _ _ _ _ (@lH _ _ _ _ _ _ _ _ "tuple" rfl (by decide) rfl T.b_isinstance rfl T.b_tuple PyProof.Rows.boot_tuple (by decide) (by decide) (¬0) (by rfl) (by rfl)) (by intro _;rfl))) (@gj _ _ _ _ _ (@bj _ _ _ _ _ _ _ _ _ (@rY _ _ _ rfl hr) (@bC _ _ _ _ _ _ _ _ _ (@b_len _ _ rfl) (by rfl) T.b_len ((¬0)∘ab) (by decide) (by decide) (by rfl) (by rfl)) ac (aP _)))))
      (@aj _ _ _ _ _ (@av _ _ _ _ _ (@cq _ _ _ _ _)))
      (@a9 _ _))
      (@af _ _ _ _ _ _ _ _ (@fy _ _ _ _ _ _ _ _ _ _ _ PassesOwn.never rfl (@jH _ _ _ _ _ rfl (¬0)) (@ap _ _ _ 1 _ nd rfl (Or.inl rfl) (by trivial))
      (@aj _ _ _ _ _ (@b_ _ _ _ _ _ _ _ _ _ _ _ (@kc _ _ _ _ (@iN _ _ _ _ _ _ _ _ (@cN _ _ _ _ _ (@cj _ _ _ _ (@lH _ _ _ _ _ _ _ _ "int" rfl (by decide) rfl T.b_isinstance rfl T.b_int PyProof.Rows.boot_int (by decide) (by decide) (¬1) (by rfl) (by rfl)) (by intro _;rfl))) (@gj _ _ _ _ _ (@cj _ _ _ _ (@lH _ _ _ _ _ _ _ _ "bool" rfl (by decide) rfl T.b_isinstance rfl T.b_bool PyProof.Rows.boot_bool (by decide) (by decide) (¬1) (by rfl) (by rfl)) (by intro _;rfl)))))
      (@aj _ _ _ _ _ (@av _ _ _ _ _ (@cq _ _ _ _ _)))
      (@a9 _ _))) (by intro _;rfl))
      (@aj _ _ _ _ _ (@av _ _ _ _ _ (@li _ _ _ _ _ _ _ _ (@iM _ _ _ _ _ _ _ _ _ (@uC _ _) (@aK _ _ _ _ _ _ _ rfl (¬0) ac (fun _ _=>rfl)) ac (aP _)) (@lj _ _ _ _ _ _ (@iM _ _ _ _ _ _ _ _ _ (@n5 _ _ _ rfl hr) (@aI _ _ _ _ _ _ _ _ _ _ _ _ _ _ _ hLgcd GLgcd (hr.mono (by decide)) ((@aK _ _ _ _ _ _ _ rfl (¬0) ac (fun _ _=>rfl))∘((@aK _ _ _ _ _ _ _ rfl (¬0) ac (fun _ _=>rfl))∘ab)) (by rfl) (by decide) (by rfl) (by rfl)) ac (aP _)))))))))
noncomputable def iG:FI:=(jB (bT (aa (ae 5) (aa (ao bg (ae 6) (ae 2)) ag))))
noncomputable def fN:FS:=(a7 11 (bG 2 fm (aa (ae 11) (aa (aS (aa (ao gf (vC (.int 0)) (ao bg (ae 12) (vC (.int 0)))) (aa (ao bg (ae 12) (vC (.int 1))) ag))) ag))))
noncomputable def iH:FI:=(jB (bT (aa (bG 2 fV (aa (ae 9) (aa (bG 2 fm (aa (ao bg (ae 3) (ae 7)) (aa (ao bg (ae 3) (ae 8)) ag))) ag))) (aa (ao bg (ae 4) (ae 7)) (aa (ao bg (ae 4) (ae 8)) ag)))))
noncomputable def fP:FS:=(a7 11 (bG 2 fm (aa (ae 11) (aa (aS (aa (ao gf (vC (.int 0)) (ao bg (ae 12) (vC (.int 0)))) (aa (ao bg (ae 12) (vC (.int 1))) ag))) ag))))
noncomputable def om:FS:=(aE (jd (ae 1) (c7 (aw (ah 3) (aw (ah 4) (aw (ah 5) (aw (ah 6) cJ))))))
    (aE (jd (ao bg (ao bg (ae 0) (vC (.int 1))) (ae 2)) (c7 (aw (ah 7) (aw (ah 8) (aw (ah 9) (aw (ah 10) cJ))))))
    (aE (a7 11 (bG 2 fV (aa (ae 9) (aa (aS (aa (ae 10) (aa (vC (.int 1)) ag))) ag))))
    (aE (eC ([12]++[11]) iH (ah 12) fP)
    (aE (eC ([12]++[11]) iG (ah 12) fN)
    (bc (ae 11)))))))
noncomputable def dm:FM:=gh 3 10 (([3]++([4]++([5]++([6]++[]))))++(([7]++([8]++([9]++([10]++[]))))++([11]++(([12]++[11])++(([12]++[11])++[]))))) om
theorem nJ:aB ["_law_web_here","_law_prices_here","_law_tie","_law_keeping","_law_bearing","_law_asking","_law_once","_law_one","_law_other","_law_chance_here","_law_worth_here","_law_found","_law_price_here"] ["_law_web_here","_law_prices_here","_law_tie"] (am eY):=⟨rfl,rfl,rfl,by decide+kernel,rfl,by decide+kernel,by decide+kernel⟩
theorem sG(h:aY K mg "_law_lacking" eY f fd ["_law_web_here","_law_prices_here","_law_tie"])(T:gR mg){fLtimes:Addr}{eLtimes:FuncData}(hLtimes:aY K mg "_law_times" kl fLtimes eLtimes ["_law_one","_law_other"])(GLtimes:aC P w K mg base bB 3 fLtimes eLtimes ["_law_one","_law_other"] (bD K 2 fV)){fLplus:Addr}{eLplus:FuncData}(hLplus:aY K mg "_law_plus" lm fLplus eLplus ["_law_one","_law_other"])(GLplus:aC P w K mg base bB 3 fLplus eLplus ["_law_one","_law_other"] (bD K 2 fm)):aC P w K mg base bB 4 f fd ["_law_web_here","_law_prices_here","_law_tie"] (bD K 3 dm):=by
  have nd:=nJ.nd
  exact h.fn nJ rfl rfl (fun cdv A outer s H E hr=>(@af _ _ _ _ _ _ _ _ (@fx _ _ _ _ _ _ _ _ (¬1) (@eA _ _ _ _ _ _ _ _ rfl rfl (@ar _ _ _ _ _ _ _ _ (@ap _ _ _ 3 _ nd rfl (Or.inl rfl) (by trivial)) (@ar _ _ _ _ _ _ _ _ (@ap _ _ _ 4 _ nd rfl (Or.inl rfl) (by trivial)) (@ar _ _ _ _ _ _ _ _ (@ap _ _ _ 5 _ nd rfl (Or.inl rfl) (by trivial)) (@ar _ _ _ _ _ _ _ _ (@ap _ _ _ 6 _ nd rfl (Or.inl rfl) (by trivial)) (@de _ _) (by rfl)) (by rfl)) (by rfl)) (by rfl)) (aD (aD (aD (aD ez)))) (by rfl) (by rfl)) (by rfl) (by rfl) (by rfl))
      (@af _ _ _ _ _ _ _ _ (@fx _ _ _ _ _ _ _ _ (@aK _ _ _ _ _ _ _ rfl (@aK _ _ _ _ _ _ _ rfl (¬0) ac (fun _ _=>rfl)) (¬2) (fun _ _=>rfl)) (@eA _ _ _ _ _ _ _ _ rfl rfl (@ar _ _ _ _ _ _ _ _ (@ap _ _ _ 7 _ nd rfl (Or.inl rfl) (by trivial)) (@ar _ _ _ _ _ _ _ _ (@ap _ _ _ 8 _ nd rfl (Or.inl rfl) (by trivial)) (@ar _ _ _ _ _ _ _ _ (@ap _ _ _ 9 _ nd rfl (Or.inl rfl) (by trivial)) (@ar _ _ _ _ _ _ _ _ (@ap _ _ _ 10 _ nd rfl (Or.inl rfl) (by trivial)) (@de _ _) (by rfl)) (by rfl)) (by rfl)) (by rfl)) (aD (aD (aD (aD ez)))) (by rfl) (by rfl)) (by rfl) (by rfl) (by rfl))
      (@af _ _ _ _ _ _ _ _ (@az _ _ _ _ _ 11 _ _ nd rfl (Or.inl rfl) (@aI _ _ _ _ _ _ _ _ _ _ _ _ _ _ _ hLtimes GLtimes (hr.mono (by decide)) ((¬9)∘((@aq _ _ _ _ _ _ ((¬10)∘(ac∘ab)))∘ab)) (by rfl) (by decide) (by rfl) (by rfl)) (by rfl) (by trivial))
      (@af _ _ _ _ _ _ _ _ (@fy _ _ _ _ _ _ _ _ _ _ _ PassesOwn.never rfl (@jH _ _ _ _ _ rfl (@aR _ _ _ _ _ ((@aI _ _ _ _ _ _ _ _ _ _ _ _ _ _ _ hLtimes GLtimes (hr.mono (by decide)) ((¬9)∘((@aI _ _ _ _ _ _ _ _ _ _ _ _ _ _ _ hLplus GLplus (hr.mono (by decide)) ((@aK _ _ _ _ _ _ _ rfl (¬3) (¬7) (fun _ _=>rfl))∘((@aK _ _ _ _ _ _ _ rfl (¬3) (¬8) (fun _ _=>rfl))∘ab)) (by rfl) (by decide) (by rfl) (by rfl))∘ab)) (by rfl) (by decide) (by rfl) (by rfl))∘((@aK _ _ _ _ _ _ _ rfl (¬4) (¬7) (fun _ _=>rfl))∘((@aK _ _ _ _ _ _ _ rfl (¬4) (¬8) (fun _ _=>rfl))∘ab))))) (@ap _ _ _ 12 _ nd rfl (Or.inl rfl) (by trivial))
      (@aj _ _ _ _ _ (@az _ _ _ _ _ 11 _ _ nd rfl (Or.inl rfl) (@aI _ _ _ _ _ _ _ _ _ _ _ _ _ _ _ hLplus GLplus (hr.mono (by decide)) ((¬11)∘((@aq _ _ _ _ _ _ ((@nz _ _ _ _ _ _ _ ac (@aK _ _ _ _ _ _ _ rfl (¬12) ac (fun _ _=>rfl)))∘((@aK _ _ _ _ _ _ _ rfl (¬12) ac (fun _ _=>rfl))∘ab)))∘ab)) (by rfl) (by decide) (by rfl) (by rfl)) (by rfl) (by trivial))) (by intro _;rfl))
      (@af _ _ _ _ _ _ _ _ (@fy _ _ _ _ _ _ _ _ _ _ _ PassesOwn.never rfl (@jH _ _ _ _ _ rfl (@aR _ _ _ _ _ ((¬5)∘((@aK _ _ _ _ _ _ _ rfl (¬6) (¬2) (fun _ _=>rfl))∘ab)))) (@ap _ _ _ 12 _ nd rfl (Or.inl rfl) (by trivial))
      (@aj _ _ _ _ _ (@az _ _ _ _ _ 11 _ _ nd rfl (Or.inl rfl) (@aI _ _ _ _ _ _ _ _ _ _ _ _ _ _ _ hLplus GLplus (hr.mono (by decide)) ((¬11)∘((@aq _ _ _ _ _ _ ((@nz _ _ _ _ _ _ _ ac (@aK _ _ _ _ _ _ _ rfl (¬12) ac (fun _ _=>rfl)))∘((@aK _ _ _ _ _ _ _ rfl (¬12) ac (fun _ _=>rfl))∘ab)))∘ab)) (by rfl) (by decide) (by rfl) (by rfl)) (by rfl) (by trivial))) (by intro _;rfl))
      (@aj _ _ _ _ _ (@av _ _ _ _ _ (¬11)))))))))
noncomputable def lX:FS:=(bc (ao bg (bT (aa (aS (aa (ao aT (ae 0) (vC (.int 9))) (aa (vC (.int 1)) ag))) (aa (bG 2 dq (aa (ao aT (ae 0) (vC (.int 40))) (aa (ao bE (vC (.int 1)) (ao aT (ao cI (ae 0) (vC (.int 40))) (vC (.int 9)))) ag))) (aa (aS (aa (vC (.int 0)) (aa (vC (.int 1)) ag))) ag)))) (ae 1)))
noncomputable def eN:FM:=gh 2 0 [] lX
theorem q_:aB ["_law_number","_law_kind"] ["_law_number","_law_kind"] (am kj):=⟨rfl,rfl,rfl,by decide+kernel,rfl,by decide+kernel,by decide+kernel⟩
theorem xf(h:aY K mg "_law_price" kj f fd ["_law_number","_law_kind"])(T:gR mg){fLlow:Addr}{eLlow:FuncData}(hLlow:aY K mg "_law_low" jh fLlow eLlow ["_law_top","_law_bottom"])(GLlow:aC P w K mg base bB 2 fLlow eLlow ["_law_top","_law_bottom"] (bD K 2 dq)):aC P w K mg base bB 3 f fd ["_law_number","_law_kind"] (bD K 2 eN):=by
  have nd:=q_.nd
  exact h.fn q_ rfl rfl (fun cdv A outer s H E hr=>(@aj _ _ _ _ _ (@av _ _ _ _ _ (@aK _ _ _ _ _ _ _ rfl (@aR _ _ _ _ _ ((@aq _ _ _ _ _ _ ((@aU _ _ _ _ _ _ _ (¬0) ac)∘(ac∘ab)))∘((@aI _ _ _ _ _ _ _ _ _ _ _ _ _ _ _ hLlow GLlow (hr.mono (by decide)) ((@aU _ _ _ _ _ _ _ (¬0) ac)∘((@br _ _ _ _ _ _ _ rfl ac (@aU _ _ _ _ _ _ _ (@dX _ _ _ _ _ _ _ (¬0) ac) ac))∘ab)) (by rfl) (by decide) (by rfl) (by rfl))∘((@aq _ _ _ _ _ _ (ac∘(ac∘ab)))∘ab)))) (¬1) (fun _ _=>rfl)))))
noncomputable def mR:FI:=(cD (aa (aZ (g1 ff) (aa (ao bg (ae 1) (vC (.int 1))) ag)) ag))
noncomputable def cF:FS:=(aE (a7 7 (vt 3 dm (ae 1) (aa (ae 2) (aa (ae 3) (aa (ae 4) (aa (ae 5) ag)))) (aa (ae 6) ag)))
    (aE (jd (ao bg (ao bg (ae 1) (vC (.int 1))) (ae 6)) (c7 (aw (ah 8) (aw (ah 9) (aw (ah 10) (aw (ah 11) cJ))))))
    (aE (a7 12 (ao aT (bG 1 a8 (aa (ae 0) ag)) (vC (.int 3))))
    (iz (nW (aL (ao tQ (ao bg (ae 7) (vC (.int 0))) (vC (.int 0)))) (aL (ao (cg false) (ae 12) (vC (.int 0)))))
    (qX (ae 7) (ae 5) (ae 6))
    (iz (nW (aL (ao tQ (ao bg (ae 7) (vC (.int 0))) (vC (.int 0)))) (aL (ao (cg false) (ae 12) (vC (.int 1)))))
    (qX (bG 2 fm (aa (ao bg (ae 2) (ae 8)) (aa (bG 2 dq (aa (ao be (ao bg (ae 7) (vC (.int 0))) (ao bg (ae 10) (vC (.int 1)))) (aa (ao be (ao bg (ae 7) (vC (.int 1))) (ao bg (ae 10) (vC (.int 0)))) ag))) ag))) (ae 2) (ae 8))
    (iz (aL (ao tQ (ao bg (ae 7) (vC (.int 0))) (vC (.int 0))))
    (qX (bG 2 fm (aa (ao bg (ae 3) (ae 9)) (aa (ae 7) ag))) (ae 3) (ae 9))
    dG))))))
noncomputable def mS:FI:=(cD (aa (ao bg (ae 1) (vC (.int 0))) ag))
noncomputable def mC:FE:=(bG 2 eN (aa (bG 1 a8 (aa (ae 0) ag)) (aa (ao aT (bG 1 a8 (aa (ae 0) ag)) (vC (.int 3))) ag)))
noncomputable def g_:FI:=(cD (aa (ao bg (ae 1) (vC (.int 0))) ag))
noncomputable def e_:FE:=(bG 2 eN (aa (bG 1 a8 (aa (ae 0) ag)) (aa (ao aT (bG 1 a8 (aa (ae 0) ag)) (vC (.int 3))) ag)))
noncomputable def qi:FS:=(aE (a7 2 (eu [(0,"_law_drawn")] 1 g_ (ah 1) fY e_))
    (aE (a7 3 (eu [(0,"_law_drawn")] 1 mS (ah 1) fY mC))
    (aE (a7 4 (bG 2 eN (aa (bG 1 a8 (aa (ae 0) ag)) (aa (ao aT (bG 1 a8 (aa (ae 0) ag)) (vC (.int 3))) ag))))
    (aE (a7 5 (ao be (bT (aa (aS (aa (vC (.int 0)) (aa (vC (.int 1)) ag))) ag)) (aZ (g1 ff) (aa (ao bg (ae 1) (vC (.int 1))) ag))))
    (aE (eC ([6]++([7]++(([8]++([9]++([10]++([11]++[]))))++([12]++([]++([]++([]++[]))))))) mR (ah 6) cF)
    (bc (aS (aa (aZ (g1 ey) (aa (ae 2) ag)) (aa (aZ (g1 ey) (aa (ae 3) ag)) (aa (ae 4) (aa (aZ (g1 ey) (aa (ae 5) ag)) ag)))))))))))
noncomputable def iJ:FM:=gh 2 11 ([2]++([3]++([4]++([5]++(([6]++([7]++(([8]++([9]++([10]++([11]++[]))))++([12]++([]++([]++([]++[])))))))++[]))))) qi
theorem oS:aB ["_law_drawn","_law_web_here","_law_keeping","_law_bearing","_law_asking","_law_once","_law_tie","_law_lack","_law_one","_law_other","_law_chance_here","_law_worth_here","_law_way"] ["_law_drawn","_law_web_here"] (am fD):=⟨rfl,rfl,rfl,by decide+kernel,rfl,by decide+kernel,by decide+kernel⟩
theorem vb(h:aY K mg "_law_prices" fD f fd ["_law_drawn","_law_web_here"])(T:gR mg){fLprice:Addr}{eLprice:FuncData}(hLprice:aY K mg "_law_price" kj fLprice eLprice ["_law_number","_law_kind"])(GLprice:aC P w K mg base bB 3 fLprice eLprice ["_law_number","_law_kind"] (bD K 2 eN)){fLnext:Addr}{eLnext:FuncData}(hLnext:aY K mg "_law_next" iP fLnext eLnext ["_law_drawn"])(GLnext:aC P w K mg base bB 1 fLnext eLnext ["_law_drawn"] (bD K 1 a8)){fLlacking:Addr}{eLlacking:FuncData}(hLlacking:aY K mg "_law_lacking" eY fLlacking eLlacking ["_law_web_here","_law_prices_here","_law_tie"])(GLlacking:aC P w K mg base bB 4 fLlacking eLlacking ["_law_web_here","_law_prices_here","_law_tie"] (bD K 3 dm)){fLplus:Addr}{eLplus:FuncData}(hLplus:aY K mg "_law_plus" lm fLplus eLplus ["_law_one","_law_other"])(GLplus:aC P w K mg base bB 3 fLplus eLplus ["_law_one","_law_other"] (bD K 2 fm)){fLlow:Addr}{eLlow:FuncData}(hLlow:aY K mg "_law_low" jh fLlow eLlow ["_law_top","_law_bottom"])(GLlow:aC P w K mg base bB 2 fLlow eLlow ["_law_top","_law_bottom"] (bD K 2 dq)):aC P w K mg base bB 5 f fd ["_law_drawn","_law_web_here"] (bD K 2 iJ):=by
  have nd:=oS.nd
  exact h.fn oS rfl rfl (fun cdv A outer s H E hr=>(@af _ _ _ _ _ _ _ _ (@oM _ _ _ (2) _ _ _ _ _ _ _ _ _ _ _ _ _ (am fD) ["_law_drawn","_law_web_here","_law_keeping","_law_bearing","_law_asking","_law_once","_law_tie","_law_lack","_law_one","_law_other","_law_chance_here","_law_worth_here","_law_way"] [(0,"_law_drawn")] ["_law_k"] rfl rfl rfl (@cA _ _ _ _ _ _ _ rfl T.b_range ((@aK _ _ _ _ _ _ _ rfl (¬1) ac (fun _ _=>rfl))∘ab) (by rfl))
        (fun C s0 H0 fp=>(@ap _ _ _ 1 _ (show List.Nodup (["_law_drawn","_law_k"]:List Str) by decide+kernel) rfl (Or.inl rfl) (by trivial))) (fun C s0 H0 fp=>(@kd _ _))
        (fun C s0 H0 fp=>(@aI _ _ _ _ _ _ _ _ _ _ _ _ _ _ _ hLprice GLprice (hr.mono (by decide)) ((@aI _ _ _ _ _ _ _ _ _ _ _ _ _ _ _ hLnext GLnext (hr.mono (by decide)) ((¬0)∘ab) (by rfl) (by decide) (by rfl) (by rfl))∘((@aU _ _ _ _ _ _ _ (@aI _ _ _ _ _ _ _ _ _ _ _ _ _ _ _ hLnext GLnext (hr.mono (by decide)) ((¬0)∘ab) (by rfl) (by decide) (by rfl) (by rfl)) ac)∘ab)) (by rfl) (by decide) (by rfl) (by rfl))) rfl (by decide+kernel) (by decide+kernel) (by decide+kernel) (by decide+kernel) (by decide+kernel) (by decide+kernel) (by decide+kernel) nd rfl rfl (by rfl) (by intro _;rfl))
      (@af _ _ _ _ _ _ _ _ (@oM _ _ _ (3) _ _ _ _ _ _ _ _ _ _ _ _ _ (am fD) ["_law_drawn","_law_web_here","_law_keeping","_law_bearing","_law_asking","_law_once","_law_tie","_law_lack","_law_one","_law_other","_law_chance_here","_law_worth_here","_law_way"] [(0,"_law_drawn")] ["_law_k"] rfl rfl rfl (@cA _ _ _ _ _ _ _ rfl T.b_range ((@aK _ _ _ _ _ _ _ rfl (¬1) ac (fun _ _=>rfl))∘ab) (by rfl))
        (fun C s0 H0 fp=>(@ap _ _ _ 1 _ (show List.Nodup (["_law_drawn","_law_k"]:List Str) by decide+kernel) rfl (Or.inl rfl) (by trivial))) (fun C s0 H0 fp=>(@kd _ _))
        (fun C s0 H0 fp=>(@aI _ _ _ _ _ _ _ _ _ _ _ _ _ _ _ hLprice GLprice (hr.mono (by decide)) ((@aI _ _ _ _ _ _ _ _ _ _ _ _ _ _ _ hLnext GLnext (hr.mono (by decide)) ((¬0)∘ab) (by rfl) (by decide) (by rfl) (by rfl))∘((@aU _ _ _ _ _ _ _ (@aI _ _ _ _ _ _ _ _ _ _ _ _ _ _ _ hLnext GLnext (hr.mono (by decide)) ((¬0)∘ab) (by rfl) (by decide) (by rfl) (by rfl)) ac)∘ab)) (by rfl) (by decide) (by rfl) (by rfl))) rfl (by decide+kernel) (by decide+kernel) (by decide+kernel) (by decide+kernel) (by decide+kernel) (by decide+kernel) (by decide+kernel) nd rfl rfl (by rfl) (by intro _;rfl))
      (@af _ _ _ _ _ _ _ _ (@az _ _ _ _ _ 4 _ _ nd rfl (Or.inl rfl) (@aI _ _ _ _ _ _ _ _ _ _ _ _ _ _ _ hLprice GLprice (hr.mono (by decide)) ((@aI _ _ _ _ _ _ _ _ _ _ _ _ _ _ _ hLnext GLnext (hr.mono (by decide)) ((¬0)∘ab) (by rfl) (by decide) (by rfl) (by rfl))∘((@aU _ _ _ _ _ _ _ (@aI _ _ _ _ _ _ _ _ _ _ _ _ _ _ _ hLnext GLnext (hr.mono (by decide)) ((¬0)∘ab) (by rfl) (by decide) (by rfl) (by rfl)) ac)∘ab)) (by rfl) (by decide) (by rfl) (by rfl)) (by rfl) (by trivial))
      (@af _ _ _ _ _ _ _ _ (@az _ _ _ _ _ 5 _ _ nd rfl (Or.inl rfl) (@bL _ _ _ _ _ _ _ rfl (@aR _ _ _ _ _ ((@aq _ _ _ _ _ _ (ac∘(ac∘ab)))∘ab)) (@bC _ _ _ _ _ _ _ _ _ (@b_len _ _ rfl) (by rfl) T.b_len ((@aK _ _ _ _ _ _ _ rfl (¬1) ac (fun _ _=>rfl))∘ab) (by decide) (by decide) (by rfl) (by rfl))) (by rfl) (by trivial))
      (@af _ _ _ _ _ _ _ _ (@fy _ _ _ _ _ _ _ _ _ _ _ PassesOwn.never rfl (@cA _ _ _ _ _ _ _ rfl T.b_range ((@bC _ _ _ _ _ _ _ _ _ (@b_len _ _ rfl) (by rfl) T.b_len ((@aK _ _ _ _ _ _ _ rfl (¬1) ac (fun _ _=>rfl))∘ab) (by decide) (by decide) (by rfl) (by rfl))∘ab) (by rfl)) (@ap _ _ _ 6 _ nd rfl (Or.inl rfl) (by trivial))
      (@af _ _ _ _ _ _ _ _ (@az _ _ _ _ _ 7 _ _ nd rfl (Or.inl rfl) (@D7 _ _ _ _ _ _ _ _ _ _ _ _ _ _ _ _ _ _ _ _ hLlacking GLlacking (hr.mono (by decide)) (¬1) (by rfl) ((¬2)∘((¬3)∘((¬4)∘((¬5)∘ab)))) ((¬6)∘ab) (by rfl) (by decide) (by rfl) (by rfl)) (by rfl) (by trivial))
      (@af _ _ _ _ _ _ _ _ (@fx _ _ _ _ _ _ _ _ (@aK _ _ _ _ _ _ _ rfl (@aK _ _ _ _ _ _ _ rfl (¬1) ac (fun _ _=>rfl)) (¬6) (fun _ _=>rfl)) (@eA _ _ _ _ _ _ _ _ rfl rfl (@ar _ _ _ _ _ _ _ _ (@ap _ _ _ 8 _ nd rfl (Or.inl rfl) (by trivial)) (@ar _ _ _ _ _ _ _ _ (@ap _ _ _ 9 _ nd rfl (Or.inl rfl) (by trivial)) (@ar _ _ _ _ _ _ _ _ (@ap _ _ _ 10 _ nd rfl (Or.inl rfl) (by trivial)) (@ar _ _ _ _ _ _ _ _ (@ap _ _ _ 11 _ nd rfl (Or.inl rfl) (by trivial)) (@de _ _) (by rfl)) (by rfl)) (by rfl)) (by rfl)) (aD (aD (aD (aD ez)))) (by rfl) (by rfl)) (by rfl) (by rfl) (by rfl))
      (@af _ _ _ _ _ _ _ _ (@az _ _ _ _ _ 12 _ _ nd rfl (Or.inl rfl) (@aU _ _ _ _ _ _ _ (@aI _ _ _ _ _ _ _ _ _ _ _ _ _ _ _ hLnext GLnext (hr.mono (by decide)) ((¬0)∘ab) (by rfl) (by decide) (by rfl) (by rfl)) ac) (by rfl) (by trivial))
      (@aj _ _ _ _ _ (@b_ _ _ _ _ _ _ _ _ _ _ _ (@kc _ _ _ _ (@p6 _ _ _ _ _ _ _ _ (@bj _ _ _ _ _ _ _ _ _ (@uC _ _) (@aK _ _ _ _ _ _ _ rfl (¬7) ac (fun _ _=>rfl)) ac (aP _)) (@md _ _ _ _ _ (@bj _ _ _ _ _ _ _ _ _ (@n5 _ _ _ rfl hr) (¬12) ac (aP _)))))
      (@aj _ _ _ _ _ (@sP _ _ _ _ _ _ _ _ _ _ (¬7) (¬5) (¬6) (by intro _;rfl) (by rfl) (by rfl) (by rfl)))
      (@aj _ _ _ _ _ (@b_ _ _ _ _ _ _ _ _ _ _ _ (@kc _ _ _ _ (@p6 _ _ _ _ _ _ _ _ (@bj _ _ _ _ _ _ _ _ _ (@uC _ _) (@aK _ _ _ _ _ _ _ rfl (¬7) ac (fun _ _=>rfl)) ac (aP _)) (@md _ _ _ _ _ (@bj _ _ _ _ _ _ _ _ _ (@n5 _ _ _ rfl hr) (¬12) ac (aP _)))))
      (@aj _ _ _ _ _ (@sP _ _ _ _ _ _ _ _ _ _ (@aI _ _ _ _ _ _ _ _ _ _ _ _ _ _ _ hLplus GLplus (hr.mono (by decide)) ((@aK _ _ _ _ _ _ _ rfl (¬2) (¬8) (fun _ _=>rfl))∘((@aI _ _ _ _ _ _ _ _ _ _ _ _ _ _ _ hLlow GLlow (hr.mono (by decide)) ((@bL _ _ _ _ _ _ _ rfl (@aK _ _ _ _ _ _ _ rfl (¬7) ac (fun _ _=>rfl)) (@aK _ _ _ _ _ _ _ rfl (¬10) ac (fun _ _=>rfl)))∘((@bL _ _ _ _ _ _ _ rfl (@aK _ _ _ _ _ _ _ rfl (¬7) ac (fun _ _=>rfl)) (@aK _ _ _ _ _ _ _ rfl (¬10) ac (fun _ _=>rfl)))∘ab)) (by rfl) (by decide) (by rfl) (by rfl))∘ab)) (by rfl) (by decide) (by rfl) (by rfl)) (¬2) (¬8) (by intro _;rfl) (by rfl) (by rfl) (by rfl)))
      (@aj _ _ _ _ _ (@b_ _ _ _ _ _ _ _ _ _ _ _ (@bj _ _ _ _ _ _ _ _ _ (@uC _ _) (@aK _ _ _ _ _ _ _ rfl (¬7) ac (fun _ _=>rfl)) ac (aP _))
      (@aj _ _ _ _ _ (@sP _ _ _ _ _ _ _ _ _ _ (@aI _ _ _ _ _ _ _ _ _ _ _ _ _ _ _ hLplus GLplus (hr.mono (by decide)) ((@aK _ _ _ _ _ _ _ rfl (¬3) (¬9) (fun _ _=>rfl))∘((¬7)∘ab)) (by rfl) (by decide) (by rfl) (by rfl)) (¬3) (¬9) (by intro _;rfl) (by rfl) (by rfl) (by rfl)))
      (@a9 _ _)))))))))) (by intro _;rfl))
      (@aj _ _ _ _ _ (@av _ _ _ _ _ (@aq _ _ _ _ _ _ ((@bC _ _ _ _ _ _ _ _ _ (@b_tuple _ _ rfl) (by rfl) T.b_tuple ((¬2)∘ab) (by decide) (by decide) (by rfl) (by rfl))∘((@bC _ _ _ _ _ _ _ _ _ (@b_tuple _ _ rfl) (by rfl) T.b_tuple ((¬3)∘ab) (by decide) (by decide) (by rfl) (by rfl))∘((¬4)∘((@bC _ _ _ _ _ _ _ _ _ (@b_tuple _ _ rfl) (by rfl) T.b_tuple ((¬5)∘ab) (by decide) (by decide) (by rfl) (by rfl))∘ab)))))))))))))
noncomputable def iF:FI:=(jB (ae 0))
noncomputable def cG:FT:=(rH (fK (aL (bG 1 bw (aa (ae 0) ag)))) (aL (ao uL (ao bg (ae 0) (vC (.int 0))) (vC (.int 0)))))
noncomputable def e8:FE:=(ae 0)
noncomputable def eL:FS:=(aE (iz (rH (fK (aL (qe (jz "tuple") (ae 0)))) (aL (ao (cg true) (aZ (g1 ff) (aa (ae 0) ag)) (ae 1))))
    (bc (vC (.bool false)))
    dG)
    (bc (ao (r_ false) (eu [] 1 iF (ah 0) cG e8) (bT ag))))
noncomputable def bv:FM:=gh 2 0 (([]++[])++[]) eL
theorem ji:aB ["_law_thing","_law_many"] ["_law_thing","_law_many"] (am cT):=⟨rfl,rfl,rfl,by decide+kernel,rfl,by decide+kernel,by decide+kernel⟩
theorem og(h:aY K mg "_law_are_prices" cT f fd ["_law_thing","_law_many"])(T:gR mg){fLis_fraction:Addr}{eLis_fraction:FuncData}(hLis_fraction:aY K mg "_law_is_fraction" c8 fLis_fraction eLis_fraction ["_law_thing"])(GLis_fraction:aC P w K mg base bB 2 fLis_fraction eLis_fraction ["_law_thing"] (bD K 1 bw)):aC P w K mg base bB 3 f fd ["_law_thing","_law_many"] (bD K 2 bv):=by
  have nd:=ji.nd
  exact h.fn ji rfl rfl (fun cdv A outer s H E hr=>(@af _ _ _ _ _ _ _ _ (@b_ _ _ _ _ _ _ _ _ _ _ _ (@kc _ _ _ _ (@iN _ _ _ _ _ _ _ _ (@cN _ _ _ _ _ (@cj _ _ _ _ (@lH _ _ _ _ _ _ _ _ "tuple" rfl (by decide) rfl T.b_isinstance rfl T.b_tuple PyProof.Rows.boot_tuple (by decide) (by decide) (¬0) (by rfl) (by rfl)) (by intro _;rfl))) (@gj _ _ _ _ _ (@bj _ _ _ _ _ _ _ _ _ (@rY _ _ _ rfl hr) (@bC _ _ _ _ _ _ _ _ _ (@b_len _ _ rfl) (by rfl) T.b_len ((¬0)∘ab) (by decide) (by decide) (by rfl) (by rfl)) (¬1) (aP _)))))
      (@aj _ _ _ _ _ (@av _ _ _ _ _ (@cq _ _ _ _ _)))
      (@a9 _ _))
      (@aj _ _ _ _ _ (@av _ _ _ _ _ (@iM _ _ _ _ _ _ _ _ _ (@Av _ _ _ rfl hr) (@nv _ _ _ _ _ _ _ _ _ _ _ _ _ (am cT) ["_law_thing","_law_many"] [] ["_law_price_here"] rfl rfl rfl (@jH _ _ _ _ _ rfl (¬0))
        (fun C s0 H0 fp=>(@ap _ _ _ 0 _ (show List.Nodup (["_law_price_here"]:List Str) by decide+kernel) rfl (Or.inl rfl) (by trivial))) (fun C s0 H0 fp=>(@t9 _ _ _ _ (@kc _ _ _ _ (@iN _ _ _ _ _ _ _ _ (@cN _ _ _ _ _ (@cj _ _ _ _ (@aI _ _ _ _ _ _ _ _ _ _ _ _ _ _ _ hLis_fraction GLis_fraction (hr.mono (by decide)) ((¬0)∘ab) (by rfl) (by decide) (by rfl) (by rfl)) (by intro _;rfl))) (@gj _ _ _ _ _ (@bj _ _ _ _ _ _ _ _ _ (@rX _ _) (@aK _ _ _ _ _ _ _ rfl (¬0) ac (fun _ _=>rfl)) ac (aP _)))))))
        (fun C s0 H0 fp=>(¬0)) rfl (by decide+kernel) (by decide+kernel) (by decide+kernel) (by decide+kernel) (by decide+kernel) (by decide+kernel) (by decide+kernel) (by intro _;rfl)) (@aR _ _ _ _ _ ab) (aP _))))))
noncomputable def kY:FI:=(cD (aa (aZ (g1 ff) (aa (ao bg (ae 0) (vC (.int 1))) ag)) ag))
noncomputable def gB:FT:=(aL (ao tQ (ao bg (bG 3 dm (aa (ae 0) (aa (ae 1) (aa (ae 2) ag)))) (vC (.int 0))) (vC (.int 0))))
noncomputable def kR:FE:=(ae 2)
noncomputable def jP:FS:=(aE (iz (rH (fK (aL (qe (jz "tuple") (ae 1)))) (aL (ao (cg true) (aZ (g1 ff) (aa (ae 1) ag)) (vC (.int 4)))))
    (bc (vC (.bool false)))
    dG)
    (aE (jd (ae 1) (c7 (aw (ah 2) (aw (ah 3) (aw (ah 4) (aw (ah 5) cJ))))))
    (aE (iz (rH (fK (aL (bG 2 bv (aa (ae 2) (aa (ao bg (ae 0) (vC (.int 0))) ag))))) (fK (aL (bG 2 bv (aa (ae 3) (aa (ao bg (ae 0) (vC (.int 0))) ag))))))
    (bc (vC (.bool false)))
    dG)
    (aE (iz (rH (fK (aL (bG 2 bv (aa (aS (aa (ae 4) ag)) (aa (vC (.int 1)) ag))))) (fK (aL (bG 2 bv (aa (ae 5) (aa (aZ (g1 ff) (aa (ao bg (ae 0) (vC (.int 1))) ag)) ag))))))
    (bc (vC (.bool false)))
    dG)
    (bc (ao (r_ false) (eu [(0,"_law_web_here"),(1,"_law_thing")] 1 kY (ah 2) gB kR) (bT ag)))))))
noncomputable def fU:FM:=gh 2 4 (([]++[])++(([2]++([3]++([4]++([5]++[]))))++(([]++[])++(([]++[])++[])))) jP
theorem rc:aB ["_law_web_here","_law_thing","_law_keeping","_law_bearing","_law_asking","_law_once"] ["_law_web_here","_law_thing"] (am i7):=⟨rfl,rfl,rfl,by decide+kernel,rfl,by decide+kernel,by decide+kernel⟩
theorem xg(h:aY K mg "_law_right" i7 f fd ["_law_web_here","_law_thing"])(T:gR mg){fLare_prices:Addr}{eLare_prices:FuncData}(hLare_prices:aY K mg "_law_are_prices" cT fLare_prices eLare_prices ["_law_thing","_law_many"])(GLare_prices:aC P w K mg base bB 3 fLare_prices eLare_prices ["_law_thing","_law_many"] (bD K 2 bv)){fLlacking:Addr}{eLlacking:FuncData}(hLlacking:aY K mg "_law_lacking" eY fLlacking eLlacking ["_law_web_here","_law_prices_here","_law_tie"])(GLlacking:aC P w K mg base bB 4 fLlacking eLlacking ["_law_web_here","_law_prices_here","_law_tie"] (bD K 3 dm)):aC P w K mg base bB 5 f fd ["_law_web_here","_law_thing"] (bD K 2 fU):=by
  have nd:=rc.nd
  exact h.fn rc rfl rfl (fun cdv A outer s H E hr=>(@af _ _ _ _ _ _ _ _ (@b_ _ _ _ _ _ _ _ _ _ _ _ (@kc _ _ _ _ (@iN _ _ _ _ _ _ _ _ (@cN _ _ _ _ _ (@cj _ _ _ _ (@lH _ _ _ _ _ _ _ _ "tuple" rfl (by decide) rfl T.b_isinstance rfl T.b_tuple PyProof.Rows.boot_tuple (by decide) (by decide) (¬1) (by rfl) (by rfl)) (by intro _;rfl))) (@gj _ _ _ _ _ (@bj _ _ _ _ _ _ _ _ _ (@rY _ _ _ rfl hr) (@bC _ _ _ _ _ _ _ _ _ (@b_len _ _ rfl) (by rfl) T.b_len ((¬1)∘ab) (by decide) (by decide) (by rfl) (by rfl)) ac (aP _)))))
      (@aj _ _ _ _ _ (@av _ _ _ _ _ (@cq _ _ _ _ _)))
      (@a9 _ _))
      (@af _ _ _ _ _ _ _ _ (@fx _ _ _ _ _ _ _ _ (¬1) (@eA _ _ _ _ _ _ _ _ rfl rfl (@ar _ _ _ _ _ _ _ _ (@ap _ _ _ 2 _ nd rfl (Or.inl rfl) (by trivial)) (@ar _ _ _ _ _ _ _ _ (@ap _ _ _ 3 _ nd rfl (Or.inl rfl) (by trivial)) (@ar _ _ _ _ _ _ _ _ (@ap _ _ _ 4 _ nd rfl (Or.inl rfl) (by trivial)) (@ar _ _ _ _ _ _ _ _ (@ap _ _ _ 5 _ nd rfl (Or.inl rfl) (by trivial)) (@de _ _) (by rfl)) (by rfl)) (by rfl)) (by rfl)) (aD (aD (aD (aD ez)))) (by rfl) (by rfl)) (by rfl) (by rfl) (by rfl))
      (@af _ _ _ _ _ _ _ _ (@b_ _ _ _ _ _ _ _ _ _ _ _ (@kc _ _ _ _ (@iN _ _ _ _ _ _ _ _ (@cN _ _ _ _ _ (@cj _ _ _ _ (@aI _ _ _ _ _ _ _ _ _ _ _ _ _ _ _ hLare_prices GLare_prices (hr.mono (by decide)) ((¬2)∘((@aK _ _ _ _ _ _ _ rfl (¬0) ac (fun _ _=>rfl))∘ab)) (by rfl) (by decide) (by rfl) (by rfl)) (by intro _;rfl))) (@gj _ _ _ _ _ (@cN _ _ _ _ _ (@cj _ _ _ _ (@aI _ _ _ _ _ _ _ _ _ _ _ _ _ _ _ hLare_prices GLare_prices (hr.mono (by decide)) ((¬3)∘((@aK _ _ _ _ _ _ _ rfl (¬0) ac (fun _ _=>rfl))∘ab)) (by rfl) (by decide) (by rfl) (by rfl)) (by intro _;rfl))))))
      (@aj _ _ _ _ _ (@av _ _ _ _ _ (@cq _ _ _ _ _)))
      (@a9 _ _))
      (@af _ _ _ _ _ _ _ _ (@b_ _ _ _ _ _ _ _ _ _ _ _ (@kc _ _ _ _ (@iN _ _ _ _ _ _ _ _ (@cN _ _ _ _ _ (@cj _ _ _ _ (@aI _ _ _ _ _ _ _ _ _ _ _ _ _ _ _ hLare_prices GLare_prices (hr.mono (by decide)) ((@aq _ _ _ _ _ _ ((¬4)∘ab))∘(ac∘ab)) (by rfl) (by decide) (by rfl) (by rfl)) (by intro _;rfl))) (@gj _ _ _ _ _ (@cN _ _ _ _ _ (@cj _ _ _ _ (@aI _ _ _ _ _ _ _ _ _ _ _ _ _ _ _ hLare_prices GLare_prices (hr.mono (by decide)) ((¬5)∘((@bC _ _ _ _ _ _ _ _ _ (@b_len _ _ rfl) (by rfl) T.b_len ((@aK _ _ _ _ _ _ _ rfl (¬0) ac (fun _ _=>rfl))∘ab) (by decide) (by decide) (by rfl) (by rfl))∘ab)) (by rfl) (by decide) (by rfl) (by rfl)) (by intro _;rfl))))))
      (@aj _ _ _ _ _ (@av _ _ _ _ _ (@cq _ _ _ _ _)))
      (@a9 _ _))
      (@aj _ _ _ _ _ (@av _ _ _ _ _ (@iM _ _ _ _ _ _ _ _ _ (@Av _ _ _ rfl hr) (@nv _ _ _ _ _ _ _ _ _ _ _ _ _ (am i7) ["_law_web_here","_law_thing","_law_keeping","_law_bearing","_law_asking","_law_once"] [(0,"_law_web_here"),(1,"_law_thing")] ["_law_tie"] rfl rfl rfl (@cA _ _ _ _ _ _ _ rfl T.b_range ((@bC _ _ _ _ _ _ _ _ _ (@b_len _ _ rfl) (by rfl) T.b_len ((@aK _ _ _ _ _ _ _ rfl (¬0) ac (fun _ _=>rfl))∘ab) (by decide) (by decide) (by rfl) (by rfl))∘ab) (by rfl))
        (fun C s0 H0 fp=>(@ap _ _ _ 2 _ (show List.Nodup (["_law_web_here","_law_thing","_law_tie"]:List Str) by decide+kernel) rfl (Or.inl rfl) (by trivial))) (fun C s0 H0 fp=>(@t9 _ _ _ _ (@bj _ _ _ _ _ _ _ _ _ (@uC _ _) (@aK _ _ _ _ _ _ _ rfl (@aI _ _ _ _ _ _ _ _ _ _ _ _ _ _ _ hLlacking GLlacking (hr.mono (by decide)) ((¬0)∘((¬1)∘((¬2)∘ab))) (by rfl) (by decide) (by rfl) (by rfl)) ac (fun _ _=>rfl)) ac (aP _))))
        (fun C s0 H0 fp=>(¬2)) rfl (by decide+kernel) (by decide+kernel) (by decide+kernel) (by decide+kernel) (by decide+kernel) (by decide+kernel) (by decide+kernel) (by intro _;rfl)) (@aR _ _ _ _ _ ab) (aP _)))))))))
noncomputable def gT:FS:=(aE (jd (ae 1) (c7 (aw (ah 2) (aw (ah 3) cJ))))
    (aE (a7 4 (bT (aa (bG 2 dq (aa (ao gf (ao be (ae 2) (vC (.int 1000))) (ae 3)) (aa (ao be (ae 3) (vC (.int 1000))) ag))) (aa (bG 2 dq (aa (ao bE (ao be (ae 2) (vC (.int 1000))) (ae 3)) (aa (ao be (ae 3) (vC (.int 1000))) ag))) (aa (aS (aa (vC (.int 0)) (aa (vC (.int 1)) ag))) ag)))))
    (aE (a7 4 (ao bE (ae 4) (bT (aa (aS (aa (qe uO (vC (.int 1))) (aa (vC (.int 3)) ag))) (aa (aS (aa (ao be (vC (.int 2)) (ae 2)) (aa (ao be (vC (.int 2)) (ae 3)) ag))) (aa (ae 2) (aa (vC .none) (aa (vC (.bool true)) (aa (aS (aa (vC (.bool true)) (aa (vC (.int 1)) ag))) (aa (bT (aa (ae 2) (aa (ae 3) ag))) (aa (aS (aa (ae 2) (aa (ae 3) (aa (vC (.int 1)) ag)))) ag)))))))))))
    (aE (a7 4 (ao bE (ae 4) (bT (aa (aS (aa (vC .none) (aa (ae 3) ag))) (aa (aS (aa (ae 2) (aa (vC (.str ("1":Str))) ag))) (aa (aS (aa (aS (aa (ae 2) ag)) (aa (ae 3) ag))) (aa (aS (aa (bT (aa (ae 2) ag)) (aa (ae 3) ag))) (aa (aS (aa (vC (.bool false)) (aa (vC (.int 1)) ag))) (aa (aS (aa (ae 2) (aa (vC (.bool true)) ag))) ag)))))))))
    (aE (a7 5 (ao mM (vC (.int 10)) (vC (.int 20))))
    (aE (a7 4 (ao bE (ae 4) (bT (aa (bG 2 dq (aa (ao gf (ao be (ae 2) (ae 5)) (ae 3)) (aa (ao be (ae 3) (ae 5)) ag))) (aa (bG 2 dq (aa (ao bE (ao be (ae 2) (ae 5)) (ae 3)) (aa (ao be (ae 3) (ae 5)) ag))) ag)))))
    (bc (ao bg (ae 4) (ao aT (ae 0) (aZ (g1 ff) (aa (ae 4) ag)))))))))))
noncomputable def ci:FM:=gh 2 4 (([2]++([3]++[]))++([4]++([4]++([4]++([5]++([4]++[])))))) gT
theorem jj:aB ["_law_number","_law_price_here","_law_top","_law_bottom","_law_some","_law_far"] ["_law_number","_law_price_here"] (am cU):=⟨rfl,rfl,rfl,by decide+kernel,rfl,by decide+kernel,by decide+kernel⟩
theorem oh(h:aY K mg "_law_bent_price" cU f fd ["_law_number","_law_price_here"])(T:gR mg){fLlow:Addr}{eLlow:FuncData}(hLlow:aY K mg "_law_low" jh fLlow eLlow ["_law_top","_law_bottom"])(GLlow:aC P w K mg base bB 2 fLlow eLlow ["_law_top","_law_bottom"] (bD K 2 dq)):aC P w K mg base bB 3 f fd ["_law_number","_law_price_here"] (bD K 2 ci):=by
  have nd:=jj.nd
  exact h.fn jj rfl rfl (fun cdv A outer s H E hr=>(@af _ _ _ _ _ _ _ _ (@fx _ _ _ _ _ _ _ _ (¬1) (@eA _ _ _ _ _ _ _ _ rfl rfl (@ar _ _ _ _ _ _ _ _ (@ap _ _ _ 2 _ nd rfl (Or.inl rfl) (by trivial)) (@ar _ _ _ _ _ _ _ _ (@ap _ _ _ 3 _ nd rfl (Or.inl rfl) (by trivial)) (@de _ _) (by rfl)) (by rfl)) (aD (aD ez)) (by rfl) (by rfl)) (by rfl) (by rfl) (by rfl))
      (@af _ _ _ _ _ _ _ _ (@az _ _ _ _ _ 4 _ _ nd rfl (Or.inl rfl) (@aR _ _ _ _ _ ((@aI _ _ _ _ _ _ _ _ _ _ _ _ _ _ _ hLlow GLlow (hr.mono (by decide)) ((@nz _ _ _ _ _ _ _ (@bL _ _ _ _ _ _ _ rfl (¬2) ac) (¬3))∘((@bL _ _ _ _ _ _ _ rfl (¬3) ac)∘ab)) (by rfl) (by decide) (by rfl) (by rfl))∘((@aI _ _ _ _ _ _ _ _ _ _ _ _ _ _ _ hLlow GLlow (hr.mono (by decide)) ((@br _ _ _ _ _ _ _ rfl (@bL _ _ _ _ _ _ _ rfl (¬2) ac) (¬3))∘((@bL _ _ _ _ _ _ _ rfl (¬3) ac)∘ab)) (by rfl) (by decide) (by rfl) (by rfl))∘((@aq _ _ _ _ _ _ (ac∘(ac∘ab)))∘ab)))) (by rfl) (by trivial))
      (@af _ _ _ _ _ _ _ _ (@az _ _ _ _ _ 4 _ _ nd rfl (Or.inl rfl) (@br _ _ _ _ _ _ _ rfl (¬4) (@aR _ _ _ _ _ ((@aq _ _ _ _ _ _ ((@xP _ _ _ _ _ ac)∘(ac∘ab)))∘((@aq _ _ _ _ _ _ ((@bL _ _ _ _ _ _ _ rfl ac (¬2))∘((@bL _ _ _ _ _ _ _ rfl ac (¬3))∘ab)))∘((¬2)∘((@pZ _ _ _ _)∘((@cq _ _ _ _ _)∘((@aq _ _ _ _ _ _ ((@cq _ _ _ _ _)∘(ac∘ab)))∘((@aR _ _ _ _ _ ((¬2)∘((¬3)∘ab)))∘((@aq _ _ _ _ _ _ ((¬2)∘((¬3)∘(ac∘ab))))∘ab)))))))))) (by rfl) (by trivial))
      (@af _ _ _ _ _ _ _ _ (@az _ _ _ _ _ 4 _ _ nd rfl (Or.inl rfl) (@br _ _ _ _ _ _ _ rfl (¬4) (@aR _ _ _ _ _ ((@aq _ _ _ _ _ _ ((@pZ _ _ _ _)∘((¬3)∘ab)))∘((@aq _ _ _ _ _ _ ((¬2)∘((@nA _ _ _ _ _)∘ab)))∘((@aq _ _ _ _ _ _ ((@aq _ _ _ _ _ _ ((¬2)∘ab))∘((¬3)∘ab)))∘((@aq _ _ _ _ _ _ ((@aR _ _ _ _ _ ((¬2)∘ab))∘((¬3)∘ab)))∘((@aq _ _ _ _ _ _ ((@cq _ _ _ _ _)∘(ac∘ab)))∘((@aq _ _ _ _ _ _ ((¬2)∘((@cq _ _ _ _ _)∘ab)))∘ab)))))))) (by rfl) (by trivial))
      (@af _ _ _ _ _ _ _ _ (@az _ _ _ _ _ 5 _ _ nd rfl (Or.inl rfl) (@tZ _ _ _ _ _ _ _ ac ac) (by rfl) (by trivial))
      (@af _ _ _ _ _ _ _ _ (@az _ _ _ _ _ 4 _ _ nd rfl (Or.inl rfl) (@br _ _ _ _ _ _ _ rfl (¬4) (@aR _ _ _ _ _ ((@aI _ _ _ _ _ _ _ _ _ _ _ _ _ _ _ hLlow GLlow (hr.mono (by decide)) ((@nz _ _ _ _ _ _ _ (@bL _ _ _ _ _ _ _ rfl (¬2) (¬5)) (¬3))∘((@bL _ _ _ _ _ _ _ rfl (¬3) (¬5))∘ab)) (by rfl) (by decide) (by rfl) (by rfl))∘((@aI _ _ _ _ _ _ _ _ _ _ _ _ _ _ _ hLlow GLlow (hr.mono (by decide)) ((@br _ _ _ _ _ _ _ rfl (@bL _ _ _ _ _ _ _ rfl (¬2) (¬5)) (¬3))∘((@bL _ _ _ _ _ _ _ rfl (¬3) (¬5))∘ab)) (by rfl) (by decide) (by rfl) (by rfl))∘ab)))) (by rfl) (by trivial))
      (@aj _ _ _ _ _ (@av _ _ _ _ _ (@aK _ _ _ _ _ _ _ rfl (¬4) (@aU _ _ _ _ _ _ _ (¬0) (@bC _ _ _ _ _ _ _ _ _ (@b_len _ _ rfl) (by rfl) T.b_len ((¬4)∘ab) (by decide) (by decide) (by rfl) (by rfl))) (fun _ _=>rfl)))))))))))
noncomputable def gU:FS:=(aE (a7 2 (ao aT (ae 0) (vC (.int 8))))
    (aE (iz (nW (aL (ao uL (ae 2) (vC (.int 5)))) (aL (ao (cg true) (ae 1) (aS ag))))
    (aE (a7 3 (ao aT (ao cI (ae 0) (vC (.int 8))) (aZ (g1 ff) (aa (ae 1) ag))))
    (bc (ao bE (ao bE (yC (ae 1) lG (j8 (ae 3))) (aS (aa (bG 2 ci (aa (ao cI (ae 0) (vC (.int 100))) (aa (ao bg (ae 1) (ae 3)) ag))) ag))) (yC (ae 1) (j8 (ao bE (ae 3) (vC (.int 1)))) lG))))
    dG)
    (bc (ao bg (bT (aa (yC (ae 1) (j8 (vC (.int 1))) lG) (aa (ao bE (ae 1) (aS (aa (aS (aa (vC (.int 0)) (aa (vC (.int 1)) ag))) ag))) (aa (aZ (g1 oG) (aa (ae 1) ag)) ag)))) (ao aT (ae 2) (vC (.int 3)))))))
noncomputable def cM:FM:=gh 2 2 ([2]++((([3]++[])++[])++[])) gU
theorem lJ:aB ["_law_number","_law_row","_law_kind","_law_at"] ["_law_number","_law_row"] (am fB):=⟨rfl,rfl,rfl,by decide+kernel,rfl,by decide+kernel,by decide+kernel⟩
theorem qO(h:aY K mg "_law_bent_row" fB f fd ["_law_number","_law_row"])(T:gR mg){fLbent_price:Addr}{eLbent_price:FuncData}(hLbent_price:aY K mg "_law_bent_price" cU fLbent_price eLbent_price ["_law_number","_law_price_here"])(GLbent_price:aC P w K mg base bB 3 fLbent_price eLbent_price ["_law_number","_law_price_here"] (bD K 2 ci)):aC P w K mg base bB 4 f fd ["_law_number","_law_row"] (bD K 2 cM):=by
  have nd:=lJ.nd
  exact h.fn lJ rfl rfl (fun cdv A outer s H E hr=>(@af _ _ _ _ _ _ _ _ (@az _ _ _ _ _ 2 _ _ nd rfl (Or.inl rfl) (@aU _ _ _ _ _ _ _ (¬0) ac) (by rfl) (by trivial))
      (@af _ _ _ _ _ _ _ _ (@b_ _ _ _ _ _ _ _ _ _ _ _ (@kc _ _ _ _ (@p6 _ _ _ _ _ _ _ _ (@bj _ _ _ _ _ _ _ _ _ (@rX _ _) (¬2) ac (aP _)) (@md _ _ _ _ _ (@bj _ _ _ _ _ _ _ _ _ (@rY _ _ _ rfl hr) (¬1) (@aq _ _ _ _ _ _ ab) (aP _)))))
      (@af _ _ _ _ _ _ _ _ (@az _ _ _ _ _ 3 _ _ nd rfl (Or.inl rfl) (@aU _ _ _ _ _ _ _ (@dX _ _ _ _ _ _ _ (¬0) ac) (@bC _ _ _ _ _ _ _ _ _ (@b_len _ _ rfl) (by rfl) T.b_len ((¬1)∘ab) (by decide) (by decide) (by rfl) (by rfl))) (by rfl) (by trivial))
      (@aj _ _ _ _ _ (@av _ _ _ _ _ (@br _ _ _ _ _ _ _ rfl (@br _ _ _ _ _ _ _ rfl (@l9 _ _ _ _ _ _ _ _ _ _ rfl (¬1) (@l_ _ _) (@ma _ _ _ _ (¬3))) (@aq _ _ _ _ _ _ ((@aI _ _ _ _ _ _ _ _ _ _ _ _ _ _ _ hLbent_price GLbent_price (hr.mono (by decide)) ((@dX _ _ _ _ _ _ _ (¬0) ac)∘((@aK _ _ _ _ _ _ _ rfl (¬1) (¬3) (fun _ _=>rfl))∘ab)) (by rfl) (by decide) (by rfl) (by rfl))∘ab))) (@l9 _ _ _ _ _ _ _ _ _ _ rfl (¬1) (@ma _ _ _ _ (@br _ _ _ _ _ _ _ rfl (¬3) ac)) (@l_ _ _))))))
      (@a9 _ _))
      (@aj _ _ _ _ _ (@av _ _ _ _ _ (@aK _ _ _ _ _ _ _ rfl (@aR _ _ _ _ _ ((@l9 _ _ _ _ _ _ _ _ _ _ rfl (¬1) (@ma _ _ _ _ ac) (@l_ _ _))∘((@br _ _ _ _ _ _ _ rfl (¬1) (@aq _ _ _ _ _ _ ((@aq _ _ _ _ _ _ (ac∘(ac∘ab)))∘ab)))∘((@bC _ _ _ _ _ _ _ _ _ (@b_list _ _ rfl) (by rfl) T.b_list ((¬1)∘ab) (by decide) (by decide) (by rfl) (by rfl))∘ab)))) (@aU _ _ _ _ _ _ _ (¬2) ac) (fun _ _=>rfl)))))))
noncomputable def vE:FS:=(aE (jd (ae 1) (c7 (aw (ah 2) (aw (ah 3) (aw (ah 4) (aw (ah 5) cJ))))))
    (aE (a7 6 (ao cI (ae 0) (vC (.int 6))))
    (aE (a7 7 (bT (aa (aS (aa (bG 2 cM (aa (ae 6) (aa (ae 2) ag))) (aa (ae 3) (aa (ae 4) (aa (ae 5) ag))))) ag)))
    (aE (a7 7 (ao bE (ae 7) (bT (aa (aS (aa (ae 2) (aa (bG 2 cM (aa (ae 6) (aa (ae 3) ag))) (aa (ae 4) (aa (ae 5) ag))))) ag))))
    (aE (a7 7 (ao bE (ae 7) (bT (aa (aS (aa (ae 2) (aa (ae 3) (aa (bG 2 ci (aa (ae 6) (aa (ae 4) ag))) (aa (ae 5) ag))))) ag))))
    (aE (a7 7 (ao bE (ae 7) (bT (aa (aS (aa (ae 2) (aa (ae 3) (aa (ae 4) (aa (bG 2 cM (aa (ae 6) (aa (ae 5) ag))) ag))))) (aa (aS (aa (ae 3) (aa (ae 2) (aa (ae 4) (aa (ae 5) ag))))) ag)))))
    (aE (a7 7 (ao bE (ae 7) (bT (aa (ao bg (bT (aa (yC (ae 1) lG (j8 (vC (.int 3)))) (aa (aZ (g1 oG) (aa (ae 1) ag)) (aa (ao bE (ae 1) (aS (aa (aS ag) ag))) (aa (aS (aa (ae 5) (aa (ae 3) (aa (ae 4) (aa (ae 2) ag))))) ag))))) (ao aT (ae 6) (vC (.int 4)))) ag))))
    (bc (ao bg (ae 7) (ao aT (ae 0) (vC (.int 6))))))))))))
noncomputable def mX:FM:=gh 2 6 (([2]++([3]++([4]++([5]++[]))))++([6]++([7]++([7]++([7]++([7]++([7]++[]))))))) vE
theorem ud:aB ["_law_number","_law_prices_here","_law_keeping","_law_bearing","_law_asking","_law_once","_law_more","_law_bent_here"] ["_law_number","_law_prices_here"] (am nF):=⟨rfl,rfl,rfl,by decide+kernel,rfl,by decide+kernel,by decide+kernel⟩
theorem zb(h:aY K mg "_law_bent" nF f fd ["_law_number","_law_prices_here"])(T:gR mg){fLbent_row:Addr}{eLbent_row:FuncData}(hLbent_row:aY K mg "_law_bent_row" fB fLbent_row eLbent_row ["_law_number","_law_row"])(GLbent_row:aC P w K mg base bB 4 fLbent_row eLbent_row ["_law_number","_law_row"] (bD K 2 cM)){fLbent_price:Addr}{eLbent_price:FuncData}(hLbent_price:aY K mg "_law_bent_price" cU fLbent_price eLbent_price ["_law_number","_law_price_here"])(GLbent_price:aC P w K mg base bB 3 fLbent_price eLbent_price ["_law_number","_law_price_here"] (bD K 2 ci)):aC P w K mg base bB 5 f fd ["_law_number","_law_prices_here"] (bD K 2 mX):=by
  have nd:=ud.nd
  exact h.fn ud rfl rfl (fun cdv A outer s H E hr=>(@af _ _ _ _ _ _ _ _ (@fx _ _ _ _ _ _ _ _ (¬1) (@eA _ _ _ _ _ _ _ _ rfl rfl (@ar _ _ _ _ _ _ _ _ (@ap _ _ _ 2 _ nd rfl (Or.inl rfl) (by trivial)) (@ar _ _ _ _ _ _ _ _ (@ap _ _ _ 3 _ nd rfl (Or.inl rfl) (by trivial)) (@ar _ _ _ _ _ _ _ _ (@ap _ _ _ 4 _ nd rfl (Or.inl rfl) (by trivial)) (@ar _ _ _ _ _ _ _ _ (@ap _ _ _ 5 _ nd rfl (Or.inl rfl) (by trivial)) (@de _ _) (by rfl)) (by rfl)) (by rfl)) (by rfl)) (aD (aD (aD (aD ez)))) (by rfl) (by rfl)) (by rfl) (by rfl) (by rfl))
      (@af _ _ _ _ _ _ _ _ (@az _ _ _ _ _ 6 _ _ nd rfl (Or.inl rfl) (@dX _ _ _ _ _ _ _ (¬0) ac) (by rfl) (by trivial))
      (@af _ _ _ _ _ _ _ _ (@az _ _ _ _ _ 7 _ _ nd rfl (Or.inl rfl) (@aR _ _ _ _ _ ((@aq _ _ _ _ _ _ ((@aI _ _ _ _ _ _ _ _ _ _ _ _ _ _ _ hLbent_row GLbent_row (hr.mono (by decide)) ((¬6)∘((¬2)∘ab)) (by rfl) (by decide) (by rfl) (by rfl))∘((¬3)∘((¬4)∘((¬5)∘ab)))))∘ab)) (by rfl) (by trivial))
      (@af _ _ _ _ _ _ _ _ (@az _ _ _ _ _ 7 _ _ nd rfl (Or.inl rfl) (@br _ _ _ _ _ _ _ rfl (¬7) (@aR _ _ _ _ _ ((@aq _ _ _ _ _ _ ((¬2)∘((@aI _ _ _ _ _ _ _ _ _ _ _ _ _ _ _ hLbent_row GLbent_row (hr.mono (by decide)) ((¬6)∘((¬3)∘ab)) (by rfl) (by decide) (by rfl) (by rfl))∘((¬4)∘((¬5)∘ab)))))∘ab))) (by rfl) (by trivial))
      (@af _ _ _ _ _ _ _ _ (@az _ _ _ _ _ 7 _ _ nd rfl (Or.inl rfl) (@br _ _ _ _ _ _ _ rfl (¬7) (@aR _ _ _ _ _ ((@aq _ _ _ _ _ _ ((¬2)∘((¬3)∘((@aI _ _ _ _ _ _ _ _ _ _ _ _ _ _ _ hLbent_price GLbent_price (hr.mono (by decide)) ((¬6)∘((¬4)∘ab)) (by rfl) (by decide) (by rfl) (by rfl))∘((¬5)∘ab)))))∘ab))) (by rfl) (by trivial))
      (@af _ _ _ _ _ _ _ _ (@az _ _ _ _ _ 7 _ _ nd rfl (Or.inl rfl) (@br _ _ _ _ _ _ _ rfl (¬7) (@aR _ _ _ _ _ ((@aq _ _ _ _ _ _ ((¬2)∘((¬3)∘((¬4)∘((@aI _ _ _ _ _ _ _ _ _ _ _ _ _ _ _ hLbent_row GLbent_row (hr.mono (by decide)) ((¬6)∘((¬5)∘ab)) (by rfl) (by decide) (by rfl) (by rfl))∘ab)))))∘((@aq _ _ _ _ _ _ ((¬3)∘((¬2)∘((¬4)∘((¬5)∘ab)))))∘ab)))) (by rfl) (by trivial))
      (@af _ _ _ _ _ _ _ _ (@az _ _ _ _ _ 7 _ _ nd rfl (Or.inl rfl) (@br _ _ _ _ _ _ _ rfl (¬7) (@aR _ _ _ _ _ ((@aK _ _ _ _ _ _ _ rfl (@aR _ _ _ _ _ ((@l9 _ _ _ _ _ _ _ _ _ _ rfl (¬1) (@l_ _ _) (@ma _ _ _ _ ac))∘((@bC _ _ _ _ _ _ _ _ _ (@b_list _ _ rfl) (by rfl) T.b_list ((¬1)∘ab) (by decide) (by decide) (by rfl) (by rfl))∘((@br _ _ _ _ _ _ _ rfl (¬1) (@aq _ _ _ _ _ _ ((@aq _ _ _ _ _ _ ab)∘ab)))∘((@aq _ _ _ _ _ _ ((¬5)∘((¬3)∘((¬4)∘((¬2)∘ab)))))∘ab))))) (@aU _ _ _ _ _ _ _ (¬6) ac) (fun _ _=>rfl))∘ab))) (by rfl) (by trivial))
      (@aj _ _ _ _ _ (@av _ _ _ _ _ (@aK _ _ _ _ _ _ _ rfl (¬7) (@aU _ _ _ _ _ _ _ (¬0) ac) (fun _ _=>rfl))))))))))))
noncomputable def Fk:FI:=(jB (ae 5))
noncomputable def Da:FS:=(aE (a7 7 (aZ (g1 lF) (aa (aS (aa (ae 3) (aa (ae 6) ag))) ag)))
    (iz (rH (fK (aL (bG 2 mZ (aa (bG 2 bS (aa (ae 3) (aa (ae 6) ag))) (aa (bG 2 fU (aa (ae 3) (aa (ae 6) ag))) ag))))) (aL (ao (cg true) (aZ (g1 lF) (aa (aS (aa (ae 3) (aa (ae 6) ag))) ag)) (ae 7))))
    (bc (vC (.bool false)))
    dG))
noncomputable def Fm:FI:=(cD (aa (vC (.int 6)) ag))
noncomputable def ER:FE:=(bG 2 mX (aa (bG 1 a8 (aa (ae 1) ag)) (aa (ae 0) ag)))
noncomputable def F_:FI:=(cD (aa (vC (.int 3)) ag))
noncomputable def CU:FS:=(aE (a7 3 (bG 3 qH (aa (ae 1) (aa (ao bg (bT (aa (vC (.int 8)) (aa (vC (.int 8)) (aa (vC (.int 12)) ag)))) (ae 2)) (aa (ao bg (bT (aa (vC (.int 10)) (aa (vC (.int 10)) (aa (vC (.int 16)) ag)))) (ae 2)) ag)))))
    (aE (a7 4 (bG 2 iJ (aa (ae 1) (aa (ae 3) ag))))
    (aE (iz (aL (ao pJ (bG 2 bS (aa (ae 3) (aa (ae 4) ag))) (vC (.bool true))))
    (bc (vC (.bool false)))
    dG)
    (aE (a7 5 (ao bE (bT (aa (bG 1 qG (aa (bG 1 a8 (aa (ae 1) ag)) ag)) ag)) (eu [(4,"_law_prices_here"),(1,"_law_drawn")] 1 Fm (ah 2) fY ER)))
    (eC ([6]++([7]++([]++[]))) Fk (ah 6) Da)))))
noncomputable def Au:FS:=(aE (a7 1 (bG 1 j5 (aa (ae 0) ag)))
    (aE (eC ([2]++([3]++([4]++(([]++[])++([5]++([6]++([7]++([]++[])))))))) F_ (ah 2) CU)
    (bc (vC (.bool true)))))
noncomputable def m5:FM:=gh 1 7 ([1]++(([2]++([3]++([4]++(([]++[])++([5]++([6]++([7]++([]++[]))))))))++[])) Au
theorem yg:aB ["_law_script","_law_drawn","_law_k","_law_web_here","_law_prices_here","_law_things","_law_thing","_law_mark"] ["_law_script"] (am lI):=⟨rfl,rfl,rfl,by decide+kernel,rfl,by decide+kernel,by decide+kernel⟩
theorem Bx(h:aY K mg "law" lI f fd ["_law_script"])(T:gR mg){fLdraws:Addr}{eLdraws:FuncData}(hLdraws:aY K mg "_law_draws" kh fLdraws eLdraws ["_law_script"])(GLdraws:aC P w K mg base bB 2 fLdraws eLdraws ["_law_script"] (bD K 1 j5)){fLweb:Addr}{eLweb:FuncData}(hLweb:aY K mg "_law_web" qW fLweb eLweb ["_law_drawn","_law_most","_law_ties_here"])(GLweb:aC P w K mg base bB 5 fLweb eLweb ["_law_drawn","_law_most","_law_ties_here"] (bD K 3 qH)){fLprices:Addr}{eLprices:FuncData}(hLprices:aY K mg "_law_prices" fD fLprices eLprices ["_law_drawn","_law_web_here"])(GLprices:aC P w K mg base bB 5 fLprices eLprices ["_law_drawn","_law_web_here"] (bD K 2 iJ)){f_prices_hold:Addr}{e_prices_hold:FuncData}(h_prices_hold:aY K mg "prices_hold" cB f_prices_hold e_prices_hold ["web","thing"])(G_prices_hold:aC P w K mg base bB 7 f_prices_hold e_prices_hold ["web","thing"] (bD K 2 bS)){fLodd:Addr}{eLodd:FuncData}(hLodd:aY K mg "_law_odd" qV fLodd eLodd ["_law_number"])(GLodd:aC P w K mg base bB 1 fLodd eLodd ["_law_number"] (bD K 1 qG)){fLbent:Addr}{eLbent:FuncData}(hLbent:aY K mg "_law_bent" nF fLbent eLbent ["_law_number","_law_prices_here"])(GLbent:aC P w K mg base bB 5 fLbent eLbent ["_law_number","_law_prices_here"] (bD K 2 mX)){fLnext:Addr}{eLnext:FuncData}(hLnext:aY K mg "_law_next" iP fLnext eLnext ["_law_drawn"])(GLnext:aC P w K mg base bB 1 fLnext eLnext ["_law_drawn"] (bD K 1 a8)){fLsays:Addr}{eLsays:FuncData}(hLsays:aY K mg "_law_says" nG fLsays eLsays ["_law_found","_law_due"])(GLsays:aC P w K mg base bB 1 fLsays eLsays ["_law_found","_law_due"] (bD K 2 mZ)){fLright:Addr}{eLright:FuncData}(hLright:aY K mg "_law_right" i7 fLright eLright ["_law_web_here","_law_thing"])(GLright:aC P w K mg base bB 5 fLright eLright ["_law_web_here","_law_thing"] (bD K 2 fU)):aC P w K mg base bB 8 f fd ["_law_script"] (bD K 1 m5):=by
  have nd:=yg.nd
  exact h.fn yg rfl rfl (fun cdv A outer s H E hr=>(@af _ _ _ _ _ _ _ _ (@az _ _ _ _ _ 1 _ _ nd rfl (Or.inr rfl) (@aI _ _ _ _ _ _ _ _ _ _ _ _ _ _ _ hLdraws GLdraws (hr.mono (by decide)) ((¬0)∘ab) (by rfl) (by decide) (by rfl) (by rfl)) (by rfl) (by trivial))
      (@af _ _ _ _ _ _ _ _ (@fy _ _ _ _ _ _ _ _ _ _ _ PassesOwn.never rfl (@cA _ _ _ _ _ _ _ rfl T.b_range (ac∘ab) (by rfl)) (@ap _ _ _ 2 _ nd rfl (Or.inl rfl) (by trivial))
      (@af _ _ _ _ _ _ _ _ (@az _ _ _ _ _ 3 _ _ nd rfl (Or.inl rfl) (@aI _ _ _ _ _ _ _ _ _ _ _ _ _ _ _ hLweb GLweb (hr.mono (by decide)) ((¬1)∘((@aK _ _ _ _ _ _ _ rfl (@aR _ _ _ _ _ (ac∘(ac∘(ac∘ab)))) (¬2) (fun _ _=>rfl))∘((@aK _ _ _ _ _ _ _ rfl (@aR _ _ _ _ _ (ac∘(ac∘(ac∘ab)))) (¬2) (fun _ _=>rfl))∘ab))) (by rfl) (by decide) (by rfl) (by rfl)) (by rfl) (by trivial))
      (@af _ _ _ _ _ _ _ _ (@az _ _ _ _ _ 4 _ _ nd rfl (Or.inr rfl) (@aI _ _ _ _ _ _ _ _ _ _ _ _ _ _ _ hLprices GLprices (hr.mono (by decide)) ((¬1)∘((¬3)∘ab)) (by rfl) (by decide) (by rfl) (by rfl)) (by rfl) (by trivial))
      (@af _ _ _ _ _ _ _ _ (@b_ _ _ _ _ _ _ _ _ _ _ _ (@bj _ _ _ _ _ _ _ _ _ (@yJ _ _) (@aI _ _ _ _ _ _ _ _ _ _ _ _ _ _ _ h_prices_hold G_prices_hold (hr.mono (by decide)) ((¬3)∘((¬4)∘ab)) (by rfl) (by decide) (by rfl) (by rfl)) (@cq _ _ _ _ _) (aP _))
      (@aj _ _ _ _ _ (@av _ _ _ _ _ (@cq _ _ _ _ _)))
      (@a9 _ _))
      (@af _ _ _ _ _ _ _ _ (@az _ _ _ _ _ 5 _ _ nd rfl (Or.inl rfl) (@br _ _ _ _ _ _ _ rfl (@aR _ _ _ _ _ ((@aI _ _ _ _ _ _ _ _ _ _ _ _ _ _ _ hLodd GLodd (hr.mono (by decide)) ((@aI _ _ _ _ _ _ _ _ _ _ _ _ _ _ _ hLnext GLnext (hr.mono (by decide)) ((¬1)∘ab) (by rfl) (by decide) (by rfl) (by rfl))∘ab) (by rfl) (by decide) (by rfl) (by rfl))∘ab)) (@nv _ _ _ _ _ _ _ _ _ _ _ _ _ (am lI) ["_law_script","_law_drawn","_law_k","_law_web_here","_law_prices_here","_law_things","_law_thing","_law_mark"] [(4,"_law_prices_here"),(1,"_law_drawn")] ["_law_j"] rfl rfl rfl (@cA _ _ _ _ _ _ _ rfl T.b_range (ac∘ab) (by rfl))
        (fun C s0 H0 fp=>(@ap _ _ _ 2 _ (show List.Nodup (["_law_prices_here","_law_drawn","_law_j"]:List Str) by decide+kernel) rfl (Or.inl rfl) (by trivial))) (fun C s0 H0 fp=>(@kd _ _))
        (fun C s0 H0 fp=>(@aI _ _ _ _ _ _ _ _ _ _ _ _ _ _ _ hLbent GLbent (hr.mono (by decide)) ((@aI _ _ _ _ _ _ _ _ _ _ _ _ _ _ _ hLnext GLnext (hr.mono (by decide)) ((¬1)∘ab) (by rfl) (by decide) (by rfl) (by rfl))∘((¬0)∘ab)) (by rfl) (by decide) (by rfl) (by rfl))) rfl (by decide+kernel) (by decide+kernel) (by decide+kernel) (by decide+kernel) (by decide+kernel) (by decide+kernel) (by decide+kernel) (by intro _;rfl))) (by rfl) (by trivial))
      (@aj _ _ _ _ _ (@fy _ _ _ _ _ _ _ _ _ _ _ PassesOwn.never rfl (@jH _ _ _ _ _ rfl (¬5)) (@ap _ _ _ 6 _ nd rfl (Or.inl rfl) (by trivial))
      (@af _ _ _ _ _ _ _ _ (@az _ _ _ _ _ 7 _ _ nd rfl (Or.inl rfl) (@bC _ _ _ _ _ _ _ _ _ (@b_repr _ _ _ rfl hr) (by rfl) T.b_repr ((@aq _ _ _ _ _ _ ((¬3)∘((¬6)∘ab)))∘ab) (by decide) (by decide) (by rfl) (by rfl)) (by rfl) (by trivial))
      (@aj _ _ _ _ _ (@b_ _ _ _ _ _ _ _ _ _ _ _ (@kc _ _ _ _ (@iN _ _ _ _ _ _ _ _ (@cN _ _ _ _ _ (@cj _ _ _ _ (@aI _ _ _ _ _ _ _ _ _ _ _ _ _ _ _ hLsays GLsays (hr.mono (by decide)) ((@aI _ _ _ _ _ _ _ _ _ _ _ _ _ _ _ h_prices_hold G_prices_hold (hr.mono (by decide)) ((¬3)∘((¬6)∘ab)) (by rfl) (by decide) (by rfl) (by rfl))∘((@aI _ _ _ _ _ _ _ _ _ _ _ _ _ _ _ hLright GLright (hr.mono (by decide)) ((¬3)∘((¬6)∘ab)) (by rfl) (by decide) (by rfl) (by rfl))∘ab)) (by rfl) (by decide) (by rfl) (by rfl)) (by intro _;rfl))) (@gj _ _ _ _ _ (@bj _ _ _ _ _ _ _ _ _ (@rY _ _ _ rfl hr) (@bC _ _ _ _ _ _ _ _ _ (@b_repr _ _ _ rfl hr) (by rfl) T.b_repr ((@aq _ _ _ _ _ _ ((¬3)∘((¬6)∘ab)))∘ab) (by decide) (by decide) (by rfl) (by rfl)) (¬7) (aP _)))))
      (@aj _ _ _ _ _ (@av _ _ _ _ _ (@cq _ _ _ _ _)))
      (@a9 _ _)))) (by intro _;rfl))))))) (by intro _;rfl))
      (@aj _ _ _ _ _ (@av _ _ _ _ _ (@cq _ _ _ _ _))))))
local macro_rules | `(tactic| simp? [$ts,*]) => `(tactic| simp [$ts,*, gh, oK, aE, iz, bc, dG, a7, kg, jd, sR, xN, aL, ao, qe, ae, vC, bT, ag, aa, aS, aZ, bG, nW, rH, fK, FN, iT, CL, nX, yC, lG, j8, fZ, dy, Bn, jC, je, pB, e7, cn, v_, uw, c7, aw, ah, cJ, dg, aN, bF, y_, e6, mH, jA, eM, jY, pK, du, pH, mK, mJ, mL, kU, mG, wA, mI, se, wB, sk, pL, si, sj, mO, mN, kW, mP, wG, pk, kJ, rS, rT, vV, kQ, kP, jW, pI, List.replicate, -List.map_nil, -List.map_cons, -List.nil_append, -List.cons_append, -Option.bind_some, -Option.map_some, -getElem?_pos, -List.append_nil, wg, wf, wb, wa, wd, we, wc, wj])
theorem vY{n k:Int}(h:0 < k):0≤n % k:=Int.emod_nonneg _ (Int.ne_of_gt h)
theorem vZ{n k:Int}(h:0 < k):n % k < k:=Int.emod_lt_of_pos _ h
def nx:List Int→Int
  | []=>0
  | d::_=>d
def ig(ds:List Int):Prop:=∀d∈ds,0≤d∧d < 2147483648
theorem AE{ds:List Int}(h:ig ds):0≤nx ds∧nx ds < 2147483648:=by
  cases ds with
  | nil=>exact⟨Int.le_refl 0,by show(0:Int) < 2147483648;decide⟩
  | cons d r=>exact h d (by simp)
theorem EG{ds:List Int}(h:ig ds):ig ds.tail:=fun d hd=>h d (List.mem_of_mem_tail hd)
theorem Cz(ds:List Int):a8 [.l (ds.map .int)]=some (.d (.int (nx ds)),[.l (ds.tail.map .int)]):=by
  have hq:∀e:En,e[0]?=some (some (.l (ds.map .int)))→cg false e (.s 0) (.l [])=some (.d (.bool (ds.map PyData.int).isEmpty)):=fun e he=>ww he (rm ds).1
  cases ds with
  | nil=>simp? [a8,rV,hq,nx]
  | cons d r=>simp? [a8,rV,hq,nx]
theorem gQ{ds:List Int}(hd:ig ds):∃(n:Int) (ds':List Int),a8 [.l (ds.map .int)]=some (.d (.int n),[.l (ds'.map .int)])∧0≤n∧n < 2147483648∧ig ds':=⟨nx ds,ds.tail,Cz ds,(AE hd).1,(AE hd).2,EG hd⟩
theorem ur(cell k:Int)(h0:0≤k)(h1:k≤1000):∃r,i5 [.d (.int cell),.d (.int k)]=some (.d (.int r),[.d (.int cell),.d (.int k)])∧0≤r∧r < 2147483648:=by
  have a1:jE (cell % 2147483647) 48271=true:=k9 (by decide) (by decide)
  have a2:jE 7919 k=true:=pT (by decide) (by decide)
  have a3:jE (7919*k) k=true:=k9 (by lia) (by lia)
  have a4:jE ((cell % 2147483647*48271+7919*k*k+104729) % 2147483647) ((cell % 2147483647*48271+7919*k*k+104729) % 2147483647)=true:=k9 (by lia) (by lia)
  refine⟨_,by simp? [i5,tD,aH,aW,a1,a2,a3,a4];rfl,?_,?_⟩
  · lia
  · lia
theorem pz{ds:List Int}(h:ig ds){r:Int}(h0:0≤r)(h1:r < 2147483648):ig (ds++[r]):=fun d hd=>by
  rcases List.mem_append.mp hd with hd | hd
  · exact h d hd
  · simp at hd;subst hd;exact⟨h0,h1⟩
abbrev dE(ns ds:List Int)(v2 v3 v4:Option Sv):En:=[some (.d (.list (ns.map .int))),some (.l (ds.map .int)),v2,v3,v4]
inductive DI (ns:List Int) (i:Nat):En→Prop
  | mk {ds v2 v3 v4} (hd:ig ds) (hl:ds.length≤1000*i):DI ns i (dE ns ds v2 v3 v4)
inductive DJ (ns:List Int) (k cell:Int) (n i:Nat):En→Prop
  | mk {ds v4} (hd:ig ds) (hl:ds.length=n+i):DJ ns k cell n i (dE ns ds (some (.d (.int k))) (some (.d (.int cell))) v4)
inductive DW (ns:List Int) (k:Int) (v4:Option Sv) (n:Nat):En→Prop
  | mk {cell ds} (hc:0≤cell) (hd:ig ds) (hl:ds.length≤max n 900):DW ns k v4 n (dE ns ds (some (.d (.int k))) (some (.d (.int cell))) v4)
theorem Ab(ns:List Int)(hn:ns.length≤63):∃ds,j5 [.d (.list (ns.map .int))]=some (.l (ds.map .int),[.d (.list (ns.map .int))])∧ig ds:=by
  have inner:∀(cell k:Int) (ds:List Int) (v4:Option Sv),0≤k→k≤63→ig ds→ds.length≤63000→∃ds' v4',(∀W,eC W i3 (ah 4) gy (dE ns ds (some (.d (.int k))) (some (.d (.int cell))) v4)=some (.nx (dE ns ds' (some (.d (.int k))) (some (.d (.int cell))) v4')))∧ig ds'∧ds'.length=ds.length+12:=by
    intro cell k ds v4 k0 k1 hd hl
    obtain⟨e',h1,h2⟩:=ee (own:=[]) (g:=ah 4) (f:=gy) (DJ ns k cell ds.length) (ba 0 12) 0 (dE ns ds (some (.d (.int k))) (some (.d (.int cell))) v4) (fun i x e hx hI=>by
      obtain⟨rfl,hi⟩:=dk hx
      obtain⟨hd',hl'⟩:=hI
      rename_i ds' v4'
      obtain⟨r1,c1,_,_⟩:=ur cell (3*(0+(i:Int))+1) (by lia) (by lia)
      obtain⟨r2,c2,c3,c4⟩:=ur r1 (0+(i:Int)+k+2) (by lia) (by lia)
      have a1:jE 3 (0+(i:Int))=true:=pT (by decide) (by decide)
      refine⟨_,dE ns (ds'++[r2]) (some (.d (.int k))) (some (.d (.int cell))) (some (.d (.int (0+(i:Int))))),rfl,?_,cz,.mk (pz hd' c3 c4) (by simp;lia)⟩
      have hlen:ds'.length < 1000000:=by lia
      simp only [Int.zero_add] at a1 c1 c2
      simp? [dE,gy,c1,c2,aW,a1,hlen]) (.mk hd rfl)
    obtain⟨hd',hl'⟩:=h2
    rename_i ds' v4'
    rw [ck] at hl'
    refine⟨ds',v4',fun W=>?_,hd',by lia⟩
    rw [d_ (show i3 _=some (ba 0 12,[],_) from dj (n:=12) rfl (by decide) (by decide))]
    exact h1
  have wh:∀(cell k:Int) (ds:List Int) (v4:Option Sv),0≤cell→ig ds→ds.length≤63100→∃cell' ds',jI (2 ^ 4200) eV iV (dE ns ds (some (.d (.int k))) (some (.d (.int cell))) v4)=some (.nx (dE ns ds' (some (.d (.int k))) (some (.d (.int cell'))) v4))∧0≤cell'∧ig ds'∧ds'.length≤max ds.length 900:=by
    intro cell k ds v4 hc hd hl
    have tst:∀(cell:Int) (ds:List Int),eV (dE ns ds (some (.d (.int k))) (some (.d (.int cell))) v4)=some (decide (1000000000000000000≤cell)&&decide ((ds.length:Int) < 900),dE ns ds (some (.d (.int k))) (some (.d (.int cell))) v4):=by
      intro cell ds
      by_cases h:(1000000000000000000:Int)≤cell
      · simp? [dE,eV,gE,ka,h]
      · simp? [dE,eV,gE,ka,h]
    obtain⟨e0,e',h1,hI,h3⟩:=jM (ft:=eV) (f:=iV) (DW ns k v4 ds.length)
      (fun e=>1000000 - AC 1 e) (fun e hI=>by
        obtain⟨hc',hd',hl'⟩:=hI
        rename_i cell' ds'
        rw [tst]
        by_cases c1:(1000000000000000000:Int)≤cell'
        · by_cases c2:(ds'.length:Int) < 900
          · refine .inr ⟨_,dE ns (ds'++[cell' % 2147483629]) (some (.d (.int k))) (some (.d (.int (cell' / 2147483629)))) v4,by rw [decide_eq_true c1,decide_eq_true c2];rfl,?_,.mk (by lia) (pz hd' (by lia) (by lia)) (by simp;lia),?_⟩
            · have hlen:ds'.length < 1000000:=by lia
              have b8:Bt 8000 2147483629:=gX (by decide) (by decide)
              simp? [dE,iV,aH,cS,b8,hlen]
            · simp [AC,dE];lia
          · exact .inl ⟨_,by rw [decide_eq_true c1,decide_eq_false c2];rfl,trivial⟩
        · exact .inl ⟨_,by rw [decide_eq_false c1];rfl,trivial⟩) (2 ^ 4200) _ (.mk hc hd (by lia)) (pS (m:=20) (Nat.lt_of_le_of_lt (Nat.sub_le _ _) (by decide)) (by decide))
    obtain⟨hc',hd',hl'⟩:=hI
    rename_i cell' ds'
    rw [tst] at h3
    have h4:=(Prod.mk.inj (Option.some.inj h3)).2
    subst h4
    exact⟨cell',ds',h1,hc',hd',hl'⟩
  have turn:∀(i:Nat) (ds:List Int) (v3 v4:Option Sv) (hi:i < ns.length),ig ds→ds.length≤1000*i→∃ds2 v3' v4',eU (dE ns ds (some (.d (.int (i:Int)))) v3 v4)=some (.nx (dE ns ds2 (some (.d (.int (i:Int)))) v3' v4'))∧ig ds2∧ds2.length≤1000*(i+1):=by
    intro i ds v3 v4 hi hd hl
    have hcell:atI (ns.map PyData.int) (i:Int)=some (.int ns[i]):=by
      rw [iB (by lia) (by rw [List.length_map];lia)]
      simp [hi]
    have c0:(0:Int)≤(ns[i].natAbs:Int):=by lia
    have st:a7 3 (aZ (g1 r9) (aa (ao bg (ae 0) (ae 2)) ag)) (dE ns ds (some (.d (.int (i:Int)))) v3 v4)=some (.nx (dE ns ds (some (.d (.int (i:Int)))) (some (.d (.int (ns[i].natAbs:Int)))) v4)):=by
      simp? [dE,hcell]
    generalize (ns[i].natAbs:Int)=cell at c0 st
    have mid:∃ds1 v4',iz (aL (ao uL (ae 3) (ao mM (vC (.int 10)) (vC (.int 18))))) (eC ([4]++[]) i3 (ah 4) gy) dG (dE ns ds (some (.d (.int (i:Int)))) (some (.d (.int cell))) v4)=some (.nx (dE ns ds1 (some (.d (.int (i:Int)))) (some (.d (.int cell))) v4'))∧ig ds1∧ds1.length≤ds.length+12:=by
      by_cases cb:cell < 1000000000000000000
      · obtain⟨ds1,v4',f1,f2,f3⟩:=inner cell (i:Int) ds v4 (by lia) (by lia) hd (by lia)
        refine⟨ds1,v4',?_,f2,by lia⟩
        rw [Em (e1:=dE ns ds (some (.d (.int (i:Int)))) (some (.d (.int cell))) v4) (by simp? [dE,gE,ka,cb])]
        exact f1 _
      · refine⟨ds,v4,?_,hd,by lia⟩
        rw [El (e1:=dE ns ds (some (.d (.int (i:Int)))) (some (.d (.int cell))) v4) (by simp? [dE,gE,ka,cb])]
        rfl
    obtain⟨ds1,v4',m1,m2,m3⟩:=mid
    obtain⟨cell2,ds2,w1,w2,w3,w4⟩:=wh cell (i:Int) ds1 v4' c0 m2 (by lia)
    by_cases c2:(2147483629:Int)≤cell2
    · refine⟨ds2++[cell2 % 2147483629],some (.d (.int cell2)),v4',?_,pz w3 (by lia) (by lia),by simp;lia⟩
      have hlen:ds2.length < 1000000:=by lia
      unfold eU
      rw [bN st,bN m1,bN w1]
      simp? [dE,c2,aH,hlen]
    · refine⟨ds2,some (.d (.int cell2)),v4',?_,w3,by lia⟩
      unfold eU
      rw [bN st,bN m1,bN w1]
      simp? [dE,c2]
  obtain⟨e',h1,hI⟩:=ee (own:=[]) (g:=ah 2) (f:=eU) (DI ns) (ba 0 (min (ns.length:Int) 63).toNat) 0 (dE ns [] none none none) (fun i x e hx hI=>by
    obtain⟨rfl,hi⟩:=dk hx
    obtain⟨hd,hl⟩:=hI
    rename_i ds v2 v3 v4
    rw [Nat.zero_add] at hl ⊢
    obtain⟨ds2,v3',v4',t1,t2,t3⟩:=turn i ds v3 v4 (by lia) hd hl
    exact⟨dE ns ds (some (.d (.int (i:Int)))) v3 v4,_,by simp [ah,dE],t1,cz,.mk t2 t3⟩) (.mk (fun d hd=>by cases hd) (by simp))
  obtain⟨hd,hl⟩:=hI
  rename_i ds v2 v3 v4
  refine⟨ds,?_,hd⟩
  have hf:∀W,eC W kX (ah 2) eU (dE ns [] none none none)=some (.nx (dE ns ds v2 v3 v4)):=fun W=>by
    rw [d_ (show kX _=some (ba 0 (min (ns.length:Int) 63).toNat,[],dE ns [] none none none) from dj (n:=min (ns.length:Int) 63) (by simp? [dE]) (by lia) (by lia))]
    exact h1
  unfold dE at hf
  simp only [List.map_nil] at hf
  simp? [j5,tu,hf]
theorem AJ(a b:Int)(hb:Bt 4000 b):mY [.d (.int a),.d (.int b)]=some (.d (.int (Int.gcd a b)),[.d (.int a),.d (.int b)]):=by
  have tst:∀x y:Int,jQ [some (.d (.int x)),some (.d (.int y))]=some (!(y==0),[some (.d (.int x)),some (.d (.int y))]):=fun x y=>by simp? [jQ]
  obtain⟨e0,e',h1,⟨x,y,he,hg,hy⟩,h3⟩:=jM (ft:=jQ) (f:=lW) (fun e=>∃x y,e=[some (.d (.int x)),some (.d (.int y))]∧Int.gcd x y=Int.gcd a b∧Bt 4000 y) (oJ 1) (fun e ⟨x,y,he,hg,hy⟩=>by
    subst he
    rw [tst]
    by_cases c:y=0
    · subst c;exact .inl ⟨_,rfl,trivial⟩
    · refine .inr ⟨_,[some (.d (.int y)),some (.d (.int (x.fmod y)))],by rw [beq_false_of_ne c];rfl,by simp? [lW,wD c],⟨y,x.fmod y,rfl,by rw [qC,hg],?_⟩,?_⟩
      · have:=fR x c
        exact Bt.of_le hy (by lia)
      · have:=fR x c
        simpa [oJ] using this) (2 ^ 4200) _ ⟨a,b,rfl,rfl,hb⟩ (pS (m:=4000) (by simpa [oJ,Bt] using hb) (by decide))
  subst he
  rw [tst] at h3
  have h4:=Prod.mk.inj (Option.some.inj h3)
  have hy0:y=0:=by simpa using h4.1
  subst hy0
  have h5:=h4.2
  subst h5
  have hs:jI (2 ^ 4200) jQ lW [some (.d (.int a)),some (.d (.int b))]=some (.nx [some (.d (.int x)),some (.d (.int 0))]):=h1
  have hg':(x.natAbs:Int)=(Int.gcd a b:Int):=by rw [←hg];simp
  simp only [mY,Ap,gh,oK,aE,iz,bc,dG,a7,kg,jd,sR,xN,aL,ao,qe,ae,vC,bT,ag,aa,aS,aZ,bG,nW,rH,fK,FN,iT,CL,nX,yC,lG,j8,fZ,dy,Bn,jC,je,pB,e7,cn,v_,uw,c7,aw,ah,cJ,dg,aN,bF,y_,e6,mH,jA,eM,jY,pK,du,pH,mK,mJ,mL,kU,mG,wA,mI,se,wB,sk,pL,si,sj,mO,mN,kW,mP,wG,pk,kJ,rS,rT,vV,kQ,kP,jW,pI,List.replicate, -List.map_nil, -List.map_cons, -List.nil_append, -List.cons_append, -Option.bind_some, -Option.map_some, -getElem?_pos, -List.append_nil,wg,wf,wb,wa,wd,we,wc,wj]
  simp? [hs,hg']
theorem jl(t b:Int)(hb:0 < b)(h:Bt 4000 b):dq [.d (.int t),.d (.int b)]=some (.d (.tuple [.int (lowM t b).1,.int (lowM t b).2]),[.d (.int t),.d (.int b)]):=by
  have g0:=pM (t:=t) (b:=b) (by lia)
  have g1:(Int.gcd t b:Int)≠0:=by lia
  have g8:Bt 8000 (Int.gcd t b:Int):=(wH (t:=t) (by lia) h).mono (by decide)
  have e:lowM t b=(t.fdiv (Int.gcd t b:Int),b.fdiv (Int.gcd t b:Int)):=by unfold lowM;rw [if_neg (by lia)]
  rw [e]
  simp? [dq,Aq,AJ t b h,tP g1 g8]
theorem vN{i:Int}{n:Nat}(h1: -2147483648 < i)(h2:i < 2147483648)(hn:31≤n):Bt n i:=Bt.mono (m:=31) (by unfold Bt;lia) hn
def vT(t b:Int):Prop:=0≤t∧t≤b∧1≤b∧b≤100∧Int.gcd t b=1
theorem ym(n k:Int)(hn:0≤n):∃t b,en [.d (.int n),.d (.int k)]=some (.d (.tuple [.int t,.int b]),[.d (.int n),.d (.int k)])∧vT t b:=by
  have b9:Bt 8000 9:=gX (by decide) (by decide)
  have b100:Bt 8000 100:=gX (by decide) (by decide)
  have low:∀t b:Int,0 < b→0≤t→t≤b→b≤100→vT (lowM t b).1 (lowM t b).2:=fun t b hb h0 h1 h2=>by
    obtain⟨r1,r2,r3,r4⟩:=sD hb h0 h1 h2
    exact⟨r1,r2,r3,r4,mW (by lia)⟩
  by_cases c0:k=0
  · subst c0
    obtain⟨x,hx,ha⟩:=f9 (xs:=[PyData.tuple [.int 1,.int 2],.tuple [.int 1,.int 3],.tuple [.int 2,.int 3],.tuple [.int 1,.int 1],.tuple [.int 0,.int 1],.tuple [.int 3,.int 4]]) (i:=n % 6) (by lia) (by simp;lia)
    obtain⟨t,b,rfl,hc⟩:∃t b,x=.tuple [.int t,.int b]∧vT t b:=by
      simp only [List.mem_cons,List.not_mem_nil,or_false] at hx
      rcases hx with rfl | rfl | rfl | rfl | rfl | rfl<;>exact⟨_,_,rfl,by unfold vT;decide⟩
    exact⟨t,b,by simp? [en,iC,aH,ha],hc⟩
  · by_cases c1:k=1
    · subst c1
      have hm:(n / 9) % (2+n % 9 - 1) < 2+n % 9 - 1:=Int.emod_lt_of_pos _ (by lia)
      have hm0:0≤(n / 9) % (2+n % 9 - 1):=Int.emod_nonneg _ (by lia)
      refine⟨_,_,?_,low (1+(n / 9) % (2+n % 9 - 1)) (2+n % 9) (by lia) (by lia) (by lia) (by lia)⟩
      have hpos:∀e:En,aT e (.d (.int (n / 9))) (.d (.int (2+n % 9 - 1)))=_:=fun e=>aH (by lia)
      have hl:=jl (1+(n / 9) % (2+n % 9 - 1)) (2+n % 9) (by lia) (vN (by lia) (by lia) (by decide))
      simp? [en,iC,aH,cS,b9,hpos,hl]
    · by_cases c2:k=2
      · subst c2
        have hm:(n / 100) % (1+n % 100+1) < 1+n % 100+1:=Int.emod_lt_of_pos _ (by lia)
        have hm0:0≤(n / 100) % (1+n % 100+1):=Int.emod_nonneg _ (by lia)
        refine⟨_,_,?_,low ((n / 100) % (1+n % 100+1)) (1+n % 100) (by lia) (by lia) (by lia) (by lia)⟩
        have hpos:∀e:En,aT e (.d (.int (n / 100))) (.d (.int (1+n % 100+1)))=_:=fun e=>aH (by lia)
        have hl:=jl ((n / 100) % (1+n % 100+1)) (1+n % 100) (by lia) (vN (by lia) (by lia) (by decide))
        simp? [en,iC,aH,cS,b100,hpos,hl]
      · refine⟨1,1,?_,by unfold vT;decide⟩
        simp? [en,iC,c0,c1,c2]
theorem Ae(n k:Int):∃r,j6 [.d (.int n),.d (.int k)]=some (.d (.int r),[.d (.int n),.d (.int k)])∧0≤r∧r≤1000:=by
  obtain⟨x,hx,ha⟩:=f9 (xs:=[PyData.int (n % 7),.int (5+n % 2),.int (n % 1001),.int (1000 - n % 3)]) (i:=k % 4) (by lia) (by simp;lia)
  obtain⟨r,rfl,hr⟩:∃r,x=.int r∧0≤r∧r≤1000:=by
    simp only [List.mem_cons,List.not_mem_nil,or_false] at hx
    rcases hx with rfl | rfl | rfl | rfl<;>exact⟨_,rfl,by lia,by lia⟩
  exact⟨r,by simp? [j6,tG,aH,ha],hr⟩
abbrev tE(ds:List Int)(things many shape odds ws:Int)(ts:List iA)(v7 v8 v9 v10 v11 v12:Option Sv):En:=[some (.l (ds.map .int)),some (.d (.int things)),some (.d (.int many)),some (.d (.int shape)),some (.d (.int odds)),some (.d (.int ws)),some (.l (ts.map bh)),v7,v8,v9,v10,v11,v12]
inductive TR (things many shape odds ws:Int) (ts:List iA) (k:Option Sv):En→Prop
  | mk {t ds w8 w9 w10 w11 w12} (hd:ig ds) (ht:t.Ok things):TR things many shape odds ws ts k (tE ds things many shape odds ws (ts++[t]) k w8 w9 w10 w11 w12)
inductive TI (things many a b c:Int) (i:Nat):En→Prop
  | mk {ts ds w7 w8 w9 w10 w11 w12} (hd:ig ds) (hl:ts.length=i) (ht:∀t∈ts,t.Ok things):TI things many a b c i (tE ds things many a b c ts w7 w8 w9 w10 w11 w12)
theorem EE(ds:List Int)(things many shape odds ws:Int)(ts:List iA)(k:Int)(v8 v9 v10 v11 v12:Option Sv)(hd:ig ds)(h2:2≤things)(h12:things≤100)(s0:0≤shape)(s1:shape < 6)(k0:0≤k)(hl:ts.length≤1000):
    ∃e',gz (tE ds things many shape odds ws ts (some (.d (.int k))) v8 v9 v10 v11 v12)=some (.nx e')∧TR things many shape odds ws ts (some (.d (.int k))) e':=by
  obtain⟨n,d1,tn, -, -,hd1⟩:=gQ hd
  obtain⟨m,d2,tm,m0, -,hd2⟩:=gQ hd1
  obtain⟨x,hx,ha⟩:=f9 (xs:=[PyData.int (n % things),.int 0,.int (k % things),.int (n % things),.int (n % 2),.int (n % things)]) (i:=shape) s0 (by simp;lia)
  have tp:0 < things:=Int.lt_of_lt_of_le (by decide) h2
  have tq:0 < things - 1:=Int.sub_pos_of_lt (Int.lt_of_lt_of_le (by decide) h2)
  have nt:0≤n % things∧n % things < things:=⟨vY tp,vZ tp⟩
  have kt:0≤k % things∧k % things < things:=⟨vY tp,vZ tp⟩
  obtain⟨one,rfl,o0,o1⟩:∃r,x=.int r∧0≤r∧r < things:=by
    simp only [List.mem_cons,List.not_mem_nil,or_false] at hx
    rcases hx with rfl | rfl | rfl | rfl | rfl | rfl<;>exact⟨_,rfl,by lia,by lia⟩
  have r0:0≤(n / 12) % (things - 1):=vY tq
  have r1:(n / 12) % (things - 1) < things - 1:=vZ tq
  have q0:0≤(one+1+(n / 12) % (things - 1)) % things:=vY tp
  have q1:(one+1+(n / 12) % (things - 1)) % things < things:=vZ tp
  have qn:(one+1+(n / 12) % (things - 1)) % things≠one:=fun z=>by
    by_cases c:one+1+(n / 12) % (things - 1) < things
    · rw [Int.emod_eq_of_lt (by lia) c] at z;lia
    · have e:(one+1+(n / 12) % (things - 1)) % things=(one+1+(n / 12) % (things - 1) - things) % things:=by rw [Int.sub_emod_right]
      rw [e,Int.emod_eq_of_lt (by lia) (by lia)] at z;lia
  obtain⟨t,b,c1,c2,c3,c4,c5,c6⟩:=ym m odds m0
  obtain⟨w,w1,w2,w3⟩:=Ae (m / 10007) ws
  have b12:Bt 8000 12:=gX (by decide) (by decide)
  have b107:Bt 8000 10007:=gX (by decide) (by decide)
  have g1:∀(e:En) (i:Int),aT e (.d (.int i)) (.d (.int things))=some (.d (.int (i % things))):=fun e i=>aH tp
  have g2:∀(e:En) (i:Int),aT e (.d (.int i)) (.d (.int (things - 1)))=some (.d (.int (i % (things - 1)))):=fun e i=>aH tq
  have hlen:ts.length < 1000000:=by lia
  by_cases c:shape=4
  · subst c
    refine⟨tE d2 things many 4 odds ws (ts++[⟨0,1,t,b,w⟩]) (some (.d (.int k))) (some (.d (.int n))) (some (.d (.int 0))) (some (.d (.int 1))) (some (.d (.int m))) (some (.d (.tuple [.int 0,.int 1]))),?_,.mk hd2 ⟨by show(0:Int)≤0;decide,by show(0:Int) < 1;decide,by show(1:Int) < things;lia,c2,c3,c4,c5,w2,w3,c6⟩⟩
    simp? [tE,gz,tn,tm,aH,g1,g2,cS,b12,b107,ha,c1,w1,pG,bh,hlen]
    decide
  · refine⟨tE d2 things many shape odds ws (ts++[⟨min one ((one+1+(n / 12) % (things - 1)) % things),max one ((one+1+(n / 12) % (things - 1)) % things),t,b,w⟩]) (some (.d (.int k))) (some (.d (.int n))) (some (.d (.int one))) (some (.d (.int ((one+1+(n / 12) % (things - 1)) % things)))) (some (.d (.int m))) (some (.d (.tuple [.int (min one ((one+1+(n / 12) % (things - 1)) % things)),.int (max one ((one+1+(n / 12) % (things - 1)) % things))]))),?_,.mk hd2 ⟨by show 0≤min _ _;lia,by show min _ _ < max _ _;lia,by show max _ _ < _;lia,c2,c3,c4,c5,w2,w3,c6⟩⟩
    simp? [tE,gz,tn,tm,aH,g1,g2,cS,b12,b107,ha,c1,w1,pG,bh,hlen,c]
theorem CC(ds:List Int)(things many:Int)(hd:ig ds)(h2:2≤things)(h12:things≤100)(m0:0≤many)(m1:many≤1000):∃(ts:List iA) (ds':List Int),m4 [.l (ds.map .int),.d (.int things),.d (.int many)]=some (.d (.tuple (ts.map bh)),[.l (ds'.map .int),.d (.int things),.d (.int many)])∧ig ds'∧(ts.length:Int)=many∧∀t∈ts,t.Ok things:=by
  obtain⟨n0,d1,t0, -, -,hd1⟩:=gQ hd
  obtain⟨n1,d2,t1, -, -,hd2⟩:=gQ hd1
  obtain⟨n2,d3,t2, -, -,hd3⟩:=gQ hd2
  obtain⟨e',h1,hI⟩:=ee (own:=[]) (g:=ah 7) (f:=gz) (TI things many (n0 % 6) (n1 % 4) (n2 % 4)) (ba 0 many.toNat) 0 (tE d3 things many (n0 % 6) (n1 % 4) (n2 % 4) [] none none none none none none) (fun i x e hx hI=>by
    obtain⟨rfl,hi⟩:=dk hx
    obtain⟨hd',hl,ht⟩:=hI
    rename_i ts ds' w7 w8 w9 w10 w11 w12
    obtain⟨e9,s1,⟨s2,s3⟩⟩:=EE ds' things many (n0 % 6) (n1 % 4) (n2 % 4) ts (0+(i:Int)) w8 w9 w10 w11 w12 hd' h2 h12 (vY (by decide)) (vZ (by decide)) (by lia) (by lia)
    exact⟨_,_,rfl,s1,cz,.mk s2 (by simp;lia) fun z hz=>by
      rcases List.mem_append.mp hz with hz | hz
      · exact ht z hz
      · simp at hz;subst hz;exact s3⟩) (.mk hd3 rfl fun t ht=>by cases ht)
  obtain⟨hd',hl,ht⟩:=hI
  rename_i ts ds' w7 w8 w9 w10 w11 w12
  refine⟨ts,ds',?_,hd',by rw [hl,ck];lia,ht⟩
  have hf:∀W,eC W mT (ah 7) gz (tE d3 things many (n0 % 6) (n1 % 4) (n2 % 4) [] none none none none none none)=some (.nx (tE ds' things many (n0 % 6) (n1 % 4) (n2 % 4) ts w7 w8 w9 w10 w11 w12)):=fun W=>by
    rw [d_ (show mT _=some (ba 0 many.toNat,[],tE d3 things many (n0 % 6) (n1 % 4) (n2 % 4) [] none none none none none none) from dj (n:=many) (by simp? [tE]) (by lia) (by lia))]
    exact h1
  unfold tE at hf
  simp only [List.map_nil] at hf
  simp? [m4,vH,t0,t1,t2,aH,hf]
abbrev wE(ds:List Int)(most tn things many:Int)(ts:List iA)(way:Int)(ps:List Int)(v8 v9:Option Sv):En:=[some (.l (ds.map .int)),some (.d (.int most)),some (.d (.int tn)),some (.d (.int things)),some (.d (.int many)),some (.d (.tuple (ts.map bh))),some (.d (.int way)),some (.l (ps.map .int)),v8,v9]
inductive WI (most tn things many:Int) (ts:List iA) (way:Int) (i:Nat):En→Prop
  | mk {ps ds w8} (hd:ig ds) (hpl:ps.length=i) (hps:∀p∈ps,0≤p∧p≤20):WI most tn things many ts way i (wE ds most tn things many ts way ps w8 none)
theorem EF(ds:List Int)(most tn:Int)(hd:ig ds)(m0:0≤most)(m1:most≤12)(k0:0≤tn)(k1:tn≤16):∃(W:bz) (ds':List Int),qH [.l (ds.map .int),.d (.int most),.d (.int tn)]=some (.d (aO W),[.l (ds'.map .int),.d (.int most),.d (.int tn)])∧ig ds'∧W.Ok∧W.things≤most∧(W.ties.length:Int)≤tn:=by
  obtain⟨n0,d1,t0, -, -,hd1⟩:=gQ hd
  obtain⟨n1,d2,t1, -, -,hd2⟩:=gQ hd1
  have mp:0 < most+1:=Int.lt_add_one_of_le m0
  have kp:0 < tn+1:=Int.lt_add_one_of_le k0
  have g0:∀(e:En),aT e (.d (.int n0)) (.d (.int (most+1)))=some (.d (.int (n0 % (most+1)))):=fun e=>aH mp
  have g1':∀(e:En),aT e (.d (.int n1)) (.d (.int (tn+1)))=some (.d (.int (n1 % (tn+1)))):=fun e=>aH kp
  have th0:0≤n0 % (most+1):=vY mp
  have th1:n0 % (most+1) < most+1:=vZ mp
  have ti0:0≤n1 % (tn+1):=vY kp
  have ti1:n1 % (tn+1) < tn+1:=vZ kp
  clear mp kp
  generalize n0 % (most+1)=things at th0 th1 g0
  generalize n1 % (tn+1)=tm at ti0 ti1 g1'
  obtain⟨many,hmany,mm,m00,m01⟩:∃many:Int,many=tm*(if decide (1 < things)=true then 1 else 0)∧(1 < things∨many=0)∧0≤many∧many≤tn:=by
    by_cases c:1 < things
    · exact⟨tm,by simp [c],.inl c,ti0,by lia⟩
    · exact⟨0,by simp [c],.inr rfl,by lia,by lia⟩
  have gm:∀e:En,be e (.d (.int tm)) (.d (.int (if decide (1 < things)=true then 1 else 0)))=some (.d (.int many)):=fun e=>by
    rw [aW (k9 (by split<;>decide) (by split<;>decide)),hmany]
  have gi:∀e:En,g1 uI e [.d (.bool (decide (1 < things)))]=some (.d (.int (if decide (1 < things)=true then 1 else 0))):=fun e=>rfl
  generalize (if decide (1 < things)=true then 1 else 0:Int)=one at gm gi
  obtain⟨ts,d3,t3,hd3,hlen,hts⟩:=CC d2 (max 2 things) many hd2 (by lia) (by lia) m00 (by lia)
  obtain⟨n4,d4,t4, -, -,hd4⟩:=gQ hd3
  obtain⟨e',h1,hI⟩:=ee (own:=[]) (g:=ah 8) (f:=lY) (WI most tn things many ts (n4 % 3)) (ba 0 things.toNat) 0 (wE d4 most tn things many ts (n4 % 3) [] none none) (fun i x e hx hI=>by
    obtain⟨rfl,hi⟩:=dk hx
    obtain⟨hd5,hpl,hps⟩:=hI
    rename_i ps d5 w8
    obtain⟨p1,d6,t6, -, -,hd6⟩:=gQ hd5
    obtain⟨p2,d7,t7, -, -,hd7⟩:=gQ hd6
    obtain⟨z,hz,ha⟩:=f9 (xs:=[PyData.int 20,.int (1+p1 % 3),.int (p2 % 21)]) (i:=n4 % 3) (vY (by decide)) (vZ (k:=3) (by decide))
    obtain⟨p,rfl,hp⟩:∃r,z=.int r∧0≤r∧r≤20:=by
      simp only [List.mem_cons,List.not_mem_nil,or_false] at hz
      rcases hz with rfl | rfl | rfl<;>exact⟨_,rfl,by lia,by lia⟩
    refine⟨wE d5 most tn things many ts (n4 % 3) ps (some (.d (.int (0+(i:Int))))) none,wE d7 most tn things many ts (n4 % 3) (ps++[p]) (some (.d (.int (0+(i:Int))))) none,rfl,?_,cz,.mk hd7 (by simp;lia) fun q hq=>by
      rcases List.mem_append.mp hq with hq | hq
      · exact hps q hq
      · simp at hq;subst hq;exact hp⟩
    have hlen:ps.length < 1000000:=by lia
    simp? [wE,lY,t6,t7,aH,ha,hlen]) (.mk hd4 rfl fun p hp=>by cases hp)
  obtain⟨hd5,hpl,hps⟩:=hI
  rename_i ps d5 w8
  have hf:∀W,eC W pO (ah 8) lY (wE d4 most tn things many ts (n4 % 3) [] none none)=some (.nx (wE d5 most tn things many ts (n4 % 3) ps w8 none)):=fun W=>by
    rw [d_ (show pO _=some (ba 0 things.toNat,[],wE d4 most tn things many ts (n4 % 3) [] none none) from dj (n:=things) (by simp? [wE]) (by lia) (by lia))]
    exact h1
  obtain⟨p1,d6,t6, -, -,hd6⟩:=gQ hd5
  obtain⟨p2,d7,t7, -, -,hd7⟩:=gQ hd6
  obtain⟨p3,d8,t8, -, -,hd8⟩:=gQ hd7
  have xp:0 < max 1 many:=Int.lt_of_lt_of_le Int.zero_lt_one (Int.le_max_left _ _)
  have gx:∀(e:En),aT e (.d (.int p1)) (.d (.int (max 1 many)))=some (.d (.int (p1 % max 1 many))):=fun e=>aH xp
  have x0:0≤p1 % max 1 many:=vY xp
  have x1:p1 % max 1 many < max 1 many:=vZ xp
  obtain⟨z,hz,ha⟩:=f9 (xs:=[PyData.int 40,.int (1+p1 % max 1 many),.int (p2 % 41)]) (i:=p3 % 3) (vY (by decide)) (vZ (k:=3) (by decide))
  obtain⟨asks,rfl,hasks⟩:∃r,z=.int r∧0≤r∧r≤40:=by
    simp only [List.mem_cons,List.not_mem_nil,or_false] at hz
    rcases hz with rfl | rfl | rfl<;>exact⟨_,rfl,by lia,by lia⟩
  rw [ck] at hpl
  refine⟨⟨things,ts,ps,asks⟩,d8,?_,hd8,⟨th0,by show things≤12;lia,fun t ht=>?_,by show ts.length≤16;lia,by show(ps.length:Int)=things;lia,hps,hasks.1,hasks.2⟩,by show things≤most;lia,by show(ts.length:Int)≤tn;lia⟩
  · unfold wE at hf
    simp only [List.map_nil] at hf
    simp? [qH,As,t0,t1,g0,g1',gm,gi,t3,t4,aH,hf,t6,t7,t8,gx,ha,aO]
  · rcases mm with c | c
    · have:=hts t ht
      rw [show max 2 things=things by lia] at this
      exact this
    · have:ts=[]:=List.length_eq_zero_iff.mp (by lia)
      subst this;cases ht
def yV:PyData→Bool
  | .int _=>true
  | .bool _=>true
  | _=>false
def yU:PyData→Bool
  | .bool _=>true
  | _=>false
def uS:PyData→Bool
  | .tuple _=>true
  | _=>false
theorem Ay{e:En}{d:PyData}:jz "int" e (.d d)=some (.d (.bool (yV d))):=by cases d<;>rfl
theorem Dj{e:En}{d:PyData}:jz "bool" e (.d d)=some (.d (.bool (yU d))):=by cases d<;>rfl
theorem sr{e:En}{d:PyData}:jz "tuple" e (.d d)=some (.d (.bool (uS d))):=by cases d<;>rfl
theorem l7{d:PyData}(h:uS d=true):∃ds,d=.tuple ds:=by cases d<;>first | exact⟨_,rfl⟩ | cases h
theorem su(d:PyData):yx d=(yV d&& !yU d):=by cases d<;>rfl
theorem yn(d:PyData):dr [.d d]=some (.d (.bool (yx d)),[.d d]):=by
  rw [su]
  have g1:=fun e=>Ay (e:=e) (d:=d)
  have g2:=fun e=>Dj (e:=e) (d:=d)
  generalize yV d=a at*
  generalize yU d=b at*
  cases a<;>simp? [dr,lB,g1,g2]
def wZ:List PyData:=[.none,.bool true,.bool false,.int 0,.int 1,.int (-1),.int 5,.str "",.str "a",.str "0",.tuple [],.tuple [.int 0],.tuple [.int 0,.int 1],.tuple [.tuple [],.tuple []],.list [],.list [.int 0],.dict [],.dict [(.int 0,.int 1)],.tuple [.none],.tuple [.tuple []],.list [.tuple []],.tuple [.bool true,.bool false],.tuple [.tuple [.int 0,.int 1],.tuple [.int 1,.int 2]],.tuple [.tuple [.tuple [],.tuple []]],.tuple [.str "a",.int 1],.tuple [.tuple [.int 0,.int 1]],.int (10 ^ 30)]
theorem ED(n:Int):∃d∈wZ,qG [.d (.int n)]=some (.d d,[.d (.int n)]):=by
  have m0:0≤n % 27:=Int.emod_nonneg _ (by decide)
  have m1:n % 27 < 27:=Int.emod_lt_of_pos _ (by decide)
  obtain⟨d,hd,ha⟩:=f9 (xs:=wZ) m0 (by show n % 27 < 27;exact m1)
  have gm:∀e,aT e (.d (.int n)) (.d (.int 27))=some (.d (.int (n % 27))):=fun e=>aH (by decide)
  have gp:∀e,mM e (.d (.int 10)) (.d (.int 30))=some (.d (.int (10 ^ 30))):=fun e=>gE (i:=10) (j:=30) (by decide)
  refine⟨d,hd,?_⟩
  generalize n % 27=k at*
  generalize hb:(10 ^ 30:Int)=big at*
  rw [show wZ=[.none,.bool true,.bool false,.int 0,.int 1,.int (-1),.int 5,.str "",.str "a",.str "0",.tuple [],.tuple [.int 0],.tuple [.int 0,.int 1],.tuple [.tuple [],.tuple []],.list [],.list [.int 0],.dict [],.dict [(.int 0,.int 1)],.tuple [.none],.tuple [.tuple []],.list [.tuple []],.tuple [.bool true,.bool false],.tuple [.tuple [.int 0,.int 1],.tuple [.int 1,.int 2]],.tuple [.tuple [.tuple [],.tuple []]],.tuple [.str "a",.int 1],.tuple [.tuple [.int 0,.int 1]],.int big] by rw [←hb];rfl] at ha
  have gc:∀(e:En) (xs ys:List PyData),e[1]?=some (some (.l xs))→xs.length+ys.length≤1000000→bE e (.s 1) (.l ys)=some (.l (xs++ys)):=fun e xs ys he h=>pF he h
  simp? [qG,Ar,gm,gp,gc,ha,rG]
theorem CB(a b:Bool):mZ [.d (.bool a),.d (.bool b)]=some (.d (.bool (a==b)),[.d (.bool a),.d (.bool b)]):=by
  have gi:∀(e:En) (x y:Bool),Dm e (.d (.bool x)) (.d (.bool y))=some (.d (.bool (x==y))):=fun e x y=>rfl
  cases a<;>cases b<;>simp? [mZ,vG,gi]
theorem lu(a b:Int)(hb:Bt 4000 b):bW [.d (.int a),.d (.int b)]=some (.d (.int (Int.gcd a b)),[.d (.int a),.d (.int b)]):=by
  have tst:∀x y:Int,bK [some (.d (.int x)),some (.d (.int y))]=some (!(y==0),[some (.d (.int x)),some (.d (.int y))]):=fun x y=>by simp? [bK]
  obtain⟨e0,e',h1,⟨x,y,he,hg,hy⟩,h3⟩:=jM (ft:=bK) (f:=ce) (fun e=>∃x y,e=[some (.d (.int x)),some (.d (.int y))]∧Int.gcd x y=Int.gcd a b∧Bt 4000 y) (oJ 1) (fun e ⟨x,y,he,hg,hy⟩=>by
    subst he
    rw [tst]
    by_cases c:y=0
    · subst c;exact .inl ⟨_,rfl,trivial⟩
    · refine .inr ⟨_,[some (.d (.int y)),some (.d (.int (x.fmod y)))],by rw [beq_false_of_ne c];rfl,by simp? [ce,wD c],⟨y,x.fmod y,rfl,by rw [qC,hg],?_⟩,?_⟩
      · have:=fR x c
        exact Bt.of_le hy (by lia)
      · have:=fR x c
        simpa [oJ] using this) (2 ^ 4200) _ ⟨a,b,rfl,rfl,hb⟩ (pS (m:=4000) (by simpa [oJ,Bt] using hb) (by decide))
  subst he
  rw [tst] at h3
  have h4:=Prod.mk.inj (Option.some.inj h3)
  have hy0:y=0:=by simpa using h4.1
  subst hy0
  have h5:=h4.2
  subst h5
  have hs:jI (2 ^ 4200) bK ce [some (.d (.int a)),some (.d (.int b))]=some (.nx [some (.d (.int x)),some (.d (.int 0))]):=h1
  have hg':(x.natAbs:Int)=(Int.gcd a b:Int):=by rw [←hg];simp
  simp only [bW,gA,gh,oK,aE,iz,bc,dG,a7,kg,jd,sR,xN,aL,ao,qe,ae,vC,bT,ag,aa,aS,aZ,bG,nW,rH,fK,FN,iT,CL,nX,yC,lG,j8,fZ,dy,Bn,jC,je,pB,e7,cn,v_,uw,c7,aw,ah,cJ,dg,aN,bF,y_,e6,mH,jA,eM,jY,pK,du,pH,mK,mJ,mL,kU,mG,wA,mI,se,wB,sk,pL,si,sj,mO,mN,kW,mP,wG,pk,kJ,rS,rT,vV,kQ,kP,jW,pI,List.replicate, -List.map_nil, -List.map_cons, -List.nil_append, -List.cons_append, -Option.bind_some, -Option.map_some, -getElem?_pos, -List.append_nil,wg,wf,wb,wa,wd,we,wc,wj]
  simp? [hs,hg']
theorem nV(t b:Int)(hb:0 < b)(h:Bt 4000 b):dz [.d (.int t),.d (.int b)]=some (.d (dF (lowM t b)),[.d (.int t),.d (.int b)]):=by
  have g0:=pM (t:=t) (b:=b) (by lia)
  have g1:(Int.gcd t b:Int)≠0:=by lia
  have g8:Bt 8000 (Int.gcd t b:Int):=(wH (t:=t) (by lia) h).mono (by decide)
  have e:lowM t b=(t.fdiv (Int.gcd t b:Int),b.fdiv (Int.gcd t b:Int)):=by unfold lowM;rw [if_neg (by lia)]
  have nb:¬b < 0:=by lia
  rw [e]
  simp? [dz,qj,lu t b h,tP g1 g8,nb,dF]
theorem uv{a b:Fr}{n:Nat}(a2:0 < a.2)(b2:0 < b.2)(ha1:Bt n a.1)(ha:Bt n a.2)(hb1:Bt n b.1)(hb:Bt n b.2)(hn:n≤1900):eO [.d (dF a),.d (dF b)]=some (.d (dF (tm a b)),[.d (dF a),.d (dF b)]):=by
  have g1:∀e:En,be e (.d (.int a.1)) (.d (.int b.1))=some (.d (.int (a.1*b.1))):=fun e=>aW (cW (ha1.mono (by lia)) (hb1.mono (by lia)))
  have g2:∀e:En,be e (.d (.int a.2)) (.d (.int b.2))=some (.d (.int (a.2*b.2))):=fun e=>aW (cW (ha.mono (by lia)) (hb.mono (by lia)))
  have tl:=nV (a.1*b.1) (a.2*b.2) (Int.mul_pos a2 b2) ((ha.mul hb).mono (by lia))
  unfold tm
  unfold dF at*
  simp? [eO,tH,g1,g2,tl]
theorem uo{a b:Fr}{n:Nat}(a2:0 < a.2)(b2:0 < b.2)(ha1:Bt n a.1)(ha:Bt n a.2)(hb1:Bt n b.1)(hb:Bt n b.2)(hn:n≤1900):fV [.d (dF a),.d (dF b)]=some (.d (dF (tm a b)),[.d (dF a),.d (dF b)]):=by
  have g1:∀e:En,be e (.d (.int a.1)) (.d (.int b.1))=some (.d (.int (a.1*b.1))):=fun e=>aW (cW (ha1.mono (by lia)) (hb1.mono (by lia)))
  have g2:∀e:En,be e (.d (.int a.2)) (.d (.int b.2))=some (.d (.int (a.2*b.2))):=fun e=>aW (cW (ha.mono (by lia)) (hb.mono (by lia)))
  have tl:=jl (a.1*b.1) (a.2*b.2) (Int.mul_pos a2 b2) ((ha.mul hb).mono (by lia))
  unfold tm
  unfold dF at*
  simp? [fV,tF,g1,g2,tl]
theorem lw(d:PyData)(n:Int):bI [.d d,.d (.int n)]=some (.d (.bool (cX n d)),[.d d,.d (.int n)]):=by
  have g:=fun e=>sr (e:=e) (d:=d)
  cases c:uS d with
  | false=>
    rw [c] at g
    have e:cX n d=false:=by cases d<;>first | rfl | cases c
    rw [e]
    simp? [bI,iD,g]
  | true=>
    rw [c] at g
    obtain⟨ds,rfl⟩:=l7 c
    simp? [bI,iD,g,cX]
theorem nU{d:PyData}(h:d.showable=true):bx [.d d]=some (.d (.bool (lR d)),[.d d]):=by
  have tr:=lw d 2
  cases c:cX 2 d with
  | false=>
    rw [c] at tr
    have e:lR d=false:=by
      cases q:lR d with
      | false=>rfl
      | true=>
        unfold lR at q
        split at q
        · simp [cX] at c
        · cases q
    rw [e]
    simp? [bx,cy,tr]
  | true=>
    obtain⟨x,y,rfl⟩:=Ek c
    rw [c] at tr
    have nx:=yn x
    have ny:=yn y
    cases hx:yx x with
    | false=>
      rw [hx] at nx
      have e:lR (.tuple [x,y])=false:=by cases x<;>first | rfl | simp [yx] at hx
      rw [e]
      simp? [bx,cy,tr,nx]
    | true=>
      obtain⟨t,rfl⟩:=l5 hx
      rw [hx] at nx
      cases hy:yx y with
      | false=>
        rw [hy] at ny
        have e:lR (.tuple [.int t,y])=false:=by cases y<;>first | rfl | simp [yx] at hy
        rw [e]
        simp? [bx,cy,tr,nx,ny]
      | true=>
        obtain⟨b,rfl⟩:=l5 hy
        rw [hy] at ny
        by_cases c1:b < 1
        · have e:lR (.tuple [.int t,.int b])=false:=by
            simp only [lR,Bool.and_eq_false_iff,decide_eq_false_iff_not];left;lia
          rw [e]
          simp? [bx,cy,tr,nx,ny,c1]
        · simp only [PyData.showable,PyData.showableAll,Bool.and_eq_true,decide_eq_true_eq] at h
          have tl:=nV t b (by lia) (vM h.2.1 (by lia))
          have e:lR (.tuple [.int t,.int b])=((lowM t b).1==t&&(lowM t b).2==b):=by
            rw [y6 (by lia)]
            show(decide (1≤b)&&_)=_
            rw [decide_eq_true (by lia),Bool.true_and]
          rw [e]
          unfold dF at tl
          have ge:=fun e=>wy (e:=e) (a:=(lowM t b).1) (b:=(lowM t b).2) (c:=t) (d:=b)
          generalize lowM t b=p at*
          simp? [bx,cy,tr,nx,ny,c1,tl,ge]
theorem j3{t b:Int}{n:Nat}(hb:0 < b)(h1:Bt n t)(h2:Bt n b):Bt n (lowM t b).1∧Bt n (lowM t b).2∧0 < (lowM t b).2:=
  ⟨(tV (by lia) h1 h2).1,(tV (by lia) h1 h2).2,(lP.lowM hb).pos⟩
structure FQ (n:Nat) (f:Fr):Prop where
  pos:0 < f.2
  top:Bt n f.1
  bot:Bt n f.2
theorem FQ.mono{n m:Nat}{f:Fr}(h:FQ n f)(hm:n≤m):FQ m f:=⟨h.pos,h.top.mono hm,h.bot.mono hm⟩
theorem FQ.pl{n m:Nat}{a b:Fr}(ha:FQ n a)(hb:FQ m b):FQ (n+m+1) (L2.pl a b):=by
  obtain⟨r1,r2,r3⟩:=j3 (t:=a.1*b.2+b.1*a.2) (b:=a.2*b.2) (n:=n+m+1) (Int.mul_pos ha.pos hb.pos) ((ha.top.mul hb.bot).add ((hb.top.mul ha.bot).mono (by lia))) ((ha.bot.mul hb.bot).mono (by lia))
  exact⟨r3,r1,r2⟩
theorem FQ.tm{n m:Nat}{a b:Fr}(ha:FQ n a)(hb:FQ m b):FQ (n+m) (L2.tm a b):=by
  obtain⟨r1,r2,r3⟩:=j3 (t:=a.1*b.1) (b:=a.2*b.2) (n:=n+m) (Int.mul_pos ha.pos hb.pos) (ha.top.mul hb.top) (ha.bot.mul hb.bot)
  exact⟨r3,r1,r2⟩
def yA(b:Fr):Fr:=(0 - b.1,b.2)
theorem FQ.ng{n:Nat}{b:Fr}(h:FQ n b):FQ n (yA b):=⟨h.pos,h.top.of_le (by show(0 - b.1).natAbs≤b.1.natAbs;lia),h.bot⟩
theorem FQ.zero:FQ 1 ((0,1):Fr):=⟨by decide,by unfold Bt;decide,by unfold Bt;decide⟩
theorem ut{a b:Fr}{n m:Nat}(ha:FQ n a)(hb:FQ m b)(h:n+m≤3990):jD [.d (dF a),.d (dF b)]=some (.d (dF (pl a b)),[.d (dF a),.d (dF b)]):=by
  have g1:∀e:En,be e (.d (.int a.1)) (.d (.int b.2))=some (.d (.int (a.1*b.2))):=fun e=>aW (cW (ha.top.mono (by lia)) (hb.bot.mono (by lia)))
  have g3:∀e:En,be e (.d (.int b.1)) (.d (.int a.2))=some (.d (.int (b.1*a.2))):=fun e=>aW (cW (hb.top.mono (by lia)) (ha.bot.mono (by lia)))
  have g2:∀e:En,be e (.d (.int a.2)) (.d (.int b.2))=some (.d (.int (a.2*b.2))):=fun e=>aW (cW (ha.bot.mono (by lia)) (hb.bot.mono (by lia)))
  have tl:=nV (a.1*b.2+b.1*a.2) (a.2*b.2) (Int.mul_pos ha.pos hb.pos) ((ha.bot.mul hb.bot).mono (by lia))
  unfold pl
  unfold dF at*
  simp? [jD,vJ,g1,g2,g3,tl]
theorem kB{a b:Fr}{n m:Nat}(ha:FQ n a)(hb:FQ m b)(h:n+m≤3990):fm [.d (dF a),.d (dF b)]=some (.d (dF (pl a b)),[.d (dF a),.d (dF b)]):=by
  have g1:∀e:En,be e (.d (.int a.1)) (.d (.int b.2))=some (.d (.int (a.1*b.2))):=fun e=>aW (cW (ha.top.mono (by lia)) (hb.bot.mono (by lia)))
  have g3:∀e:En,be e (.d (.int b.1)) (.d (.int a.2))=some (.d (.int (b.1*a.2))):=fun e=>aW (cW (hb.top.mono (by lia)) (ha.bot.mono (by lia)))
  have g2:∀e:En,be e (.d (.int a.2)) (.d (.int b.2))=some (.d (.int (a.2*b.2))):=fun e=>aW (cW (ha.bot.mono (by lia)) (hb.bot.mono (by lia)))
  have tl:=jl (a.1*b.2+b.1*a.2) (a.2*b.2) (Int.mul_pos ha.pos hb.pos) ((ha.bot.mul hb.bot).mono (by lia))
  unfold pl
  unfold dF at*
  simp? [fm,vF,g1,g2,g3,tl]
theorem Ac{a b:Fr}{n:Nat}(ha:FQ n a)(hb:FQ n b)(h:n≤4000):m6 [.d (dF a),.d (dF b)]=some (.d (.bool (decide (a.1*b.2 < b.1*a.2))),[.d (dF a),.d (dF b)]):=by
  have g1:∀e:En,be e (.d (.int a.1)) (.d (.int b.2))=some (.d (.int (a.1*b.2))):=fun e=>aW (cW (ha.top.mono h) (hb.bot.mono h))
  have g3:∀e:En,be e (.d (.int b.1)) (.d (.int a.2))=some (.d (.int (b.1*a.2))):=fun e=>aW (cW (hb.top.mono h) (ha.bot.mono h))
  unfold dF at*
  simp? [m6,vI,g1,g3]
def j7(a b:Fr):Fr:=pl a (yA b)
def a_(L:List Fr)(i:Int):Fr:=L.getD i.toNat (0,1)
def bV(t:iA):Fr:=tm (ie t) (t.worth,1)
def dw(K:List Fr)(t:iA):Fr:=tm (ie t) (pl (a_ K t.one) (a_ K t.other))
def au(K B:List Fr)(A:Fr)(O:List Fr)(t:iA)(k:Nat):Fr:=j7 (j7 (j7 (j7 (j7 (bV t) (dw K t)) (a_ B t.one)) (a_ B t.other)) A) (a_ O k)
def gL(K B:List Fr)(A:Fr)(O:List Fr)(t:iA)(k:Nat):Fr:=pl (pl (pl (pl (pl (0,1) (dw K t)) (a_ B t.one)) (a_ B t.other)) A) (a_ O k)
structure cZ (n:Nat) (W:bz) (K B:List Fr) (A:Fr) (O:List Fr):Prop where
  k:∀f∈K,FQ n f
  b:∀f∈B,FQ n f
  a:FQ n A
  o:∀f∈O,FQ n f
  lk:(K.length:Int)=W.things
  lb:(B.length:Int)=W.things
  lo:O.length=W.ties.length
theorem eG{n:Nat}{L:List Fr}{i:Int}(h:∀f∈L,FQ n f)(h0:0≤i)(h1:i < (L.length:Int)):FQ n (a_ L i):=by
  have h2:i.toNat < L.length:=by lia
  unfold a_
  rw [List.getD_eq_getElem?_getD,List.getElem?_eq_getElem h2]
  exact h _ (List.getElem_mem h2)
def vo(b:Bool)(xs:List PyData):PyData:=if b then .list xs else .tuple xs
theorem Bd{e:En}{b:Bool}{xs:List PyData}{i:Int}:bg e (.d (vo b xs)) (.d (.int i))=(atI xs i).map .d:=by
  cases b<;>rfl
theorem jX{e:En}{b:Bool}{L:List Fr}{i:Int}(h0:0≤i)(h1:i < (L.length:Int)):bg e (.d (vo b (L.map dF))) (.d (.int i))=some (.d (dF (a_ L i))):=by
  rw [Bd,eK h0 h1];rfl
theorem qp{W:bz}(ok:W.Ok){t:iA}(ht:t∈W.ties):FQ 7 (ie t):=by
  have s:=A8 ok ht
  exact⟨s.low.pos,s.top.mono (by decide),s.bt⟩
theorem mQ{W:bz}(ok:W.Ok){t:iA}(ht:t∈W.ties):FQ 17 (bV t):=by
  have o:=ok.ties t ht
  exact((qp ok ht).tm (m:=10) (b:=(t.worth,1)) ⟨by show(0:Int) < 1;decide,by have:=o.w0;have:=o.w1;show Bt 10 t.worth;unfold Bt;lia,by show Bt 10 1;unfold Bt;decide⟩)
theorem ic{W:bz}(ok:W.Ok){t:iA}(ht:t∈W.ties):FQ 10 ((t.worth,1):Fr):=by
  have o:=ok.ties t ht
  exact⟨by show(0:Int) < 1;decide,by have:=o.w0;have:=o.w1;show Bt 10 t.worth;unfold Bt;lia,by show Bt 10 1;unfold Bt;decide⟩
abbrev oI(W:bz)(p:PyData)(k:Nat)(x3 x4 x5 x6:PyData)(t:iA)(v12:Option Sv)(f:Fr):En:=[some (.d (aO W)),some (.d p),some (.d (.int (k:Int))),some (.d x3),some (.d x4),some (.d x5),some (.d x6),some (.d (.int t.one)),some (.d (.int t.other)),some (.d (.tuple [.int t.top,.int t.bot])),some (.d (.int t.worth)),some (.d (dF f)),v12]
theorem gF{W:bz}{p:PyData}{k:Nat}{x3 x4 x5 x6:PyData}{t:iA}{a b:Fr}{n m:Nat}(ha:FQ n a)(hb:FQ m b)(h:n+m≤3990):
    fN (oI W p k x3 x4 x5 x6 t (some (.d (dF b))) a)=some (.nx (oI W p k x3 x4 x5 x6 t (some (.d (dF b))) (j7 a b)))∧fP (oI W p k x3 x4 x5 x6 t (some (.d (dF b))) a)=some (.nx (oI W p k x3 x4 x5 x6 t (some (.d (dF b))) (j7 a b))):=by
  have tp:=kB ha hb.ng h
  have gi0:∀e:En,bg e (.d (dF b)) (.d (.int 0))=some (.d (.int b.1)):=fun e=>rfl
  have gi1:∀e:En,bg e (.d (dF b)) (.d (.int 1))=some (.d (.int b.2)):=fun e=>rfl
  have hn:PyData.tuple [.int (-b.1),.int b.2]=dF (yA b):=by simp [dF,yA]
  change fm [.d (dF a),.d (dF (yA b))]=some (.d (dF (j7 a b)),_) at tp
  unfold oI
  generalize dF (j7 a b)=r at*
  generalize dF a=a' at*
  generalize dF (yA b)=nb at*
  generalize dF b=b' at*
  generalize aO W=w' at*
  constructor
  · simp? [fN,gi0,gi1,hn,tp]
  · simp? [fP,gi0,gi1,hn,tp]
theorem oZ{W:bz}(ok:W.Ok){K B O:List Fr}{A:Fr}(h:cZ 350 W K B A O){b1 b2 b3:Bool}{k:Nat}(hk:k < W.ties.length){p:PyData}(hp:p=.tuple [vo b1 (K.map dF),vo b2 (B.map dF),dF A,vo b3 (O.map dF)]):
    dm [.d (aO W),.d p,.d (.int (k:Int))]=some (.d (dF (au K B A O (W.tie (k:Int)) k)),[.d (aO W),.d p,.d (.int (k:Int))]):=by
  have ik:rM W (k:Int):=⟨by lia,by lia⟩
  have ht:W.tie (k:Int)∈W.ties:=by
    unfold bz.tie
    rw [show((k:Int)).toNat=k by lia,List.getD_eq_getElem?_getD,List.getElem?_eq_getElem hk]
    exact List.getElem_mem hk
  have o:=ok.ties _ ht
  have:=o.o0;have:=o.o1;have:=o.o2
  have lk:=h.lk;have lb:=h.lb;have lo:=h.lo
  have gt:atI (W.ties.map bh) (k:Int)=some (bh (W.tie (k:Int))):=mr ik
  have gw:∀e:En,bg e (.d (aO W)) (.d (.int 1))=some (.d (.tuple (W.ties.map bh))):=fun e=>by rw [jT,mI,kJ];rfl
  generalize W.tie (k:Int)=t at*
  have q1:∀e:En,bg e (.d (vo b1 (K.map dF))) (.d (.int t.one))=some (.d (dF (a_ K t.one))):=fun e=>jX (by lia) (by lia)
  have q2:∀e:En,bg e (.d (vo b1 (K.map dF))) (.d (.int t.other))=some (.d (dF (a_ K t.other))):=fun e=>jX (by lia) (by lia)
  have q3:∀e:En,bg e (.d (vo b2 (B.map dF))) (.d (.int t.one))=some (.d (dF (a_ B t.one))):=fun e=>jX (by lia) (by lia)
  have q4:∀e:En,bg e (.d (vo b2 (B.map dF))) (.d (.int t.other))=some (.d (dF (a_ B t.other))):=fun e=>jX (by lia) (by lia)
  have q5:∀e:En,bg e (.d (vo b3 (O.map dF))) (.d (.int (k:Int)))=some (.d (dF (a_ O k))):=fun e=>jX (by lia) (by lia)
  have f1:FQ 350 (a_ K t.one):=eG h.k (by lia) (by lia)
  have f2:FQ 350 (a_ K t.other):=eG h.k (by lia) (by lia)
  have f3:FQ 350 (a_ B t.one):=eG h.b (by lia) (by lia)
  have f4:FQ 350 (a_ B t.other):=eG h.b (by lia) (by lia)
  have f5:FQ 350 (a_ O k):=eG h.o (by lia) (by lia)
  have fp:=f1.pl f2
  have fc:=qp ok ht
  have tp:=kB f1 f2 (by decide)
  have tg:=uo (n:=1000) fc.pos (ic ok ht).pos (fc.top.mono (by decide)) (fc.bot.mono (by decide)) ((ic ok ht).top.mono (by decide)) ((ic ok ht).bot.mono (by decide)) (by decide)
  have tk:=uo (n:=1000) fc.pos fp.pos (fc.top.mono (by decide)) (fc.bot.mono (by decide)) (fp.top.mono (by decide)) (fp.bot.mono (by decide)) (by decide)
  change fV [.d (.tuple [.int t.top,.int t.bot]),.d (.tuple [.int t.worth,.int 1])]=some (.d (dF (bV t)),[.d (.tuple [.int t.top,.int t.bot]),.d (.tuple [.int t.worth,.int 1])]) at tg
  change fV [.d (.tuple [.int t.top,.int t.bot]),.d (dF (pl (a_ K t.one) (a_ K t.other)))]=some (.d (dF (dw K t)),[.d (.tuple [.int t.top,.int t.bot]),.d (dF (pl (a_ K t.one) (a_ K t.other)))]) at tk
  have fk:FQ 800 (dw K t):=(fc.tm fp).mono (by decide)
  have fg:FQ 17 (bV t):=mQ ok ht
  have n1:FQ 900 (j7 (bV t) (dw K t)):=(fg.pl fk.ng).mono (by decide)
  have n2:FQ 1300 (j7 (j7 (bV t) (dw K t)) (a_ B t.one)):=(n1.pl f3.ng).mono (by decide)
  have n3:FQ 1700 (j7 (j7 (j7 (bV t) (dw K t)) (a_ B t.one)) (a_ B t.other)):=(n2.pl f4.ng).mono (by decide)
  have n4:FQ 2100 (j7 (j7 (j7 (j7 (bV t) (dw K t)) (a_ B t.one)) (a_ B t.other)) A):=(n3.pl h.a.ng).mono (by decide)
  have s1:=fun p x3 x4 x5 x6=>(gF (W:=W) (p:=p) (k:=k) (x3:=x3) (x4:=x4) (x5:=x5) (x6:=x6) (t:=t) fg fk (by decide)).2
  have s2:=fun p x3 x4 x5 x6=>(gF (W:=W) (p:=p) (k:=k) (x3:=x3) (x4:=x4) (x5:=x5) (x6:=x6) (t:=t) n1 f3 (by decide)).2
  have s3:=fun p x3 x4 x5 x6=>(gF (W:=W) (p:=p) (k:=k) (x3:=x3) (x4:=x4) (x5:=x5) (x6:=x6) (t:=t) n2 f4 (by decide)).2
  have s4:=fun p x3 x4 x5 x6=>(gF (W:=W) (p:=p) (k:=k) (x3:=x3) (x4:=x4) (x5:=x5) (x6:=x6) (t:=t) n3 h.a (by decide)).1
  have s5:=fun p x3 x4 x5 x6=>(gF (W:=W) (p:=p) (k:=k) (x3:=x3) (x4:=x4) (x5:=x5) (x6:=x6) (t:=t) n4 f5 (by decide)).1
  generalize hx3:vo b1 (K.map dF)=x3 at*
  generalize hx4:vo b2 (B.map dF)=x4 at*
  generalize hx6:vo b3 (O.map dF)=x6 at*
  have F1:∀Wl,eC Wl iH (ah 12) fP (oI W p k x3 x4 (dF A) x6 t none (bV t))=some (.nx (oI W p k x3 x4 (dF A) x6 t (some (.d (dF (a_ B t.other)))) (j7 (j7 (j7 (bV t) (dw K t)) (a_ B t.one)) (a_ B t.other)))):=fun Wl=>by
    have hi:iH (oI W p k x3 x4 (dF A) x6 t none (bV t))=some ([dF (dw K t),dF (a_ B t.one),dF (a_ B t.other)],[],oI W p k x3 x4 (dF A) x6 t none (bV t)):=by
      refine wM ?_
      unfold oI
      simp? [q1,q2,q3,q4,tp,tk]
    rw [d_ hi]
    have g:∀(x:PyData) (v:Option Sv) (f:Fr),ah 12 x (oI W p k x3 x4 (dF A) x6 t v f)=some (oI W p k x3 x4 (dF A) x6 t (some (.d x)) f):=fun x v f=>rfl
    simp only [iw,g,s1,s2,s3,Option.bind_some,cz,if_true]
  have F2:∀v f,iG (oI W p k x3 x4 (dF A) x6 t v f)=some ([dF A,dF (a_ O k)],[],oI W p k x3 x4 (dF A) x6 t v f):=fun v f=>by
    refine wM ?_
    unfold oI
    simp? [q5]
  have F3:∀Wl,eC Wl iG (ah 12) fN (oI W p k x3 x4 (dF A) x6 t (some (.d (dF (a_ B t.other)))) (j7 (j7 (j7 (bV t) (dw K t)) (a_ B t.one)) (a_ B t.other)))=some (.nx (oI W p k x3 x4 (dF A) x6 t (some (.d (dF (a_ O k)))) (au K B A O t k))):=fun Wl=>by
    rw [d_ (F2 _ _)]
    have g:∀(x:PyData) (v:Option Sv) (f:Fr),ah 12 x (oI W p k x3 x4 (dF A) x6 t v f)=some (oI W p k x3 x4 (dF A) x6 t (some (.d x)) f):=fun x v f=>rfl
    simp only [iw,g,s4,s5,Option.bind_some,cz,if_true]
    rfl
  unfold oI at F1 F3
  generalize dF (au K B A O t k)=R at*
  generalize dF (bV t)=G at*
  subst hp
  generalize aO W=w' at*
  generalize W.ties.map bh=tt at*
  unfold bh at gt
  generalize dF A=A' at*
  simp? [dm,om,gw,gt,tg,F1,F3]
theorem CD{a1 a2 a3 a4 a5:Fr}(h1:FQ 800 a1)(h2:FQ 350 a2)(h3:FQ 350 a3)(h4:FQ 350 a4)(h5:FQ 350 a5):
    i6 [.d (.list [dF a1,dF a2,dF a3,dF a4,dF a5])]=some (.d (dF (pl (pl (pl (pl (pl (0,1) a1) a2) a3) a4) a5)),[.d (.list [dF a1,dF a2,dF a3,dF a4,dF a5])]):=by
  have st:∀{N:Sv} {a b:Fr} {n m:Nat},FQ n a→FQ m b→n+m≤3990→iW [some N,some (.d (dF a)),some (.d (dF b))]=some (.nx [some N,some (.d (dF (pl a b))),some (.d (dF b))]):=by
    intro N a b n m ha hb h
    have tp:=ut ha hb h
    generalize dF (pl a b)=r at*
    generalize dF a=a' at*
    generalize dF b=b' at*
    cases N<;>simp? [iW,tp]
  have n1:FQ 900 (pl (0,1) a1):=(FQ.zero.pl h1).mono (by decide)
  have n2:FQ 1300 (pl (pl (0,1) a1) a2):=(n1.pl h2).mono (by decide)
  have n3:FQ 1700 (pl (pl (pl (0,1) a1) a2) a3):=(n2.pl h3).mono (by decide)
  have n4:FQ 2100 (pl (pl (pl (pl (0,1) a1) a2) a3) a4):=(n3.pl h4).mono (by decide)
  have s1:=fun N=>st (N:=N) FQ.zero h1 (by decide)
  have s2:=fun N=>st (N:=N) n1 h2 (by decide)
  have s3:=fun N=>st (N:=N) n2 h3 (by decide)
  have s4:=fun N=>st (N:=N) n3 h4 (by decide)
  have s5:=fun N=>st (N:=N) n4 h5 (by decide)
  have hs:∀Wl,eC Wl kZ (ah 2) iW [some (.d (.list [dF a1,dF a2,dF a3,dF a4,dF a5])),some (.d (dF (0,1))),none]=some (.nx [some (.d (.list [dF a1,dF a2,dF a3,dF a4,dF a5])),some (.d (dF (pl (pl (pl (pl (pl (0,1) a1) a2) a3) a4) a5))),some (.d (dF a5))]):=fun Wl=>by
    rw [d_ (show kZ _=_ from yT rfl)]
    have g:∀(x:PyData) (N v w:Option Sv),ah 2 x [N,v,w]=some [N,v,some (.d x)]:=fun x N v w=>rfl
    simp only [iw,g,s1,s2,s3,s4,s5,Option.bind_some,cz,if_true]
  generalize dF (pl (pl (pl (pl (pl (0,1) a1) a2) a3) a4) a5)=R at*
  generalize [dF a1,dF a2,dF a3,dF a4,dF a5]=L at*
  have e01:dF (0,1)=.tuple [.int 0,.int 1]:=rfl
  rw [e01] at hs
  simp? [i6,tI,hs]
theorem Cy{W:bz}(ok:W.Ok){t:iA}(ht:t∈W.ties):gH [.d (bh t)]=some (.d (dF (bV t)),[.d (bh t)]):=by
  have fc:=qp ok ht
  have tg:=uv (n:=1000) fc.pos (ic ok ht).pos (fc.top.mono (by decide)) (fc.bot.mono (by decide)) ((ic ok ht).top.mono (by decide)) ((ic ok ht).bot.mono (by decide)) (by decide)
  change eO [.d (.tuple [.int t.top,.int t.bot]),.d (.tuple [.int t.worth,.int 1])]=some (.d (dF (bV t)),[.d (.tuple [.int t.top,.int t.bot]),.d (.tuple [.int t.worth,.int 1])]) at tg
  generalize dF (bV t)=R at*
  unfold bh
  simp? [gH,oo,tg]
theorem CA{W:bz}(ok:W.Ok){K B O:List Fr}{A:Fr}(h:cZ 350 W K B A O){k:Nat}(hk:k < W.ties.length){p:PyData}(hp:p=.tuple [.tuple (K.map dF),.tuple (B.map dF),dF A,.tuple (O.map dF)]):
    fq [.d (aO W),.d p,.d (.int (k:Int))]=some (.d (dF (gL K B A O (W.tie (k:Int)) k)),[.d (aO W),.d p,.d (.int (k:Int))]):=by
  have ik:rM W (k:Int):=⟨by lia,by lia⟩
  have ht:W.tie (k:Int)∈W.ties:=by
    unfold bz.tie
    rw [show((k:Int)).toNat=k by lia,List.getD_eq_getElem?_getD,List.getElem?_eq_getElem hk]
    exact List.getElem_mem hk
  have o:=ok.ties _ ht
  have:=o.o0;have:=o.o1;have:=o.o2
  have lk:=h.lk;have lb:=h.lb;have lo:=h.lo
  have gt:atI (W.ties.map bh) (k:Int)=some (bh (W.tie (k:Int))):=mr ik
  have gw:∀e:En,bg e (.d (aO W)) (.d (.int 1))=some (.d (.tuple (W.ties.map bh))):=fun e=>by rw [jT,mI,kJ];rfl
  generalize W.tie (k:Int)=t at*
  have q1:atI (K.map dF) t.one=some (dF (a_ K t.one)):=eK (by lia) (by lia)
  have q2:atI (K.map dF) t.other=some (dF (a_ K t.other)):=eK (by lia) (by lia)
  have q3:atI (B.map dF) t.one=some (dF (a_ B t.one)):=eK (by lia) (by lia)
  have q4:atI (B.map dF) t.other=some (dF (a_ B t.other)):=eK (by lia) (by lia)
  have q5:atI (O.map dF) (k:Int)=some (dF (a_ O k)):=eK (by lia) (by lia)
  have f1:FQ 350 (a_ K t.one):=eG h.k (by lia) (by lia)
  have f2:FQ 350 (a_ K t.other):=eG h.k (by lia) (by lia)
  have f3:FQ 350 (a_ B t.one):=eG h.b (by lia) (by lia)
  have f4:FQ 350 (a_ B t.other):=eG h.b (by lia) (by lia)
  have f5:FQ 350 (a_ O k):=eG h.o (by lia) (by lia)
  have fp:=f1.pl f2
  have fc:=qp ok ht
  have tp:=ut f1 f2 (by decide)
  have tk:=uv (n:=1000) fc.pos fp.pos (fc.top.mono (by decide)) (fc.bot.mono (by decide)) (fp.top.mono (by decide)) (fp.bot.mono (by decide)) (by decide)
  change eO [.d (.tuple [.int t.top,.int t.bot]),.d (dF (pl (a_ K t.one) (a_ K t.other)))]=some (.d (dF (dw K t)),[.d (.tuple [.int t.top,.int t.bot]),.d (dF (pl (a_ K t.one) (a_ K t.other)))]) at tk
  have fk:FQ 800 (dw K t):=(fc.tm fp).mono (by decide)
  have t5:=CD fk f3 f4 h.a f5
  change i6 _=some (.d (dF (gL K B A O t k)),_) at t5
  subst hp
  generalize dF (gL K B A O t k)=R at*
  generalize dF (dw K t)=G at*
  generalize aO W=w' at*
  generalize W.ties.map bh=tt at*
  unfold bh at gt
  generalize dF A=A' at*
  generalize dF (pl (a_ K t.one) (a_ K t.other))=P at*
  simp? [fq,ms,gw,gt,q1,q2,q3,q4,q5,tp,tk,t5]
theorem EJ{b:Fr}:vR (yA b)= - vR b:=by
  unfold vR yA
  simp only [Int.zero_sub,Rat.intCast_neg]
  grind
theorem rK{a b:Fr}(ha:0 < a.2)(hb:0 < b.2):vR (j7 a b)=vR a - vR b:=by
  unfold j7
  rw [iU ha (show 0 < (yA b).2 from hb),EJ]
  grind
theorem nq{a b:Fr}(ha:0 < a.2)(hb:0 < b.2):0 < (pl a b).2:=(lP.pl ha hb).pos
theorem hJ{a b:Fr}(ha:0 < a.2)(hb:0 < b.2):0 < (j7 a b).2:=(lP.pl ha (show 0 < (yA b).2 from hb)).pos
theorem rJ{f:Fr}(h:0 < f.2):0 < vR f↔ 0 < f.1:=by
  have h2:(0:Rat) < (f.2:Rat):=by exact_mod_cast h
  have e:vR f*(f.2:Rat)=(f.1:Rat):=by unfold vR;have:=bU h;grind
  constructor
  · intro q
    have:=Rat.mul_pos q h2
    rw [e] at this
    exact_mod_cast this
  · intro q
    have q':(0:Rat) < (f.1:Rat):=by exact_mod_cast q
    rw [←e] at q'
    refine Rat.not_le.mp fun z=>?_
    have z1:0≤ - vR f:=by grind
    have z2:=Rat.mul_nonneg z1 (Rat.le_of_lt h2)
    have z3: - vR f*(f.2:Rat)= - (vR f*(f.2:Rat)):=by grind
    rw [z3] at z2
    generalize vR f*(f.2:Rat)=u at*
    grind
theorem uG{a b:Fr}(ha:0 < a.2)(hb:0 < b.2):a.1*b.2 < b.1*a.2↔ 0 < vR b - vR a:=by
  have hp:0 < a.2*b.2:=Int.mul_pos ha hb
  have e:vR b - vR a=vR (b.1*a.2 - a.1*b.2,a.2*b.2):=by
    have h1:=bU ha
    have h2:=bU hb
    unfold vR
    simp only [Rat.intCast_sub,Rat.intCast_mul]
    generalize (a.1:Rat)=x at*
    generalize (a.2:Rat)=y at*
    generalize (b.1:Rat)=z at*
    generalize (b.2:Rat)=w at*
    grind
  rw [e,rJ hp]
  show _↔ 0 < b.1*a.2 - a.1*b.2
  lia
theorem j2{W:bz}(ok:W.Ok){K B O:List Fr}{A:Fr}{n:Nat}(h:cZ n W K B A O){t:iA}(ht:t∈W.ties):FQ n (a_ K t.one)∧FQ n (a_ K t.other)∧FQ n (a_ B t.one)∧FQ n (a_ B t.other)∧0 < (dw K t).2:=by
  have o:=ok.ties _ ht
  have:=o.o0;have:=o.o1;have:=o.o2
  have lk:=h.lk;have lb:=h.lb
  have f1:FQ n (a_ K t.one):=eG h.k (by lia) (by lia)
  have f2:FQ n (a_ K t.other):=eG h.k (by lia) (by lia)
  exact⟨f1,f2,eG h.b (by lia) (by lia),eG h.b (by lia) (by lia),((qp ok ht).tm (f1.pl f2)).pos⟩
theorem dI{W:bz}(ok:W.Ok){K B O:List Fr}{A:Fr}{n:Nat}(h:cZ n W K B A O){t:iA}(ht:t∈W.ties){k:Nat}(hk:k < W.ties.length):
    vR (au K B A O t k)=vR (bV t) - vR (ie t)*(vR (a_ K t.one)+vR (a_ K t.other)) - vR (a_ B t.one) - vR (a_ B t.other) - vR A - vR (a_ O k)∧0 < (au K B A O t k).2∧vR (au K B A O t k)=vR (bV t) - vR (gL K B A O t k)∧0 < (gL K B A O t k).2∧FQ (n*6+50) (gL K B A O t k):=by
  obtain⟨f1,f2,f3,f4,fk⟩:=j2 ok h ht
  have fo:FQ n (a_ O k):=eG h.o (by lia) (by have:=h.lo;lia)
  have fg:=mQ ok ht
  have p1:=hJ fg.pos fk
  have p2:=hJ p1 f3.pos
  have p3:=hJ p2 f4.pos
  have p4:=hJ p3 h.a.pos
  have p5:=hJ p4 fo.pos
  have z0:0 < ((0,1):Fr).2:=by decide
  have r1:=nq z0 fk
  have r2:=nq r1 f3.pos
  have r3:=nq r2 f4.pos
  have r4:=nq r3 h.a.pos
  have r5:=nq r4 fo.pos
  have e1:vR (au K B A O t k)=vR (bV t) - vR (dw K t) - vR (a_ B t.one) - vR (a_ B t.other) - vR A - vR (a_ O k):=by
    unfold au
    rw [rK p4 fo.pos,rK p3 h.a.pos,rK p2 f4.pos,rK p1 f3.pos,rK fg.pos fk]
  have e2:vR (gL K B A O t k)=vR (0,1)+vR (dw K t)+vR (a_ B t.one)+vR (a_ B t.other)+vR A+vR (a_ O k):=by
    unfold gL
    rw [iU r4 fo.pos,iU r3 h.a.pos,iU r2 f4.pos,iU r1 f3.pos,iU z0 fk]
  have ek:vR (dw K t)=vR (ie t)*(vR (a_ K t.one)+vR (a_ K t.other)):=by
    unfold dw
    rw [AL (qp ok ht).pos (f1.pl f2).pos,iU f1.pos f2.pos]
  refine⟨by rw [e1,ek],p5,?_,r5,?_⟩
  · rw [e1,e2,CN];grind
  · exact(((((FQ.zero.pl ((qp ok ht).tm (f1.pl f2))).pl f3).pl f4).pl h.a).pl fo).mono (by lia)
theorem xq{W:bz}(ok:W.Ok){K B O:List Fr}{A:Fr}{n:Nat}(h:cZ n W K B A O){t:iA}(ht:t∈W.ties){k:Nat}(hk:k < W.ties.length):
    (gL K B A O t k).1*(bV t).2 < (bV t).1*(gL K B A O t k).2↔ 0 < (au K B A O t k).1:=by
  obtain⟨_,h2,h3,h4,_⟩:=dI ok h ht hk
  rw [uG h4 (mQ ok ht).pos,←h3,rJ h2]
theorem Fh{W:bz}(e:En):bg e (.d (aO W)) (.d (.int 0))=some (.d (.int W.things)):=by rw [jT,mI,pk];rfl
theorem Do{W:bz}(e:En):bg e (.d (aO W)) (.d (.int 1))=some (.d (.tuple (W.ties.map bh))):=by rw [jT,mI,kJ];rfl
theorem oB{α:Type}(l:List α):l.filter (fun _=>true)=l:=List.filter_eq_self.mpr fun _ _=>rfl
def jx:PyData→Bool
  | .tuple [.int t,.int b]=>lR (.tuple [.int t,.int b])&&decide (0≤t)
  | _=>false
theorem mF{d:PyData}(h:lR d=true):∃f:Fr,d=dF f∧lP f:=by
  unfold lR at h
  split at h
  · rename_i t b
    simp only [Bool.and_eq_true,decide_eq_true_eq] at h
    exact⟨(t,b),rfl,⟨by show(0:Int) < b;lia,h.2⟩⟩
  · cases h
theorem pD{f:Fr}(h:lP f):lR (dF f)=true:=by
  have:=h.pos
  simp only [dF,lR,Bool.and_eq_true,decide_eq_true_eq]
  exact⟨by lia,h.cop⟩
theorem pE{d:PyData}(h:jx d=true):∃f:Fr,d=dF f∧lP f∧0≤f.1:=by
  unfold jx at h
  split at h
  · rename_i t b
    simp only [Bool.and_eq_true,decide_eq_true_eq] at h
    obtain⟨f,hf,hl⟩:=mF h.1
    simp only [dF,PyData.tuple.injEq,List.cons.injEq,PyData.int.injEq,and_true] at hf
    exact⟨f,by rw [hf.1,hf.2];rfl,hl,by rw [←hf.1];exact h.2⟩
  · cases h
theorem wm{f:Fr}(h:lP f)(h0:0≤f.1):jx (dF f)=true:=by
  have:=pD h
  unfold dF at this ⊢
  simp only [jx,this,Bool.true_and,decide_eq_true_eq]
  exact h0
theorem lM{d:PyData}(hs:d.showable=true):bA [.d d]=some (.d (.bool (jx d)),[.d d]):=by
  have t:=nU hs
  cases c:lR d with
  | false=>
    rw [c] at t
    have e:jx d=false:=by
      cases q:jx d with
      | false=>rfl
      | true=>
        obtain⟨f,rfl,hl,_⟩:=pE q
        rw [pD hl] at c;cases c
    rw [e]
    simp? [bA,eZ,t]
  | true=>
    rw [c] at t
    obtain⟨f,rfl,hl⟩:=mF c
    have e:jx (dF f)=decide (0≤f.1):=by
      unfold dF at c ⊢
      simp only [jx,c,Bool.true_and]
    rw [e]
    have gg:∀e:En,Bc e (.d (.int f.1)) (.d (.int 0))=some (.d (.bool (decide (0≤f.1)))):=fun e=>rfl
    generalize decide (0≤f.1)=bb at*
    unfold dF at t ⊢
    simp? [bA,eZ,t,gg]
def dC(n:Int):PyData→Bool
  | .tuple ds=>((ds.length:Int)==n)&&ds.all jx
  | _=>false
theorem jL{d:PyData}(hs:d.showable=true){n:Int}(hn:n≤65535):aX [.d d,.d (.int n)]=some (.d (.bool (dC n d)),[.d d,.d (.int n)]):=by
  have tr:=lw d n
  cases c:cX n d with
  | false=>
    rw [c] at tr
    have e:dC n d=false:=by
      cases d with
      | tuple ds=>have c':((ds.length:Int)==n)=false:=c;simp only [dC,c',Bool.false_and]
      | _=>rfl
    rw [e]
    simp? [aX,dh,tr]
  | true=>
    cases d with
    | tuple ds=>
      have c':((ds.length:Int)==n)=true:=c
      have c2:(ds.length:Int)=n:=by simpa using c'
      rw [c] at tr
      simp only [PyData.showable] at hs
      obtain⟨t',hf⟩:=gC (cs:=[]) (ft:=fY) (fe:=bP) (b:=fun _=>true) (y:=fun d=>.bool (jx d)) ds none [] (fun x _=>rfl) (fun x hx _=>by
        have t:=lM (jN hs x hx)
        generalize jx x=bb at*
        simp? [bP,t]) (by simp;lia)
      have hv:=kG (cp:=[]) (nT:=1) (fi:=el) (g:=ah 0) (ft:=fY) (fe:=bP) (e:=[some (.d (.tuple ds)),some (.d (.int n))]) (cs:=[]) (t:=[none]) (t':=[t']) (wL (fa:=ae 0) rfl) rfl rfl hf
      rw [List.nil_append,oB] at hv
      have ga:=fun e=>wq (e:=e) jx ds
      rw [show dC n (.tuple ds)=ds.all jx by simp only [dC,c',Bool.true_and]]
      generalize ds.all jx=bb at*
      generalize ds.map (fun d=>PyData.bool (jx d))=M at*
      simp? [aX,dh,tr,hv,ga]
    | _=>simp [cX] at c
theorem tN:∀{ds:List PyData},ds.all jx=true→∃ws:List Fr,ds=ws.map dF∧∀f∈ws,lP f∧0≤f.1
  | [],_=>⟨[],rfl,fun _ h=>by cases h⟩
  | d::r,h=>by
    rw [List.all_cons,Bool.and_eq_true] at h
    obtain⟨ws,rfl,hw⟩:=tN h.2
    obtain⟨f,rfl,hl,h0⟩:=pE h.1
    refine⟨f::ws,rfl,fun g hg=>?_⟩
    rcases List.mem_cons.mp hg with rfl | hg
    · exact⟨hl,h0⟩
    · exact hw g hg
def wi(p:Fr × Int):Bool:=decide (p.1.1≤p.2*p.1.2)
def yB:PyData→Fr
  | .tuple [.int a,.int b]=>(a,b)
  | _=>(0,1)
def CF:PyData→En
  | .tuple [a,b]=>[some (.d a),some (.d b)]
  | _=>[]
theorem EH{cs:En}{i j:Nat}(hi:i=cs.length)(hj:j=cs.length+1){x a b:PyData}(hx:x=.tuple [a,b])(t:En)(ht:t.length=2):c7 (aw (ah i) (aw (ah j) cJ)) x (cs++t)=some (cs++CF x):=by
  subst hx hi hj
  rcases t with _ | ⟨a1,_ | ⟨a2,_ | ⟨a3,r⟩⟩⟩
  · simp at ht
  · simp at ht
  · simp [c7,aw,ah,cJ,CF]
  · simp at ht
theorem rA{d:PyData}(hs:d.showable=true):bw [.d d]=some (.d (.bool (lR d)),[.d d]):=by
  have gt:=fun e=>sr (e:=e) (d:=d)
  cases c:cX 2 d with
  | false=>
    have e:lR d=false:=by
      cases q:lR d with
      | false=>rfl
      | true=>
        obtain⟨f,rfl,_⟩:=mF q
        simp [cX,dF] at c
    rw [e]
    cases c0:uS d with
    | false=>
      rw [c0] at gt
      simp? [bw,cx,gt]
    | true=>
      rw [c0] at gt
      obtain⟨ds,rfl⟩:=l7 c0
      have c':((ds.length:Int)==2)=false:=c
      have gn:∀e:En,cg true e (.d (.int ds.length)) (.d (.int 2))=some (.d (.bool true)):=fun e=>by rw [eM,c'];rfl
      simp? [bw,cx,gt,gn]
  | true=>
    obtain⟨x,y,rfl⟩:=Ek c
    have tst:=oE (own:=[]) (g:=ah 1) (f:=bO) (Z:=.d (.bool false)) yx (fun e=>∃v,e=[some (.d (.tuple [x,y])),v]) (fun e=>∃v,e=[some (.d (.tuple [x,y])),v]) [x,y] [some (.d (.tuple [x,y])),none] (fun z hz e ⟨v,he⟩=>by
      subst he
      have q1:=fun e=>Ay (e:=e) (d:=z)
      have q2:=fun e=>Dj (e:=e) (d:=z)
      refine⟨[some (.d (.tuple [x,y])),some (.d z)],rfl,fun h=>?_,fun h=>?_⟩
      · rw [su,Bool.and_eq_true,Bool.not_eq_true'] at h
        rw [h.1] at q1
        rw [h.2] at q2
        exact⟨[some (.d (.tuple [x,y])),some (.d z)],by simp? [bO,q1,q2],cz,_,rfl⟩
      · refine⟨[some (.d (.tuple [x,y])),some (.d z)],?_,_,rfl⟩
        rw [su] at h
        cases b1:yV z with
        | false=>rw [b1] at q1;simp? [bO,q1]
        | true=>
          rw [b1,Bool.true_and] at h
          have b2:yU z=true:=by simpa using h
          rw [b1] at q1
          rw [b2] at q2
          simp? [bO,q1,q2]) ⟨none,rfl⟩
    have hg:=fun Wl=>d_ (W:=Wl) (g:=ah 1) (f:=bO) (show il [some (.d (.tuple [x,y])),none]=some ([x,y],[],[some (.d (.tuple [x,y])),none]) from rfl)
    have gt':∀e:En,jz "tuple" e (.d (.tuple [x,y]))=some (.d (.bool true)):=fun e=>rfl
    cases hN:[x,y].all yx with
    | false=>
      obtain⟨e',h1,v,rfl⟩:=tst.2 hN
      rw [h1] at hg
      have e:lR (.tuple [x,y])=false:=by
        cases q:lR (.tuple [x,y]) with
        | false=>rfl
        | true=>
          obtain⟨f,hf,_⟩:=mF q
          simp only [dF,PyData.tuple.injEq,List.cons.injEq,and_true] at hf
          rw [hf.1,hf.2] at hN
          cases hN
      rw [e]
      simp? [bw,cx,gt',hg]
    | true=>
      obtain⟨e',h1,v,rfl⟩:=tst.1 hN
      rw [h1] at hg
      simp only [List.all_cons,List.all_nil,Bool.and_true,Bool.and_eq_true] at hN
      obtain⟨t,rfl⟩:=l5 hN.1
      obtain⟨b,rfl⟩:=l5 hN.2
      by_cases c1:0 < b
      · simp only [PyData.showable,PyData.showableAll,Bool.and_eq_true,decide_eq_true_eq] at hs
        have tg:=AJ t b (vM hs.2.1 (by lia))
        have e:lR (.tuple [.int t,.int b])=((Int.gcd t b:Int)==1):=by
          simp only [lR]
          rw [decide_eq_true (show 1≤b by lia),Bool.true_and]
          rw [Bool.eq_iff_iff,decide_eq_true_eq,beq_iff_eq]
          lia
        rw [e]
        have gg:∀e:En,tQ e (.d (.int b)) (.d (.int 0))=some (.d (.bool true)):=fun e=>by
          have:decide (0 < b)=true:=decide_eq_true c1
          rw [←this];rfl
        have ge:∀e:En,cg false e (.d (.int (Int.gcd t b))) (.d (.int 1))=some (.d (.bool ((Int.gcd t b:Int)==1))):=fun e=>by rw [eM];rfl
        generalize ((Int.gcd t b:Int)==1)=bb at*
        simp? [bw,cx,gt',hg,tg,gg,ge]
      · have e:lR (.tuple [.int t,.int b])=false:=by
          simp only [lR,Bool.and_eq_false_iff,decide_eq_false_iff_not];left;lia
        rw [e]
        have gg:∀e:En,tQ e (.d (.int b)) (.d (.int 0))=some (.d (.bool false)):=fun e=>by
          have:decide (0 < b)=false:=decide_eq_false c1
          rw [←this];rfl
        simp? [bw,cx,gt',hg,gg]
theorem p_(ws:List Fr):(ws.map dF).map yB=ws:=by
  rw [List.map_map]
  exact List.map_id'' (fun f=>rfl) ws
theorem Cj{d:PyData}(h:cX 4 d=true):∃x y z u,d=.tuple [x,y,z,u]:=by
  cases d with
  | tuple ds=>
    rcases ds with _ | ⟨x,_ | ⟨y,_ | ⟨z,_ | ⟨u,_ | ⟨w,r⟩⟩⟩⟩⟩
    · simp [cX] at h
    · simp [cX] at h
    · simp [cX] at h
    · simp [cX] at h
    · exact⟨x,y,z,u,rfl⟩
    · exfalso
      have:((x::y::z::u::w::r).length:Int)=4:=by simpa [cX] using h
      simp only [List.length_cons] at this
      lia
  | _=>simp [cX] at h
def eF(W:bz):PyData→Bool
  | .tuple [k,b,a,o]=>(dC W.things k&&dC W.things b)&&(jx a&&dC (W.ties.length:Int) o)
  | _=>false
theorem mE{W:bz}{d:PyData}(h:cX 4 d=false):eF W d=false:=by
  unfold eF
  split
  · simp [cX] at h
  · rfl
theorem Cw{W:bz}(ok:W.Ok){d:PyData}(hs:d.showable=true):bJ [.d (aO W),.d d]=some (.d (.bool (eF W d)),[.d (aO W),.d d]):=by
  have wl:=ok.len;have t1:=ok.t1
  have g0':=Fh (W:=W)
  have g1':=Do (W:=W)
  have ql:((W.ties.map bh).length:Int)=(W.ties.length:Int):=by simp
  have tr:=lw d 4
  cases c:cX 4 d with
  | false=>
    rw [c] at tr
    rw [mE c]
    generalize aO W=WW at*
    simp? [bJ,dP,tr]
  | true=>
    rw [c] at tr
    obtain⟨x,y,z,u,rfl⟩:=Cj c
    simp only [PyData.showable] at hs
    have hs':=jN hs
    have t1:=jL (hs' x (by simp)) (n:=W.things) (by lia)
    have t2:=jL (hs' y (by simp)) (n:=W.things) (by lia)
    have t3:=lM (hs' z (by simp))
    have t4:=jL (hs' u (by simp)) (n:=(W.ties.length:Int)) (by lia)
    simp only [eF]
    generalize dC W.things x=b1 at*
    generalize dC W.things y=b2 at*
    generalize jx z=b3 at*
    generalize dC (W.ties.length:Int) u=b4 at*
    generalize W.ties.map bh=TT at*
    generalize aO W=WW at*
    cases b1<;>cases b2<;>cases b3<;>simp? [bJ,dP,tr,t1,t2,t3,t4,g0',g1',ql]
theorem eR{d:PyData}(hs:d.showable=true){n:Int}(hn:n≤65535):bv [.d d,.d (.int n)]=some (.d (.bool (dC n d)),[.d d,.d (.int n)]):=by
  have gt:=fun e=>sr (e:=e) (d:=d)
  cases c0:uS d with
  | false=>
    rw [c0] at gt
    have e:dC n d=false:=by cases d<;>first | rfl | cases c0
    rw [e]
    simp? [bv,eL,gt]
  | true=>
    rw [c0] at gt
    obtain⟨ds,rfl⟩:=l7 c0
    by_cases hl:(ds.length:Int)=n
    case neg=>
      have e:dC n (.tuple ds)=false:=by
        have:((ds.length:Int)==n)=false:=by simpa using hl
        simp only [dC,this,Bool.false_and]
      rw [e]
      have gn:∀e:En,cg true e (.d (.int ds.length)) (.d (.int n))=some (.d (.bool true)):=fun e=>by rw [eM];simp [hl]
      simp? [bv,eL,gt,gn]
    case pos=>
      have gn:∀e:En,cg true e (.d (.int ds.length)) (.d (.int n))=some (.d (.bool false)):=fun e=>by rw [eM];simp [hl]
      simp only [PyData.showable] at hs
      obtain⟨t',hf⟩:=gC (cs:=[]) (ft:=cG) (fe:=e8) (b:=fun d=> !jx d) (y:=id) ds none [] (fun x hx=>by
        have tf:=rA (jN hs x hx)
        cases cb:lR x with
        | false=>
          rw [cb] at tf
          have e:jx x=false:=by
            cases q:jx x with
            | false=>rfl
            | true=>
              obtain⟨f,rfl,hl,_⟩:=pE q
              rw [pD hl] at cb;cases cb
          rw [e]
          simp? [cG,tf]
        | true=>
          rw [cb] at tf
          obtain⟨f,rfl,fl⟩:=mF cb
          have e:jx (dF f)=decide (0≤f.1):=by
            unfold dF at cb ⊢
            simp only [jx,cb,Bool.true_and]
          rw [e]
          have gl:∀e:En,uL e (.d (.int f.1)) (.d (.int 0))=some (.d (.bool (!decide (0≤f.1)))):=fun e=>by
            rw [jY]
            congr 3
            by_cases z:f.1 < 0<;>simp [z]<;>lia
          generalize decide (0≤f.1)=bb at*
          unfold dF at*
          simp? [cG,tf,gl, -jY]) (fun x _ _=>rfl) (by simp;lia)
      have hv:=kG (cp:=[]) (nT:=1) (fi:=iF) (g:=ah 0) (ft:=cG) (fe:=e8) (e:=[some (.d (.tuple ds)),some (.d (.int n))]) (cs:=[]) (t:=[none]) (t':=[t']) (wL (fa:=ae 0) rfl) rfl rfl hf
      rw [List.nil_append,List.map_id] at hv
      have e:dC n (.tuple ds)=(ds.filter fun d=> !jx d).isEmpty:=by
        have:((ds.length:Int)==n)=true:=by simpa using hl
        simp only [dC,this,Bool.true_and]
        rw [Bool.eq_iff_iff,List.all_eq_true,List.isEmpty_iff,List.filter_eq_nil_iff]
        simp
      have ge:∀e:En,r_ false e (.l (ds.filter fun d=> !jx d)) (.l [])=some (.d (.bool (ds.filter fun d=> !jx d).isEmpty)):=fun e=>rfl
      rw [e]
      generalize (ds.filter fun d=> !jx d)=M at*
      simp? [bv,eL,gt,gn,hv,ge]
def oe(W:bz)(K B:List Fr)(A:Fr)(O:List Fr)(k:Nat):Bool:=decide (0 < (au K B A O (W.tie (k:Int)) k).1)
def vz(W:bz)(d:PyData):Bool:=match d with
  | .tuple [.tuple ks,.tuple bs,a,.tuple os]=>eF W (.tuple [.tuple ks,.tuple bs,a,.tuple os])&& !((List.range W.ties.length).any (oe W (ks.map yB) (bs.map yB) (yB a) (os.map yB)))
  | _=>false
abbrev fw(K B:List Fr)(A:Fr)(O:List Fr):PyData:=.tuple [.tuple (K.map dF),.tuple (B.map dF),dF A,.tuple (O.map dF)]
structure yD (d:PyData):Prop where
  sh:d.showable=true
  bd:∀K B A O,d=fw K B A O→∀f,(f∈K∨f∈B∨f=A∨f∈O)→Bt 350 f.1∧Bt 350 f.2
theorem p7{n:Int}{d:PyData}(h:dC n d=true):∃ws:List Fr,d=.tuple (ws.map dF)∧(ws.length:Int)=n∧∀f∈ws,lP f∧0≤f.1:=by
  cases d with
  | tuple ds=>
    simp only [dC,Bool.and_eq_true,beq_iff_eq] at h
    obtain⟨ws,rfl,hw⟩:=tN h.2
    exact⟨ws,rfl,by have:=h.1;rw [List.length_map] at this;exact this,hw⟩
  | _=>cases h
theorem tM{W:bz}{d:PyData}(hd:yD d)(h:eF W d=true):∃K B A O,d=fw K B A O∧cZ 350 W K B A O:=by
  unfold eF at h
  split at h
  · rename_i k b a o
    simp only [Bool.and_eq_true] at h
    obtain⟨⟨h1,h2⟩,h3,h4⟩:=h
    obtain⟨K,rfl,lk,hk⟩:=p7 h1
    obtain⟨B,rfl,lb,hb⟩:=p7 h2
    obtain⟨A,rfl,la,_⟩:=pE h3
    obtain⟨O,rfl,lo,ho⟩:=p7 h4
    have hq:=hd.bd K B A O rfl
    exact⟨K,B,A,O,rfl,⟨fun f hf=>⟨(hk f hf).1.pos,(hq f (.inl hf)).1,(hq f (.inl hf)).2⟩,fun f hf=>⟨(hb f hf).1.pos,(hq f (.inr (.inl hf))).1,(hq f (.inr (.inl hf))).2⟩,⟨la.pos,(hq A (.inr (.inr (.inl rfl)))).1,(hq A (.inr (.inr (.inl rfl)))).2⟩,fun f hf=>⟨(ho f hf).1.pos,(hq f (.inr (.inr (.inr hf)))).1,(hq f (.inr (.inr (.inr hf)))).2⟩,lk,lb,by lia⟩⟩
  · cases h
theorem pY{W:bz}{d:PyData}(h:eF W d=false):vz W d=false:=by
  unfold vz
  split
  · rw [h];rfl
  · rfl
theorem xI{W:bz}{K B O:List Fr}{A:Fr}(h:eF W (fw K B A O)=true):vz W (fw K B A O)= !((List.range W.ties.length).any (oe W K B A O)):=by
  have e:yB (dF A)=A:=rfl
  show(eF W (fw K B A O)&& !((List.range W.ties.length).any (oe W ((K.map dF).map yB) ((B.map dF).map yB) (yB (dF A)) ((O.map dF).map yB))))=_
  rw [h,Bool.true_and,p_,p_,p_,e]
theorem eS{W:bz}{k:Nat}(hk:k < W.ties.length):W.tie (k:Int)∈W.ties:=by
  unfold bz.tie
  rw [show((k:Int)).toNat=k by lia,List.getD_eq_getElem?_getD,List.getElem?_eq_getElem hk]
  exact List.getElem_mem hk
def DQ(W:bz)(K B:List Fr)(A:Fr)(O:List Fr):PyData→PyData
  | .tuple [.int k,_]=>.bool (oe W K B A O k.toNat)
  | _=>.none
theorem iZ{W:bz}{i:Nat}{x:PyData}(h:(eE 0 (W.ties.map bh))[i]?=some x):i < W.ties.length∧x=.tuple [.int (i:Int),bh (W.tie (i:Int))]:=by
  rw [iX,List.getElem?_map,Option.map_map] at h
  obtain⟨y,hy,rfl⟩:=Option.map_eq_some_iff.mp h
  have hl:i < W.ties.length:=(List.getElem?_eq_some_iff.mp hy).1
  refine⟨hl,?_⟩
  unfold bz.tie
  rw [show((i:Int)).toNat=i by lia,List.getD_eq_getElem?_getD,hy]
  simp
theorem jp{W:bz}(ok:W.Ok){d:PyData}(hd:yD d):bS [.d (aO W),.d d]=some (.d (.bool (vz W d)),[.d (aO W),.d d]):=by
  have wl:=ok.len
  have g1':=Do (W:=W)
  have tf:=Cw ok hd.sh
  cases c:eF W d with
  | false=>
    rw [c] at tf
    rw [pY c]
    generalize aO W=WW at*
    simp? [bS,f_,tf]
  | true=>
    rw [c] at tf
    obtain⟨K,B,A,O,rfl,hq⟩:=tM hd c
    rw [xI c]
    obtain⟨t',_,hf⟩:=jv (cs:=[some (.d (aO W)),some (.d (fw K B A O))]) (g:=c7 (aw (ah 2) (aw (ah 3) cJ))) (ft:=fY) (fe:=cm) (b:=fun _=>true) (y:=DQ W K B A O) (u:=CF) 2 (eE 0 (W.ties.map bh)) [none,none] [] rfl (fun x hx t ht=>by
        obtain⟨i,hi⟩:=List.getElem?_of_mem hx
        obtain⟨hl,rfl⟩:=iZ hi
        exact EH rfl rfl rfl t ht) (fun x hx=>by
        obtain⟨i,hi⟩:=List.getElem?_of_mem hx
        obtain⟨hl,rfl⟩:=iZ hi
        rfl) (fun x _=>rfl) (fun x hx _=>by
        obtain⟨i,hi⟩:=List.getElem?_of_mem hx
        obtain⟨hl,rfl⟩:=iZ hi
        have tp:=CA ok hq hl (p:=fw K B A O) rfl
        have tg:=Cy ok (eS hl)
        obtain⟨_,_,_,_,fp⟩:=dI ok hq (eS hl) hl
        have tl:=Ac (n:=3000) (fp.mono (by decide)) ((mQ ok (eS hl)).mono (by decide)) (by decide)
        have ei:=xq ok hq (eS hl) hl
        rw [show decide ((gL K B A O (W.tie (i:Int)) i).1*(bV (W.tie (i:Int))).2 < (bV (W.tie (i:Int))).1*(gL K B A O (W.tie (i:Int)) i).2)=oe W K B A O i from by unfold oe;exact decide_eq_decide.mpr ei] at tl
        show cm [some (.d (aO W)),some (.d (fw K B A O)),some (.d (.int (i:Int))),some (.d (bh (W.tie (i:Int))))]=some (.d (.bool (oe W K B A O ((i:Int)).toNat)),[some (.d (aO W)),some (.d (fw K B A O)),some (.d (.int (i:Int))),some (.d (bh (W.tie (i:Int))))])
        rw [Int.toNat_natCast]
        generalize oe W K B A O i=bb at*
        generalize dF (gL K B A O (W.tie (i:Int)) i)=PP at*
        generalize dF (bV (W.tie (i:Int)))=GG at*
        generalize bh (W.tie (i:Int))=TT at*
        generalize fw K B A O=DD at*
        generalize aO W=WW at*
        simp? [cm,tp,tg,tl]) (by rw [eW];simp;lia)
    have hi:dc [some (.d (aO W)),some (.d (fw K B A O))]=some (eE 0 (W.ties.map bh),[],[some (.d (aO W)),some (.d (fw K B A O))]):=by
      generalize W.ties.map bh=TT at*
      generalize fw K B A O=DD at*
      generalize aO W=WW at*
      simp? [dc,tS,yk,g1']
    have hv:=kG (cp:=[(0,"web"),(1,"thing")]) (nT:=2) (fi:=dc) (g:=c7 (aw (ah 2) (aw (ah 3) cJ))) (ft:=fY) (fe:=cm) (cs:=[some (.d (aO W)),some (.d (fw K B A O))]) (t:=[none,none]) (t':=t') hi rfl rfl hf
    rw [List.nil_append,oB] at hv
    have em:(eE 0 (W.ties.map bh)).map (DQ W K B A O)=(List.range W.ties.length).map fun k=>PyData.bool (oe W K B A O k):=by
      refine List.ext_getElem? fun i=>?_
      rw [List.getElem?_map,List.getElem?_map]
      by_cases hl:i < W.ties.length
      · have:(eE 0 (W.ties.map bh))[i]?=some ((eE 0 (W.ties.map bh))[i]'(by rw [eW];simpa using hl)):=List.getElem?_eq_getElem _
        rw [this,(iZ this).2,List.getElem?_range hl]
        show some (PyData.bool (oe W K B A O ((i:Int)).toNat))=_
        rw [Int.toNat_natCast];rfl
      · rw [List.getElem?_eq_none (by rw [eW];simpa using hl),List.getElem?_eq_none (by simpa using hl)]
        rfl
    rw [em] at hv
    have ga:=fun e=>wu (e:=e) (oe W K B A O) (List.range W.ties.length)
    generalize (List.range W.ties.length).any (oe W K B A O)=bb at*
    generalize ((List.range W.ties.length).map fun k=>PyData.bool (oe W K B A O k))=M at*
    generalize fw K B A O=DD at*
    generalize aO W=WW at*
    simp? [bS,f_,tf,hv,ga]
theorem Ad{W:bz}(ok:W.Ok){d:PyData}(hd:yD d):fU [.d (aO W),.d d]=some (.d (.bool (vz W d)),[.d (aO W),.d d]):=by
  have wl:=ok.len;have th:=ok.t1
  have g0':=Fh (W:=W)
  have g1':=Do (W:=W)
  have gt:=fun e=>sr (e:=e) (d:=d)
  have ql:((W.ties.map bh).length:Int)=(W.ties.length:Int):=by simp
  have hs:=hd.sh
  cases c0:uS d with
  | false=>
    rw [c0] at gt
    have e:vz W d=false:=pY (mE (by cases d<;>first | rfl | cases c0))
    rw [e]
    generalize aO W=WW at*
    simp? [fU,jP,gt]
  | true=>
    rw [c0] at gt
    cases c:cX 4 d with
    | false=>
      obtain⟨ds,rfl⟩:=l7 c0
      have c':((ds.length:Int)==4)=false:=c
      have gn:∀e:En,cg true e (.d (.int ds.length)) (.d (.int 4))=some (.d (.bool true)):=fun e=>by rw [eM,c'];rfl
      rw [pY (mE c)]
      generalize aO W=WW at*
      simp? [fU,jP,gt,gn]
    | true=>
      obtain⟨x,y,z,u,rfl⟩:=Cj c
      simp only [PyData.showable] at hs
      have hs':=jN hs
      have t1:=eR (hs' x (by simp)) (n:=W.things) (by lia)
      have t2:=eR (hs' y (by simp)) (n:=W.things) (by lia)
      have t3:=eR (d:=.tuple [z]) (n:=1) (by simp only [PyData.showable,PyData.showableAll,hs' z (by simp),Bool.and_true]) (by decide)
      have t4:=eR (hs' u (by simp)) (n:=(W.ties.length:Int)) (by lia)
      have e3:dC 1 (.tuple [z])=jx z:=by simp [dC]
      rw [e3] at t3
      have gn:∀e:En,cg true e (.d (.int (([x,y,z,u]:List PyData).length:Int))) (.d (.int 4))=some (.d (.bool false)):=fun e=>by rw [eM];rfl
      have ef:eF W (.tuple [x,y,z,u])=((dC W.things x&&dC W.things y)&&(jx z&&dC (W.ties.length:Int) u)):=rfl
      cases cf:eF W (.tuple [x,y,z,u]) with
      | false=>
        rw [pY cf]
        rw [ef] at cf
        generalize dC W.things x=b1 at*
        generalize dC W.things y=b2 at*
        generalize jx z=b3 at*
        generalize dC (W.ties.length:Int) u=b4 at*
        generalize W.ties.map bh=TT at*
        generalize aO W=WW at*
        cases b1<;>cases b2<;>cases b3<;>cases b4<;>first | exact absurd cf (by decide) | simp? [fU,jP,gt,gn,t1,t2,t3,t4,g0',g1',ql]
      | true=>
        have cf':=cf
        rw [ef] at cf'
        simp only [Bool.and_eq_true] at cf'
        obtain⟨⟨k1,k2⟩,k3,k4⟩:=cf'
        rw [k1] at t1
        rw [k2] at t2
        rw [k3] at t3
        rw [k4] at t4
        obtain⟨K,B,A,O,hp,hq⟩:=tM hd cf
        have pi:=xI (W:=W) (K:=K) (B:=B) (A:=A) (O:=O) (by rw [←hp];exact cf)
        rw [←hp] at pi
        rw [pi]
        obtain⟨t',hf⟩:=gC (cs:=[some (.d (aO W)),some (.d (.tuple [x,y,z,u]))]) (ft:=gB) (fe:=kR) (b:=fun v=>match v with | .int k=>oe W K B A O k.toNat | _=>false) (y:=fun x=>x) (ba 0 W.ties.length) none [] (fun v hv=>by
          obtain⟨i,hi⟩:=List.getElem?_of_mem hv
          obtain⟨rfl,hlt⟩:=dk hi
          rw [Int.zero_add]
          have tl:=oZ ok hq (b1:=false) (b2:=false) (b3:=false) hlt (p:=.tuple [x,y,z,u]) hp
          show gB [some (.d (aO W)),some (.d (.tuple [x,y,z,u])),some (.d (.int (i:Int)))]=some (oe W K B A O ((i:Int)).toNat,[some (.d (aO W)),some (.d (.tuple [x,y,z,u])),some (.d (.int (i:Int)))])
          rw [Int.toNat_natCast]
          have gg:∀e:En,tQ e (.d (.int (au K B A O (W.tie (i:Int)) i).1)) (.d (.int 0))=some (.d (.bool (oe W K B A O i))):=fun e=>du
          have gi:∀e:En,bg e (.d (dF (au K B A O (W.tie (i:Int)) i))) (.d (.int 0))=some (.d (.int (au K B A O (W.tie (i:Int)) i).1)):=fun e=>rfl
          generalize oe W K B A O i=bb at*
          generalize dF (au K B A O (W.tie (i:Int)) i)=LL at*
          generalize (au K B A O (W.tie (i:Int)) i).1=L1 at*
          generalize PyData.tuple [x,y,z,u]=DD at*
          generalize aO W=WW at*
          simp? [gB,tl,gi,gg, -du]) (fun x hx _=>rfl) (by simp [ck];lia)
        have hi:∀r,kY (some (.d (aO W))::r)=some (ba 0 W.ties.length,[],some (.d (aO W))::r):=fun r=>by
          have:=dj (fs:=aa (aZ (g1 ff) (aa (ao bg (ae 0) (vC (.int 1))) ag)) ag) (e:=some (.d (aO W))::r) (e1:=some (.d (aO W))::r) (n:=(W.ties.length:Int)) (by simp? [g1']) (by lia) (by lia)
          rw [Int.toNat_natCast] at this
          exact this
        have hv:=fun r=>kG (cp:=[(0,"_law_web_here"),(1,"_law_thing")]) (nT:=1) (fi:=kY) (g:=ah 2) (ft:=gB) (fe:=kR) (cs:=[some (.d (aO W)),some (.d (.tuple [x,y,z,u]))]) (t:=[none]) (t':=[t']) (hi (some (.d (.tuple [x,y,z,u]))::r)) rfl rfl hf
        have em:((ba 0 W.ties.length).filter (fun v=>match v with | .int k=>oe W K B A O k.toNat | _=>false)).isEmpty= !((List.range W.ties.length).any (oe W K B A O)):=by
          rw [Bool.eq_iff_iff,List.isEmpty_iff,List.filter_eq_nil_iff,Bool.not_eq_true',List.any_eq_false]
          constructor
          · intro h i hi
            have:=h (.int (i:Int)) (by unfold ba;exact List.mem_map.mpr ⟨i,hi,by rw [Int.zero_add]⟩)
            simpa using this
          · intro h v hv
            unfold ba at hv
            obtain⟨i,hi,rfl⟩:=List.mem_map.mp hv
            have:=h i hi
            simpa using this
        rw [←em]
        simp only [List.nil_append,List.map_id'] at hv
        have ge:∀(e:En) (M:List PyData),r_ false e (.l M) (.l [])=some (.d (.bool M.isEmpty)):=fun e M=>rfl
        generalize ((ba 0 W.ties.length).filter (fun v=>match v with | .int k=>oe W K B A O k.toNat | _=>false))=M at*
        generalize W.ties.map bh=TT at*
        generalize aO W=WW at*
        simp? [fU,jP,gt,gn,t1,t2,t3,t4,g0',g1',ql,hv,ge]
structure PO (D V:Int) (f:Fr):Prop where
  low:lP f
  ge:0≤vR f
  le:vR f≤(V:Rat)
  dn:∃u:Int,vR f*(D:Rat)=(u:Rat)
theorem sY{f:Fr}(h:0 < f.2):vR f*(f.2:Rat)=(f.1:Rat):=by
  unfold vR
  have:=bU h
  grind
theorem dR{a:Int}(h:0 < a):(0:Rat) < (a:Rat):=by exact_mod_cast h
theorem PO.mono{D V V':Int}{f:Fr}(h:PO D V f)(m:Int)(hv:V≤V'):PO (D*m) V' f:=by
  obtain⟨u,hu⟩:=h.dn
  refine⟨h.low,h.ge,?_,u*m,?_⟩
  · have:(V:Rat)≤(V':Rat):=by exact_mod_cast hv
    exact Rat.le_trans h.le this
  · rw [Rat.intCast_mul,Rat.intCast_mul,←hu];grind
theorem PO.bits{D V:Int}{f:Fr}(h:PO D V f)(hD:0 < D)(hb:Bt 230 D)(hV:V≤20000):FQ 250 f∧0≤f.1:=by
  obtain⟨u,hu⟩:=h.dn
  have p:=h.low.pos
  have e:=sY p
  have p':=dR p
  have e2:f.1*D=f.2*u:=by
    have:(f.1:Rat)*(D:Rat)=(f.2:Rat)*(u:Rat):=by rw [←e,←hu];grind
    exact_mod_cast this
  have dv:f.2 ∣ D:=by
    have c:Nat.Coprime f.2.natAbs f.1.natAbs:=by
      have:=h.low.cop
      rw [Int.gcd_comm] at this
      exact this
    have d2:f.2.natAbs ∣ f.1.natAbs*D.natAbs:=by
      rw [←Int.natAbs_mul]
      exact Int.natAbs_dvd_natAbs.mpr ⟨u,e2⟩
    exact Int.natAbs_dvd_natAbs.mp (c.dvd_of_dvd_mul_left d2)
  have le:=Int.le_of_dvd hD dv
  have n0:0≤f.1:=by
    have:=Rat.mul_nonneg h.ge (Rat.le_of_lt p')
    rw [e] at this
    exact_mod_cast this
  have up:f.1≤V*f.2:=by
    have:(f.1:Rat)≤(V:Rat)*(f.2:Rat):=by rw [←e];exact Rat.mul_le_mul_of_nonneg_right h.le (Rat.le_of_lt p')
    exact_mod_cast this
  have b2:Bt 230 f.2:=hb.of_le (by lia)
  have v2:Bt 15 (20000:Int):=by unfold Bt;decide
  refine⟨⟨p,((v2.mul b2).mono (n:=250) (by decide)).of_le ?_,b2.mono (by decide)⟩,n0⟩
  have:V*f.2≤20000*f.2:=Int.mul_le_mul_of_nonneg_right hV (by lia)
  lia
theorem nu{D:Int}{i:Nat}(h0:0 < D)(h:D≤2520*10000 ^ i)(hi:i≤16):Bt 230 D:=by
  have h1:(10000:Int) ^ i≤10000 ^ 16:=by exact_mod_cast Nat.pow_le_pow_right (n:=10000) (by decide) hi
  have h2:D≤2520*10000 ^ 16:=Int.le_trans h (Int.mul_le_mul_of_nonneg_left h1 (by decide))
  have h3:Bt 230 (2520*10000 ^ 16:Int):=by unfold Bt;decide
  exact h3.of_le (by lia)
structure PI (W:bz) (i:Nat) (K B:List Fr) (A:Fr) (O:List Fr):Prop where
  ex:∃D:Int,0 < D∧D≤2520*10000 ^ i∧∀f,(f∈K∨f∈B∨f=A∨f∈O)→PO D (40+1000*i) f
  lk:(K.length:Int)=W.things
  lb:(B.length:Int)=W.things
  lo:O.length=W.ties.length
  zr:∀j:Nat,i≤j→a_ O j=(0,1)
  dn:∀j:Nat,j < i→j < W.ties.length→vR (au K B A O (W.tie (j:Int)) j)≤0
theorem PI.rows{W:bz}{i:Nat}{K B O:List Fr}{A:Fr}(h:PI W i K B A O)(hi:i≤16):cZ 250 W K B A O∧∀f,(f∈K∨f∈B∨f=A∨f∈O)→lP f∧0≤f.1:=by
  obtain⟨D,d0,d1,hp⟩:=h.ex
  have b:=nu d0 d1 hi
  have q:=fun f hf=>(hp f hf).bits d0 b (by lia)
  exact⟨⟨fun f hf=>(q f (.inl hf)).1,fun f hf=>(q f (.inr (.inl hf))).1,(q A (.inr (.inr (.inl rfl)))).1,fun f hf=>(q f (.inr (.inr (.inr hf)))).1,h.lk,h.lb,h.lo⟩,fun f hf=>⟨(hp f hf).low,(q f hf).2⟩⟩
theorem cZ.mono{n m:Nat}{W:bz}{K B O:List Fr}{A:Fr}(h:cZ n W K B A O)(hm:n≤m):cZ m W K B A O:=⟨fun f hf=>(h.k f hf).mono hm,fun f hf=>(h.b f hf).mono hm,h.a.mono hm,fun f hf=>(h.o f hf).mono hm,h.lk,h.lb,h.lo⟩
theorem eP{L:List Fr}{i:Int}(h0:0≤i)(h1:i < (L.length:Int)):a_ L i∈L:=by
  have h2:i.toNat < L.length:=by lia
  unfold a_
  rw [List.getD_eq_getElem?_getD,List.getElem?_eq_getElem h2]
  exact List.getElem_mem h2
theorem hU{L:List Fr}{i j:Int}{f:Fr}(h0:0≤i)(h1:i < (L.length:Int))(j0:0≤j):a_ (L.set i.toNat f) j=if i=j then f else a_ L j:=by
  unfold a_
  rw [List.getD_eq_getElem?_getD,List.getD_eq_getElem?_getD]
  by_cases e:i=j
  · subst e
    rw [if_pos rfl,List.getElem?_set_self (by lia)];rfl
  · rw [if_neg e,List.getElem?_set_ne (by lia)]
theorem mV{W:bz}(ok:W.Ok){i:Nat}{K B O:List Fr}{A:Fr}(hi:i < W.ties.length){D V:Int}(d0:0 < D)(hr:cZ 250 W K B A O)(hp:∀f,(f∈K∨f∈B∨f=A∨f∈O)→PO D V f)(hl:0 < (au K B A O (W.tie (i:Int)) i).1):
    0 < (W.tie (i:Int)).top∧0 < (W.tie (i:Int)).bot∧vR (ie (W.tie (i:Int)))*((W.tie (i:Int)).bot:Rat)=((W.tie (i:Int)).top:Rat)∧0 < vR (au K B A O (W.tie (i:Int)) i)∧vR (au K B A O (W.tie (i:Int)) i)≤vR (ie (W.tie (i:Int)))*1000∧vR (au K B A O (W.tie (i:Int)) i)≤1000∧
      (∃u:Int,vR (au K B A O (W.tie (i:Int)) i)*((D*(W.tie (i:Int)).bot:Int):Rat)=(u:Rat)):=by
  have ht:=eS hi
  have o:=ok.ties _ ht
  obtain⟨e1,l2,_,_,_⟩:=dI ok hr ht hi
  have hv:0 < vR (au K B A O (W.tie (i:Int)) i):=(rJ l2).mpr hl
  have lo:=hr.lo;have lk:=hr.lk;have lb:=hr.lb
  have o0:=o.o0;have o1:=o.o1;have o2:=o.o2
  have P1:=hp _ (.inl (eP (L:=K) (i:=(W.tie (i:Int)).one) (by lia) (by lia)))
  have P2:=hp _ (.inl (eP (L:=K) (i:=(W.tie (i:Int)).other) (by lia) (by lia)))
  have P3:=hp _ (.inr (.inl (eP (L:=B) (i:=(W.tie (i:Int)).one) (by lia) (by lia))))
  have P4:=hp _ (.inr (.inl (eP (L:=B) (i:=(W.tie (i:Int)).other) (by lia) (by lia))))
  have P5:=hp A (.inr (.inr (.inl rfl)))
  have P6:=hp _ (.inr (.inr (.inr (eP (L:=O) (i:=(i:Int)) (by lia) (by lia)))))
  generalize W.tie (i:Int)=t at*
  have b0:0 < t.bot:=by have:=o.b0;lia
  have ec:vR (ie t)*(t.bot:Rat)=(t.top:Rat):=sY (f:=ie t) b0
  have eg:vR (bV t)=vR (ie t)*(t.worth:Rat):=by
    unfold bV
    rw [AL (qp ok ht).pos (ic ok ht).pos,qc]
  have c0:0≤vR (ie t):=by
    have:=Rat.not_lt.mp fun z:vR (ie t) < 0=>by
      have q:0 < - vR (ie t):=by grind
      have:=Rat.mul_pos q (dR b0)
      have q2:(0:Rat)≤(t.top:Rat):=by exact_mod_cast o.c0
      have q3: - vR (ie t)*(t.bot:Rat)= - (t.top:Rat):=by rw [←ec];grind
      rw [q3] at this
      grind
    exact this
  have c1:vR (ie t)≤1:=by
    refine Rat.not_lt.mp fun z=>?_
    have q:0 < vR (ie t) - 1:=by grind
    have:=Rat.mul_pos q (dR b0)
    have q2:(t.top:Rat)≤(t.bot:Rat):=by exact_mod_cast o.c1
    have q3:(vR (ie t) - 1)*(t.bot:Rat)=(t.top:Rat) - (t.bot:Rat):=by rw [←ec];grind
    rw [q3] at this
    grind
  have w1:(t.worth:Rat)≤1000:=by exact_mod_cast o.w1
  have w0:(0:Rat)≤(t.worth:Rat):=by exact_mod_cast o.w0
  have m1:vR (ie t)*(t.worth:Rat)≤vR (ie t)*1000:=Rat.mul_le_mul_of_nonneg_left w1 c0
  have m2:0≤vR (ie t)*(vR (a_ K t.one)+vR (a_ K t.other)):=Rat.mul_nonneg c0 (by have:=P1.ge;have:=P2.ge;grind)
  have lc:vR (au K B A O t i)≤vR (ie t)*1000:=by
    rw [e1,eg]
    have:=P3.ge;have:=P4.ge;have:=P5.ge;have:=P6.ge
    grind
  have tp:0 < t.top:=by
    rcases Int.lt_or_le 0 t.top with z | z
    · exact z
    · exfalso
      have z':t.top=0:=by have:=o.c0;lia
      rw [z'] at ec
      have q:vR (ie t)=0:=by
        have hb:=bU b0
        have:vR (ie t)*(t.bot:Rat)=0:=by rw [ec];rfl
        grind
      rw [q] at lc
      grind
  refine⟨tp,b0,ec,hv,lc,by grind,?_⟩
  obtain⟨u1,h1⟩:=P1.dn
  obtain⟨u2,h2⟩:=P2.dn
  obtain⟨u3,h3⟩:=P3.dn
  obtain⟨u4,h4⟩:=P4.dn
  obtain⟨u5,h5⟩:=P5.dn
  obtain⟨u6,h6⟩:=P6.dn
  refine⟨D*(t.top*t.worth) - t.top*(u1+u2) - t.bot*(u3+u4+u5+u6),?_⟩
  simp only [Rat.intCast_sub,Rat.intCast_mul,Rat.intCast_add]
  rw [e1,eg,←h1,←h2,←h3,←h4,←h5,←h6,←ec]
  generalize vR (ie t)=c at*
  generalize (t.bot:Rat)=b at*
  generalize (D:Rat)=d at*
  generalize (t.worth:Rat)=w at*
  generalize vR (a_ K t.one)=x1 at*
  generalize vR (a_ K t.other)=x2 at*
  generalize vR (a_ B t.one)=x3 at*
  generalize vR (a_ B t.other)=x4 at*
  generalize vR A=x5 at*
  generalize vR (a_ O i)=x6 at*
  clear h1 h2 h3 h4 h5 h6 m1 m2 lc e1
  grind
theorem yZ{W:bz}(ok:W.Ok){n m:Nat}{K B O K' B' O':List Fr}{A:Fr}(h:cZ n W K B A O)(h':cZ m W K' B' A O')(hk:∀j:Int,0≤j→vR (a_ K j)≤vR (a_ K' j))(hb:∀j:Int,0≤j→vR (a_ B j)≤vR (a_ B' j))(ho:∀j:Int,0≤j→vR (a_ O j)≤vR (a_ O' j)){k:Nat}(hlt:k < W.ties.length):
    vR (au K' B' A O' (W.tie (k:Int)) k)≤vR (au K B A O (W.tie (k:Int)) k):=by
  have ht:=eS hlt
  have o:=ok.ties _ ht
  have o0:=o.o0;have o1:=o.o1
  rw [(dI ok h ht hlt).1,(dI ok h' ht hlt).1]
  generalize W.tie (k:Int)=t at*
  have b0:0 < t.bot:=by have:=o.b0;lia
  have ec:vR (ie t)*(t.bot:Rat)=(t.top:Rat):=sY (f:=ie t) b0
  have c0:0≤vR (ie t):=by
    have:=Rat.not_lt.mp fun z:vR (ie t) < 0=>by
      have q:0 < - vR (ie t):=by grind
      have:=Rat.mul_pos q (dR b0)
      have q2:(0:Rat)≤(t.top:Rat):=by exact_mod_cast o.c0
      have q3: - vR (ie t)*(t.bot:Rat)= - (t.top:Rat):=by rw [←ec];grind
      rw [q3] at this
      grind
    exact this
  have m1:vR (ie t)*(vR (a_ K t.one)+vR (a_ K t.other))≤vR (ie t)*(vR (a_ K' t.one)+vR (a_ K' t.other)):=Rat.mul_le_mul_of_nonneg_left (by have:=hk t.one (by lia);have:=hk t.other (by lia);grind) c0
  have:=hb t.one (by lia)
  have:=hb t.other (by lia)
  have:=ho k (by lia)
  grind
theorem PI.stay{W:bz}{i:Nat}{K B O:List Fr}{A:Fr}(h:PI W i K B A O)(hl:¬0 < vR (au K B A O (W.tie (i:Int)) i)):PI W (i+1) K B A O:=by
  obtain⟨D,d0,d1,hp⟩:=h.ex
  refine⟨⟨D,d0,?_,fun f hf=>by have:=(hp f hf).mono 1 (V':=40+1000*((i+1:Nat):Int)) (by lia);rwa [Int.mul_one] at this⟩,h.lk,h.lb,h.lo,fun j hj=>h.zr j (by lia),fun j hj hlt=>?_⟩
  · have:(10000:Int) ^ i≤10000 ^ (i+1):=by exact_mod_cast Nat.pow_le_pow_right (n:=10000) (by decide) (by lia)
    lia
  · by_cases z:j=i
    · subst z;exact Rat.not_lt.mp hl
    · exact h.dn j (by lia) hlt
theorem PI.up{W:bz}(ok:W.Ok){i:Nat}{K B O K' B' O':List Fr}{A:Fr}(hi:i < W.ties.length)(h:PI W i K B A O){D':Int}(d0:0 < D')(d1:D'≤2520*10000 ^ (i+1))(hp:∀f,(f∈K'∨f∈B'∨f=A∨f∈O')→PO D' (40+1000*(i+1:Nat)) f)
    (lk:K'.length=K.length)(lb:B'.length=B.length)(lo:O'.length=O.length)(hk:∀j:Int,0≤j→vR (a_ K j)≤vR (a_ K' j))(hb:∀j:Int,0≤j→vR (a_ B j)≤vR (a_ B' j))(ho:∀j:Int,0≤j→vR (a_ O j)≤vR (a_ O' j))(hz:∀j:Nat,i+1≤j→a_ O' j=(0,1))(hl:vR (au K' B' A O' (W.tie (i:Int)) i)≤0):PI W (i+1) K' B' A O':=by
  have wl:=ok.len
  have r1:=(h.rows (by lia)).1
  have b:=nu d0 d1 (by lia)
  have q:=fun f hf=>(hp f hf).bits d0 b (by lia)
  have r2:cZ 250 W K' B' A O':=⟨fun f hf=>(q f (.inl hf)).1,fun f hf=>(q f (.inr (.inl hf))).1,(q A (.inr (.inr (.inl rfl)))).1,fun f hf=>(q f (.inr (.inr (.inr hf)))).1,by rw [lk];exact h.lk,by rw [lb];exact h.lb,by rw [lo];exact h.lo⟩
  refine⟨⟨D',d0,d1,hp⟩,r2.lk,r2.lb,r2.lo,hz,fun j hj hlt=>?_⟩
  by_cases z:j=i
  · subst z;exact hl
  · exact Rat.le_trans (yZ ok r1 r2 hk hb ho hlt) (h.dn j (by lia) hlt)
def iI(l:Fr)(t:iA):Fr:=lowM (l.1*t.bot) (l.2*t.top)
theorem i9{L:List Fr}{n:Nat}{f g:Fr}(h:f∈L.set n g):f∈L∨f=g:=by
  rcases List.mem_or_eq_of_mem_set h with h | h
  · exact .inl h
  · exact .inr h
theorem sQ{L:List Fr}{i:Int}{f:Fr}(h0:0≤i)(h1:i < (L.length:Int))(hf:vR (a_ L i)≤vR f):∀j:Int,0≤j→vR (a_ L j)≤vR (a_ (L.set i.toNat f) j):=fun j hj=>by
  rw [hU h0 h1 hj]
  split
  · rename_i e;subst e;exact hf
  · exact Rat.le_refl
theorem EW{D:Int}{i:Nat}{t b:Int}(h1:D≤2520*10000 ^ i)(d0:0 < D)(t0:0 < t)(t1:t≤100)(b0:0 < b)(b1:b≤100):0 < D*(b*t)∧D*(b*t)≤2520*10000 ^ (i+1):=by
  have p:0 < b*t:=Int.mul_pos b0 t0
  have q:b*t≤100*100:=Int.mul_le_mul b1 t1 (by lia) (by decide)
  refine⟨Int.mul_pos d0 p,?_⟩
  have:D*(b*t)≤(2520*10000 ^ i)*10000:=Int.mul_le_mul h1 q (by lia) (by lia)
  rw [Int.pow_succ]
  lia
theorem PI.ways{W:bz}(ok:W.Ok){i:Nat}{K B O:List Fr}{A:Fr}(hi:i < W.ties.length)(h:PI W i K B A O)(hl:0 < (au K B A O (W.tie (i:Int)) i).1):
    PI W (i+1) K B A (O.set i (au K B A O (W.tie (i:Int)) i))∧PI W (i+1) (K.set (W.tie (i:Int)).one.toNat (pl (a_ K (W.tie (i:Int)).one) (iI (au K B A O (W.tie (i:Int)) i) (W.tie (i:Int))))) B A O∧
      PI W (i+1) K (B.set (W.tie (i:Int)).other.toNat (pl (a_ B (W.tie (i:Int)).other) (au K B A O (W.tie (i:Int)) i))) A O:=by
  have wl:=ok.len
  obtain⟨D,d0,d1,hp⟩:=h.ex
  have hr:=(h.rows (by lia)).1
  obtain⟨tp,bp,ec,lv,lc,l1000,u,hu⟩:=mV ok hi d0 hr hp hl
  have ht:=eS hi
  obtain⟨e1,l2,_,_,_⟩:=dI ok hr ht hi
  have o:=ok.ties _ ht
  have o0:=o.o0;have o1:=o.o1;have o2:=o.o2
  have lk:=h.lk;have lb:=h.lb;have lo:=h.lo
  have z0:=h.zr i (Nat.le_refl _)
  have k1:=eP (L:=K) (i:=(W.tie (i:Int)).one) (by lia) (by lia)
  have k4:=eP (L:=B) (i:=(W.tie (i:Int)).other) (by lia) (by lia)
  have P1:=hp _ (.inl k1)
  have P4:=hp _ (.inr (.inl k4))
  obtain⟨D0,D1⟩:=EW d1 d0 tp (by have:=o.c1;have:=o.b1;lia) bp o.b1
  have hp':=fun f hf=>(hp f hf).mono ((W.tie (i:Int)).bot*(W.tie (i:Int)).top) (V':=40+1000*((i+1:Nat):Int)) (by lia)
  have lL:lP (au K B A O (W.tie (i:Int)) i):=by
    unfold au j7
    exact lP.lowM (Int.mul_pos (hJ (hJ (hJ (hJ (mQ ok ht).pos (j2 ok hr ht).2.2.2.2) (j2 ok hr ht).2.2.1.pos) (j2 ok hr ht).2.2.2.1.pos) hr.a.pos) (eG hr.o (by lia) (by lia)).pos)
  have Vc:(1000:Rat)≤((40+1000*((i+1:Nat):Int):Int):Rat):=by
    have:(1000:Int)≤40+1000*((i+1:Nat):Int):=by lia
    exact_mod_cast this
  have Vs:((40+1000*(i:Int):Int):Rat)+1000=((40+1000*((i+1:Nat):Int):Int):Rat):=by
    have:(40+1000*(i:Int))+1000=40+1000*((i+1:Nat):Int):=by lia
    have e:(((40+1000*(i:Int))+1000:Int):Rat)=((40+1000*(i:Int):Int):Rat)+((1000:Int):Rat):=Rat.intCast_add _ _
    rw [←this,e];rfl
  have PL:PO (D*((W.tie (i:Int)).bot*(W.tie (i:Int)).top)) (40+1000*((i+1:Nat):Int)) (au K B A O (W.tie (i:Int)) i):=by
    refine⟨lL,Rat.le_of_lt lv,Rat.le_trans l1000 Vc,u*(W.tie (i:Int)).top,?_⟩
    rw [Rat.intCast_mul u,←hu]
    simp only [Rat.intCast_mul]
    grind
  have hin:vR (iI (au K B A O (W.tie (i:Int)) i) (W.tie (i:Int)))=vR (au K B A O (W.tie (i:Int)) i)*((W.tie (i:Int)).bot:Rat) / ((W.tie (i:Int)).top:Rat):=by
    unfold iI
    rw [qd (Int.mul_pos l2 tp)]
    unfold vR
    simp only [Rat.intCast_mul]
    have:=bU l2
    have:=bU tp
    grind
  have ip:0 < (iI (au K B A O (W.tie (i:Int)) i) (W.tie (i:Int))).2:=(lP.lowM (Int.mul_pos l2 tp)).pos
  generalize hL:au K B A O (W.tie (i:Int)) i=L at*
  generalize hT:W.tie (i:Int)=t at*
  have tn:=bU tp
  have bn:=bU bp
  have tR:=dR tp
  have bR:=dR bp
  have q0:0≤vR (iI L t):=by
    refine Rat.not_lt.mp fun z=>?_
    have z1:0 < - vR (iI L t):=by grind
    have z2:=Rat.mul_pos z1 tR
    have z3:=Rat.mul_pos lv bR
    have z4: - vR (iI L t)*(t.top:Rat)= - (vR L*(t.bot:Rat)):=by rw [hin];grind
    rw [z4] at z2
    grind
  have q1:vR (iI L t)≤1000:=by
    refine Rat.not_lt.mp fun z=>?_
    have z1:0 < vR (iI L t) - 1000:=by grind
    have z2:=Rat.mul_pos z1 tR
    have z4:(vR (iI L t) - 1000)*(t.top:Rat)=(vR L - vR (ie t)*1000)*(t.bot:Rat):=by rw [hin,←ec];grind
    have z5:(vR L - vR (ie t)*1000)*(t.bot:Rat)≤0:=by
      have y1:0≤vR (ie t)*1000 - vR L:=by grind
      have y2:=Rat.mul_nonneg y1 (Rat.le_of_lt bR)
      grind
    rw [z4] at z2
    grind
  refine⟨?_,?_,?_⟩
  · have is:(i:Int).toNat=i:=by lia
    refine h.up ok hi D0 D1 (fun f hf=>?_) rfl rfl (by simp) (fun _ _=>Rat.le_refl) (fun _ _=>Rat.le_refl) ?_ (fun j hj=>?_) ?_
    · rcases hf with hf | hf | hf | hf
      · exact hp' f (.inl hf)
      · exact hp' f (.inr (.inl hf))
      · exact hp' f (.inr (.inr (.inl hf)))
      · rcases i9 hf with hf | rfl
        · exact hp' f (.inr (.inr (.inr hf)))
        · exact PL
    · have:=sQ (L:=O) (i:=(i:Int)) (f:=L) (by lia) (by lia) (by rw [z0,CN];exact Rat.le_of_lt lv)
      rwa [is] at this
    · have:=hU (L:=O) (i:=(i:Int)) (j:=(j:Int)) (f:=L) (by lia) (by lia) (by lia)
      rw [is,if_neg (by lia)] at this
      rw [this];exact h.zr j (by lia)
    · have hr':cZ 400 W K B A (O.set i L):=⟨fun f hf=>(hr.k f hf).mono (by decide),fun f hf=>(hr.b f hf).mono (by decide),hr.a.mono (by decide),fun f hf=>by
        rcases i9 hf with hf | rfl
        · exact(hr.o f hf).mono (by decide)
        · exact((PL.bits D0 (nu D0 D1 (by lia)) (by lia)).1).mono (by decide),hr.lk,hr.lb,by rw [List.length_set];exact hr.lo⟩
      rw [hT,(dI ok hr' ht hi).1]
      have:=hU (L:=O) (i:=(i:Int)) (j:=(i:Int)) (f:=L) (by lia) (by lia) (by lia)
      rw [is,if_pos rfl] at this
      rw [this]
      rw [z0,CN] at e1
      grind
  · have PK:PO (D*(t.bot*t.top)) (40+1000*((i+1:Nat):Int)) (pl (a_ K t.one) (iI L t)):=by
      have ev:=iU P1.low.pos ip
      obtain⟨u1,h1⟩:=P1.dn
      refine⟨lP.pl P1.low.pos ip,by rw [ev];have:=P1.ge;grind,?_,u1*(t.bot*t.top)+u*t.bot,?_⟩
      · rw [ev,←Vs];have:=P1.le;grind
      · rw [ev,hin]
        simp only [Rat.intCast_mul,Rat.intCast_add] at hu ⊢
        rw [←h1,←hu]
        grind
    have ev:=iU P1.low.pos ip
    refine h.up ok hi D0 D1 (fun f hf=>?_) (by simp) rfl rfl (sQ (by lia) (by lia) (by rw [ev];grind)) (fun _ _=>Rat.le_refl) (fun _ _=>Rat.le_refl) (fun j hj=>h.zr j (by lia)) ?_
    · rcases hf with hf | hf | hf | hf
      · rcases i9 hf with hf | rfl
        · exact hp' f (.inl hf)
        · exact PK
      · exact hp' f (.inr (.inl hf))
      · exact hp' f (.inr (.inr (.inl hf)))
      · exact hp' f (.inr (.inr (.inr hf)))
    · have hr':cZ 400 W (K.set t.one.toNat (pl (a_ K t.one) (iI L t))) B A O:=⟨fun f hf=>by
        rcases i9 hf with hf | rfl
        · exact(hr.k f hf).mono (by decide)
        · exact((PK.bits D0 (nu D0 D1 (by lia)) (by lia)).1).mono (by decide),fun f hf=>(hr.b f hf).mono (by decide),hr.a.mono (by decide),fun f hf=>(hr.o f hf).mono (by decide),by rw [List.length_set];exact hr.lk,hr.lb,hr.lo⟩
      rw [hT,(dI ok hr' ht hi).1,hU (by lia) (by lia) (by lia),if_pos rfl,hU (by lia) (by lia) (by lia),if_neg (by lia),ev,hin]
      have ec':vR (ie t)=(t.top:Rat) / (t.bot:Rat):=by rw [←ec];grind
      have key:vR (ie t)*(vR L*(t.bot:Rat) / (t.top:Rat))=vR L:=by rw [ec'];grind
      grind
  · have PB:PO (D*(t.bot*t.top)) (40+1000*((i+1:Nat):Int)) (pl (a_ B t.other) L):=by
      have ev:=iU P4.low.pos l2
      obtain⟨u1,h1⟩:=P4.dn
      refine⟨lP.pl P4.low.pos l2,by rw [ev];have:=P4.ge;grind,?_,u1*(t.bot*t.top)+u*t.top,?_⟩
      · rw [ev,←Vs];have:=P4.le;grind
      · rw [ev]
        simp only [Rat.intCast_mul,Rat.intCast_add] at hu ⊢
        rw [←h1,←hu]
        grind
    have ev:=iU P4.low.pos l2
    refine h.up ok hi D0 D1 (fun f hf=>?_) rfl (by simp) rfl (fun _ _=>Rat.le_refl) (sQ (by lia) (by lia) (by rw [ev];grind)) (fun _ _=>Rat.le_refl) (fun j hj=>h.zr j (by lia)) ?_
    · rcases hf with hf | hf | hf | hf
      · exact hp' f (.inl hf)
      · rcases i9 hf with hf | rfl
        · exact hp' f (.inr (.inl hf))
        · exact PB
      · exact hp' f (.inr (.inr (.inl hf)))
      · exact hp' f (.inr (.inr (.inr hf)))
    · have hr':cZ 400 W K (B.set t.other.toNat (pl (a_ B t.other) L)) A O:=⟨fun f hf=>(hr.k f hf).mono (by decide),fun f hf=>by
        rcases i9 hf with hf | rfl
        · exact(hr.b f hf).mono (by decide)
        · exact((PB.bits D0 (nu D0 D1 (by lia)) (by lia)).1).mono (by decide),hr.a.mono (by decide),fun f hf=>(hr.o f hf).mono (by decide),hr.lk,by rw [List.length_set];exact hr.lb,hr.lo⟩
      rw [hT,(dI ok hr' ht hi).1,hU (by lia) (by lia) (by lia),if_neg (by lia),hU (by lia) (by lia) (by lia),if_pos rfl,ev]
      grind
theorem sM{m:Int}(h0:0≤m)(h1:m≤40):PO 2520 40 (m,1):=by
  refine⟨⟨by show(0:Int) < 1;decide,by show Int.gcd m 1=1;exact Int.gcd_one⟩,?_,?_,m*2520,?_⟩
  · rw [qc];exact_mod_cast h0
  · rw [qc];exact_mod_cast h1
  · rw [qc,Rat.intCast_mul]
theorem BZ{a b:Int}(h0:0≤a)(h1:a≤39)(b0:1≤b)(b1:b≤9):PO 2520 40 (lowM a b):=by
  have hb:0 < b:=by lia
  have e:=qd (t:=a) hb
  have bn:=bU hb
  have bR:=dR hb
  have e2:vR (lowM a b)*(b:Rat)=(a:Rat):=by rw [e];grind
  obtain⟨c,hc⟩:∃c:Int,b*c=2520:=by
    have:b=1∨b=2∨b=3∨b=4∨b=5∨b=6∨b=7∨b=8∨b=9:=by lia
    rcases this with rfl | rfl | rfl | rfl | rfl | rfl | rfl | rfl | rfl
    · exact⟨2520,rfl⟩
    · exact⟨1260,rfl⟩
    · exact⟨840,rfl⟩
    · exact⟨630,rfl⟩
    · exact⟨504,rfl⟩
    · exact⟨420,rfl⟩
    · exact⟨360,rfl⟩
    · exact⟨315,rfl⟩
    · exact⟨280,rfl⟩
  refine⟨lP.lowM hb,?_,?_,a*c,?_⟩
  · refine Rat.not_lt.mp fun z=>?_
    have q:0 < - vR (lowM a b):=by grind
    have:=Rat.mul_pos q bR
    have q2:(0:Rat)≤(a:Rat):=by exact_mod_cast h0
    have q3: - vR (lowM a b)*(b:Rat)= - (a:Rat):=by rw [←e2];grind
    rw [q3] at this
    grind
  · refine Rat.not_lt.mp fun z=>?_
    have q:0 < vR (lowM a b) - ((40:Int):Rat):=by grind
    have:=Rat.mul_pos q bR
    have q2:(a:Rat)≤((40:Int):Rat)*(b:Rat):=by
      have:a≤40*b:=by lia
      exact_mod_cast this
    have q3:(vR (lowM a b) - ((40:Int):Rat))*(b:Rat)=(a:Rat) - ((40:Int):Rat)*(b:Rat):=by rw [←e2];grind
    rw [q3] at this
    grind
  · rw [←hc,Rat.intCast_mul,Rat.intCast_mul,←e2];grind
theorem uu{n k:Int}(hn:0≤n)(k0:0≤k)(k1:k < 3):∃f,eN [.d (.int n),.d (.int k)]=some (.d (dF f),[.d (.int n),.d (.int k)])∧PO 2520 40 f:=by
  have b40:Bt 8000 40:=gX (by decide) (by decide)
  have g9:∀(e:En) (i:Int),aT e (.d (.int i)) (.d (.int 9))=some (.d (.int (i % 9))):=fun e i=>aH (by decide)
  have g40:∀e:En,aT e (.d (.int n)) (.d (.int 40))=some (.d (.int (n % 40))):=fun e=>aH (by decide)
  have f40:∀e:En,cI e (.d (.int n)) (.d (.int 40))=some (.d (.int (n / 40))):=fun e=>cS (by decide) b40
  have hl:=jl (n % 40) (1+(n / 40) % 9) (by lia) (vN (by lia) (by lia) (by decide))
  have c:k=0∨k=1∨k=2:=by lia
  rcases c with rfl | rfl | rfl
  · exact⟨(n % 9,1),by unfold dF;simp? [eN,lX,g9,g40,f40,hl],sM (by lia) (by lia)⟩
  · exact⟨lowM (n % 40) (1+(n / 40) % 9),by unfold dF;simp? [eN,lX,g9,g40,f40,hl],BZ (by lia) (by lia) (by lia) (by lia)⟩
  · exact⟨(0,1),by unfold dF;simp? [eN,lX,g9,g40,f40,hl],sM (by decide) (by decide)⟩
def rC(ei:En)(o:Option Nat)(s:Option Sv):Option Sv:=match s with
  | some (.l xs)=>match o with
    | some k=>(ei[k]?).join
    | none=>some (.l xs)
  | s=>s
theorem AK{ei:En}{s:Option Sv}:rC ei none s=s:=by rcases s with _ | (_ | _ | _)<;>rfl
theorem Bb{D V:Int}{out:List PyData}(h:∀d∈out,∃f:Fr,d=dF f∧PO D V f):∃ws:List Fr,out=ws.map dF∧∀f∈ws,PO D V f:=by
  induction out with
  | nil=>exact⟨[],rfl,fun _ h=>by cases h⟩
  | cons d r ih=>
    obtain⟨ws,rfl,hw⟩:=ih fun x hx=>h x (by simp [hx])
    obtain⟨f,rfl,hf⟩:=h d (by simp)
    exact⟨f::ws,rfl,fun g hg=>by rcases List.mem_cons.mp hg with rfl | hg;exact hf;exact hw g hg⟩
theorem vU{ds:List Int}{W:bz}(ok:W.Ok){v2 v3 v4 v5 v6 v7 v8 v9 v10 v11 v12:Option Sv}(hd:ig ds):∃(ds':List Int) (ws:List Fr),eu [(0,"_law_drawn")] 1 g_ (ah 1) fY e_ [some (.l (ds.map .int)),some (.d (aO W)),v2,v3,v4,v5,v6,v7,v8,v9,v10,v11,v12]=some (.l (ws.map dF),[some (.l (ds'.map .int)),some (.d (aO W)),v2,v3,v4,v5,v6,v7,v8,v9,v10,v11,v12])∧ig ds'∧(ws.length:Int)=W.things∧∀f∈ws,PO 2520 40 f:=by
  have t0:=ok.t0;have t1:=ok.t1
  have g0':=Fh (W:=W)
  obtain⟨out,e',h1,h2,h3,⟨ds',v,he,hd'⟩⟩:=kO (g:=ah 1) (ft:=fY) (fe:=e_) (fun i e=>∃ds v,e=[some (.l (ds.map .int)),v]∧ig ds) (fun d=>∃f:Fr,d=dF f∧PO 2520 40 f) (ba 0 W.things.toNat) 0 [some (.l (ds.map .int)),none] [] (fun i x e hx ⟨ds,v,he,hd⟩=>by
    subst he
    obtain⟨n,d1,t1,a1,b1,hd1⟩:=gQ hd
    obtain⟨n2,d2,t2,a2,b2,hd2⟩:=gQ hd1
    have gm:∀e:En,aT e (.d (.int n2)) (.d (.int 3))=some (.d (.int (n2 % 3))):=fun e=>aH (by decide)
    obtain⟨f,tc,hf⟩:=uu (n:=n) (k:=n2 % 3) a1 (by lia) (by lia)
    refine⟨_,.d (dF f),dF f,_,rfl,rfl,?_,rfl,⟨f,rfl,hf⟩,d2,some (.d x),rfl,hd2⟩
    generalize dF f=F at*
    simp? [e_,t1,t2,gm,tc]) ⟨ds,none,rfl,hd⟩ (by simp [ck];lia)
  subst he
  rw [List.nil_append] at h1
  obtain⟨ws,rfl,hw⟩:=Bb h3
  rw [ck,List.length_map] at h2
  refine⟨ds',ws,?_,hd',by lia,hw⟩
  have hi:g_ [some (.l (ds.map .int)),some (.d (aO W)),v2,v3,v4,v5,v6,v7,v8,v9,v10,v11,v12]=some (ba 0 W.things.toNat,[],[some (.l (ds.map .int)),some (.d (aO W)),v2,v3,v4,v5,v6,v7,v8,v9,v10,v11,v12]):=
    dj (fs:=aa (ao bg (ae 1) (vC (.int 0))) ag) (n:=W.things) (by generalize ds.map PyData.int=DS;generalize aO W=WW at*;simp? [g0']) (by lia) (by lia)
  rw [o5 (cp:=[(0,"_law_drawn")]) (nT:=1) hi h1 rfl]
  refine congrArg (fun z=>some (Rv.l (ws.map dF),z)) ?_
  have u:kD (j' [(0,"_law_drawn")]) [some (.l (ds'.map .int)),v] [some (.l (ds.map .int)),some (.d (aO W)),v2,v3,v4,v5,v6,v7,v8,v9,v10,v11,v12]=[some (.l (ds'.map .int)),some (.d (aO W)),rC [] none v2,rC [] none v3,rC [] none v4,rC [] none v5,rC [] none v6,rC [] none v7,rC [] none v8,rC [] none v9,rC [] none v10,rC [] none v11,rC [] none v12]:=rfl
  simp only [AK] at u
  exact u
abbrev gK(ds:List Int)(W:bz)(K B:List Fr)(A:Fr)(O:List Fr)(v6 v7 v8 v9 v10 v11 v12:Option Sv):En:=[some (.l (ds.map .int)),some (.d (aO W)),some (.l (K.map dF)),some (.l (B.map dF)),some (.d (dF A)),some (.l (O.map dF)),v6,v7,v8,v9,v10,v11,v12]
theorem uX{ds:List Int}{W:bz}(ok:W.Ok){K B O:List Fr}{A:Fr}(h:cZ 350 W K B A O){i:Nat}(hi:i < W.ties.length){v7 v8 v9 v10 v11 v12:Option Sv}:
    vt 3 dm (ae 1) (aa (ae 2) (aa (ae 3) (aa (ae 4) (aa (ae 5) ag)))) (aa (ae 6) ag) (gK ds W K B A O (some (.d (.int (i:Int)))) v7 v8 v9 v10 v11 v12)=some (.d (dF (au K B A O (W.tie (i:Int)) i)),gK ds W K B A O (some (.d (.int (i:Int)))) v7 v8 v9 v10 v11 v12):=by
  have tl:=oZ ok h (b1:=true) (b2:=true) (b3:=true) hi (p:=.tuple [.list (K.map dF),.list (B.map dF),dF A,.list (O.map dF)]) rfl
  have nl:∀f:Fr,uZ (dF f)=true:=fun f=>rfl
  have nl':=nl (au K B A O (W.tie (i:Int)) i)
  unfold gK
  generalize dF (au K B A O (W.tie (i:Int)) i)=L at*
  generalize K.map dF=KK at*
  generalize B.map dF=BB at*
  generalize O.map dF=OO at*
  generalize dF A=AA at*
  generalize aO W=WW at*
  simp? [vt,qq,lD,tl,nl']
inductive AS (W:bz) (A:Fr) (i:Nat):En→Prop
  | mk {ds:List Int} {K B O:List Fr} {v6 v7 v8 v9 v10 v11 v12:Option Sv} (hd:ig ds) (h:PI W i K B A O):AS W A i (gK ds W K B A O v6 v7 v8 v9 v10 v11 v12)
theorem sN{ds:List Int}{W:bz}(ok:W.Ok){K B O:List Fr}{A:Fr}{i:Nat}(hi:i < W.ties.length)(h:PI W i K B A O)(hd:ig ds){v7 v8 v9 v10 v11 v12:Option Sv}:
    ∃e2,cF (gK ds W K B A O (some (.d (.int (i:Int)))) v7 v8 v9 v10 v11 v12)=some (.nx e2)∧AS W A (i+1) e2:=by
  have wl:=ok.len
  have hr:=(h.rows (by lia)).1
  have lc:=uX (ds:=ds) ok (hr.mono (by decide)) hi (v7:=v7) (v8:=v8) (v9:=v9) (v10:=v10) (v11:=v11) (v12:=v12)
  obtain⟨n,d1,t1,a1,b1,hd1⟩:=gQ hd
  have gm:∀e:En,aT e (.d (.int n)) (.d (.int 3))=some (.d (.int (n % 3))):=fun e=>aH (by decide)
  have m0:0≤n % 3:=by lia
  have m1:n % 3 < 3:=by lia
  generalize n % 3=w at*
  have g1':=Do (W:=W)
  have ga:atI (W.ties.map bh) (i:Int)=some (bh (W.tie (i:Int))):=mr ⟨by lia,by lia⟩
  have ht:=eS hi
  have o:=ok.ties _ ht
  have o0:=o.o0;have o1:=o.o1;have o2:=o.o2
  have lk:=h.lk;have lb:=h.lb;have lo:=h.lo
  have gi0:∀e:En,bg e (.d (dF (au K B A O (W.tie (i:Int)) i))) (.d (.int 0))=some (.d (.int (au K B A O (W.tie (i:Int)) i).1)):=fun e=>rfl
  have gi1:∀e:En,bg e (.d (dF (au K B A O (W.tie (i:Int)) i))) (.d (.int 1))=some (.d (.int (au K B A O (W.tie (i:Int)) i).2)):=fun e=>rfl
  have l2:=(dI ok hr ht hi).2.1
  by_cases hl:0 < (au K B A O (W.tie (i:Int)) i).1
  case neg=>
    have st:=h.stay (fun z=>hl ((rJ l2).mp z))
    have gg:∀e:En,tQ e (.d (.int (au K B A O (W.tie (i:Int)) i).1)) (.d (.int 0))=some (.d (.bool false)):=fun e=>by rw [du];simp [hl]
    refine⟨gK d1 W K B A O (some (.d (.int (i:Int)))) (some (.d (dF (au K B A O (W.tie (i:Int)) i)))) (some (.d (.int (W.tie (i:Int)).one))) (some (.d (.int (W.tie (i:Int)).other))) (some (.d (.tuple [.int (W.tie (i:Int)).top,.int (W.tie (i:Int)).bot]))) (some (.d (.int (W.tie (i:Int)).worth))) (some (.d (.int w))),?_,.mk hd1 st⟩
    unfold gK at*
    generalize dF (au K B A O (W.tie (i:Int)) i)=L at*
    generalize (au K B A O (W.tie (i:Int)) i).1=L1 at*
    generalize (au K B A O (W.tie (i:Int)) i).2=L2 at*
    generalize K.map dF=KK at*
    generalize B.map dF=BB at*
    generalize O.map dF=OO at*
    generalize dF A=AA at*
    generalize aO W=WW at*
    generalize W.ties.map bh=TT at*
    unfold bh at ga
    simp? [cF,lc,g1',ga,t1,gm,gi0,gg, -du]
  case pos=>
    obtain⟨y1,y2,y3⟩:=h.ways ok hi hl
    have gg:∀e:En,tQ e (.d (.int (au K B A O (W.tie (i:Int)) i).1)) (.d (.int 0))=some (.d (.bool true)):=fun e=>by rw [du];simp [hl]
    have fL:FQ 250 (au K B A O (W.tie (i:Int)) i):=by
      have r:=(y1.rows (by lia)).1
      exact r.o _ (List.mem_iff_getElem?.mpr ⟨i,List.getElem?_set_self (by lia)⟩)
    have cw:w=0∨w=1∨w=2:=by lia
    rcases cw with rfl | rfl | rfl
    · refine⟨gK d1 W K B A (O.set i (au K B A O (W.tie (i:Int)) i)) (some (.d (.int (i:Int)))) (some (.d (dF (au K B A O (W.tie (i:Int)) i)))) (some (.d (.int (W.tie (i:Int)).one))) (some (.d (.int (W.tie (i:Int)).other))) (some (.d (.tuple [.int (W.tie (i:Int)).top,.int (W.tie (i:Int)).bot]))) (some (.d (.int (W.tie (i:Int)).worth))) (some (.d (.int 0))),?_,.mk hd1 y1⟩
      have hix:uU (O.map dF).length (i:Int)=some i:=by unfold uU;rw [List.length_map,if_pos (by lia),if_pos (by lia)];rfl
      unfold gK at*
      rw [List.map_set]
      generalize dF (au K B A O (W.tie (i:Int)) i)=L at*
      generalize (au K B A O (W.tie (i:Int)) i).1=L1 at*
      generalize (au K B A O (W.tie (i:Int)) i).2=L2 at*
      generalize K.map dF=KK at*
      generalize B.map dF=BB at*
      generalize O.map dF=OO at*
      generalize dF A=AA at*
      generalize aO W=WW at*
      generalize W.ties.map bh=TT at*
      unfold bh at ga
      simp? [cF,lc,g1',ga,t1,gm,gi0,gg,qX,lr,hix, -du]
    · refine⟨gK d1 W (K.set (W.tie (i:Int)).one.toNat (pl (a_ K (W.tie (i:Int)).one) (iI (au K B A O (W.tie (i:Int)) i) (W.tie (i:Int))))) B A O (some (.d (.int (i:Int)))) (some (.d (dF (au K B A O (W.tie (i:Int)) i)))) (some (.d (.int (W.tie (i:Int)).one))) (some (.d (.int (W.tie (i:Int)).other))) (some (.d (.tuple [.int (W.tie (i:Int)).top,.int (W.tie (i:Int)).bot]))) (some (.d (.int (W.tie (i:Int)).worth))) (some (.d (.int 1))),?_,.mk hd1 y2⟩
      have hix:uU (K.map dF).length (W.tie (i:Int)).one=some (W.tie (i:Int)).one.toNat:=by unfold uU;rw [List.length_map,if_pos (by lia),if_pos (by lia)]
      have gk:atI (K.map dF) (W.tie (i:Int)).one=some (dF (a_ K (W.tie (i:Int)).one)):=eK (by lia) (by lia)
      obtain⟨D,d0,dd1,hp⟩:=h.ex
      obtain⟨tp,bp,_⟩:=mV ok hi d0 hr hp hl
      have fb:Bt 7 (W.tie (i:Int)).bot:=by have:=o.b1;unfold Bt;lia
      have ft:Bt 7 (W.tie (i:Int)).top:=by have:=o.b1;have:=o.c1;unfold Bt;lia
      have gb:∀e:En,be e (.d (.int (au K B A O (W.tie (i:Int)) i).1)) (.d (.int (W.tie (i:Int)).bot))=some (.d (.int ((au K B A O (W.tie (i:Int)) i).1*(W.tie (i:Int)).bot))):=fun e=>aW (cW (fL.top.mono (by decide)) (fb.mono (by decide)))
      have gt:∀e:En,be e (.d (.int (au K B A O (W.tie (i:Int)) i).2)) (.d (.int (W.tie (i:Int)).top))=some (.d (.int ((au K B A O (W.tie (i:Int)) i).2*(W.tie (i:Int)).top))):=fun e=>aW (cW (fL.bot.mono (by decide)) (ft.mono (by decide)))
      have tl:=jl ((au K B A O (W.tie (i:Int)) i).1*(W.tie (i:Int)).bot) ((au K B A O (W.tie (i:Int)) i).2*(W.tie (i:Int)).top) (Int.mul_pos l2 tp) ((fL.bot.mul ft).mono (by decide))
      change dq _=some (.d (dF (iI (au K B A O (W.tie (i:Int)) i) (W.tie (i:Int)))),_) at tl
      have fI:FQ 257 (iI (au K B A O (W.tie (i:Int)) i) (W.tie (i:Int))):=by
        obtain⟨r1,r2,r3⟩:=j3 (n:=257) (Int.mul_pos l2 tp) (fL.top.mul fb) (fL.bot.mul ft)
        exact⟨r3,r1,r2⟩
      have tpl:=kB (hr.k _ (eP (L:=K) (i:=(W.tie (i:Int)).one) (by lia) (by lia))) fI (by decide)
      unfold gK at*
      rw [List.map_set]
      generalize dF (pl (a_ K (W.tie (i:Int)).one) (iI (au K B A O (W.tie (i:Int)) i) (W.tie (i:Int))))=RR at*
      generalize dF (iI (au K B A O (W.tie (i:Int)) i) (W.tie (i:Int)))=II at*
      generalize dF (a_ K (W.tie (i:Int)).one)=KO at*
      generalize dF (au K B A O (W.tie (i:Int)) i)=L at*
      generalize (au K B A O (W.tie (i:Int)) i).1=L1 at*
      generalize (au K B A O (W.tie (i:Int)) i).2=L2 at*
      generalize K.map dF=KK at*
      generalize B.map dF=BB at*
      generalize O.map dF=OO at*
      generalize dF A=AA at*
      generalize aO W=WW at*
      generalize W.ties.map bh=TT at*
      unfold bh at ga
      simp? [cF,lc,g1',ga,t1,gm,gi0,gi1,gg,gk,gb,gt,tl,tpl,qX,lr,hix, -du]
    · refine⟨gK d1 W K (B.set (W.tie (i:Int)).other.toNat (pl (a_ B (W.tie (i:Int)).other) (au K B A O (W.tie (i:Int)) i))) A O (some (.d (.int (i:Int)))) (some (.d (dF (au K B A O (W.tie (i:Int)) i)))) (some (.d (.int (W.tie (i:Int)).one))) (some (.d (.int (W.tie (i:Int)).other))) (some (.d (.tuple [.int (W.tie (i:Int)).top,.int (W.tie (i:Int)).bot]))) (some (.d (.int (W.tie (i:Int)).worth))) (some (.d (.int 2))),?_,.mk hd1 y3⟩
      have hix:uU (B.map dF).length (W.tie (i:Int)).other=some (W.tie (i:Int)).other.toNat:=by unfold uU;rw [List.length_map,if_pos (by lia),if_pos (by lia)]
      have gk:atI (B.map dF) (W.tie (i:Int)).other=some (dF (a_ B (W.tie (i:Int)).other)):=eK (by lia) (by lia)
      have tpl:=kB (hr.b _ (eP (L:=B) (i:=(W.tie (i:Int)).other) (by lia) (by lia))) fL (by decide)
      unfold gK at*
      rw [List.map_set]
      generalize dF (pl (a_ B (W.tie (i:Int)).other) (au K B A O (W.tie (i:Int)) i))=RR at*
      generalize dF (a_ B (W.tie (i:Int)).other)=KO at*
      generalize dF (au K B A O (W.tie (i:Int)) i)=L at*
      generalize (au K B A O (W.tie (i:Int)) i).1=L1 at*
      generalize (au K B A O (W.tie (i:Int)) i).2=L2 at*
      generalize K.map dF=KK at*
      generalize B.map dF=BB at*
      generalize O.map dF=OO at*
      generalize dF A=AA at*
      generalize aO W=WW at*
      generalize W.ties.map bh=TT at*
      unfold bh at ga
      simp? [cF,lc,g1',ga,t1,gm,gi0,gi1,gg,gk,tpl,qX,lr,hix, -du]
theorem zI{W:bz}{K B:List Fr}{A:Fr}(hk:∀f∈K,PO 2520 40 f)(hb:∀f∈B,PO 2520 40 f)(ha:PO 2520 40 A)(lk:(K.length:Int)=W.things)(lb:(B.length:Int)=W.things):PI W 0 K B A (List.replicate W.ties.length (0,1)):=by
  refine⟨⟨2520,by decide,by decide,fun f hf=>?_⟩,lk,lb,by simp,fun j _=>?_,fun j hj=>by lia⟩
  · rcases hf with hf | hf | rfl | hf
    · exact hk f hf
    · exact hb f hf
    · exact ha
    · rw [(List.mem_replicate.mp hf).2]
      exact sM (by decide) (by decide)
  · unfold a_
    rw [List.getD_eq_getElem?_getD,List.getElem?_replicate]
    split<;>rfl
theorem yo{W:bz}(ok:W.Ok){ds:List Int}(hd:ig ds):∃(K B:List Fr) (A:Fr) (O:List Fr) (ds':List Int),iJ [.l (ds.map .int),.d (aO W)]=some (.d (fw K B A O),[.l (ds'.map .int),.d (aO W)])∧ig ds'∧PI W W.ties.length K B A O:=by
  have wl:=ok.len
  have g1':=Do (W:=W)
  have ql:((W.ties.map bh).length:Int)=(W.ties.length:Int):=by simp
  obtain⟨d1,K,c1,hd1,lk,hk⟩:=vU ok hd (v2:=none) (v3:=none) (v4:=none) (v5:=none) (v6:=none) (v7:=none) (v8:=none) (v9:=none) (v10:=none) (v11:=none) (v12:=none)
  obtain⟨d2,B,c2,hd2,lb,hb⟩:=vU ok hd1 (v2:=some (.l (K.map dF))) (v3:=none) (v4:=none) (v5:=none) (v6:=none) (v7:=none) (v8:=none) (v9:=none) (v10:=none) (v11:=none) (v12:=none)
  have e1:mC=e_:=rfl
  have e2:mS=g_:=rfl
  obtain⟨n,d3,t3,a3,b3,hd3⟩:=gQ hd2
  obtain⟨n2,d4,t4,a4,b4,hd4⟩:=gQ hd3
  have gm:∀e:En,aT e (.d (.int n2)) (.d (.int 3))=some (.d (.int (n2 % 3))):=fun e=>aH (by decide)
  obtain⟨A,ta,ha⟩:=uu (n:=n) (k:=n2 % 3) a3 (by lia) (by lia)
  have gr:∀e:En,be e (.l [.tuple [.int 0,.int 1]]) (.d (.int W.ties.length))=some (.l ((List.replicate W.ties.length ((0,1):Fr)).map dF)):=fun e=>by
    rw [Dn (by lia) (by lia),Int.toNat_natCast,List.map_replicate];rfl
  have p0:=zI hk hb ha lk lb
  obtain⟨e',h1,hI⟩:=ee (own:=[]) (g:=ah 6) (f:=cF) (AS W A) (ba 0 W.ties.length) 0 (gK d4 W K B A (List.replicate W.ties.length (0,1)) none none none none none none none) (fun i x e hx hI=>by
    obtain⟨hd,hI⟩:=hI
    rename_i ds K B O v6 v7 v8 v9 v10 v11 v12
    rw [Nat.zero_add] at*
    obtain⟨rfl,hlt⟩:=dk hx
    rw [Int.zero_add]
    obtain⟨e2,q1,q2⟩:=sN ok hlt hI hd (v7:=v7) (v8:=v8) (v9:=v9) (v10:=v10) (v11:=v11) (v12:=v12)
    exact⟨_,e2,rfl,q1,cz,q2⟩) (.mk hd4 p0)
  rw [Nat.zero_add,ck] at hI
  have hi:mR (gK d4 W K B A (List.replicate W.ties.length (0,1)) none none none none none none none)=some (ba 0 W.ties.length,[],gK d4 W K B A (List.replicate W.ties.length (0,1)) none none none none none none none):=by
    have:=dj (fs:=aa (aZ (g1 ff) (aa (ao bg (ae 1) (vC (.int 1))) ag)) ag) (e:=gK d4 W K B A (List.replicate W.ties.length (0,1)) none none none none none none none) (e1:=gK d4 W K B A (List.replicate W.ties.length (0,1)) none none none none none none none) (n:=(W.ties.length:Int)) (by
      unfold gK
      generalize List.map dF (List.replicate W.ties.length (0,1))=OO at*
      generalize aO W=WW at*
      simp? [g1']) (by lia) (by lia)
    rw [Int.toNat_natCast] at this
    exact this
  have hs:=fun Wl=>(d_ (W:=Wl) (g:=ah 6) (f:=cF) hi).trans h1
  cases hI
  rename_i ds' K' B' O' v6 v7 v8 v9 v10 v11 v12 hd' hP
  refine⟨K',B',A,O',ds',?_,hd',hP⟩
  unfold gK fw at*
  generalize List.map dF (List.replicate W.ties.length (0,1))=OO at*
  generalize dF A=AA at*
  generalize K.map dF=KK at*
  generalize B.map dF=BB at*
  generalize K'.map dF=K2 at*
  generalize B'.map dF=B2 at*
  generalize O'.map dF=O2 at*
  generalize aO W=WW at*
  generalize W.ties.map bh=TT at*
  simp? [iJ,qi,e1,e2,c1,c2,t3,t4,gm,ta,g1',ql,gr,hs]
theorem xD{W:bz}(ok:W.Ok){K B O:List Fr}{A:Fr}(h:PI W W.ties.length K B A O):vz W (fw K B A O)=true:=by
  have wl:=ok.len
  obtain⟨hr,hl⟩:=h.rows wl
  have fz:∀{L:List Fr} {n:Int},(L.length:Int)=n→(∀f∈L,lP f∧0≤f.1)→dC n (.tuple (L.map dF))=true:=fun{L n} hn hf=>by
    simp only [dC,Bool.and_eq_true,beq_iff_eq,List.length_map,List.all_map,List.all_eq_true]
    exact⟨hn,fun f hf'=>wm (hf f hf').1 (hf f hf').2⟩
  have c:eF W (fw K B A O)=true:=by
    simp only [eF,Bool.and_eq_true]
    exact⟨⟨fz hr.lk fun f hf=>hl f (.inl hf),fz hr.lb fun f hf=>hl f (.inr (.inl hf))⟩,wm (hl A (.inr (.inr (.inl rfl)))).1 (hl A (.inr (.inr (.inl rfl)))).2,fz (by have:=hr.lo;lia) fun f hf=>hl f (.inr (.inr (.inr hf)))⟩
  rw [xI c,Bool.not_eq_true',List.any_eq_false]
  intro k hk
  have hlt:=List.mem_range.mp hk
  have d:=h.dn k hlt hlt
  have l2:=(dI ok hr (eS hlt) hlt).2.1
  unfold oe
  simp only [decide_eq_true_eq]
  intro z
  exact absurd ((rJ l2).mpr z) (Rat.not_lt.mpr d)
mutual
def vx:PyData→Prop
  | .int i=>Bt 345 i
  | .tuple ds=>AB ds
  | .list ds=>AB ds
  | _=>True
def AB:List PyData→Prop
  | []=>True
  | d::r=>vx d∧AB r
end
theorem l0:∀{ds:List PyData},AB ds↔ ∀d∈ds,vx d
  | []=>by simp [AB]
  | d::r=>by simp only [AB,List.mem_cons,forall_eq_or_imp,l0 (ds:=r)]
structure J (n dep:Nat) (d:PyData):Prop where
  sw:Sw false n dep d
  ib:vx d
theorem J.mono{n m dep e:Nat}{d:PyData}(h:J n dep d)(h1:n≤m)(h2:dep≤e):J m e d:=⟨h.sw.mono h1 h2,h.ib⟩
theorem J.int{i:Int}(h:Bt 345 i):J 350 2 (.int i):=⟨((Sz.intB h (by decide) (by decide)).sw false).mono (by decide) (by decide),by simpa [vx] using h⟩
theorem J.bool{c:Bool}:J 350 2 (.bool c):=⟨Sw.bool.mono (by decide) (by decide),by simp [vx]⟩
theorem J.none:J 350 2 .none:=⟨((jq (k:=0) (d:=.none) rfl).swF rfl false).mono (by simp [wt]) (by decide),by simp [vx]⟩
theorem J.one:J 350 2 (.str "1"):=by
  have s1:PyData.strOk "1"=true:=bM _
  have k1:("1":Str).length≤10:=by decide
  exact⟨((jq (k:=0) (d:=.str "1") (by simp only [u_,s1,k1];decide)).swF rfl false).mono (by simp [wt]) (by decide),by simp [vx]⟩
theorem J.tup{n dep m:Nat}{ds:List PyData}(h:∀d∈ds,J n dep d)(hl:ds.length≤m):J (m*n+5) (dep+1) (.tuple ds):=⟨Sw.tup (fun d hd=>(h d hd).sw) hl,by simp only [vx];exact l0.mpr fun d hd=>(h d hd).ib⟩
theorem J.lst{n dep m:Nat}{ds:List PyData}(h:∀d∈ds,J n dep d)(hl:ds.length≤m):J (m*n+5) (dep+1) (.list ds):=⟨Sw.lst (fun d hd=>(h d hd).sw) hl,by simp only [vx];exact l0.mpr fun d hd=>(h d hd).ib⟩
theorem J.tup2{n dep:Nat}{x y:PyData}(h1:J n dep x)(h2:J n dep y):J (2*n+5) (dep+1) (.tuple [x,y]):=J.tup (fun d hd=>by
  simp only [List.mem_cons,List.not_mem_nil,or_false] at hd
  rcases hd with rfl | rfl
  · exact h1
  · exact h2) (by simp)
theorem J.fr{f:Fr}(h1:Bt 345 f.1)(h2:Bt 345 f.2):J 1200 4 (dF f):=(J.tup2 (J.int h1) (J.int h2)).mono (by decide) (by decide)
structure yI (d:PyData):Prop where
  bd:yD d
  sw:∃b,Sw b 600000 10 d
theorem J.t47{n dep:Nat}{d:PyData}(h:J n dep d)(hn:n≤600000)(hd:dep≤10):yI d:=by
  refine⟨⟨h.sw.sh,fun K B A O e f hf=>?_⟩,false,h.sw.mono hn hd⟩
  have ib:=h.ib
  subst e
  simp only [vx,AB,l0,and_true] at ib
  have key:vx (dF f):=by
    rcases hf with hf | hf | rfl | hf
    · exact ib.1 _ (List.mem_map_of_mem hf)
    · exact ib.2.1 _ (List.mem_map_of_mem hf)
    · exact ib.2.2.1
    · exact ib.2.2.2 _ (List.mem_map_of_mem hf)
  simp only [dF,vx,AB,and_true] at key
  exact⟨key.1.mono (by decide),key.2.mono (by decide)⟩
theorem z_:∀d∈wZ,yI d:=fun d h=>by
  have s0:PyData.strOk ""=true:=bM _
  have s1:PyData.strOk "a"=true:=bM _
  have s2:PyData.strOk "0"=true:=bM _
  have k0:("":Str).length≤10:=by decide
  have k1:("a":Str).length≤10:=by decide
  have k2:("0":Str).length≤10:=by decide
  have yes:∀d,u_ 4 d=true→wt d≤9→cX 4 d=false→yI d:=fun d hd hw hn=>by
    have s:=(jq hd).sw
    exact⟨⟨s.sh,fun K B A O e=>by rw [e] at hn;cases hn⟩,false,s.mono (by lia) (by decide)⟩
  unfold wZ at h
  simp only [List.mem_cons,List.not_mem_nil,or_false] at h
  rcases h with rfl | rfl | rfl | rfl | rfl | rfl | rfl | rfl | rfl | rfl | rfl | rfl | rfl | rfl | rfl | rfl | rfl | rfl | rfl | rfl | rfl | rfl | rfl | rfl | rfl | rfl | rfl
  all_goals first
    | exact yes _ (by first | rfl | decide | (simp only [u_,m9,s0,s1,s2,k0,k1,k2];first | done | decide)) (by first | decide | (simp only [wt,nY];decide)) rfl
    | exact⟨⟨rfl,fun K B A O e=>by cases e⟩,true,⟨rfl,by decide+kernel,by simp [PyData.depth,PyData.depthKv],by decide+kernel,by decide+kernel⟩⟩
def bQ:Int:=10 ^ 20
def cE(t m:Int):List PyData:=[dF (lowM (t*1000 - m) (m*1000)),dF (lowM (t*1000+m) (m*1000)),.tuple [.int 0,.int 1]]
def df(t m:Int):List PyData:=[.tuple [.int (-1),.int 3],.tuple [.int (2*t),.int (2*m)],.int t,.none,.bool true,.tuple [.bool true,.int 1],.list [.int t,.int m],.tuple [.int t,.int m,.int 1]]
def eQ(t m:Int):List PyData:=[.tuple [.none,.int m],.tuple [.int t,.str "1"],.tuple [.tuple [.int t],.int m],.tuple [.list [.int t],.int m],.tuple [.bool false,.int 1],.tuple [.int t,.bool true]]
def mf(t m:Int):List PyData:=[dF (lowM (t*bQ - m) (m*bQ)),dF (lowM (t*bQ+m) (m*bQ))]
def hZ(t m:Int):List PyData:=cE t m++df t m++eQ t m++mf t m
theorem tW{t b:Int}(hb:0 < b)(h1:Bt 345 t)(h2:Bt 345 b):J 1200 4 (dF (lowM t b)):=by
  obtain⟨a,c,_⟩:=j3 hb h1 h2
  exact J.fr a c
theorem qk{m:Nat}{i j:Int}(h:Bt m i)(h':Bt m j):Bt (m+1) (i - j):=by
  rw [Int.sub_eq_add_neg];exact h.add h'.neg
theorem vn{t m:Int}(hp:0 < m)(bt:Bt 250 t)(bm:Bt 250 m):∀x∈hZ t m,J 3000 5 x:=fun x hx=>by
  have b10:Bt 10 1000:=by unfold Bt;decide
  have b67:Bt 67 bQ:=by unfold Bt bQ;decide
  have fp:0 < bQ:=by unfold bQ;decide
  have jt:J 350 2 (.int t):=J.int (bt.mono (by decide))
  have jm:J 350 2 (.int m):=J.int (bm.mono (by decide))
  have sm:∀i:Int,i.natAbs < 8→J 350 2 (.int i):=fun i hi=>J.int (Bt.mono (m:=3) (by unfold Bt;exact hi) (by decide))
  have j1:J 350 2 (.int 1):=sm 1 (by decide)
  have w:∀{n d:Nat} {x:PyData},J n d x→n≤3000→d≤5→J 3000 5 x:=fun h h1 h2=>h.mono h1 h2
  have t1:Bt 262 (t*1000):=(bt.mul b10).mono (by decide)
  have m1:Bt 262 (m*1000):=(bm.mul b10).mono (by decide)
  have t2:Bt 320 (t*bQ):=(bt.mul b67).mono (by decide)
  have m2:Bt 320 (m*bQ):=(bm.mul b67).mono (by decide)
  unfold hZ cE df eQ mf at hx
  simp only [List.cons_append,List.nil_append,List.mem_cons,List.not_mem_nil,or_false] at hx
  rcases hx with rfl | rfl | rfl | rfl | rfl | rfl | rfl | rfl | rfl | rfl | rfl | rfl | rfl | rfl | rfl | rfl | rfl | rfl | rfl
  · exact w (tW (by lia) ((qk t1 (bm.mono (by decide))).mono (by decide)) (m1.mono (by decide))) (by decide) (by decide)
  · exact w (tW (by lia) ((t1.add (bm.mono (by decide))).mono (by decide)) (m1.mono (by decide))) (by decide) (by decide)
  · exact w (J.tup2 (sm 0 (by decide)) j1) (by decide) (by decide)
  · exact w (J.tup2 (sm (-1) (by decide)) (sm 3 (by decide))) (by decide) (by decide)
  · have d1:Bt 345 (2*t):=by rw [show 2*t=t+t by lia];exact(bt.add bt).mono (by decide)
    have d2:Bt 345 (2*m):=by rw [show 2*m=m+m by lia];exact(bm.add bm).mono (by decide)
    exact w (J.tup2 (J.int d1) (J.int d2)) (by decide) (by decide)
  · exact w jt (by decide) (by decide)
  · exact w J.none (by decide) (by decide)
  · exact w J.bool (by decide) (by decide)
  · exact w (J.tup2 J.bool j1) (by decide) (by decide)
  · exact w (J.lst (n:=350) (dep:=2) (m:=2) (fun d hd=>by
      simp only [List.mem_cons,List.not_mem_nil,or_false] at hd
      rcases hd with rfl | rfl
      · exact jt
      · exact jm) (by simp)) (by decide) (by decide)
  · exact w (J.tup (n:=350) (dep:=2) (m:=3) (fun d hd=>by
      simp only [List.mem_cons,List.not_mem_nil,or_false] at hd
      rcases hd with rfl | rfl | rfl
      · exact jt
      · exact jm
      · exact j1) (by simp)) (by decide) (by decide)
  · exact w (J.tup2 J.none jm) (by decide) (by decide)
  · exact w (J.tup2 jt J.one) (by decide) (by decide)
  · exact w (J.tup2 (n:=400) (dep:=3) ((J.tup (n:=350) (dep:=2) (m:=1) (fun d hd=>by simp at hd;subst hd;exact jt) (by simp)).mono (by decide) (by decide)) (jm.mono (by decide) (by decide))) (by decide) (by decide)
  · exact w (J.tup2 (n:=400) (dep:=3) ((J.lst (n:=350) (dep:=2) (m:=1) (fun d hd=>by simp at hd;subst hd;exact jt) (by simp)).mono (by decide) (by decide)) (jm.mono (by decide) (by decide))) (by decide) (by decide)
  · exact w (J.tup2 J.bool j1) (by decide) (by decide)
  · exact w (J.tup2 jt J.bool) (by decide) (by decide)
  · exact w (tW (Int.mul_pos hp fp) ((qk t2 (bm.mono (by decide))).mono (by decide)) (m2.mono (by decide))) (by decide) (by decide)
  · exact w (tW (Int.mul_pos hp fp) ((t2.add (bm.mono (by decide))).mono (by decide)) (m2.mono (by decide))) (by decide) (by decide)
theorem kz{f:Fr}(hf:FQ 250 f){n:Int}(hn:0≤n):∃x,ci [.d (.int n),.d (dF f)]=some (.d x,[.d (.int n),.d (dF f)])∧J 3000 5 x:=by
  obtain⟨t,m⟩:=f
  have mp:0 < m:=hf.pos
  have bt:Bt 250 t:=hf.top
  have bm:Bt 250 m:=hf.bot
  have b10:Bt 10 1000:=by unfold Bt;decide
  have b67:Bt 67 bQ:=by unfold Bt bQ;decide
  have fp:0 < bQ:=by unfold bQ;decide
  have sok:=vn mp bt bm
  have y0:0≤n % 19:=by lia
  have y1:n % 19 < 19:=by lia
  have gk:∀e:En,aT e (.d (.int n)) (.d (.int 19))=some (.d (.int (n % 19))):=fun e=>aH (by decide)
  obtain⟨x,hx,ax⟩:=f9 (xs:=hZ t m) (i:=n % 19) y0 (by show n % 19 < 19;exact y1)
  refine⟨x,?_,sok x hx⟩
  generalize n % 19=q at*
  have mu1:∀e:En,be e (.d (.int t)) (.d (.int 1000))=some (.d (.int (t*1000))):=fun e=>aW (k9 (by decide) (by decide))
  have mu2:∀e:En,be e (.d (.int m)) (.d (.int 1000))=some (.d (.int (m*1000))):=fun e=>aW (k9 (by decide) (by decide))
  have mu3:∀e:En,be e (.d (.int 2)) (.d (.int t))=some (.d (.int (2*t))):=fun e=>aW (pT (by decide) (by decide))
  have mu4:∀e:En,be e (.d (.int 2)) (.d (.int m))=some (.d (.int (2*m))):=fun e=>aW (pT (by decide) (by decide))
  have mu5:∀e:En,be e (.d (.int t)) (.d (.int bQ))=some (.d (.int (t*bQ))):=fun e=>aW (cW (bt.mono (by decide)) (b67.mono (by decide)))
  have mu6:∀e:En,be e (.d (.int m)) (.d (.int bQ))=some (.d (.int (m*bQ))):=fun e=>aW (cW (bm.mono (by decide)) (b67.mono (by decide)))
  have l1:=jl (t*1000 - m) (m*1000) (by lia) ((bm.mul b10).mono (by decide))
  have l2:=jl (t*1000+m) (m*1000) (by lia) ((bm.mul b10).mono (by decide))
  have l3:=jl (t*bQ - m) (m*bQ) (Int.mul_pos mp fp) ((bm.mul b67).mono (by decide))
  have l4:=jl (t*bQ+m) (m*bQ) (Int.mul_pos mp fp) ((bm.mul b67).mono (by decide))
  have gp:∀e,mM e (.d (.int 10)) (.d (.int 20))=some (.d (.int bQ)):=fun e=>gE (i:=10) (j:=20) (by decide)
  have ca4:∀(e:En) (xs ys:List PyData),e[4]?=some (some (.l xs))→xs.length+ys.length≤1000000→bE e (.s 4) (.l ys)=some (.l (xs++ys)):=fun e xs ys he h=>pF he h
  have la:(cE t m).length=3:=rfl
  have lb:(df t m).length=8:=rfl
  have lc:(eQ t m).length=6:=rfl
  have ld:(mf t m).length=2:=rfl
  have lS:((hZ t m).length:Int)=19:=rfl
  have hb:gT [some (.d (.int n)),some (.d (.tuple [.int t,.int m])),none,none,none,none]=some (.rt (.d x) [some (.d (.int n)),some (.d (.tuple [.int t,.int m])),some (.d (.int t)),some (.d (.int m)),some (.l (hZ t m)),some (.d (.int bQ))]):=by
    unfold gT
    refine(bN (e1:=[some (.d (.int n)),some (.d (.tuple [.int t,.int m])),some (.d (.int t)),some (.d (.int m)),none,none]) ?_).trans ?_
    · simp? [List.replicate]
    refine(bN (e1:=[some (.d (.int n)),some (.d (.tuple [.int t,.int m])),some (.d (.int t)),some (.d (.int m)),some (.l (cE t m)),none]) ?_).trans ?_
    · unfold cE dF
      simp? [mu1,mu2,l1,l2]
    refine(bN (e1:=[some (.d (.int n)),some (.d (.tuple [.int t,.int m])),some (.d (.int t)),some (.d (.int m)),some (.l (cE t m++df t m)),none]) ?_).trans ?_
    · unfold df
      generalize cE t m=S1 at*
      simp? [mu3,mu4,ca4,la]
    refine(bN (e1:=[some (.d (.int n)),some (.d (.tuple [.int t,.int m])),some (.d (.int t)),some (.d (.int m)),some (.l (cE t m++df t m++eQ t m)),none]) ?_).trans ?_
    · unfold eQ
      have l11:(cE t m++df t m).length=11:=rfl
      generalize cE t m++df t m=S1 at*
      simp? [ca4,l11]
    refine(bN (e1:=[some (.d (.int n)),some (.d (.tuple [.int t,.int m])),some (.d (.int t)),some (.d (.int m)),some (.l (cE t m++df t m++eQ t m)),some (.d (.int bQ))]) ?_).trans ?_
    · generalize cE t m++df t m++eQ t m=S1 at*
      simp? [gp]
    refine(bN (e1:=[some (.d (.int n)),some (.d (.tuple [.int t,.int m])),some (.d (.int t)),some (.d (.int m)),some (.l (hZ t m)),some (.d (.int bQ))]) ?_).trans ?_
    · have l17:(cE t m++df t m++eQ t m).length=17:=rfl
      unfold hZ mf dF
      generalize cE t m++df t m++eQ t m=S1 at*
      generalize bQ=FR at*
      simp? [mu5,mu6,l3,l4,ca4,l17]
    · generalize hZ t m=S1 at*
      generalize bQ=FR at*
      simp? [lS,gk,ax]
  have e1:dF (t,m)=.tuple [.int t,.int m]:=rfl
  rw [e1]
  generalize hZ t m=S1 at*
  generalize bQ=FR at*
  simp? [ci,hb]
theorem uY{x:PyData}{xs:List PyData}{lo hi:Option Int}(h:x∈L2.cutD xs lo hi):x∈xs:=List.mem_of_mem_drop (List.mem_of_mem_take h)
theorem n_{f:Fr}(h:FQ 250 f):J 3000 5 (dF f):=(J.fr (h.top.mono (by decide)) (h.bot.mono (by decide))).mono (by decide) (by decide)
theorem ke{L:List PyData}(h:∀d∈L,J 3000 5 d)(hl:L.length≤17):J 110000 6 (.tuple L):=(J.tup h hl).mono (by decide) (by decide)
theorem jK{L:List Fr}(hs:∀f∈L,FQ 250 f)(hl:L.length≤16){n:Int}(hn:0≤n):∃x,cM [.d (.int n),.d (.tuple (L.map dF))]=some (.d x,[.d (.int n),.d (.tuple (L.map dF))])∧J 110000 6 x:=by
  have all:∀d∈L.map dF,J 3000 5 d:=fun d hd=>by
    obtain⟨f,hf,rfl⟩:=List.mem_map.mp hd
    exact n_ (hs f hf)
  have sh:SeqAt.shaped (.tuple (L.map dF))=true:=(Sh.tup (n:=4) fun d hd=>by
    obtain⟨f,hf,rfl⟩:=List.mem_map.mp hd
    exact Sh.ints (ns:=[f.1,f.2])).ok (by decide)
  have eT:=fun e=>wx (e:=e) (neg:=true) sh
  simp only [if_true] at eT
  have g8:∀e:En,aT e (.d (.int n)) (.d (.int 8))=some (.d (.int (n % 8))):=fun e=>aH (by decide)
  have lN:(L.map dF).length≤16:=by simpa using hl
  have allc:∀lo hi,∀d∈L2.cutD (L.map dF) lo hi,J 3000 5 d:=fun lo hi d hd=>all d (uY hd)
  have cl:∀lo hi,(L2.cutD (L.map dF) lo hi).length≤16:=fun lo hi=>Nat.le_trans L2.cut_len lN
  have gc:∀(xs ys:List PyData),xs.length≤100→ys.length≤100→∀e:En,bE e (.d (.tuple xs)) (.d (.tuple ys))=some (.d (.tuple (xs++ys))):=fun xs ys h1 h2 e=>pG (by lia)
  have q0:0≤n % 8:=by lia
  by_cases c:n % 8 < 5∧L≠[]
  · obtain⟨c5,cL⟩:=c
    have pos:0 < L.length:=List.length_pos_iff.mpr cL
    have ne:(L.map dF).isEmpty=false:=by cases L with | nil=>exact absurd rfl cL | cons _ _=>rfl
    rw [ne] at eT
    have b8:Bt 8000 8:=gX (by decide) (by decide)
    have b100:Bt 8000 100:=gX (by decide) (by decide)
    have f8:∀e:En,cI e (.d (.int n)) (.d (.int 8))=some (.d (.int (n / 8))):=fun e=>cS (by decide) b8
    have f100:∀e:En,cI e (.d (.int n)) (.d (.int 100))=some (.d (.int (n / 100))):=fun e=>cS (by decide) b100
    have lp:0 < (L.length:Int):=by lia
    have gm:∀e:En,aT e (.d (.int (n / 8))) (.d (.int (L.length:Int)))=some (.d (.int (n / 8 % (L.length:Int)))):=fun e=>aH lp
    have x0:=vY (n:=n / 8) lp;have x1:=vZ (n:=n / 8) lp
    generalize n / 8 % (L.length:Int)=at_ at*
    have ai:=eK (rs:=L) (z:=(0,1)) x0 x1
    obtain⟨x,tb,hx⟩:=kz (f:=L.getD at_.toNat (0,1)) (hs _ (by rw [List.getD_eq_getElem?_getD,List.getElem?_eq_getElem (by lia)];exact List.getElem_mem _)) (n:=n / 100) (by lia)
    have lnn:((L.map dF).length:Int)=(L.length:Int):=by simp
    have l1':=cl none (some at_);have l2':=cl (some (at_+1)) none
    have h1:J 110000 6 (.tuple (L2.cutD (L.map dF) none (some at_)++[x]++L2.cutD (L.map dF) (some (at_+1)) none)):=(J.tup (n:=3000) (dep:=5) (m:=33) (fun d hd=>by
      rcases List.mem_append.mp hd with h | h
      · rcases List.mem_append.mp h with h | h
        · exact allc _ _ d h
        · simp at h;subst h;exact hx
      · exact allc _ _ d h) (by simp only [List.length_append,List.length_cons,List.length_nil];lia)).mono (by decide) (by decide)
    refine⟨.tuple (L2.cutD (L.map dF) none (some at_)++[x]++L2.cutD (L.map dF) (some (at_+1)) none),?_,?_⟩
    · generalize L.map dF=NN at*
      generalize dF (L.getD at_.toNat (0,1))=FF at*
      generalize (L.length:Int)=SL at*
      have k4:=gc (L2.cutD NN none (some at_)) [x] (by lia) (by simp)
      have k5:=gc (L2.cutD NN none (some at_)++[x]) (L2.cutD NN (some (at_+1)) none) (by simp;lia) (by lia)
      generalize L2.cutD NN none (some at_)++[x]++L2.cutD NN (some (at_+1)) none=E2 at*
      generalize hE4:L2.cutD NN none (some at_)++[x]=E4 at*
      generalize hA:L2.cutD NN none (some at_)=A at*
      generalize hB:L2.cutD NN (some (at_+1)) none=B at*
      generalize n % 8=q at*
      simp? [cM,gU,g8,c5,eT,f8,f100,lnn,gm,ai,tb,hA,hB,k4,k5]
    · exact h1
  · have g3:∀e:En,aT e (.d (.int (n % 8))) (.d (.int 3))=some (.d (.int (n % 8 % 3))):=fun e=>aH (by decide)
    have l3':=cl (some 1) none
    obtain⟨x,hx,ax⟩:=f9 (xs:=[PyData.tuple (L2.cutD (L.map dF) (some 1) none),.tuple (L.map dF++[.tuple [.int 0,.int 1]]),.list (L.map dF)]) (i:=n % 8 % 3) (by lia) (by show n % 8 % 3 < 3;lia)
    refine⟨x,?_,?_⟩
    · have cc:∀e1:En,e1=[some (.d (.int n)),some (.d (.tuple (L.map dF))),some (.d (.int (n % 8))),none]→nW (aL (ao uL (ae 2) (vC (.int 5)))) (aL (ao (cg true) (ae 1) (aS ag))) e1=some (false,e1):=fun e1 he=>by
        subst he
        by_cases c5:n % 8 < 5
        · have cL:L=[]:=by
            by_cases z:L=[]
            · exact z
            · exact absurd ⟨c5,z⟩ c
          subst cL
          simp only [List.map_nil,List.isEmpty_nil,Bool.not_true] at eT ⊢
          generalize n % 8=q at*
          simp? [c5,eT]
        · generalize L.map dF=NN at*
          generalize n % 8=q at*
          simp? [c5]
      have cc':=cc _ rfl
      generalize L.map dF=NN at*
      have k4:=gc NN [.tuple [.int 0,.int 1]] (by lia) (by simp)
      generalize NN++[.tuple [.int 0,.int 1]]=E2 at*
      generalize hA:L2.cutD NN (some 1) none=A at*
      have gl:∀(e:En),g1 oG e [.d (.tuple NN)]=some (.l NN):=fun e=>rfl
      generalize n % 8 % 3=r at*
      generalize n % 8=q at*
      have hb:gU [some (.d (.int n)),some (.d (.tuple NN)),none,none]=some (.rt (.d x) [some (.d (.int n)),some (.d (.tuple NN)),some (.d (.int q)),none]):=by
        unfold gU
        refine(bN (e1:=[some (.d (.int n)),some (.d (.tuple NN)),some (.d (.int q)),none]) ?_).trans ?_
        · simp? [g8]
        refine(bN (e1:=[some (.d (.int n)),some (.d (.tuple NN)),some (.d (.int q)),none]) ?_).trans ?_
        · unfold iz
          rw [cc']
          rfl
        · simp? [g3,hA,k4,gl,ax]
      simp? [cM,hb]
    · simp only [List.mem_cons,List.not_mem_nil,or_false] at hx
      rcases hx with rfl | rfl | rfl
      · exact ke (allc _ _) (by lia)
      · refine ke (fun d hd=>?_) (by simp only [List.length_append,List.length_cons,List.length_nil];lia)
        rcases List.mem_append.mp hd with h | h
        · exact all d h
        · simp at h;subst h;exact n_ (f:=(0,1)) (FQ.zero.mono (by decide))
      · exact(J.lst (n:=3000) (dep:=5) (m:=16) all lN).mono (by decide) (by decide)
theorem j4{x y z u:PyData}(h1:J 110000 6 x)(h2:J 110000 6 y)(h3:J 110000 6 z)(h4:J 110000 6 u):J 450000 7 (.tuple [x,y,z,u]):=(J.tup (n:=110000) (dep:=6) (m:=4) (fun d hd=>by
  simp only [List.mem_cons,List.not_mem_nil,or_false] at hd
  rcases hd with rfl | rfl | rfl | rfl
  · exact h1
  · exact h2
  · exact h3
  · exact h4) (by simp)).mono (by decide) (by decide)
theorem Cv{W:bz}(ok:W.Ok){K B O:List Fr}{A:Fr}(h:cZ 250 W K B A O){n:Int}(hn:0≤n):∃x,mX [.d (.int n),.d (fw K B A O)]=some (.d x,[.d (.int n),.d (fw K B A O)])∧yI x:=by
  have wl:=ok.len;have t1:=ok.t1
  have lk:=h.lk;have lb:=h.lb;have lo:=h.lo
  have b6:Bt 8000 6:=gX (by decide) (by decide)
  have f6:∀e:En,cI e (.d (.int n)) (.d (.int 6))=some (.d (.int (n / 6))):=fun e=>cS (by decide) b6
  have g6:∀e:En,aT e (.d (.int n)) (.d (.int 6))=some (.d (.int (n % 6))):=fun e=>aH (by decide)
  have m0:0≤n / 6:=by lia
  have g4:∀e:En,aT e (.d (.int (n / 6))) (.d (.int 4))=some (.d (.int (n / 6 % 4))):=fun e=>aH (by decide)
  obtain⟨xk,tk,jk⟩:=jK h.k (by lia) m0
  obtain⟨xb,tb,jb⟩:=jK h.b (by lia) m0
  obtain⟨xo,to,jo⟩:=jK h.o (by lia) m0
  obtain⟨xa,ta,ja⟩:=kz h.a m0
  have rk:J 110000 6 (.tuple (K.map dF)):=ke (fun d hd=>by obtain⟨f,hf,rfl⟩:=List.mem_map.mp hd;exact n_ (h.k f hf)) (by simp;lia)
  have rb:J 110000 6 (.tuple (B.map dF)):=ke (fun d hd=>by obtain⟨f,hf,rfl⟩:=List.mem_map.mp hd;exact n_ (h.b f hf)) (by simp;lia)
  have ro:J 110000 6 (.tuple (O.map dF)):=ke (fun d hd=>by obtain⟨f,hf,rfl⟩:=List.mem_map.mp hd;exact n_ (h.o f hf)) (by simp;lia)
  have ra:J 110000 6 (dF A):=(n_ h.a).mono (by decide) (by decide)
  have ja':J 110000 6 xa:=ja.mono (by decide) (by decide)
  unfold fw
  generalize dF A=a at*
  generalize PyData.tuple (K.map dF)=k at*
  generalize PyData.tuple (B.map dF)=b at*
  generalize PyData.tuple (O.map dF)=o at*
  obtain⟨y,hy,ay⟩:=f9 (xs:=[PyData.tuple [k,b,a],.list [k,b,a,o],.tuple [k,b,a,o,.tuple []],.tuple [o,b,a,k]]) (i:=n / 6 % 4) (by lia) (by show n / 6 % 4 < 4;lia)
  have jy:J 590000 7 y:=by
    have jn:J 110000 6 (.tuple []):=ke (fun d hd=>by cases hd) (by simp)
    simp only [List.mem_cons,List.not_mem_nil,or_false] at hy
    rcases hy with rfl | rfl | rfl | rfl
    · exact(J.tup (n:=110000) (dep:=6) (m:=3) (fun d hd=>by
        simp only [List.mem_cons,List.not_mem_nil,or_false] at hd
        rcases hd with rfl | rfl | rfl
        · exact rk
        · exact rb
        · exact ra) (by simp)).mono (by decide) (by decide)
    · exact(J.lst (n:=110000) (dep:=6) (m:=4) (fun d hd=>by
        simp only [List.mem_cons,List.not_mem_nil,or_false] at hd
        rcases hd with rfl | rfl | rfl | rfl
        · exact rk
        · exact rb
        · exact ra
        · exact ro) (by simp)).mono (by decide) (by decide)
    · exact(J.tup (n:=110000) (dep:=6) (m:=5) (fun d hd=>by
        simp only [List.mem_cons,List.not_mem_nil,or_false] at hd
        rcases hd with rfl | rfl | rfl | rfl | rfl
        · exact rk
        · exact rb
        · exact ra
        · exact ro
        · exact jn) (by simp)).mono (by decide) (by decide)
    · exact(j4 ro rb ra rk).mono (by decide) (by decide)
  obtain⟨x,hx,ax⟩:=f9 (xs:=[PyData.tuple [xk,b,a,o],.tuple [k,xb,a,o],.tuple [k,b,xa,o],.tuple [k,b,a,xo],.tuple [b,k,a,o],y]) (i:=n % 6) (by lia) (by show n % 6 < 6;lia)
  refine⟨x,?_,?_⟩
  · have cu:L2.cutD [k,b,a,o] none (some 3)=[k,b,a]:=rfl
    have gc:∀e:En,bE e (.d (.tuple [k,b,a,o])) (.d (.tuple [.tuple []]))=some (.d (.tuple [k,b,a,o,.tuple []])):=fun e=>pG (by simp)
    have gl:∀(e:En),g1 oG e [.d (.tuple [k,b,a,o])]=some (.l [k,b,a,o]):=fun e=>rfl
    have ca7:∀(e:En) (xs ys:List PyData),e[7]?=some (some (.l xs))→xs.length+ys.length≤1000000→bE e (.s 7) (.l ys)=some (.l (xs++ys)):=fun e xs ys he h=>pF he h
    generalize n / 6 % 4=r at*
    generalize n / 6=w at*
    generalize n % 6=q at*
    simp? [mX,vE,f6,g6,g4,tk,tb,to,ta,cu,gc,gl,ay,ax,ca7]
  · simp only [List.mem_cons,List.not_mem_nil,or_false] at hx
    rcases hx with rfl | rfl | rfl | rfl | rfl | rfl
    · exact(j4 jk rb ra ro).t47 (by decide) (by decide)
    · exact(j4 rk jb ra ro).t47 (by decide) (by decide)
    · exact(j4 rk rb ja' ro).t47 (by decide) (by decide)
    · exact(j4 rk rb ra jo).t47 (by decide) (by decide)
    · exact(j4 rb rk ra ro).t47 (by decide) (by decide)
    · exact jy.t47 (by decide) (by decide)
theorem CP{W:bz}(ok:W.Ok)(b:Bool):Sw b 64025 5 (aO W):=by
  have t0:=ok.t0;have t1:=ok.t1;have a0:=ok.a0;have a1:=ok.a1;have wl:=ok.len;have pl:=ok.pl
  have T2:∀d∈W.ties.map bh,Sw b 1000 3 d:=fun d hd=>by
    obtain⟨t,ht,rfl⟩:=List.mem_map.mp hd
    have o:=ok.ties t ht
    have o0:=o.o0;have o1:=o.o1;have o2:=o.o2;have c0:=o.c0;have c1:=o.c1;have b1:=o.b1;have w0:=o.w0;have w1:=o.w1
    have hd:u_ 2 (bh t)=true:=by
      simp only [bh,u_,m9,Bool.and_eq_true,decide_eq_true_eq,Nat.reducePow]
      exact⟨by decide,by lia,by lia,⟨by decide,by lia,by lia,trivial⟩,by lia,trivial⟩
    exact((jq hd).swF rfl b).mono (by simp [bh,wt,nY]) (by decide)
  have T3:Sw b 16005 4 (.tuple (W.ties.map bh)):=Sw.tup (n:=1000) (dep:=3) (m:=16) T2 (by simpa using wl)
  have P1:Sw b 16005 4 (.tuple (W.pat.map .int)):=(Sw.ints (m:=12) (fun r hr=>by have:=ok.pat r hr;lia) (by lia)).mono (by decide) (by decide)
  have i1:Sw b 16005 4 (.int W.things):=(Sw.int (by lia)).mono (by decide) (by decide)
  have i2:Sw b 16005 4 (.int W.asks):=(Sw.int (by lia)).mono (by decide) (by decide)
  exact Sw.tup (n:=16005) (dep:=4) (m:=4) (fun d hd=>by
    simp only [List.mem_cons,List.not_mem_nil,or_false] at hd
    rcases hd with rfl | rfl | rfl | rfl
    · exact i1
    · exact T3
    · exact P1
    · exact i2) (by simp)
theorem AX{ns ds:List Int}{W:bz}(ok:W.Ok){K B O:List Fr}{A:Fr}(h:cZ 250 W K B A O){v2 v5 v6 v7:Option Sv}(hd:ig ds):∃(ds':List Int) (out:List PyData),eu [(4,"_law_prices_here"),(1,"_law_drawn")] 1 Fm (ah 2) fY ER [some (.d (.list (ns.map .int))),some (.l (ds.map .int)),v2,some (.d (aO W)),some (.d (fw K B A O)),v5,v6,v7]=some (.l out,[some (.d (.list (ns.map .int))),some (.l (ds'.map .int)),v2,some (.d (aO W)),some (.d (fw K B A O)),v5,v6,v7])∧ig ds'∧out.length=6∧∀d∈out,yI d:=by
  obtain⟨out,e',h1,h2,h3,⟨ds',v,he,hd'⟩⟩:=kO (g:=ah 2) (ft:=fY) (fe:=ER) (fun i e=>∃ds v,e=[some (.d (fw K B A O)),some (.l (ds.map .int)),v]∧ig ds) yI (ba 0 6) 0 [some (.d (fw K B A O)),some (.l (ds.map .int)),none] [] (fun i x e hx ⟨ds,v,he,hd⟩=>by
    subst he
    obtain⟨n,d1,t1,a1,b1,hd1⟩:=gQ hd
    obtain⟨d,tb,td⟩:=Cv ok h a1
    refine⟨_,.d d,d,_,rfl,rfl,?_,rfl,td,d1,some (.d x),rfl,hd1⟩
    generalize fw K B A O=SS at*
    simp? [ER,t1,tb]) ⟨ds,none,rfl,hd⟩ (by simp [ck])
  subst he
  rw [List.nil_append] at h1
  refine⟨ds',out,?_,hd',by rw [h2,ck],h3⟩
  rw [o5 (cp:=[(4,"_law_prices_here"),(1,"_law_drawn")]) (nT:=1) (fi:=Fm) (e:=[some (.d (.list (ns.map .int))),some (.l (ds.map .int)),v2,some (.d (aO W)),some (.d (fw K B A O)),v5,v6,v7]) (e1:=[some (.d (.list (ns.map .int))),some (.l (ds.map .int)),v2,some (.d (aO W)),some (.d (fw K B A O)),v5,v6,v7]) (items:=ba 0 6) rfl h1 rfl]
  refine congrArg (fun z=>some (Rv.l out,z)) ?_
  have u:kD (j' [(4,"_law_prices_here"),(1,"_law_drawn")]) [some (.d (fw K B A O)),some (.l (ds'.map .int)),v] [some (.d (.list (ns.map .int))),some (.l (ds.map .int)),v2,some (.d (aO W)),some (.d (fw K B A O)),v5,v6,v7]=[some (.d (.list (ns.map .int))),some (.l (ds'.map .int)),rC [] none v2,some (.d (aO W)),some (.d (fw K B A O)),rC [] none v5,rC [] none v6,rC [] none v7]:=rfl
  simp only [AK] at u
  exact u
abbrev iy(ns ds:List Int)(k:Int)(W:bz)(v4 v5 v6 v7:Option Sv):En:=[some (.d (.list (ns.map .int))),some (.l (ds.map .int)),some (.d (.int k)),some (.d (aO W)),v4,v5,v6,v7]
theorem sT{ns ds:List Int}{k:Int}{W:bz}(ok:W.Ok){v4 v5 v7:Option Sv}{d:PyData}(hd:yI d):∃w7,Da (iy ns ds k W v4 v5 (some (.d d)) v7)=some (.nx (iy ns ds k W v4 v5 (some (.d d)) w7)):=by
  obtain⟨b,sd⟩:=hd.sw
  have sA:Sw b (2*600000+5) 11 (.tuple [aO W,d]):=Sw.tup (n:=600000) (dep:=10) (m:=2) (fun x hx=>by
    simp only [List.mem_cons,List.not_mem_nil,or_false] at hx
    rcases hx with rfl | rfl
    · exact(CP ok b).mono (by decide) (by decide)
    · exact sd.mono (by decide) (by decide)) (by simp)
  have gr:=sA.repr (by decide) (by decide)
  have ge:=fun e=>wz (e:=e) sA.so
  have r1:=jp ok hd.bd
  have r2:=Ad ok hd.bd
  have r3:=CB (vz W d) (vz W d)
  rw [beq_self_eq_true] at r3
  refine⟨some (.d (.str (PyData.tuple [aO W,d]).shown)),?_⟩
  generalize (PyData.tuple [aO W,d]).shown=SH at*
  generalize vz W d=bb at*
  simp only [iy]
  generalize aO W=WW at*
  simp? [Da,gr,ge,r1,r2,r3]
theorem B0{W:bz}(ok:W.Ok){K B O:List Fr}{A:Fr}(h:cZ 250 W K B A O):yI (fw K B A O):=by
  have wl:=ok.len;have t1:=ok.t1
  have lk:=h.lk;have lb:=h.lb;have lo:=h.lo
  have rk:J 110000 6 (.tuple (K.map dF)):=ke (fun d hd=>by obtain⟨f,hf,rfl⟩:=List.mem_map.mp hd;exact n_ (h.k f hf)) (by simp;lia)
  have rb:J 110000 6 (.tuple (B.map dF)):=ke (fun d hd=>by obtain⟨f,hf,rfl⟩:=List.mem_map.mp hd;exact n_ (h.b f hf)) (by simp;lia)
  have ro:J 110000 6 (.tuple (O.map dF)):=ke (fun d hd=>by obtain⟨f,hf,rfl⟩:=List.mem_map.mp hd;exact n_ (h.o f hf)) (by simp;lia)
  exact(j4 rk rb ((n_ h.a).mono (by decide) (by decide)) ro).t47 (by decide) (by decide)
inductive LI (ns:List Int):En→Prop
  | mk {ds v2 v3 v4 v5 v6 v7} (hd:ig ds):LI ns [some (.d (.list (ns.map .int))),some (.l (ds.map .int)),v2,v3,v4,v5,v6,v7]
theorem wU{ns ds:List Int}{i:Nat}(hi:i < 3){v3 v4 v5 v6 v7:Option Sv}(hd:ig ds):∃e2,CU [some (.d (.list (ns.map .int))),some (.l (ds.map .int)),some (.d (.int (i:Int))),v3,v4,v5,v6,v7]=some (.nx e2)∧LI ns e2:=by
  have go:∀(a b:Int),0≤a→a≤12→0≤b→b≤16→atI [PyData.int 8,.int 8,.int 12] (i:Int)=some (.int a)→atI [PyData.int 10,.int 10,.int 16] (i:Int)=some (.int b)→∃e2,CU [some (.d (.list (ns.map .int))),some (.l (ds.map .int)),some (.d (.int (i:Int))),v3,v4,v5,v6,v7]=some (.nx e2)∧LI ns e2:=fun a b a0 a1 b0 b1 ia ib=>by
    obtain⟨W,d1,tw,hd1,ok, -,tl⟩:=EF ds a b hd a0 a1 b0 b1
    have wl:=ok.len
    obtain⟨K,B,A,O,d2,tp,hd2,hP⟩:=yo ok hd1
    have hr:=(hP.rows wl).1
    have r1:=jp ok (B0 ok hr).bd
    rw [xD ok hP] at r1
    have gb:∀e:En,pJ e (.d (.bool true)) (.d (.bool true))=some (.d (.bool false)):=fun e=>rfl
    obtain⟨n1,d3,t3,a3, -,hd3⟩:=gQ hd2
    obtain⟨o,ho,to⟩:=ED n1
    obtain⟨d4,out,hv,hd4,l6,hT⟩:=AX (ns:=ns) ok hr (v2:=some (.d (.int (i:Int)))) (v5:=v5) (v6:=v6) (v7:=v7) hd3
    have ca:∀(e:En) (xs ys:List PyData),xs.length+ys.length≤1000000→bE e (.l xs) (.l ys)=some (.l (xs++ys)):=fun e xs ys h=>yR h
    obtain⟨T,hT1⟩:∃T,T=[o]++out:=⟨_,rfl⟩
    have allT:∀d∈T,yI d:=fun d hd=>by
      rw [hT1] at hd
      rcases List.mem_append.mp hd with h | h
      · simp only [List.mem_cons,List.not_mem_nil,or_false] at h
        subst h
        exact z_ _ ho
      · exact hT d h
    obtain⟨e3,h3,⟨w6,w7,he3⟩⟩:=ee (own:=[(5,T)]) (g:=ah 6) (f:=Da) (fun _ e=>∃v6 v7,e=iy ns d4 (i:Int) W (some (.d (fw K B A O))) (some (.l T)) v6 v7) T 0 (iy ns d4 (i:Int) W (some (.d (fw K B A O))) (some (.l T)) v6 v7) (fun j y e hy ⟨v6,v7,he⟩=>by
      subst he
      obtain⟨w7,ht⟩:=sT (ns:=ns) (ds:=d4) (k:=(i:Int)) ok (v4:=some (.d (fw K B A O))) (v5:=some (.l T)) (v7:=v7) (allT y (List.mem_of_getElem? hy))
      exact⟨_,_,rfl,ht,fun p hp=>by simp at hp;subst hp;rfl,_,_,rfl⟩) ⟨v6,v7,rfl⟩
    subst he3
    have hf:eC ([6]++([7]++([]++[]))) Fk (ah 6) Da (iy ns d4 (i:Int) W (some (.d (fw K B A O))) (some (.l T)) v6 v7)=some (.nx (iy ns d4 (i:Int) W (some (.d (fw K B A O))) (some (.l T)) w6 w7)):=by
      unfold eC
      rw [show Fk (iy ns d4 (i:Int) W (some (.d (fw K B A O))) (some (.l T)) v6 v7)=some (T,[(5,T)],iy ns d4 (i:Int) W (some (.d (fw K B A O))) (some (.l T)) v6 v7) from rfl]
      exact h3
    refine⟨iy ns d4 (i:Int) W (some (.d (fw K B A O))) (some (.l T)) w6 w7,?_,.mk hd4⟩
    unfold CU
    refine(bN (e1:=iy ns d1 (i:Int) W v4 v5 v6 v7) ?_).trans ?_
    · simp only [iy]
      simp? [ia,ib,tw]
    refine(bN (e1:=iy ns d2 (i:Int) W (some (.d (fw K B A O))) v5 v6 v7) ?_).trans ?_
    · simp only [iy]
      generalize fw K B A O=PP at*
      simp? [tp]
    refine(bN (e1:=iy ns d2 (i:Int) W (some (.d (fw K B A O))) v5 v6 v7) ?_).trans ?_
    · simp only [iy]
      generalize fw K B A O=PP at*
      generalize aO W=WW at*
      simp? [r1,gb]
    refine(bN (e1:=iy ns d4 (i:Int) W (some (.d (fw K B A O))) (some (.l T)) v6 v7) ?_).trans ?_
    · rw [hT1]
      simp only [iy]
      generalize fw K B A O=PP at*
      generalize aO W=WW at*
      simp? [t3,to,hv,ca,l6]
    exact hf
  rcases(by lia:i=0∨i=1∨i=2) with rfl | rfl | rfl
  · exact go 8 10 (by decide) (by decide) (by decide) (by decide) rfl rfl
  · exact go 8 10 (by decide) (by decide) (by decide) (by decide) rfl rfl
  · exact go 12 16 (by decide) (by decide) (by decide) (by decide) rfl rfl
theorem wR(ns:List Int)(hl:ns.length≤63):∃as',m5 [.d (.list (ns.map .int))]=some (.d (.bool true),as'):=by
  obtain⟨ds,td,hd⟩:=Ab ns hl
  obtain⟨e2,h1,hI⟩:=ee (own:=[]) (g:=ah 2) (f:=CU) (fun _=>LI ns) (ba 0 3) 0 [some (.d (.list (ns.map .int))),some (.l (ds.map .int)),none,none,none,none,none,none] (fun i x e hx hI=>by
    obtain⟨hd⟩:=hI
    rename_i ds v2 v3 v4 v5 v6 v7
    obtain⟨rfl,hi⟩:=dk hx
    rw [Int.zero_add]
    obtain⟨e2,k1,k2⟩:=wU (ns:=ns) (i:=i) hi (v3:=v3) (v4:=v4) (v5:=v5) (v6:=v6) (v7:=v7) hd
    exact⟨_,e2,rfl,k1,cz,k2⟩) (.mk hd)
  obtain⟨hd2⟩:=hI
  rename_i ds2 v2 v3 v4 v5 v6 v7
  have hfor:=fun Wl=>d_ (W:=Wl) (g:=ah 2) (f:=CU) (show F_ [some (.d (.list (ns.map .int))),some (.l (ds.map .int)),none,none,none,none,none,none]=some (ba 0 3,[],[some (.d (.list (ns.map .int))),some (.l (ds.map .int)),none,none,none,none,none,none]) from rfl)
  rw [h1] at hfor
  simp? [m5,Au,td,hfor]
def kE(P:Params)(k:Str)(t:Tok)(v:Value):DictEntry:=⟨PyData.keyHash P k,.str k t,v⟩
def kF(n:Str)(s:Stmt)(doc pm:Value)(c:Addr):Obj:=⟨.type "function",none,.func (W.fnOf n n (dt s) (cR s) (am s) .none .none doc pm none (.ref c) .none),#[]⟩
def kI(n:Int):Value:=.int n 0
def kC(n:Str)(a:Nat)(l:List Value)(z:Nat):Obj:=⟨.type "code",none,.fields (Value.str n a::Value.str n (a+1)::Value.str "/claim/cut.py" (a+2)::l++[Value.str "/claim/cut.py" z]).toArray,#[]⟩
def kT(l:List Value)(n:Nat):Obj:=⟨.type "tuple",none,.seq l.toArray n,#[]⟩
def vy:Value:=.str "askedpairs.fractions" 187
def yy:Value:=.str "askedpairs.forms" 242
def Ga:Value:=.str "askedpairs.worthpaper" 281
def CV:Value:=.str "askedpairs.pricepaper" 290
def fj:Value:=.str "law_askedpairs_k47_prices_right_or_not" 328
def kK(P:Params):W.Frag:=[(3,⟨.type "dict",none,.dict (List.toArray [kE P "__name__" 165 (.str "law_askedpairs_k47_prices_right_or_not" 328),kE P "__doc__" 166 (.none),kE P "__package__" 167 (.none),kE P "__loader__" 168 (.builtin "__main__.__loader__#opaque"),kE P "__spec__" 169 (.none),kE P "__annotations__" 170 (.ref 6),kE P "__builtins__" 171 (.ref 4),kE P "__file__" 173 (.str "/claim/cut.py" 172),kE P "__cached__" 174 (.none),kE P "ZERO" 191 (.ref 15),kE P "common_divisor" 199 (.ref 22),kE P "lowest" 208 (.ref 29),kE P "plus" 216 (.ref 36),kE P "times" 224 (.ref 43),kE P "less" 232 (.ref 50),kE P "total" 241 (.ref 57),kE P "is_number" 250 (.ref 64),kE P "is_row_of" 258 (.ref 71),kE P "is_fraction" 267 (.ref 78),kE P "is_from_zero" 274 (.ref 85),kE P "is_row_from_zero" 280 (.ref 90),kE P "gain_of" 289 (.ref 97),kE P "is_prices_form" 303 (.ref 104),kE P "paid_for" 321 (.ref 111),kE P "prices_hold" 327 (.ref 116),kE P "_law_mixed" 338 (.ref 123),kE P "_law_draws" 349 (.ref 130),kE P "_law_next" 356 (.ref 137),kE P "_law_gcd" 364 (.ref 144),kE P "_law_low" 373 (.ref 151),kE P "_law_plus" 381 (.ref 158),kE P "_law_times" 389 (.ref 165),kE P "_law_says" 397 (.ref 172),kE P "_law_chance" 406 (.ref 179),kE P "_law_worth" 414 (.ref 186),kE P "_law_ties" 433 (.ref 193),kE P "_law_web" 449 (.ref 200),kE P "_law_odd" 457 (.ref 207),kE P "_law_is_fraction" 465 (.ref 214),kE P "_law_lacking" 484 (.ref 221),kE P "_law_price" 492 (.ref 228),kE P "_law_prices" 498 (.ref 233),kE P "_law_are_prices" 504 (.ref 238),kE P "_law_right" 510 (.ref 243),kE P "_law_bent_price" 522 (.ref 250),kE P "_law_bent_row" 532 (.ref 257),kE P "_law_bent" 546 (.ref 264),kE P "law" 552 (.ref 269)]) 48,#[]⟩),
  (22,kF "common_divisor" bX (.none) vy 21),
  (21,kC "common_divisor" 192 [kI 3,kI 2,kI 0,kI 0,kI 3,.ref 16,.bool true,kI 181,.ref 17,.none,.ref 18,.ref 19,.ref 20,kI 197,kI 3] 198),
  (29,kF "lowest" fF (.none) vy 28),
  (28,kC "lowest" 200 [kI 7,kI 2,kI 0,kI 0,kI 3,.ref 23,.bool true,kI 181,.ref 24,.none,.ref 25,.ref 26,.ref 27,kI 206,kI 7] 207),
  (36,kF "plus" lq (.none) vy 35),
  (35,kC "plus" 209 [kI 12,kI 2,kI 0,kI 0,kI 3,.ref 30,.bool true,kI 181,.ref 31,.none,.ref 32,.ref 33,.ref 34,kI 214,kI 12] 215),
  (43,kF "times" i8 (.none) vy 42),
  (42,kC "times" 217 [kI 14,kI 2,kI 0,kI 0,kI 3,.ref 37,.bool true,kI 181,.ref 38,.none,.ref 39,.ref 40,.ref 41,kI 222,kI 14] 223),
  (50,kF "less" nI (.none) vy 49),
  (49,kC "less" 225 [kI 16,kI 2,kI 0,kI 0,kI 3,.ref 44,.bool true,kI 181,.ref 45,.none,.ref 46,.ref 47,.ref 48,kI 230,kI 16] 231),
  (57,kF "total" kn (.none) vy 56),
  (56,kC "total" 233 [kI 18,kI 1,kI 0,kI 0,kI 3,.ref 51,.bool true,kI 181,.ref 52,.none,.ref 53,.ref 54,.ref 55,kI 239,kI 18] 240),
  (64,kF "is_number" et (.none) yy 63),
  (63,kC "is_number" 244 [kI 24,kI 1,kI 0,kI 0,kI 3,.ref 58,.bool true,kI 181,.ref 59,.none,.ref 60,.ref 61,.ref 62,kI 248,kI 24] 249),
  (71,kF "is_row_of" cO (.none) yy 70),
  (70,kC "is_row_of" 251 [kI 26,kI 2,kI 0,kI 0,kI 3,.ref 65,.bool true,kI 181,.ref 66,.none,.ref 67,.ref 68,.ref 69,kI 256,kI 26] 257),
  (78,kF "is_fraction" c9 (.none) yy 77),
  (77,kC "is_fraction" 259 [kI 28,kI 1,kI 0,kI 0,kI 3,.ref 72,.bool true,kI 181,.ref 73,.none,.ref 74,.ref 75,.ref 76,kI 265,kI 28] 266),
  (85,kF "is_from_zero" bY (.none) yy 84),
  (84,kC "is_from_zero" 268 [kI 35,kI 1,kI 0,kI 0,kI 3,.ref 79,.bool true,kI 181,.ref 80,.none,.ref 81,.ref 82,.ref 83,kI 272,kI 35] 273),
  (90,kF "is_row_from_zero" bo (.none) yy 89),
  (89,kC "is_row_from_zero" 275 [kI 37,kI 2,kI 0,kI 0,kI 3,.ref 86,.bool true,kI 181,.ref 87,.none,.none,.none,.ref 88,kI 278,kI 37] 279),
  (97,kF "gain_of" gN (.none) Ga 96),
  (96,kC "gain_of" 283 [kI 40,kI 1,kI 0,kI 0,kI 3,.ref 91,.bool true,kI 181,.ref 92,.none,.ref 93,.ref 94,.ref 95,kI 287,kI 40] 288),
  (104,kF "is_prices_form" bZ (.none) CV 103),
  (103,kC "is_prices_form" 292 [kI 43,kI 2,kI 0,kI 0,kI 3,.ref 98,.bool true,kI 181,.ref 99,.none,.ref 100,.ref 101,.ref 102,kI 301,kI 43] 302),
  (111,kF "paid_for" fH (.none) CV 110),
  (110,kC "paid_for" 304 [kI 50,kI 3,kI 0,kI 0,kI 3,.ref 105,.bool true,kI 181,.ref 106,.none,.ref 107,.ref 108,.ref 109,kI 319,kI 50] 320),
  (116,kF "prices_hold" cB (.none) CV 115),
  (115,kC "prices_hold" 322 [kI 55,kI 2,kI 0,kI 0,kI 3,.ref 112,.bool true,kI 181,.ref 113,.none,.none,.none,.ref 114,kI 325,kI 55] 326),
  (123,kF "_law_mixed" ki (.none) fj 122),
  (122,kC "_law_mixed" 330 [kI 60,kI 2,kI 0,kI 0,kI 3,.ref 117,.bool true,kI 181,.ref 118,.none,.ref 119,.ref 120,.ref 121,kI 336,kI 60] 337),
  (130,kF "_law_draws" kh (.none) fj 129),
  (129,kC "_law_draws" 339 [kI 63,kI 1,kI 0,kI 0,kI 3,.ref 124,.bool true,kI 181,.ref 125,.none,.ref 126,.ref 127,.ref 128,kI 347,kI 63] 348),
  (137,kF "_law_next" iP (.none) fj 136),
  (136,kC "_law_next" 350 [kI 76,kI 1,kI 0,kI 0,kI 3,.ref 131,.bool true,kI 181,.ref 132,.none,.ref 133,.ref 134,.ref 135,kI 354,kI 76] 355),
  (144,kF "_law_gcd" oQ (.none) fj 143),
  (143,kC "_law_gcd" 357 [kI 80,kI 2,kI 0,kI 0,kI 3,.ref 138,.bool true,kI 181,.ref 139,.none,.ref 140,.ref 141,.ref 142,kI 362,kI 80] 363),
  (151,kF "_law_low" jh (.none) fj 150),
  (150,kC "_law_low" 365 [kI 84,kI 2,kI 0,kI 0,kI 3,.ref 145,.bool true,kI 181,.ref 146,.none,.ref 147,.ref 148,.ref 149,kI 371,kI 84] 372),
  (158,kF "_law_plus" lm (.none) fj 157),
  (157,kC "_law_plus" 374 [kI 87,kI 2,kI 0,kI 0,kI 3,.ref 152,.bool true,kI 181,.ref 153,.none,.ref 154,.ref 155,.ref 156,kI 379,kI 87] 380),
  (165,kF "_law_times" kl (.none) fj 164),
  (164,kC "_law_times" 382 [kI 89,kI 2,kI 0,kI 0,kI 3,.ref 159,.bool true,kI 181,.ref 160,.none,.ref 161,.ref 162,.ref 163,kI 387,kI 89] 388),
  (172,kF "_law_says" nG (.none) fj 171),
  (171,kC "_law_says" 390 [kI 91,kI 2,kI 0,kI 0,kI 3,.ref 166,.bool true,kI 181,.ref 167,.none,.ref 168,.ref 169,.ref 170,kI 395,kI 91] 396),
  (179,kF "_law_chance" iO (.none) fj 178),
  (178,kC "_law_chance" 398 [kI 95,kI 2,kI 0,kI 0,kI 3,.ref 173,.bool true,kI 181,.ref 174,.none,.ref 175,.ref 176,.ref 177,kI 404,kI 95] 405),
  (186,kF "_law_worth" km (.none) fj 185),
  (185,kC "_law_worth" 407 [kI 105,kI 2,kI 0,kI 0,kI 3,.ref 180,.bool true,kI 181,.ref 181,.none,.ref 182,.ref 183,.ref 184,kI 412,kI 105] 413),
  (193,kF "_law_ties" nH (.none) fj 192),
  (192,kC "_law_ties" 415 [kI 107,kI 3,kI 0,kI 0,kI 3,.ref 187,.bool true,kI 181,.ref 188,.none,.ref 189,.ref 190,.ref 191,kI 431,kI 107] 432),
  (200,kF "_law_web" qW (.none) fj 199),
  (199,kC "_law_web" 434 [kI 122,kI 3,kI 0,kI 0,kI 3,.ref 194,.bool true,kI 181,.ref 195,.none,.ref 196,.ref 197,.ref 198,kI 447,kI 122] 448),
  (207,kF "_law_odd" qV (.none) fj 206),
  (206,kC "_law_odd" 450 [kI 132,kI 1,kI 0,kI 0,kI 3,.ref 201,.bool true,kI 181,.ref 202,.none,.ref 203,.ref 204,.ref 205,kI 455,kI 132] 456),
  (214,kF "_law_is_fraction" c8 (.none) fj 213),
  (213,kC "_law_is_fraction" 458 [kI 136,kI 1,kI 0,kI 0,kI 3,.ref 208,.bool true,kI 181,.ref 209,.none,.ref 210,.ref 211,.ref 212,kI 463,kI 136] 464),
  (221,kF "_law_lacking" eY (.none) fj 220),
  (220,kC "_law_lacking" 466 [kI 143,kI 3,kI 0,kI 0,kI 3,.ref 215,.bool true,kI 181,.ref 216,.none,.ref 217,.ref 218,.ref 219,kI 482,kI 143] 483),
  (228,kF "_law_price" kj (.none) fj 227),
  (227,kC "_law_price" 485 [kI 152,kI 2,kI 0,kI 0,kI 3,.ref 222,.bool true,kI 181,.ref 223,.none,.ref 224,.ref 225,.ref 226,kI 490,kI 152] 491),
  (233,kF "_law_prices" fD (.none) fj 232),
  (232,kC "_law_prices" 493 [kI 154,kI 2,kI 0,kI 0,kI 3,.ref 229,.bool true,kI 181,.ref 230,.none,.none,.none,.ref 231,kI 496,kI 154] 497),
  (238,kF "_law_are_prices" cT (.none) fj 237),
  (237,kC "_law_are_prices" 499 [kI 170,kI 2,kI 0,kI 0,kI 3,.ref 234,.bool true,kI 181,.ref 235,.none,.none,.none,.ref 236,kI 502,kI 170] 503),
  (243,kF "_law_right" i7 (.none) fj 242),
  (242,kC "_law_right" 505 [kI 174,kI 2,kI 0,kI 0,kI 3,.ref 239,.bool true,kI 181,.ref 240,.none,.none,.none,.ref 241,kI 508,kI 174] 509),
  (250,kF "_law_bent_price" cU (.none) fj 249),
  (249,kC "_law_bent_price" 511 [kI 183,kI 2,kI 0,kI 0,kI 3,.ref 244,.bool true,kI 181,.ref 245,.none,.ref 246,.ref 247,.ref 248,kI 520,kI 183] 521),
  (257,kF "_law_bent_row" fB (.none) fj 256),
  (256,kC "_law_bent_row" 523 [kI 191,kI 2,kI 0,kI 0,kI 3,.ref 251,.bool true,kI 181,.ref 252,.none,.ref 253,.ref 254,.ref 255,kI 530,kI 191] 531),
  (264,kF "_law_bent" nF (.none) fj 263),
  (263,kC "_law_bent" 533 [kI 197,kI 2,kI 0,kI 0,kI 3,.ref 258,.bool true,kI 181,.ref 259,.none,.ref 260,.ref 261,.ref 262,kI 544,kI 197] 545),
  (269,kF "law" lI (.none) fj 268),
  (268,kC "law" 547 [kI 206,kI 1,kI 0,kI 0,kI 3,.ref 265,.bool true,kI 181,.ref 266,.none,.none,.none,.ref 267,kI 550,kI 206] 551),
  (15,kT [.int (0) 189,.int (1) 190] 0)]
def kA:List Addr:=[3,22,21,29,28,36,35,43,42,50,49,57,56,64,63,71,70,78,77,85,84,90,89,97,96,104,103,111,110,116,115,123,122,130,129,137,136,144,143,151,150,158,157,165,164,172,171,179,178,186,185,193,192,200,199,207,206,214,213,221,220,228,227,233,232,238,237,243,242,250,249,257,256,264,263,269,268,15]
def kq:Program:={PySem.Challenge.pw_askedpairs_k47_prices_right_or_not with main:={PySem.Challenge.pw_askedpairs_k47_prices_right_or_not.main with body:=[top 1,top 2,top 3,top 4,top 5,top 6,top 7,top 9,top 10,top 11,top 12,top 13,top 15,top 17,top 18,top 19,top 21,top 22,top 23,top 24,top 25,top 26,top 27,top 28,top 29,top 30,top 31,top 32,top 33,top 34,top 35,top 36,top 37,top 38,top 39,top 40,top 41,top 42,top 43]}}
def kH:W.Hook:=W.kHook kK kA (fun _=>by kernel_rfl)
theorem left:W.LeftO PySem.Challenge.pw_askedpairs_k47_prices_right_or_not kq [] (fun s=>W.xlAt kq [] s&&W.recOk (W.RowW.records (W.OpenRow.toRowW (W.OpenLaw.row PySem.Challenge.rw_askedpairs_k47_prices_right_or_not))) s) (W.Hook.obs kH) (W.Hook.val kH) 2594:=fun w=>by kernel_rfl
theorem yz{P:List Value→Prop}(h:∀a0,P [a0]):∀us:List Value,us.length=1→P us:=fun us e=>match us,e with | [a0],_=>h a0
theorem l8{P:List Value→Prop}(h:∀a0 a1,P [a0,a1]):∀us:List Value,us.length=2→P us:=fun us e=>match us,e with | [a0,a1],_=>h a0 a1
theorem ET{P:List Value→Prop}(h:∀a0 a1 a2,P [a0,a1,a2]):∀us:List Value,us.length=3→P us:=fun us e=>match us,e with | [a0,a1,a2],_=>h a0 a1 a2
theorem hm{w:World}{h:Heap}{mg:Str→Option Value}{n:Str}{s:Stmt}{a:Addr}{ps:List Str}(c:Addr)(d p:Value)(X:(kK w.params).In h)(G:h.Ns mainGlobals mg)
    (e:(W.nsIn (kK w.params) mainGlobals n,List.lookup a (kK w.params),W.codeIn (kK w.params) (.ref c) n,W.keepIn (kK w.params) (.ref a))=(some (some (.ref a)),some (kF n s d p c),true,true))
    (b:∀(kV doc pm:Value) (an:Option Addr) (cdv ct:Value) (us:List Value),us.length=ps.length→bindArgs (W.fnOf n n (dt s) (cR s) (am s) .none kV doc pm an cdv ct) ⟨us,[]⟩=pure (ps.zip us)):
    aY (kK w.params) mg n s a (W.fnOf n n (dt s) (cR s) (am s) .none .none d p none (.ref c) .none) ps:=Be X G (congrArg (·.1) e) (congrArg (·.2.1) e) (congrArg (·.2.2.1) e) (congrArg (·.2.2.2) e) b
theorem all_mk{l:W.OpenLaw}{w:World}{h:Heap}{mg:Str→Option Value}{fa:Addr}(X:(kK w.params).In h)(G:h.Ns mainGlobals mg)(hfa:mg "law"=some (.ref fa)):
    ∃fd:FuncData,(∀(s:Shared) (v:Value),BindsTo s fd ⟨[v],[]⟩ [("_law_script",v)])∧∀base:Heap,(kK w.params).In base→base.Ns mainGlobals mg→aC l.prog w (kK w.params) mg base bB 8 fa fd ["_law_script"] (bD (kK w.params) 1 m5):=by
  have e:=hfa.symm.trans (W.mg_of X G (show W.nsIn (kK w.params) mainGlobals "law"=some (some (.ref 269)) by kernel_rfl))
  cases e
  have T:gR mg:=⟨W.mg_none_of X G (show W.nsIn (kK w.params) mainGlobals "abs"=some none by kernel_rfl),W.mg_none_of X G (show W.nsIn (kK w.params) mainGlobals "len"=some none by kernel_rfl),W.mg_none_of X G (show W.nsIn (kK w.params) mainGlobals "min"=some none by kernel_rfl),W.mg_none_of X G (show W.nsIn (kK w.params) mainGlobals "max"=some none by kernel_rfl),W.mg_none_of X G (show W.nsIn (kK w.params) mainGlobals "range"=some none by kernel_rfl),W.mg_none_of X G (show W.nsIn (kK w.params) mainGlobals "repr"=some none by kernel_rfl),W.mg_none_of X G (show W.nsIn (kK w.params) mainGlobals "tuple"=some none by kernel_rfl),W.mg_none_of X G (show W.nsIn (kK w.params) mainGlobals "int"=some none by kernel_rfl),W.mg_none_of X G (show W.nsIn (kK w.params) mainGlobals "enumerate"=some none by kernel_rfl),W.mg_none_of X G (show W.nsIn (kK w.params) mainGlobals "isinstance"=some none by kernel_rfl),W.mg_none_of X G (show W.nsIn (kK w.params) mainGlobals "bool"=some none by kernel_rfl),W.mg_none_of X G (show W.nsIn (kK w.params) mainGlobals "any"=some none by kernel_rfl),W.mg_none_of X G (show W.nsIn (kK w.params) mainGlobals "all"=some none by kernel_rfl),W.mg_none_of X G (show W.nsIn (kK w.params) mainGlobals "list"=some none by kernel_rfl)⟩
  have h_common_divisor:aY (kK w.params) mg "common_divisor" bX 22 _ ["one","other"]:=hm 21 (.none) vy X G (by kernel_rfl) fun _ _ _ _ _ _=>l8 fun _ _=>rfl
  have h_lowest:aY (kK w.params) mg "lowest" fF 29 _ ["top","bottom"]:=hm 28 (.none) vy X G (by kernel_rfl) fun _ _ _ _ _ _=>l8 fun _ _=>rfl
  have h_plus:aY (kK w.params) mg "plus" lq 36 _ ["one","other"]:=hm 35 (.none) vy X G (by kernel_rfl) fun _ _ _ _ _ _=>l8 fun _ _=>rfl
  have h_times:aY (kK w.params) mg "times" i8 43 _ ["one","other"]:=hm 42 (.none) vy X G (by kernel_rfl) fun _ _ _ _ _ _=>l8 fun _ _=>rfl
  have h_less:aY (kK w.params) mg "less" nI 50 _ ["one","other"]:=hm 49 (.none) vy X G (by kernel_rfl) fun _ _ _ _ _ _=>l8 fun _ _=>rfl
  have h_total:aY (kK w.params) mg "total" kn 57 _ ["row"]:=hm 56 (.none) vy X G (by kernel_rfl) fun _ _ _ _ _ _=>yz fun _=>rfl
  have h_is_number:aY (kK w.params) mg "is_number" et 64 _ ["thing"]:=hm 63 (.none) yy X G (by kernel_rfl) fun _ _ _ _ _ _=>yz fun _=>rfl
  have h_is_row_of:aY (kK w.params) mg "is_row_of" cO 71 _ ["thing","many"]:=hm 70 (.none) yy X G (by kernel_rfl) fun _ _ _ _ _ _=>l8 fun _ _=>rfl
  have h_is_fraction:aY (kK w.params) mg "is_fraction" c9 78 _ ["thing"]:=hm 77 (.none) yy X G (by kernel_rfl) fun _ _ _ _ _ _=>yz fun _=>rfl
  have h_is_from_zero:aY (kK w.params) mg "is_from_zero" bY 85 _ ["thing"]:=hm 84 (.none) yy X G (by kernel_rfl) fun _ _ _ _ _ _=>yz fun _=>rfl
  have h_is_row_from_zero:aY (kK w.params) mg "is_row_from_zero" bo 90 _ ["thing","many"]:=hm 89 (.none) yy X G (by kernel_rfl) fun _ _ _ _ _ _=>l8 fun _ _=>rfl
  have h_gain_of:aY (kK w.params) mg "gain_of" gN 97 _ ["tie"]:=hm 96 (.none) Ga X G (by kernel_rfl) fun _ _ _ _ _ _=>yz fun _=>rfl
  have h_is_prices_form:aY (kK w.params) mg "is_prices_form" bZ 104 _ ["web","thing"]:=hm 103 (.none) CV X G (by kernel_rfl) fun _ _ _ _ _ _=>l8 fun _ _=>rfl
  have h_paid_for:aY (kK w.params) mg "paid_for" fH 111 _ ["web","prices","tie"]:=hm 110 (.none) CV X G (by kernel_rfl) fun _ _ _ _ _ _=>ET fun _ _ _=>rfl
  have h_prices_hold:aY (kK w.params) mg "prices_hold" cB 116 _ ["web","thing"]:=hm 115 (.none) CV X G (by kernel_rfl) fun _ _ _ _ _ _=>l8 fun _ _=>rfl
  have hLmixed:aY (kK w.params) mg "_law_mixed" ki 123 _ ["_law_cell","_law_k"]:=hm 122 (.none) fj X G (by kernel_rfl) fun _ _ _ _ _ _=>l8 fun _ _=>rfl
  have hLdraws:aY (kK w.params) mg "_law_draws" kh 130 _ ["_law_script"]:=hm 129 (.none) fj X G (by kernel_rfl) fun _ _ _ _ _ _=>yz fun _=>rfl
  have hLnext:aY (kK w.params) mg "_law_next" iP 137 _ ["_law_drawn"]:=hm 136 (.none) fj X G (by kernel_rfl) fun _ _ _ _ _ _=>yz fun _=>rfl
  have hLgcd:aY (kK w.params) mg "_law_gcd" oQ 144 _ ["_law_one","_law_other"]:=hm 143 (.none) fj X G (by kernel_rfl) fun _ _ _ _ _ _=>l8 fun _ _=>rfl
  have hLlow:aY (kK w.params) mg "_law_low" jh 151 _ ["_law_top","_law_bottom"]:=hm 150 (.none) fj X G (by kernel_rfl) fun _ _ _ _ _ _=>l8 fun _ _=>rfl
  have hLplus:aY (kK w.params) mg "_law_plus" lm 158 _ ["_law_one","_law_other"]:=hm 157 (.none) fj X G (by kernel_rfl) fun _ _ _ _ _ _=>l8 fun _ _=>rfl
  have hLtimes:aY (kK w.params) mg "_law_times" kl 165 _ ["_law_one","_law_other"]:=hm 164 (.none) fj X G (by kernel_rfl) fun _ _ _ _ _ _=>l8 fun _ _=>rfl
  have hLsays:aY (kK w.params) mg "_law_says" nG 172 _ ["_law_found","_law_due"]:=hm 171 (.none) fj X G (by kernel_rfl) fun _ _ _ _ _ _=>l8 fun _ _=>rfl
  have hLchance:aY (kK w.params) mg "_law_chance" iO 179 _ ["_law_number","_law_kind"]:=hm 178 (.none) fj X G (by kernel_rfl) fun _ _ _ _ _ _=>l8 fun _ _=>rfl
  have hLworth:aY (kK w.params) mg "_law_worth" km 186 _ ["_law_number","_law_kind"]:=hm 185 (.none) fj X G (by kernel_rfl) fun _ _ _ _ _ _=>l8 fun _ _=>rfl
  have hLties:aY (kK w.params) mg "_law_ties" nH 193 _ ["_law_drawn","_law_things","_law_many"]:=hm 192 (.none) fj X G (by kernel_rfl) fun _ _ _ _ _ _=>ET fun _ _ _=>rfl
  have hLweb:aY (kK w.params) mg "_law_web" qW 200 _ ["_law_drawn","_law_most","_law_ties_here"]:=hm 199 (.none) fj X G (by kernel_rfl) fun _ _ _ _ _ _=>ET fun _ _ _=>rfl
  have hLodd:aY (kK w.params) mg "_law_odd" qV 207 _ ["_law_number"]:=hm 206 (.none) fj X G (by kernel_rfl) fun _ _ _ _ _ _=>yz fun _=>rfl
  have hLis_fraction:aY (kK w.params) mg "_law_is_fraction" c8 214 _ ["_law_thing"]:=hm 213 (.none) fj X G (by kernel_rfl) fun _ _ _ _ _ _=>yz fun _=>rfl
  have hLlacking:aY (kK w.params) mg "_law_lacking" eY 221 _ ["_law_web_here","_law_prices_here","_law_tie"]:=hm 220 (.none) fj X G (by kernel_rfl) fun _ _ _ _ _ _=>ET fun _ _ _=>rfl
  have hLprice:aY (kK w.params) mg "_law_price" kj 228 _ ["_law_number","_law_kind"]:=hm 227 (.none) fj X G (by kernel_rfl) fun _ _ _ _ _ _=>l8 fun _ _=>rfl
  have hLprices:aY (kK w.params) mg "_law_prices" fD 233 _ ["_law_drawn","_law_web_here"]:=hm 232 (.none) fj X G (by kernel_rfl) fun _ _ _ _ _ _=>l8 fun _ _=>rfl
  have hLare_prices:aY (kK w.params) mg "_law_are_prices" cT 238 _ ["_law_thing","_law_many"]:=hm 237 (.none) fj X G (by kernel_rfl) fun _ _ _ _ _ _=>l8 fun _ _=>rfl
  have hLright:aY (kK w.params) mg "_law_right" i7 243 _ ["_law_web_here","_law_thing"]:=hm 242 (.none) fj X G (by kernel_rfl) fun _ _ _ _ _ _=>l8 fun _ _=>rfl
  have hLbent_price:aY (kK w.params) mg "_law_bent_price" cU 250 _ ["_law_number","_law_price_here"]:=hm 249 (.none) fj X G (by kernel_rfl) fun _ _ _ _ _ _=>l8 fun _ _=>rfl
  have hLbent_row:aY (kK w.params) mg "_law_bent_row" fB 257 _ ["_law_number","_law_row"]:=hm 256 (.none) fj X G (by kernel_rfl) fun _ _ _ _ _ _=>l8 fun _ _=>rfl
  have hLbent:aY (kK w.params) mg "_law_bent" nF 264 _ ["_law_number","_law_prices_here"]:=hm 263 (.none) fj X G (by kernel_rfl) fun _ _ _ _ _ _=>l8 fun _ _=>rfl
  have h_law:aY (kK w.params) mg "law" lI 269 _ ["_law_script"]:=hm 268 (.none) fj X G (by kernel_rfl) fun _ _ _ _ _ _=>yz fun _=>rfl
  have lG_15:List.lookup 15 (kK w.params)=some (kT [.int (0) 189,.int (1) 190] 0):=by kernel_rfl
  have m_ZERO:=W.mg_of X G (show W.nsIn (kK w.params) mainGlobals "ZERO"=some (some (.ref 15)) by kernel_rfl)
  have c_ZERO:∀F,DA (kK w.params) F (.tuple [.int (0),.int (1)]) (.ref 15):=fun F=>by simp only [DA,aJ];exact⟨15,[V.int (0),V.int (1)],rfl,.inr ⟨_,_,_,lG_15,rfl,rfl,rfl,(by show 2≤sizeLine;decide),(.cons ⟨_,rfl⟩ (.cons ⟨_,rfl⟩ .nil))⟩,⟨_,_,rfl,rfl,⟨_,_,rfl,rfl,rfl⟩⟩⟩
  refine⟨W.fnOf "law" "law" (dt lI) (cR lI) (am lI) .none .none (.none) fj none (.ref 268) .none,fun s v=>.of_eq rfl,fun base _ _=>?_⟩
  have G_common_divisor:=j9 (P:=l.prog) (w:=w) (base:=base) h_common_divisor T
  have G_lowest:=vc (P:=l.prog) (w:=w) (base:=base) h_lowest T h_common_divisor G_common_divisor
  have G_plus:=zl (P:=l.prog) (w:=w) (base:=base) h_plus T h_lowest G_lowest
  have G_times:=xj (P:=l.prog) (w:=w) (base:=base) h_times T h_lowest G_lowest
  have G_less:=zi (P:=l.prog) (w:=w) (base:=base) h_less T
  have G_total:=xl (P:=l.prog) (w:=w) (base:=base) h_total T h_plus G_plus m_ZERO c_ZERO
  have G_is_number:=pU (P:=l.prog) (w:=w) (base:=base) h_is_number T
  have G_is_row_of:=pV (P:=l.prog) (w:=w) (base:=base) h_is_row_of T
  have G_is_fraction:=nh (P:=l.prog) (w:=w) (base:=base) h_is_fraction T h_is_row_of G_is_row_of h_lowest G_lowest h_is_number G_is_number
  have G_is_from_zero:=lU (P:=l.prog) (w:=w) (base:=base) h_is_from_zero T h_is_fraction G_is_fraction
  have G_is_row_from_zero:=jc (P:=l.prog) (w:=w) (base:=base) h_is_row_from_zero T h_is_row_of G_is_row_of h_is_from_zero G_is_from_zero
  have G_gain_of:=sI (P:=l.prog) (w:=w) (base:=base) h_gain_of T h_times G_times
  have G_is_prices_form:=j_ (P:=l.prog) (w:=w) (base:=base) h_is_prices_form T h_is_row_of G_is_row_of h_is_from_zero G_is_from_zero h_is_row_from_zero G_is_row_from_zero
  have G_paid_for:=qP (P:=l.prog) (w:=w) (base:=base) h_paid_for T h_times G_times h_total G_total h_plus G_plus
  have G_prices_hold:=ni (P:=l.prog) (w:=w) (base:=base) h_prices_hold T h_is_prices_form G_is_prices_form h_less G_less h_paid_for G_paid_for h_gain_of G_gain_of
  have GLmixed:=xc (P:=l.prog) (w:=w) (base:=base) hLmixed T
  have GLdraws:=w_ (P:=l.prog) (w:=w) (base:=base) hLdraws T hLmixed GLmixed
  have GLnext:=zc (P:=l.prog) (w:=w) (base:=base) hLnext T
  have GLgcd:=Bs (P:=l.prog) (w:=w) (base:=base) hLgcd T
  have GLlow:=Bu (P:=l.prog) (w:=w) (base:=base) hLlow T hLgcd GLgcd
  have GLplus:=ze (P:=l.prog) (w:=w) (base:=base) hLplus T hLlow GLlow
  have GLtimes:=xh (P:=l.prog) (w:=w) (base:=base) hLtimes T hLlow GLlow
  have GLsays:=zg (P:=l.prog) (w:=w) (base:=base) hLsays T
  have GLchance:=va (P:=l.prog) (w:=w) (base:=base) hLchance T hLlow GLlow
  have GLworth:=xi (P:=l.prog) (w:=w) (base:=base) hLworth T
  have GLties:=zh (P:=l.prog) (w:=w) (base:=base) hLties T hLnext GLnext hLchance GLchance hLworth GLworth
  have GLweb:=Bw (P:=l.prog) (w:=w) (base:=base) hLweb T hLties GLties hLnext GLnext
  have GLodd:=Bv (P:=l.prog) (w:=w) (base:=base) hLodd T
  have GLis_fraction:=m_ (P:=l.prog) (w:=w) (base:=base) hLis_fraction T hLgcd GLgcd
  have GLlacking:=sG (P:=l.prog) (w:=w) (base:=base) hLlacking T hLtimes GLtimes hLplus GLplus
  have GLprice:=xf (P:=l.prog) (w:=w) (base:=base) hLprice T hLlow GLlow
  have GLprices:=vb (P:=l.prog) (w:=w) (base:=base) hLprices T hLprice GLprice hLnext GLnext hLlacking GLlacking hLplus GLplus hLlow GLlow
  have GLare_prices:=og (P:=l.prog) (w:=w) (base:=base) hLare_prices T hLis_fraction GLis_fraction
  have GLright:=xg (P:=l.prog) (w:=w) (base:=base) hLright T hLare_prices GLare_prices hLlacking GLlacking
  have GLbent_price:=oh (P:=l.prog) (w:=w) (base:=base) hLbent_price T hLlow GLlow
  have GLbent_row:=qO (P:=l.prog) (w:=w) (base:=base) hLbent_row T hLbent_price GLbent_price
  have GLbent:=zb (P:=l.prog) (w:=w) (base:=base) hLbent T hLbent_row GLbent_row hLbent_price GLbent_price
  have G_law:=Bx (P:=l.prog) (w:=w) (base:=base) h_law T hLdraws GLdraws hLweb GLweb hLprices GLprices h_prices_hold G_prices_hold hLodd GLodd hLbent GLbent hLnext GLnext hLsays GLsays hLright GLright
  exact G_law
def Eo(K:W.Frag):Sp:=fun vs H Q _=>∃(a:Addr) (ns:List Int),vs=[.ref a]∧eI K H a (ns.map V.int)∧ns.length≤63∧∀H',Q (.bl true) H'
theorem Bl{K:W.Frag}{vs:List V}{H:Hp}{Q:VK}{E:XK}(h:Eo K vs H Q E):bD K 1 m5 vs H Q E:=by
  obtain⟨a,ns,rfl,hS,hl,q⟩:=h
  obtain⟨as',hm⟩:=wR ns hl
  exact sS hS hm q
theorem walk{l:W.OpenLaw}{q:Program}{loose:List Str}{XP:(Str→Option Value)→Heap→Prop}{YP:World→Heap→Prop}{d:DefRec}{K:Params→W.Frag}(hn:l.most=some 63)(hdf:d.params.defaults=[])
    (hY:∀(w:World) (h:Heap),YP w h→(K w.params).In h)
    (F:∀(w:World) (mg:Str→Option Value) (fa:Addr) (h:Heap),(K w.params).In h→h.Ns mainGlobals mg→mg d.name=some (.ref fa)→
      ∃fd:FuncData,(∀(s:Shared) (u:Value),BindsTo s fd ⟨[u],[]⟩ [("_law_script",u)])∧∀base:Heap,(K w.params).In base→base.Ns mainGlobals mg→aC l.prog w (K w.params) mg base bB 8 fa fd ["_law_script"] (bD (K w.params) 1 m5)):
    W.WalkO q loose XP YP l.row.toRowW d [] (fun f vs=>PySem.call f vs):=
  L2.walk_of (n:=63) (k:=8) (x:="_law_script") (CX:=fun _=>bB) (sp:=fun w=>bD (K w.params) 1 m5) hn (by decide) hdf ⟨rfl,by decide,by decide,rfl⟩ hY F (fun _ _ a ns hl _ hS=>Bl ⟨a,ns,rfl,hS,hl,fun _=>rfl⟩) fun _ _ _ _ _ z=>z
end V47
open PySem PySem.W PyProof.Rows
set_option maxRecDepth 100000 in
set_option maxHeartbeats 0 in
theorem PySem.Challenge.cw_askedpairs_k47_prices_right_or_not_holds : PySem.Challenge.rw_askedpairs_k47_prices_right_or_not.Holds := by
  w_on;o_law
  refine holds_open (q:=V47.kq) (loose:=[]) (Xt:=fun s=>xlAt V47.kq [] s&&recOk (RowW.records (OpenRow.toRowW (OpenLaw.row PySem.Challenge.rw_askedpairs_k47_prices_right_or_not))) s) (XP:=XL V47.kq []) (Yf:=Hook.obs V47.kH) (Ya:=Hook.val V47.kH) (YP:=Hook.says V47.kH) (N:=2594) V47.left (Hook.of V47.kH) (Hook.keeps V47.kH) (fun s e=>xl_of s (Bool.and_eq_true_iff.mp e).1) XL.keeps (by rfl) (by rfl) (by rfl) (fun s e=>recFacts_of (Bool.and_eq_true_iff.mp e).2) (by rfl) (by assumption) (by decide+kernel) ⟨rfl,rfl,rfl,rfl,rfl,by decide+kernel⟩ ?hw ?hc
  case hw=>w_witness2
  case hc=>exact V47.walk (l:=PySem.Challenge.rw_askedpairs_k47_prices_right_or_not) rfl rfl (fun w h Y=>kIn_of Y) (fun w mg fa h KX G hmg=>V47.all_mk KX G hmg)
