import PyProof.Rows.All
import Wide.All
import OpenK.AllK
import Wide.FinOn
import Lean
import PyProof.EqAt
import PyProof.EqKinds
import PyProof.TupleCall
import PyProof.ReprRoads
import PyProof.IsInstance
import PyProof.IsInstanceH
import PyProof.FitsBits
import PyProof.CompFree
import PyProof.Rows.SumAny
import PyProof.Rows.SortShell
import PyProof.Rows.TupAdd
import PyProof.NeKinds
import PyProof.ConsumeWalk
import PyProof.ZipIter
import PyProof.TupleIter
import PyProof.LayNew
import PyProof.CollectWalk
import PyProof.ListNew
import PyProof.Draws
import PyProof.EnumFor
import PyProof.EnumMake
import PyProof.ListRange
import PyProof.CollectIter
import KE.KRevIter
import PyProof.ListMulRoad
import PyProof.TupleOps
import PyProof.TupleOfStr
import PyProof.WalksMore
import PyProof.FactsAll.range_iterator
import PyProof.IsRules
import PyProof.CompUse
import PyProof.P3In
import PyProof.EqLayable
import KE.KIsAll
import PyProof.Rows.FactsN_isinstance
import PyProof.CallStr
import PyProof.Rows.StrWeight2
import PyProof.Rows.FStr
import PyProof.StrLawsRepr
import PyProof.Rows.SetFrom
import KE.KIntText
import KE.KRevSl
import PyProof.Rows.SeqMore2
import PySem.Challenge.RW_askedpairs_k48_worths_of_papers
set_option Elab.async false
set_option linter.all false
set_option maxRecDepth 100000
namespace L2
open PySem PySem.Spec PyProof.Rows
abbrev lH:=Sum Int Str
def vQ:lH→Value→Bool
  | .inl k,v=>Value.isInt k v
  | .inr x,v=>Value.isStrOf x v
def Et(w:World):lH→Int
  | .inl k=>hashInt k
  | .inr x=>hashStr w x
theorem bu:∀{k:lH} {v:Value},vQ k v=true→(∃i t,k=Sum.inl i∧v=Value.int i t)∨(∃x t,k=Sum.inr x∧v=Value.str x t)
  | .inl i,v,h=>by
    obtain⟨t,e⟩:=Value.isInt_shape (k:=i) (v:=v) h
    exact .inl ⟨i,t,rfl,e⟩
  | .inr x,v,h=>by
    obtain⟨t,e⟩:=Value.isStrOf_shape (x:=x) (v:=v) h
    exact .inr ⟨x,t,rfl,e⟩
theorem AH(a b:Int):decide ((Sum.inl a:lH)=Sum.inl b)=(a==b):=by
  by_cases e:a=b
  · subst e;simp
  · have h:¬(Sum.inl a:lH)=Sum.inl b:=fun q=>e (Sum.inl.inj q)
    rw [decide_eq_false h]
    exact(beq_eq_false_iff_ne.mpr e).symm
theorem AK(a b:Str):decide ((Sum.inr a:lH)=Sum.inr b)=decide (a=b):=by
  by_cases e:a=b
  · subst e;simp
  · have h:¬(Sum.inr a:lH)=Sum.inr b:=fun q=>e (Sum.inr.inj q)
    rw [decide_eq_false h,decide_eq_false e]
theorem AI(a:Int)(b:Str):decide ((Sum.inl a:lH)=Sum.inr b)=false:=decide_eq_false (fun q=>nomatch q)
theorem AJ(a:Str)(b:Int):decide ((Sum.inr a:lH)=Sum.inl b)=false:=decide_eq_false (fun q=>nomatch q)
def o_(prog:Program)(w:World):PySem.KeyKind prog w lH where
  is:=vQ
  hash:=Et w
  inj:=fun v a b ha hb=>by
    rcases bu ha with ⟨i,t,rfl,rfl⟩ | ⟨x,t,rfl,rfl⟩
    · rcases bu hb with ⟨j,u,rfl,e⟩ | ⟨y,u,rfl,e⟩
      · injection e with e1 _;rw [e1]
      · exact nomatch e
    · rcases bu hb with ⟨j,u,rfl,e⟩ | ⟨y,u,rfl,e⟩
      · exact nomatch e
      · injection e with e1 _;rw [e1]
  byValue:=fun k v h=>by
    rcases bu h with ⟨i,t,rfl,rfl⟩ | ⟨x,t,rfl,rfl⟩<;>rfl
  pyHash:=fun hv h=>by
    rcases bu hv with ⟨i,t,rfl,rfl⟩ | ⟨x,t,rfl,rfl⟩
    · exact wpAny_pyHash_int h
    · exact wpAny_pyHash_str h
  eqBool:=fun hu hv h=>by
    rcases bu hu with ⟨i,t,rfl,rfl⟩ | ⟨x,t,rfl,rfl⟩
    · rcases bu hv with ⟨j,u,rfl,rfl⟩ | ⟨y,u,rfl,rfl⟩
      · rw [AH] at h;exact wpAny_eqBool_int h
      · rw [AI] at h;exact SeqAt.EqAt.int_str i t y u _ _ _ _ h
    · rcases bu hv with ⟨j,u,rfl,rfl⟩ | ⟨y,u,rfl,rfl⟩
      · rw [AJ] at h;exact SeqAt.EqAt.str_int x t j u _ _ _ _ h
      · rw [AK] at h;exact wpAny_eqBool_str h
  «strs»:=fun k x t v h=>by
    rcases bu h with ⟨i,u,rfl,e⟩ | ⟨y,u,rfl,e⟩
    · exact nomatch e
    · injection e with e1 _
      subst e1
      cases v<;>rfl
end L2
namespace L2
open PySem PySem.Spec PyProof.Rows
inductive V where
  | non | bl (b:Bool) | int (i:Int) | str (x:Str) | byt (b:Array UInt8) | flt (b:UInt64) | ref (a:Addr) | ty (n:String)
  deriving DecidableEq
def bz:V→Value→Prop
  | .non,u=>u=Value.none
  | .bl b,u=>u=Value.bool b
  | .int i,u=>∃t,u=Value.int i t
  | .str x,u=>∃t,u=Value.str x t
  | .byt b,u=>∃t,u=Value.bytes b t
  | .flt b,u=>∃t,u=Value.float b t
  | .ref a,u=>u=Value.ref a
  | .ty n,u=>u=Value.type n
abbrev aM:List V→List Value→Prop:=Paired bz
theorem aM.length{xs:List V}{us:List Value}(r:aM xs us):xs.length=us.length:=Paired.length r
theorem aM.get:∀{xs:List V} {us:List Value} {i:Nat} {x:V},aM xs us→xs[i]?=some x→∃u,us[i]?=some u∧bz x u
  | _,_,_,_,.nil,e=>by simp at e
  | _,_,0,_,.cons r _,e=>by simp at e;subst e;exact⟨_,rfl,r⟩
  | _,_,i+1,x,.cons _ t,e=>by
    obtain⟨u,h1,h2⟩:=aM.get (i:=i) (x:=x) t (by simpa using e)
    exact⟨u,by simpa using h1,h2⟩
theorem aM.set{x:V}{u:Value}(r:bz x u):∀{xs:List V} {us:List Value} (i:Nat),aM xs us→aM (xs.set i x) (us.set i u)
  | _,_,_,.nil=>.nil
  | _,_,0,.cons _ t=>.cons r t
  | _,_,i+1,.cons q t=>.cons q (aM.set r i t)
theorem aM.append:∀{xs ys:List V} {us ws:List Value},aM xs us→aM ys ws→aM (xs++ys) (us++ws)
  | _,_,_,_,.nil,s=>s
  | _,_,_,_,.cons r t,s=>.cons r (aM.append t s)
theorem aM.take:∀{xs:List V} {us:List Value} (n:Nat),aM xs us→aM (xs.take n) (us.take n)
  | _,_,0,_=>.nil
  | _,_,_+1,.nil=>.nil
  | _,_,n+1,.cons r t=>.cons r (aM.take n t)
theorem aM.drop:∀{xs:List V} {us:List Value} (n:Nat),aM xs us→aM (xs.drop n) (us.drop n)
  | _,_,0,r=>r
  | _,_,_+1,.nil=>.nil
  | _,_,n+1,.cons _ t=>aM.drop n t
def Cp:Option V→Option Value→Prop
  | some v,some u=>bz v u
  | none,none=>True
  | _,_=>False
def KV{κ:Type}:List (κ × V)→List (κ × Value)→Prop:=Paired fun(p:κ × V) (q:κ × Value)=>p.1=q.1∧bz p.2 q.2
def kV:lH→V
  | .inl i=>.int i
  | .inr x=>.str x
inductive HO where
  /-- a list -/
  | lst (xs:List V)
  /-- a tuple (never changes) -/
  | tup (xs:List V)
  /-- a dict whose keys are ints and texts; one whose keys are tuples of ints and texts (the empty one is both) -/
  | dK (kvs:List (lH × V)) | dT (kvs:List (List lH × V))
  /-- a set of ints: its members, its size -/
  | set (S:Int→Bool) (n:Nat)
  /-- an instance of the class at C, its dict at dx, its attributes -/
  | ins (C dx:Addr) (fs:List (Str × V))
  /-- the dict of the instance at x -/
  | own (x:Addr)
  /-- the dict of an exception -/
  | xd (fs:List (Str × V))
  /-- a bound method, f of x -/
  | met (f x:Addr)
  /-- a range object lo, lo + 1, .. below hi -/
  | rng (lo hi:Int)
  /-- a thing that is known to the object (the script; a dict while a loop walks it): read, never written while it is so -/
  | frz (o:Obj) (u:HO)
  /-- a code object's table -/
  | tbl (ps:Array Value)
  /-- any other thing, by what is true of its one object (a def of one's own: SetO a S n := HO.ext fun h => ..) -/
  | ext (φ:Heap→Prop)
abbrev Hp:=Addr→Option HO
def bw(H:Hp)(a:Addr)(o:HO):Hp:=fun b=>if b=a then some o else H b
theorem aL{H:Hp}{a:Addr}{o:HO}:bw H a o a=some o:=by unfold bw;rw [if_pos rfl]
theorem aQ{H:Hp}{a b:Addr}{o:HO}(h:b≠a):bw H a o b=H b:=by unfold bw;rw [if_neg h]
theorem dB{H:Hp}{a b:Addr}{o:HO}(h:H a=some o)(h':H b=none):a≠b:=by
  intro e;subst e;rw [h] at h';cases h'
def mR(h:Heap)(a:Addr)(items:Array Value):Prop:=∃o,h.get? a=some o∧o.cls=.type "tuple"∧∃n,o.data=.seq items n∧o.dict=none
theorem mR.tup{h:Heap}{a:Addr}{items:Array Value}(x:mR h a items):IsTup h a items:=let ⟨o,ho,hc,n,hd,_⟩:=x;⟨o,ho,hc,n,hd⟩
theorem mR.new(h:Heap)(items:Array Value):mR (h.push {cls:=.type "tuple",data:=.seq items}) h.objs.size items:=⟨_,Heap.get?_push_size _ rfl,rfl,_,rfl,rfl⟩
section
variable(P:Program)(w:World)
def dZ(H:Hp)(h:Heap)(a:Addr):HO→Prop
  | .lst xs=>xs.length≤sizeLine∧∃(its:List Value) (n:Nat),aM xs its∧h.get? a=some {cls:=.type "list",data:=.seq its.toArray n}
  | .tup xs=>xs.length≤sizeLine∧∃its:List Value,aM xs its∧mR h a its.toArray
  | .dK kvs=>kvs.length≤sizeLine∧(a==sysModules)=false∧∃vs,KV kvs vs∧h.DictOf (o_ P w) a vs
  | .dT kvs=>kvs.length≤sizeLine∧(a==sysModules)=false∧∃xs:List (List lH × Addr × Value),
      Paired (fun(p:List lH × V) (q:List lH × Addr × Value)=>p.1=q.1∧H q.2.1=some (.tup (p.1.map kV))∧bz p.2 q.2.2) kvs xs∧
      ∃o es ep,h.get? a=some o∧o.ExactDict∧o.data=.dict es ep∧es.toList=xs.map (entryOfKey (tupleKind (o_ P w)))∧(xs.map (·.1)).Nodup
  | .set S n=>h.SetOf (intKind P w) a S n
  | .ins C dx fs=>H dx=some (.own a)∧fs.length≤1000∧dx≠a∧h.get? a=some (PySem.W.instObj C dx)∧
      ∃mA,h.Ns1 dx mA∧(∀f,Cp (fs.lookup f) (mA f))∧PySem.Within mA (fs.map (·.1))
  | .own _=>∃o,h.get? a=some o
  | .xd fs=>∃mA,h.Ns1 a mA∧∀f,Cp (fs.lookup f) (mA f)
  | .rng lo hi=>∃t u v,h.get? a=some {cls:=.type "range",data:=.fields #[.int lo t,.int hi u,.int 1 v]}
  | .frz o u=>h.get? a=some o∧dZ H h a u
  | .tbl ps=>h.get? a=some {cls:=.none,data:=.fields ps}
  | .met f x=>h.get? a=some (PySem.W.methodObj (.ref f) (.ref x))
  | .ext φ=>φ h∧(∃o,h.get? a=some o)∧∀h1 h2:Heap,φ h1→(∀o,h1.get? a=some o→h2.get? a=some o)→φ h2
def lG(H:Hp)(h:Heap):Prop:=∀a o,H a=some o→dZ P w H h a o
end
section
variable{P:Program}{w:World}{H H':Hp}{h h':Heap}{a:Addr}{o:HO}
theorem dZ.lt(x:dZ P w H h a o):a < h.objs.size:=by
  cases o with
  | lst xs=>obtain⟨_,_,_,_,e⟩:=x;exact Heap.lt_size e
  | tup xs=>obtain⟨_,_,_,p⟩:=x;exact p.tup.lt
  | dK kvs=>obtain⟨_,_,_,_,o,_,_,e,_⟩:=x;exact Heap.lt_size e
  | dT kvs=>obtain⟨_,_,_,_,o,_,_,e,_⟩:=x;exact Heap.lt_size e
  | set S n=>obtain⟨o,_,_,_,e,_⟩:=x;exact Heap.lt_size e
  | ins C dx fs=>obtain⟨_,_,_,e,_⟩:=x;exact Heap.lt_size e
  | own y=>obtain⟨_,e⟩:=x;exact Heap.lt_size e
  | xd fs=>obtain⟨_,⟨_,_,_,e,_⟩,_⟩:=x;exact Heap.lt_size e
  | rng lo hi=>obtain⟨_,_,_,e⟩:=x;exact Heap.lt_size e
  | frz ob u=>obtain⟨e,_⟩:=x;exact Heap.lt_size e
  | tbl ps=>exact Heap.lt_size (show h.get? a=some _ from x)
  | met f y=>exact Heap.lt_size (show h.get? a=some _ from x)
  | ext φ=>obtain⟨_,⟨_,e⟩,_⟩:=x;exact Heap.lt_size e
theorem Paired.mapP{α β:Type}{F G:α→β→Prop}:∀{l₁:List α} {l₂:List β},Paired F l₁ l₂→(∀a b,F a b→G a b)→Paired G l₁ l₂
  | _,_,.nil,_=>.nil
  | _,_,.cons r t,f=>.cons (f _ _ r) (Paired.mapP t f)
theorem dZ.stay(x:dZ P w H h a o)(k:∀b u,(b=a∨H b=some (.own a))→h.get? b=some u→h'.get? b=some u)
    (ho:∀b,H b=some (.own a)→H' b=some (.own a))(ht:∀b xs,H b=some (.tup xs)→H' b=some (.tup xs)):dZ P w H' h' a o:=by
  induction o with
  | lst xs=>obtain⟨z,its,n,r,e⟩:=x;exact⟨z,its,n,r,k _ _ (.inl rfl) e⟩
  | tup xs=>obtain⟨z,its,r,ob,e,c⟩:=x;exact⟨z,its,r,ob,k _ _ (.inl rfl) e,c⟩
  | dK kvs=>obtain⟨z,y,vs,r,ob,es,ep,e,c⟩:=x;exact⟨z,y,vs,r,ob,es,ep,k _ _ (.inl rfl) e,c⟩
  | dT kvs=>
    obtain⟨z,y,xs,r,ob,es,ep,e,c⟩:=x
    exact⟨z,y,xs,Paired.mapP r fun p q z=>⟨z.1,ht _ _ z.2.1,z.2.2⟩,ob,es,ep,k _ _ (.inl rfl) e,c⟩
  | set S n=>obtain⟨ob,es,ep,t,e,c⟩:=x;exact⟨ob,es,ep,t,k _ _ (.inl rfl) e,c⟩
  | ins C dx fs=>
    obtain⟨d,z,ne,e,mA,⟨od,es,ep,e2,c⟩,r⟩:=x
    exact⟨ho _ d,z,ne,k _ _ (.inl rfl) e,mA,⟨od,es,ep,k _ _ (.inr d) e2,c⟩,r⟩
  | own y=>obtain⟨ob,e⟩:=x;exact⟨ob,k _ _ (.inl rfl) e⟩
  | xd fs=>obtain⟨mA,⟨od,es,ep,e,c⟩,r⟩:=x;exact⟨mA,⟨od,es,ep,k _ _ (.inl rfl) e,c⟩,r⟩
  | rng lo hi=>obtain⟨t,u,v,e⟩:=x;exact⟨t,u,v,k _ _ (.inl rfl) e⟩
  | frz ob u ih=>obtain⟨e,q⟩:=x;exact⟨k _ _ (.inl rfl) e,ih q⟩
  | tbl ps=>
    have e:h.get? a=some {cls:=.none,data:=.fields ps}:=x
    show h'.get? a=some {cls:=.none,data:=.fields ps}
    exact k a _ (.inl rfl) e
  | met f y=>
    have e:h.get? a=some (PySem.W.methodObj (.ref f) (.ref y)):=x
    show h'.get? a=some (PySem.W.methodObj (.ref f) (.ref y))
    exact k a _ (.inl rfl) e
  | ext φ=>obtain⟨p,⟨o,e⟩,st⟩:=x;exact⟨st _ _ p fun o q=>k _ _ (.inl rfl) q,⟨o,k _ _ (.inl rfl) e⟩,st⟩
theorem lG.lt(x:lG P w H h)(e:H a=some o):a < h.objs.size:=(x a o e).lt
theorem lG.fresh(x:lG P w H h)(e:h.objs.size≤a):H a=none:=by
  cases q:H a with
  | none=>rfl
  | some u=>exact absurd (Nat.lt_of_lt_of_le (x.lt q) e) (Nat.lt_irrefl _)
theorem lG.kept(x:lG P w H h)(k:∀b u,h.get? b=some u→h'.get? b=some u):lG P w H h':=fun a o e=>
  (x a o e).stay (fun b u _ q=>k b u q) (fun _ q=>q) fun _ _ q=>q
theorem lG.laid(x:lG P w H h)(k:∀b u,h.get? b=some u→h'.get? b=some u)(hp:h.objs.size≤a)(new:dZ P w (bw H a o) h' a o):lG P w (bw H a o) h':=fun b u e=>by
  have hn:=x.fresh hp
  by_cases hb:b=a
  · subst hb;rw [aL] at e;cases e;exact new
  · rw [aQ hb] at e
    exact(x b u e).stay (fun c v _ q=>k c v q) (fun c q=>by rw [aQ (dB q hn)];exact q) fun c xs q=>by rw [aQ (dB q hn)];exact q
end
def Rd(H:Hp)(a:Addr)(u:HO):Prop:=H a=some u∨∃o,H a=some (.frz o u)
theorem Rd.ok{P:Program}{w:World}{H:Hp}{h:Heap}{a:Addr}{u:HO}(r:Rd H a u)(x:lG P w H h):dZ P w H h a u:=by
  rcases r with r | ⟨o,r⟩
  · exact x a u r
  · obtain⟨_,q⟩:=x a _ r
    exact q
def DO:Option HO→Prop
  | some (.lst _)=>True
  | some (.dK _)=>True
  | some (.dT _)=>True
  | some (.set _ _)=>True
  | some (.ins _ _ _)=>True
  | some (.ext _)=>True
  | _=>False
section
variable{P:Program}{w:World}{H:Hp}{h h':Heap}{x e:Addr}{o':HO}
theorem lG.write(ok:lG P w H h)(mu:DO (H x))(he:e=x∨H e=some (.own x))(k:∀b u,b≠e→h.get? b=some u→h'.get? b=some u)(heo:∃u,h'.get? e=some u)
    (new:dZ P w (bw H x o') h' x o'):lG P w (bw H x o') h':=fun b u q=>by
  have nown:∀c y,H c=some (.own y)→c≠x:=fun c y r z=>by subst z;rw [r] at mu;exact mu
  have ntup:∀c xs,H c=some (.tup xs)→c≠x:=fun c xs r z=>by subst z;rw [r] at mu;exact mu
  by_cases hb:b=x
  · subst hb;rw [aL] at q;cases q;exact new
  · rw [aQ hb] at q
    by_cases hbe:b=e
    · have q':H b=some (.own x):=by
        rcases he with z | z
        · exact absurd (hbe.trans z) hb
        · rw [hbe];exact z
      rw [q] at q';cases q'
      obtain⟨v,hv⟩:=heo
      exact⟨v,by rw [hbe];exact hv⟩
    · refine(ok b u q).stay (fun c v hc r=>k c v ?_ r) (fun c r=>by rw [aQ (nown c b r)];exact r) fun c xs r=>by rw [aQ (ntup c xs r)];exact r
      rcases hc with rfl | hc
      · exact hbe
      · rintro rfl
        rcases he with z | z
        · exact nown c b hc z
        · rw [hc] at z;cases z;exact hb rfl
end
structure Un (fs ex:List Addr) (H H':Hp) (h h':Heap):Prop where
  keep:∀b o,h.get? b=some o→H b=none→b∉fs→b∉ex→h'.get? b=some o
  slot:∀b o,h.get? b=some o→H b=none→b∈fs→b∉ex→∃sl,h'.get? b=some {o with slots:=sl}
  free:∀b o,h.get? b=some o→H b=none→b∉ex→H' b=none
  there:∀b o,h.get? b=some o→b∉ex→∃o',h'.get? b=some o'
  tups:∀b xs,H b=some (.tup xs)→H' b=some (.tup xs)
  frzs:∀b o u,H b=some (.frz o u)→H' b=some (.frz o u)
  tbls:∀b ps,H b=some (.tbl ps)→∃more,H' b=some (.tbl (ps++more))
section
variable{fs fs' ex ex':List Addr}{H H1 H2:Hp}{h h1 h2 h':Heap}{a x e:Addr}{o:HO}
theorem Un.any(u:Un fs ex H H1 h h1){b:Addr}{ob:Obj}(q:h.get? b=some ob)(n:H b=none)(hx:b∉ex):∃sl,h1.get? b=some {ob with slots:=sl}:=by
  by_cases hb:b∈fs
  · exact u.slot b ob q n hb hx
  · exact⟨ob.slots,u.keep b ob q n hb hx⟩
theorem Un.kept(k:∀b u,h.get? b=some u→h'.get? b=some u):Un fs ex H H h h':=
  ⟨fun b ob q _ _ _=>k b ob q,fun b ob q _ _ _=>⟨ob.slots,k b ob q⟩,fun _ _ _ n _=>n,fun b ob q _=>⟨ob,k b ob q⟩,fun _ _ q=>q,fun _ _ _ q=>q,fun _ ps q=>⟨#[],by rw [q];simp⟩⟩
theorem Un.refl:Un fs ex H H h h:=Un.kept fun _ _ q=>q
theorem Un.laid(k:∀b u,h.get? b=some u→h'.get? b=some u)(hp:h.objs.size≤a)(hn:H a=none):Un fs ex H (bw H a o) h h' where
  keep:=fun b u q _ _ _=>k b u q
  slot:=fun b u q _ _ _=>⟨u.slots,k b u q⟩
  free:=fun b u q n _=>by rw [aQ (Nat.ne_of_lt (Nat.lt_of_lt_of_le (Heap.lt_size q) hp))];exact n
  there:=fun b u q _=>⟨u,k b u q⟩
  tups:=fun b xs q=>by rw [aQ (dB q hn)];exact q
  frzs:=fun b u xs q=>by rw [aQ (dB q hn)];exact q
  tbls:=fun b ps q=>⟨#[],by rw [aQ (dB q hn),q];simp⟩
theorem Un.write(mu:DO (H x))(he:e=x∨H e=some (.own x))(k:∀b u,b≠e→h.get? b=some u→h'.get? b=some u)(heo:∃u,h'.get? e=some u):Un fs ex H (bw H x o) h h':=by
  have hx:∀b,H b=none→b≠x:=fun b n z=>by subst z;rw [n] at mu;exact mu
  have hb:∀b,H b=none→b≠e:=fun b n z=>by
    subst z
    rcases he with r | r
    · exact hx b n r
    · rw [n] at r;cases r
  have hm:∀b u,H b=some u→¬DO (some u)→b≠x:=fun b u q nm z=>by subst z;rw [q] at mu;exact nm mu
  refine⟨fun b u q n _ _=>k b u (hb b n) q,fun b u q n _ _=>⟨u.slots,k b u (hb b n) q⟩,fun b u q n _=>by rw [aQ (hx b n)];exact n,fun b u q _=>?_,
    fun b xs q=>by rw [aQ (hm b _ q fun z=>z)];exact q,fun b u xs q=>by rw [aQ (hm b _ q fun z=>z)];exact q,fun b ps q=>⟨#[],by rw [aQ (hm b _ q fun z=>z),q];simp⟩⟩
  by_cases hbe:b=e
  · subst hbe;exact heo
  · exact⟨u,k b u hbe q⟩
end
def D6(h:Heap)(H:Hp):List Addr:=(List.range h.objs.size).filter fun a=>(H a).isSome
def oU(h:Heap)(H:Hp):Heap:=PySem.W.hideAll h (D6 h H)
theorem tZ(h:Heap)(H:Hp):(oU h H).objs.size=h.objs.size:=PySem.W.hideAll_size _ _
theorem vN{h:Heap}{H:Hp}{b:Addr}{o:Obj}(e:h.get? b=some o)(n:H b=none):(oU h H).get? b=some o:=
  PySem.W.hideAll_get _ e fun hm=>by
    have q:(H b).isSome=true:=(List.mem_filter.mp hm).2
    rw [n] at q;simp at q
theorem yn{h:Heap}{H:Hp}{b:Addr}{o:Obj}(e:(oU h H).get? b=some o):h.get? b=some o∧H b=none:=by
  have e':h.get? b=some o:=PySem.W.of_hideAll (D6 h H) e
  refine⟨e',?_⟩
  cases q:H b with
  | none=>rfl
  | some x=>
    have hm:b∈D6 h H:=List.mem_filter.mpr ⟨List.mem_range.mpr (Heap.lt_size e'),by simp [q]⟩
    have z:(oU h H).get? b=none:=PySem.W.hideAll_none (D6 h H) hm
    rw [z] at e;cases e
def ou(g h:Heap)(L:Addr):List (Addr × Obj):=(List.range h.objs.size).filterMap fun a=>if a=L∨(g.get? a).isSome=true then none else(h.get? a).map fun o=>(a,o)
theorem mr{g h:Heap}{L:Addr}{p:Addr × Obj}(hp:p∈ou g h L):p.1≠L∧g.get? p.1=none∧h.get? p.1=some p.2:=by
  obtain⟨b,_,e⟩:=List.mem_filterMap.mp hp
  split at e
  · cases e
  · rename_i hn
    cases q:h.get? b with
    | none=>rw [q] at e;simp at e
    | some u=>
      rw [q] at e
      simp only [Option.map_some,Option.some.injEq] at e
      subst e
      refine⟨fun z=>hn (.inl z),?_,q⟩
      show g.get? b=none
      cases r:g.get? b with
      | none=>rfl
      | some v=>exact(hn (.inr (by simp [r]))).elim
def ib(g h:Heap)(L d:Addr):List (Addr × Obj):=(ou g h L).filter fun p=>decide (p.1≠d)
theorem wd{g h:Heap}{L:Addr}:News g L h (ou g h L):=fun p hp=>let ⟨a,b,c⟩:=mr hp;⟨c,a,b⟩
end L2
namespace L2
open PySem PySem.Spec PyProof.Rows
structure Mod (K:PySem.W.Frag) (mg:Str→Option Value) (base:Heap):Prop where
  kin:K.In base
  glob:base.Ns mainGlobals mg
  blt:∃mb,base.Ns builtinsNs mb∧∀x:Str,x≠"__name__"→mb x=bootBuiltins x
  nolimit:base.NoLimit
structure Cx where
  prog:Program
  w:World
  K:PySem.W.Frag
  mg:Str→Option Value
  base:Heap
  A:Around
  N:List Str
  s₀:Shared
  H₀:Hp
  env:Env
  outer:List Env
  stack:List Env
  ex:List Addr
  fn:Str→Bool
  calm:Bool
  pn:List (Addr × Obj)
  xe:Value→Shared→Prop
def vy(l:List Env):List Addr:=l.filterMap (·.frame)
abbrev Cx.fs(X:Cx):List Addr:=vy X.outer
def Cs(sc:Scope)(x:Str):Prop:=sc.names.lookup x=some .local∨sc.names.lookup x=some .cell∨sc.names.lookup x=some .free
def Cg(sc:Scope)(x:Str):Prop:=sc.names.lookup x=some .local∨sc.names.lookup x=some .cell
def Ec(env:Env)(h:Heap)(m:Str→Option Value)(x:Str)(u:Value):Prop:=
  (env.kindOf x=some .local∧m x=some u)∨((env.kindOf x=some .cell∨env.kindOf x=some .free)∧∃c,env.cells.lookup x=some c∧h.IsCell c (some u))
structure Cx.Ok (X:Cx):Prop where
  mod:Mod X.K X.mg X.base
  kind:X.env.scope.kind=.function
  glob:X.env.globals=mainGlobals
  blt:X.env.builtins=builtinsNs
  above:X.s₀.heap.objs.size≤X.env.locals
  inj:∀x y c,X.env.cells.lookup x=some c→X.env.cells.lookup y=some c→x=y
  has:∀x,(X.env.kindOf x=some .cell∨X.env.kindOf x=some .free)→∃c,X.env.cells.lookup x=some c
  cab:∀x c,X.fn x=true→X.env.cells.lookup x=some c→X.s₀.heap.objs.size≤c
  hd:X.calm=true→X.A.handled=none
  frames:X.A.frames=some X.stack
  stk:X.stack=X.outer∨(X.stack=X.env::X.outer∧X.env.frame=some X.env.locals)
  exf:∀b∈X.ex,b≠X.env.locals∧∀x c,X.env.cells.lookup x=some c→c≠b
  bs:∀b o,X.base.get? b=some o→X.s₀.heap.get? b=some o∧X.H₀ b=none
  bsz:X.base.objs.size≤X.s₀.heap.objs.size
  noex:∀b o,X.base.get? b=some o→b∉X.ex
  exfs:∀b∈X.ex,b∉X.fs
  funs:X.s₀.heap.FunFrames X.base X.outer
  frf:∀b∈X.fs,X.H₀ b=none
structure aB (X:Cx) (pins:List (Addr × Obj)) (σ:List (Option V)) (H:Hp) (s:Shared):Prop where
  ok:X.Ok
  os:s.os=X.s₀.os
  bare:AllBare s.gens
  base:Un X.fs X.ex X.H₀ H X.s₀.heap s.heap
  loc:∃m,s.heap.Ns X.env.locals m∧∀(i:Nat) (x:Str) (v:V),X.N[i]?=some x→σ[i]?=some (some v)→Cs X.env.scope x→∃u,bz v u∧Ec X.env s.heap m x u
  cell:∀x c,X.env.cells.lookup x=some c→∃v,s.heap.IsCell c v
  free:H X.env.locals=none
  freeC:∀x c,X.env.cells.lookup x=some c→H c=none
  pin:∀p∈X.pn++pins,s.heap.get? p.1=some p.2∧H p.1=none∧p.1≠X.env.locals∧p.1∉X.fs∧∀v,p.2.data≠.cell v
  hok:lG X.prog X.w H s.heap
  len:σ.length=X.N.length
section
variable{X:Cx}{pins:List (Addr × Obj)}{σ:List (Option V)}{H H':Hp}{s:Shared}{h':Heap}
theorem Cx.Ok.nofr(ok:X.Ok){b:Addr}{o:Obj}(e:X.base.get? b=some o):b∉X.fs:=fun hb=>by
  have:=(ok.funs.mem hb).1
  rw [e] at this;cases this
theorem aB.bs(I:aB X pins σ H s):∀b o,X.base.get? b=some o→s.heap.get? b=some o∧H b=none:=fun b o e=>
  ⟨I.base.keep b o (I.ok.bs b o e).1 (I.ok.bs b o e).2 (I.ok.nofr e) (I.ok.noex b o e),I.base.free b o (I.ok.bs b o e).1 (I.ok.bs b o e).2 (I.ok.noex b o e)⟩
theorem aB.bk(I:aB X pins σ H s):∀b o,X.base.get? b=some o→s.heap.get? b=some o:=fun b o e=>(I.bs b o e).1
theorem aB.mod(I:aB X pins σ H s):Mod X.K X.mg X.base:=I.ok.mod
theorem aB.kIn(I:aB X pins σ H s):X.K.In s.heap:=I.ok.mod.kin.keeps I.bk
theorem aB.fr(I:aB X pins σ H s):∃m,Fr X.base X.env.locals s.heap m:=
  let ⟨m,hn,_⟩:=I.loc
  ⟨m,hn,I.bk,Nat.le_trans I.ok.bsz I.ok.above⟩
theorem aB.lt(I:aB X pins σ H s):X.env.locals < s.heap.objs.size:=let ⟨_,hn,_⟩:=I.loc;hn.lt
theorem aB.sz(I:aB X pins σ H s):X.s₀.heap.objs.size≤s.heap.objs.size:=Nat.le_trans I.ok.above (Nat.le_of_lt I.lt)
theorem aB.nofs(I:aB X pins σ H s){a:Addr}(h:s.heap.objs.size≤a):a∉X.fs:=fun hb=>by
  obtain⟨_,o,ho,_⟩:=I.ok.funs.mem hb
  exact absurd (Nat.lt_of_lt_of_le (Heap.lt_size ho) (Nat.le_trans I.sz h)) (Nat.lt_irrefl _)
theorem aB.cne(I:aB X pins σ H s):∀x c,X.env.cells.lookup x=some c→c≠X.env.locals:=fun x c e z=>by
  obtain⟨v,o,ho,hd⟩:=I.cell x c e
  obtain⟨m,⟨o',es,ep,ho',hd',_⟩,_⟩:=I.loc
  rw [z,ho'] at ho;cases ho;rw [hd'] at hd;cases hd
theorem aB.funs(I:aB X pins σ H s):s.heap.FunFrames X.base X.outer:=by
  have all:∀(l:List Env),(∀b∈vy l,b∈X.fs)→X.s₀.heap.FunFrames X.base l→s.heap.FunFrames X.base l:=by
    intro l
    induction l with
    | nil=>intro _ _;trivial
    | cons env r ih=>
      intro hs hl
      obtain⟨hk,⟨L,o,hf,hn,ho,hd⟩,hr⟩:=hl
      have hL:L∈X.fs:=hs L (by unfold vy;rw [List.filterMap_cons,hf];exact List.mem_cons_self)
      obtain⟨sl,e⟩:=I.base.slot L o ho (I.ok.frf L hL) hL fun z=>I.ok.exfs L z hL
      exact⟨hk,⟨L,_,hf,hn,e,hd⟩,ih (fun b hb=>hs b (by unfold vy;rw [List.filterMap_cons,hf];exact List.mem_cons_of_mem _ hb)) hr⟩
  exact all X.outer (fun _ hb=>hb) I.ok.funs
theorem aB.stack(I:aB X pins σ H s):s.heap.FunFrames X.base X.stack:=by
  rcases I.ok.stk with e | ⟨e,hf⟩
  · rw [e];exact I.funs
  · rw [e]
    obtain⟨m,hn,_⟩:=I.loc
    refine .cons (by rw [I.ok.kind];decide) hf hn ?_ I.funs
    exact Heap.get?_none_of_le (Nat.le_trans I.ok.bsz I.ok.above)
theorem aB.stkSub(I:aB X pins σ H s):∀b∈vy X.stack,b∈X.env.locals::X.fs:=fun b hb=>by
  rcases I.ok.stk with e | ⟨e,hf⟩
  · rw [e] at hb;exact List.mem_cons_of_mem _ hb
  · rw [e] at hb
    unfold vy at hb
    rw [List.filterMap_cons,hf] at hb
    exact hb
theorem aB.stkFree(I:aB X pins σ H s):∀b∈vy X.stack,H b=none:=fun b hb=>by
  rcases List.mem_cons.mp (I.stkSub b hb) with e | hb
  · rw [e];exact I.free
  · obtain⟨_,o,ho,_⟩:=I.ok.funs.mem hb
    exact I.base.free b o ho (I.ok.frf b hb) fun z=>I.ok.exfs b z hb
theorem aB.step{g':Array GenState}{t':Nat}{d':Drawn}{ch:List Addr}(I:aB X pins σ H s)
    (hch:∀b∈ch,(b∈X.ex∨X.s₀.heap.objs.size≤b)∧b≠X.env.locals∧(∀x c,X.env.cells.lookup x=some c→c≠b)∧∀p∈X.pn++pins,p.1≠b)
    (keep:∀b o,b≠X.env.locals→b∉X.fs→b∉ch→s.heap.get? b=some o→H b=none→h'.get? b=some o)
    (slot:∀b o,b≠X.env.locals→b∈X.fs→b∉ch→s.heap.get? b=some o→H b=none→∃sl,h'.get? b=some {o with slots:=sl})(free:∀b o,b∉ch→s.heap.get? b=some o→H b=none→H' b=none)
    (there:∀b o,b∉ch→s.heap.get? b=some o→∃o',h'.get? b=some o')
    (tups:∀b xs,H b=some (.tup xs)→H' b=some (.tup xs))(frzs:∀b o u,H b=some (.frz o u)→H' b=some (.frz o u))(tbls:∀b ps,H b=some (.tbl ps)→∃more,H' b=some (.tbl (ps++more)))
    (ns:∀m,s.heap.Ns X.env.locals m→h'.Ns X.env.locals m)(hok:lG X.prog X.w H' h')(hg:AllBare g'):
    aB X pins σ H' {s with heap:=h',gens:=g',drawn:=d',toks:=t'}:=by
  have neL:∀b o,X.s₀.heap.get? b=some o→b≠X.env.locals:=fun b o e=>Nat.ne_of_lt (Nat.lt_of_lt_of_le (Heap.lt_size e) I.ok.above)
  have neC:∀b o,X.s₀.heap.get? b=some o→b∉X.ex→b∉ch:=fun b o e hx hb=>by
    rcases(hch b hb).1 with z | z
    · exact hx z
    · exact absurd (Nat.lt_of_lt_of_le (Heap.lt_size e) z) (Nat.lt_irrefl _)
  have cellK:∀x c,X.env.cells.lookup x=some c→∀v,s.heap.IsCell c v→h'.IsCell c v:=fun x c e v ⟨o,ho,hd⟩=>by
    have nch:c∉ch:=fun z=>(hch c z).2.2.1 x c e rfl
    by_cases hc:c∈X.fs
    · obtain⟨sl,q⟩:=slot c o (I.cne x c e) hc nch ho (I.freeC x c e)
      exact⟨_,q,hd⟩
    · exact⟨o,keep c o (I.cne x c e) hc nch ho (I.freeC x c e),hd⟩
  refine⟨I.ok,I.os,hg,⟨fun b o e n hb hx=>?_,fun b o e n hb hx=>?_,fun b o e n hx=>?_,fun b o e hx=>?_,fun b xs e=>tups b xs (I.base.tups b xs e),fun b o xs e=>frzs b o xs (I.base.frzs b o xs e),fun b ps e=>?_⟩,?_,fun x c e=>?_,?_,fun x c e=>?_,fun p hp=>?_,hok,I.len⟩
  · exact keep b o (neL b o e) hb (neC b o e hx) (I.base.keep b o e n hb hx) (I.base.free b o e n hx)
  · obtain⟨sl,e1⟩:=I.base.slot b o e n hb hx
    obtain⟨sl',e2⟩:=slot b _ (neL b o e) hb (neC b o e hx) e1 (I.base.free b o e n hx)
    exact⟨sl',e2⟩
  · obtain⟨o',e1⟩:=I.base.there b o e hx
    exact free b o' (neC b o e hx) e1 (I.base.free b o e n hx)
  · obtain⟨o',e1⟩:=I.base.there b o e hx
    exact there b o' (neC b o e hx) e1
  · obtain⟨m1,e1⟩:=I.base.tbls b ps e
    obtain⟨m2,e2⟩:=tbls b _ e1
    exact⟨m1++m2,by rw [e2,Array.append_assoc]⟩
  · obtain⟨m,hn,hl⟩:=I.loc
    refine⟨m,ns m hn,fun i x v e1 e2 e3=>?_⟩
    obtain⟨u,r,l⟩:=hl i x v e1 e2 e3
    refine⟨u,r,?_⟩
    rcases l with l | ⟨k,c,e,z⟩
    · exact .inl l
    · exact .inr ⟨k,c,e,cellK x c e _ z⟩
  · obtain⟨v,z⟩:=I.cell x c e
    exact⟨v,cellK x c e v z⟩
  · obtain⟨m,⟨o,_,_,ho,_⟩,_⟩:=I.loc
    exact free _ o (fun z=>(hch _ z).2.1 rfl) ho I.free
  · obtain⟨v,o,ho,hd⟩:=I.cell x c e
    exact free c o (fun z=>(hch c z).2.2.1 x c e rfl) ho (I.freeC x c e)
  · obtain⟨e,n,ne,nf,d⟩:=I.pin p hp
    have nch:p.1∉ch:=fun z=>(hch p.1 z).2.2.2 p hp rfl
    exact⟨keep p.1 p.2 ne nf nch e n,free p.1 p.2 nch e n,ne,nf,d⟩
theorem aB.un{t':Nat}(I:aB X pins σ H s)(u:Un X.fs [] H H' s.heap h')(hok:lG X.prog X.w H' h'):aB X pins σ H' {s with heap:=h',toks:=t'}:=by
  obtain⟨m,⟨o,es,ep,ho,r⟩,_⟩:=id I.loc
  obtain⟨sl,hL⟩:=u.any ho I.free (by simp)
  exact I.step (g':=s.gens) (d':=s.drawn) (ch:=[]) (fun _ z=>nomatch z) (fun b o _ hb _ e n=>u.keep b o e n hb (by simp)) (fun b o _ hb _ e n=>u.slot b o e n hb (by simp)) (fun b o _ e n=>u.free b o e n (by simp)) (fun b o _ e=>u.there b o e (by simp)) u.tups u.frzs u.tbls (fun m' hm=>by
    obtain⟨o',es',ep',ho',r'⟩:=hm
    rw [ho] at ho';cases ho'
    exact⟨_,es',ep',hL,r'⟩) hok I.bare
theorem aB.call{g':Array GenState}{t':Nat}{d':Drawn}{ch:List Addr}(I:aB X pins σ H s)(u:Un (vy X.stack) ch H H' s.heap h')(hok:lG X.prog X.w H' h')(hg:AllBare g')
    (hch:∀b∈ch,(b∈X.ex∨X.s₀.heap.objs.size≤b)∧b≠X.env.locals∧(∀x c,X.env.cells.lookup x=some c→c≠b)∧∀p∈X.pn++pins,p.1≠b):
    aB X pins σ H' {s with heap:=h',gens:=g',drawn:=d',toks:=t'}:=by
  obtain⟨m,⟨o,es,ep,ho,r⟩,_⟩:=id I.loc
  obtain⟨sl,hL⟩:=u.any ho I.free fun z=>(hch _ z).2.1 rfl
  exact I.step (ch:=ch) hch (fun b o hL hb hc e n=>u.keep b o e n (fun z=>(List.mem_cons.mp (I.stkSub b z)).elim hL hb) hc) (fun b o _ _ hc e n=>u.any e n hc) (fun b o hc e n=>u.free b o e n hc) (fun b o hc e=>u.there b o e hc) u.tups u.frzs u.tbls (fun m' hm=>by
    obtain⟨o',es',ep',ho',r'⟩:=hm
    rw [ho] at ho';cases ho'
    exact⟨_,es',ep',hL,r'⟩) hok hg
theorem aB.turned{t':Nat}{it:Addr}(I:aB X pins σ H s)(k:∀b o,b≠it→s.heap.get? b=some o→h'.get? b=some o)(hn:H it=none)(hL:it≠X.env.locals)
    (h1:it∈X.ex∨X.s₀.heap.objs.size≤it)(h2:∀x c,X.env.cells.lookup x=some c→c≠it)(h3:∀p∈X.pn++pins,p.1≠it):aB X pins σ H {s with heap:=h',toks:=t'}:=by
  have nit:∀b u,H b=some u→b≠it:=fun b u e z=>by rw [z,hn] at e;cases e
  refine I.step (g':=s.gens) (d':=s.drawn) (ch:=[it]) (fun b hb=>?_) (fun b o _ _ hc e _=>k b o (fun z=>hc (by simp [z])) e) (fun b o _ _ hc e _=>⟨o.slots,k b o (fun z=>hc (by simp [z])) e⟩) (fun _ _ _ _ n=>n)
    (fun b o hc e=>⟨o,k b o (fun z=>hc (by simp [z])) e⟩) (fun _ _ e=>e) (fun _ _ _ e=>e) (fun b ps e=>⟨#[],by rw [e];simp⟩) (fun m hm=>?_) (fun b u e=>?_) I.bare
  · have e:b=it:=by simpa using hb
    subst e
    exact⟨h1,hL,h2,h3⟩
  · obtain⟨o,es,ep,ho,r⟩:=hm
    exact⟨o,es,ep,k _ o (Ne.symm hL) ho,r⟩
  · refine(I.hok b u e).stay (fun c v hc q=>k c v ?_ q) (fun _ q=>q) fun _ _ q=>q
    rcases hc with z | z
    · rw [z];exact nit b u e
    · exact nit c _ z
theorem aB.tok(I:aB X pins σ H s)(t:Nat):aB X pins σ H {s with toks:=t}:=I.un (h':=s.heap) (t':=t) Un.refl I.hok
theorem aB.kept{t':Nat}(I:aB X pins σ H s)(k:∀b u,s.heap.get? b=some u→h'.get? b=some u):aB X pins σ H {s with heap:=h',toks:=t'}:=I.un (Un.kept k) (I.hok.kept k)
theorem aB.laid{a:Addr}{o:HO}{t':Nat}(I:aB X pins σ H s)(k:∀b u,s.heap.get? b=some u→h'.get? b=some u)(hp:s.heap.objs.size≤a)(new:dZ X.prog X.w (bw H a o) h' a o):
    aB X pins σ (bw H a o) {s with heap:=h',toks:=t'}:=I.un (Un.laid k hp (I.hok.fresh hp)) (I.hok.laid k hp new)
theorem aB.write{x e:Addr}{o:HO}{t':Nat}(I:aB X pins σ H s)(mu:DO (H x))(he:e=x∨H e=some (.own x))(k:∀b u,b≠e→s.heap.get? b=some u→h'.get? b=some u)(heo:∃u,h'.get? e=some u)
    (new:dZ X.prog X.w (bw H x o) h' x o):aB X pins σ (bw H x o) {s with heap:=h',toks:=t'}:=I.un (Un.write mu he k heo) (I.hok.write mu he k heo new)
theorem aB.pins_of{pins':List (Addr × Obj)}(I:aB X pins σ H s)(h:∀p∈pins',s.heap.get? p.1=some p.2∧H p.1=none∧p.1≠X.env.locals∧p.1∉X.fs∧∀v,p.2.data≠.cell v):aB X pins' σ H s:=
  ⟨I.ok,I.os,I.bare,I.base,I.loc,I.cell,I.free,I.freeC,fun p hp=>(List.mem_append.mp hp).elim (fun z=>I.pin p (List.mem_append_left _ z)) (h p),I.hok,I.len⟩
theorem qc{N:List Str}(hN:N.Nodup){i j:Nat}{x:Str}(a:N[i]?=some x)(b:N[j]?=some x):i=j:=by
  obtain⟨h1,e1⟩:=List.getElem?_eq_some_iff.mp a
  obtain⟨h2,e2⟩:=List.getElem?_eq_some_iff.mp b
  exact(List.getElem_inj hN).mp (e1.trans e2.symm)
theorem nZ{M:Model}{A:Around}{E:Value→Shared→Prop}{i:Nat}{x:Str}{v:V}{u:Value}{Q:Unit→Shared→Prop}(I:aB X pins σ H s)(hN:X.N.Nodup)(hi:X.N[i]?=some x)(hx:Cg X.env.scope x)(r:bz v u)
    (h:∀s',aB X pins (σ.set i (some v)) H s'→(∃a,Heap.SameBut a s.heap s'.heap∧(a=X.env.locals∨X.env.cells.lookup x=some a))→Q () s')(hf:X.fn x=true∨X.env.scope.names.lookup x=some .local:=by first | exact .inl rfl | exact .inr rfl | assumption):wpAny M A (storeName X.env x u) Q E s:=by
  obtain⟨m,hn,hl⟩:=id I.loc
  have hcls:(X.env.scope.kind==.class || (X.env.scope.kind==.module&&X.env.locals != X.env.globals))=false:=by rw [I.ok.kind];rfl
  have hiσ:i < σ.length:=by rw [I.len];exact(List.getElem?_eq_some_iff.mp hi).1
  have cne:=I.cne
  have tracked:∀{a:Addr} {h':Heap},(∃o,s.heap.get? a=some o∧H a=none)→Heap.SameBut a s.heap h'→lG X.prog X.w H h':=fun{a h'} ha hs b ob e=>by
    obtain⟨_,_,hfree⟩:=ha
    refine(I.hok b ob e).stay (fun c w' hc q=>(hs.2 c ?_).trans q) (fun _ q=>q) fun _ _ q=>q
    rintro rfl
    rcases hc with rfl | hc
    · rw [hfree] at e;cases e
    · rw [hfree] at hc;cases hc
  rcases hx with hk | hk
  · refine wpAny_storeName_local hk hn (fun h' hn' hs=>?_) hcls
    obtain⟨oL,_,_,hoL,_⟩:=id hn
    refine h _ ⟨I.ok,I.os,I.bare,⟨fun b o e n hb hx=>?_,fun b o e n hb hx=>?_,I.base.free,fun b o e hx=>?_,I.base.tups,I.base.frzs,I.base.tbls⟩,⟨_,hn',fun j y v' e1 e2 e3=>?_⟩,fun y c e=>?_,I.free,I.freeC,fun p hp=>?_,tracked ⟨oL,hoL,I.free⟩ hs,by simpa using I.len⟩ ⟨_,hs,.inl rfl⟩
    · exact(hs.2 b (Nat.ne_of_lt (Nat.lt_of_lt_of_le (Heap.lt_size e) I.ok.above))).trans (I.base.keep b o e n hb hx)
    · obtain⟨sl,e1⟩:=I.base.slot b o e n hb hx
      exact⟨sl,(hs.2 b (Nat.ne_of_lt (Nat.lt_of_lt_of_le (Heap.lt_size e) I.ok.above))).trans e1⟩
    · obtain⟨o',e1⟩:=I.base.there b o e hx
      exact⟨o',(hs.2 b (Nat.ne_of_lt (Nat.lt_of_lt_of_le (Heap.lt_size e) I.ok.above))).trans e1⟩
    · by_cases hj:j=i
      · subst hj
        rw [hi] at e1;cases e1
        rw [List.getElem?_set_self hiσ] at e2
        cases e2
        exact⟨u,r,.inl ⟨hk,by simp⟩⟩
      · rw [List.getElem?_set_ne (Ne.symm hj)] at e2
        obtain⟨u',r',q⟩:=hl j y v' e1 e2 e3
        refine⟨u',r',?_⟩
        rcases q with ⟨k,e⟩ | ⟨k,c,e,z⟩
        · refine .inl ⟨k,?_⟩
          have:y≠x:=fun e=>hj (qc hN e1 (e ▸ hi))
          simp [this,e]
        · exact .inr ⟨k,c,e,z.sameBut hs (cne y c e)⟩
    · obtain⟨w',z⟩:=I.cell y c e
      exact⟨w',z.sameBut hs (cne y c e)⟩
    · obtain⟨e,n,ne,nf,d⟩:=I.pin p hp
      exact⟨(hs.2 p.1 ne).trans e,n,ne,nf,d⟩
  · have hfn:X.fn x=true:=by
      rcases hf with z | z
      · exact z
      · rw [z] at hk;cases hk
    obtain⟨c,hc⟩:=I.ok.has x (.inl hk)
    obtain⟨w',z⟩:=I.cell x c hc
    refine wpAny_storeName_cell I.ok.kind hk hc z (fun h' hc' hs=>?_)
    obtain⟨oc,hoc,hocd⟩:=id z
    refine h {s with heap:=h'} ⟨I.ok,I.os,I.bare,⟨fun b o e n hb hx=>?_,fun b o e n hb hx=>?_,I.base.free,fun b o e hx=>?_,I.base.tups,I.base.frzs,I.base.tbls⟩,⟨m,hn.sameBut hs (Ne.symm (cne x c hc)),fun j y v' e1 e2 e3=>?_⟩,fun y c' e=>?_,I.free,I.freeC,fun p hp=>?_,tracked ⟨oc,hoc,I.freeC x c hc⟩ hs,by simpa using I.len⟩ ⟨c,hs,.inr hc⟩
    · exact(hs.2 b (Nat.ne_of_lt (Nat.lt_of_lt_of_le (Heap.lt_size e) (I.ok.cab x c hfn hc)))).trans (I.base.keep b o e n hb hx)
    · obtain⟨sl,e1⟩:=I.base.slot b o e n hb hx
      exact⟨sl,(hs.2 b (Nat.ne_of_lt (Nat.lt_of_lt_of_le (Heap.lt_size e) (I.ok.cab x c hfn hc)))).trans e1⟩
    · obtain⟨o',e1⟩:=I.base.there b o e hx
      exact⟨o',(hs.2 b (Nat.ne_of_lt (Nat.lt_of_lt_of_le (Heap.lt_size e) (I.ok.cab x c hfn hc)))).trans e1⟩
    · by_cases hj:j=i
      · subst hj
        rw [hi] at e1;cases e1
        rw [List.getElem?_set_self hiσ] at e2
        cases e2
        exact⟨u,r,.inr ⟨.inl hk,c,hc,hc'⟩⟩
      · rw [List.getElem?_set_ne (Ne.symm hj)] at e2
        obtain⟨u',r',q⟩:=hl j y v' e1 e2 e3
        refine⟨u',r',?_⟩
        rcases q with q | ⟨k,c',e,z'⟩
        · exact .inl q
        · refine .inr ⟨k,c',e,z'.sameBut hs ?_⟩
          rintro rfl
          exact hj (qc hN e1 (I.ok.inj _ _ _ e hc ▸ hi))
    · by_cases hcc:c'=c
      · subst hcc;exact⟨_,hc'⟩
      · obtain⟨w2,z2⟩:=I.cell y c' e
        exact⟨w2,z2.sameBut hs hcc⟩
    · obtain⟨e,n,ne,nf,d⟩:=I.pin p hp
      refine⟨(hs.2 p.1 ?_).trans e,n,ne,nf,d⟩
      intro q
      rw [q,hoc] at e
      have q':oc=p.2:=Option.some.inj e
      exact d w' (by rw [←q'];exact hocd)
theorem jX{M:Model}{A:Around}{E:Value→Shared→Prop}{i:Nat}{x:Str}{v:V}{u:Value}{Q:Unit→Shared→Prop}(I:aB X pins σ H s)(hN:X.N.Nodup)(hi:X.N[i]?=some x)(hx:Cg X.env.scope x)(r:bz v u)
    (h:∀s',aB X pins (σ.set i (some v)) H s'→Q () s')(hf:X.fn x=true∨X.env.scope.names.lookup x=some .local:=by first | exact .inl rfl | exact .inr rfl | assumption):wpAny M A (storeName X.env x u) Q E s:=
  nZ I hN hi hx r (fun s' I' _=>h s' I') hf
theorem aB.call'{s':Shared}{ch:List Addr}(I:aB X pins σ H s)(ho:s'.os=s.os)(u:Un (vy X.stack) ch H H' s.heap s'.heap)(hok:lG X.prog X.w H' s'.heap)(hg:AllBare s'.gens)
    (hch:∀b∈ch,(b∈X.ex∨X.s₀.heap.objs.size≤b)∧b≠X.env.locals∧(∀x c,X.env.cells.lookup x=some c→c≠b)∧∀p∈X.pn++pins,p.1≠b):aB X pins σ H' s':=by
  obtain⟨h',g',d',t',o'⟩:=s'
  have e:o'=s.os:=ho
  subst e
  exact I.call (g':=g') (t':=t') (d':=d') u hok hg hch
end
abbrev XK:=Value→Option Addr→Hp→Prop
abbrev St:=List (Option V)
abbrev VK:=V→Hp→Prop
abbrev TE:=St→Hp→VK→Prop
abbrev TT:=St→Hp→(Bool→Hp→Prop)→Prop
abbrev TA:=St→Hp→(List V→Hp→Prop)→Prop
structure q_ where
  nx:St→Hp→Prop
  rt:VK
  bk:St→Hp→Prop:=fun _ _=>False
  ct:St→Hp→Prop:=fun _ _=>False
abbrev TS:=q_→St→Hp→Prop
def EP(X:Cx)(pins:List (Addr × Obj))(σ:St)(Q:VK)(u:Value)(s':Shared):Prop:=∃v H',aB X pins σ H' s'∧bz v u∧Q v H'
def TP(X:Cx)(pins:List (Addr × Obj))(σ:St)(Q:Bool→Hp→Prop)(b:Bool)(s':Shared):Prop:=∃H',aB X pins σ H' s'∧Q b H'
def AP(X:Cx)(pins:List (Addr × Obj))(σ:St)(Q:List V→Hp→Prop)(us:List Value)(s':Shared):Prop:=∃vs H',aB X pins σ H' s'∧aM vs us∧Q vs H'
def SP(X:Cx)(pins:List (Addr × Obj))(D:q_)(f:Flow)(s':Shared):Prop:=
  match f with
  | .next=>∃σ' H',aB X pins σ' H' s'∧D.nx σ' H'
  | .brk=>∃σ' H',aB X pins σ' H' s'∧D.bk σ' H'
  | .cont=>∃σ' H',aB X pins σ' H' s'∧D.ct σ' H'
  | .ret u=>∃v σ' H',aB X pins σ' H' s'∧bz v u∧D.rt v H'
def PE(X:Cx)(e:Expr)(t:TE):Prop:=
  ∀(pins:List (Addr × Obj)) (s:Shared) (σ:St) (H:Hp) (Q:VK),aB X pins σ H s→t σ H Q→wpAny (model X.prog X.w) X.A (eval e X.env) (EP X pins σ Q) X.xe s
def PT(X:Cx)(e:Expr)(t:TT):Prop:=
  ∀(pins:List (Addr × Obj)) (s:Shared) (σ:St) (H:Hp) (Q:Bool→Hp→Prop),aB X pins σ H s→t σ H Q→wpAny (model X.prog X.w) X.A (isTrue e X.env (eval e X.env)) (TP X pins σ Q) X.xe s
def PW(X:Cx)(e:Expr)(t:TT):Prop:=
  ∀(whole:Sem Value) (pins:List (Addr × Obj)) (s:Shared) (σ:St) (H:Hp) (Q:Bool→Hp→Prop),aB X pins σ H s→t σ H Q→wpAny (model X.prog X.w) X.A (isTrue e X.env whole) (TP X pins σ Q) X.xe s
theorem PW.pt{X:Cx}{e:Expr}{t:TT}(h:PW X e t):PT X e t:=h _
def PA(X:Cx)(es:List Expr)(t:TA):Prop:=
  ∀(pos:Pos) (pins:List (Addr × Obj)) (s:Shared) (σ:St) (H:Hp) (Q:List V→Hp→Prop),aB X pins σ H s→t σ H Q→wpAny (model X.prog X.w) X.A (spliced (backTo pos (starEach es X.env))) (AP X pins σ Q) X.xe s
def PS(X:Cx)(st:Stmt)(t:TS):Prop:=
  ∀(pins:List (Addr × Obj)) (s:Shared) (σ:St) (H:Hp) (D:q_),aB X pins σ H s→t D σ H→wpAny (model X.prog X.w) X.A (exec st X.env) (SP X pins D) X.xe s
def kW(X:Cx)(st:List Stmt)(t:TS):Prop:=
  ∀(pins:List (Addr × Obj)) (s:Shared) (σ:St) (H:Hp) (D:q_),aB X pins σ H s→t D σ H→wpAny (model X.prog X.w) X.A (execs st X.env) (SP X pins D) X.xe s
theorem cT{α:Type}{t:Sem α}{Q Q':α→Shared→Prop}{M:Model}{A:Around}{E:Value→Shared→Prop}{s:Shared}(h:wpAny M A t Q E s)(hQ:∀a s,Q a s→Q' a s):wpAny M A t Q' E s:=wpAny_mono h hQ fun _ _ x=>x
end L2
namespace L2
open PySem PySem.Spec PyProof.Rows
section
variable{X:Cx}
def DC(i:Nat):TE:=fun σ H Q=>∃v,σ[i]?=some (some v)∧Q v H
def tC(v:V):TE:=fun _ H Q=>Q v H
theorem Bm{i:Nat}{x:Str}{pos:Pos}(hN:X.N[i]?=some x)(hv:Cs X.env.scope x)(hd:(x==("__debug__":Str))=false:=by decide)(hcd:(x==("__classdict__":Str))=false:=by decide):PE X (.Name x pos) (DC i):=by
  intro pins s σ H Q I h
  obtain⟨v,e,h⟩:=h
  obtain⟨m,hn,hl⟩:=I.loc
  obtain⟨u,r,l⟩:=hl i x v hN e hv
  have fin:EP X pins σ Q u s:=⟨v,H,I,r,h⟩
  rcases l with ⟨hk,hm⟩ | ⟨hk,c,hc,hcell⟩
  · exact wpAny_Name (wpAny_loadName_local I.ok.kind hk hn hm fin) hd
  · rcases hk with hk | hk
    · exact wpAny_Name (wpAny_loadName_cell I.ok.kind hk hc hcell fin) hd
    · exact wpAny_Name (wpAny_loadName_free I.ok.kind hk hc hcell fin hcd) hd
theorem Bj{i j pos}:PE X (.Constant (.int i) j pos) (tC (.int i)):=fun _ _ _ H _ I h=>wpAny_Constant_int ⟨.int i,H,I.tok _,⟨_,rfl⟩,h⟩
theorem C3{b j pos}:PE X (.Constant (.bool b) j pos) (tC (.bl b)):=fun _ _ _ H _ I h=>Constant_bool ⟨.bl b,H,I,rfl,h⟩
def Gl(X:Cx)(x:Str):Prop:=X.env.kindOf x=some .globalImplicit
theorem sN{E:Value→Shared→Prop}{pins:List (Addr × Obj)}{s:Shared}{σ:St}{H:Hp}{x:Str}{u:Value}{pos:Pos}{Q:Value→Shared→Prop}(I:aB X pins σ H s)(hg:Gl X x)(hm:X.mg x=some u)(h:Q u s)
    (hd:(x==("__debug__":Str))=false:=by decide):wpAny (model X.prog X.w) X.A (eval (.Name x pos) X.env) Q E s:=
  Calls.Name_function_global I.ok.kind hg (Calls.loadGlobal_global (by rw [I.ok.glob];exact I.mod.glob.keeps I.bk) hm h) hd
theorem kd{E:Value→Shared→Prop}{pins:List (Addr × Obj)}{s:Shared}{σ:St}{H:Hp}{x:Str}{u:Value}{pos:Pos}{Q:Value→Shared→Prop}(I:aB X pins σ H s)(hg:Gl X x)(hm:X.mg x=none)(hv:bootBuiltins x=some u)(h:Q u s)
    (hn:x≠"__name__":=by decide)(hd:(x==("__debug__":Str))=false:=by decide):wpAny (model X.prog X.w) X.A (eval (.Name x pos) X.env) Q E s:=by
  obtain⟨mb,h1,h2⟩:=I.mod.blt
  exact Calls.Name_function_global I.ok.kind hg (Calls.loadGlobal_builtin (by rw [I.ok.glob];exact I.mod.glob.keeps I.bk) hm (by rw [I.ok.blt];exact h1.keeps I.bk) ((h2 x hn).trans hv) h) hd
theorem yJ{x:Str}{v:V}{u:Value}{pos:Pos}(hg:Gl X x)(hm:X.mg x=some u)(r:bz v u)(hd:(x==("__debug__":Str))=false:=by decide):PE X (.Name x pos) (tC v):=
  fun _ _ _ H _ I h=>sN I hg hm ⟨v,H,I,r,h⟩ hd
variable{a b:Expr}{ta tb:TE}{pos:Pos}
def tB(t:TE):TT:=fun σ H Q=>t σ H fun x H1=>∃c,x=.bl c∧Q c H1
theorem By{e:Expr}{t:TE}(h:PE X e t)(he:∀whole,isTrue e X.env whole=(do let v ←whole;standAt e.pos;holding [v] (truthy v)):=by intro _;rfl):PT X e (tB t):=by
  intro pins s σ H Q I hw
  refine isTrue_plain (cT (h pins s σ H _ I hw) fun v s1 ⟨x,H1,I1,r1,q1⟩=>?_) (he _)
  obtain⟨d,rfl,q⟩:=q1
  cases r1
  exact wpAny_truthy_bool ⟨H1,I1,q⟩
variable{tA tB':TT}{ib:List Expr}
def Du(t u:TT):TT:=fun σ H Q=>t σ H fun c H1=>if c=true then u σ H1 Q else Q false H1
def Dx(t:TT):TT:=fun σ H Q=>t σ H fun c H1=>Q (!c) H1
theorem y6(ha:PT X a tA):PW X (.BoolOp .And [a] pos) tA:=by
  intro wh pins s σ H Q I h
  refine isTrue_and (cT (ha pins s σ H Q I h) fun c s1 e=>?_)
  cases c with
  | true=>exact isTrue_and_nil e
  | false=>exact e
theorem Bz(ha:PT X a tA)(hb:PW X (.BoolOp .And (b::ib) pos) tB'):PW X (.BoolOp .And (a::b::ib) pos) (Du tA tB'):=by
  intro wh pins s σ H Q I h
  refine isTrue_and (cT (ha pins s σ H _ I h) fun c s1 ⟨H1,I1,q1⟩=>?_)
  cases c with
  | true=>exact hb wh pins s1 σ H1 Q I1 q1
  | false=>exact⟨H1,I1,q1⟩
theorem Bx(ha:PT X a tA):PT X (.UnaryOp .Not a pos) (Dx tA):=by
  intro pins s σ H Q I h
  exact isTrue_not (ha pins s σ H (fun c H1=>Q (!c) H1) I h)
def EF(ta tb:TE):TE:=fun σ H Q=>ta σ H fun x H1=>∃c,x=.bl c∧if c=true then Q (.bl true) H1 else tb σ H1 Q
theorem Bl{op}{t:TE}(h:PE X a t):PE X (.BoolOp op [a] pos) t:=fun pins s σ H Q I hw=>BoolOp_one (h pins s σ H Q I hw)
theorem C8(ha:PE X a ta)(hb:PE X (.BoolOp .Or (b::ib) pos) tb):PE X (.BoolOp .Or (a::b::ib) pos) (EF ta tb):=by
  intro pins s σ H Q I h
  refine BoolOp_or (cT (ha pins s σ H _ I h) fun v s1 ⟨x,H1,I1,r1,q1⟩=>?_)
  obtain⟨c,rfl,q1⟩:=q1
  cases r1
  refine wpAny_truthy_bool ?_
  cases c with
  | false=>exact hb pins s1 σ H1 Q I1 q1
  | true=>exact⟨.bl true,H1,I1,rfl,q1⟩
end
end L2
namespace L2
open PySem PySem.Spec PyProof.Rows
def i_(K:PySem.W.Frag)(H:Hp)(a:Addr)(xs:List V):Prop:=
  Rd H a (.lst xs)∨
    ∃(o:Obj) (its:Array Value) (n:Nat),K.lookup a=some o∧o.cls=.type "list"∧o.dict=none∧o.data=.seq its n∧its.size≤sizeLine∧aM xs its.toList
def cP(K:PySem.W.Frag)(H:Hp)(a:Addr)(xs:List V):Prop:=
  Rd H a (.tup xs)∨
    ∃(o:Obj) (its:Array Value) (n:Nat),K.lookup a=some o∧o.cls=.type "tuple"∧o.dict=none∧o.data=.seq its n∧its.size≤sizeLine∧aM xs its.toList
def Eg:Value→Option V
  | .none=>some .non
  | .bool b=>some (.bl b)
  | .int i _=>some (.int i)
  | .str x _=>some (.str x)
  | .bytes b _=>some (.byt b)
  | .float b _=>some (.flt b)
  | .ref a=>some (.ref a)
  | .type n=>some (.ty n)
  | _=>none
theorem bz.abs{x:V}{u:Value}(r:bz x u):Eg u=some x:=by
  cases x with
  | non=>cases r;rfl
  | bl _=>cases r;rfl
  | int _=>obtain⟨t,rfl⟩:=r;rfl
  | str _=>obtain⟨t,rfl⟩:=r;rfl
  | byt _=>obtain⟨t,rfl⟩:=r;rfl
  | flt _=>obtain⟨t,rfl⟩:=r;rfl
  | ref _=>cases r;rfl
  | ty _=>cases r;rfl
theorem bz.inj{x y:V}{u:Value}(r:bz x u)(q:bz y u):x=y:=Option.some.inj (r.abs.symm.trans q.abs)
theorem aM.inj:∀{xs ys:List V} {us:List Value},aM xs us→aM ys us→xs=ys
  | _,_,_,.nil,.nil=>rfl
  | _,_,_,.cons r t,.cons r' t'=>by rw [r.inj r',aM.inj t t']
section
variable{X:Cx}{pins:List (Addr × Obj)}{σ:St}{H:Hp}{s:Shared}{a:Addr}{xs ys:List V}
theorem cP.of{K:PySem.W.Frag}(h:H a=some (.tup xs)):cP K H a xs:=.inl (.inl h)
theorem aB.list(I:aB X pins σ H s)(h:i_ X.K H a xs):∃its:List Value,aM xs its∧PlainL s.heap a its.toArray∧xs.length≤sizeLine:=by
  rcases h with h | ⟨o,its,n,hk,hc,hd,hs,hz,r⟩
  · obtain⟨z,its,n,r,e⟩:=h.ok I.hok
    exact⟨its,r,⟨_,n,e,rfl,rfl,rfl⟩,z⟩
  · refine⟨its.toList,r,⟨o,n,I.kIn a o hk,hc,hd,by simpa using hs⟩,?_⟩
    have e:=r.length
    simp only [Array.length_toList] at e
    lia
theorem aB.tuple(I:aB X pins σ H s)(h:cP X.K H a xs):∃its:List Value,aM xs its∧IsTup s.heap a its.toArray∧xs.length≤sizeLine:=by
  rcases h with h | ⟨o,its,n,hk,hc,_,hs,hz,r⟩
  · obtain⟨z,its,r,p⟩:=h.ok I.hok
    exact⟨its,r,p.tup,z⟩
  · refine⟨its.toList,r,⟨o,I.kIn a o hk,hc,n,by simpa using hs⟩,?_⟩
    have e:=r.length
    simp only [Array.length_toList] at e
    lia
theorem aB.list_inj(I:aB X pins σ H s)(h:i_ X.K H a xs)(h':i_ X.K H a ys):xs=ys:=by
  obtain⟨its,r,⟨o,n,e,_,_,d⟩,_⟩:=I.list h
  obtain⟨its',r',⟨o',n',e',_,_,d'⟩,_⟩:=I.list h'
  rw [e] at e';cases e'
  rw [d] at d'
  injection d' with d1 _
  have:its=its':=by simpa using congrArg Array.toList d1
  subst this
  exact r.inj r'
theorem aB.tuple_inj(I:aB X pins σ H s)(h:cP X.K H a xs)(h':cP X.K H a ys):xs=ys:=by
  obtain⟨its,r,⟨o,e,_,n,d⟩,_⟩:=I.tuple h
  obtain⟨its',r',⟨o',e',_,n',d'⟩,_⟩:=I.tuple h'
  rw [e] at e';cases e'
  rw [d] at d'
  injection d' with d1 _
  have:its=its':=by simpa using congrArg Array.toList d1
  subst this
  exact r.inj r'
end
abbrev Cx.wish(X:Cx)(E:Value→Shared→Prop):Cx:={X with xe:=E}
abbrev Cx.nox(X:Cx):Cx:=X.wish fun _ _=>False
theorem Cx.Ok.wish{X:Cx}(ok:X.Ok)(E:Value→Shared→Prop):(X.wish E).Ok:=
  ⟨ok.mod,ok.kind,ok.glob,ok.blt,ok.above,ok.inj,ok.has,ok.cab,ok.hd,ok.frames,ok.stk,ok.exf,ok.bs,ok.bsz,ok.noex,ok.exfs,ok.funs,ok.frf⟩
theorem Cx.Ok.unwish{X:Cx}{E:Value→Shared→Prop}(ok:(X.wish E).Ok):X.Ok:=
  ⟨ok.mod,ok.kind,ok.glob,ok.blt,ok.above,ok.inj,ok.has,ok.cab,ok.hd,ok.frames,ok.stk,ok.exf,ok.bs,ok.bsz,ok.noex,ok.exfs,ok.funs,ok.frf⟩
section
variable{X:Cx}{pins:List (Addr × Obj)}{σ:St}{H:Hp}{s:Shared}{E:Value→Shared→Prop}
theorem aB.wish(I:aB X pins σ H s)(E:Value→Shared→Prop):aB (X.wish E) pins σ H s:=⟨I.ok.wish E,I.os,I.bare,I.base,I.loc,I.cell,I.free,I.freeC,I.pin,I.hok,I.len⟩
theorem aB.unwish(I:aB (X.wish E) pins σ H s):aB X pins σ H s:=⟨I.ok.unwish,I.os,I.bare,I.base,I.loc,I.cell,I.free,I.freeC,I.pin,I.hok,I.len⟩
theorem SP.unwish{D:q_}{f:Flow}{s':Shared}(h:SP (X.wish E) pins D f s'):SP X pins D f s':=by
  cases f with
  | next=>obtain⟨σ',H',I,q⟩:=h;exact⟨σ',H',I.unwish,q⟩
  | brk=>obtain⟨σ',H',I,q⟩:=h;exact⟨σ',H',I.unwish,q⟩
  | cont=>obtain⟨σ',H',I,q⟩:=h;exact⟨σ',H',I.unwish,q⟩
  | ret u=>obtain⟨v,σ',H',I,r,q⟩:=h;exact⟨v,σ',H',I.unwish,r,q⟩
theorem kW.nox{st:List Stmt}{t:TS}(h:kW X.nox st t):kW X st t:=fun pins s σ H D I hw=>
  wpAny_mono (h pins s σ H D (I.wish _) hw) (fun _ _ q=>q.unwish) fun _ _ z=>False.elim z
end
section
variable{X:Cx}{st:Stmt}{ib:List Stmt}{t u:TS}{e:Expr}{te:TE}{pos:Pos}
def Dw:TS:=fun D σ H=>D.nx σ H
def EJ(t u:TS):TS:=fun D σ H=>t {D with nx:=u D} σ H
theorem yW:kW X [] Dw:=fun _ _ σ H _ I h=>wpAny_execs_nil ⟨σ,H,I,h⟩
theorem wJ(h1:PS X st t)(h2:kW X ib u):kW X (st::ib) (EJ t u):=by
  intro pins s σ H D I h
  refine wpAny_execs_cons (cT (h1 pins s σ H {D with nx:=u D} I h) fun f s1 q=>?_)
  cases f with
  | next=>
    obtain⟨σ',H',I',q⟩:=q
    exact h2 pins s1 σ' H' D I' q
  | ret v=>exact q
  | brk=>exact q
  | cont=>exact q
theorem yX(h1:PS X st t):kW X [st] t:=by
  intro pins s σ H D I h
  refine wpAny_execs_cons (cT (h1 pins s σ H D I h) fun f s1 q=>?_)
  cases f with
  | next=>exact wpAny_execs_nil q
  | ret v=>exact q
  | brk=>exact q
  | cont=>exact q
theorem aB.quiet{pins:List (Addr × Obj)}{σ:St}{H:Hp}{s:Shared}(I:aB X pins σ H s):interactive X.env=false:=by simp [interactive,I.ok.kind]
def Dv(te:TE):TS:=fun D σ H=>te σ H fun _ H1=>D.nx σ H1
theorem yV(he:PE X e te)(hs:swapsWith e none pos.line X.env=pure false:=by rfl):PS X (.Expr e pos) (Dv te):=by
  intro pins s σ H D I h
  exact wpAny_Expr_any (cT (he pins s σ H _ I h) fun v s1 ⟨x,H1,I1,r1,q1⟩=>⟨σ,H1,I1,q1⟩) I.quiet hs
def EI(te:TE):TS:=fun D σ H=>te σ H D.rt
theorem Bv(he:PE X e te):PS X (.Return (some e) pos) (EI te):=by
  intro pins s σ H D I h
  exact wpAny_Return_some (cT (he pins s σ H _ I h) fun v s1 ⟨x,H1,I1,r1,q1⟩=>⟨x,σ,H1,I1,r1,q1⟩)
def ED(c:TT)(t u:TS):TS:=fun D σ H=>c σ H fun b H1=>if b=true then t D σ H1 else u D σ H1
theorem C'{c:Expr}{a b:List Stmt}{tc:TT}(hc:PT X c tc)(ha:kW X a t)(hb:kW X b u):PS X (.If c a b pos) (ED tc t u):=by
  intro pins s σ H D I h
  refine wpAny_If (cT (hc pins s σ H _ I h) fun d s1 ⟨H1,I1,q1⟩=>?_)
  cases d with
  | true=>exact ha pins s1 σ H1 D I1 q1
  | false=>exact hb pins s1 σ H1 D I1 q1
end
abbrev TG:=V→St→Hp→(St→Hp→Prop)→Prop
abbrev xK:=List V→St→Hp→(St→Hp→Prop)→Prop
def PG(X:Cx)(target:Expr)(t:TG):Prop:=
  ∀(pins:List (Addr × Obj)) (s:Shared) (σ:St) (H:Hp) (v:V) (u:Value) (Q:St→Hp→Prop),aB X pins σ H s→bz v u→t v σ H Q→
    wpAny (model X.prog X.w) X.A (assign target X.env u) (fun _ s'=>∃σ' H',aB X pins σ' H' s'∧Q σ' H') X.xe s
def uM(X:Cx)(ts:List Expr)(t:xK):Prop:=
  ∀(pins:List (Addr × Obj)) (s:Shared) (σ:St) (H:Hp) (vs:List V) (us:List Value) (Q:St→Hp→Prop),aB X pins σ H s→aM vs us→t vs σ H Q→
    wpAny (model X.prog X.w) X.A (assignInOrder ((assignEach ts X.env).map (·.2)) us) (fun _ s'=>∃σ' H',aB X pins σ' H' s'∧Q σ' H') X.xe s
abbrev Aq:=V→V→V→Hp→(Hp→Prop)→Prop
def Co(X:Cx)(t:Aq):Prop:=
  ∀(pins:List (Addr × Obj)) (s:Shared) (σ:St) (H:Hp) (o i v:V) (ov iv u:Value) (Q:Hp→Prop),aB X pins σ H s→bz o ov→bz i iv→bz v u→t o i v H Q→
    wpAny (model X.prog X.w) X.A (setItem ov iv u) (fun _ s'=>∃H',aB X pins σ H' s'∧Q H') X.xe s
section
variable{X:Cx}{pos:Pos}
def vJ(i:Nat):TG:=fun v σ H Q=>Q (σ.set i (some v)) H
theorem yK{i:Nat}{x:Str}(hN:X.N.Nodup)(hi:X.N[i]?=some x)(hx:Cg X.env.scope x)(hf:X.fn x=true∨X.env.scope.names.lookup x=some .local:=by first | exact .inl rfl | exact .inr rfl | assumption):PG X (.Name x pos) (vJ i):=by
  intro pins s σ H v u Q I r h
  exact wpAny_assign_Name (jX I hN hi hx r (fun s' I'=>⟨_,H,I',h⟩) hf)
def Ei:xK:=fun vs σ H Q=>vs=[]∧Q σ H
def CB(t:TG)(u:xK):xK:=fun vs σ H Q=>∃v r,vs=v::r∧t v σ H fun σ' H'=>u r σ' H' Q
theorem yM:uM X [] Ei:=by
  intro pins s σ H vs us Q I r h
  obtain⟨e,h⟩:=h
  subst e
  cases r
  exact assignInOrder_nil ⟨σ,H,I,h⟩
theorem wA{e:Expr}{es:List Expr}{t:TG}{u:xK}(h1:PG X e t)(h2:uM X es u)
    (hs:(assignEach (e::es) X.env).map (·.2)=assign e X.env::(assignEach es X.env).map (·.2):=by rfl):uM X (e::es) (CB t u):=by
  intro pins s σ H vs us Q I r h
  obtain⟨v,vr,e1,h⟩:=h
  subst e1
  cases r with
  | cons r rr=>
    rw [hs]
    refine assignInOrder_cons (cT (h1 pins s σ H _ _ _ I r h) fun _ s1 ⟨σ1,H1,I1,q1⟩=>?_)
    exact h2 pins s1 σ1 H1 _ _ Q I1 rr q1
def CF(K:PySem.W.Frag)(n:Nat)(t:xK):TG:=fun v σ H Q=>∃a xs,v=.ref a∧cP K H a xs∧xs.length=n∧t xs σ H Q
theorem Bo{es:List Expr}{k:Nat}{t:xK}{n:Nat}(hc:X.calm=true)(h:uM X es t)
    (hn:(assignEach es X.env).length=n:=by rfl)(hst:(assignEach es X.env).findIdx? (·.1)=none:=by rfl):PG X (.Tuple es k pos) (CF X.K n t):=by
  intro pins s σ H v u Q I r hw
  obtain⟨a,xs,e1,hq,hl,hw⟩:=hw
  subst e1
  cases r
  obtain⟨its,rv,ht,hz⟩:=I.tuple hq
  refine assign_Tuple_tuple (I.ok.hd hc) ht (by simp [hn,←hl,rv.length]) hst fun h' hx=>?_
  have I1:aB X pins σ H {s with heap:=h'}:=I.kept (t':=s.toks) fun b o e=>hx b o (Nat.ne_of_lt (Heap.lt_size e)) e
  exact h pins _ σ H xs _ Q I1 (by simpa using rv) hw
def Ek(to ti:TE)(t:Aq):TG:=fun v σ H Q=>to σ H fun o H1=>ti σ H1 fun i H2=>t o i v H2 fun H3=>Q σ H3
theorem Bn{o i:Expr}{to ti:TE}{t:Aq}(ho:PE X o to)(hi:PE X i ti)(hs:Co X t)
    (ha:∀v,assign (.Subscript o i pos) X.env v=(do
      let ov ←holding [v] (eval o X.env)
      let iv ←holding [v,ov] (eval i X.env)
      standAt pos
      holding [v,ov,iv] (setItem ov iv v)
      release [v,ov,iv] []):=by intro _;rfl):PG X (.Subscript o i pos) (Ek to ti t):=by
  intro pins s σ H v u Q I r h
  rw [ha]
  refine wpAny_bind (wpAny_holding (cT (ho pins s σ H _ I h) fun ov s1 ⟨x,H1,I1,r1,q1⟩=>?_))
  refine wpAny_bind (wpAny_holding (cT (hi pins s1 σ H1 _ I1 q1) fun iv s2 ⟨y,H2,I2,r2,q2⟩=>?_))
  refine wpAny_bind (wpAny_standAt (wpAny_bind (wpAny_holding (cT (hs pins s2 σ H2 x y v ov iv u _ I2 r1 r2 r q2) fun _ s3 ⟨H3,I3,q3⟩=>?_))))
  exact wpAny_release ⟨σ,H3,I3,q3⟩
def BS(te:TE)(g:TG):TS:=fun D σ H=>te σ H fun x H1=>g x σ H1 D.nx
theorem wG{tg e:Expr}{te:TE}{g:TG}(he:PE X e te)(hg:PG X tg g)(hs:swapsWithSole [tg] e pos.line X.env=pure false:=by rfl)(hw:swappedStores [tg] e X.env=pure none:=by rfl)
    (h1:(assignEach [tg] X.env).map (·.2)=[assign tg X.env]:=by rfl):PS X (.Assign [tg] e pos) (BS te g):=by
  intro pins s σ H D I h
  refine wpAny_Assign_stores (cT (he pins s σ H _ I h) fun v s1 ⟨x,H1,I1,r1,q1⟩=>?_) hs hw
  rw [h1]
  exact cT (hg pins s1 σ H1 x v _ I1 r1 q1) fun _ s2 q=>q
theorem Bw{i:Nat}{x:Str}{e:Expr}{te:TE}{pos':Pos}(hN:X.N.Nodup)(hi:X.N[i]?=some x)(hx:Cg X.env.scope x)(he:PE X e te)(hs:swapsWith e (some (.Name x pos')) pos.line X.env=pure false:=by rfl)(hf:X.fn x=true∨X.env.scope.names.lookup x=some .local:=by first | exact .inl rfl | exact .inr rfl | assumption):
    PS X (.Assign [.Name x pos'] e pos) (BS te (vJ i)):=by
  intro pins s σ H D I h
  refine wpAny_Assign_Name (cT (he pins s σ H _ I h) fun v s1 ⟨y,H1,I1,r1,q1⟩=>?_) hs
  exact jX I1 hN hi hx r1 (fun s2 I2=>⟨_,H1,I2,q1⟩) hf
def EH(i j:Nat)(ta:TA):TS:=fun D σ H=>ta σ H fun vs H1=>∃v w,vs=[v,w]∧D.nx ((σ.set i (some v)).set j (some w)) H1
theorem Bu{i j:Nat}{x y:Str}{a b:Expr}{ta:TA}{px py pt:Pos}{kt k2 pt2}(hc:X.calm=true)(hN:X.N.Nodup)(hi:X.N[i]?=some x)(hj:X.N[j]?=some y)(hij:i≠j)
    (hx:X.env.scope.names.lookup x=some .local)(hy:X.env.scope.names.lookup y=some .local)(ha:PA X [a,b] ta)
    (hw:swappedStores [.Tuple [.Name x px,.Name y py] kt pt] (.Tuple [a,b] k2 pt2) X.env=pure (some [x,y]))
    (hs:swapsWithSole [.Tuple [.Name x px,.Name y py] kt pt] (.Tuple [a,b] k2 pt2) pos.line X.env=pure false:=by rfl):
    PS X (.Assign [.Tuple [.Name x px,.Name y py] kt pt] (.Tuple [a,b] k2 pt2) pos) (EH i j ta):=by
  intro pins s σ H D I h
  rw [exec_Assign_arm]
  refine wpAny_bind (wpAny_standAt ?_)
  rw [hs]
  refine wpAny_bind (wpAny_pure ?_)
  rw [if_neg (by decide)]
  refine wpAny_bind (Tuple_ (cT (ha _ pins s σ H _ I h) fun us s1 ⟨vs,H1,I1,r1,q1⟩=>?_))
  obtain⟨v,w,e1,q1⟩:=q1
  subst e1
  obtain⟨u1,u2,rfl,rv,rw'⟩:∃u1 u2,us=[u1,u2]∧bz v u1∧bz w u2:=by
    cases r1 with
    | cons p q=>
      cases q with
      | cons p' q'=>
        cases q'
        exact⟨_,_,rfl,p,p'⟩
  refine wpAny_newObj_type ?_ (by show 2≤sizeLine;decide)
  have I2:aB X pins σ H1 {s1 with heap:=s1.heap.push {cls:=.type "tuple",data:=.seq [u1,u2].toArray}}:=I1.kept (t':=s1.toks) fun b o e=>Heap.get?_push_of_some _ e
  rw [hw]
  refine wpAny_bind (wpAny_pure ?_)
  show wpAny (model X.prog X.w) X.A (do rule "assign.swapped-stores";let items ←unpackItems (.ref s1.heap.objs.size) 2 none;assignInOrder [fun v=>bindName X.env y v,fun v=>bindName X.env x v] items.reverse;pure Flow.next) _ _ _
  refine wpAny_bind (wpAny_rule (wpAny_bind (unpackItems_tuple (items:=#[u1,u2]) (I.ok.hd hc) (IsTup.new s1.heap _) fun h' hx'=>?_)))
  have I3:=I2.kept (h':=h') (t':=s1.toks) fun b o e=>hx' b o (Nat.ne_of_lt (Heap.lt_size e)) e
  show wpAny _ _ (assignInOrder [fun v=>bindName X.env y v,fun v=>bindName X.env x v] [u2,u1] >>= fun _=>pure Flow.next) _ _ _
  refine wpAny_bind (assignInOrder_cons (wpAny_bindName (jX I3 hN hj (.inl hy) rw' (fun s2 I4=>?_) (.inr hy))))
  refine assignInOrder_cons (wpAny_bindName (jX I4 hN hi (.inl hx) rv (fun s3 I5=>assignInOrder_nil (wpAny_pure ?_)) (.inr hx)))
  rw [List.set_comm _ _ (Ne.symm hij)] at I5
  exact⟨_,H1,I5,q1⟩
end
section
variable{X:Cx}{pos:Pos}
def BZ(c:TT)(tb:TS):TS:=fun D σ H=>∃W:Nat→St→Hp→Prop,(∃m,W m σ H)∧∀m σ H,W m σ H→
  c σ H fun b H1=>if b=true then ∃N:St→Hp→Prop,(∀σ' H',N σ' H'→∃m',m' < m∧W m' σ' H')∧tb {D with nx:=N,ct:=N,bk:=D.nx} σ H1 else D.nx σ H1
theorem wH{c:Expr}{body:List Stmt}{tc:TT}{tb:TS}(hp:PassesOwn (model X.prog X.w) X.A X.env X.xe)(hc:PT X c tc)(hb:kW X body tb):PS X (.While c body [] pos) (BZ tc tb):=by
  intro pins s σ H D I h
  obtain⟨W,⟨m0,w0⟩,turn⟩:=h
  refine wpAny_While (codeAny_whileLoop (fun n s'=>∃σ' H',aB X pins σ' H' s'∧W n σ' H') ?_ m0 ⟨σ,H,I,w0⟩)
  rintro n s1 ⟨σ1,H1,I1,w1⟩
  refine wpAny_passesOwn hp (cT (hc pins s1 σ1 H1 _ I1 (turn n σ1 H1 w1)) fun b s2 ⟨H2,I2,q2⟩=>?_)
  cases b with
  | true=>
    obtain⟨N,hN,q2⟩:=q2
    rw [if_pos rfl]
    refine wpAny_passesOwn hp (cT (hb pins s2 σ1 H2 _ I2 q2) fun f s3 q3=>?_)
    cases f with
    | next=>
      obtain⟨σ3,H3,I3,n3⟩:=q3
      obtain⟨m',hm,w3⟩:=hN σ3 H3 n3
      exact⟨m',hm,σ3,H3,I3,w3⟩
    | cont=>
      obtain⟨σ3,H3,I3,n3⟩:=q3
      obtain⟨m',hm,w3⟩:=hN σ3 H3 n3
      exact⟨m',hm,σ3,H3,I3,w3⟩
    | brk=>exact q3
    | ret v=>exact q3
  | false=>
    rw [if_neg Bool.false_ne_true]
    exact wpAny_execs_nil ⟨σ1,H2,I2,q2⟩
end
structure It where
  go:Nat→Hp→Prop
  yld:Nat→Hp→V→Hp→Prop
  stop:Nat→Hp→Prop
def jw(X:Cx)(pins:List (Addr × Obj))(H:Hp)(b:Addr):Prop:=
  H b=none∧b≠X.env.locals∧b∉X.fs∧(b∈X.ex∨X.s₀.heap.objs.size≤b)∧(∀x c,X.env.cells.lookup x=some c→c≠b)∧∀p∈X.pn++pins,p.1≠b
theorem aB.fpOk{X:Cx}{pins:List (Addr × Obj)}{σ:St}{H H':Hp}{s:Shared}{b:Addr}(I:aB X pins σ H s)(hb:s.heap.objs.size≤b)(hn:H' b=none):jw X pins H' b:=by
  refine⟨hn,Nat.ne_of_gt (Nat.lt_of_lt_of_le I.lt hb),I.nofs hb,.inr (Nat.le_trans I.sz hb),fun x c e z=>?_,fun p hp z=>?_⟩
  · obtain⟨v,q⟩:=I.cell x c e
    exact absurd (Nat.lt_of_lt_of_le q.lt (by rw [z];exact hb)) (Nat.lt_irrefl _)
  · exact absurd (Nat.lt_of_lt_of_le (Heap.lt_size (I.pin p hp).1) (by rw [z];exact hb)) (Nat.lt_irrefl _)
structure uT (P:Program) (w:World) (K:PySem.W.Frag) (tg:Expr) (J:It) (fp:List Addr) (it:Addr) (tn:Nat→Heap→Prop):Prop where
  mem:it∈fp
  obj:∀i h,tn i h→∀b∈fp,∃o,h.get? b=some o∧∀v,o.data≠.cell v
  keep:∀i h h',tn i h→(∀b∈fp,∀o,h.get? b=some o→h'.get? b=some o)→tn i h'
  item:∀(X:Cx),X.prog=P→X.w=w→X.K=K→X.calm=true→∀(i:Nat) (pins:List (Addr × Obj)) (s:Shared) (σ:St) (H:Hp) (E:Value→Shared→Prop),aB X pins σ H s→(∀b∈fp,jw X pins H b)→tn i s.heap→J.go i H→
    wpAny (model P w) X.A (pyNext (.ref it)) (fun r s1=>∃u,r=some u∧
      wpAny (model P w) X.A (letOwnedTupleGo tg (.ref it) u) (fun _ s2=>∃x H',aB X pins σ H' s2∧bz x u∧J.yld i H x H'∧tn (i+1) s2.heap∧∀b∈fp,H' b=none) E s1) E s
  done:∀(X:Cx),X.prog=P→X.w=w→X.K=K→X.calm=true→∀(i:Nat) (pins:List (Addr × Obj)) (s:Shared) (σ:St) (H:Hp) (E:Value→Shared→Prop),aB X pins σ H s→(∀b∈fp,jw X pins H b)→tn i s.heap→J.stop i H→
    wpAny (model P w) X.A (pyNext (.ref it)) (fun r s1=>r=none∧aB X pins σ H s1) E s
  self:∀(A:Around) (i:Nat) (s:Shared) (Q:Value→Shared→Prop) (E:Value→Shared→Prop),tn i s.heap→Q (.ref it) s→wpAny (model P w) A (pyIter (.ref it)) Q E s
abbrev TI:=St→Hp→(It→Hp→Prop)→Prop
def ES(X:Cx)(pins:List (Addr × Obj))(σ:St)(tg:Expr)(R:It→Hp→Prop)(itv:Value)(s2:Shared):Prop:=
  ∃(it:Addr) (fp:List Addr) (tn:Nat→Heap→Prop) (J:It) (H':Hp),itv=.ref it∧aB X pins σ H' s2∧uT X.prog X.w X.K tg J fp it tn∧tn 0 s2.heap∧(∀b∈fp,jw X pins H' b)∧R J H'
def PI(X:Cx)(tg iter:Expr)(wi:TI):Prop:=
  ∀(pins:List (Addr × Obj)) (s:Shared) (σ:St) (H:Hp) (R:It→Hp→Prop),aB X pins σ H s→wi σ H R→
    wpAny (model X.prog X.w) X.A (eval iter X.env) (fun v s1=>wpAny (model X.prog X.w) X.A (pyIter v) (ES X pins σ tg R) X.xe s1) X.xe s
theorem vM{M:Model}{A:Around}{E:Value→Shared→Prop}{s:Shared}{tg:Expr}{it:Addr}{u:Value}{o:Obj}{n:String}{vs:Array Value}{Q:Unit→Shared→Prop}(ho:s.heap.get? it=some o)(hc:o.cls=.type n)(hd:o.data=.fields vs)
    (hn:["enumerate","zip","dict_itemiterator","dict_reverseitemiterator","odict_iterator","itertools.zip_longest","itertools.pairwise"].contains n=false)(hQ:Q () s):wpAny M A (letOwnedTupleGo tg (.ref it) u) Q E s:=by
  unfold letOwnedTupleGo
  cases tg<;>first
    | exact wpAny_pure hQ
    | (cases u<;>first
        | exact wpAny_pure hQ
        | (refine wpAny_bind (wpAny_load ho ?_)
           rw [hc,hd]
           show wpAny M A (if (["enumerate","zip","dict_itemiterator","dict_reverseitemiterator","odict_iterator","itertools.zip_longest","itertools.pairwise"].contains n&&vs[0]?==some (rawInt _))=true then _ else _) Q E s
           rw [if_neg (by intro h;rw [hn,Bool.false_and] at h;cases h)]
           exact wpAny_pure hQ))
def D_(K:PySem.W.Frag)(a:Addr):It:=
  ⟨fun i H=>∃xs x,i_ K H a xs∧xs[i]?=some x,fun i H x H'=>H'=H∧∀xs,i_ K H a xs→xs[i]?=some x,fun i H=>∃xs,i_ K H a xs∧xs.length≤i⟩
def Ea(K:PySem.W.Frag)(a:Addr):It:=
  ⟨fun i H=>∃xs x,cP K H a xs∧xs[i]?=some x,fun i H x H'=>H'=H∧∀xs,cP K H a xs→xs[i]?=some x,fun i H=>∃xs,cP K H a xs∧xs.length≤i⟩
def DN(lo:Int)(n:Nat):It:=⟨fun i _=>i < n,fun i H x H'=>H'=H∧x=.int (lo+i),fun i _=>n≤i⟩
theorem uF{P:Program}{w:World}{K:PySem.W.Frag}{tg:Expr}(a it:Addr):uT P w K tg (D_ K a) [it] it (fun i h=>h.IsListIter it a i) where
  mem:=by simp
  obj:=fun i h st b hb=>by
    have e:b=it:=by simpa using hb
    subst e
    obtain⟨o,e,c,d⟩:=st
    exact⟨o,e,fun v z=>by rw [d] at z;cases z⟩
  keep:=fun i h h' st k=>st.at fun o e=>k it (by simp) o e
  item:=by
    intro X hP hw hK hc i pins s σ H E I hf st hg
    subst hP hw hK
    obtain⟨xs,x,hq,hx⟩:=hg
    obtain⟨its,rv,p,hz⟩:=I.list hq
    obtain⟨u,hu,ru⟩:=rv.get hx
    obtain⟨f0,f1,f2,f3,f4,f5⟩:=hf it (by simp)
    refine wpAny_pyNext_list_item st p.isList (x:=u) (by simpa using hu) fun h' st' sb=>?_
    have I1:aB X pins σ H {s with heap:=h'}:=I.turned (t':=s.toks) (fun b o hb e=>(sb.2 b hb).trans e) f0 f1 f3 f4 f5
    obtain⟨o,e,c,d⟩:=id st'
    exact⟨u,rfl,vM (s:={s with heap:=h'}) e c d (by decide) ⟨x,H,I1,ru,⟨rfl,fun ys hy=>by rw [I.list_inj hy hq];exact hx⟩,st',fun b hb=>(hf b hb).1⟩⟩
  done:=by
    intro X hP hw hK hc i pins s σ H E I hf st hg
    subst hP hw hK
    obtain⟨xs,hq,hx⟩:=hg
    obtain⟨its,rv,p,hz⟩:=I.list hq
    obtain⟨f0,f1,f2,f3,f4,f5⟩:=hf it (by simp)
    have hl:=rv.length
    exact wpAny_pyNext_list_end (I.ok.hd hc) st p.isList (by simp;lia) fun h' eb=>⟨rfl,I.turned (t':=s.toks) (fun b o hb e=>eb b o hb e) f0 f1 f3 f4 f5⟩
  self:=fun _ _ _ _ _ st h=>wpAny_pyIter_listiter st h
theorem r6{P:Program}{w:World}{K:PySem.W.Frag}{tg:Expr}(a it:Addr):uT P w K tg (Ea K a) [it] it (fun i h=>h.IsTupleIter it a i) where
  mem:=by simp
  obj:=fun i h st b hb=>by
    have e:b=it:=by simpa using hb
    subst e
    obtain⟨o,e,c,d⟩:=st
    exact⟨o,e,fun v z=>by rw [d] at z;cases z⟩
  keep:=fun i h h' st k=>st.at fun o e=>k it (by simp) o e
  item:=by
    intro X hP hw hK hc i pins s σ H E I hf st hg
    subst hP hw hK
    obtain⟨xs,x,hq,hx⟩:=hg
    obtain⟨its,rv,p,hz⟩:=I.tuple hq
    obtain⟨u,hu,ru⟩:=rv.get hx
    obtain⟨f0,f1,f2,f3,f4,f5⟩:=hf it (by simp)
    refine wpAny_pyNext_tuple_item st (show s.heap.IsTuple a its.toArray from p) (x:=u) (by simpa using hu) fun h' st' sb=>?_
    have I1:aB X pins σ H {s with heap:=h'}:=I.turned (t':=s.toks) (fun b o hb e=>(sb.2 b hb).trans e) f0 f1 f3 f4 f5
    obtain⟨o,e,c,d⟩:=id st'
    exact⟨u,rfl,vM (s:={s with heap:=h'}) e c d (by decide) ⟨x,H,I1,ru,⟨rfl,fun ys hy=>by rw [I.tuple_inj hy hq];exact hx⟩,st',fun b hb=>(hf b hb).1⟩⟩
  done:=by
    intro X hP hw hK hc i pins s σ H E I hf st hg
    subst hP hw hK
    obtain⟨xs,hq,hx⟩:=hg
    obtain⟨its,rv,p,hz⟩:=I.tuple hq
    obtain⟨f0,f1,f2,f3,f4,f5⟩:=hf it (by simp)
    have hl:=rv.length
    exact wpAny_pyNext_tuple_end (I.ok.hd hc) st (show s.heap.IsTuple a its.toArray from p) (by simp;lia) fun h' eb=>⟨rfl,I.turned (t':=s.toks) (fun b o hb e=>eb b o hb e) f0 f1 f3 f4 f5⟩
  self:=fun _ _ _ _ _ st h=>wpAny_pyIter_tupleiter st h
theorem rZ{P:Program}{w:World}{K:PySem.W.Frag}{tg:Expr}(it:Addr)(lo:Int)(n:Nat):uT P w K tg (DN lo n) [it] it (fun i h=>IsRangeIter h it (lo+(i:Nat)*1) ((n:Int) - (i:Nat)) 1) where
  mem:=by simp
  obj:=fun i h st b hb=>by
    have e:b=it:=by simpa using hb
    subst e
    exact⟨_,st,fun v z=>by
      have z':Data.fields _=Data.cell v:=z
      cases z'⟩
  keep:=fun i h h' st k=>k it (by simp) _ st
  item:=by
    intro X hP hw hK hc i pins s σ H E I hf st hg
    subst hP hw hK
    obtain⟨f0,f1,f2,f3,f4,f5⟩:=hf it (by simp)
    have W:=Walks.range (prog:=X.prog) (w:=X.w) (I.ok.hd hc) it lo 1 n
    refine W.item i s _ _ hg st fun v h' tk hv st' kk=>?_
    obtain⟨t,rfl⟩:=hv
    have I1:aB X pins σ H {s with heap:=h',toks:=tk}:=I.turned (fun b o hb e=>kk b o (by simpa using hb) e) f0 f1 f3 f4 f5
    refine⟨_,rfl,vM (s:={s with heap:=h',toks:=tk}) (n:="range_iterator") st' rfl rfl (by decide) ⟨.int (lo+i),H,I1,⟨t,?_⟩,⟨rfl,rfl⟩,st',fun b hb=>(hf b hb).1⟩⟩
    rw [Int.mul_one]
  done:=by
    intro X hP hw hK hc i pins s σ H E I hf st hg
    subst hP hw hK
    obtain⟨f0,f1,f2,f3,f4,f5⟩:=hf it (by simp)
    exact wpAny_pyNext_range_end (I.ok.hd hc) st (by have:n≤i:=hg;lia) fun h' eb=>⟨rfl,I.turned (t':=s.toks) (fun b o hb e=>eb b o hb e) f0 f1 f3 f4 f5⟩
  self:=fun _ _ _ _ _ st h=>wpAny_pyIter_rangeiter st h
end L2
namespace L2
open PySem PySem.Spec PyProof.Rows
section
variable{X:Cx}{tg:Expr}
def zZ(K:PySem.W.Frag)(tl:TE):TI:=fun σ H R=>tl σ H fun x H1=>∃a,x=.ref a∧(∃xs,i_ K H1 a xs)∧R (D_ K a) H1
def CH(K:PySem.W.Frag)(tl:TE):TI:=fun σ H R=>tl σ H fun x H1=>∃a,x=.ref a∧(∃xs,cP K H1 a xs)∧R (Ea K a) H1
theorem yN{l:Expr}{tl:TE}(hl:PE X l tl):PI X tg l (zZ X.K tl):=by
  intro pins s σ H R I h
  refine cT (hl pins s σ H _ I h) fun v s1 ⟨x,H1,I1,r1,q1⟩=>?_
  obtain⟨a,e,⟨xs,hq⟩,q⟩:=q1
  subst e
  cases r1
  obtain⟨its,rv,p,hz⟩:=I1.list hq
  refine wpAny_pyIter_list p.isList ?_
  refine⟨s1.heap.objs.size,[s1.heap.objs.size],_,_,H1,rfl,I1.kept (t':=s1.toks) fun b o e=>Heap.get?_push_of_some _ e,uF a _,⟨_,Heap.get?_push_size _ rfl,rfl,rfl⟩,fun b hb=>?_,q⟩
  have e:b=s1.heap.objs.size:=by simpa using hb
  subst e
  exact I1.fpOk (Nat.le_refl _) (I1.hok.fresh (Nat.le_refl _))
theorem Bp{l:Expr}{tl:TE}(hl:PE X l tl):PI X tg l (CH X.K tl):=by
  intro pins s σ H R I h
  refine cT (hl pins s σ H _ I h) fun v s1 ⟨x,H1,I1,r1,q1⟩=>?_
  obtain⟨a,e,⟨xs,hq⟩,q⟩:=q1
  subst e
  cases r1
  obtain⟨its,rv,p,hz⟩:=I1.tuple hq
  refine wpAny_pyIter_tuple (show s1.heap.IsTuple a its.toArray from p) ?_
  refine⟨s1.heap.objs.size,[s1.heap.objs.size],_,_,H1,rfl,I1.kept (t':=s1.toks) fun b o e=>Heap.get?_push_of_some _ e,r6 a _,⟨_,Heap.get?_push_size _ rfl,rfl,rfl⟩,fun b hb=>?_,q⟩
  have e:b=s1.heap.objs.size:=by simpa using hb
  subst e
  exact I1.fpOk (Nat.le_refl _) (I1.hok.fresh (Nat.le_refl _))
theorem wX{pins:List (Addr × Obj)}{σ:St}{H:Hp}{s:Shared}{R:It→Hp→Prop}{E:Value→Shared→Prop}{lo hi:Int}{t u v:Tok}{tk:Nat}(I:aB X pins σ H s)(h1: -(2 ^ 62)≤lo)(h2:lo < 2 ^ 62)(h3: -(2 ^ 62)≤hi)(h4:hi < 2 ^ 62)
    (q:R (DN lo (hi - lo).toNat) H):wpAny (model X.prog X.w) X.A (pyIter (.ref s.heap.objs.size)) (ES X pins σ tg R) E {s with heap:=s.heap.push {cls:=.type "range",data:=.fields #[.int lo t,.int hi u,.int 1 v]},toks:=tk}:=by
  refine wpAny_pyIter_range (IsRange.new ..) (small_one h1 h2 h3 h4) ?_
  have I1:aB X pins σ H {s with heap:=s.heap.push {cls:=.type "range",data:=.fields #[.int lo t,.int hi u,.int 1 v]},toks:=tk}:=I.kept fun b o e=>Heap.get?_push_of_some _ e
  refine⟨(s.heap.push {cls:=.type "range",data:=.fields #[.int lo t,.int hi u,.int 1 v]}).objs.size,[(s.heap.push {cls:=.type "range",data:=.fields #[.int lo t,.int hi u,.int 1 v]}).objs.size],_,_,H,rfl,
    I1.kept (t':=tk) fun b o e=>Heap.get?_push_of_some _ e,rZ _ lo (hi - lo).toNat,?_,fun b hb=>?_,q⟩
  · have e1:lo+((0:Nat):Int)*1=lo:=by simp
    have e2:(((hi - lo).toNat:Nat):Int) - ((0:Nat):Int)=Builtin.Range.rangeSize lo hi 1:=by rw [rangeSize_one];split<;>lia
    show IsRangeIter _ _ (lo+((0:Nat):Int)*1) ((((hi - lo).toNat:Nat):Int) - ((0:Nat):Int)) 1
    rw [e1,e2]
    exact Heap.get?_push_size _ rfl
  · have e:b=(s.heap.push {cls:=.type "range",data:=.fields #[.int lo t,.int hi u,.int 1 v]}).objs.size:=by simpa using hb
    subst e
    exact I1.fpOk (Nat.le_refl _) (I1.hok.fresh (Nat.le_refl _))
def CG(ta:TA):TI:=fun σ H R=>ta σ H fun vs H1=>∃j:Int,vs=[.int j]∧ -(2 ^ 62)≤j∧j < 2 ^ 62∧R (DN 0 j.toNat) H1
theorem um{a:Expr}{ta:TA}{p pos:Pos}(hg:Gl X "range")(hm:X.mg "range"=none)(ha:PA X [a] ta)(hs:starEach [a] X.env=[(false,eval a X.env)]:=by rfl):PI X tg (.Call (.Name "range" p) [a] [] pos) (CG ta):=by
  intro pins s σ H R I h
  refine Call_ (kd I hg hm boot_range (PyProof.Rows.callWith_type1 (cT (ha pos pins s σ H _ I h) fun us s1 ⟨vs,H1,I1,r1,q1⟩=>?_) hs rfl))
  obtain⟨j,e,q1,q2,q⟩:=q1
  subst e
  cases r1 with
  | cons r rr=>
    cases rr
    obtain⟨t,rfl⟩:=r
    exact call_range_1 (wX I1 (by lia) (by lia) q1 q2 (by simpa using q))
def EC(wi:TI)(g:TG)(tb:TS):TS:=fun D σ H=>wi σ H fun J H1=>∃W:Nat→Nat→St→Hp→Prop,(∃m,W 0 m σ H1)∧∀i m σ H,W i m σ H→
  (J.stop i H∧D.nx σ H)∨(J.go i H∧∃N:St→Hp→Prop,(∀σ' H',N σ' H'→∃m',m' < m∧W (i+1) m' σ' H')∧∀x H',J.yld i H x H'→g x σ H' fun σ2 H2=>tb {D with nx:=N,ct:=N,bk:=D.nx} σ2 H2)
def kh(fp:List Addr)(h:Heap):List (Addr × Obj):=fp.filterMap fun b=>(h.get? b).map fun o=>(b,o)
theorem dA{fp:List Addr}{h:Heap}{b:Addr}{o:Obj}(hb:b∈fp)(e:h.get? b=some o):(b,o)∈kh fp h:=List.mem_filterMap.mpr ⟨b,hb,by rw [e];rfl⟩
theorem uf{fp:List Addr}{h:Heap}{p:Addr × Obj}(hp:p∈kh fp h):p.1∈fp∧h.get? p.1=some p.2:=by
  obtain⟨b,hb,e⟩:=List.mem_filterMap.mp hp
  cases q:h.get? b with
  | none=>rw [q] at e;cases e
  | some o=>
    rw [q] at e
    have e':(b,o)=p:=Option.some.inj e
    subst e'
    exact⟨hb,q⟩
theorem aB.pinned{pins:List (Addr × Obj)}{σ:St}{H:Hp}{s:Shared}{fp:List Addr}(I:aB X pins σ H s)(hf:∀b∈fp,jw X pins H b)(ho:∀b∈fp,∃o,s.heap.get? b=some o∧∀v,o.data≠.cell v):aB X (pins++kh fp s.heap) σ H s:=
  I.pins_of fun p hp=>(List.mem_append.mp hp).elim (fun z=>I.pin p (List.mem_append_right _ z)) fun z=>by
    obtain⟨hb,e⟩:=uf z
    obtain⟨f0,f1,f2,_⟩:=hf p.1 hb
    obtain⟨o,e',d⟩:=ho p.1 hb
    rw [e] at e';cases e'
    exact⟨e,f0,f1,f2,d⟩
theorem aB.unpinned{pins pl:List (Addr × Obj)}{σ:St}{H:Hp}{s:Shared}(I:aB X (pins++pl) σ H s):aB X pins σ H s:=I.pins_of fun p hp=>I.pin p (List.mem_append_right _ (List.mem_append_left _ hp))
theorem Bs{iter:Expr}{body:List Stmt}{wi:TI}{g:TG}{tb:TS}{pos:Pos}(hp:PassesOwn (model X.prog X.w) X.A X.env X.xe)(hc:X.calm=true)(hi:PI X tg iter wi)(hg:PG X tg g)(hb:kW X body tb)
    (hs:∀x,foldedSetIterable iter X.env x=pure x:=by intro _;rfl):PS X (.For tg iter body [] pos) (EC wi g tb):=by
  intro pins s σ H D I h
  refine wpAny_For (cT (hi pins s σ H _ I h) fun v s1 h1=>cT h1 fun itv s2 h2=>?_) hs
  obtain⟨it,fp,tn,J,H2,e,I2,T,st2,f2,W,⟨m0,w0⟩,turn⟩:=h2
  subst e
  have stat:∀{H':Hp},(∀b∈fp,H' b=none)→∀b∈fp,jw X pins H' b:=fun hn b hb=>⟨hn b hb,(f2 b hb).2⟩
  refine codeAny_forLoop_any (fun n s'=>∃i σ' H',aB X pins σ' H' s'∧tn i s'.heap∧(∀b∈fp,H' b=none)∧W i n σ' H') ?_ m0 ⟨0,σ,H2,I2,st2,fun b hb=>(f2 b hb).1,w0⟩
  rintro n s3 ⟨i,σ3,H3,I3,st3,fr3,w3⟩
  rcases turn i n σ3 H3 w3 with ⟨stop,qn⟩ | ⟨go,N,hN,step⟩
  · refine wpAny_passesOwn hp (cT (T.done X rfl rfl rfl hc i pins s3 σ3 H3 X.xe I3 (stat fr3) st3 stop) fun r s4 ⟨hr,I4⟩=>?_)
    subst hr
    exact wpAny_execs_nil ⟨σ3,H3,I4,qn⟩
  · refine wpAny_passesOwn hp (cT (T.item X rfl rfl rfl hc i pins s3 σ3 H3 X.xe I3 (stat fr3) st3 go) fun r s4 ⟨u,hr,h4⟩=>?_)
    subst hr
    refine wpAny_passesOwn hp (cT h4 fun _ s5 ⟨x,H5,I5,r5,y5,st5,fr5⟩=>?_)
    have I5':=I5.pinned (stat fr5) (T.obj _ _ st5)
    refine wpAny_passesOwn hp (cT (hg _ s5 σ3 H5 x u _ I5' r5 (step x H5 y5)) fun _ s6 ⟨σ6,H6,I6,q6⟩=>?_)
    refine wpAny_passesOwn hp (cT (hb _ s6 σ6 H6 _ I6 q6) fun f s7 q7=>?_)
    have again:∀{σ7:St} {H7:Hp},aB X (pins++kh fp s5.heap) σ7 H7 s7→N σ7 H7→∃m,m < n∧∃i σ' H',aB X pins σ' H' s7∧tn i s7.heap∧(∀b∈fp,H' b=none)∧W i m σ' H':=fun{σ7 H7} I7 n7=>by
      obtain⟨m',hm,w7⟩:=hN σ7 H7 n7
      refine⟨m',hm,i+1,σ7,H7,I7.unpinned,T.keep _ _ _ st5 fun b hb o e=>(I7.pin (b,o) (List.mem_append_right _ (List.mem_append_right _ (dA hb e)))).1,fun b hb=>?_,w7⟩
      obtain⟨o,e,d⟩:=T.obj _ _ st5 b hb
      exact(I7.pin (b,o) (List.mem_append_right _ (List.mem_append_right _ (dA hb e)))).2.1
    cases f with
    | next=>obtain⟨σ7,H7,I7,n7⟩:=q7;exact again I7 n7
    | cont=>obtain⟨σ7,H7,I7,n7⟩:=q7;exact again I7 n7
    | brk=>obtain⟨σ7,H7,I7,q7⟩:=q7;exact⟨σ7,H7,I7.unpinned,q7⟩
    | ret v=>obtain⟨x7,σ7,H7,I7,r7,q7⟩:=q7;exact⟨x7,σ7,H7,I7.unpinned,r7,q7⟩
end
end L2
namespace L2
open PySem PySem.Spec PyProof.Rows
abbrev R2:=V→V→Hp→VK→Prop
def ii(X:Cx)(f:Value→Value→Sem Value)(r:R2):Prop:=
  ∀(pins:List (Addr × Obj)) (s:Shared) (σ:St) (H:Hp) (x y:V) (v u:Value) (Q:VK),aB X pins σ H s→bz x v→bz y u→r x y H Q→
    wpAny (model X.prog X.w) X.A (f v u) (EP X pins σ Q) X.xe s
def DR(X:Cx)(f:Value→Sem Value)(r:V→Hp→VK→Prop):Prop:=
  ∀(pins:List (Addr × Obj)) (s:Shared) (σ:St) (H:Hp) (x:V) (v:Value) (Q:VK),aB X pins σ H s→bz x v→r x H Q→
    wpAny (model X.prog X.w) X.A (f v) (EP X pins σ Q) X.xe s
def e_(X:Cx)(f:Value)(r:List V→Hp→VK→Prop):Prop:=
  ∀(pins:List (Addr × Obj)) (s:Shared) (σ:St) (H:Hp) (xs:List V) (us:List Value) (Q:VK),aB X pins σ H s→aM xs us→r xs H Q→
    wpAny (model X.prog X.w) X.A (call f us) (EP X pins σ Q) X.xe s
def Dy(r:R2)(ta tb:TE):TE:=fun σ H Q=>ta σ H fun x H1=>tb σ H1 fun y H2=>r x y H2 Q
def E3(r:V→Hp→VK→Prop)(ta:TE):TE:=fun σ H Q=>ta σ H fun x H1=>r x H1 Q
def rI(C:Int→Int→Prop)(g:Int→Int→V):R2:=fun x y H Q=>∃i j,x=.int i∧y=.int j∧C i j∧Q (g i j) H
def uu(g:Int→Int→V):R2:=fun x y H Q=>∃i j,x=.int i∧y=.int j∧Q (g i j) H
def rU(g:Int→V):V→Hp→VK→Prop:=fun x H Q=>∃i,x=.int i∧Q (g i) H
section
variable{X:Cx}{a b c:Expr}{ta tb tc:TE}{pos:Pos}
theorem As(ha:PE X a ta)(hb:PE X b tb){pins:List (Addr × Obj)}{s:Shared}{σ:St}{H:Hp}{R:V→V→Hp→Prop}(I:aB X pins σ H s)
    (h:ta σ H fun x H1=>tb σ H1 fun y H2=>R x y H2){Q:Value→Shared→Prop}{f:Value→Value→Sem Value}
    (hf:∀v u s2 x y H2,aB X pins σ H2 s2→bz x v→bz y u→R x y H2→wpAny (model X.prog X.w) X.A (f v u) Q X.xe s2):
    wpAny (model X.prog X.w) X.A (eval a X.env) (fun v s₁=>wpAny (model X.prog X.w) X.A (eval b X.env) (fun u s₂=>wpAny (model X.prog X.w) X.A (f v u) Q X.xe s₂) X.xe s₁) X.xe s:=by
  refine cT (ha pins s σ H _ I h) fun v s1 ⟨x,H1,I1,r1,q1⟩=>?_
  refine cT (hb pins s1 σ H1 _ I1 q1) fun u s2 ⟨y,H2,I2,r2,q2⟩=>?_
  exact hf v u s2 x y H2 I2 r1 r2 q2
theorem C7{op:Operator}{r:R2}(ho:ii X (binaryOp op) r)(ha:PE X a ta)(hb:PE X b tb):PE X (.BinOp a op b pos) (Dy r ta tb):=by
  intro pins s σ H Q I h
  exact wpAny_BinOp (As ha hb I h fun v u s2 x y H2 I2 rx ry q=>ho pins s2 σ H2 x y v u Q I2 rx ry q)
theorem C9{op:UnaryOp}{r:V→Hp→VK→Prop}(ho:DR X (unaryOp op) r)(ha:PE X a ta):PE X (.UnaryOp op a pos) (E3 r ta):=by
  intro pins s σ H Q I h
  exact UnaryOp_ (cT (ha pins s σ H _ I h) fun v s1 ⟨x,H1,I1,r1,q1⟩=>ho pins s1 σ H1 x v Q I1 r1 q1)
theorem CW{f:Value→Value→Sem Value}{C:Int→Int→Prop}{g:Int→Int→Int}
    (rule:∀(i j:Int) (t u:Tok) (s:Shared) (Q:Value→Shared→Prop) (E:Value→Shared→Prop),C i j→Q (.int (g i j) s.toks) {s with toks:=s.toks+1}→wpAny (model X.prog X.w) X.A (f (.int i t) (.int j u)) Q E s):
    ii X f (rI C fun i j=>.int (g i j)):=by
  intro pins s σ H x y v u Q I rx ry h
  obtain⟨i,j,rfl,rfl,hc,q⟩:=h
  obtain⟨t,rfl⟩:=rx
  obtain⟨t',rfl⟩:=ry
  exact rule i j t t' s _ _ hc ⟨.int (g i j),H,I.tok _,⟨_,rfl⟩,q⟩
theorem CY{f:Value→Value→Sem Value}{g:Int→Int→Int}
    (rule:∀(i j:Int) (t u:Tok) (s:Shared) (Q:Value→Shared→Prop) (E:Value→Shared→Prop),Q (.int (g i j) s.toks) {s with toks:=s.toks+1}→wpAny (model X.prog X.w) X.A (f (.int i t) (.int j u)) Q E s):
    ii X f (uu fun i j=>.int (g i j)):=by
  intro pins s σ H x y v u Q I rx ry h
  obtain⟨i,j,rfl,rfl,q⟩:=h
  obtain⟨t,rfl⟩:=rx
  obtain⟨t',rfl⟩:=ry
  exact rule i j t t' s _ _ ⟨.int (g i j),H,I.tok _,⟨_,rfl⟩,q⟩
theorem A7{f:Value→Value→Sem Value}{g:Int→Int→Bool}
    (rule:∀(i j:Int) (t u:Tok) (s:Shared) (Q:Value→Shared→Prop) (E:Value→Shared→Prop),Q (.bool (g i j)) s→wpAny (model X.prog X.w) X.A (f (.int i t) (.int j u)) Q E s):
    ii X f (uu fun i j=>.bl (g i j)):=by
  intro pins s σ H x y v u Q I rx ry h
  obtain⟨i,j,rfl,rfl,q⟩:=h
  obtain⟨t,rfl⟩:=rx
  obtain⟨t',rfl⟩:=ry
  exact rule i j t t' s _ _ ⟨.bl (g i j),H,I,rfl,q⟩
def Am(i j:Int):Prop:=0≤j∧j≤1000000∧i.natAbs < 2 ^ 64
def xS(i j:Int):Prop:=(-(2 ^ 64) < i∧i < 2 ^ 64)∨(-(2 ^ 64) < j∧j < 2 ^ 64)
theorem xS.ok{i j:Int}(h:xS i j):IntMulOk i j:=by
  rcases h with ⟨h1,h2⟩ | ⟨h1,h2⟩
  · exact .of_left (intBits_le_64 h1 h2)
  · exact .of_right (intBits_le_64 h1 h2)
theorem A8:ii X (binaryOp .Add) (uu fun i j=>.int (i+j)):=CY fun _ _ _ _ _ _ _ q=>add_int q
theorem Bf:ii X (binaryOp .Sub) (uu fun i j=>.int (i - j)):=CY fun _ _ _ _ _ _ _ q=>sub_int q
theorem Bb:ii X (binaryOp .Mult) (rI xS fun i j=>.int (i*j)):=CW fun _ _ _ _ _ _ _ hc q=>mul_int q hc.ok
theorem yz:ii X (binaryOp .Mod) (rI (fun _ j=>j≠0) fun i j=>.int (i.fmod j)):=CW fun _ _ _ _ _ _ _ hc q=>mod_int' hc q
theorem Bd:ii X (binaryOp .Pow) (rI Am fun i j=>.int (i ^ j.toNat)):=CW fun _ _ _ _ _ _ _ hc q=>pow_int_small hc.1 hc.2.1 hc.2.2 q
theorem Fk{f:Value→Sem Value}{g:Int→Int}
    (rule:∀(i:Int) (t:Tok) (s:Shared) (Q:Value→Shared→Prop) (E:Value→Shared→Prop),Q (.int (g i) s.toks) {s with toks:=s.toks+1}→wpAny (model X.prog X.w) X.A (f (.int i t)) Q E s):
    DR X f (rU fun i=>.int (g i)):=by
  intro pins s σ H x v Q I rx h
  obtain⟨i,rfl,q⟩:=h
  obtain⟨t,rfl⟩:=rx
  exact rule i t s _ _ ⟨.int (g i),H,I.tok _,⟨_,rfl⟩,q⟩
theorem B7:DR X (unaryOp .USub) (rU fun i=>.int (-i)):=Fk fun _ _ _ _ _ q=>neg_int q
end
section
variable{X:Cx}{a b c:Expr}{ta tb tc:TE}{pos:Pos}
theorem C1:ii X (compareOp .Lt) (uu fun i j=>.bl (decide (i < j))):=A7 fun _ _ _ _ _ _ _ q=>lt_int q
theorem C0:ii X (compareOp .Gt) (uu fun i j=>.bl (decide (j < i))):=A7 fun _ _ _ _ _ _ _ q=>gt_int q
theorem CZ:ii X (compareOp .GtE) (uu fun i j=>.bl (decide (j≤i))):=A7 fun _ _ _ _ _ _ _ q=>ge_int q
theorem ii.or{f:Value→Value→Sem Value}{r r':R2}(h:ii X f r)(h':ii X f r'):ii X f (fun x y H Q=>r x y H Q∨r' x y H Q):=by
  intro pins s σ H x y v u Q I rx ry q
  rcases q with q | q
  · exact h pins s σ H x y v u Q I rx ry q
  · exact h' pins s σ H x y v u Q I rx ry q
theorem bh(b:Expr){op:CmpOp}(h:op≠.In:=by decide)(h2:op≠.NotIn:=by decide):behindInMarks op b=false:=by
  have e1:(op==CmpOp.In)=false:=by cases op<;>first | rfl | exact absurd rfl h
  have e2:(op==CmpOp.NotIn)=false:=by cases op<;>first | rfl | exact absurd rfl h2
  cases b<;>simp [behindInMarks,e1,e2]
theorem yH{op:CmpOp}{r:R2}(ho:ii X (compareOp op) r)(ha:PE X a ta)(hb:PE X b tb)(hm:behindInMarks op b=false):PE X (.Compare a [op] [b] pos) (Dy r ta tb):=by
  intro pins s σ H Q I h
  exact wpAny_Compare1 (As ha hb I h fun v u s2 x y H2 I2 rx ry q=>ho pins s2 σ H2 x y v u Q I2 rx ry q) hm
def DB(t:TE):TT:=fun σ H Q=>t σ H fun x H'=>∃k,x=.bl k∧Q k H'
theorem yY{op:CmpOp}{r:R2}(ho:ii X (compareOp op) r)(ha:PE X a ta)(hb:PE X b tb)(hm:behindInMarks op b=false):PT X (.Compare a [op] [b] pos) (DB (Dy r ta tb)):=by
  intro pins s σ H Q I h
  refine wpAny_isTrue_Compare1 (cT (ha pins s σ H _ I h) fun v s1 ⟨x,H1,I1,r1,q1⟩=>cT (hb pins s1 σ H1 _ I1 q1) fun u s2 ⟨y,H2,I2,r2,q2⟩=>
    cT (ho pins s2 σ H2 x y v u _ I2 r1 r2 q2) fun c s3 ⟨z,H3,I3,r3,k,e,q3⟩=>?_) hm
  subst e
  cases r3
  exact wpAny_truthy_bool ⟨H3,I3,q3⟩
theorem oZ:(sizeLine:Nat) < 2 ^ 63:=by rw [sizeLine_eq];decide
theorem og{x:V}{us:List Value}(r:aM [x] us):∃u,us=[u]∧bz x u:=by
  cases r with
  | cons r1 r2=>cases r2;exact⟨_,rfl,r1⟩
theorem Ak{x y:V}{us:List Value}(r:aM [x,y] us):∃u w',us=[u,w']∧bz x u∧bz y w':=by
  cases r with
  | cons r1 r2=>
    cases r2 with
    | cons r3 r4=>cases r4;exact⟨_,_,rfl,r1,r3⟩
theorem ve:e_ X (.builtin "abs") (fun xs H Q=>∃i,xs=[.int i]∧Q (.int (if i < 0 then -i else i)) H):=by
  intro pins s σ H xs us Q I r h
  obtain⟨i,rfl,q⟩:=h
  obtain⟨u,rfl,t,rfl⟩:=og r
  exact call_abs_int fun u tk=>⟨.int (if i < 0 then -i else i),H,I.tok _,⟨_,rfl⟩,q⟩
theorem tV(hc:X.calm=true):e_ X (.builtin "max") (fun xs H Q=>∃i j,xs=[.int i,.int j]∧Q (.int (if j > i then j else i)) H):=by
  intro pins s σ H xs us Q I r h
  obtain⟨i,j,rfl,q⟩:=h
  obtain⟨u,w',rfl,⟨t,rfl⟩,⟨t',rfl⟩⟩:=Ak r
  refine max_two_ints (I.ok.hd hc) fun h' tk k=>⟨_,H,I.kept k,?_,q⟩
  by_cases hj:j > i
  · rw [if_pos hj,if_pos hj];exact⟨_,rfl⟩
  · rw [if_neg hj,if_neg hj];exact⟨_,rfl⟩
theorem tW(hc:X.calm=true):e_ X (.builtin "min") (fun xs H Q=>∃i j,xs=[.int i,.int j]∧Q (.int (if j < i then j else i)) H):=by
  intro pins s σ H xs us Q I r h
  obtain⟨i,j,rfl,q⟩:=h
  obtain⟨u,w',rfl,⟨t,rfl⟩,⟨t',rfl⟩⟩:=Ak r
  refine min_two_ints (I.ok.hd hc) fun h' tk k=>⟨_,H,I.kept k,?_,q⟩
  by_cases hj:j < i
  · rw [if_pos hj,if_pos hj];exact⟨_,rfl⟩
  · rw [if_neg hj,if_neg hj];exact⟨_,rfl⟩
theorem tU:e_ X (.type "int") (fun xs H Q=>(∃i,xs=[.int i]∧Q (.int i) H)∨∃k,xs=[.bl k]∧Q (.int (if k then 1 else 0)) H):=by
  intro pins s σ H xs us Q I r h
  rcases h with ⟨i,rfl,q⟩ | ⟨k,rfl,q⟩
  · obtain⟨u,rfl,t,rfl⟩:=og r
    exact call_int_int ⟨.int i,H,I,⟨_,rfl⟩,q⟩
  · obtain⟨u,rfl,r1⟩:=og r
    cases r1
    exact call_int_bool ⟨.int (if k then 1 else 0),H,I.tok _,⟨_,rfl⟩,q⟩
end
end L2
namespace L2
open PySem PySem.Spec PyProof.Rows
structure E' (h:Heap) (x dx C:Addr) (mA:Str→Option Value):Prop where
  obj:h.get? x=some (PySem.W.instObj C dx)
  ns:h.Ns1 dx mA
  ne:dx≠x
section
variable{prog:Program}{w:World}{A:Around}{E:Value→Shared→Prop}{s:Shared}{K:PySem.W.Frag}{x dx C f:Addr}{mA:Str→Option Value}{name:Str}{v:Value}
end
section
variable{P:Program}{w:World}{H H':Hp}{h h':Heap}{a C dx:Addr}{fs fs':List (Str × V)}
end
structure E7 (K:PySem.W.Frag) (C:Addr):Prop where
  pg:PySem.W.plainGet K C Str.empty=true
  hd:PySem.W.hasDictIn K C=true
  po:PySem.W.plainOver K C=true
  sa:PySem.W.findIn K (.ref C) "__setattr__"=some (some (.builtin "object.__setattr__"))
structure Fm (K:PySem.W.Frag) (C:Addr) (f:Str) (v:V) (u:Value):Prop where
  at_:PySem.W.findIn K (.ref C) f=some (some u)
  rel:bz v u
  get:PySem.W.specialIn K u "__get__"=some none
  cp:PySem.W.copiedNames.contains f=false
structure E_ (K:PySem.W.Frag) (C:Addr) (m:Str) (f:Addr):Prop where
  at_:PySem.W.findIn K (.ref C) m=some (some (.ref f))
  fn:PySem.W.isFn K (.ref f)=true
  kp:PySem.W.keepIn K (.ref f)=true
section
variable{X:Cx}{pins:List (Addr × Obj)}{σ:St}{H:Hp}{s:Shared}{a C dx:Addr}{fs:List (Str × V)}{f:Str}{v:V}{A:Around}{E:Value→Shared→Prop}
end
section
variable{X:Cx}{o e value:Expr}{f:Str}{pos pos' tpos:Pos}{ta tv:TE}
end
section
variable{X:Cx}{pins:List (Addr × Obj)}{σ:St}{H:Hp}{s:Shared}{A:Around}{E:Value→Shared→Prop}{Q:Value→Shared→Prop}{c:Value}{b:Bool}
inductive lI (K:PySem.W.Frag) (H:Hp):V→Value→Prop where
  | non:lI K H .non (.type "NoneType")
  | bl (x:Bool):lI K H (.bl x) (.type "bool")
  | int (i:Int):lI K H (.int i) (.type "int")
  | str (x:Str):lI K H (.str x) (.type "str")
  | flt (x:UInt64):lI K H (.flt x) (.type "float")
  | lst {a:Addr} {xs:List V} (e:H a=some (.lst xs)):lI K H (.ref a) (.type "list")
  | frz {a:Addr} {o:Obj} {xs:List V} (e:H a=some (.frz o (.lst xs))):lI K H (.ref a) (.type "list")
  | tup {a:Addr} {xs:List V} (e:H a=some (.tup xs)):lI K H (.ref a) (.type "tuple")
  | dK {a:Addr} {kvs:List (lH × V)} (e:H a=some (.dK kvs)):lI K H (.ref a) (.type "dict")
  | dT {a:Addr} {kvs:List (List lH × V)} (e:H a=some (.dT kvs)):lI K H (.ref a) (.type "dict")
  | ins {a C dx:Addr} {fs:List (Str × V)} (e:H a=some (.ins C dx fs)) (cl:E7 K C) (ha:PySem.W.findIn K (.ref C) "__class__"=some (some (.builtin "object.__class__")))
      (hn:PySem.W.specialIn K (.builtin "object.__class__") "__get__"=some (some (.builtin "getset_descriptor.__get__"))) (htk:PySem.W.takesIn K (.builtin "object.__class__")=some true)
      (hm:PySem.W.mroIn K C (.type "object")=some true):lI K H (.ref a) (.ref C)
end
end L2
namespace L2
open PySem PySem.Spec PyProof.Rows
structure cY (k:Nat) (A:Around):Prop where
  hd:A.handled=none
  dp:A.depth+3*k+5 < recursionLimit
  un:A.units+16*k+200 < cLine
  gd:A.guards=some []
theorem cY.mono{j k:Nat}{A:Around}(r:cY k A)(h:j≤k):cY j A:=⟨r.hd,by have:=r.dp;lia,by have:=r.un;lia,r.gd⟩
theorem cY.deeper{k:Nat}{A:Around}(r:cY (k+1) A)(env:Env):cY k (A.deeper env):=
  ⟨r.hd,by have:=r.dp;show A.depth+1+3*k+5 < _;lia,by have:=r.un;show A.units+3+16*k+200 < _;lia,r.gd⟩
theorem cY.depth{k:Nat}{A:Around}(r:cY k A):A.depth < recursionLimit:=by have:=r.dp;lia
theorem cY.units{k:Nat}{A:Around}(r:cY k A):A.units+64 < cLine:=by have:=r.un;lia
def BW:TA:=fun _ H Q=>Q [] H
def mM(ta:TE)(tr:TA):TA:=fun σ H Q=>ta σ H fun x H1=>tr σ H1 fun xs H2=>Q (x::xs) H2
section
variable{X:Cx}{e:Expr}{es:List Expr}{te:TE}{t:TA}{pos:Pos}
theorem Bi:PA X [] BW:=fun _ _ _ _ H Q I h=>Calls.spliced_nil ⟨[],H,I,.nil,h⟩
theorem yF(ha:PE X e te)(hr:PA X es t)(hs:starEach (e::es) X.env=(false,eval e X.env)::starEach es X.env:=by rfl):PA X (e::es) (mM te t):=by
  intro pos pins s σ H Q I h
  rw [hs]
  show wpAny _ _ (spliced ((false,eval e X.env)::backTo pos (starEach es X.env))) _ _ s
  refine Calls.spliced_cons (cT (ha pins s σ H _ I h) fun u s1 ⟨x,H1,I1,r1,q1⟩=>?_)
  exact cT (hr pos pins s1 σ H1 _ I1 q1) fun us s2 ⟨xs,H2,I2,r2,q2⟩=>⟨x::xs,H2,I2,.cons r1 r2,q2⟩
def BX(t:TA):TE:=fun σ H Q=>t σ H fun xs H1=>xs.length≤sizeLine∧∀p,H1 p=none→Q (.ref p) (bw H1 p (.tup xs))
def EE(t:TA):TE:=fun σ H Q=>t σ H fun xs H1=>xs.length≤sizeLine∧∀p,H1 p=none→Q (.ref p) (bw H1 p (.lst xs))
theorem wz{x1}(h:PA X es t):PE X (.Tuple es x1 pos) (BX t):=by
  intro pins s σ H Q I hq
  refine wpAny_Tuple_spliced (cT (h pos pins s σ H _ I hq) fun us s1 ⟨xs,H1,I1,r,z,q⟩=>⟨by rw [←r.length];exact z,?_⟩)
  have hf:H1 s1.heap.objs.size=none:=I1.hok.fresh (Nat.le_refl _)
  refine⟨.ref s1.heap.objs.size,bw H1 s1.heap.objs.size (.tup xs),I1.laid (t':=s1.toks) (fun b u e=>Heap.get?_push_of_some _ e) (Nat.le_refl _) ?_,rfl,q _ hf⟩
  exact⟨z,us,r,⟨_,Heap.get?_push_size _ rfl,rfl,_,rfl,rfl⟩⟩
theorem Bk(h:PA X es t):PE X (.List es pos) (EE t):=by
  intro pins s σ H Q I hq
  refine wpAny_List_spliced (cT (h pos pins s σ H _ I hq) fun us s1 ⟨xs,H1,I1,r,z,q⟩=>⟨by rw [←r.length];exact z,?_⟩)
  have hf:H1 s1.heap.objs.size=none:=I1.hok.fresh (Nat.le_refl _)
  refine⟨.ref s1.heap.objs.size,bw H1 s1.heap.objs.size (.lst xs),I1.laid (t':=s1.toks) (fun b u e=>Heap.get?_push_of_some _ e) (Nat.le_refl _) ?_,rfl,q _ hf⟩
  exact⟨z,us,0,r,Heap.get?_push_size _ rfl⟩
end
abbrev Sp:=List V→Hp→VK→XK→Prop
abbrev tP:=List Env→Hp→Shared→XK→Value→Shared→Prop
structure xT (P:Program) (w:World) (K:PySem.W.Frag) (mg:Str→Option Value) (base:Heap) (A:Around) (outer:List Env) (s:Shared) (H:Hp):Prop where
  frames:A.frames=some outer
  mod:Mod K mg base
  bs:∀b o,base.get? b=some o→s.heap.get? b=some o∧H b=none
  bsz:base.objs.size≤s.heap.objs.size
  funs:s.heap.FunFrames base outer
  frf:∀b∈vy outer,H b=none
  hok:lG P w H s.heap
  bare:AllBare s.gens
def CE(outer:List Env)(P:Program)(w:World)(H:Hp)(s:Shared)(Q:VK)(u:Value)(s':Shared):Prop:=
  ∃v H',s'.os=s.os∧AllBare s'.gens∧Un (vy outer) [] H H' s.heap s'.heap∧lG P w H' s'.heap∧bz v u∧Q v H'
def CR(CX:tP)(outer:List Env)(P:Program)(w:World)(H:Hp)(s:Shared)(Q:VK)(E:XK)(r:Result)(s':Shared):Prop:=
  match r with
  | .ok (.ret u)=>CE outer P w H s Q u s'
  | .ok _=>False
  | .error e=>CX outer H s E e s'
structure aC (P:Program) (w:World) (K:PySem.W.Frag) (mg:Str→Option Value) (base:Heap) (CX:tP) (k:Nat) (f:Addr) (fd:FuncData) (ps:List Str) (sp:Sp):Prop where
  len:∀vs H Q E,sp vs H Q E→vs.length=ps.length
  run:∀(A:Around) (outer:List Env) (s:Shared) (H:Hp) (args:Args) (us:List Value) (vs:List V) (Q:VK) (E:XK),cY k A→xT P w K mg base A outer s H→BindsTo s fd args (ps.zip us)→aM vs us→sp vs H Q E→
    codeAny (model P w) A (.call (.ref f) args) (CR CX outer P w H s Q E) s
section
variable{X:Cx}{pins:List (Addr × Obj)}{σ:St}{H:Hp}{s s':Shared}
theorem aB.env0(I:aB X pins σ H s):xT X.prog X.w X.K X.mg X.base X.A X.stack s H:=
  ⟨I.ok.frames,I.ok.mod,I.bs,Nat.le_trans I.ok.bsz I.sz,I.stack,I.stkFree,I.hok,I.bare⟩
theorem aB.after{Q:VK}{u:Value}(I:aB X pins σ H s)(h:CE X.stack X.prog X.w H s Q u s'):EP X pins σ Q u s':=by
  obtain⟨v,H',os,bare,un,hok,r,q⟩:=h
  obtain⟨hh,g,d,t,os'⟩:=s'
  obtain rfl:os'=s.os:=os
  exact⟨v,H',I.call (h':=hh) (g':=g) (d':=d) (t':=t) (ch:=[]) un hok bare (fun b z=>absurd z (by simp)),r,q⟩
end
def tu(sp:Sp)(dvs:List V)(E:XK)(t:TA):TE:=fun σ H Q=>t σ H fun vs H1=>sp (vs++dvs) H1 Q E
def m7(K:PySem.W.Frag)(fd:FuncData)(ps:List Str)(ds:List Value):Prop:=
  ∀(s:Shared) (us:List Value),K.In s.heap→(us++ds).length=ps.length→BindsTo s fd ⟨us,[]⟩ (ps.zip (us++ds))
theorem m7.all{K:PySem.W.Frag}{fd:FuncData}{ps:List Str}(h:∀us:List Value,us.length=ps.length→bindArgs fd ⟨us,[]⟩=pure (ps.zip us)):m7 K fd ps []:=fun s us _ hl=>by
  rw [List.append_nil] at hl ⊢
  exact .of_eq (h us hl)
def rc(CX:tP)(X:Cx)(E:XK):Prop:=∀(pins:List (Addr × Obj)) (σ:St) (H:Hp) (s:Shared) (e:Value) (s':Shared),aB X pins σ H s→CX X.stack H s E e s'→X.xe e s'
section
variable{X:Cx}{CX:tP}{k:Nat}{f C:Addr}{fd:FuncData}{ps:List Str}{sp:Sp}{dvs:List V}{ds:List Value}{E:XK}{x m:Str}{p pos apos:Pos}{e o:Expr}{es:List Expr}{ta:TE}{t:TA}
theorem BM{pins:List (Addr × Obj)}{σ:St}{H:Hp}{s:Shared}{Q:VK}{us:List Value}{vs:List V}(F:aC X.prog X.w X.K X.mg X.base CX k f fd ps sp)(hr:cY k X.A)(hb:m7 X.K fd ps ds)(hd:aM dvs ds)(hx:rc CX X E)
    (I:aB X pins σ H s)(r:aM vs us)(h:sp (vs++dvs) H Q E):wpAny (model X.prog X.w) X.A (call (.ref f) us) (EP X pins σ Q) X.xe s:=by
  have r2:aM (vs++dvs) (us++ds):=r.append hd
  have hl:(us++ds).length=ps.length:=by rw [←r2.length];exact F.len _ _ _ _ h
  refine wpAny_call (codeAny_mono (F.run X.A X.stack s H ⟨us,[]⟩ (us++ds) (vs++dvs) Q E hr I.env0 (hb s us I.kIn hl) r2 h) fun r s' hq=>?_)
  cases r with
  | error e=>exact hx pins σ H s e s' I hq
  | ok fl=>
    cases fl with
    | ret u=>exact I.after hq
    | next=>exact False.elim hq
    | brk=>exact False.elim hq
    | cont=>exact False.elim hq
theorem yG(F:aC X.prog X.w X.K X.mg X.base CX k f fd ps sp)(hr:cY k X.A)(hg:Gl X x)(hm:X.mg x=some (.ref f))(hk:PySem.W.keepIn X.K (.ref f)=true)(hb:m7 X.K fd ps ds)(hd:aM dvs ds)(hx:rc CX X E)
    (ha:PA X (e::es) t)(hdb:(x==("__debug__":Str))=false:=by decide)(he:starEach (e::es) X.env=(false,eval e X.env)::starEach es X.env:=by rfl)(hpl:(backTo pos (starEach es X.env)).any (·.1)=false:=by rfl):
    PE X (.Call (.Name x p) (e::es) [] pos) (tu sp dvs E t):=by
  intro pins s σ H Q I h
  refine wpAny_Call_Name_kw (sN I hg hm ?_ hdb)
  refine PySem.W.callWith_K (h₀:=X.base) I.ok.mod.kin hk (cT (ha pos pins s σ H _ I h) fun us s1 ⟨vs,H1,I1,r,q⟩=>⟨I1.kIn,?_⟩) he hpl
  exact BM F hr hb hd hx I1 r q
structure Mk (K:PySem.W.Frag) (C f:Addr):Prop where
  makes:PySem.W.makesIn K C=true
  init:PySem.W.findIn K (.ref C) "__init__"=some (some (.ref f))
  fn:PySem.W.isFn K (.ref f)=true
  kp:PySem.W.keepIn K (.ref C)=true
end
def PK(X:Cx)(kws:List Keyword)(t:TA):Prop:=
  ∀(pos:Pos) (pins:List (Addr × Obj)) (s:Shared) (σ:St) (H:Hp) (Q:List V→Hp→Prop),aB X pins σ H s→t σ H Q→wpAny (model X.prog X.w) X.A (evalAll ((backToKw pos (keywordEach kws X.env)).map (·.2))) (AP X pins σ Q) X.xe s
section
variable{X:Cx}{CX:tP}{k:Nat}{f C:Addr}{fd:FuncData}{ps ks:List Str}{sp:Sp}{E:XK}{x m:Str}{p pos apos kpos:Pos}{e o:Expr}{es:List Expr}{kws:List Keyword}{te ta:TE}{t tk:TA}{nm:Option Str}
structure Eb (K:PySem.W.Frag) (fd:FuncData) (ps ks:List Str) (g:List Value→List Value→List Value) (gV:List V→List V→List V):Prop where
  to:∀(s:Shared) (us ws:List Value),K.In s.heap→(g us ws).length=ps.length→BindsTo s fd ⟨us,ks.zip ws⟩ (ps.zip (g us ws))
  rel:∀{vs:List V} {us:List Value} {zs:List V} {ws:List Value},aM vs us→aM zs ws→aM (gV vs zs) (g us ws)
variable{g:List Value→List Value→List Value}{gV:List V→List V→List V}
end
structure aE (N P:List Str) (sc:Scope):Prop where
  kind:sc.kind=.function
  co:sc.isCoroutine=false
  gen:sc.isGenerator=false
  nd:N.Nodup
  pre:N.take P.length=P
  par:∀x∈P,sc.names.lookup x=some .local∨sc.names.lookup x=some .cell
  nofree:∀y∈sc.names,y.2≠.free
theorem nj{kindOf:Str→Option NameKind}{x:Str}:∀{binds:List (Str × Value)} {m:Str→Option Value},(∀v,(x,v)∉binds)→bindL kindOf binds m x=m x
  | [],_,_=>rfl
  | (n,v)::r,m,h=>by
    unfold bindL
    rw [nj fun w hw=>h w (List.mem_cons_of_mem _ hw)]
    split
    · have:x≠n:=by rintro rfl;exact h v List.mem_cons_self
      simp [this]
    · rfl
theorem nh{kindOf:Str→Option NameKind}{x:Str}:∀{binds:List (Str × Value)} {m:Str→Option Value},(∀v,(x,v)∉binds)→bindC kindOf binds m x=m x
  | [],_,_=>rfl
  | (n,v)::r,m,h=>by
    unfold bindC
    rw [nh fun w hw=>h w (List.mem_cons_of_mem _ hw)]
    split
    · rfl
    · have:x≠n:=by rintro rfl;exact h v List.mem_cons_self
      simp [this]
theorem ni{kindOf:Str→Option NameKind}{x:Str}{v:Value}:∀{P:List Str} {vs:List Value} {i:Nat} {m:Str→Option Value},P.Nodup→P[i]?=some x→vs[i]?=some v→kindOf x=some .local→
    bindL kindOf (P.zip vs) m x=some v
  | [],_,_,_,_,h,_,_=>by simp at h
  | _::_,[],_,_,_,_,h,_=>by simp at h
  | p::P,w::vs,0,m,nd,h1,h2,hk=>by
    simp at h1 h2;subst h1;subst h2
    show bindL kindOf ((p,w)::P.zip vs) m p=_
    unfold bindL
    rw [nj fun v hv=>(List.nodup_cons.mp nd).1 (List.of_mem_zip hv).1,if_pos hk]
    simp
  | p::P,w::vs,i+1,m,nd,h1,h2,hk=>by
    show bindL kindOf ((p,w)::P.zip vs) m x=_
    unfold bindL
    exact ni (i:=i) (List.nodup_cons.mp nd).2 (by simpa using h1) (by simpa using h2) hk
theorem m_{kindOf:Str→Option NameKind}{x:Str}{v:Value}:∀{P:List Str} {vs:List Value} {i:Nat} {m:Str→Option Value},P.Nodup→P[i]?=some x→vs[i]?=some v→kindOf x≠some .local→
    bindC kindOf (P.zip vs) m x=some v
  | [],_,_,_,_,h,_,_=>by simp at h
  | _::_,[],_,_,_,_,h,_=>by simp at h
  | p::P,w::vs,0,m,nd,h1,h2,hk=>by
    simp at h1 h2;subst h1;subst h2
    show bindC kindOf ((p,w)::P.zip vs) m p=_
    unfold bindC
    rw [nh fun v hv=>(List.nodup_cons.mp nd).1 (List.of_mem_zip hv).1,if_neg hk]
    simp
  | p::P,w::vs,i+1,m,nd,h1,h2,hk=>by
    show bindC kindOf ((p,w)::P.zip vs) m x=_
    unfold bindC
    exact m_ (i:=i) (List.nodup_cons.mp nd).2 (by simpa using h1) (by simpa using h2) hk
def hX(N:List Str)(vs:List V):St:=vs.map some++List.replicate (N.length - vs.length) none
def rm(CX:tP)(P:Program)(w:World)(K:PySem.W.Frag)(mg:Str→Option Value)(base:Heap)(N:List Str)(qual:Str)(scope:Scope)(f:Addr)(cd:Value)(A:Around)(outer:List Env)(s:Shared)(H:Hp)(E:XK):Cx where
  prog:=P
  w:=w
  K:=K
  mg:=mg
  base:=base
  A:=A.deeper (envOfC qual scope s.heap.objs.size f cd)
  N:=N
  s₀:=s
  H₀:=H
  env:=envOfC qual scope s.heap.objs.size f cd
  outer:=outer
  stack:=envOfC qual scope s.heap.objs.size f cd::outer
  ex:=[]
  calm:=true
  fn:=fun _=>true
  pn:=[]
  xe:=fun e s'=>wpAny (model P w) (A.deeper (envOfC qual scope s.heap.objs.size f cd)) (leaving (envOfC qual scope s.heap.objs.size f cd) e) (fun _ s''=>CX outer H s E e s'') (fun e' s''=>CX outer H s E e' s'') s'
theorem pT{sc:Scope}{n:Nat}{x:Str}(h:sc.names.lookup x=some .cell):∃c,(cellsFrom n sc.names []).lookup x=some c:=by
  have q:=PySem.W.cellsFrom_some sc.names n [] (.inl h)
  exact Option.isSome_iff_exists.mp q
theorem t5{CX:tP}{P:Program}{w:World}{K:PySem.W.Frag}{mg:Str→Option Value}{base:Heap}{N ps:List Str}{qual:Str}{scope:Scope}{f:Addr}{cd:Value}{A:Around}{outer:List Env}{s s1:Shared}{H:Hp}{E:XK}{us:List Value}{vs:List V}
    (S:aE N ps scope)(hd:A.handled=none)(e0:xT P w K mg base A outer s H)(hl:vs.length=ps.length)(r:aM vs us)
    (x:InCallC s s.heap.objs.size (bindL (envOfC qual scope s.heap.objs.size f cd).kindOf (ps.zip us) fun _=>none) (cellsFrom (s.heap.objs.size+1) scope.names []) (bindC (envOfC qual scope s.heap.objs.size f cd).kindOf (ps.zip us) fun _=>none) s1):
    aB (rm CX P w K mg base N qual scope f cd A outer s H E) [] (hX N vs) H s1:=by
  have hpl:ps.length≤N.length:=by have:=congrArg List.length S.pre;rw [List.length_take] at this;lia
  obtain⟨h1,tk,rfl,hk⟩:=x.done
  have noA:∀b:Addr,b∉(rm CX P w K mg base N qual scope f cd A outer s H E).ex:=fun b z=>absurd (show b∈([]:List Addr) from z) (by simp)
  refine⟨⟨e0.mod,S.kind,rfl,rfl,Nat.le_refl _,fun y z c h1 h2=>?_,fun y hy=>?_,fun y c _ h=>?_,fun _=>hd,Around.frames_deeper e0.frames,.inr ⟨rfl,rfl⟩,fun b z=>absurd z (noA b),e0.bs,e0.bsz,fun b _ _=>noA b,fun b z=>absurd z (noA b),e0.funs,e0.frf⟩,
    rfl,e0.bare,Un.kept hk,⟨_,x.toInCall.ns,fun i y v h1 h2 h3=>?_⟩,fun y c h=>⟨_,x.cell y c h⟩,e0.hok.fresh (Nat.le_refl _),fun y c h=>?_,fun p hp=>absurd (show p∈([]:List (Addr × Obj)) from hp) (by simp),e0.hok.kept hk,?_⟩
  · exact name_of_addr x.apart (PySem.mem_of_lookup h1) (PySem.mem_of_lookup h2)
  · have hy:scope.names.lookup y=some .cell∨scope.names.lookup y=some .free:=hy
    rcases hy with hy | hy
    · exact pT hy
    · exact absurd rfl (S.nofree _ (PySem.mem_of_lookup hy))
  · exact Nat.le_of_lt (x.above y c (PySem.mem_of_lookup h))
  · have hi:i < vs.length:=by
      unfold hX at h2
      by_cases hi:i < vs.length
      · exact hi
      · rw [List.getElem?_append_right (by simpa using hi)] at h2
        rw [List.getElem?_replicate] at h2
        split at h2<;>cases h2
    have ha:vs[i]?=some v:=by
      unfold hX at h2
      rw [List.getElem?_append_left (by simpa using hi),List.getElem?_map] at h2
      cases e:vs[i]? with
      | none=>rw [e] at h2;cases h2
      | some a=>rw [e] at h2;cases h2;rfl
    obtain⟨u,hu,rv⟩:=r.get ha
    have hp:ps[i]?=some y:=by
      rw [←S.pre,List.getElem?_take_of_lt (by lia)];exact h1
    have ndP:ps.Nodup:=by rw [←S.pre];exact S.nd.sublist (List.take_sublist _ _)
    refine⟨u,rv,?_⟩
    rcases S.par y (List.mem_of_getElem? hp) with k | k
    · exact .inl ⟨k,ni ndP hp hu k⟩
    · obtain⟨c,e⟩:=pT (n:=s.heap.objs.size+1) k
      refine .inr ⟨.inl k,c,e,?_⟩
      have q:=x.cell y c e
      rw [m_ ndP hp hu (by show scope.names.lookup y≠_;rw [k];decide)] at q
      exact q
  · exact e0.hok.fresh (Nat.le_of_lt (x.above y c (PySem.mem_of_lookup h)))
  · unfold hX
    show _=N.length
    rw [List.length_append,List.length_map,List.length_replicate]
    lia
theorem CA{CX:tP}{P:Program}{w:World}{K:PySem.W.Frag}{mg:Str→Option Value}{base:Heap}{k:Nat}{f:Addr}{name qual:Str}{params:Arguments}{body:List Stmt}{scope:Scope}{dV kV doc pm cdv ct oc:Value}{an od:Option Addr}
    {osl:Array (Option Value)}{N ps:List Str}{sp:Sp}(lk:K.lookup f=some ⟨oc,od,.func (PySem.W.fnOf name qual params body scope dV kV doc pm an cdv ct),osl⟩)(hcd:PySem.W.codeIn K cdv qual=true)(S:aE N ps scope)
    (len:∀vs H Q E,sp vs H Q E→vs.length=ps.length)
    (hbody:∀(A:Around) (outer:List Env) (s:Shared) (H:Hp) (vs:List V) (Q:VK) (E:XK),cY k (A.deeper (envOfC qual scope s.heap.objs.size f cdv))→sp vs H Q E→
      ∃t,kW (rm CX P w K mg base N qual scope f cdv A outer s H E) body t∧t {nx:=fun _ H'=>Q .non H',rt:=Q} (hX N vs) H):
    aC P w K mg base CX (k+1) f (PySem.W.fnOf name qual params body scope dV kV doc pm an cdv ct) ps sp:=by
  refine⟨len,fun A outer s H args us vs Q E hr e0 hb r hsp=>?_⟩
  have hl:=len _ _ _ _ hsp
  have KX:K.In s.heap:=e0.mod.kin.keeps fun b o e=>(e0.bs b o e).1
  have lim:s.heap.NoLimit:=e0.mod.nolimit.keeps fun b o e=>(e0.bs b o e).1
  have hkind:∀y∈ps.zip us,scope.names.lookup y.1=some .local∨(scope.names.lookup y.1=some .cell∧((cellsFrom (s.heap.objs.size+1) scope.names []).lookup y.1).isSome=true):=fun⟨n,v⟩ hy=>by
    rcases S.par n (List.of_mem_zip hy).1 with q | q
    · exact .inl q
    · exact .inr ⟨q,PySem.W.cellsFrom_some _ _ _ (.inl q)⟩
  refine codeAny_call_function hr.depth (KX _ _ lk) rfl S.co S.gen rfl (PySem.W.codeRec_of KX hcd) (hb _ _ _ _ ?_)
  refine wpAny_newFunctionEnv_cells S.kind hkind fun env he s1 x=>?_
  subst he
  refine⟨lim.keeps x.toInCall.keep,codeAny_func ?_⟩
  obtain⟨t,ht,hq⟩:=hbody A outer s H vs Q E (hr.deeper _) hsp
  have I:aB (rm CX P w K mg base N qual scope f cdv A outer s H E) [] (hX N vs) H s1:=t5 S hr.hd e0 hl r x
  refine wpAny_mono (ht [] s1 (hX N vs) H _ I hq) (fun fl s' hs=>?_) fun e s' hs=>hs
  have fin:∀{σ':St} {H':Hp} {v:V} {u:Value},aB (rm CX P w K mg base N qual scope f cdv A outer s H E) [] σ' H' s'→bz v u→Q v H'→CE outer P w H s Q u s':=
    fun{σ' H' v u} J rv q=>⟨v,H',J.os,J.bare,J.base,J.hok,rv,q⟩
  cases fl with
  | ret u=>
    obtain⟨v,σ',H',J,rv,q⟩:=hs
    exact fin J rv q
  | next=>
    obtain⟨σ',H',J,q⟩:=hs
    exact fin (v:=V.non) (u:=Value.none) J rfl q
  | brk=>
    obtain⟨_,_,_,q⟩:=hs
    exact False.elim q
  | cont=>
    obtain⟨_,_,_,q⟩:=hs
    exact False.elim q
end L2
namespace L2
open PySem PySem.Spec PyProof.Rows
section
variable{X:Cx}{x:Str}{p pos:Pos}{e:Expr}{es:List Expr}{t:TA}{id T:String}{r:List V→Hp→VK→Prop}
def EA(r:List V→Hp→VK→Prop)(t:TA):TE:=fun σ H Q=>t σ H fun vs H1=>r vs H1 Q
theorem wx(hc:e_ X (.builtin id) r)(hg:Gl X x)(hm:X.mg x=none)(hv:bootBuiltins x=some (.builtin id))(ha:PA X (e::es) t)(hn:x≠"__name__":=by decide)(hdb:(x==("__debug__":Str))=false:=by decide)
    (he:starEach (e::es) X.env=(false,eval e X.env)::starEach es X.env:=by rfl)(hpl:(backTo pos (starEach es X.env)).any (·.1)=false:=by rfl):PE X (.Call (.Name x p) (e::es) [] pos) (EA r t):=by
  intro pins s σ H Q I h
  refine wpAny_Call_Name_kw (kd I hg hm hv ?_ hn hdb)
  exact PyProof.Rows.callWith_builtin1 (cT (ha pos pins s σ H _ I h) fun us s1 ⟨vs,H1,I1,r1,q1⟩=>hc pins s1 σ H1 vs us Q I1 r1 q1) he hpl
theorem ul(hc:e_ X (.type T) r)(hg:Gl X x)(hm:X.mg x=none)(hv:bootBuiltins x=some (.type T))(ha:PA X (e::es) t)(hn:x≠"__name__":=by decide)(hdb:(x==("__debug__":Str))=false:=by decide)
    (he:starEach (e::es) X.env=(false,eval e X.env)::starEach es X.env:=by rfl)(hpl:(backTo pos (starEach es X.env)).any (·.1)=false:=by rfl):PE X (.Call (.Name x p) (e::es) [] pos) (EA r t):=by
  intro pins s σ H Q I h
  refine wpAny_Call_Name_kw (kd I hg hm hv ?_ hn hdb)
  exact PyProof.Rows.callWith_type1 (cT (ha pos pins s σ H _ I h) fun us s1 ⟨vs,H1,I1,r1,q1⟩=>hc pins s1 σ H1 vs us Q I1 r1 q1) he hpl
end
end L2
namespace HT
open PySem PyProof.Rows
section
open PySem.SeqAt
open PySem.AutoSeq1 (wpAny_loadPart')
open PySem.MeetsSeq PySem.MeetsSeq2 PySem.MeetsSeq3
end
section
variable{prog:Program}{w:World}{A:Around}{E:Value→Shared→Prop}{s:Shared}
theorem cat_tup{t b:Addr}{vs ws:List Value}{Q:Value→Shared→Prop}(ht:IsTup s.heap t vs.toArray)(hb:IsTup s.heap b ws.toArray)(hv:vs≠[])
    (h1:ws=[]→Q (.ref t) s)(h2:ws≠[]→Q (.ref s.heap.objs.size) {s with heap:=s.heap.push {cls:=.type "tuple",data:=.seq (vs++ws).toArray}})
    (hsz:vs.length+ws.length≤sizeLine):wpAny (model prog w) A (binaryOp .Add (.ref t) (.ref b)) Q E s:=by
  obtain⟨⟨cls,dd,data,sl⟩,ho,hc,n,hd⟩:=id ht
  obtain⟨⟨cls2,dd2,data2,sl2⟩,ho2,hc2,n2,hd2⟩:=id hb
  simp only at hc hd hc2 hd2
  subst hc hd hc2 hd2
  have e:vs.toArray++ws.toArray=(vs++ws).toArray:=by simp
  by_cases hw:ws=[]
  · exact concat_meets ⟨_,ho,rfl⟩ ⟨_,ho2,rfl⟩ noFill_tuple_add seq_tuple_add PySem.F.slot_tuple_add PySem.F.entry_tuple_add (PySem.F.args_tuple_add_2 _ _)
      (tuple_addW1 t b vs.toArray ws.toArray n n2 dd dd2 sl sl2 (by simpa using hv) (by simp [hw])) ⟨ho,ho2,h1 hw⟩
  · refine concat_meets ⟨_,ho,rfl⟩ ⟨_,ho2,rfl⟩ noFill_tuple_add seq_tuple_add PySem.F.slot_tuple_add PySem.F.entry_tuple_add (PySem.F.args_tuple_add_2 _ _)
      (tuple_addW2 t b vs.toArray ws.toArray n n2 dd dd2 sl sl2 (by simpa using hv) (by simpa using hw) (by rw [List.size_toArray,List.size_toArray];exact hsz)) ⟨ho,ho2,?_⟩
    rw [e]
    exact h2 hw
def sIx(n d:Nat):Option Int→Nat
  | none=>d
  | some v=>if v < 0 then(v+(n:Int)).toNat else min v.toNat n
theorem BO(n d:Nat)(hd:d≤n)(o:Option Int):sIx n d o≤n:=by
  cases o with
  | none=>exact hd
  | some v=>
    show(if v < 0 then(v+(n:Int)).toNat else min v.toNat n)≤n
    by_cases hv:v < 0
    · rw [if_pos hv];lia
    · rw [if_neg hv];exact Nat.min_le_right _ _
theorem sC(v:Int)(n d:Nat):(if v < 0 then max (v+(n:Int)) 0 else min v (n:Int))=((sIx n d (some v):Nat):Int):=by
  show(if v < 0 then max (v+(n:Int)) 0 else min v (n:Int))=(((if v < 0 then(v+(n:Int)).toNat else min v.toNat n):Nat):Int)
  by_cases hv:v < 0
  · simp only [if_pos hv];lia
  · simp only [if_neg hv];lia
theorem rf(lo hi:Option Int)(n:Nat):Builtin.Slice.sliceAdjust lo hi 1 (n:Int)=(((sIx n 0 lo:Nat):Int),((sIx n n hi:Nat):Int)):=by
  have h1:¬((1:Int) < 0):=by lia
  unfold Builtin.Slice.sliceAdjust
  simp only [h1,if_false]
  refine Prod.ext ?_ ?_
  · cases lo with
    | none=>rfl
    | some v=>exact sC v n 0
  · cases hi with
    | none=>rfl
    | some v=>exact sC v n n
theorem rO(i j:Nat):Builtin.Slice.slicePlaces (i:Int) (j:Int) 1=j - i:=by
  unfold Builtin.Slice.slicePlaces
  have h1:(1:Int) > 0:=by lia
  simp only [h1,if_true,Int.ediv_one]
  split<;>lia
theorem mI{v:Value}{o:Option Int}{Q:Option Int→Shared→Prop}(p:IsPart v o)(h:Q o s):wpAny (model prog w) A (Builtin.Slice.slicePartIndex v) Q E s:=by
  cases p with
  | none=>exact slicePart_none h
  | int i t=>exact slicePart_int h
theorem gB{sl:Addr}{vl vu:Value}{lo hi:Option Int}{n:Nat}{Q:Int × Int × Nat→Shared→Prop}(hs:s.heap.IsSliceOf sl vl vu .none)(pl:IsPart vl lo)(pu:IsPart vu hi)
    (h:Q (((sIx n 0 lo:Nat):Int),1,sIx n n hi - sIx n 0 lo) s):wpAny (model prog w) A (Builtin.Slice.sliceApplied (.ref sl) (pure (n:Int))) Q E s:=by
  obtain⟨os,hos,hcs,hds⟩:=id hs
  unfold Builtin.Slice.sliceApplied Builtin.Slice.sliceFields
  refine wpAny_bind (wpAny_bind (wpAny_field hos hds (x:=vl) rfl (wpAny_bind (wpAny_field hos hds (x:=vu) rfl (wpAny_bind (wpAny_field hos hds (x:=.none) rfl (wpAny_pure ?_)))))))
  refine wpAny_bind (slicePart_none ?_)
  show wpAny _ _ (if ((1:Int)==0)=true then _ else _) _ _ s
  rw [if_neg (by decide)]
  refine wpAny_bind (mI pl (wpAny_bind (mI pu (wpAny_bind (wpAny_pure ?_)))))
  show wpAny _ _ (match Builtin.Slice.sliceAdjust lo hi 1 (n:Int) with | (lo,hi)=>pure (lo,(1:Int),Builtin.Slice.slicePlaces lo hi 1)) _ _ s
  rw [rf lo hi n]
  show wpAny _ _ (pure (((sIx n 0 lo:Nat):Int),(1:Int),Builtin.Slice.slicePlaces ((sIx n 0 lo:Nat):Int) ((sIx n n hi:Nat):Int) 1)) _ _ s
  rw [rO]
  exact wpAny_pure h
theorem wC(xs:Array Value)(i k:Nat):((List.range k).filterMap fun(m:Nat)=>xs[((i:Int)+(m:Int)*1).toNat]?).toArray=((xs.toList.drop i).take k).toArray:=by
  have e:(fun(m:Nat)=>xs[((i:Int)+(m:Int)*1).toNat]?)=fun m=>xs[i+m]?:=by
    funext m
    have:((i:Int)+(m:Int)*1).toNat=i+m:=by lia
    rw [this]
  rw [e]
  have:=pick_run xs i k
  rw [List.filterMap_map] at this
  have e2:((fun x=>xs[x]?) ∘ fun x=>i+x)=fun m=>xs[i+m]?:=rfl
  rw [e2] at this
  rw [this]
theorem getItem_tuple_cut{t sl:Addr}{items:Array Value}{vl vu:Value}{lo hi:Option Int}{Q:Value→Shared→Prop}(ht:IsTup s.heap t items)(hs:s.heap.IsSliceOf sl vl vu .none)(pl:IsPart vl lo)(pu:IsPart vu hi)
    (hw:¬(sIx items.size 0 lo=0∧sIx items.size items.size hi=items.size))
    (h:Q (.ref s.heap.objs.size) {s with heap:=s.heap.push {cls:=.type "tuple",data:=.seq ((items.toList.drop (sIx items.size 0 lo)).take (sIx items.size items.size hi - sIx items.size 0 lo)).toArray}})
    (hsz:items.size≤sizeLine):wpAny (model prog w) A (getItem (.ref t) (.ref sl)) Q E s:=by
  have htake:sizeOk (.seq ((items.toList.drop (sIx items.size 0 lo)).take (sIx items.size items.size hi - sIx items.size 0 lo)).toArray):=by
    show((items.toList.drop (sIx items.size 0 lo)).take (sIx items.size items.size hi - sIx items.size 0 lo)).toArray.size≤sizeLine
    rw [List.size_toArray,List.length_take,List.length_drop,Array.length_toList]
    lia
  have hj:sIx items.size items.size hi≤items.size:=BO _ _ (Nat.le_refl _) hi
  obtain⟨os,hos,hcs,hds⟩:=id hs
  have hTs:s.TypeIs (.ref sl) "slice":=⟨os,hos,hcs⟩
  unfold getItem
  try with_reducible refine wpAny_holding ?_
  first | refine wpAny_bind (wpAny_pure ?_) | skip
  refine wpAny_bind (wpAny_sequenceKey ht.typeIs (by decide) ?_)
  refine wpAny_bind (wpAny_callSpecial?_slot (name:=Str.ofString "__getitem__") ht.typeIs PyProof.Rows.slot_tuple_getitem
    (wpAny_call_entry PyProof.Rows.slot_tuple_getitem ht.typeIs entry_tuple_getitem ?_ (args_tuple_getitem _ _)))
  show wpAny _ _ (Builtin.Tuple.tupleItemsOf (.ref t) >>= _) _ _ s
  refine wpAny_bind (tupleItemsOf_ ht ?_)
  refine wpAny_bind (wpAny_typeOf hTs ?_)
  rw [if_pos (by decide)]
  refine wpAny_bind (gB hs pl pu ?_)
  have hno:¬((((sIx items.size 0 lo:Nat):Int)==0&&(1:Int)==1&&(sIx items.size items.size hi - sIx items.size 0 lo)==items.size)=true):=by
    intro q
    rw [Bool.and_eq_true,Bool.and_eq_true] at q
    have q1:((sIx items.size 0 lo:Nat):Int)=0:=eq_of_beq q.1.1
    have q2:sIx items.size items.size hi - sIx items.size 0 lo=items.size:=eq_of_beq q.2
    exact hw ⟨by lia,by lia⟩
  show wpAny _ _ (if (((sIx items.size 0 lo:Nat):Int)==0&&(1:Int)==1&&(sIx items.size items.size hi - sIx items.size 0 lo)==items.size)=true then _ else _) _ _ s
  rw [if_neg hno,wC]
  first
    | exact wpAny_bind (m:=Builtin.Tuple.tupleExact _) (wpAny_newObj_type (wpAny_pure ⟨_,rfl,wpAny_pure h⟩) htake)
    | exact wpAny_bind (m:=Builtin.Tuple.tupleExact _) (wpAny_newObj_type (wpAny_bind (wpAny_pure (wpAny_pure ⟨_,rfl,wpAny_pure h⟩))) htake)
    | exact wpAny_bind (wpAny_bind (m:=Builtin.Tuple.tupleExact _) (wpAny_newObj_type (wpAny_pure (wpAny_pure ⟨_,rfl,wpAny_pure h⟩)) htake))
    | exact wpAny_bind (wpAny_bind (m:=Builtin.Tuple.tupleExact _) (wpAny_newObj_type (wpAny_pure ⟨_,rfl,wpAny_pure h⟩) htake))
end
end HT
namespace L2
open PySem PySem.Spec PyProof.Rows
abbrev TO:=St→Hp→(Option Int→Hp→Prop)→Prop
def PO(X:Cx)(e:Option Expr)(t:TO):Prop:=
  ∀(pins:List (Addr × Obj)) (s:Shared) (σ:St) (H:Hp) (Q:Option Int→Hp→Prop),aB X pins σ H s→t σ H Q→
    wpAny (model X.prog X.w) X.A (evalPart e X.env) (fun u s'=>∃o H',aB X pins σ H' s'∧IsPart u o∧Q o H') X.xe s
def zv:TO:=fun _ H Q=>Q none H
def Dz(t:TE):TO:=fun σ H Q=>t σ H fun x H1=>∃i,x=.int i∧Q (some i) H1
section
variable{X:Cx}{e:Expr}{te:TE}{lo hi:Option Expr}{tl th:TO}{pos p2:Pos}
theorem yQ:PO X none zv:=by
  intro pins s σ H Q I h
  rw [evalPart_none]
  exact wpAny_pure ⟨none,H,I,.none,h⟩
theorem yR(h:PE X e te):PO X (some e) (Dz te):=by
  intro pins s σ H Q I hw
  rw [evalPart_some]
  refine cT (h pins s σ H _ I hw) fun u s1 ⟨x,H1,I1,r1,q1⟩=>?_
  obtain⟨i,rfl,q⟩:=q1
  obtain⟨t,rfl⟩:=r1
  exact⟨some i,H1,I1,.int i t,q⟩
def xV(X:Cx)(r:V→Option Int→Option Int→Hp→VK→Prop):Prop:=
  ∀(pins:List (Addr × Obj)) (s:Shared) (σ:St) (H:Hp) (x:V) (v vl vu:Value) (lo hi:Option Int) (sl:Addr) (Q:VK),aB X pins σ H s→bz x v→s.heap.IsSliceOf sl vl vu .none→IsPart vl lo→IsPart vu hi→r x lo hi H Q→
    ∃T id,typeLookup (.type T) "__getitem__"=pure (some (.builtin id))∧s.TypeIs v T∧wpAny (model X.prog X.w) X.A (getItem v (.ref sl)) (EP X pins σ Q) X.xe s
theorem xV.or{r r':V→Option Int→Option Int→Hp→VK→Prop}(h:xV X r)(h':xV X r'):xV X (fun x lo hi H Q=>r x lo hi H Q∨r' x lo hi H Q):=by
  intro pins s σ H x v vl vu lo hi sl Q I rx hs pl pu q
  rcases q with q | q
  · exact h pins s σ H x v vl vu lo hi sl Q I rx hs pl pu q
  · exact h' pins s σ H x v vl vu lo hi sl Q I rx hs pl pu q
def Fj(r:V→Option Int→Option Int→Hp→VK→Prop)(te:TE)(tl th:TO):TE:=fun σ H Q=>te σ H fun x H1=>tl σ H1 fun l H2=>th σ H2 fun u H3=>r x l u H3 Q
theorem wy{r:V→Option Int→Option Int→Hp→VK→Prop}(hr:xV X r)(he:PE X e te)(hl:PO X lo tl)(hu:PO X hi th):PE X (.Subscript e (.Slice lo hi none p2) pos) (Fj r te tl th):=by
  intro pins s σ H Q I h
  refine Subscript_ (cT (he pins s σ H _ I h) fun v s1 ⟨x,H1,I1,r1,q1⟩=>?_)
  refine wpAny_Slice (cT (hl pins s1 σ H1 _ I1 q1) fun vl s2 ⟨l,H2,I2,pl,q2⟩=>cT (hu pins s2 σ H2 _ I2 q2) fun vu s3 ⟨u,H3,I3,pu,q3⟩=>?_)
  rw [evalPart_none]
  refine wpAny_pure ?_
  have I4:aB X pins σ H3 {s3 with heap:=s3.heap.push {cls:=.type "slice",data:=.fields #[vl,vu,.none]}}:=I3.kept (t':=s3.toks) fun b ob q=>Heap.get?_push_of_some _ q
  obtain⟨T,id,hT,ht,hg⟩:=hr pins {s3 with heap:=s3.heap.push {cls:=.type "slice",data:=.fields #[vl,vu,.none]}} σ H3 x v vl vu l u s3.heap.objs.size Q I4 r1 (Heap.IsSliceOf.new ..) pl pu q3
  show wpAny (model X.prog X.w) X.A (subscriptTail e (.Slice lo hi none p2) v (.ref s3.heap.objs.size)) (EP X pins σ Q) X.xe {s3 with heap:=s3.heap.push {cls:=.type "slice",data:=.fields #[vl,vu,.none]}}
  exact tail_any (ops:=[.ref s3.heap.objs.size,v]) ht hT hg (by with_unfolding_all rfl)
def mU(xs:List V)(lo hi:Option Int):List V:=(xs.drop (HT.sIx xs.length 0 lo)).take (HT.sIx xs.length xs.length hi - HT.sIx xs.length 0 lo)
theorem kN(xs:List V)(lo hi:Option Int):(mU xs lo hi).length≤xs.length:=by
  unfold mU
  rw [List.length_take,List.length_drop]
  lia
def Do(K:PySem.W.Frag):V→Option Int→Option Int→Hp→VK→Prop:=fun x lo hi H Q=>∃a xs,x=.ref a∧cP K H a xs∧
  ¬(HT.sIx xs.length 0 lo=0∧HT.sIx xs.length xs.length hi=xs.length)∧∀p,H p=none→Q (.ref p) (bw H p (.tup (mU xs lo hi)))
theorem BQ:xV X (Do X.K):=by
  intro pins s σ H x v vl vu lo hi sl Q I rx hs pl pu h
  obtain⟨a,xs,rfl,hx,hw,q⟩:=h
  cases rx
  obtain⟨its,r,ht,hz⟩:=I.tuple hx
  have hlen:its.toArray.size=xs.length:=by rw [List.size_toArray];exact r.length.symm
  refine⟨"tuple",_,PyProof.Rows.slot_tuple_getitem.lookup,ht.typeIs,?_⟩
  refine HT.getItem_tuple_cut ht hs pl pu (by rw [hlen];exact hw) ?_ (by rw [hlen];exact hz)
  rw [hlen]
  refine⟨.ref s.heap.objs.size,_,I.laid (t':=s.toks) (o:=.tup (mU xs lo hi)) (fun b ob q=>Heap.get?_push_of_some _ q) (Nat.le_refl _) ?_,rfl,q _ (I.hok.fresh (Nat.le_refl _))⟩
  exact⟨Nat.le_trans (kN xs lo hi) hz,_,(r.drop (HT.sIx xs.length 0 lo)).take (HT.sIx xs.length xs.length hi - HT.sIx xs.length 0 lo),mR.new _ _⟩
def Dg(K:PySem.W.Frag):R2:=fun x y H Q=>∃a b xs ys,x=.ref a∧y=.ref b∧cP K H a xs∧cP K H b ys∧xs≠[]∧xs.length+ys.length≤sizeLine∧
  (ys=[]→Q (.ref a) H)∧(ys≠[]→∀p,H p=none→Q (.ref p) (bw H p (.tup (xs++ys))))
theorem aM.nil_iff{xs:List V}{us:List Value}(r:aM xs us):us=[]↔ xs=[]:=by
  cases r with
  | nil=>simp
  | cons _ _=>simp
theorem yy:ii X (binaryOp .Add) (Dg X.K):=by
  intro pins s σ H x y v u Q I rx ry h
  obtain⟨a,b,xs,ys,rfl,rfl,ha,hb,hx,hz,q1,q2⟩:=h
  cases rx
  cases ry
  obtain⟨its,r1,p1,_⟩:=I.tuple ha
  obtain⟨its2,r2,p2,_⟩:=I.tuple hb
  refine HT.cat_tup p1 p2 (fun z=>hx (r1.nil_iff.mp z)) (fun z=>⟨.ref a,H,I,rfl,q1 (r2.nil_iff.mp z)⟩) (fun z=>?_) (by rw [←r1.length,←r2.length];exact hz)
  refine⟨.ref s.heap.objs.size,_,I.laid (t':=s.toks) (o:=.tup (xs++ys)) (fun b ob q=>Heap.get?_push_of_some _ q) (Nat.le_refl _) ?_,rfl,q2 (fun w=>z (r2.nil_iff.mpr w)) _ (I.hok.fresh (Nat.le_refl _))⟩
  exact⟨by rw [List.length_append];exact hz,_,r1.append r2,mR.new _ _⟩
end
end L2
namespace L2
open PySem PySem.Spec PyProof.Rows
def t_(n:Nat)(i:Int):Option Nat:=if 0≤i then(if i < n then some i.toNat else none) else if -(n:Int)≤i then some (i+n).toNat else none
def atI{α:Type}(xs:List α)(i:Int):Option α:=(t_ xs.length i).bind fun j=>xs[j]?
theorem sM{n:Nat}{i:Int}{j:Nat}(h:t_ n i=some j):seqIndex? i n=some j∧j < n∧ -(n:Int)≤i∧i < n:=by
  unfold t_ at h
  by_cases h0:0≤i
  · rw [if_pos h0] at h
    by_cases h1:i < n
    · rw [if_pos h1] at h
      have e:i.toNat=j:=Option.some.inj h
      exact⟨by rw [seqIndex_of h0 h1,e],by lia,by lia,h1⟩
    · rw [if_neg h1] at h;cases h
  · rw [if_neg h0] at h
    by_cases h1: -(n:Int)≤i
    · rw [if_pos h1] at h
      have e:(i+n).toNat=j:=Option.some.inj h
      exact⟨by rw [seqIndex_neg (by lia) h1,e],by lia,h1,by lia⟩
    · rw [if_neg h1] at h;cases h
theorem sj{α:Type}{xs:List α}{i:Int}{v:α}(h:atI xs i=some v):∃j,seqIndex? i xs.length=some j∧xs[j]?=some v∧j < xs.length∧ -(xs.length:Int)≤i∧i < xs.length:=by
  unfold atI at h
  cases e:t_ xs.length i with
  | none=>rw [e] at h;cases h
  | some j=>
    rw [e] at h
    obtain⟨h1,h2,h3,h4⟩:=sM e
    exact⟨j,h1,h,h2,h3,h4⟩
def oo(b:Expr):Prop:=∀o i,subscripted b false o i=operate [o,i] (getItem o i)
def xU(X:Cx)(r:R2):Prop:=
  ∀(value slice:Expr) (pins:List (Addr × Obj)) (s:Shared) (σ:St) (H:Hp) (x y:V) (v u:Value) (Q:VK),aB X pins σ H s→bz x v→bz y u→r x y H Q→
    subscripted slice false v u=operate [v,u] (getItem v u)→wpAny (model X.prog X.w) X.A (subscriptTail value slice v u) (EP X pins σ Q) X.xe s
def EQ(X:Cx)(id:String)(r:V→List V→Hp→VK→Prop):Prop:=
  ∀(pins:List (Addr × Obj)) (s:Shared) (σ:St) (H:Hp) (x:V) (xs:List V) (v:Value) (us:List Value) (Q:VK),aB X pins σ H s→bz x v→aM xs us→r x xs H Q→
    wpAny (model X.prog X.w) X.A (call (.builtin id) (v::us)) (EP X pins σ Q) X.xe s
section
variable{X:Cx}{a b:Expr}{ta tb:TE}{pos:Pos}
theorem xU.or{r r':R2}(h:xU X r)(h':xU X r'):xU X (fun x y H Q=>r x y H Q∨r' x y H Q):=by
  intro value slice pins s σ H x y v u Q I rx ry q hs
  rcases q with q | q
  · exact h value slice pins s σ H x y v u Q I rx ry q hs
  · exact h' value slice pins s σ H x y v u Q I rx ry q hs
theorem C6{r:R2}(hr:xU X r)(ha:PE X a ta)(hb:PE X b tb)(hs:oo b):PE X (.Subscript a b pos) (Dy r ta tb):=by
  intro pins s σ H Q I h
  exact Subscript_ (As ha hb I h fun v u s2 x y H2 I2 rx ry q=>hr a b pins s2 σ H2 x y v u Q I2 rx ry q (hs _ _))
def Dj(K:PySem.W.Frag):R2:=fun x y H Q=>∃p xs i v,x=.ref p∧y=.int i∧i_ K H p xs∧atI xs i=some v∧Q v H
def Dl(K:PySem.W.Frag):R2:=fun x y H Q=>∃p xs i v,x=.ref p∧y=.int i∧cP K H p xs∧atI xs i=some v∧Q v H
theorem yh:xU X (Dj X.K):=by
  intro value slice pins s σ H x y v u Q I rx ry h hs
  obtain⟨p,xs,i,z,rfl,rfl,hq,he,q⟩:=h
  cases rx
  obtain⟨t,rfl⟩:=ry
  obtain⟨its,r,pl,hz⟩:=I.list hq
  obtain⟨j,h1,h2,h3,h4,h5⟩:=sj he
  obtain⟨w,ew,rw'⟩:=r.get h2
  have hl:=r.length
  have hn:=oZ
  have fin:EP X pins σ Q w s:=⟨z,H,I,rw',q⟩
  by_cases h0:0≤i
  · have hj:i.toNat=j:=by
      rw [seqIndex_of h0 h5] at h1
      exact Option.some.inj h1
    exact item_listR pl.isList h0 (by lia) (by rw [hj];simpa using ew) fin hs
  · have hj:(i+(its.toArray.size:Int)).toNat=j:=by
      rw [seqIndex_neg (by lia) h4] at h1
      rw [List.size_toArray,←hl]
      exact Option.some.inj h1
    exact subscriptTail_builtinR (x:=w) pl.isList.typeIs slot_list_getitem.lookup
      (wpAny_getItem_list_neg (Q:=fun r s'=>r=w∧EP X pins σ Q r s') pl.isList (by lia) (by rw [List.size_toArray]<;>lia) (by lia) (by rw [hj];simpa using ew) ⟨rfl,fin⟩) hs
theorem AF:xU X (Dl X.K):=by
  intro value slice pins s σ H x y v u Q I rx ry h hs
  obtain⟨p,xs,i,z,rfl,rfl,hq,he,q⟩:=h
  cases rx
  obtain⟨t,rfl⟩:=ry
  obtain⟨its,r,pl,hz⟩:=I.tuple hq
  obtain⟨j,h1,h2,h3,h4,h5⟩:=sj he
  obtain⟨w,ew,rw'⟩:=r.get h2
  have hl:=r.length
  have hn:=oZ
  have fin:EP X pins σ Q w s:=⟨z,H,I,rw',q⟩
  exact subscriptTail_builtinR (x:=w) pl.typeIs slot_tuple_getitem.lookup
    (getItem_tuple (j:=j) (Q:=fun r s'=>r=w∧EP X pins σ Q r s') pl (by lia) (by lia) (by rw [List.size_toArray,←hl];exact h1) (by simpa using ew) ⟨rfl,fin⟩) hs
theorem rJ(its:List Value)(n j:Nat)(u:Value):Obj.mapSeq (·.setIfInBounds j u) {cls:=.type "list",data:=.seq its.toArray n}={cls:=.type "list",data:=.seq (its.set j u).toArray n}:=by
  simp [Obj.mapSeq]
theorem aB.lst{pins:List (Addr × Obj)}{σ:St}{H:Hp}{s:Shared}{p:Addr}{xs:List V}(I:aB X pins σ H s)(h:H p=some (.lst xs)):
    ∃(its:List Value) (n:Nat),aM xs its∧s.heap.get? p=some {cls:=.type "list",data:=.seq its.toArray n}∧xs.length≤sizeLine:=by
  obtain⟨z,its,n,r,e⟩:=I.hok p _ h
  exact⟨its,n,r,e,z⟩
theorem aB.lstUpd{pins:List (Addr × Obj)}{σ:St}{H:Hp}{s:Shared}{p:Addr}{xs ys:List V}{its its':List Value}{n n':Nat}{f:Obj→Obj}(I:aB X pins σ H s)(h:H p=some (.lst xs))
    (ho:s.heap.get? p=some {cls:=.type "list",data:=.seq its.toArray n})(hf:f {cls:=.type "list",data:=.seq its.toArray n}={cls:=.type "list",data:=.seq its'.toArray n'})(r:aM ys its')(hz:ys.length≤sizeLine)(t:Nat):
    aB X pins σ (bw H p (.lst ys)) {s with heap:=s.heap.update p f,toks:=t}:=by
  have e:(s.heap.update p f).get? p=some {cls:=.type "list",data:=.seq its'.toArray n'}:=by
    rw [Heap.get?_update_self f ho (by rw [hf]<;>rfl),hf]
  refine I.write (x:=p) (e:=p) (by rw [h];trivial) (.inl rfl) (fun b u hb q=>(Heap.get?_update_other _ _ (Ne.symm hb)).trans q) ⟨_,e⟩ ?_
  exact⟨hz,its',n',r,e⟩
def Dm:V→V→V→Hp→(Hp→Prop)→Prop:=fun o i v H Q=>∃p xs k j,o=.ref p∧i=.int k∧H p=some (.lst xs)∧t_ xs.length k=some j∧Q (bw H p (.lst (xs.set j v)))
theorem xi:Co X Dm:=by
  intro pins s σ H o i v ov iv u Q I ro ri rv h
  obtain⟨p,xs,k,j,rfl,rfl,hp,hj,q⟩:=h
  cases ro
  obtain⟨t,rfl⟩:=ri
  obtain⟨its,n,r,ho,hz⟩:=I.lst hp
  obtain⟨h1,h2,h3,h4⟩:=sM hj
  have hl:=r.length
  have hn:=oZ
  have I':aB X pins σ (bw H p (.lst (xs.set j v))) {s with heap:=s.heap.update p (Obj.mapSeq (·.setIfInBounds j u))}:=
    I.lstUpd hp ho (rJ its n j u) (r.set rv j) (by rw [List.length_set];exact hz) s.toks
  by_cases h0:0≤k
  · have hk:k.toNat=j:=by
      rw [seqIndex_of h0 h4] at h1
      exact Option.some.inj h1
    exact PySem.W.ki_setAt ho h0 (by lia) (by rw [List.size_toArray,←hl];exact h4) (by rw [hk];exact⟨_,I',q⟩)
  · have hk:(k+(its.toArray.size:Int)).toNat=j:=by
      rw [seqIndex_neg (by lia) h3] at h1
      rw [List.size_toArray,←hl]
      exact Option.some.inj h1
    exact PySem.W.ki_setBack ho (by lia) (by rw [List.size_toArray,←hl];exact h3) (by lia) (by rw [hk];exact⟨_,I',q⟩)
theorem pA(lo hi:Option Int)(n:Nat):(sliceBounds lo hi none n).1=((HT.sIx n 0 lo:Nat):Int)∧(sliceBounds lo hi none n).2.1=((HT.sIx n n hi:Nat):Int)∧(sliceBounds lo hi none n).2.2=1:=by
  refine⟨?_,?_,rfl⟩
  · cases lo with
    | none=>simp [sliceBounds,HT.sIx]
    | some i=>
      simp only [sliceBounds,HT.sIx,Option.getD_none,show(1:Int) > 0 by decide,if_true]
      by_cases h:i < 0
      · simp only [h,if_true]<;>lia
      · simp only [h,if_false]<;>lia
  · cases hi with
    | none=>simp [sliceBounds,HT.sIx]
    | some i=>
      simp only [sliceBounds,HT.sIx,Option.getD_none,show(1:Int) > 0 by decide,if_true]
      by_cases h:i < 0
      · simp only [h,if_true]<;>lia
      · simp only [h,if_false]<;>lia
theorem mY(its:List Value)(lo hi:Option Int):slicePick its.toArray lo hi none=((its.drop (HT.sIx its.length 0 lo)).take (HT.sIx its.length its.length hi - HT.sIx its.length 0 lo)).toArray:=by
  obtain⟨h1,h2,h3⟩:=pA lo hi its.toArray.size
  unfold slicePick
  rw [h1,h2,h3]
  simp only [sliceRange_one,pick_run,List.size_toArray]<;>rfl
def Dn(K:PySem.W.Frag):V→Option Int→Option Int→Hp→VK→Prop:=fun x lo hi H Q=>∃a xs,x=.ref a∧i_ K H a xs∧∀p,H p=none→Q (.ref p) (bw H p (.lst (mU xs lo hi)))
theorem zt:xV X (Dn X.K):=by
  intro pins s σ H x v vl vu lo hi sl Q I rx hs pl pu h
  obtain⟨a,xs,rfl,hx,q⟩:=h
  cases rx
  obtain⟨its,r,ht,hz⟩:=I.list hx
  have hlen:=r.length
  refine⟨"list",_,slot_list_getitem.lookup,ht.isList.typeIs,?_⟩
  refine wpAny_getItem_list_slice ht.isList hs pl pu .none (by simp) ?_ (by rw [List.size_toArray]<;>lia)
  rw [mY,←hlen]
  refine⟨.ref s.heap.objs.size,_,I.laid (t':=s.toks) (o:=.lst (mU xs lo hi)) (fun b ob q=>Heap.get?_push_of_some _ q) (Nat.le_refl _) ?_,rfl,q _ (I.hok.fresh (Nat.le_refl _))⟩
  exact⟨Nat.le_trans (kN xs lo hi) hz,_,0,(r.drop (HT.sIx xs.length 0 lo)).take (HT.sIx xs.length xs.length hi - HT.sIx xs.length 0 lo),Heap.get?_push_size _ rfl⟩
theorem oE:e_ X (.builtin "len") (fun xs H Q=>∃p ys,xs=[.ref p]∧(i_ X.K H p ys∨cP X.K H p ys)∧Q (.int ys.length) H):=by
  intro pins s σ H xs us Q I r h
  obtain⟨p,ys,rfl,hq,q⟩:=h
  obtain⟨u,rfl,rx⟩:=og r
  cases rx
  have hn:=oZ
  rcases hq with hq | hq
  · obtain⟨its,r',pl,hz⟩:=I.list hq
    have hlen:=r'.length
    exact Calls.call_len_list pl.isList (by simp only [List.size_toArray]<;>lia) ⟨.int ys.length,H,I.tok _,⟨s.toks+1,by rw [List.size_toArray,hlen]⟩,q⟩
  · obtain⟨its,r',pl,hz⟩:=I.tuple hq
    have hlen:=r'.length
    exact len_tuple pl (by simp only [List.size_toArray]<;>lia) ⟨.int ys.length,H,I.tok _,⟨s.toks+1,by rw [List.size_toArray,hlen]⟩,q⟩
theorem oF:e_ X (.type "list") (fun xs H Q=>∃p ys,xs=[.ref p]∧(i_ X.K H p ys∨cP X.K H p ys)∧∀l,H l=none→Q (.ref l) (bw H l (.lst ys))):=by
  intro pins s σ H xs us Q I r h
  obtain⟨p,ys,rfl,hq,q⟩:=h
  obtain⟨u,rfl,rx⟩:=og r
  cases rx
  have fin:∀(its:List Value),aM ys its→ys.length≤sizeLine→∀(h':Heap) (c':Nat),(∀b o',s.heap.get? b=some o'→h'.get? b=some o')→
      h'.get? s.heap.objs.size=some {cls:=.type "list",dict:=none,data:=.seq its.toArray c',slots:=#[]}→EP X pins σ Q (.ref s.heap.objs.size) {s with heap:=h'}:=fun its r' hz h' c' kp e=>
    ⟨.ref s.heap.objs.size,_,I.laid (t':=s.toks) kp (Nat.le_refl _) (show dZ X.prog X.w _ h' _ (.lst ys) from⟨hz,its,c',r',e⟩),rfl,q _ (I.hok.fresh (Nat.le_refl _))⟩
  rcases hq with hq | hq
  · obtain⟨its,r',pl,hz⟩:=I.list hq
    have hlen:=r'.length
    obtain⟨o,ho,hc,n,hd⟩:=pl.isList
    exact call_list_seq p (.inl rfl) ho hc hd (fun h' c' kp e=>fin its r' hz h' c' kp e) (by simp only [List.size_toArray]<;>lia)
  · obtain⟨its,r',pl,hz⟩:=I.tuple hq
    have hlen:=r'.length
    obtain⟨o,ho,hc,n,hd⟩:=pl
    exact call_list_seq p (.inr rfl) ho hc hd (fun h' c' kp e=>fin its r' hz h' c' kp e) (by simp only [List.size_toArray]<;>lia)
theorem mT:e_ X (.type "tuple") (fun xs H Q=>∃p ys,xs=[.ref p]∧((i_ X.K H p ys∧∀l,H l=none→Q (.ref l) (bw H l (.tup ys)))∨(cP X.K H p ys∧Q (.ref p) H))):=by
  intro pins s σ H xs us Q I r h
  obtain⟨p,ys,rfl,h⟩:=h
  obtain⟨u,rfl,rx⟩:=og r
  cases rx
  rcases h with ⟨hq,q⟩ | ⟨hq,q⟩
  · obtain⟨its,r',pl,hz⟩:=I.list hq
    have hlen:=r'.length
    refine call_tuple_list pl.isList (fun h' kp=>?_) (by simp only [List.size_toArray]<;>lia)
    have I1:aB X pins σ H {s with heap:=h'}:=I.kept (t':=s.toks) kp
    have I2:aB X pins σ (bw H h'.objs.size (.tup ys)) {s with heap:=h'.push {cls:=.type "tuple",data:=.seq its.toArray}}:=
      I1.laid (t':=s.toks) (fun b o e=>Heap.get?_push_of_some _ e) (Nat.le_refl _) (show dZ X.prog X.w _ _ _ (.tup ys) from⟨hz,its,r',mR.new _ _⟩)
    exact⟨.ref h'.objs.size,_,I2,rfl,q _ (I1.hok.fresh (Nat.le_refl _))⟩
  · obtain⟨its,r',pl,hz⟩:=I.tuple hq
    exact call_tuple_same pl ⟨.ref p,H,I,rfl,q⟩
def E5(K:PySem.W.Frag)(T:String)(x:V)(H:Hp):Prop:=match x with
  | .str _=>T="str"
  | .int _=>T="int"
  | .ref p=>(T="list"∧∃xs,i_ K H p xs)∨(T="tuple"∧∃o,K.lookup p=some o∧o.cls=.type "tuple"∧o.dict=none)∨
      (T="dict"∧((∃kvs,H p=some (.dK kvs))∨∃kvs,H p=some (.dT kvs)))∨(T="set"∧∃S n,H p=some (.set S n))
  | _=>False
theorem B6{pins:List (Addr × Obj)}{σ:St}{H:Hp}{s:Shared}{T:String}{x:V}{v:Value}(I:aB X pins σ H s)(r:bz x v)(ty:E5 X.K T x H):
    s.TypeIs v T∧∀a,v=.ref a→∃ob,s.heap.get? a=some ob∧ob.dict=none:=by
  cases x with
  | str z=>
    obtain⟨t,rfl⟩:=r
    cases (show T="str" from ty)
    exact⟨typeIs_str s z t,fun _ e=>nomatch e⟩
  | int i=>
    obtain⟨t,rfl⟩:=r
    cases (show T="int" from ty)
    exact⟨typeIs_int s i t,fun _ e=>nomatch e⟩
  | ref p=>
    cases r
    rcases ty with ⟨rfl,xs,hq⟩ | ⟨rfl,o,hk,hc,hd⟩ | ⟨rfl,hk⟩ | ⟨rfl,S,n,hk⟩
    · obtain⟨its,_,pl,_⟩:=I.list hq
      refine⟨pl.isList.typeIs,fun a e=>?_⟩
      cases e
      obtain⟨o,n,e,c,hd,_⟩:=pl
      exact⟨o,e,hd⟩
    · refine⟨⟨o,I.kIn p o hk,hc⟩,fun a e=>?_⟩
      cases e
      exact⟨o,I.kIn _ o hk,hd⟩
    · have z:∃o,s.heap.get? p=some o∧o.ExactDict:=by
        rcases hk with ⟨kvs,hk⟩ | ⟨kvs,hk⟩
        · obtain⟨_,_,_,_,o,_,_,e,ex,_⟩:=I.hok p _ hk
          exact⟨o,e,ex⟩
        · obtain⟨_,_,_,_,o,_,_,e,ex,_⟩:=I.hok p _ hk
          exact⟨o,e,ex⟩
      obtain⟨o,e,ex⟩:=z
      refine⟨⟨o,e,ex.1⟩,fun a e2=>?_⟩
      cases e2
      exact⟨o,e,ex.2.1⟩
    · obtain⟨o,_,_,_,e,ex,_⟩:=I.hok p _ hk
      refine⟨⟨o,e,ex.1⟩,fun a e2=>?_⟩
      cases e2
      exact⟨o,e,ex.2.1⟩
  | _=>exact False.elim ty
def E2(K:PySem.W.Frag)(T:String)(r:V→List V→Hp→VK→Prop)(to:TE)(t:TA):TE:=fun σ H Q=>to σ H fun x H1=>E5 K T x H1∧t σ H1 fun xs H2=>r x xs H2 Q
variable{o e:Expr}{es:List Expr}{to:TE}{t:TA}{name:Str}{apos cpos:Pos}{T id:String}{r:V→List V→Hp→VK→Prop}
theorem C4(pa:PlainAttrs T)(slot:Slot T name id)(hty:typeOf (.builtin id)=pure (.type "method_descriptor"))(hm:EQ X id r)(ho:PE X o to)(ha:PA X (e::es) t)
    (hbase:attributeBase o name X.env (eval o X.env)=eval o X.env:=by rfl)
    (hfew:((backTo cpos (starEach (e::es) X.env)).all (fun x=> !x.1)&&(backToKw cpos (keywordEach [] X.env)).all (fun x=>x.1.isSome)
      &&decide ((e::es).length+([]:List Keyword).length+(if ([]:List Keyword).isEmpty then 0 else 1) < 30))=true:=by rfl)
    (hline:(apos.endLine==cpos.line)=true:=by rfl)(hs:starEach (e::es) X.env=(false,eval e X.env)::starEach es X.env:=by rfl)(hplain:(backTo cpos (starEach es X.env)).any (·.1)=false:=by rfl):
    PE X (.Call (.Attribute o name apos) (e::es) [] cpos) (E2 X.K T r to t):=by
  intro pins s σ H Q I h
  refine wpAny_Call_method_late hbase hfew hline rfl (cT (ho pins s σ H _ I h) fun v s1 ⟨x,H1,I1,r1,ty,q1⟩=>?_)
  obtain⟨h1,h2⟩:=B6 I1 r1 ty
  refine⟨T,id,pa,slot,hty,h1,h2,?_⟩
  have hA:=ha cpos pins s1 σ H1 _ I1 q1
  rw [hs] at hA ⊢
  refine Calls.callWith_builtin (by show(false || (backTo cpos (starEach es X.env)).any (·.1))=false;rw [hplain]<;>rfl) (Calls.evalArgs_plain ?_)
  exact cT hA fun us s2 ⟨vs,H2,I2,r2,q2⟩=>hm pins s2 σ H2 x vs v us Q I2 r1 r2 q2
end
end L2
namespace L2
open PySem PySem.Spec PyProof.Rows
def EO(X:Cx)(id:String)(r:V→List V→Hp→VK→Prop):Prop:=
  ∀(pins:List (Addr × Obj)) (s:Shared) (σ:St) (H:Hp) (x:V) (xs:List V) (v:Value) (us:List Value) (Q:VK),aB X pins σ H s→bz x v→aM xs us→r x xs H Q→
    wpAny (model X.prog X.w) X.A (call (.builtin id) (v::us)) (EP X pins σ Q) X.xe s
theorem aM.one:∀{x:V} {us:List Value},aM [x] us→∃u,us=[u]∧bz x u
  | _,_,.cons r .nil=>⟨_,rfl,r⟩
theorem aM.eraseIdx:∀{xs:List V} {us:List Value} (i:Nat),aM xs us→aM (xs.eraseIdx i) (us.eraseIdx i)
  | _,_,_,.nil=>.nil
  | _,_,0,.cons _ t=>t
  | _,_,i+1,.cons r t=>.cons r (aM.eraseIdx i t)
theorem aM.rep{xs:List V}{us:List Value}(h:aM xs us):∀k:Nat,aM (List.replicate k xs).flatten (List.replicate k us).flatten
  | 0=>.nil
  | k+1=>by
    rw [List.replicate_succ,List.replicate_succ,List.flatten_cons,List.flatten_cons]
    exact aM.append h (aM.rep h k)
theorem nE{α:Type}:∀(l:List α) (i:Nat),(l.eraseIdx i).length≤l.length
  | [],_=>Nat.le_refl _
  | _::_,0=>Nat.le_succ _
  | _::r,i+1=>Nat.succ_le_succ (nE r i)
theorem nA(its:List Value):∀(k:Nat) (acc:List Value),
    List.foldl (fun x1 x2=>x1++x2) acc.toArray (List.replicate k its.toArray)=(acc++(List.replicate k its).flatten).toArray
  | 0,acc=>by simp
  | k+1,acc=>by
    have e:acc.toArray++its.toArray=(acc++its).toArray:=by simp
    have e2:(acc++its)++(List.replicate k its).flatten=acc++(List.replicate (k+1) its).flatten:=by
      rw [List.replicate_succ,List.flatten_cons,List.append_assoc]
    rw [←e2,←nA its k (acc++its),←e,List.replicate_succ,List.foldl_cons]
section
variable{X:Cx}{pins:List (Addr × Obj)}{σ:St}{H:Hp}{s:Shared}{l b:Addr}{xs ys zs:List V}
theorem aB.lset{its its':List Value}{n:Nat}{f:Array Value→Array Value}{t':Nat}(I:aB X pins σ H s)(hH:H l=some (.lst xs))
    (e:s.heap.get? l=some {cls:=.type "list",data:=.seq its.toArray n})(hf:f its.toArray=its'.toArray)(hv:aM ys its')(hz:ys.length≤sizeLine):
    aB X pins σ (bw H l (.lst ys)) {s with heap:=s.heap.update l (Obj.mapSeq f),toks:=t'}:=by
  have q:=PySem.IsL.update e f
  rw [hf] at q
  refine I.write (x:=l) (e:=l) (by rw [hH];exact trivial) (.inl rfl) (fun b' u hb hu=>(Heap.get?_update_other s.heap (Obj.mapSeq f) (Ne.symm hb)).trans hu) ⟨_,q⟩ ?_
  exact⟨hz,its',_,hv,q⟩
theorem aB.lnew{its:List Value}{t':Nat}(I:aB X pins σ H s)(hv:aM ys its)(hz:ys.length≤sizeLine):
    aB X pins σ (bw H s.heap.objs.size (.lst ys)) {s with heap:=s.heap.push {cls:=.type "list",data:=.seq its.toArray},toks:=t'}:=
  I.laid (fun _ _ q=>Heap.get?_push_of_some _ q) (Nat.le_refl _) ⟨hz,its,0,hv,Heap.get?_push_size _ rfl⟩
theorem aB.fresh(I:aB X pins σ H s):H s.heap.objs.size=none:=I.hok.fresh (Nat.le_refl _)
theorem aB.lstM(I:aB X pins σ H s)(hH:H l=some (.lst xs)):xs.length≤sizeLine∧∃(its:List Value) (n:Nat),aM xs its∧xs.length=its.length∧s.heap.get? l=some {cls:=.type "list",data:=.seq its.toArray n}:=by
  obtain⟨z,its,n,r,e⟩:=I.hok l _ hH
  exact⟨z,its,n,r,r.length,e⟩
theorem we{n:Nat}(h:n≤sizeLine):Builtin.List.listTooLong n=false:=by
  unfold Builtin.List.listTooLong
  exact decide_eq_false (by lia)
end
section
variable{X:Cx}
def sT:V→List V→Hp→VK→Prop:=fun x vs H Q=>∃l xs y,x=.ref l∧vs=[y]∧H l=some (.lst xs)∧xs.length < sizeLine∧Q .non (bw H l (.lst (xs++[y])))
theorem kg:EO X "list.append" sT:=by
  intro pins s σ H x vs v us Q I rx rv h
  obtain⟨l,xs,y,rfl,rfl,hH,hz,q⟩:=h
  cases rx
  obtain⟨u,rfl,ru⟩:=rv.one
  obtain⟨z,its,n,r,hl,e⟩:=I.lstM hH
  refine call_meets F.slot_list_append ⟨_,e,rfl⟩ F.entry_list_append (F.args_list_append_2 _ _) (PySem.list_append l its.toArray n u (by rw [List.size_toArray];lia)) ⟨e,?_⟩
  refine⟨.non,_,I.lset (its':=its++[u]) hH e (by simp) (r.append (.cons ru .nil)) ?_,rfl,q⟩
  rw [List.length_append,List.length_singleton]
  lia
def wU:V→List V→Hp→VK→Prop:=fun x vs H Q=>∃l xs i k y,x=.ref l∧vs=[.int i]∧H l=some (.lst xs)∧ -(2 ^ 63)≤i∧i < 2 ^ 63∧seqIndex? i xs.length=some k∧xs[k]?=some y∧Q y (bw H l (.lst (xs.eraseIdx k)))
theorem vZ:EO X "list.pop" wU:=by
  intro pins s σ H x vs v us Q I rx rv h
  obtain⟨l,xs,i,k,y,rfl,rfl,hH,h1,h2,hk,hy,q⟩:=h
  cases rx
  obtain⟨u,rfl,ru⟩:=rv.one
  obtain⟨t,rfl⟩:=ru
  obtain⟨z,its,n,r,hl,e⟩:=I.lstM hH
  obtain⟨w,hw,rw'⟩:=r.get hy
  refine call_meets F.slot_list_pop ⟨_,e,rfl⟩ F.entry_list_pop (F.args_list_pop_2 _ _)
    (MeetsSeq.list_pop_at l its.toArray n i t k w (fitsIndex_both h1 h2) (by rw [List.size_toArray,←hl];exact hk) (by rw [←Array.getElem?_toList];exact hw) (by rw [List.size_toArray];lia)) ⟨e,?_⟩
  refine⟨y,_,I.lset (its':=its.eraseIdx k) hH e ?_ (r.eraseIdx k) ?_,rw',q⟩
  · show its.toArray.eraseIdxIfInBounds k=(its.eraseIdx k).toArray
    rw [List.eraseIdxIfInBounds_toArray]
  · have:=nE xs k
    lia
def BF:R2:=fun x y H Q=>∃l b xs zs,x=.ref l∧y=.ref b∧H l=some (.lst xs)∧H b=some (.lst zs)∧xs.length+zs.length≤sizeLine∧∀p,H p=none→Q (.ref p) (bw H p (.lst (xs++zs)))
theorem A9:ii X (binaryOp .Add) BF:=by
  intro pins s σ H x y v u Q I rx ry h
  obtain⟨l,b,xs,zs,rfl,rfl,hH,hB,hz,q⟩:=h
  cases rx
  cases ry
  obtain⟨z,its,n,r,hl,e⟩:=I.lstM hH
  obtain⟨z2,its2,n2,r2,hl2,e2⟩:=I.lstM hB
  refine PySem.P.add_list e e2 ?_ (by rw [List.size_toArray,List.size_toArray];lia)
  have ea:its.toArray++its2.toArray=(its++its2).toArray:=by simp
  rw [ea]
  exact⟨.ref _,_,I.lnew (t':=s.toks) (r.append r2) (by rw [List.length_append];lia),rfl,q _ I.fresh⟩
def BH:R2:=fun x y H Q=>∃l k xs,x=.ref l∧y=.int k∧H l=some (.lst xs)∧ -(2 ^ 63)≤k∧k < 2 ^ 63∧xs.length*k.toNat≤sizeLine∧
  ∀p,H p=none→Q (.ref p) (bw H p (.lst (List.replicate k.toNat xs).flatten))
theorem yj{α:Type}(xs:List α)(k:Nat):(List.replicate k xs).flatten.length=k*xs.length:=by
  induction k with
  | zero=>simp
  | succ k ih=>rw [List.replicate_succ,List.flatten_cons,List.length_append,ih,Nat.succ_mul,Nat.add_comm]
theorem Be:ii X (binaryOp .Mult) BH:=by
  intro pins s σ H x y v u Q I rx ry h
  obtain⟨l,k,xs,rfl,rfl,hH,h1,h2,hz,q⟩:=h
  cases rx
  obtain⟨t,rfl⟩:=ry
  obtain⟨z,its,n,r,hl,e⟩:=I.lstM hH
  have hlen:its.toArray.size*k.toNat≤sizeLine:=by rw [List.size_toArray,←hl];exact hz
  have hcap:¬its.toArray.size*k.toNat > (2 ^ 63 - 1) / 8:=by
    have:(sizeLine:Nat)≤(2 ^ 63 - 1) / 8:=by decide
    lia
  have hfit:¬(!Builtin.List.listFitsIndex k)=true:=by
    rw [fitsIndex_both h1 h2]
    exact Bool.false_ne_true
  have hlong:¬Builtin.List.listTooLong (its.toArray.size*k.toNat)=true:=by
    rw [we hlen]
    exact Bool.false_ne_true
  have hnew:List.foldl (fun x1 x2=>x1++x2) #[] (List.replicate (if its.toArray.isEmpty=true then 0 else k.toNat) its.toArray)=(List.replicate k.toNat its).flatten.toArray:=by
    have f0:∀m:Nat,List.foldl (fun x1 x2=>x1++x2) #[] (List.replicate m its.toArray)=(List.replicate m its).flatten.toArray:=fun m=>by
      have:=nA its m []
      rw [List.nil_append] at this
      exact this
    rw [f0]
    cases its with
    | nil=>simp
    | cons a r'=>rw [if_neg (by simp)]
  refine wpAny_binaryOp_repeat_ref (T:="list") (U:="int") (by decide) ⟨_,e,rfl⟩ (fun s'=>typeIs_int s' k t) noFill_list_mul F.fills_int_mul F.slot_int_rmul repeat_list F.slot_int_index.lookup
    (call_meets F.slot_int_rmul (typeIs_int s k t) F.entry_int_rmul (F.args_int_rmul_2 _ _) (int___rmul___int_list k t l its.toArray n)
      ⟨e,rfl,⟨_,e,rfl⟩,call_meets F.slot_list_mul ⟨_,e,rfl⟩ F.entry_list_mul (F.args_list_mul_2 _ _) (AutoListH.list___mul___list_int_3 l its.toArray n k t hfit hcap hlong) ⟨e,?_⟩⟩)
  rw [hnew]
  exact⟨.ref _,_,I.lnew (t':=s.toks) (r.rep k.toNat) (by rw [yj,Nat.mul_comm];exact hz),rfl,q _ I.fresh⟩
end
section
variable{prog:Program}{w:World}{A:Around}{E:Value→Shared→Prop}{s:Shared}
end
section
variable{X:Cx}
end
end L2
namespace Att
open PySem PySem.W PySem.Calls PyProof.Rows
theorem kX{P:Params}{h:Heap}:∀(ns:List Int) (vs:List Value),WellAll P h vs (ns.map WData.int)→IntsAre vs ns:=by
  intro ns
  induction ns with
  | nil=>
    intro vs w
    rw [List.map_nil] at w
    cases w
    exact .nil
  | cons n ns ih=>
    intro vs w
    rw [List.map_cons] at w
    cases w with
    | cons a b=>
      cases a
      exact .cons _ _ (ih _ b)
theorem uv{l:OpenLaw}{n:Nat}(hn:l.most=some n){P:Params}{h:Heap}{args:List WData}{vals:List Value}
    (hpre:l.row.toRowW.claim.pre args=true)(hwl:WellAll P h vals args):
    ∃a vs ns,vals=[Value.ref a]∧args=[WData.list (ns.map WData.int)]∧h.get? a=some {cls:=.type "list",data:=.seq vs.toArray}∧IntsAre vs ns∧ns.length≤n:=by
  have hsh:WShape.hasAll [] args [.list .int]=true:=(pre_splitW hpre).1
  have hc:l.pre.holds [] {args:=args}=true:=(pre_splitW hpre).2
  obtain⟨d,r,rfl,h1,h2⟩:=hasAllW_cons hsh
  obtain rfl:=hasAllW_nil h2
  obtain⟨xs,rfl,h3⟩:=hasW_list h1
  obtain⟨ns,rfl⟩:=items_int h3
  have hlen:ns.length≤n:=by
    unfold OpenLaw.pre at hc
    have h4:(WTm.not (.lt (.lit (.int (n:Int))) (.len (.arg 0)))).holds [] {args:=[.list (ns.map .int)]}=true:=by
      have h4:=(holds_andW hc).1
      rw [hn] at h4
      exact h4
    have h5:=condW_of h4 (w_not (w_lt w_lit (w_len_list (w_arg rfl))))
    rw [List.length_map] at h5
    refine Nat.le_of_not_lt fun q=>?_
    have q':(n:Int) < ((ns.length:Nat):Int):=by lia
    first
      | (rw [decide_eq_true q'] at h5;exact absurd h5 (by decide))
      | (simp at h5;lia)
  cases hwl with
  | cons w1 w2=>
    cases w2
    cases w1 with
    | list ho hall=>exact⟨_,_,ns,rfl,rfl,ho,kX ns _ hall,hlen⟩
theorem uo(l:OpenLaw)(args:List WData):l.row.toRowW.claim.post args (.bool true) args=true:=
  postW_of (r:=l.row.toRowW) (X:=(true==true))
    (show WShape.has [] (.bool true) .bool=true by first | rfl | decide | simp [WShape.has,WShape.arms,WShape.armsAll])
    (show(WTm.eq .res (.lit (.bool true))).value [] {args:=args,res:=some (.bool true),after:=args}=some (.bool (true==true)) from w_eq_bool (w_res rfl) w_lit) rfl
theorem attach_call{l:OpenLaw}{n:Nat}{q:Program}{loose:List Str}{XP:(Str→Option Value)→Heap→Prop}{YP:World→Heap→Prop}{d:DefRec}
    (hn:l.most=some n)(hdf:d.params.defaults=[])
    (call:∀(w:World) (s₀ s₁:Shared) (mg mb:Str→Option Value) (fa:Addr) (o:Obj) (pm cd doc:Value) (a:Addr) (vs:List Value) (ns:List Int),
      Ground q loose [] XP w s₀ mg mb s₁.heap→YP w s₁.heap→
      s₁.heap.get? fa=some o→o.data=.func (docDef d.name d.params d.body d.scope pm cd doc)→s₁.heap.CodeRec cd d.name→mg d.name=some (.ref fa)→
      s₁.heap.get? a=some {cls:=.type "list",data:=.seq vs.toArray}→IntsAre vs ns→ns.length≤n→s₁.gens=#[]→
      codeAny (model l.prog w) callerA (.call (.ref fa) ⟨[.ref a],[]⟩) (fun r s'=>r=.ok (.ret (.bool true))∧OldK s₁.heap s'.heap∧s'.os=s₁.os∧AllBare s'.gens) s₁):
    WalkO q loose XP YP l.row.toRowW d [] (fun f vs=>PySem.call f vs):=by
  intro w s₀ s₁ mg mb G Y fa o pm cd doc dV kV ho hd hcd hD hmg hg args vals as hpre hlay hrd hwl hlo
  obtain rfl:dV=.none:=Dflts.none hD hdf
  obtain rfl:kV=.none:=Dflts.noKw hD
  obtain⟨a,vs,ns,rfl,rfl,hobj,hints,hlen⟩:=uv hn hpre hwl
  refine enter_call (codeAny_mono (call w s₀ s₁ mg mb fa o pm cd doc a vs ns G Y ho (fd_plain hd) hcd hmg hobj hints hlen hg) fun r s' hq=>?_)
  obtain⟨rfl,h2,h3,h4⟩:=hq
  exact⟨.inl ⟨.bool true,.bool true,[],rfl,fun _=>rfl,.bool true,uo l _,fun _=>⟨List.Pairwise.nil,fun _ hm=>(nomatch hm)⟩⟩,h2,h3,h4⟩
section
variable{prog:Program}{w:World}{A:Around}{E:Value→Shared→Prop}{s:Shared}{K:Frag}
end
end Att
namespace L2
open PySem PySem.Spec PyProof.Rows
theorem oh:∀{vs:List Value} {ns:List Int},IntsAre vs ns→aM (ns.map V.int) vs
  | _,_,.nil=>.nil
  | _,_,.cons n t h=>.cons ⟨t,rfl⟩ (oh h)
def An(H:Hp):Prop:=∀b,H b=none∨∃o xs,H b=some (.frz o (.lst xs))
theorem vS{P:Program}{w:World}{K:PySem.W.Frag}{mg mb:Str→Option Value}{CX:tP}{k:Nat}{fa a:Addr}{fd:FuncData}{x:Str}{sp:Sp}{s₁:Shared}{vs:List Value}{ns:List Int}
    (KX:K.In s₁.heap)(hns:s₁.heap.Ns mainGlobals mg)(hb:s₁.heap.Ns builtinsNs mb)(hbb:∀x:Str,x≠"__name__"→mb x=bootBuiltins x)(hlim:s₁.heap.NoLimit)(hg:s₁.gens=#[])
    (ha:s₁.heap.get? a=some {cls:=.type "list",data:=.seq vs.toArray})(hi:IntsAre vs ns)(hl:ns.length≤sizeLine)(hr:cY k callerA)
    (F:∀base:Heap,K.In base→base.Ns mainGlobals mg→aC P w K mg base CX k fa fd [x] sp)(hbind:∀(s:Shared) (u:Value),BindsTo s fd ⟨[u],[]⟩ [(x,u)])
    (hsp:∀H:Hp,An H→i_ K H a (ns.map V.int)→sp [.ref a] H (fun v _=>v=.bl true) fun _ _ _=>False)
    (hCX:∀H e s',CX [] H s₁ (fun _ _ _=>False) e s'→False):
    codeAny (model P w) callerA (.call (.ref fa) ⟨[.ref a],[]⟩) (fun r s'=>r=.ok (.ret (.bool true))∧OldK s₁.heap s'.heap∧s'.os=s₁.os∧AllBare s'.gens) s₁:=by
  have rv:=oh hi
  have lenV:=hi.length
  have core:∀H:Hp,An H→i_ K H a (ns.map V.int)→lG P w H s₁.heap→(∀b,H b≠none→b=a)→(H a≠none→K.lookup a=none)→
      codeAny (model P w) callerA (.call (.ref fa) ⟨[.ref a],[]⟩) (fun r s'=>r=.ok (.ret (.bool true))∧OldK s₁.heap s'.heap∧s'.os=s₁.os∧AllBare s'.gens) s₁:=by
    intro H hO hS hok hA hK
    have base_of:∀{b:Addr} {o:Obj},s₁.heap.get? b=some o→H b=none→(oU s₁.heap H).get? b=some o:=fun e n=>vN e n
    have noA:∀{b:Addr} {o:Obj} {es:Array DictEntry} {ep:Nat},s₁.heap.get? b=some o→o.data=.dict es ep→H b=none:=fun{b o es ep} e d=>by
      cases q:H b with
      | none=>rfl
      | some u=>
        have e':b=a:=hA b (by rw [q];simp)
        subst e'
        rw [ha] at e;cases e
        have d':Data.seq vs.toArray _=Data.dict es ep:=d
        cases d'
    have nsK:∀{b:Addr} {m:Str→Option Value},s₁.heap.Ns b m→(oU s₁.heap H).Ns b m:=fun{b m} ⟨o,es,ep,e,d,r⟩=>⟨o,es,ep,base_of e (noA e d),d,r⟩
    have hKb:K.In (oU s₁.heap H):=fun b o e=>base_of (KX b o e) (by
      cases q:H b with
      | none=>rfl
      | some u=>
        have e':b=a:=hA b (by rw [q];simp)
        subst e'
        rw [hK (by rw [q];simp)] at e;cases e)
    have hM:Mod K mg (oU s₁.heap H):=⟨hKb,nsK hns,⟨mb,nsK hb,hbb⟩,let ⟨mc,h1,h2⟩:=hlim;⟨mc,nsK h1,h2⟩⟩
    have e0:xT P w K mg (oU s₁.heap H) callerA [] s₁ H:=⟨rfl,hM,fun b o e=>yn e,Nat.le_of_eq (tZ _ _),trivial,fun b hb=>absurd (show b∈([]:List Addr) from hb) (by simp),hok,.of_eq hg⟩
    refine codeAny_mono ((F _ hKb (nsK hns)).run callerA [] s₁ H ⟨[.ref a],[]⟩ [.ref a] [.ref a] _ _ hr e0 (hbind s₁ (.ref a)) (.cons rfl .nil) (hsp H hO hS)) fun r s' h=>?_
    cases r with
    | error e=>exact(hCX H e s' h).elim
    | ok fl=>
      cases fl with
      | next=>exact False.elim h
      | brk=>exact False.elim h
      | cont=>exact False.elim h
      | ret u=>
        obtain⟨v,H',os,bare,un,hok',r',q⟩:=h
        have q':v=.bl true:=q
        subst q'
        obtain rfl:u=Value.bool true:=r'
        refine⟨rfl,OldK.of_keep fun b o e=>?_,os,bare⟩
        cases q:H b with
        | none=>exact un.keep b o e q (by intro z;exact absurd (show b∈([]:List Addr) from z) (by simp)) (by simp)
        | some u=>
          rcases hO b with z | ⟨ob,xs,z⟩
          · rw [q] at z;cases z
          · have z2:=un.frzs b ob _ z
            obtain⟨e1,_⟩:=hok b _ z
            obtain⟨e2,_⟩:=hok' b _ z2
            rw [e] at e1;cases e1
            exact e2
  cases hk:K.lookup a with
  | some o=>
    have e:=KX a o hk
    rw [ha] at e
    cases e
    refine core (fun _=>none) (fun _=>.inl rfl) (.inr ⟨_,vs.toArray,_,hk,rfl,rfl,rfl,by rw [List.size_toArray,lenV];exact hl,by simpa using rv⟩) (fun b u z=>by have z':(none:Option HO)=some u:=z;cases z') (fun b z=>absurd rfl z) fun z=>absurd rfl z
  | none=>
    refine core (fun b=>if b=a then some (.frz {cls:=.type "list",data:=.seq vs.toArray} (.lst (ns.map V.int))) else none) (fun b=>?_) (.inl (.inr ⟨{cls:=.type "list",data:=.seq vs.toArray},if_pos rfl⟩)) (fun b u z=>?_) (fun b z=>?_) fun _=>hk
    · by_cases hb:b=a
      · exact .inr ⟨_,_,if_pos hb⟩
      · exact .inl (if_neg hb)
    · by_cases hb:b=a
      · have z':=(if_pos hb).symm.trans z
        cases z'
        subst hb
        exact⟨ha,by rw [List.length_map];exact hl,vs,_,rv,ha⟩
      · have z':=(if_neg hb).symm.trans z
        cases z'
    · by_cases hb:b=a
      · exact hb
      · exact absurd (if_neg hb) z
end L2
namespace L2
open PySem PySem.Spec PyProof.Rows
theorem walk_of{l:PySem.W.OpenLaw}{n k:Nat}{q:Program}{loose:List Str}{XP:(Str→Option Value)→Heap→Prop}{YP:World→Heap→Prop}{d:DefRec}{K:Params→PySem.W.Frag}{CX:World→tP}{sp:World→Sp}{x:Str}
    (hn:l.most=some n)(hn2:n≤sizeLine)(hdf:d.params.defaults=[])(hr:cY k callerA)
    (hY:∀(w:World) (h:Heap),YP w h→(K w.params).In h)
    (F:∀(w:World) (mg:Str→Option Value) (fa:Addr) (h:Heap),(K w.params).In h→h.Ns mainGlobals mg→mg d.name=some (.ref fa)→
      ∃fd:FuncData,(∀(s:Shared) (u:Value),BindsTo s fd ⟨[u],[]⟩ [(x,u)])∧
        ∀base:Heap,(K w.params).In base→base.Ns mainGlobals mg→aC l.prog w (K w.params) mg base (CX w) k fa fd [x] (sp w))
    (hsp:∀(w:World) (H:Hp) (a:Addr) (ns:List Int),ns.length≤n→An H→i_ (K w.params) H a (ns.map V.int)→sp w [.ref a] H (fun v _=>v=.bl true) fun _ _ _=>False)
    (hCX:∀(w:World) (H:Hp) (s:Shared) (e:Value) (s':Shared),CX w [] H s (fun _ _ _=>False) e s'→False):
    PySem.W.WalkO q loose XP YP l.row.toRowW d [] (fun f vs=>PySem.call f vs):=by
  refine Att.attach_call hn hdf fun w s₀ s₁ mg mb fa o pm cd doc a vs ns G Y ho hd hcd hmg hobj hints hlen hg=>?_
  have KX:=hY w _ Y
  obtain⟨fd,hb,hF⟩:=F w mg fa _ KX G.T.g hmg
  exact vS KX G.T.g G.T.b G.T.builtins G.T.nolimit hg hobj hints (Nat.le_trans hlen hn2) hr hF hb (fun H hO hS=>hsp w H a ns hlen hO hS) fun H e s'=>hCX w H s₁ e s'
end L2
namespace L2
open PySem PySem.Spec PyProof.Rows
def c_(s:Stmt):Arguments:=match s with
  | .FunctionDef _ a _ _ _ _ _ _ _ _=>a
  | _=>{posonlyargs:=[],args:=[],vararg:=none,kwonlyargs:=[],kw_defaults:=[],kwarg:=none,defaults:=[]}
def cD(s:Stmt):List Stmt:=match s with
  | .FunctionDef _ _ b _ _ _ _ _ _ _=>b
  | _=>[]
def aj(s:Stmt):Scope:=match s with
  | .FunctionDef _ _ _ _ _ _ sc _ _ _=>sc
  | _=>{kind:=.function,names:=[],isGenerator:=false,isCoroutine:=false}
abbrev bD:tP:=fun _ _ _ _ _ _=>False
abbrev E0:XK:=fun _ _ _=>False
theorem C2{X:Cx}:rc bD X E0:=fun _ _ _ _ _ _ _ h=>h.elim
structure Cf (K:PySem.W.Frag) (x qual:Str) (st:Stmt) (f:Addr) (fd:FuncData):Prop where
  ex:∃(oc:Value) (od:Option Addr) (kV doc pm:Value) (an:Option Addr) (cdv ct:Value) (osl:Array (Option Value)),
    fd=PySem.W.fnOf x qual (c_ st) (cD st) (aj st) .none kV doc pm an cdv ct∧K.lookup f=some ⟨oc,od,.func fd,osl⟩∧PySem.W.codeIn K cdv qual=true
  kp:PySem.W.keepIn K (.ref f)=true
section
variable{P:Program}{w:World}{K:PySem.W.Frag}{mg:Str→Option Value}{base:Heap}
theorem Cf.ok{x qual:Str}{st:Stmt}{f:Addr}{fd:FuncData}{N ps:List Str}{k:Nat}{sp:Sp}(F:Cf K x qual st f fd)(S:aE N ps (aj st))(len:∀vs H Q E,sp vs H Q E→vs.length=ps.length)
    (hbody:∀(cdv:Value) (A:Around) (outer:List Env) (s:Shared) (H:Hp) (vs:List V) (Q:VK) (E:XK),cY k (A.deeper (envOfC qual (aj st) s.heap.objs.size f cdv))→sp vs H Q E→
      ∃t,kW (rm bD P w K mg base N qual (aj st) f cdv A outer s H E).nox (cD st) t∧t {nx:=fun _ H'=>Q .non H',rt:=Q} (hX N vs) H):aC P w K mg base bD (k+1) f fd ps sp:=by
  obtain⟨oc,od,kV,doc,pm,an,cdv,ct,osl,rfl,lk,hcd⟩:=F.ex
  refine CA lk hcd S len fun A outer s H vs Q E hr hsp=>?_
  obtain⟨t,h,q⟩:=hbody cdv A outer s H vs Q E hr hsp
  exact⟨t,h.nox,q⟩
theorem Cf.binds{x qual:Str}{st:Stmt}{f:Addr}{fd:FuncData}{ps:List Str}(F:Cf K x qual st f fd)
    (h:∀(kV doc pm:Value) (an:Option Addr) (cdv ct:Value) (us:List Value),us.length=ps.length→bindArgs (PySem.W.fnOf x qual (c_ st) (cD st) (aj st) .none kV doc pm an cdv ct) ⟨us,[]⟩=pure (ps.zip us)):m7 K fd ps []:=by
  obtain⟨oc,od,kV,doc,pm,an,cdv,ct,osl,rfl,lk,hcd⟩:=F.ex
  exact .all (h kV doc pm an cdv ct)
theorem vz{x qual:Str}{st:Stmt}{f:Addr}{oc:Value}{od an:Option Addr}{osl:Array (Option Value)}{kV doc pm cdv ct:Value}(l:K.lookup f=some ⟨oc,od,.func (PySem.W.fnOf x qual (c_ st) (cD st) (aj st) .none kV doc pm an cdv ct),osl⟩)
    (c:PySem.W.codeIn K cdv qual=true)(k:PySem.W.keepIn K (.ref f)=true):Cf K x qual st f (PySem.W.fnOf x qual (c_ st) (cD st) (aj st) .none kV doc pm an cdv ct):=⟨⟨oc,od,kV,doc,pm,an,cdv,ct,osl,rfl,l,c⟩,k⟩
end
theorem ky{n:Nat}(h:n≤1000):n < sizeLine:=Nat.lt_of_le_of_lt h (by decide)
section
variable{X:Cx}
end
theorem CL{A B:Prop}(h:B):if false=true then A else B:=by
  rw [if_neg Bool.false_ne_true]
  exact h
theorem CM{A B:Prop}(h:A):if true=true then A else B:=by
  rw [if_pos rfl]
  exact h
def aw(H H':Hp):Prop:=∀b o,H b=some o→H' b=some o
theorem aw.refl(H:Hp):aw H H:=fun _ _ h=>h
theorem aw.trans{H H1 H2:Hp}(a:aw H H1)(b:aw H1 H2):aw H H2:=fun c o h=>b c o (a c o h)
theorem aw.free{H H':Hp}(e:aw H H'){l:Addr}(h:H' l=Option.none):H l=Option.none:=by
  cases q:H l with
  | none=>rfl
  | some o=>
    rw [e l o q] at h
    cases h
theorem aw.seq{K:PySem.W.Frag}{H H':Hp}{a:Addr}{xs:List V}(e:aw H H')(h:i_ K H a xs):i_ K H' a xs:=by
  rcases h with (h | ⟨o,h⟩) | h
  · exact .inl (.inl (e _ _ h))
  · exact .inl (.inr ⟨o,e _ _ h⟩)
  · exact .inr h
end L2
set_option maxHeartbeats 4000000
namespace L2
open PySem PySem.Spec PyProof.Rows
def Bt(n:Nat)(i:Int):Prop:=i.natAbs < 2 ^ n
theorem Bt.mono{m n:Nat}{i:Int}(h:Bt m i)(hm:m≤n):Bt n i:=Nat.lt_of_lt_of_le h (Nat.pow_le_pow_right (by decide) hm)
theorem Bt.mul{m n:Nat}{i j:Int}(h:Bt m i)(h':Bt n j):Bt (m+n) (i*j):=by
  unfold Bt at*
  rw [Int.natAbs_mul,Nat.pow_add]
  exact Nat.mul_lt_mul'' h h'
theorem Bt.add{m:Nat}{i j:Int}(h:Bt m i)(h':Bt m j):Bt (m+1) (i+j):=by
  unfold Bt at*
  have e:(2:Nat) ^ (m+1)=2 ^ m+2 ^ m:=by rw [Nat.pow_succ];lia
  rw [e]
  have:=Int.natAbs_add_le i j
  lia
theorem Bt.log{m:Nat}{i:Int}(h:Bt m i)(hm:0 < m):i.natAbs.log2 < m:=by
  unfold Bt at h
  rcases Nat.eq_zero_or_pos i.natAbs with h0 | hp
  · rw [h0];exact hm
  · exact(Nat.log2_lt (by lia)).mpr h
theorem Bt.bits{m:Nat}{i:Int}(h:Bt m i)(hm:0 < m):Builtin.Int.intBits i≤m:=by
  unfold Builtin.Int.intBits
  split
  · exact Nat.zero_le _
  · exact h.log hm
theorem Bt.of_le{m:Nat}{i:Int}{j:Int}(h:Bt m j)(e:i.natAbs≤j.natAbs):Bt m i:=Nat.lt_of_le_of_lt e h
section
variable{X:Cx}
def zL(i j:Int):Prop:=Bt 4000 i∧Bt 4000 j
theorem yC:ii X (binaryOp .Mult) (rI zL fun i j=>.int (i*j)):=CW fun _ _ _ _ _ _ _ hc q=>
  mul_int q (.of_bits (Nat.le_trans (hc.1.bits (by decide)) (by decide)) (Nat.le_trans (hc.2.bits (by decide)) (by decide)))
def zK(i j:Int):Prop:=j≠0∧Bt 8000 j
theorem wu:ii X (binaryOp .FloorDiv) (rI zK fun i j=>.int (i.fdiv j)):=CW fun _ _ _ _ _ _ _ hc q=>
  floordiv_int hc.1 q (.inl (PyProof.noPylong_of_log2 (Nat.lt_trans (hc.2.log (by decide)) (by decide))))
end
def kL(H H':Hp):Prop:=∀a o,H a=some o→(∀xs,o≠.lst xs)→(∀ob xs,o≠.frz ob (.lst xs))→H' a=some o
theorem kL.trans{H H1 H2:Hp}(a:kL H H1)(b:kL H1 H2):kL H H2:=fun c o h n m=>b c o (a c o h n m) n m
theorem aw.ts{H H':Hp}(h:aw H H'):kL H H':=fun a o e _ _=>h a o e
theorem kL.tup{K:PySem.W.Frag}{H H':Hp}(h:kL H H'){a:Addr}{xs:List V}(q:cP K H a xs):cP K H' a xs:=by
  rcases q with (q | ⟨o,q⟩) | q
  · exact .inl (.inl (h _ _ q (fun _ e=>nomatch e) (fun _ _ e=>nomatch e)))
  · exact .inl (.inr ⟨o,h _ _ q (fun _ e=>nomatch e) (fun _ _ e=>nomatch e)⟩)
  · exact .inr q
section
variable{X:Cx}
end
end L2
namespace L2
open PySem PySem.Spec PyProof.Rows
structure aX (K:PySem.W.Frag) (mg:Str→Option Value) (x:Str) (st:Stmt) (f:Addr) (fd:FuncData) (ps:List Str):Prop where
  F:Cf K x x st f fd
  m:mg x=some (.ref f)
  b:m7 K fd ps []
theorem AE{K:PySem.W.Frag}{mg:Str→Option Value}{h:Heap}{x:Str}{st:Stmt}{f:Addr}{ps:List Str}{oc:Value}{od an:Option Addr}{osl:Array (Option Value)}{kV doc pm cdv ct:Value}(X:K.In h)(G:h.Ns mainGlobals mg)(a:PySem.W.nsIn K mainGlobals x=some (some (.ref f)))
    (l:K.lookup f=some ⟨oc,od,.func (PySem.W.fnOf x x (c_ st) (cD st) (aj st) .none kV doc pm an cdv ct),osl⟩)(c:PySem.W.codeIn K cdv x=true)(k:PySem.W.keepIn K (.ref f)=true)
    (hb:∀(kV doc pm:Value) (an:Option Addr) (cdv ct:Value) (us:List Value),us.length=ps.length→bindArgs (PySem.W.fnOf x x (c_ st) (cD st) (aj st) .none kV doc pm an cdv ct) ⟨us,[]⟩=pure (ps.zip us)):
    aX K mg x st f (PySem.W.fnOf x x (c_ st) (cD st) (aj st) .none kV doc pm an cdv ct) ps:=⟨vz l c k,PySem.W.mg_of X G a,(vz l c k).binds hb⟩
theorem C5{X:Cx}{x:Str}{st:Stmt}{f:Addr}{fd:FuncData}{ps:List Str}{k:Nat}{sp:Sp}{e:Expr}{es:List Expr}{t:TA}{p pos:Pos}(h:aX X.K X.mg x st f fd ps)(G:aC X.prog X.w X.K X.mg X.base bD k f fd ps sp)(hr:cY k X.A)(ha:PA X (e::es) t)
    (hg:Gl X x:=by rfl)(hdb:(x==("__debug__":Str))=false:=by decide)(he:starEach (e::es) X.env=(false,eval e X.env)::starEach es X.env:=by rfl)(hpl:(backTo pos (starEach es X.env)).any (·.1)=false:=by rfl):
    PE X (.Call (.Name x p) (e::es) [] pos) (tu sp [] E0 t):=yG G hr hg h.m h.F.kp h.b .nil C2 ha hdb he hpl
theorem aw.new{H:Hp}{p:Addr}{o:HO}(h:H p=none):aw H (bw H p o):=fun b u e=>by
  rw [aQ (dB e h)];exact e
theorem aw.tup{K:PySem.W.Frag}{H H':Hp}{a:Addr}{xs:List V}(e:aw H H')(h:cP K H a xs):cP K H' a xs:=e.ts.tup h
end L2
namespace L2
open PySem PySem.Spec PyProof.Rows
def lowM(t b:Int):Int × Int:=if b < 0 then(t.fdiv (-(Int.gcd t b:Int)),b.fdiv (-(Int.gcd t b:Int))) else(t.fdiv (Int.gcd t b:Int),b.fdiv (Int.gcd t b:Int))
theorem p6(x y:Int):Int.gcd y (x.fmod y)=Int.gcd x y:=by
  rw [Int.fmod_def,Int.gcd_sub_mul_left_right,Int.gcd_comm]
theorem fD(x:Int){y:Int}(h:y≠0):(x.fmod y).natAbs < y.natAbs:=by
  rcases Int.lt_or_gt_of_ne h with h | h
  · have h1:x.fmod y= -((-x).fmod (-y)):=by
      have:=Int.neg_fmod_neg x y
      lia
    have h2:=Int.fmod_nonneg_of_pos (-x) (b:= -y) (by lia)
    have h3:=Int.fmod_lt_of_pos (-x) (b:= -y) (by lia)
    lia
  · have h2:=Int.fmod_nonneg_of_pos x h
    have h3:=Int.fmod_lt_of_pos x h
    lia
theorem oS{t b:Int}(h:b≠0):(0:Int) < Int.gcd t b:=by
  have:=Int.gcd_pos_of_ne_zero_right t h
  lia
theorem eI{t b:Int}(h:b≠0):∃d:Int,d.natAbs=Int.gcd t b∧d≠0∧(lowM t b).1*d=t∧(lowM t b).2*d=b∧0 < (lowM t b).2:=by
  have hg:=oS (t:=t) h
  have d1:(Int.gcd t b:Int) ∣ t:=Int.gcd_dvd_left ..
  have d2:(Int.gcd t b:Int) ∣ b:=Int.gcd_dvd_right ..
  unfold lowM
  split
  · rename_i hb
    have e1:t.fdiv (-(Int.gcd t b:Int))*(-(Int.gcd t b:Int))=t:=Int.fdiv_mul_cancel (Int.neg_dvd.mpr d1)
    have e2:b.fdiv (-(Int.gcd t b:Int))*(-(Int.gcd t b:Int))=b:=Int.fdiv_mul_cancel (Int.neg_dvd.mpr d2)
    refine⟨-(Int.gcd t b:Int),by lia,by lia,e1,e2,?_⟩
    show 0 < b.fdiv (-(Int.gcd t b:Int))
    have h3:b.fdiv (-(Int.gcd t b:Int))*(Int.gcd t b:Int)= -b:=by rw [Int.mul_neg] at e2;lia
    exact Int.pos_of_mul_pos_left (by lia) (by lia) (b:=(Int.gcd t b:Int))
  · rename_i hb
    have e1:t.fdiv (Int.gcd t b:Int)*(Int.gcd t b:Int)=t:=Int.fdiv_mul_cancel d1
    have e2:b.fdiv (Int.gcd t b:Int)*(Int.gcd t b:Int)=b:=Int.fdiv_mul_cancel d2
    refine⟨(Int.gcd t b:Int),by lia,by lia,e1,e2,?_⟩
    show 0 < b.fdiv (Int.gcd t b:Int)
    exact Int.pos_of_mul_pos_left (by lia) (by lia) (b:=(Int.gcd t b:Int))
theorem mf{t b:Int}(h:b≠0):Int.gcd (lowM t b).1 (lowM t b).2=1:=by
  obtain⟨d,h1,h2,h3,h4,h5⟩:=eI (t:=t) h
  have e:Int.gcd ((lowM t b).1*d) ((lowM t b).2*d)=Int.gcd (lowM t b).1 (lowM t b).2*d.natAbs:=Int.gcd_mul_right ..
  rw [h3,h4,←h1] at e
  have hd:0 < d.natAbs:=by lia
  exact(Nat.eq_of_mul_eq_mul_right hd (by rw [Nat.one_mul];exact e)).symm
theorem ji{t b:Int}(h:b≠0):(lowM t b).1*b=(lowM t b).2*t:=by
  obtain⟨d,h1,h2,h3,h4,h5⟩:=eI (t:=t) h
  generalize (lowM t b).1=x at*
  generalize (lowM t b).2=y at*
  subst h3 h4
  rw [←Int.mul_assoc,←Int.mul_assoc,Int.mul_comm x]
theorem i6{x d:Int}(h:d≠0):x.natAbs≤(x*d).natAbs:=by
  rw [Int.natAbs_mul]
  exact Nat.le_mul_of_pos_right _ (by lia)
theorem sP{t b:Int}(h:b≠0){n:Nat}(ht:Bt n t)(hb:Bt n b):Bt n (lowM t b).1∧Bt n (lowM t b).2:=by
  obtain⟨d,h1,h2,h3,h4,h5⟩:=eI (t:=t) h
  refine⟨ht.of_le ?_,hb.of_le ?_⟩
  · conv=>rhs;rw [←h3]
    exact i6 h2
  · conv=>rhs;rw [←h4]
    exact i6 h2
theorem vL{t b:Int}(h:b≠0){n:Nat}(hb:Bt n b):Bt n (Int.gcd t b:Int):=by
  refine hb.of_le ?_
  have h1:=Nat.le_of_dvd (show 0 < b.natAbs by lia) (Int.ofNat_dvd.mp (by rw [Int.dvd_natAbs];exact Int.gcd_dvd_right t b))
  lia
mutual
def cnt:PyData→Nat
  | .tuple ds=>1+jb ds
  | .str _=>0
  | _=>1
def jb:List PyData→Nat
  | []=>0
  | d::ds=>cnt d+jb ds
end
mutual
def mq:PyData→Bool
  | .tuple ds=>gc ds
  | .str _=>false
  | .list _=>false
  | .dict _=>false
  | _=>true
def gc:List PyData→Bool
  | []=>true
  | d::ds=>mq d&&gc ds
end
theorem mV{a:Int}(h:a.natAbs.log2 < 1920):(Str.ofString (toString a)).length≤1921:=by
  have e:=int_text_length_le (k:=1920) (by decide) h
  rw [PySem.ofString_length];lia
theorem eV(x:Str)(r:List Str):piled (x::r)=x.length+2+piled r:=by
  simp [piled]
theorem iY(ts:List Str):(tupleText ts).length≤piled ts+3:=by
  unfold tupleText
  rw [strLen_append,strLen_append]
  have h1:(("(":Str)).length=1:=by decide
  have h2:(Str.ofString (if (ts.length==1)=true then ",)" else ")")).length≤2:=by split<;>decide
  have h3:(Str.join ", " ts).length≤piled ts:=by
    cases ts with
    | nil=>show(Str.join ", " []).length≤0;decide
    | cons x r=>have:=join_length_add (x::r) (by simp);lia
  lia
mutual
theorem nY:∀{d:PyData},mq d=true→d.showable=true→d.shown.length+2≤2000*cnt d
  | .none,_,_=>by show(Str.ofString "None").length+2≤2000*1;decide
  | .bool b,_,_=>by
    cases b
    · show(Str.ofString "False").length+2≤2000*1;decide
    · show(Str.ofString "True").length+2≤2000*1;decide
  | .int i,_,hs=>by
    simp only [PyData.showable,decide_eq_true_eq] at hs
    have:=mV hs
    show(Str.ofString (toString i)).length+2≤2000*1
    lia
  | .tuple ds,hn,hs=>by
    simp only [PyData.showable] at hs
    simp only [mq] at hn
    have h1:=jW hn hs
    have h2:=iY (PyData.shownAll ds)
    simp only [PyData.shown,cnt]
    lia
  | .str _,hn,_=>by simp [mq] at hn
  | .list _,hn,_=>by simp [mq] at hn
  | .dict _,hn,_=>by simp [mq] at hn
theorem jW:∀{ds:List PyData},gc ds=true→PyData.showableAll ds=true→piled (PyData.shownAll ds)≤2000*jb ds
  | [],_,_=>by simp [PyData.shownAll,piled]
  | d::ds,hn,hs=>by
    simp only [gc,Bool.and_eq_true] at hn
    simp only [PyData.showableAll,Bool.and_eq_true] at hs
    have h1:=nY hn.1 hs.1
    have h2:=jW hn.2 hs.2
    simp only [PyData.shownAll,jb,eV]
    lia
end
end L2
namespace L2
open PySem PySem.Spec PyProof.Rows
def h_(env:Env):List (Str × NameKind)→List (Str × Addr)→List (Str × Addr)
  | [],cs=>cs
  | (n,k)::r,cs=>h_ env r (if k==.free then(n,(env.cells.lookup n).getD 0)::cs else cs)
theorem jC{env:Env}:∀(names:List (Str × NameKind)) (cs:List (Str × Addr)),(∀y∈names,y.2=.free→∃c,env.cells.lookup y.1=some c)→
    (forIn names cs (fun(x:Str × NameKind) (r:List (Str × Addr))=>(if (x.2==NameKind.free)=true then do let a ←cellOf env x.1;pure (ForInStep.yield ((x.1,a)::r)) else pure (ForInStep.yield r):Sem (ForInStep (List (Str × Addr))))):Sem (List (Str × Addr)))=pure (h_ env names cs)
  | [],cs,_=>rfl
  | (n,k)::r,cs,h=>by
    rw [List.forIn_cons]
    have ih:=fun cs'=>jC (env:=env) r cs' (fun y hy=>h y (List.mem_cons_of_mem _ hy))
    by_cases hk:(k==NameKind.free)=true
    · have hk':k=.free:=by simpa using hk
      obtain⟨c,hc⟩:=h (n,k) List.mem_cons_self hk'
      have e:cellOf env n=pure c:=by unfold cellOf;rw [hc]
      simp only [hk,if_true,e,pure_bind,h_,hc,Option.getD_some]
      exact ih _
    · have hk':(k==NameKind.free)=false:=by simpa using hk
      simp only [hk',Bool.false_eq_true,if_false,pure_bind,h_]
      exact ih _
theorem lQ{scope:Scope}{env:Env}(h:∀y∈scope.names,y.2=.free→∃c,env.cells.lookup y.1=some c):closureFor scope env=pure (h_ env scope.names []):=by
  have e:=jC (env:=env) scope.names [] h
  unfold closureFor
  simp only [pure_bind,bind_pure] at e ⊢
  exact e
theorem ja{env:Env}:∀(names:List (Str × NameKind)) (cs:List (Str × Addr)) (x:Str) (c:Addr),(∀y∈names,y.2=.free→∃c,env.cells.lookup y.1=some c)→(∀x c,cs.lookup x=some c→env.cells.lookup x=some c)→(h_ env names cs).lookup x=some c→env.cells.lookup x=some c
  | [],cs,x,c,_,hs,h=>hs x c h
  | (n,k)::r,cs,x,c,hn,hs,h=>by
    refine ja r _ x c (fun y hy=>hn y (List.mem_cons_of_mem _ hy)) (fun x' c' e=>?_) h
    by_cases hk:(k==NameKind.free)=true
    · rw [if_pos hk] at e
      obtain⟨c0,hc⟩:=hn (n,k) List.mem_cons_self (by simpa using hk)
      rw [List.lookup_cons] at e
      cases hx:x'==n with
      | true=>
        rw [hx] at e
        have e1:x'=n:=by simpa using hx
        subst e1
        simp only [hc,Option.getD_some,Option.some.injEq] at e
        rw [←e];exact hc
      | false=>rw [hx] at e;exact hs x' c' e
    · rw [if_neg hk] at e
      exact hs x' c' e
theorem lP{env:Env}:∀(names:List (Str × NameKind)) (cs:List (Str × Addr)) (x:Str),((∃y∈names,y.1=x∧y.2=.free)∨∃c,cs.lookup x=some c)→∃c,(h_ env names cs).lookup x=some c
  | [],cs,x,h=>by
    rcases h with ⟨y,hy,_⟩ | h
    · cases hy
    · exact h
  | (n,k)::r,cs,x,h=>by
    refine lP r _ x ?_
    by_cases hk:(k==NameKind.free)=true
    · rw [if_pos hk,List.lookup_cons]
      cases hx:x==n with
      | true=>exact .inr ⟨_,rfl⟩
      | false=>
        rcases h with ⟨y,hy,e1,e2⟩ | h
        · rcases List.mem_cons.mp hy with z | z
          · subst z;subst e1;simp at hx
          · exact .inl ⟨y,z,e1,e2⟩
        · exact .inr h
    · rw [if_neg hk]
      rcases h with ⟨y,hy,e1,e2⟩ | h
      · rcases List.mem_cons.mp hy with z | z
        · subst z;exact absurd (by simpa using e2) hk
        · exact .inl ⟨y,z,e1,e2⟩
      · exact .inr h
theorem dk{env:Env}:∀{names:List (Str × NameKind)} {x:Str},(∀y∈names,y.2≠.cell)→(names.map fun(n,k)=>if (k==NameKind.free&&env.scope.kind==.function&&env.kindOf n==some .cell) then(n,NameKind.cell) else(n,k)).lookup x=some .cell∨
    (names.map fun(n,k)=>if (k==NameKind.free&&env.scope.kind==.function&&env.kindOf n==some .cell) then(n,NameKind.cell) else(n,k)).lookup x=some .free→∃y∈names,y.1=x∧y.2=.free
  | [],x,_,h=>by simp at h
  | (n,k)::r,x,hc,h=>by
    have ih:=@dk env r x (fun y hy=>hc y (List.mem_cons_of_mem _ hy))
    have nc:k≠.cell:=hc (n,k) List.mem_cons_self
    rw [List.map_cons] at h
    cases hx:x==n with
    | true=>
      have e1:x=n:=by simpa using hx
      subst e1
      refine⟨(x,k),List.mem_cons_self,rfl,?_⟩
      by_cases q:(k==NameKind.free&&env.scope.kind==.function&&env.kindOf x==some .cell)=true
      · simp only [Bool.and_eq_true,beq_iff_eq] at q;exact q.1.1
      · simp only [q,Bool.false_eq_true,if_false,List.lookup_cons,beq_self_eq_true,Option.some.injEq] at h
        rcases h with h | h
        · exact absurd h nc
        · exact h
    | false=>
      have e2:∀(l:List (Str × NameKind)),((if (k==NameKind.free&&env.scope.kind==.function&&env.kindOf n==some .cell)=true then(n,NameKind.cell) else(n,k))::l).lookup x=l.lookup x:=fun l=>by
        split<;>simp [List.lookup_cons,hx]
      simp only [e2] at h
      obtain⟨y,hy,z⟩:=ih h
      exact⟨y,List.mem_cons_of_mem _ hy,z⟩
theorem dU{env:Env}:∀{names:List (Str × NameKind)} {x:Str},names.lookup x=some .free→
    (names.map fun(n,k)=>if (k==NameKind.free&&env.scope.kind==.function&&env.kindOf n==some .cell) then(n,NameKind.cell) else(n,k)).lookup x≠some .local
  | [],x,h=>by simp at h
  | (n,k)::r,x,h=>by
    rw [List.map_cons]
    cases hx:x==n with
    | true=>
      simp only [hx,List.lookup_cons] at h
      cases h
      show List.lookup x ((if (NameKind.free==NameKind.free&&env.scope.kind==.function&&env.kindOf n==some .cell)=true then(n,NameKind.cell) else(n,NameKind.free))::_)≠_
      split<;>simp [List.lookup_cons,hx]
    | false=>
      simp only [hx,List.lookup_cons] at h
      have ih:=@dU env r x h
      have e2:∀(l:List (Str × NameKind)),((if (k==NameKind.free&&env.scope.kind==.function&&env.kindOf n==some .cell)=true then(n,NameKind.cell) else(n,k))::l).lookup x=l.lookup x:=fun l=>by
        split<;>simp [List.lookup_cons,hx]
      simp only [e2]
      exact ih
def aN(X:Cx)(scope:Scope)(cp:List (Nat × Str))(tgN:List Str)(C:Addr)(s0:Shared)(H0:Hp)(fp:List Addr):Cx where
  prog:=X.prog
  w:=X.w
  K:=X.K
  mg:=X.mg
  base:=X.base
  A:=X.A
  N:=cp.map (·.2)++tgN
  s₀:=s0
  H₀:=H0
  env:=compEnvC scope (h_ X.env scope.names []) C X.env
  outer:=X.stack
  stack:=X.stack
  ex:=fp
  fn:=fun x=>scope.names.lookup x==some .local
  calm:=X.calm
  pn:=[]
  xe:=fun _ _=>False
def uS(X:Cx)(ifs:List Expr)(t:TT):Prop:=
  ∀(pins:List (Addr × Obj)) (s:Shared) (σ:L2.St) (H:Hp) (Q:Bool→Hp→Prop),aB X pins σ H s→t σ H Q→
    wpAny (model X.prog X.w) X.A (forIn ifs true fun c r=>if r=true then do let ok ←isTrue c X.env (eval c X.env);pure (ForInStep.yield ok) else pure (ForInStep.yield r)) (TP X pins σ Q) X.xe s
theorem yZ{X:Cx}:uS X [] (fun _ H Q=>Q true H):=fun _ _ _ H _ I h=>wpAny_tests_nil ⟨H,I,h⟩
theorem y0{X:Cx}{c:Expr}{t:TT}(h:PT X c t):uS X [c] t:=fun pins s σ H Q I q=>wpAny_tests_one (h pins s σ H Q I q)
abbrev Cj:Value→Shared→Prop:=fun _ _=>False
def Ay(prog:Program)(w:World)(A:Around)(elt tg:Expr)(ifs:List Expr)(env:Env)(it acc:Value)(onward:Shared→Prop)(v:Value)(u:Shared):Prop:=
  wpAny (model prog w) A (letOwnedTupleGo tg it v) (fun _ u1=>wpAny (model prog w) A (assign tg env v) (fun _ u2=>wpAny (model prog w) A
    (forIn ifs true fun c r=>if r=true then do let ok ←isTrue c env (eval c env);pure (ForInStep.yield ok) else pure (ForInStep.yield r)) (fun ok u3=>if ok=true then wpAny (model prog w) A (eval elt env) (fun x u4=>wpAny (model prog w) A (call (.builtin "list.append") [acc,x]) (fun _ u5=>onward u5) Cj u4) Cj u3 else onward u3) Cj u2) Cj u1) Cj u
theorem jD{prog:Program}{w:World}{A:Around}{R:Result→Shared→Prop}{elt tg iter:Expr}{ifs:List Expr}{scope:Scope}{pos:Pos}{it acc:Value}{env:Env}(J:Nat→Shared→Prop)
    (turn:∀n u,J n u→wpAny (model prog w) A (pyNext it) (fun r u1=>(r=none→R (.ok .next) u1)∧∀v,r=some v→Ay prog w A elt tg ifs env it acc (fun u2=>∃m,m < n∧J m u2) v u1) Cj u){n0:Nat}{u0:Shared}(hX:J n0 u0):
    codeAny (model prog w) A (.compLoop (.ListComp elt [⟨tg,iter,ifs,0⟩] scope pos) 0 it acc env) R u0:=by
  refine codeAny_loop rfl J (fun n u ju=>?_) n0 hX
  show wpAny _ A ((compTurn (.ListComp elt [⟨tg,iter,ifs,0⟩] scope pos) 0 it acc env).onRaise _) _ _ u;refine wpAny_noted ?_;rw [compTurn_list]
  refine wpAny_bind (wpAny_standAt (wpAny_bind (wpAny_mono (turn n u ju) (fun r u1 k1=>?_) fun _ _ z=>z.elim)))
  cases r with
  | none=>exact wpAny_pure (k1.1 rfl)
  | some v=>
    refine wpAny_bind (wpAny_mono (k1.2 v rfl) (fun _ u2 k2=>wpAny_bind (wpAny_mono k2 (fun _ u3 k3=>wpAny_bind (wpAny_mono k3 (fun ok u4 k4=>?_) fun _ _ z=>z.elim)) fun _ _ z=>z.elim)) fun _ _ z=>z.elim)
    cases ok with
    | false=>rw [if_neg Bool.false_ne_true] at k4;exact wpAny_pure ⟨rfl,k4⟩
    | true=>
      rw [if_pos rfl] at k4
      refine wpAny_bind (wpAny_bind (wpAny_mono k4 (fun x u5 k5=>wpAny_bind (wpAny_mono k5 (fun _ u6 k6=>?_) fun _ _ z=>z.elim)) fun _ _ z=>z.elim));exact wpAny_pure (wpAny_pure ⟨rfl,k6⟩)
def gA(cp:List (Nat × Str))(nT:Nat)(σ:L2.St):L2.St:=cp.map (fun p=>(σ[p.1]?).join)++List.replicate nT none
structure tD (cp:List (Nat × Str)) (nT:Nat) (wi:TI) (g:TG) (tc:TT) (te:TE) (σ:L2.St) (H:Hp) (Q:VK):Prop where
  go:wi σ H fun J H1=>∀l,H1 l=none→
  ∃W:Nat→Nat→L2.St→Hp→Prop,(∃m,W 0 m (gA cp nT σ) (bw H1 l (.lst [])))∧∀i m σ' H',W i m σ' H'→
    (J.stop i H'∧Q (.ref l) H')∨(J.go i H'∧∃N:L2.St→Hp→Prop,(∀σ2 H2,N σ2 H2→∃m',m' < m∧W (i+1) m' σ2 H2)∧
      ∀x H2,J.yld i H' x H2→g x σ' H2 fun σ2 H3=>tc σ2 H3 fun b H4=>if b=true then te σ2 H4 fun v H5=>∃ys,H5 l=some (.lst ys)∧ys.length < sizeLine∧N σ2 (bw H5 l (.lst (ys++[v]))) else N σ2 H4)
theorem yI{X:Cx}{elt iter tg:Expr}{ifs:List Expr}{scope:Scope}{pos:Pos}{wi:TI}{g:TG}{tc:TT}{te:TE}(sc0:Scope)(N0:List Str)(cp:List (Nat × Str))(tgN:List Str)
    (hc:X.calm=true)(hsc:X.env.scope=sc0)(hN0:X.N=N0)(hi:PI X tg iter wi)
    (hg:∀C s0 H0 fp,PG (aN X scope cp tgN C s0 H0 fp) tg g)
    (ht:∀C s0 H0 fp,uS (aN X scope cp tgN C s0 H0 fp) ifs tc)
    (he:∀C s0 H0 fp,PE (aN X scope cp tgN C s0 H0 fp) elt te)
    (hk:scope.kind=.function)(hcell:∀y∈scope.names,y.2≠.cell)(hnames:∀y∈scope.names,y.2=.local→scope.names.lookup y.1=some .local)
    (hfr:∀y∈scope.names,y.2=.free→scope.names.lookup y.1=some .free∧sc0.names.lookup y.1=some .cell)
    (hcp:∀p∈cp,N0[p.1]?=some p.2)(hcq:∀p∈cp,sc0.names.lookup p.2=some .cell∧scope.names.lookup p.2=some .free)
    (hs:∀x,foldedSetIterable iter X.env x=pure x:=by intro _;rfl):
    PE X (.ListComp elt [⟨tg,iter,ifs,0⟩] scope pos) (tD cp tgN.length wi g tc te):=by
  intro pins s σ H Q I h
  have hkind:∀x,X.env.kindOf x=sc0.names.lookup x:=fun x=>by unfold Env.kindOf;rw [hsc]
  have hfree:∀y∈scope.names,y.2=.free→∃c,X.env.cells.lookup y.1=some c:=fun y hy e=>I.ok.has y.1 (.inl (by rw [hkind];exact(hfr y hy e).2))
  rw [eval_ListComp]
  refine wpAny_comprehension_free (use:=none) rfl hs (lQ hfree) hk hnames (wpAny_mono (hi pins s σ H _ I h.go) (fun xv s₁ h₁=>wpAny_mono h₁ (fun itv s₂ h₂=>?_) fun _ _ e=>e) fun _ _ e=>e)
  obtain⟨it,fp,tn,J,H2,rfl,I2,T,st2,f2,hq⟩:=h₂
  refine wpAny_newObj_type ?_
  have hlF:H2 s₂.heap.objs.size=none:=I2.hok.fresh (Nat.le_refl _)
  have I3:aB X pins σ (bw H2 s₂.heap.objs.size (.lst [])) {s₂ with heap:=s₂.heap.push {cls:=.type "list",data:=.seq ([]:List Value).toArray}}:=I2.lnew (t':=s₂.toks) .nil (Nat.zero_le _)
  obtain⟨W,⟨m0,w0⟩,turn⟩:=hq _ hlF
  have f3:∀b∈fp,jw X pins (bw H2 s₂.heap.objs.size (.lst [])) b:=fun b hb=>by
    obtain⟨f0,fr⟩:=f2 b hb
    obtain⟨o,ho,_⟩:=T.obj _ _ st2 b hb
    exact⟨by rw [aQ (Nat.ne_of_lt (Heap.lt_size ho))];exact f0,fr⟩
  have st3:tn 0 (s₂.heap.push {cls:=.type "list",data:=.seq ([]:List Value).toArray}):=T.keep _ _ _ st2 fun b _ o e=>Heap.get?_push_of_some _ e
  generalize hD:s₂.heap.objs.size=D at*
  generalize hs3:({s₂ with heap:=s₂.heap.push {cls:=.type "list",data:=.seq ([]:List Value).toArray}}:Shared)=s₃ at*
  have hst3:tn 0 s₃.heap:=by rw [←hs3];exact st3
  refine wpAny_newFunctionEnv hcell (by intro y hy;simp at hy) (fun h₁ hns₁ hsb₁=>?_) hk
  generalize hC:s₃.heap.objs.size=C at*
  have old:∀b o,s₃.heap.get? b=some o→h₁.get? b=some o:=fun b o e=>hsb₁.extBut b o (by rw [←hC];exact Nat.ne_of_lt (Heap.lt_size e)) (Heap.get?_push_of_some _ e)
  have nC:∀b o,s₃.heap.get? b=some o→b≠C:=fun b o e=>by rw [←hC];exact Nat.ne_of_lt (Heap.lt_size e)
  have hHC:(bw H2 D (.lst [])) C=none:=I3.hok.fresh (by rw [hC];exact Nat.le_refl _)
  have clS:∀x c,(h_ X.env scope.names []).lookup x=some c→X.env.cells.lookup x=some c:=fun x c e=>ja _ _ x c hfree (fun _ _ z=>by simp at z) e
  have clH:∀x,(∃y∈scope.names,y.1=x∧y.2=.free)→∃c,(h_ X.env scope.names []).lookup x=some c:=fun x e=>lP _ _ x (.inl e)
  have ok':(aN X scope cp tgN C s₃ (bw H2 D (.lst [])) fp).Ok:=by
    refine⟨I.ok.mod,hk,I.ok.glob,I.ok.blt,by rw [←hC];exact Nat.le_refl _,fun x y c e1 e2=>I.ok.inj x y c (clS _ _ e1) (clS _ _ e2),fun x e=>clH x (dk hcell e),fun x c e1 e2=>?_,I.ok.hd,I.ok.frames,.inl rfl,fun b hb=>?_,fun b o e=>I3.bs b o e,?_,fun b o e hb=>?_,fun b hb z=>?_,I3.stack,fun b hb=>I3.stkFree b hb⟩
    · exfalso
      have e1':scope.names.lookup x=some .local:=by simpa [aN] using e1
      have e2':=clS x c e2
      obtain⟨c',hc'⟩:∃y∈scope.names,y.1=x∧y.2=.free:=by
        by_cases q:∃y∈scope.names,y.1=x∧y.2=.free
        · exact q
        · exfalso
          have:∀(names:List (Str × NameKind)) (cs:List (Str × Addr)),(¬∃y∈names,y.1=x∧y.2=.free)→cs.lookup x=none→(h_ X.env names cs).lookup x=none:=by
            intro names
            induction names with
            | nil=>intro cs _ h;exact h
            | cons y r ih=>
              intro cs hn hcs
              obtain⟨n,k⟩:=y
              refine ih _ (fun⟨y,hy,z⟩=>hn ⟨y,List.mem_cons_of_mem _ hy,z⟩) ?_
              by_cases hk:(k==NameKind.free)=true
              · rw [if_pos hk,List.lookup_cons]
                cases hx:x==n with
                | true=>exact absurd ⟨(n,k),List.mem_cons_self,(by simpa using hx:x=n).symm,by simpa using hk⟩ hn
                | false=>exact hcs
              · rw [if_neg hk];exact hcs
          have z:=this scope.names [] q rfl
          have e2'':(h_ X.env scope.names []).lookup x=some c:=e2
          rw [z] at e2'';cases e2''
      have z:=(hfr c' hc'.1 hc'.2.2).1
      rw [hc'.2.1,e1'] at z;cases z
    · obtain⟨f0,f1,f4,f5,f6,f7⟩:=f3 b hb
      obtain⟨o,ho,_⟩:=T.obj _ _ hst3 b hb
      exact⟨nC b o ho,fun x c e=>f6 x c (clS x c e)⟩
    · exact Nat.le_trans I.ok.bsz I3.sz
    · obtain⟨f0,f1,f4,f5,f6,f7⟩:=f3 b hb
      rcases f5 with z | z
      · exact I.ok.noex b o e z
      · have:=(I.ok.bs b o e).1
        exact absurd (Nat.lt_of_lt_of_le (Heap.lt_size this) z) (Nat.lt_irrefl _)
    · obtain⟨f0,f1,f4,f5,f6,f7⟩:=f3 b hb
      rcases List.mem_cons.mp (I3.stkSub b z) with z | z
      · exact f1 z
      · exact f4 z
  have I4:aB (aN X scope cp tgN C s₃ (bw H2 D (.lst [])) fp) [] (gA cp tgN.length σ) (bw H2 D (.lst [])) {s₃ with heap:=h₁,toks:=s₃.toks+([]:List (Str × Value)).length}:=by
    refine⟨ok',rfl,I3.bare,Un.kept old,⟨_,hns₁,fun i x v e1 e2 e3=>?_⟩,fun x c e=>?_,hHC,fun x c e=>I3.freeC x c (clS x c e),fun p hp=>by simp [aN] at hp,I3.hok.kept old,by simp [gA,aN]⟩
    · have hlt:i < cp.length:=by
        by_cases q:i < cp.length
        · exact q
        · exfalso
          unfold gA at e2
          rw [List.getElem?_append_right (by simp;lia)] at e2
          rw [List.getElem?_replicate] at e2
          split at e2<;>cases e2
      have e1':(cp.map (·.2))[i]?=some x:=by
        have e1'':(cp.map (·.2)++tgN)[i]?=some x:=e1
        rwa [List.getElem?_append_left (by simp;exact hlt)] at e1''
      have e2':(cp.map (fun p=>(σ[p.1]?).join))[i]?=some (some v):=by
        unfold gA at e2
        rwa [List.getElem?_append_left (by simp;exact hlt)] at e2
      rw [List.getElem?_map,List.getElem?_eq_getElem hlt] at e1' e2'
      have ex:(cp[i]).2=x:=by simpa using e1'
      have ev:(σ[(cp[i]).1]?).join=some v:=by simpa using e2'
      have ev':σ[(cp[i]).1]?=some (some v):=by
        cases q:σ[(cp[i]).1]? with
        | none=>rw [q] at ev;cases ev
        | some z=>rw [q] at ev;simp only [Option.join_some] at ev;rw [ev]
      have hN:=hcp cp[i] (List.getElem_mem hlt)
      rw [←hN0] at hN
      obtain⟨hcl,hcf⟩:=hcq cp[i] (List.getElem_mem hlt)
      rw [ex] at hN hcl hcf
      obtain⟨m,hn,hl⟩:=I3.loc
      obtain⟨u,r,l⟩:=hl _ x v hN ev' (.inr (.inl (by rw [hsc];exact hcl)))
      refine⟨u,r,.inr ?_⟩
      rcases l with ⟨k1,_⟩ | ⟨k1,c,hcc,o,ho,hd⟩
      · rw [hkind,hcl] at k1;cases k1
      · have e3':(relabel scope X.env).names.lookup x=some .local∨(relabel scope X.env).names.lookup x=some .cell∨(relabel scope X.env).names.lookup x=some .free:=e3
        have nl:(relabel scope X.env).names.lookup x=some .cell∨(relabel scope X.env).names.lookup x=some .free:=by
          rcases e3' with z | z | z
          · exact absurd z (dU hcf)
          · exact .inl z
          · exact .inr z
        obtain⟨c',hc'⟩:=clH x (dk hcell nl)
        have:=clS x c' hc'
        rw [hcc] at this;cases this
        exact⟨nl,c,hc',o,old c o ho,hd⟩
    · obtain⟨v,o,ho,hd⟩:=I3.cell x c (clS x c e)
      exact⟨v,o,old c o ho,hd⟩
  have hst4:tn 0 h₁:=T.keep _ _ _ hst3 fun b _ o e=>old b o e
  have loop:codeAny (model X.prog X.w) X.A (.compLoop (.ListComp elt [⟨tg,iter,ifs,0⟩] scope pos) 0 (.ref it) (.ref D) (compEnvC scope (h_ X.env scope.names []) C X.env))
      (compPost (model X.prog X.w) X.A X.xe none (EP X pins σ Q) (.ref D) C) {s₃ with heap:=h₁,toks:=s₃.toks+([]:List (Str × Value)).length}:=by
    refine jD (fun n s'=>∃i σ' H',aB (aN X scope cp tgN C s₃ (bw H2 D (.lst [])) fp) [] σ' H' s'∧tn i s'.heap∧(∀b∈fp,H' b=none)∧W i n σ' H') ?_ (n0:=m0) ⟨0,_,_,I4,hst4,fun b hb=>(f3 b hb).1,w0⟩
    rintro n s5 ⟨i,σ5,H5,I5,st5,fr5,w5⟩
    have stat:∀{H':Hp},(∀b∈fp,H' b=none)→∀b∈fp,jw (aN X scope cp tgN C s₃ (bw H2 D (.lst [])) fp) [] H' b:=fun hn b hb=>
      ⟨hn b hb,(ok'.exf b hb).1,ok'.exfs b hb,.inl hb,(ok'.exf b hb).2,fun p hp=>by simp [aN] at hp⟩
    rcases turn i n σ5 H5 w5 with ⟨stop,qn⟩ | ⟨go,N,hN,step⟩
    · refine cT (T.done (aN X scope cp tgN C s₃ (bw H2 D (.lst [])) fp) rfl rfl rfl hc i [] s5 σ5 H5 (fun _ _=>False) I5 (stat fr5) st5 stop) fun r s6 ⟨hr,I6⟩=>?_
      subst hr
      refine⟨fun _=>?_,fun v z=>by cases z⟩
      obtain⟨m,hn,_⟩:=I6.loc
      refine⟨m,hn,fun h' sb=>⟨.ref D,H5,?_,rfl,qn⟩⟩
      have ub:=I6.base
      have kp:∀b u,b≠C→s6.heap.get? b=some u→h'.get? b=some u:=fun b u ne e=>sb.extBut b u ne e
      have nit:∀b u,H5 b=some u→b≠C:=fun b u e z=>by
        have:=I6.free
        rw [z] at e
        rw [show H5 C=none from this] at e;cases e
      refine I3.call' (s':={s6 with heap:=h'}) (ch:=fp) I6.os ⟨fun b o e n hb hx=>kp b o (nC b o e) (ub.keep b o e n hb hx),fun b o e n hb hx=>?_,ub.free,fun b o e hx=>?_,ub.tups,ub.frzs,ub.tbls⟩ (fun b u e=>?_) I6.bare (fun b hb=>?_)
      · obtain⟨sl,q⟩:=ub.slot b o e n hb hx
        exact⟨sl,kp b _ (nC b o e) q⟩
      · obtain⟨o',q⟩:=ub.there b o e hx
        exact⟨o',kp b _ (nC b o e) q⟩
      · refine(I6.hok b u e).stay (fun c v hc q=>kp c v ?_ q) (fun _ q=>q) fun _ _ q=>q
        rcases hc with z | z
        · rw [z];exact nit b u e
        · exact nit c _ z
      · obtain⟨f0,f1,f4,f5,f6,f7⟩:=f3 b hb
        exact⟨f5,f1,f6,f7⟩
    · refine cT (T.item (aN X scope cp tgN C s₃ (bw H2 D (.lst [])) fp) rfl rfl rfl hc i [] s5 σ5 H5 (fun _ _=>False) I5 (stat fr5) st5 go) fun r s6 ⟨u,hr,h6⟩=>?_
      subst hr
      refine⟨fun z=>(by cases z),fun v z=>?_⟩
      cases z
      refine cT h6 fun _ s7 ⟨x,H7,I7,r7,y7,st7,fr7⟩=>?_
      have I7':=I7.pinned (stat fr7) (T.obj _ _ st7)
      have again:∀{σ8:L2.St} {H8:Hp} {s8:Shared},aB (aN X scope cp tgN C s₃ (bw H2 D (.lst [])) fp) ([]++kh fp s7.heap) σ8 H8 s8→N σ8 H8→∃m,m < n∧∃i σ' H',aB (aN X scope cp tgN C s₃ (bw H2 D (.lst [])) fp) [] σ' H' s8∧tn i s8.heap∧(∀b∈fp,H' b=none)∧W i m σ' H':=fun{σ8 H8 s8} I8 n8=>by
        obtain⟨m',hm,w8⟩:=hN σ8 H8 n8
        refine⟨m',hm,i+1,σ8,H8,I8.unpinned,T.keep _ _ _ st7 fun b hb o e=>(I8.pin (b,o) (List.mem_append_right _ (List.mem_append_right _ (dA hb e)))).1,fun b hb=>?_,w8⟩
        obtain⟨o,e,d⟩:=T.obj _ _ st7 b hb
        exact(I8.pin (b,o) (List.mem_append_right _ (List.mem_append_right _ (dA hb e)))).2.1
      refine cT (hg C s₃ (bw H2 D (.lst [])) fp _ s7 σ5 H7 x u _ I7' r7 (step x H7 y7)) fun _ s8 ⟨σ8,H8,I8,q8⟩=>?_
      refine cT (ht C s₃ (bw H2 D (.lst [])) fp _ s8 σ8 H8 _ I8 q8) fun ok s9 ⟨H9,I9,q9⟩=>?_
      cases ok with
      | false=>
        rw [if_neg Bool.false_ne_true] at q9 ⊢
        exact again I9 q9
      | true=>
        rw [if_pos rfl] at q9 ⊢
        refine cT (he C s₃ (bw H2 D (.lst [])) fp _ s9 σ8 H9 _ I9 q9) fun v s10 ⟨xv,H10,I10,r10,ys,hl,hz,n10⟩=>?_
        refine cT (kg _ s10 σ8 H10 (.ref D) [xv] (.ref D) [v] (fun _ H=>N σ8 H) I10 rfl (.cons r10 .nil) ⟨D,ys,xv,rfl,rfl,hl,hz,n10⟩) fun _ s11 ⟨_,H11,I11,_,q11⟩=>?_
        exact again I11 q11
  exact codeAny_compStart_list loop (T.self X.A 0 _ _ _ hst4 loop)
end L2
namespace L2
open PySem PySem.Spec PyProof.Rows
section
variable{X:Cx}
def wR(K:PySem.W.Frag):R2:=fun x y H Q=>∃a b xs ys,x=.ref a∧y=.ref b∧cP K H a xs∧cP K H b ys∧xs.length+ys.length≤sizeLine∧∀p H',aw H H'→cP K H' p (xs++ys)→Q (.ref p) H'
theorem yx:ii X (binaryOp .Add) (wR X.K):=by
  intro pins s σ H x y v u Q I rx ry h
  obtain⟨a,b,xs,ys,rfl,rfl,ha,hb,hz,q⟩:=h
  cases rx;cases ry
  by_cases hx:xs=[]
  · obtain⟨i1,r1,p1,_⟩:=I.tuple ha
    obtain⟨i2,r2,p2,_⟩:=I.tuple hb
    obtain⟨m,F⟩:=I.fr
    have e1:i1=[]:=by subst hx;cases r1;rfl
    refine add_tuples F (wd (g:=X.base)) p1 p2 (fun _=>?_) (fun z1 _=>absurd e1 z1) (fun z1 _ _ _ _=>absurd e1 z1) (by rw [←r1.length,←r2.length];exact hz)
    exact⟨.ref b,H,I,rfl,q b H (aw.refl H) (by rw [hx];exact hb)⟩
  · exact yy pins s σ H (.ref a) (.ref b) _ _ Q I rfl rfl ⟨a,b,xs,ys,rfl,rfl,ha,hb,hx,hz,fun z=>q a H (aw.refl H) (by rw [z,List.append_nil];exact ha),fun _ p hp=>q p _ (aw.new hp) (cP.of aL)⟩
theorem AZ{x:V}{us:List Value}(r:aM [x] us):∃u,us=[u]∧bz x u:=by
  cases r with
  | cons p p'=>cases p';exact⟨_,rfl,p⟩
end
end L2
namespace L2
open PySem PySem.Spec PyProof.Rows
section
variable{X:Cx}
end
theorem uB{e:Expr}{es:List Expr}{env:Env}(h:PySem.W.isStarred e=false):starEach (e::es) env=(false,eval e env)::starEach es env:=by
  cases e<;>first | rfl | cases h
theorem Bh{X:Cx}{e:Expr}{es:List Expr}{te:TE}{t:TA}(ha:PE X e te)(hr:PA X es t)(h:PySem.W.isStarred e=false:=by rfl):PA X (e::es) (mM te t):=yF ha hr (uB h)
def tF:List (Int × Int)→TA
  | []=>BW
  | p::r=>mM (BX (mM (tC (.int p.1)) (mM (tC (.int p.2)) BW))) (tF r)
@[irreducible] def EG(ps:List (Int × Int)):TA:=tF ps
structure fP where
  one:Int
  other:Int
  top:Int
  bot:Int
  worth:Int
structure aR where
  things:Int
  ties:List fP
  pat:List Int
  asks:Int
structure fP.Ok (n:Int) (t:fP):Prop where
  o0:0≤t.one
  o1:t.one < t.other
  o2:t.other < n
  c0:0≤t.top
  c1:t.top≤t.bot
  b0:1≤t.bot
  b1:t.bot≤100
  w0:0≤t.worth
  w1:t.worth≤1000
  cop:Int.gcd t.top t.bot=1
structure aR.Ok (w:aR):Prop where
  t0:0≤w.things
  t1:w.things≤12
  ties:∀t∈w.ties,t.Ok w.things
  len:w.ties.length≤16
  pl:(w.pat.length:Int)=w.things
  pat:∀p∈w.pat,0≤p∧p≤20
  a0:0≤w.asks
  a1:w.asks≤40
def Cr(K:PySem.W.Frag)(H:Hp)(v:V)(t:fP):Prop:=∃p q,v=.ref p∧cP K H p [.int t.one,.int t.other,.ref q,.int t.worth]∧cP K H q [.int t.top,.int t.bot]
inductive oq (K:PySem.W.Frag) (H:Hp):List V→List fP→Prop
  | nil:oq K H [] []
  | cons {v vs t ts}:Cr K H v t→oq K H vs ts→oq K H (v::vs) (t::ts)
structure EV (K:PySem.W.Frag) (H:Hp) (v:V) (w:aR):Prop where
  ex:∃a b c ts,v=.ref a∧cP K H a [.int w.things,.ref b,.ref c,.int w.asks]∧cP K H b ts∧oq K H ts w.ties∧cP K H c (w.pat.map V.int)
section
variable{K:PySem.W.Frag}{H H':Hp}
end
theorem rG{t b:Int}(hb:0 < b)(h0:0≤t)(h1:t≤b)(h2:b≤100):0≤(lowM t b).1∧(lowM t b).1≤(lowM t b).2∧1≤(lowM t b).2∧(lowM t b).2≤100:=by
  obtain⟨d,e1,e2,e3,e4,e5⟩:=eI (t:=t) (b:=b) (by lia)
  generalize (lowM t b).1=x at*
  generalize (lowM t b).2=y at*
  have dp:0 < d:=by
    rcases Int.lt_or_gt_of_ne e2 with z | z
    · exfalso
      have:y*d < 0:=Int.mul_neg_of_pos_of_neg e5 z
      lia
    · exact z
  have x0:0≤x:=by
    rcases Int.lt_or_le x 0 with z | z
    · have:x*d < 0:=Int.mul_neg_of_neg_of_pos z dp
      lia
    · exact z
  have xy:x≤y:=by
    rcases Int.lt_or_le y x with z | z
    · have:y*d < x*d:=Int.mul_lt_mul_of_pos_right z dp
      lia
    · exact z
  have yb:y≤y*d:=by
    have:=Int.mul_le_mul_of_nonneg_left (show(1:Int)≤d by lia) (show 0≤y by lia)
    lia
  exact⟨x0,xy,by lia,by lia⟩
end L2
namespace L2
open PySem PySem.Spec PyProof.Rows
inductive mQ {α β:Type} (R:α→β→Prop):List α→List β→Prop
  | nil:mQ R [] []
  | cons {a b as bs}:R a b→mQ R as bs→mQ R (a::as) (b::bs)
namespace mQ
variable{α β:Type}{R S:α→β→Prop}
theorem mono(h:∀a b,R a b→S a b):∀{as:List α} {bs:List β},mQ R as bs→mQ S as bs
  | _,_,.nil=>.nil
  | _,_,.cons x r=>.cons (h _ _ x) (mono h r)
theorem len:∀{as:List α} {bs:List β},mQ R as bs→as.length=bs.length
  | _,_,.nil=>rfl
  | _,_,.cons _ r=>by simp [len r]
theorem get:∀{as:List α} {bs:List β} {i:Nat} {b:β},mQ R as bs→bs[i]?=some b→∃a,as[i]?=some a∧R a b
  | _,_,_,_,.nil,e=>by simp at e
  | _,_,0,_,.cons x _,e=>by simp at e;subst e;exact⟨_,rfl,x⟩
  | _,_,i+1,b,.cons _ r,e=>by
    obtain⟨v,h1,h2⟩:=get (i:=i) (b:=b) r (by simpa using e)
    exact⟨v,by simpa using h1,h2⟩
end mQ
section
variable{K:PySem.W.Frag}{a l:Addr}{xs:List V}{g:TG}{tc:TT}{te:TE}{Q:VK}{σ:L2.St}{H:Hp}{α β:Type}{us:List α}{cp:List (Nat × Str)}{nT:Nat}
def DP(aZ:Hp→V→β→Prop)(SI:L2.St→Prop)(us:List α)(f:α→Option β)(H:Hp)(l:Addr)(i:Nat)(σ:L2.St)(H':Hp):Prop:=SI σ∧aw H H'∧∃vs,H' l=some (.lst vs)∧vs.length≤i∧mQ (aZ H') vs ((us.take i).filterMap f)
end
def qD(ns:List Int):List Int:=ns.mergeSort
theorem mJ(ns:List Int):(qD ns).Perm ns:=List.mergeSort_perm ns _
theorem Cm{ns:List Int}{x:Int}:x∈qD ns↔ x∈ns:=(mJ ns).mem_iff
theorem Ck(ns:List Int):(qD ns).length=ns.length:=(mJ ns).length_eq
section
variable{X:Cx}{K:PySem.W.Frag}{pos:Pos}
theorem yL{es:List Expr}{k:Nat}{t:xK}{n:Nat}(hK:X.K=K)(hc:X.calm=true)(h:uM X es t)(hn:(assignEach es X.env).length=n:=by rfl)(hst:(assignEach es X.env).findIdx? (·.1)=none:=by rfl):PG X (.Tuple es k pos) (CF K n t):=hK ▸ Bo hc h hn hst
theorem yO{tg l:Expr}{tl:TE}(h:X.K=K)(hl:PE X l tl):PI X tg l (CH K tl):=h ▸ Bp hl
theorem wB{tg l:Expr}{tl:TE}(h:X.K=K)(hl:PE X l tl):PI X tg l (zZ K tl):=h ▸ yN hl
end
instance:Inhabited fP:=⟨⟨0,1,1,1,0⟩⟩
def aR.tie(W:aR)(k:Int):fP:=W.ties.getD k.toNat default
def aR.has(W:aR)(k thing:Int):Bool:=(W.tie k).one==thing || (W.tie k).other==thing
def aR.many(W:aR)(asked:List Int)(thing:Int):Int:=((asked.filter fun k=>W.has k thing).length:Nat)
def aR.bears(W:aR)(asked taken:List Int)(thing:Int):Bool:= !taken.contains thing&&decide (W.many asked thing < W.pat.getD thing.toNat 0)
def aR.may(W:aR)(asked taken:List Int)(k:Int):Bool:= !(asked.contains k || decide (W.asks≤(asked.length:Int)))&&(W.bears asked taken (W.tie k).one&&W.bears asked taken (W.tie k).other)
def aR.askd(asked:List Int)(k:Int):List Int:=qD (asked++[k])
def aR.took(W:aR)(taken:List Int)(k:Int)(truth:Bool):List Int:=if truth then qD (taken++[(W.tie k).one,(W.tie k).other]) else taken
def aR.rng(W:aR):List Int:=(List.range W.ties.length).map Int.ofNat
def qW(W:aR)(k:Int):Prop:=0≤k∧k < (W.ties.length:Int)
theorem qW.get{W:aR}{k:Int}(h:qW W k):W.ties[k.toNat]?=some (W.tie k):=by
  have hk:k.toNat < W.ties.length:=by have:=h.1;have:=h.2;lia
  unfold aR.tie
  rw [List.getD_eq_getElem?_getD,List.getElem?_eq_getElem hk];rfl
theorem qW.ok{W:aR}{k:Int}(h:qW W k)(o:W.Ok):(W.tie k).Ok W.things:=o.ties _ (List.mem_of_getElem? h.get)
theorem D5{W:aR}{k:Int}:k∈W.rng↔ qW W k:=by
  unfold aR.rng qW
  rw [List.mem_map]
  constructor
  · rintro⟨n,hn,rfl⟩
    have:=List.mem_range.mp hn
    exact⟨Int.natCast_nonneg n,by simp;lia⟩
  · rintro⟨h0,h1⟩
    exact⟨k.toNat,List.mem_range.mpr (by lia),by simp;lia⟩
def Ap(K:PySem.W.Frag)(H:Hp)(v:V)(asked taken:List Int):Prop:=∃a b c,v=.ref a∧cP K H a [.ref b,.ref c]∧cP K H b (asked.map V.int)∧cP K H c (taken.map V.int)
theorem Ap.ts{K:PySem.W.Frag}{H H':Hp}(s:kL H H'){v:V}{asked taken:List Int}(h:Ap K H v asked taken):Ap K H' v asked taken:=by
  obtain⟨a,b,c,e,h1,h2,h3⟩:=h
  exact⟨a,b,c,e,s.tup h1,s.tup h2,s.tup h3⟩
section
variable{K:PySem.W.Frag}{σ:L2.St}{H:Hp}{Q:VK}{i j:Nat}{vW:V}{W:aR}{k:Int}
end
def small(k:Int):Prop:= -1000000≤k∧k≤1000000
def Dk(n dep:Nat)(d:PyData):Prop:=d.showable=true∧mq d=true∧L2.cnt d≤n∧d.depth≤dep
theorem Dk.mono{n m dep e:Nat}{d:PyData}(h:Dk n dep d)(h1:n≤m)(h2:dep≤e):Dk m e d:=⟨h.1,h.2.1,Nat.le_trans h.2.2.1 h1,Nat.le_trans h.2.2.2 h2⟩
theorem Dk.int{k:Int}(h:small k):Dk 1 2 (.int k):=by
  refine⟨?_,rfl,Nat.le_refl _,by simp [PyData.depth]⟩
  show decide (k.natAbs.log2 < 1920)=true
  rw [decide_eq_true_eq]
  exact Nat.lt_trans ((show Bt 64 k by have:=h.1;have:=h.2;unfold Bt;lia).log (by decide)) (by decide)
theorem Dk.bool(b:Bool):Dk 1 2 (.bool b):=⟨rfl,rfl,Nat.le_refl _,by simp [PyData.depth]⟩
theorem Dk.none:Dk 1 2 .none:=⟨rfl,rfl,Nat.le_refl _,by simp [PyData.depth]⟩
theorem Dk.all{n dep:Nat}:∀{ds:List PyData},(∀d∈ds,Dk n dep d)→PyData.showableAll ds=true∧gc ds=true∧jb ds≤ds.length*n∧PyData.depthAll ds≤dep
  | [],_=>⟨rfl,rfl,by simp [jb],by simp [PyData.depthAll]⟩
  | d::r,h=>by
    obtain⟨a1,a2,a3,a4⟩:=h d (by simp)
    obtain⟨b1,b2,b3,b4⟩:=Dk.all (ds:=r) fun x hx=>h x (by simp [hx])
    refine⟨?_,?_,?_,?_⟩
    · simp only [PyData.showableAll,a1,b1,Bool.and_self]
    · simp only [gc,a2,b2,Bool.and_self]
    · simp only [jb,List.length_cons,Nat.succ_mul]
      lia
    · simp only [PyData.depthAll];lia
theorem Dk.tup{n dep m:Nat}{ds:List PyData}(h:∀d∈ds,Dk n dep d)(hl:ds.length≤m):Dk (1+m*n) (dep+2) (.tuple ds):=by
  obtain⟨b1,b2,b3,b4⟩:=Dk.all h
  refine⟨b1,b2,?_,?_⟩
  · simp only [L2.cnt]
    have:=Nat.mul_le_mul_right n hl
    lia
  · simp only [PyData.depth];lia
theorem Dk.ok{n dep:Nat}{d:PyData}(h:Dk n dep d)(h1:n≤8000)(h2:dep≤60):d.showable=true∧d.depth≤60∧d.shown.length≤sizeLine:=by
  have:=nY h.2.1 h.1
  have sl:sizeLine=16777216:=sizeLine_eq
  have:=h.2.2.1
  exact⟨h.1,Nat.le_trans h.2.2.2 h2,by lia⟩
theorem Dk.ints{ns:List Int}{m:Nat}(hl:ns.length≤m)(h:∀r∈ns,small r):Dk (1+m) 4 (.tuple (ns.map .int)):=by
  have:=Dk.tup (n:=1) (dep:=2) (m:=m) (ds:=ns.map PyData.int) (fun d hd=>by
    obtain⟨x,hx,rfl⟩:=List.mem_map.mp hd
    exact Dk.int (h x hx)) (by rw [List.length_map];exact hl)
  simpa using this
section
variable{K:PySem.W.Frag}{H:Hp}
def aY(t:fP):PyData:=.tuple [.int t.one,.int t.other,.tuple [.int t.top,.int t.bot],.int t.worth]
def ar(W:aR):PyData:=.tuple [.int W.things,.tuple (W.ties.map aY),.tuple (W.pat.map .int),.int W.asks]
def Fu(asked taken:List Int):PyData:=.tuple [.tuple (asked.map .int),.tuple (taken.map .int)]
end
end L2
namespace L2
open PySem PySem.Spec PyProof.Rows
section
variable{X:Cx}
end
end L2
namespace L2
end L2
namespace L2
open PySem PySem.Spec PyProof.Rows
section
variable{prog:Program}{w:World}{A:Around}{E:Value→Shared→Prop}{s:Shared}
theorem xw{it t:Addr}{i:Nat}{ys}{x:Value}{Q:Value→Shared→Prop}(hi:s.heap.IsTupleIter it t i)(ht:s.heap.IsTuple t ys)(hx:ys[i]?=some x)
    (q:∀g,g.IsTupleIter it t (i+1)→Heap.SameBut it s.heap g→Q x {s with heap:=g}):wpAny (model prog w) A (Builtin.SmallTypes.nextOf (.ref it)) Q E s:=by
  obtain⟨o,ho,hc,hd⟩:=id hi;obtain⟨p,hp,_,n,hpd⟩:=ht;unfold Builtin.SmallTypes.nextOf
  refine wpAny_bind (wpAny_callSpecial?_slot (name:=Str.ofString "__next__") hi.typeIs F.slot_tuple_iterator_next (wpAny_call_entry F.slot_tuple_iterator_next hi.typeIs F.entry_tuple_iterator_next ?_ (F.args_tuple_iterator_next_1 _)))
  show wpAny _ _ (field (.ref it) 0 >>= _) _ _ s;refine wpAny_bind (wpAny_field ho hd (x:=.ref t) rfl ?_)
  show wpAny _ _ (if (Value.ref t==Value.none)=true then _ else _) _ _ s;rw [if_neg (show ¬((Value.ref t==Value.none)=true) from Bool.false_ne_true)]
  show wpAny _ _ (field (.ref it) 1 >>= _) _ _ s;refine wpAny_bind (wpAny_field ho hd (x:=.int i 0) rfl ?_)
  show wpAny _ _ (seqItems? (.ref t) >>= _) _ _ s;refine wpAny_bind (wpAny_seqItems hp hpd ?_)
  simp only [Int.toNat_natCast,hx];refine wpAny_bind (wpAny_setField ho hd (by simp) (wpAny_pure ⟨x,rfl,wpAny_pure (q _ ?_ (Heap.SameBut.update ..))⟩))
  refine⟨_,Heap.get?_update_self _ ho (Obj.isFreed_of_fields (Obj.data_mapFields hd _)),(Obj.cls_mapFields ..).trans hc,?_⟩;rw [Obj.data_mapFields hd];simp [rawInt]
theorem xu{it t:Addr}{i:Nat}{ys}{Q:Value→Shared→Prop}(hh:A.handled=none)(hi:s.heap.IsTupleIter it t i)(ht:s.heap.IsTuple t ys)(hx:ys[i]?=none)
    (q:∀g e,Heap.ExtBut it s.heap g→(∃o,g.get? e=some o∧o.cls=.type "StopIteration")→E (.ref e) {s with heap:=g}):wpAny (model prog w) A (Builtin.SmallTypes.nextOf (.ref it)) Q E s:=by
  obtain⟨o,ho,hc,hd⟩:=id hi;obtain⟨p,hp,_,n,hpd⟩:=ht;unfold Builtin.SmallTypes.nextOf
  refine wpAny_bind (wpAny_callSpecial?_slot (name:=Str.ofString "__next__") hi.typeIs F.slot_tuple_iterator_next (wpAny_call_entry F.slot_tuple_iterator_next hi.typeIs F.entry_tuple_iterator_next ?_ (F.args_tuple_iterator_next_1 _)))
  show wpAny _ _ (field (.ref it) 0 >>= _) _ _ s;refine wpAny_bind (wpAny_field ho hd (x:=.ref t) rfl ?_)
  show wpAny _ _ (if (Value.ref t==Value.none)=true then _ else _) _ _ s;rw [if_neg (show ¬((Value.ref t==Value.none)=true) from Bool.false_ne_true)]
  show wpAny _ _ (field (.ref it) 1 >>= _) _ _ s;refine wpAny_bind (wpAny_field ho hd (x:=.int i 0) rfl ?_)
  show wpAny _ _ (seqItems? (.ref t) >>= _) _ _ s;refine wpAny_bind (wpAny_seqItems hp hpd ?_)
  simp only [Int.toNat_natCast,hx];refine wpAny_bind (wpAny_rule (wpAny_bind (wpAny_setField ho hd (by simp) ?_)))
  show wpAny _ _ (newExc (.type "StopIteration") [] >>= _) _ _ _;refine wpAny_bind ?_;simp only [newExc,newTuple]
  refine wpAny_bind (wpAny_newObj_type ?_ (by size_fits));refine wpAny_bind (m:=firstArgMember _ _) (wpAny_of_eq (a:=Value.none) (by first | rfl | (simp only [firstArgMember];rfl)) ?_)
  refine wpAny_newObj_type ?_ (by size_fits);simp only [raiseNew];refine wpAny_bind (wpAny_handled ?_);first | rw [show A.in1.handled=none from hh] | rw [hh]
  refine wpAny_bind (wpAny_pure (wpAny_throw ?_));exact q _ _ (((Heap.SameBut.update ..).extBut.push _).push _) ⟨_,Heap.get?_push_size _ rfl,rfl⟩
end
structure Sc (prog:Program) (w:World) (it l:Addr) (St:Nat→Heap→Prop) (Sq:Heap→Array Value→Prop):Prop where
  stay:∀{k h h'},St k h→(∀o,h.get? it=some o→h'.get? it=some o)→St k h'
  live:∀{k h},St k h→∃o,h.get? it=some o∧∀v,o.data≠.cell v
  row:∀{h h' xs},Sq h xs→(∀o,h.get? l=some o→h'.get? l=some o)→Sq h' xs
  next:∀{A:Around} {s:Shared} {E:Value→Shared→Prop} {Q:Value→Shared→Prop} {k:Nat} {xs:Array Value} {x:Value},St k s.heap→Sq s.heap xs→xs[k]?=some x→(∀g,St (k+1) g→Heap.SameBut it s.heap g→Q x {s with heap:=g})→wpAny (model prog w) A (Builtin.SmallTypes.nextOf (.ref it)) Q E s
  last:∀{A:Around} {s:Shared} {E:Value→Shared→Prop} {Q:Value→Shared→Prop} {k:Nat} {xs:Array Value},A.handled=none→St k s.heap→Sq s.heap xs→xs[k]?=none→(∀g e,Heap.ExtBut it s.heap g→(∃o,g.get? e=some o∧o.cls=.type "StopIteration")→E (.ref e) {s with heap:=g})→wpAny (model prog w) A (Builtin.SmallTypes.nextOf (.ref it)) Q E s
theorem cg{prog:Program}{w:World}(it l:Addr):Sc prog w it l (fun k h=>h.IsTupleIter it l k) (fun h xs=>h.IsTuple l xs) where
  stay:=fun st k=>st.at fun o e=>k o e
  live:=fun st=>by
    obtain⟨o,e,c,d⟩:=st
    exact⟨o,e,fun v z=>by rw [d] at z;cases z⟩
  row:=fun q k=>by
    obtain⟨o,e,r⟩:=q
    exact⟨o,k o e,r⟩
  next:=fun st sq hx q=>xw st sq hx q
  last:=fun hh st sq hx q=>xu hh st sq hx q
structure jv (z TI TO i1 i2 l1 l2:Addr):Prop where
  a1:TO≠z
  a2:i1≠z
  a3:i2≠z
  a4:TO≠i1
  a5:TO≠i2
  a6:i1≠i2
  b1:l1≠z
  b2:l1≠TO
  b3:l1≠i1
  b4:l1≠i2
  c1:l2≠z
  c2:l2≠TO
  c3:l2≠i1
  c4:l2≠i2
section
variable{prog:Program}{w:World}{A:Around}{E:Value→Shared→Prop}{s:Shared}{z TI TO i1 i2 l1 l2:Addr}{k:Nat}{xs ys:Array Value}{a b:Value}{S1 S2:Nat→Heap→Prop}{R1 R2:Heap→Array Value→Prop}
theorem Ce{x y:Value}{Q:Value→Shared→Prop}(P1:Sc prog w i1 l1 S1 R1)(P2:Sc prog w i2 l2 S2 R2)(D:jv z TI TO i1 i2 l1 l2)(hz:IsZip s.heap z TI TO .none)(hI:IsPair s.heap TI (.ref i1) (.ref i2))(hO:IsPair s.heap TO a b)(u1:S1 k s.heap)(u2:S2 k s.heap)(r1:R1 s.heap xs)(r2:R2 s.heap ys)(hx:xs[k]?=some x)(hy:ys[k]?=some y)
    (q:∀g,IsZip g z TI TO (rawInt s.heap.objs.size)→IsPair g TO x y→S1 (k+1) g→S2 (k+1) g→IsPair g s.heap.objs.size x y→g.objs.size=s.heap.objs.size+1→(∀c o,c≠z→c≠TO→c≠i1→c≠i2→s.heap.get? c=some o→g.get? c=some o)→Q (.ref s.heap.objs.size) {s with heap:=g}):
    wpAny (model prog w) A (Builtin.«zip.__next__» ⟨[.ref z],[]⟩) (fun f s'=>∃v,f=.done (.ret v)∧Q v s') E s:=by
  show wpAny _ _ (field (.ref z) 2 >>= _) _ _ _;refine wpAny_bind (wpAny_field hz rfl (x:=.bool false) rfl ?_)
  show wpAny _ _ (field (.ref z) 3 >>= _) _ _ _;refine wpAny_bind (wpAny_field hz rfl (x:=.ref TI) rfl ?_);refine wpAny_bind (wpAny_seqItems hI rfl ?_)
  show wpAny _ _ (Builtin.SmallTypes.ownedTupleIsFree (.ref z) >>= _) _ _ _;refine wpAny_bind ?_;unfold Builtin.SmallTypes.ownedTupleIsFree
  refine wpAny_bind (wpAny_field hz rfl (x:=.none) rfl (wpAny_pure ?_));simp only [if_true];refine wpAny_bind (wpAny_rule ?_)
  refine wpAny_bind (wpAny_field hz rfl (x:=.ref TO) rfl ?_);refine wpAny_bind (wpAny_setField_rec hz (by simp) fun g1 z1 e1=>?_)
  replace z1:IsZip g1 z TI TO .ellipsis:=z1;refine wpAny_bind ?_;simp only [List.zipIdx_cons,List.zipIdx_nil,List.forIn_cons,List.forIn_nil]
  refine wpAny_bind (wpAny_bind (wpAny_onRaise ?_));show wpAny _ _ (Builtin.SmallTypes.nextOf (.ref i1) >>= _) _ _ _
  refine wpAny_bind (P1.next (P1.stay u1 fun o e=>e1.extBut _ _ D.a2 e) (P1.row r1 fun o e=>e1.extBut _ _ D.b1 e) hx fun g2 v1 e2=>wpAny_pure ?_)
  have O2:IsPair g2 TO a b:=e2.extBut _ _ D.a4 (e1.extBut _ _ D.a1 hO)
  refine wpAny_bind (wpAny_seqItems O2 rfl ?_);refine wpAny_bind (wpAny_updateSeq_pair O2 fun g3 O3 e3=>?_);replace O3:IsPair g3 TO x b:=O3;refine wpAny_bind (wpAny_letGo (wpAny_pure ?_))
  refine wpAny_bind (wpAny_bind (wpAny_onRaise ?_));show wpAny _ _ (Builtin.SmallTypes.nextOf (.ref i2) >>= _) _ _ _
  have up3:∀c o,c≠z→c≠i1→c≠TO→s.heap.get? c=some o→g3.get? c=some o:=fun c o n1 n2 n3 e=>e3.extBut _ _ n3 (e2.extBut _ _ n2 (e1.extBut _ _ n1 e))
  refine wpAny_bind (P2.next (P2.stay u2 fun o e=>up3 _ _ D.a3 D.a6.symm D.a5.symm e) (P2.row r2 fun o e=>up3 _ _ D.c1 D.c3 D.c2 e) hy fun g4 v2 e4=>wpAny_pure ?_)
  have O4:IsPair g4 TO x b:=e4.extBut _ _ D.a5 O3
  refine wpAny_bind (wpAny_seqItems O4 rfl ?_);refine wpAny_bind (wpAny_updateSeq_pair O4 fun g5 O5 e5=>?_);replace O5:IsPair g5 TO x y:=O5;refine wpAny_bind (wpAny_letGo (wpAny_pure (wpAny_pure ?_)))
  refine wpAny_bind (wpAny_seqItems O5 rfl ?_);refine wpAny_bind (wpAny_newTuple ?_)
  have sz:g5.objs.size=s.heap.objs.size:=by rw [e5.1,e4.1,e3.1,e2.1,e1.1]
  have z5:IsZip g5 z TI TO .ellipsis:=e5.extBut _ _ D.a1.symm (e4.extBut _ _ D.a3.symm (e3.extBut _ _ D.a1.symm (e2.extBut _ _ D.a2.symm z1)))
  have k5:∀c o,c≠z→c≠TO→c≠i1→c≠i2→s.heap.get? c=some o→g5.get? c=some o:=fun c o n1 n2 n3 n4 e=>e5.extBut _ _ n2 (e4.extBut _ _ n4 (up3 c o n1 n3 n2 e))
  have w1:S1 (k+1) g5:=P1.stay v1 fun o e=>e5.extBut _ _ D.a4.symm (e4.extBut _ _ D.a6 (e3.extBut _ _ D.a4.symm e))
  have w2:S2 (k+1) g5:=P2.stay v2 fun o e=>e5.extBut _ _ D.a5.symm e
  have lz:z < g5.objs.size:=Heap.lt_size z5
  show wpAny _ _ (Builtin.SmallTypes.ownedTupleHandOut (.ref z) (.ref g5.objs.size) >>= _) _ _ _;refine wpAny_bind ?_;unfold Builtin.SmallTypes.ownedTupleHandOut
  have z6:IsZip (g5.push {cls:=.type "tuple",data:=.seq #[x,y]}) z TI TO .ellipsis:=Heap.get?_push_of_some _ z5
  refine wpAny_bind (wpAny_setField_rec z6 (by simp) fun g7 z7 e7=>?_);replace z7:IsZip g7 z TI TO (rawInt g5.objs.size):=z7
  refine wpAny_setField_rec z7 (by simp) fun g8 z8 e8=>?_;replace z8:IsZip g8 z TI TO (rawInt g5.objs.size):=z8
  have up:∀c o,c≠z→g5.get? c=some o→g8.get? c=some o:=fun c o n e=>e8.extBut _ _ n (e7.extBut _ _ n (Heap.get?_push_of_some _ e))
  have T8:IsPair g8 g5.objs.size x y:=e8.extBut _ _ (Nat.ne_of_gt lz) (e7.extBut _ _ (Nat.ne_of_gt lz) (Heap.get?_push_size _ rfl))
  have n8:g8.objs.size=g5.objs.size+1:=by rw [e8.1,e7.1,Heap.size_push]
  rw [sz] at z8 T8 n8;refine wpAny_pure ⟨_,rfl,?_⟩;show Q (.ref g5.objs.size) _;rw [sz]
  exact q g8 z8 (up _ _ D.a1 O5) (P1.stay w1 fun o e=>up _ o D.a2 e) (P2.stay w2 fun o e=>up _ o D.a3 e) T8 n8 fun c o n1 n2 n3 n4 e=>up c o n1 (k5 c o n1 n2 n3 n4 e)
theorem zH{Q:Fin→Shared→Prop}(hh:A.handled=none)(P1:Sc prog w i1 l1 S1 R1)(P2:Sc prog w i2 l2 S2 R2)(D:jv z TI TO i1 i2 l1 l2)(hz:IsZip s.heap z TI TO .none)(hI:IsPair s.heap TI (.ref i1) (.ref i2))(hO:IsPair s.heap TO a b)(u1:S1 k s.heap)(u2:S2 k s.heap)(r1:R1 s.heap xs)(r2:R2 s.heap ys)(hn:xs[k]?=none∨ys[k]?=none)
    (q:∀g e,(∀c o,c≠z→c≠TO→c≠i1→c≠i2→s.heap.get? c=some o→g.get? c=some o)→(∃o,g.get? e=some o∧o.cls=.type "StopIteration")→E (.ref e) {s with heap:=g}):
    wpAny (model prog w) A (Builtin.«zip.__next__» ⟨[.ref z],[]⟩) Q E s:=by
  show wpAny _ _ (field (.ref z) 2 >>= _) _ _ _;refine wpAny_bind (wpAny_field hz rfl (x:=.bool false) rfl ?_)
  show wpAny _ _ (field (.ref z) 3 >>= _) _ _ _;refine wpAny_bind (wpAny_field hz rfl (x:=.ref TI) rfl ?_);refine wpAny_bind (wpAny_seqItems hI rfl ?_)
  show wpAny _ _ (Builtin.SmallTypes.ownedTupleIsFree (.ref z) >>= _) _ _ _;refine wpAny_bind ?_;unfold Builtin.SmallTypes.ownedTupleIsFree
  refine wpAny_bind (wpAny_field hz rfl (x:=.none) rfl (wpAny_pure ?_));simp only [if_true];refine wpAny_bind (wpAny_rule ?_)
  refine wpAny_bind (wpAny_field hz rfl (x:=.ref TO) rfl ?_);refine wpAny_bind (wpAny_setField_rec hz (by simp) fun g1 z1 e1=>?_)
  replace z1:IsZip g1 z TI TO .ellipsis:=z1;refine wpAny_bind ?_;simp only [List.zipIdx_cons,List.zipIdx_nil,List.forIn_cons,List.forIn_nil]
  refine wpAny_bind (wpAny_bind (wpAny_onRaise ?_));show wpAny _ _ (Builtin.SmallTypes.nextOf (.ref i1) >>= _) _ _ _
  cases hx:xs[k]? with
  | none=>
    refine wpAny_bind (P1.last hh (P1.stay u1 fun o e=>e1.extBut _ _ D.a2 e) (P1.row r1 fun o e=>e1.extBut _ _ D.b1 e) hx fun g2 e e2 he=>?_)
    obtain⟨oe,h1,h2⟩:=he;have z2:IsZip g2 z TI TO .ellipsis:=e2 _ _ D.a2.symm z1
    have nz:e≠z:=fun x=>by subst x;rw [z2] at h1;cases h1;simp at h2
    refine wpAny_setField_rec z2 (by simp) fun g3 _ e3=>q g3 e (fun c o n1 _ n3 _ x=>e3.extBut _ _ n1 (e2 _ _ n3 (e1.extBut _ _ n1 x))) ⟨oe,e3.extBut _ _ nz h1,h2⟩
  | some x=>
    have hy:ys[k]?=none:=by
      rcases hn with h | h
      · rw [hx] at h;cases h
      · exact h
    refine wpAny_bind (P1.next (P1.stay u1 fun o e=>e1.extBut _ _ D.a2 e) (P1.row r1 fun o e=>e1.extBut _ _ D.b1 e) hx fun g2 v1 e2=>wpAny_pure ?_)
    have O2:IsPair g2 TO a b:=e2.extBut _ _ D.a4 (e1.extBut _ _ D.a1 hO)
    refine wpAny_bind (wpAny_seqItems O2 rfl ?_);refine wpAny_bind (wpAny_updateSeq_pair O2 fun g3 O3 e3=>?_);refine wpAny_bind (wpAny_letGo (wpAny_pure ?_))
    refine wpAny_bind (wpAny_bind (wpAny_onRaise ?_));show wpAny _ _ (Builtin.SmallTypes.nextOf (.ref i2) >>= _) _ _ _
    have up3:∀c o,c≠z→c≠i1→c≠TO→s.heap.get? c=some o→g3.get? c=some o:=fun c o n1 n2 n3 e=>e3.extBut _ _ n3 (e2.extBut _ _ n2 (e1.extBut _ _ n1 e))
    refine wpAny_bind (P2.last hh (P2.stay u2 fun o e=>up3 _ _ D.a3 D.a6.symm D.a5.symm e) (P2.row r2 fun o e=>up3 _ _ D.c1 D.c3 D.c2 e) hy fun g4 e e4 he=>?_)
    obtain⟨oe,h1,h2⟩:=he;have z4:IsZip g4 z TI TO .ellipsis:=e4 _ _ D.a3.symm (e3.extBut _ _ D.a1.symm (e2.extBut _ _ D.a2.symm z1))
    have nz:e≠z:=fun x=>by subst x;rw [z4] at h1;cases h1;simp at h2
    refine wpAny_setField_rec z4 (by simp) fun g5 _ e5=>q g5 e (fun c o n1 n2 n3 n4 x=>e5.extBut _ _ n1 (e4 _ _ n4 (up3 c o n1 n3 n2 x))) ⟨oe,e5.extBut _ _ nz h1,h2⟩
theorem qU{x y:Value}{Q:Option Value→Shared→Prop}(P1:Sc prog w i1 l1 S1 R1)(P2:Sc prog w i2 l2 S2 R2)(D:jv z TI TO i1 i2 l1 l2)(hz:IsZip s.heap z TI TO .none)(hI:IsPair s.heap TI (.ref i1) (.ref i2))(hO:IsPair s.heap TO a b)(u1:S1 k s.heap)(u2:S2 k s.heap)(r1:R1 s.heap xs)(r2:R2 s.heap ys)(hx:xs[k]?=some x)(hy:ys[k]?=some y)
    (q:∀g,IsZip g z TI TO (rawInt s.heap.objs.size)→IsPair g TO x y→S1 (k+1) g→S2 (k+1) g→IsPair g s.heap.objs.size x y→g.objs.size=s.heap.objs.size+1→(∀c o,c≠z→c≠TO→c≠i1→c≠i2→s.heap.get? c=some o→g.get? c=some o)→Q (some (.ref s.heap.objs.size)) {s with heap:=g}):
    wpAny (model prog w) A (pyNext (.ref z)) Q E s:=by
  have hT:s.TypeIs (.ref z) "zip":=⟨_,hz,rfl⟩;unfold pyNext
  refine wpAny_bind (wpAny_attempt (wpAny_callSpecial?_slot (name:=Str.ofString "__next__") hT F.slot_zip_next (wpAny_call_entry F.slot_zip_next hT F.entry_zip_next ?_ (F.args_zip_next_1 _))))
  exact Ce P1 P2 D hz hI hO u1 u2 r1 r2 hx hy fun g b1 b2 b3 b4 b5 b6 b7=>wpAny_pure (q g b1 b2 b3 b4 b5 b6 b7)
theorem qV{Q:Option Value→Shared→Prop}(hh:A.handled=none)(P1:Sc prog w i1 l1 S1 R1)(P2:Sc prog w i2 l2 S2 R2)(D:jv z TI TO i1 i2 l1 l2)(hz:IsZip s.heap z TI TO .none)(hI:IsPair s.heap TI (.ref i1) (.ref i2))(hO:IsPair s.heap TO a b)(u1:S1 k s.heap)(u2:S2 k s.heap)(r1:R1 s.heap xs)(r2:R2 s.heap ys)(hn:xs[k]?=none∨ys[k]?=none)
    (q:∀g,(∀c o,c≠z→c≠TO→c≠i1→c≠i2→s.heap.get? c=some o→g.get? c=some o)→Q none {s with heap:=g}):wpAny (model prog w) A (pyNext (.ref z)) Q E s:=by
  have hT:s.TypeIs (.ref z) "zip":=⟨_,hz,rfl⟩;unfold pyNext
  refine wpAny_bind (wpAny_attempt (wpAny_callSpecial?_slot (name:=Str.ofString "__next__") hT F.slot_zip_next (wpAny_call_entry F.slot_zip_next hT F.entry_zip_next (zH hh P1 P2 D hz hI hO u1 u2 r1 r2 hn fun g e hk he=>?_) (F.args_zip_next_1 _))))
  obtain⟨o,ho,hc⟩:=he;refine wpAny_bind (wpAny_isInstance (T:="StopIteration") (b:=true) ⟨o,ho,hc⟩ isSubtype_stop ?_);exact wpAny_pure (q _ hk)
end
end L2
namespace L2
open PySem PySem.Spec PyProof.Rows
section
variable{X:Cx}{pins:List (Addr × Obj)}{σ:L2.St}{H:Hp}{s:Shared}{h':Heap}
theorem aB.turnedL{t':Nat}{fp:List Addr}(I:aB X pins σ H s)(hf:∀b∈fp,jw X pins H b)(k:∀b o,b∉fp→s.heap.get? b=some o→h'.get? b=some o):aB X pins σ H {s with heap:=h',toks:=t'}:=by
  have hL:X.env.locals∉fp:=fun z=>(hf _ z).2.1 rfl
  have nit:∀b u,H b=some u→b∉fp:=fun b u e z=>by have:=(hf b z).1;rw [this] at e;cases e
  refine I.step (g':=s.gens) (d':=s.drawn) (ch:=fp) (fun b hb=>?_) (fun b o _ _ hc e _=>k b o hc e) (fun b o _ _ hc e _=>⟨o.slots,k b o hc e⟩) (fun _ _ _ _ n=>n) (fun b o hc e=>⟨o,k b o hc e⟩) (fun _ _ e=>e) (fun _ _ _ e=>e) (fun b ps e=>⟨#[],by rw [e];simp⟩) (fun m hm=>?_) (fun b u e=>?_) I.bare
  · obtain⟨f0,f1,f2,f3,f4,f5⟩:=hf b hb
    exact⟨f3,f1,f4,f5⟩
  · obtain⟨o,es,ep,ho,r⟩:=hm
    exact⟨o,es,ep,k _ o hL ho,r⟩
  · refine(I.hok b u e).stay (fun c v hc q=>k c v ?_ q) (fun _ q=>q) fun _ _ q=>q
    rcases hc with z | z
    · rw [z];exact nit b u e
    · exact nit c _ z
theorem bi(I:aB X pins σ H s){b l:Addr}{xs:List V}(f:jw X pins H b)(q:cP X.K H l xs):l≠b:=by
  intro z
  subst z
  rcases q with (q | ⟨o,q⟩) | ⟨o,its,n,hk,_⟩
  · rw [f.1] at q;cases q
  · rw [f.1] at q;cases q
  · have hb:X.base.get? l=some o:=I.ok.mod.kin l o hk
    rcases f.2.2.2.1 with z | z
    · exact I.ok.noex l o hb z
    · exact absurd (Nat.lt_of_lt_of_le (Heap.lt_size (I.ok.bs l o hb).1) z) (Nat.lt_irrefl _)
end
def EN(K:PySem.W.Frag)(l1 l2:Addr):It:=
  ⟨fun i H=>∃xs ys x y,cP K H l1 xs∧cP K H l2 ys∧xs[i]?=some x∧ys[i]?=some y,
   fun i H v H'=>∃p x y,v=.ref p∧H p=none∧H'=bw H p (.tup [x,y])∧∀xs ys,cP K H l1 xs→cP K H l2 ys→xs[i]?=some x∧ys[i]?=some y,
   fun i H=>∃xs ys,cP K H l1 xs∧cP K H l2 ys∧(xs.length≤i∨ys.length≤i)⟩
def Al(z TI TO i1 i2 l1 l2:Addr)(i:Nat)(h:Heap):Prop:=IsZip h z TI TO .none∧IsPair h TI (.ref i1) (.ref i2)∧(∃a b,IsPair h TO a b)∧h.IsTupleIter i1 l1 i∧h.IsTupleIter i2 l2 i
theorem xx{P:Program}{w:World}{K:PySem.W.Frag}{es:List Expr}{k0:Nat}{pos:Pos}{z TI TO i1 i2:Addr}(l1 l2:Addr)(n1:TO≠z)(n2:i1≠z)(n3:i2≠z)(n4:TO≠i1)(n5:TO≠i2)(n6:i1≠i2)(n7:TI≠z)(n8:TI≠TO)(n9:TI≠i1)(n10:TI≠i2):
    uT P w K (.Tuple es k0 pos) (EN K l1 l2) [z,TI,TO,i1,i2] z (Al z TI TO i1 i2 l1 l2) where
  mem:=by simp
  obj:=fun i h st b hb=>by
    obtain⟨hz,hI,⟨a,c,hO⟩,u1,u2⟩:=st
    simp only [List.mem_cons,List.not_mem_nil,or_false] at hb
    rcases hb with rfl | rfl | rfl | rfl | rfl
    · exact⟨_,hz,fun v z=>by cases z⟩
    · exact⟨_,hI,fun v z=>by cases z⟩
    · exact⟨_,hO,fun v z=>by cases z⟩
    · obtain⟨o,e,c,d⟩:=u1
      exact⟨o,e,fun v z=>by rw [d] at z;cases z⟩
    · obtain⟨o,e,c,d⟩:=u2
      exact⟨o,e,fun v z=>by rw [d] at z;cases z⟩
  keep:=fun i h h' st k=>by
    obtain⟨hz,hI,⟨a,c,hO⟩,u1,u2⟩:=st
    exact⟨k _ (by simp) _ hz,k _ (by simp) _ hI,⟨a,c,k _ (by simp) _ hO⟩,u1.at fun o e=>k _ (by simp) o e,u2.at fun o e=>k _ (by simp) o e⟩
  item:=by
    intro X hP hw hK hc i pins s σ H E I hf st hg
    subst hP hw hK
    obtain⟨xs,ys,x,y,q1,q2,hx,hy⟩:=hg
    obtain⟨hz,hI,⟨a,b,hO⟩,u1,u2⟩:=id st
    obtain⟨its1,rv1,p1,z1⟩:=I.tuple q1
    obtain⟨its2,rv2,p2,z2⟩:=I.tuple q2
    obtain⟨ux,hux,rux⟩:=rv1.get hx
    obtain⟨uy,huy,ruy⟩:=rv2.get hy
    have fz:=hf z (by simp);have fO:=hf TO (by simp);have f1:=hf i1 (by simp);have f2:=hf i2 (by simp)
    have D:jv z TI TO i1 i2 l1 l2:=⟨n1,n2,n3,n4,n5,n6,bi I fz q1,bi I fO q1,bi I f1 q1,bi I f2 q1,bi I fz q2,bi I fO q2,bi I f1 q2,bi I f2 q2⟩
    refine qU (xs:=its1.toArray) (ys:=its2.toArray) (cg i1 l1) (cg i2 l2) D hz hI hO u1 u2 p1 p2 (by simpa using hux) (by simpa using huy) fun g gz gO g1 g2 gT gs gk=>?_
    refine⟨_,rfl,wpAny_letOwnedTupleGo_zip gz fun g' gz' ge=>?_⟩
    have lt:∀b∈[z,TI,TO,i1,i2],b < s.heap.objs.size:=fun b hb=>by
      simp only [List.mem_cons,List.not_mem_nil,or_false] at hb
      rcases hb with rfl | rfl | rfl | rfl | rfl
      · exact Heap.lt_size hz
      · exact Heap.lt_size hI
      · exact Heap.lt_size hO
      · obtain⟨o,e,_⟩:=u1;exact Heap.lt_size e
      · obtain⟨o,e,_⟩:=u2;exact Heap.lt_size e
    have hT:H s.heap.objs.size=none:=I.hok.fresh (Nat.le_refl _)
    have vv:aM [x,y] [ux,uy]:=.cons rux (.cons ruy .nil)
    have I1:aB X pins σ (bw H s.heap.objs.size (.tup [x,y])) {s with heap:=s.heap.push {cls:=.type "tuple",data:=.seq #[ux,uy]},toks:=s.toks}:=
      I.laid (t':=s.toks) (fun b u e=>Heap.get?_push_of_some _ e) (Nat.le_refl _) ⟨(by show 2≤sizeLine;decide),[ux,uy],vv,mR.new _ _⟩
    have hf1:∀b∈[z,TI,TO,i1,i2],jw X pins (bw H s.heap.objs.size (.tup [x,y])) b:=fun b hb=>by
      obtain⟨f0,fr⟩:=hf b hb
      exact⟨by rw [aQ (Nat.ne_of_lt (lt b hb))];exact f0,fr⟩
    have nzT:s.heap.objs.size≠z:=Nat.ne_of_gt (lt z (by simp))
    have I2:aB X pins σ (bw H s.heap.objs.size (.tup [x,y])) {s with heap:=g',toks:=s.toks}:=by
      refine I1.turnedL (t':=s.toks) hf1 fun b o nb e=>?_
      have nb':b≠z∧b≠TI∧b≠TO∧b≠i1∧b≠i2:=by simpa using nb
      refine ge.extBut _ _ nb'.1 ?_
      rcases Heap.get?_push_cases e with ⟨rfl,rfl⟩ | e
      · exact gT
      · exact gk b o nb'.1 nb'.2.2.1 nb'.2.2.2.1 nb'.2.2.2.2 e
    refine⟨.ref s.heap.objs.size,_,I2,rfl,⟨_,x,y,rfl,hT,rfl,fun xs' ys' w1 w2=>?_⟩,⟨gz',ge.extBut _ _ n7 (gk _ _ n7 n8 n9 n10 hI),⟨ux,uy,ge.extBut _ _ n1 gO⟩,g1.at fun o e=>ge.extBut _ _ n2 e,g2.at fun o e=>ge.extBut _ _ n3 e⟩,fun b hb=>(hf1 b hb).1⟩
    rw [I.tuple_inj w1 q1,I.tuple_inj w2 q2]
    exact⟨hx,hy⟩
  done:=by
    intro X hP hw hK hc i pins s σ H E I hf st hg
    subst hP hw hK
    obtain⟨xs,ys,q1,q2,hn⟩:=hg
    obtain⟨hz,hI,⟨a,b,hO⟩,u1,u2⟩:=id st
    obtain⟨its1,rv1,p1,z1⟩:=I.tuple q1
    obtain⟨its2,rv2,p2,z2⟩:=I.tuple q2
    have fz:=hf z (by simp);have fO:=hf TO (by simp);have f1:=hf i1 (by simp);have f2:=hf i2 (by simp)
    have D:jv z TI TO i1 i2 l1 l2:=⟨n1,n2,n3,n4,n5,n6,bi I fz q1,bi I fO q1,bi I f1 q1,bi I f2 q1,bi I fz q2,bi I fO q2,bi I f1 q2,bi I f2 q2⟩
    have e1:=rv1.length
    have e2:=rv2.length
    refine qV (xs:=its1.toArray) (ys:=its2.toArray) (I.ok.hd hc) (cg i1 l1) (cg i2 l2) D hz hI hO u1 u2 p1 p2 ?_ fun g gk=>⟨rfl,I.turnedL (t':=s.toks) hf fun b o nb e=>?_⟩
    · rcases hn with hn | hn
      · exact .inl (by simp;lia)
      · exact .inr (by simp;lia)
    · have nb':b≠z∧b≠TI∧b≠TO∧b≠i1∧b≠i2:=by simpa using nb
      exact gk b o nb'.1 nb'.2.2.1 nb'.2.2.2.1 nb'.2.2.2.2 e
  self:=fun A i s Q E st h=>wpAny_pyIter_zip st.1 h
theorem zJ(l1 l2:Addr)(xs ys:Array Value):
    Meets (Builtin.«zip.__new__» ⟨[.type "zip",.ref l1,.ref l2],[]⟩) (fun _ R s=>s.heap.IsTuple l1 xs∧s.heap.IsTuple l2 ys∧
      R (.ok (.ret (.ref (s.heap.objs.size+4)))) {s with heap:=((((s.heap.push {cls:=.type "tuple_iterator",data:=.fields #[.ref l1,.int 0 0]}).push {cls:=.type "tuple_iterator",data:=.fields #[.ref l2,.int 0 0]}).push {cls:=.type "tuple",data:=.seq #[.ref s.heap.objs.size,.ref (s.heap.objs.size+1)]}).push {cls:=.type "tuple",data:=.seq #[.none,.none]}).push {cls:=.type "zip",data:=.fields #[.none,.bool false,.bool false,.ref (s.heap.objs.size+2),.ref (s.heap.objs.size+3)]}}):=
  .of_wp fun prog w A R s h=>by
    obtain⟨hp,g,d,tk,os⟩:=s;obtain⟨t1,t2,h⟩:=h;have sz:=PySem.sub_zip
    have T1:Heap.IsTuple (Shared.heap ⟨hp,g,d,tk,os⟩) l1 xs:=t1
    have T2:Heap.IsTuple (Shared.heap ⟨hp.push {cls:=.type "tuple_iterator",data:=.fields #[.ref l1,.int 0 0]},g,d,tk,os⟩) l2 ys:=Heap.IsTuple.push t2 _
    wp_walk using wpAny_pyIter_tuple T1,wpAny_pyIter_tuple T2
    refine⟨_,rfl,?_⟩
    simp only [Heap.size_push]
    exact h
section
variable{prog:Program}{w:World}{A:Around}{E:Value→Shared→Prop}{s:Shared}
theorem qS{l1 l2:Addr}{xs ys:Array Value}{Q:Value→Shared→Prop}(t1:s.heap.IsTuple l1 xs)(t2:s.heap.IsTuple l2 ys)
    (h:∀g,Al (s.heap.objs.size+4) (s.heap.objs.size+2) (s.heap.objs.size+3) s.heap.objs.size (s.heap.objs.size+1) l1 l2 0 g→(∀c o,s.heap.get? c=some o→g.get? c=some o)→Q (.ref (s.heap.objs.size+4)) {s with heap:=g}):
    wpAny (model prog w) A (call (.type "zip") [.ref l1,.ref l2]) Q E s:=by
  refine callType_new F.called_zip (by decide) (F.typeCall_zip_2 _ _) (F.newCall_zip_2 _ _) (fun obj=>F.args_object_init_3 obj _ _) F.entry_zip_new (zJ l1 l2 xs ys) ⟨t1,t2,?_⟩
  have at5:∀(g:Heap) (o:Obj) (a:Addr),o.isFreed=false→a=g.objs.size→(g.push o).get? a=some o:=fun g o a hf e=>by rw [e];exact Heap.get?_push_size _ hf
  have g5:=at5 ((((s.heap.push {cls:=.type "tuple_iterator",data:=.fields #[.ref l1,.int 0 0]}).push {cls:=.type "tuple_iterator",data:=.fields #[.ref l2,.int 0 0]}).push {cls:=.type "tuple",data:=.seq #[.ref s.heap.objs.size,.ref (s.heap.objs.size+1)]}).push {cls:=.type "tuple",data:=.seq #[.none,.none]}) {cls:=.type "zip",data:=.fields #[.none,.bool false,.bool false,.ref (s.heap.objs.size+2),.ref (s.heap.objs.size+3)]} (s.heap.objs.size+4) rfl (by simp only [Heap.size_push])
  have g4:=at5 (((s.heap.push {cls:=.type "tuple_iterator",data:=.fields #[.ref l1,.int 0 0]}).push {cls:=.type "tuple_iterator",data:=.fields #[.ref l2,.int 0 0]}).push {cls:=.type "tuple",data:=.seq #[.ref s.heap.objs.size,.ref (s.heap.objs.size+1)]}) {cls:=.type "tuple",data:=.seq #[.none,.none]} (s.heap.objs.size+3) rfl (by simp only [Heap.size_push])
  have g3:=at5 ((s.heap.push {cls:=.type "tuple_iterator",data:=.fields #[.ref l1,.int 0 0]}).push {cls:=.type "tuple_iterator",data:=.fields #[.ref l2,.int 0 0]}) {cls:=.type "tuple",data:=.seq #[.ref s.heap.objs.size,.ref (s.heap.objs.size+1)]} (s.heap.objs.size+2) rfl (by simp only [Heap.size_push])
  have g2:=at5 (s.heap.push {cls:=.type "tuple_iterator",data:=.fields #[.ref l1,.int 0 0]}) {cls:=.type "tuple_iterator",data:=.fields #[.ref l2,.int 0 0]} (s.heap.objs.size+1) rfl (by simp only [Heap.size_push])
  have g1:=at5 s.heap {cls:=.type "tuple_iterator",data:=.fields #[.ref l1,.int 0 0]} s.heap.objs.size rfl rfl
  have up:∀{g:Heap} {a:Addr} {u:Obj} (o:Obj),g.get? a=some u→(g.push o).get? a=some u:=fun o e=>Heap.get?_push_of_some o e
  refine⟨⟨_,g5,rfl⟩,h _ ⟨g5,up _ (up _ g3),⟨_,_,up _ g4⟩,⟨_,up _ (up _ (up _ (up _ g1))),rfl,rfl⟩,⟨_,up _ (up _ (up _ g2)),rfl,rfl⟩⟩ fun c o x=>up _ (up _ (up _ (up _ (up _ x))))⟩
end
theorem pR:PySem.bootBuiltins "zip"=some (.type "zip"):=by decide+kernel
def Eo(K:PySem.W.Frag)(ta:TA):TI:=fun σ H R=>ta σ H fun vs H1=>∃a b,vs=[.ref a,.ref b]∧(∃xs,cP K H1 a xs)∧(∃ys,cP K H1 b ys)∧R (EN K a b) H1
theorem Bq{X:Cx}{K:PySem.W.Frag}{es:List Expr}{k0:Nat}{tp:Pos}{a b:Expr}{ta:TA}{p pos:Pos}(hK:X.K=K)(hg:Gl X "zip")(hm:X.mg "zip"=none)(ha:PA X [a,b] ta)(hs:starEach [a,b] X.env=[(false,eval a X.env),(false,eval b X.env)]:=by rfl)(hs2:starEach [b] X.env=[(false,eval b X.env)]:=by rfl):
    PI X (.Tuple es k0 tp) (.Call (.Name "zip" p) [a,b] [] pos) (Eo K ta):=by
  intro pins s σ H R I h
  subst hK
  refine Call_ (kd I hg hm pR (PyProof.Rows.callWith_type1 (cT (ha pos pins s σ H _ I h) fun us s1 ⟨vs,H1,I1,r1,q1⟩=>?_) (by rw [hs,hs2]) (by rw [hs2];rfl)))
  obtain⟨a,b,e,⟨xs,qx⟩,⟨ys,qy⟩,q⟩:=q1
  subst e
  cases r1 with
  | cons r rr=>
    cases rr with
    | cons r' rr=>
      cases rr
      cases r
      cases r'
      obtain⟨i1,v1,p1,_⟩:=I1.tuple qx
      obtain⟨i2,v2,p2,_⟩:=I1.tuple qy
      refine qS p1 p2 fun g st hk=>wpAny_pyIter_zip st.1 ?_
      have I2:aB X pins σ H1 {s1 with heap:=g,toks:=s1.toks}:=I1.kept (t':=s1.toks) fun b o e=>hk b o e
      refine⟨s1.heap.objs.size+4,[s1.heap.objs.size+4,s1.heap.objs.size+2,s1.heap.objs.size+3,s1.heap.objs.size,s1.heap.objs.size+1],_,_,H1,rfl,I2,xx a b (show((s1.heap.objs.size+3:Nat)≠s1.heap.objs.size+4) by lia) (show((s1.heap.objs.size:Nat)≠s1.heap.objs.size+4) by lia) (show((s1.heap.objs.size+1:Nat)≠s1.heap.objs.size+4) by lia) (show((s1.heap.objs.size+3:Nat)≠s1.heap.objs.size) by lia) (show((s1.heap.objs.size+3:Nat)≠s1.heap.objs.size+1) by lia) (show((s1.heap.objs.size:Nat)≠s1.heap.objs.size+1) by lia) (show((s1.heap.objs.size+2:Nat)≠s1.heap.objs.size+4) by lia) (show((s1.heap.objs.size+2:Nat)≠s1.heap.objs.size+3) by lia) (show((s1.heap.objs.size+2:Nat)≠s1.heap.objs.size) by lia) (show((s1.heap.objs.size+2:Nat)≠s1.heap.objs.size+1) by lia),st,fun c hc=>?_,q⟩
      have le:s1.heap.objs.size≤c:=by
        simp only [List.mem_cons,List.not_mem_nil,or_false] at hc
        rcases hc with rfl | rfl | rfl | rfl | rfl
        · exact Nat.le_add_right _ 4
        · exact Nat.le_add_right _ 2
        · exact Nat.le_add_right _ 3
        · exact Nat.le_refl _
        · exact Nat.le_add_right _ 1
      have f:=I1.fpOk (H':=H1) le (I1.hok.fresh le)
      exact f
end L2
namespace L2
open PySem PySem.Spec PyProof.Rows
def eM(h:Heap)(z TI TO:Addr)(a:Addr)(f:Bool):Prop:=h.get? z=some {cls:=.type "zip",data:=.fields #[rawInt a,.bool f,.bool false,.ref TI,.ref TO]}
section
variable{prog:Program}{w:World}{A:Around}{E:Value→Shared→Prop}{s:Shared}{z TI TO i1 i2 l1 l2:Addr}{k:Nat}{xs ys:Array Value}{a:Addr}{f:Bool}{S1 S2:Nat→Heap→Prop}{R1 R2:Heap→Array Value→Prop}
theorem qP{a:Addr}{Q:Option Obj→Shared→Prop}(h:Q (s.heap.get? a) s):wpAny (model prog w) A (loadIfAlive a) Q E s:=fun Γ p hΓ=>by
  unfold loadIfAlive
  rw [Sem.wp_loadIfAlive,Sem.wp_pure]
  exact h
theorem zV{oa:Obj}{Kont:Bool→Shared→Prop}(hz:eM s.heap z TI TO a f)(ha:s.heap.get? a=some oa)(h:∀g1,eM g1 z TI TO a true→g1.objs.size=s.heap.objs.size→(∀c o,c≠z→s.heap.get? c=some o→g1.get? c=some o)→Kont false {s with heap:=g1}):
    wpAny (model prog w) A (Builtin.SmallTypes.ownedTupleIsFree (.ref z)) Kont E s:=by
  unfold Builtin.SmallTypes.ownedTupleIsFree
  refine wpAny_bind (wpAny_field hz rfl (x:=rawInt a) rfl ?_)
  simp only [rawInt]
  refine wpAny_bind (qP ?_)
  rw [show((a:Int)).toNat=a from rfl,ha]
  simp only [Option.isNone_some,Bool.false_eq_true,if_false]
  refine wpAny_bind (wpAny_field hz rfl (x:=.bool f) rfl ?_)
  cases f with
  | true=>
    rw [if_neg (by decide)]
    exact wpAny_pure (h s.heap hz rfl fun _ _ _ e=>e)
  | false=>
    rw [if_pos (by decide)]
    refine wpAny_bind (wpAny_setField_rec hz (by simp) fun g1 z1 e1=>wpAny_pure (h g1 z1 e1.1 fun c o n e=>e1.extBut _ _ n e))
theorem zI{x y:Value}{oa:Obj}{Q:Value→Shared→Prop}(P1:Sc prog w i1 l1 S1 R1)(P2:Sc prog w i2 l2 S2 R2)(n2:i1≠z)(n3:i2≠z)(n6:i1≠i2)(b1:l1≠z)(b3:l1≠i1)(b4:l1≠i2)(c1:l2≠z)(c3:l2≠i1)(c4:l2≠i2)
    (hz:eM s.heap z TI TO a f)(hI:IsPair s.heap TI (.ref i1) (.ref i2))(ha:s.heap.get? a=some oa)(u1:S1 k s.heap)(u2:S2 k s.heap)(r1:R1 s.heap xs)(r2:R2 s.heap ys)(hx:xs[k]?=some x)(hy:ys[k]?=some y)
    (q:∀g,eM g z TI TO a true→S1 (k+1) g→S2 (k+1) g→IsPair g s.heap.objs.size x y→g.objs.size=s.heap.objs.size+1→(∀c o,c≠z→c≠i1→c≠i2→s.heap.get? c=some o→g.get? c=some o)→Q (.ref s.heap.objs.size) {s with heap:=g}):
    wpAny (model prog w) A (Builtin.«zip.__next__» ⟨[.ref z],[]⟩) (fun f s'=>∃v,f=.done (.ret v)∧Q v s') E s:=by
  show wpAny _ _ (field (.ref z) 2 >>= _) _ _ _;refine wpAny_bind (wpAny_field hz rfl (x:=.bool false) rfl ?_)
  show wpAny _ _ (field (.ref z) 3 >>= _) _ _ _;refine wpAny_bind (wpAny_field hz rfl (x:=.ref TI) rfl ?_);refine wpAny_bind (wpAny_seqItems hI rfl ?_)
  show wpAny _ _ (Builtin.SmallTypes.ownedTupleIsFree (.ref z) >>= _) _ _ _
  refine wpAny_bind (zV hz ha fun g1 z1 sz1 e1=>?_)
  simp only [Bool.false_eq_true,if_false]
  refine wpAny_bind ?_
  rw [←Array.forIn_toList]
  simp only [List.forIn_cons,List.forIn_nil]
  refine wpAny_bind (wpAny_bind (wpAny_holding ?_))
  show wpAny _ _ (Builtin.SmallTypes.nextOf (.ref i1) >>= _) _ _ _
  refine wpAny_bind (P1.next (P1.stay u1 fun o e=>e1 _ _ n2 e) (P1.row r1 fun o e=>e1 _ _ b1 e) hx fun g2 v1 e2=>wpAny_pure (wpAny_pure ?_))
  refine wpAny_bind (wpAny_bind (wpAny_holding ?_))
  show wpAny _ _ (Builtin.SmallTypes.nextOf (.ref i2) >>= _) _ _ _
  refine wpAny_bind (P2.next (P2.stay u2 fun o e=>e2.extBut _ _ n6.symm (e1 _ _ n3 e)) (P2.row r2 fun o e=>e2.extBut _ _ c3 (e1 _ _ c1 e)) hy fun g3 v2 e3=>wpAny_pure (wpAny_pure (wpAny_pure ?_)))
  show wpAny _ _ (newTuple [x,y] >>= _) _ _ _
  refine wpAny_bind (wpAny_newTuple ?_)
  have sz:g3.objs.size=s.heap.objs.size:=by rw [e3.1,e2.1,sz1]
  have z3:eM g3 z TI TO a true:=e3.extBut _ _ n3.symm (e2.extBut _ _ n2.symm z1)
  refine wpAny_pure ⟨_,rfl,?_⟩
  show Q (.ref g3.objs.size) _
  rw [sz]
  refine q (g3.push {cls:=.type "tuple",data:=.seq #[x,y]}) (Heap.get?_push_of_some _ z3) (P1.stay v1 fun o e=>Heap.get?_push_of_some _ (e3.extBut _ _ n6 e)) (P2.stay v2 fun o e=>Heap.get?_push_of_some _ e) ?_ (by rw [Heap.size_push,sz]) fun c o m1 m2 m3 e=>Heap.get?_push_of_some _ (e3.extBut _ _ m3 (e2.extBut _ _ m2 (e1 _ _ m1 e)))
  rw [←sz]
  exact Heap.get?_push_size _ rfl
theorem xI{oa:Obj}{Q:Fin→Shared→Prop}(hh:A.handled=none)(P1:Sc prog w i1 l1 S1 R1)(P2:Sc prog w i2 l2 S2 R2)(n2:i1≠z)(n3:i2≠z)(n6:i1≠i2)(b1:l1≠z)(c1:l2≠z)(c3:l2≠i1)
    (hz:eM s.heap z TI TO a f)(hI:IsPair s.heap TI (.ref i1) (.ref i2))(ha:s.heap.get? a=some oa)(u1:S1 k s.heap)(u2:S2 k s.heap)(r1:R1 s.heap xs)(r2:R2 s.heap ys)(hn:xs[k]?=none∨ys[k]?=none)
    (q:∀g e,(∀c o,c≠z→c≠i1→c≠i2→s.heap.get? c=some o→g.get? c=some o)→(∃o,g.get? e=some o∧o.cls=.type "StopIteration")→E (.ref e) {s with heap:=g}):
    wpAny (model prog w) A (Builtin.«zip.__next__» ⟨[.ref z],[]⟩) Q E s:=by
  show wpAny _ _ (field (.ref z) 2 >>= _) _ _ _;refine wpAny_bind (wpAny_field hz rfl (x:=.bool false) rfl ?_)
  show wpAny _ _ (field (.ref z) 3 >>= _) _ _ _;refine wpAny_bind (wpAny_field hz rfl (x:=.ref TI) rfl ?_);refine wpAny_bind (wpAny_seqItems hI rfl ?_)
  show wpAny _ _ (Builtin.SmallTypes.ownedTupleIsFree (.ref z) >>= _) _ _ _
  refine wpAny_bind (zV hz ha fun g1 z1 sz1 e1=>?_)
  simp only [Bool.false_eq_true,if_false]
  refine wpAny_bind ?_
  rw [←Array.forIn_toList]
  simp only [List.forIn_cons,List.forIn_nil]
  refine wpAny_bind (wpAny_bind (wpAny_holding ?_))
  show wpAny _ _ (Builtin.SmallTypes.nextOf (.ref i1) >>= _) _ _ _
  cases hx:xs[k]? with
  | none=>
    refine wpAny_bind (P1.last hh (P1.stay u1 fun o e=>e1 _ _ n2 e) (P1.row r1 fun o e=>e1 _ _ b1 e) hx fun g2 e e2 he=>?_)
    exact q g2 e (fun c o m1 m2 _ x=>e2 _ _ m2 (e1 _ _ m1 x)) he
  | some x=>
    have hy:ys[k]?=none:=by
      rcases hn with h | h
      · rw [hx] at h;cases h
      · exact h
    refine wpAny_bind (P1.next (P1.stay u1 fun o e=>e1 _ _ n2 e) (P1.row r1 fun o e=>e1 _ _ b1 e) hx fun g2 v1 e2=>wpAny_pure (wpAny_pure ?_))
    refine wpAny_bind (wpAny_bind (wpAny_holding ?_))
    show wpAny _ _ (Builtin.SmallTypes.nextOf (.ref i2) >>= _) _ _ _
    refine wpAny_bind (P2.last hh (P2.stay u2 fun o e=>e2.extBut _ _ n6.symm (e1 _ _ n3 e)) (P2.row r2 fun o e=>e2.extBut _ _ c3 (e1 _ _ c1 e)) hy fun g3 e e3 he=>?_)
    exact q g3 e (fun c o m1 m2 m3 x=>e3 _ _ m3 (e2.extBut _ _ m2 (e1 _ _ m1 x))) he
theorem uK{x y:Value}{oa:Obj}{Q:Option Value→Shared→Prop}(P1:Sc prog w i1 l1 S1 R1)(P2:Sc prog w i2 l2 S2 R2)(n2:i1≠z)(n3:i2≠z)(n6:i1≠i2)(b1:l1≠z)(b3:l1≠i1)(b4:l1≠i2)(c1:l2≠z)(c3:l2≠i1)(c4:l2≠i2)
    (hz:eM s.heap z TI TO a f)(hI:IsPair s.heap TI (.ref i1) (.ref i2))(ha:s.heap.get? a=some oa)(u1:S1 k s.heap)(u2:S2 k s.heap)(r1:R1 s.heap xs)(r2:R2 s.heap ys)(hx:xs[k]?=some x)(hy:ys[k]?=some y)
    (q:∀g,eM g z TI TO a true→S1 (k+1) g→S2 (k+1) g→IsPair g s.heap.objs.size x y→g.objs.size=s.heap.objs.size+1→(∀c o,c≠z→c≠i1→c≠i2→s.heap.get? c=some o→g.get? c=some o)→Q (some (.ref s.heap.objs.size)) {s with heap:=g}):
    wpAny (model prog w) A (pyNext (.ref z)) Q E s:=by
  have hT:s.TypeIs (.ref z) "zip":=⟨_,hz,rfl⟩;unfold pyNext
  refine wpAny_bind (wpAny_attempt (wpAny_callSpecial?_slot (name:=Str.ofString "__next__") hT F.slot_zip_next (wpAny_call_entry F.slot_zip_next hT F.entry_zip_next ?_ (F.args_zip_next_1 _))))
  exact zI P1 P2 n2 n3 n6 b1 b3 b4 c1 c3 c4 hz hI ha u1 u2 r1 r2 hx hy fun g q1 q3 q4 q5 q6 q7=>wpAny_pure (q g q1 q3 q4 q5 q6 q7)
theorem uL{oa:Obj}{Q:Option Value→Shared→Prop}(hh:A.handled=none)(P1:Sc prog w i1 l1 S1 R1)(P2:Sc prog w i2 l2 S2 R2)(n2:i1≠z)(n3:i2≠z)(n6:i1≠i2)(b1:l1≠z)(c1:l2≠z)(c3:l2≠i1)
    (hz:eM s.heap z TI TO a f)(hI:IsPair s.heap TI (.ref i1) (.ref i2))(ha:s.heap.get? a=some oa)(u1:S1 k s.heap)(u2:S2 k s.heap)(r1:R1 s.heap xs)(r2:R2 s.heap ys)(hn:xs[k]?=none∨ys[k]?=none)
    (q:∀g,(∀c o,c≠z→c≠i1→c≠i2→s.heap.get? c=some o→g.get? c=some o)→Q none {s with heap:=g}):wpAny (model prog w) A (pyNext (.ref z)) Q E s:=by
  have hT:s.TypeIs (.ref z) "zip":=⟨_,hz,rfl⟩;unfold pyNext
  refine wpAny_bind (wpAny_attempt (wpAny_callSpecial?_slot (name:=Str.ofString "__next__") hT F.slot_zip_next (wpAny_call_entry F.slot_zip_next hT F.entry_zip_next (xI hh P1 P2 n2 n3 n6 b1 c1 c3 hz hI ha u1 u2 r1 r2 hn fun g e hk he=>?_) (F.args_zip_next_1 _))))
  obtain⟨o,ho,hc⟩:=he;refine wpAny_bind (wpAny_isInstance (T:="StopIteration") (b:=true) ⟨o,ho,hc⟩ isSubtype_stop ?_);exact wpAny_pure (q _ hk)
end
end L2
namespace L2
open PySem PySem.Spec PyProof.Rows
structure ZL (S z TI TO i1 i2 l1 l2:Addr) (xs ys:Array Value) (i:Nat) (h:Heap):Prop where
  pr:IsPair h TI (.ref i1) (.ref i2)
  t1:h.IsTupleIter i1 l1 i
  t2:h.IsTupleIter i2 l2 i
  s1:h.IsTuple l1 xs
  s2:h.IsTuple l2 ys
  ot:∃o,h.get? TO=some o
  zs:(IsZip h z TI TO .none∧∃a b,IsPair h TO a b)∨∃a f oa,eM h z TI TO a f∧h.get? a=some oa∧a≠S∧a≠z∧a≠i1∧a≠i2
structure js (S z TO i1 i2:Addr) (xs ys:Array Value) (h:Heap) (acc:Array Value) (i:Nat):Prop where
  sz:acc.size=i
  at_:∀(j:Nat) (v:Value),acc[j]?=some v→∃(p:Addr) (x y:Value),v=.ref p∧xs[j]?=some x∧ys[j]?=some y∧IsPair h p x y∧p≠S∧p≠z∧p≠TO∧p≠i1∧p≠i2
  lo:∀(j:Nat) (p:Addr),acc[j]?=some (.ref p)→S < p
  inc:∀(i j:Nat) (p q:Addr),i < j→acc[i]?=some (.ref p)→acc[j]?=some (.ref q)→p < q
theorem js.keep{S z TO i1 i2:Addr}{xs ys:Array Value}{h h':Heap}{acc:Array Value}{i:Nat}(q:js S z TO i1 i2 xs ys h acc i)(k:∀c o,c≠S→c≠z→c≠TO→c≠i1→c≠i2→h.get? c=some o→h'.get? c=some o):js S z TO i1 i2 xs ys h' acc i:=
  ⟨q.sz,fun j v e=>let ⟨p,x,y,e1,e2,e3,e4,n1,n2,n3,n4,n5⟩:=q.at_ j v e;⟨p,x,y,e1,e2,e3,k _ _ n1 n2 n3 n4 n5 e4,n1,n2,n3,n4,n5⟩,q.lo,q.inc⟩
theorem js.push{S z TO i1 i2:Addr}{xs ys:Array Value}{h:Heap}{acc:Array Value}{i:Nat}{p:Addr}{x y:Value}(q:js S z TO i1 i2 xs ys h acc i)(hx:xs[i]?=some x)(hy:ys[i]?=some y)(hp:IsPair h p x y)(n1:p≠S)(n2:p≠z)(n3:p≠TO)(n4:p≠i1)(n5:p≠i2)(hl:S < p)(hi:∀(j:Nat) (r:Addr),acc[j]?=some (.ref r)→r < p):js S z TO i1 i2 xs ys h (acc.push (.ref p)) (i+1):=by
  refine⟨by rw [Array.size_push,q.sz],fun j v e=>?_,fun j r e=>?_,fun j l r t hjl e1 e2=>?_⟩
  rw [Array.getElem?_push] at e
  split at e
  · rename_i ej
    rw [q.sz] at ej
    cases e
    subst ej
    exact⟨p,x,y,rfl,hx,hy,hp,n1,n2,n3,n4,n5⟩
  · exact q.at_ j v e
  · rw [Array.getElem?_push] at e
    split at e
    · cases e;exact hl
    · exact q.lo j r e
  · rw [Array.getElem?_push] at e1 e2
    split at e2
    · rename_i el
      cases e2
      rw [if_neg (by lia)] at e1
      exact hi j r e1
    · rename_i el
      have lt:l < acc.size:=(Array.getElem?_eq_some_iff.mp e2).1
      rw [if_neg (by lia)] at e1
      exact q.inc j l r t hjl e1 e2
section
variable{prog:Program}{w:World}{A:Around}{R:Result→Shared→Prop}{S z TI TO i1 i2 l1 l2:Addr}{xs ys:Array Value}{n:Nat}
theorem vX(hh:A.in1.handled=none)(D:jv z TI TO i1 i2 l1 l2)(nS:∀c∈[z,TI,TO,i1,i2,l1,l2],S≠c)(nT:TI≠z∧TI≠TO∧TI≠i1∧TI≠i2)(hn:n≤sizeLine)(h1:n≤xs.size)(h2:n≤ys.size)(h3:xs.size≤n∨ys.size≤n)(res:Value):
    ∀(m i:Nat) (s:Shared) (acc:Array Value) (c:Nat),n - i=m→i≤n→ZL S z TI TO i1 i2 l1 l2 xs ys i s.heap→s.heap.get? S=some {cls:=.type "list",dict:=none,data:=.seq acc c,slots:=#[]}→js S z TO i1 i2 xs ys s.heap acc i→
    (∀g acc' c',(∀b o,b≠S→b≠z→b≠TO→b≠i1→b≠i2→s.heap.get? b=some o→g.get? b=some o)→g.get? S=some {cls:=.type "list",dict:=none,data:=.seq acc' c',slots:=#[]}→js S z TO i1 i2 xs ys g acc' n→R (.ok (.ret res)) {s with heap:=g})→
    codeAny (model prog w) A (.builtin "list.extend.loop" ⟨[.ref S,.ref z,res],[]⟩) R s:=by
  have s1:=nS z (by simp);have s2:=nS TI (by simp);have s3:=nS TO (by simp);have s4:=nS i1 (by simp);have s5:=nS i2 (by simp);have s6:=nS l1 (by simp);have s7:=nS l2 (by simp)
  obtain⟨t1,t2,t3,t4⟩:=nT
  intro m
  induction m with
  | zero=>
    intro i s acc c hk hi hst hS hacc hR
    have hin:i=n:=by lia
    subst hin
    refine codeAny_builtin F.entry_extend_loop ?_
    rw [Around.under_plainId F.plain_extend_loop _]
    show wpAny _ A.in1 (pyNext (.ref z) >>= _) _ _ s
    have e0:xs[i]?=none∨ys[i]?=none:=by
      rcases h3 with h | h
      · exact .inl (Array.getElem?_eq_none h)
      · exact .inr (Array.getElem?_eq_none h)
    rcases hst.zs with ⟨hz,a,b,hO⟩ | ⟨a,f,oa,hz,ha,_⟩
    · refine wpAny_bind (qV hh (cg i1 l1) (cg i2 l2) D hz hst.pr hO hst.t1 hst.t2 hst.s1 hst.s2 e0 fun g gk=>?_)
      exact wpAny_pure (hR g acc c (fun b o _ m1 m2 m3 m4 e=>gk b o m1 m2 m3 m4 e) (gk _ _ s1 s3 s4 s5 hS) (hacc.keep fun c o _ m1 m2 m3 m4 e=>gk c o m1 m2 m3 m4 e))
    · refine wpAny_bind (uL hh (cg i1 l1) (cg i2 l2) D.a2 D.a3 D.a6 D.b1 D.c1 D.c3 hz hst.pr ha hst.t1 hst.t2 hst.s1 hst.s2 e0 fun g gk=>?_)
      exact wpAny_pure (hR g acc c (fun b o _ m1 _ m3 m4 e=>gk b o m1 m3 m4 e) (gk _ _ s1 s4 s5 hS) (hacc.keep fun c o _ m1 _ m3 m4 e=>gk c o m1 m3 m4 e))
  | succ m ih=>
    intro i s acc c hk hi hst hS hacc hR
    have hlt:i < n:=by lia
    have hx:xs[i]?=some (xs[i]'(by lia)):=Array.getElem?_eq_getElem (by lia)
    have hy:ys[i]?=some (ys[i]'(by lia)):=Array.getElem?_eq_getElem (by lia)
    refine codeAny_builtin F.entry_extend_loop ?_
    rw [Around.under_plainId F.plain_extend_loop _]
    show wpAny _ A.in1 (pyNext (.ref z) >>= _) _ _ s
    have lS:S < s.heap.objs.size:=Heap.lt_size hS
    have ltO:∀{c:Addr} {o:Obj},s.heap.get? c=some o→s.heap.objs.size≠c:=fun e=>Nat.ne_of_gt (Heap.lt_size e)
    obtain⟨o1,q1,_⟩:=id hst.t1
    obtain⟨o2,q2,_⟩:=id hst.t2
    have fin:∀g,(∃a f,eM g z TI TO a f∧(∃oa,g.get? a=some oa)∧a≠S∧a≠z∧a≠i1∧a≠i2)→g.IsTupleIter i1 l1 (i+1)→g.IsTupleIter i2 l2 (i+1)→IsPair g s.heap.objs.size xs[i] ys[i]→s.heap.objs.size≠TO→s.heap.objs.size≠z→(∃o,g.get? TO=some o)→(∀c o,c≠z→c≠TO→c≠i1→c≠i2→s.heap.get? c=some o→g.get? c=some o)→
        wpAny (model prog w) A.in1 (updateSeq S (·.push (.ref s.heap.objs.size)) >>= fun _=>again (.builtin "list.extend.loop" ⟨[.ref S,.ref z,res],[]⟩)) (fun fin s'=>match fin with | .done f=>R (.ok f) s' | .again c'=>c'.quiet=true∧codeAny (model prog w) A c' R s') (fun e s'=>R (.error e) s') {s with heap:=g}:=by
      intro g ⟨a,f,gz,⟨oa,ga⟩,na,na1,na2,na3⟩ g1 g2 gT nTO nz ⟨oT,gt⟩ gk
      have hS':g.get? S=some {cls:=.type "list",dict:=none,data:=.seq acc c,slots:=#[]}:=gk _ _ s1 s3 s4 s5 hS
      have up:∀c o,c≠S→g.get? c=some o→(g.update S (Obj.mapSeq (·.push (.ref s.heap.objs.size)))).get? c=some o:=fun c o m e=>(Heap.get?_update_other _ _ (Ne.symm m)).trans e
      have nSz:s.heap.objs.size≠S:=Nat.ne_of_gt lS
      refine wpAny_bind (wpAny_updateSeq hS' rfl (wpAny_pure ⟨plainId_quiet F.plain_extend_loop _,ih (i+1) _ (acc.push (.ref s.heap.objs.size)) _ (by lia) hlt ⟨up _ _ (Ne.symm s2) (gk _ _ t1 t2 t3 t4 hst.pr),g1.at fun o e=>up _ _ (Ne.symm s4) e,g2.at fun o e=>up _ _ (Ne.symm s5) e,?_,?_,⟨oT,up _ _ (Ne.symm s3) gt⟩,.inr ⟨a,f,oa,up _ _ (Ne.symm s1) gz,up _ _ na ga,na,na1,na2,na3⟩⟩ (Heap.get?_update_self _ hS' rfl) ?_ fun g' acc' c' hk' hS'' hacc'=>?_⟩)
        (by rw [hacc.sz];lia) (by show(acc.push _).size≤sizeLine+1;rw [Array.size_push,hacc.sz];lia))
      · exact(cg (prog:=prog) (w:=w) i1 l1).row hst.s1 fun o e=>up _ _ (Ne.symm s6) (gk _ _ D.b1 D.b2 D.b3 D.b4 e)
      · exact(cg (prog:=prog) (w:=w) i2 l2).row hst.s2 fun o e=>up _ _ (Ne.symm s7) (gk _ _ D.c1 D.c2 D.c3 D.c4 e)
      · exact((hacc.keep fun c o _ m1 m2 m3 m4 e=>gk c o m1 m2 m3 m4 e).push hx hy gT nSz nz nTO (ltO q1) (ltO q2) lS fun j r e=>by
          obtain⟨p',x',y',e1,_,_,e4,_⟩:=hacc.at_ j _ e
          cases e1
          exact Heap.lt_size e4).keep fun c o m _ _ _ _ e=>up c o m e
      · exact hR g' acc' c' (fun b o m1 m2 m3 m4 m5 e=>hk' b o m1 m2 m3 m4 m5 (up b o m1 (gk b o m2 m3 m4 m5 e))) hS'' hacc'
    rcases hst.zs with ⟨hz,a,b,hO⟩ | ⟨a,f,oa,hz,ha,na,na1,na2,na3⟩
    · refine wpAny_bind (qU (cg i1 l1) (cg i2 l2) D hz hst.pr hO hst.t1 hst.t2 hst.s1 hst.s2 hx hy fun g gz gO g1 g2 gT gs gk=>?_)
      exact fin g ⟨_,false,gz,⟨_,gT⟩,Nat.ne_of_gt lS,ltO hz,ltO q1,ltO q2⟩ g1 g2 gT (ltO hO) (ltO hz) ⟨_,gO⟩ gk
    · refine wpAny_bind (uK (cg i1 l1) (cg i2 l2) D.a2 D.a3 D.a6 D.b1 D.b3 D.b4 D.c1 D.c3 D.c4 hz hst.pr ha hst.t1 hst.t2 hst.s1 hst.s2 hx hy fun g gz g1 g2 gT gs gk=>?_)
      exact fin g ⟨a,true,gz,⟨oa,gk _ _ na1 na2 na3 ha⟩,na,na1,na2,na3⟩ g1 g2 gT (let ⟨_,e⟩:=hst.ot;ltO e) (ltO hz) (let ⟨o,e⟩:=hst.ot;⟨o,gk _ _ D.a1 D.a4 D.a5 e⟩) (fun c o m1 _ m3 m4 e=>gk c o m1 m3 m4 e)
theorem sd:typeLookup (.type "zip") "__len__"=pure none:=by rw [typeLookup_type,builtinLookup_eq_fast];kernel_rfl
theorem qT:typeLookup (.type "zip") "__length_hint__"=pure none:=by rw [typeLookup_type,builtinLookup_eq_fast];kernel_rfl
theorem ZL.keep(prog:Program)(w:World){i:Nat}{h h':Heap}(q:ZL S z TI TO i1 i2 l1 l2 xs ys i h)(nS:∀c∈[z,TI,TO,i1,i2,l1,l2],S≠c)(k:∀c o,c≠S→h.get? c=some o→h'.get? c=some o):ZL S z TI TO i1 i2 l1 l2 xs ys i h':=by
  have s1:=nS z (by simp);have s2:=nS TI (by simp);have s3:=nS TO (by simp);have s4:=nS i1 (by simp);have s5:=nS i2 (by simp);have s6:=nS l1 (by simp);have s7:=nS l2 (by simp)
  refine⟨k _ _ (Ne.symm s2) q.pr,q.t1.at fun o e=>k _ _ (Ne.symm s4) e,q.t2.at fun o e=>k _ _ (Ne.symm s5) e,(cg (prog:=prog) (w:=w) i1 l1).row q.s1 fun o e=>k _ _ (Ne.symm s6) e,(cg (prog:=prog) (w:=w) i2 l2).row q.s2 fun o e=>k _ _ (Ne.symm s7) e,let ⟨o,e⟩:=q.ot;⟨o,k _ _ (Ne.symm s3) e⟩,?_⟩
  rcases q.zs with ⟨hz,a,b,hO⟩ | ⟨a,f,oa,hz,ha,n1,n2⟩
  · exact .inl ⟨k _ _ (Ne.symm s1) hz,a,b,k _ _ (Ne.symm s3) hO⟩
  · exact .inr ⟨a,f,oa,k _ _ (Ne.symm s1) hz,k _ _ n1 ha,n1,n2⟩
theorem mS{E:Value→Shared→Prop}{s:Shared}{Q:Value→Shared→Prop}(hh:A.in1.in1.handled=none)(D:jv z TI TO i1 i2 l1 l2)(nT:TI≠z∧TI≠TO∧TI≠i1∧TI≠i2)(hn:n≤sizeLine)(h1:n≤xs.size)(h2:n≤ys.size)(h3:xs.size≤n∨ys.size≤n)
    (hz:IsZip s.heap z TI TO .none)(hst:ZL s.heap.objs.size z TI TO i1 i2 l1 l2 xs ys 0 s.heap)(hlt:∀c∈[z,TI,TO,i1,i2,l1,l2],c < s.heap.objs.size)
    (hQ:∀g acc' c',(∀b o,b≠s.heap.objs.size→b≠z→b≠TO→b≠i1→b≠i2→s.heap.get? b=some o→g.get? b=some o)→g.get? s.heap.objs.size=some {cls:=.type "list",dict:=none,data:=.seq acc' c',slots:=#[]}→js s.heap.objs.size z TO i1 i2 xs ys g acc' n→Q (.ref s.heap.objs.size) {s with heap:=g}):
    wpAny (model prog w) A (call (.type "list") [.ref z]) Q E s:=by
  have nS:∀c∈[z,TI,TO,i1,i2,l1,l2],s.heap.objs.size≠c:=fun c hc=>Nat.ne_of_gt (hlt c hc)
  have hSI:s.heap.objs.size≠z:=nS z (by simp)
  refine callType_codes (Q₁:=fun obj s₁=>obj=.ref s.heap.objs.size∧s₁={s with heap:=s.heap.push {cls:=.type "list",data:=.seq #[]}}) F.called_list (F.typeCall_list_1 _) F.entry_list_init
    (code_list_new _ ⟨rfl,rfl⟩) fun obj s₁ h₁=>?_
  obtain⟨rfl,rfl⟩:=h₁
  have hS:(s.heap.push {cls:=.type "list",data:=.seq #[]}).get? s.heap.objs.size=some {cls:=.type "list",data:=.seq #[]}:=Heap.get?_push_size _ rfl
  have st0:=ZL.keep prog w hst nS (h':=s.heap.push {cls:=.type "list",data:=.seq #[]}) fun c o _ e=>Heap.get?_push_of_some _ e
  have k0:∀b o,s.heap.get? b=some o→(s.heap.push {cls:=.type "list",data:=.seq #[]}).get? b=some o:=fun b o e=>Heap.get?_push_of_some _ e
  have hz0:=k0 _ _ hz
  refine⟨⟨_,hS,rfl⟩,F.args_list_init_2 _ _,?_⟩
  generalize s.heap.push {cls:=.type "list",data:=.seq #[]}=h0 at*
  generalize s.heap.objs.size=S at*
  show wpAny _ A.in1.in1 (do let old ←Builtin.List.listItems (.ref S);Builtin.List.listUpdate (.ref S) (fun _=>#[]);letGo old.toList.reverse;Builtin.List.listExtendWith (.ref S) (.ref z) .none) _ _ _
  refine wpAny_bind ?_
  unfold Builtin.List.listItems
  refine wpAny_bind (wpAny_seqItems hS rfl (wpAny_pure ?_))
  show wpAny _ A.in1.in1 (updateSeq S (fun _=>#[]) >>= fun _=>letGo (#[]:Array Value).toList.reverse >>= fun _=>Builtin.List.listExtendWith (.ref S) (.ref z) .none) _ _ _
  refine wpAny_bind (wpAny_updateSeq hS rfl ?_)
  have hS₁:=Heap.get?_update_self (Obj.mapSeq (fun _=>(#[]:Array Value))) hS rfl
  have o1:∀b o,b≠S→h0.get? b=some o→(h0.update S (Obj.mapSeq (fun _=>(#[]:Array Value)))).get? b=some o:=fun b o hb e=>(Heap.get?_update_other _ _ (Ne.symm hb)).trans e
  refine wpAny_bind (wpAny_letGo ?_)
  have st1:=ZL.keep prog w st0 nS o1
  have hz1:=o1 _ _ (Ne.symm hSI) hz0
  generalize h0.update S (Obj.mapSeq (fun _=>(#[]:Array Value)))=g1 at*
  unfold Builtin.List.listExtendWith
  have hT:∀(s':Shared),s'.heap=g1→s'.TypeIs (.ref z) "zip":=fun s' e=>⟨_,by rw [e];exact hz1,rfl⟩
  refine wpAny_bind (wpAny_typeOf (hT _ rfl) ?_)
  have q1:Builtin.List.listSameRef (.ref S) (.ref z)=false:=by simp [Builtin.List.listSameRef,hSI]
  have q2:(Value.type "zip"==Value.type "list")=false:=by decide
  have q3:(Value.type "zip"==Value.type "tuple")=false:=by decide
  simp only [q1,q2,q3,Bool.or_false,Bool.false_eq_true,if_false]
  refine wpAny_bind (wpAny_pyIter_zip hz1 ?_)
  refine wpAny_bind (wpAny_holding ?_)
  unfold Builtin.List.listLengthHint
  refine wpAny_bind (wpAny_specialOf (hT _ rfl) sd ?_)
  show wpAny _ A.in1.in1 (specialOf (Value.ref z) (Str.ofString "__length_hint__") >>= _) _ _ _
  refine wpAny_bind (wpAny_specialOf (hT _ rfl) qT ?_)
  refine wpAny_pure ?_
  show wpAny _ A.in1.in1 (rule "list.extend.makes-room" >>= fun _=>Builtin.List.listTouch (.ref S) >>= fun _=>
    again (.builtin "list.extend.loop" ⟨[.ref S,.ref z,.none],[]⟩)) _ _ _
  refine wpAny_bind (wpAny_rule ?_)
  refine wpAny_bind ?_
  show wpAny _ A.in1.in1 (updateSeq S (·.push .none) >>= fun _=>updateSeq S (·.pop)) _ _ _
  refine wpAny_bind (wpAny_updateSeq hS₁ rfl ?_)
  have hS₂:=Heap.get?_update_self (Obj.mapSeq (·.push Value.none)) hS₁ rfl
  refine wpAny_updateSeq (hz:=by seq_fits) hS₂ rfl ?_
  have hS₃:=Heap.get?_update_self (Obj.mapSeq (·.pop)) hS₂ rfl
  have o3:∀b o,b≠S→g1.get? b=some o→((g1.update S (Obj.mapSeq (·.push Value.none))).update S (Obj.mapSeq (·.pop))).get? b=some o:=
    fun b o hb e=>(Heap.get?_update_other _ _ (Ne.symm hb)).trans ((Heap.get?_update_other _ _ (Ne.symm hb)).trans e)
  have st3:=ZL.keep prog w st1 nS o3
  refine wpAny_pure ⟨plainId_quiet F.plain_extend_loop _,vX hh D nS nT hn h1 h2 h3 .none n 0 _ _ _ rfl (Nat.zero_le _) st3 hS₃ ⟨rfl,fun j v e=>by simp at e,fun j r e=>by simp at e,fun j l r t _ e=>by simp at e⟩ fun g' acc' c' hk' hS' hacc'=>?_⟩
  exact⟨rfl,hQ g' acc' c' (fun b o m1 m2 m3 m4 m5 e=>hk' b o m1 m2 m3 m4 m5 (o3 b o m1 (o1 b o m1 (k0 b o e)))) hS' hacc'⟩
end
end L2
namespace L2
open PySem PySem.Spec PyProof.Rows
section
variable{X:Cx}{pins:List (Addr × Obj)}{σ:L2.St}{H H':Hp}{s:Shared}{h':Heap}
theorem aB.many{t':Nat}(I:aB X pins σ H s)(k:∀b u,s.heap.get? b=some u→h'.get? b=some u)(sm:∀b o,H b=some o→H' b=some o)(lo:∀b,b < s.heap.objs.size→H' b=H b)
    (new:∀a o,H a=none→H' a=some o→dZ X.prog X.w H' h' a o):aB X pins σ H' {s with heap:=h',toks:=t'}:=by
  refine I.un ⟨fun b u q _ _ _=>k b u q,fun b u q _ _ _=>⟨u.slots,k b u q⟩,fun b u q n _=>by rw [lo b (Heap.lt_size q)];exact n,fun b u q _=>⟨u,k b u q⟩,fun b xs q=>sm b _ q,fun b o u q=>sm b _ q,fun b ps q=>⟨#[],by rw [sm b _ q];simp⟩⟩ fun b u e=>?_
  cases hb:H b with
  | none=>exact new b u hb e
  | some v=>
    have:=sm b v hb
    rw [e] at this
    cases this
    exact(I.hok b u hb).stay (fun c v _ q=>k c v q) (fun c q=>sm c _ q) fun c xs q=>sm c _ q
end
end L2
namespace L2
open PySem PySem.Spec PyProof.Rows
section
variable{prog:Program}{w:World}{A:Around}{E:Value→Shared→Prop}{s:Shared}{e it l:Addr}{k:Nat}{xs:Array Value}{S:Nat→Heap→Prop}{R:Heap→Array Value→Prop}
end
section
variable{X:Cx}{pins:List (Addr × Obj)}{σ:L2.St}{H:Hp}{s:Shared}
end
end L2
namespace L2
open PySem PySem.Spec PyProof.Rows
section
variable{X:Cx}{a:Expr}{ta:TA}{p p2 pos pos2:Pos}
end
end L2
namespace L2
open PySem PySem.Spec PyProof.Rows
theorem ue:fillsNumberSlot (.type "tuple") "mul"=pure false:=
  PySem.fillsNumberSlot_seq (id:="tuple.__mul__") (r:=some (.builtin "tuple.__rmul__")) F.slot_tuple_mul.lookup (by decide+kernel) F.slot_tuple_rmul.lookup (by decide+kernel)
theorem BK:seqRepeat? (.type "tuple")=pure (some (.builtin "tuple.__mul__")):=by
  unfold seqRepeat?;rw [PySem.seqSlot_of (T:="tuple") (name:="__mul__") (id:="tuple.__mul__") F.slot_tuple_mul.lookup (by decide+kernel),PySem.seqSlot_of (T:="tuple") (name:="__rmul__") (id:="tuple.__rmul__") F.slot_tuple_rmul.lookup (by decide+kernel)];rfl
theorem zh(a:Int)(t:Tok)(l:Addr)(items:Array Value)(n:Nat)(dd:Option Addr)(sl:Array (Option Value)):
    Meets (Builtin.«int.__rmul__» ⟨[.int a t,.ref l],[]⟩) (fun _ R s=>s.heap.get? l=some {cls:=.type "tuple",dict:=dd,data:=.seq items n,slots:=sl}∧R (.ok (.ret Value.notImplemented)) s):=
  .of_wp fun prog w A R s h=>by obtain⟨hp,g,d,tk,os⟩:=s;obtain⟨hl,h⟩:=h;wp_walk;exact⟨_,rfl,h⟩
theorem AR(l:Addr)(x:Value)(n:Nat)(k:Int)(u:Tok)(dd:Option Addr)(sl:Array (Option Value))(h0:2≤k)(h1:k≤100000):
    Meets (Builtin.«tuple.__mul__» ⟨[.ref l,.int k u],[]⟩) (fun _ R s=>s.heap.get? l=some {cls:=.type "tuple",dict:=dd,data:=.seq #[x] n,slots:=sl}∧
      R (.ok (.ret (.ref s.heap.objs.size))) {s with heap:=s.heap.push {cls:=.type "tuple",data:=.seq (List.replicate k.toNat x).toArray}}):=
  .of_wp fun prog w A R s h=>by
    obtain⟨hp,g,d,tk,os⟩:=s;obtain⟨hl,h⟩:=h
    have f1:=AutoSeq1.idx_int
    have c1:¬(decide (k < -(2 ^ 63)) || decide (k≥2 ^ 63))=true:=by simp;lia
    have c2:¬((#[x]:Array Value).isEmpty || k==1)=true:=by simp;lia
    have c3:¬(decide (k≤0) || (#[x]:Array Value).isEmpty)=true:=by simp;lia
    have c4:¬(((#[x]:Array Value).size:Int)*k > (2 ^ 63 - 1) / 8):=by simp;lia
    have c5:¬Builtin.Tuple.tupleTooMany (((#[x]:Array Value).size:Int)*k)=true:=by
      unfold Builtin.Tuple.tupleTooMany;rw [sizeLine_eq];simp;lia
    wp_walk using wpAny_loadPart' hl
    rw [if_neg c1]
    wp_walk using wpAny_loadPart' hl
    rw [if_neg c2]
    wp_walk using wpAny_loadPart' hl
    rw [if_neg c3]
    wp_walk using wpAny_loadPart' hl
    rw [if_neg c4]
    show wpAny _ _ (if Builtin.Tuple.tupleTooMany (((#[x]:Array Value).size:Int)*k)=true then _ else _) _ _ _
    rw [if_neg c5]
    have f0:∀(m:Nat) (acc:Array Value),List.foldl (fun x1 x2=>x1++x2) acc (List.replicate m #[x])=acc++(List.replicate m x).toArray:=by
      intro m
      induction m with
      | zero=>intro acc;simp
      | succ m ih=>intro acc;rw [List.replicate_succ,List.foldl_cons,ih,List.replicate_succ];apply Array.toList_inj.mp;simp
    have e:List.foldl (fun x1 x2=>x1++x2) #[] (List.replicate k.toNat #[x])=(List.replicate k.toNat x).toArray:=by rw [f0];simp
    show wpAny _ _ (Builtin.Tuple.tupleExact (List.foldl (fun x1 x2=>x1++x2) #[] (List.replicate k.toNat #[x])) >>= fun v=>ret v) _ _ _
    rw [e]
    unfold Builtin.Tuple.tupleExact
    refine wpAny_bind (wpAny_newObj_type ?_ (by show(List.replicate k.toNat x).toArray.size≤sizeLine;rw [List.size_toArray,List.length_replicate,sizeLine_eq];lia))
    exact wpAny_pure ⟨_,rfl,h⟩
theorem yk(l:Addr)(x:Value)(n:Nat)(u:Tok)(dd:Option Addr)(sl:Array (Option Value)):
    Meets (Builtin.«tuple.__mul__» ⟨[.ref l,.int 0 u],[]⟩) (fun _ R s=>s.heap.get? l=some {cls:=.type "tuple",dict:=dd,data:=.seq #[x] n,slots:=sl}∧R (.ok (.ret (.ref s.heap.objs.size))) {s with heap:=s.heap.push {cls:=.type "tuple",data:=.seq #[]}}):=
  .of_wp fun prog w A R s h=>by
    obtain⟨hp,g,d,tk,os⟩:=s;obtain⟨hl,h⟩:=h;have f1:=AutoSeq1.idx_int
    have c2:¬((#[x]:Array Value).isEmpty || (0:Int)==1)=true:=by simp
    wp_walk using wpAny_loadPart' hl
    first | rw [if_neg c2] | skip
    wp_walk using wpAny_loadPart' hl
    exact⟨_,rfl,h⟩
theorem yl(l:Addr)(x:Value)(n:Nat)(u:Tok)(dd:Option Addr)(sl:Array (Option Value)):
    Meets (Builtin.«tuple.__mul__» ⟨[.ref l,.int 1 u],[]⟩) (fun _ R s=>s.heap.get? l=some {cls:=.type "tuple",dict:=dd,data:=.seq #[x] n,slots:=sl}∧R (.ok (.ret (.ref l))) s):=
  .of_wp fun prog w A R s h=>by
    obtain⟨hp,g,d,tk,os⟩:=s;obtain⟨hl,h⟩:=h;have f1:=AutoSeq1.idx_int
    wp_walk using wpAny_loadPart' hl
    exact⟨_,rfl,h⟩
section
variable{X:Cx}
def wV(K:PySem.W.Frag):R2:=fun x y H Q=>∃a k v,x=.ref a∧y=.int k∧cP K H a [v]∧0≤k∧k≤100000∧∀p H',aw H H'→cP K H' p (List.replicate k.toNat v)→Q (.ref p) H'
theorem yD:ii X (binaryOp .Mult) (wV X.K):=by
  intro pins s σ H x y v u Q I rx ry h
  obtain⟨a,k,z,rfl,rfl,ha,k0,k1,q⟩:=h
  cases rx
  obtain⟨t,rfl⟩:=ry
  obtain⟨its,r,p,hz⟩:=I.tuple ha
  obtain⟨uz,rfl,rz⟩:=AZ r
  obtain⟨⟨cls,dd,data,sl⟩,ho,hc,n,hd⟩:=id p
  simp only at hc hd
  subst hc hd
  refine wpAny_binaryOp_repeat_ref (T:="tuple") (U:="int") (by decide) ⟨_,ho,rfl⟩ (fun s'=>PySem.typeIs_int s' k t) ue F.fills_int_mul F.slot_int_rmul BK F.slot_int_index.lookup (call_meets F.slot_int_rmul (PySem.typeIs_int s k t) F.entry_int_rmul (F.args_int_rmul_2 _ _) (zh k t a #[uz] n dd sl) ⟨ho,rfl,⟨_,ho,rfl⟩,?_⟩)
  have new:∀m:Nat,m=k.toNat→EP X pins σ Q (.ref s.heap.objs.size) {s with heap:=s.heap.push {cls:=.type "tuple",data:=.seq (List.replicate m uz).toArray},toks:=s.toks}:=fun m hm=>by
    have hf:H s.heap.objs.size=none:=I.hok.fresh (Nat.le_refl _)
    have vv:∀j:Nat,aM (List.replicate j z) (List.replicate j uz):=fun j=>by
      induction j with
      | zero=>exact .nil
      | succ j ih=>exact .cons rz ih
    refine⟨.ref s.heap.objs.size,_,I.laid (t':=s.toks) (o:=.tup (List.replicate m z)) (fun b ob q=>Heap.get?_push_of_some _ q) (Nat.le_refl _) ⟨by rw [List.length_replicate,sizeLine_eq];lia,_,vv m,mR.new _ _⟩,rfl,q _ _ (aw.new hf) (cP.of (by rw [aL,hm]))⟩
  rcases(by lia:k=0∨k=1∨2≤k) with e | e | e
  · subst e
    exact call_meets F.slot_tuple_mul ⟨_,ho,rfl⟩ F.entry_tuple_mul (F.args_tuple_mul_2 _ _) (yk a uz n t dd sl) ⟨ho,new 0 rfl⟩
  · subst e
    exact call_meets F.slot_tuple_mul ⟨_,ho,rfl⟩ F.entry_tuple_mul (F.args_tuple_mul_2 _ _) (yl a uz n t dd sl) ⟨ho,⟨.ref a,H,I,rfl,q a H (aw.refl H) ha⟩⟩
  · exact call_meets F.slot_tuple_mul ⟨_,ho,rfl⟩ F.entry_tuple_mul (F.args_tuple_mul_2 _ _) (AR a uz n k t dd sl e k1) ⟨ho,new _ rfl⟩
end
end L2
namespace L2
open PySem PySem.Spec PyProof.Rows
section
variable{prog:Program}{w:World}{A:Around}{E:Value→Shared→Prop}{s:Shared}
end
section
variable{X:Cx}{a:Expr}{ta:TA}{p p2 p3 pos pos2 pos3:Pos}
end
end L2
namespace L2
open PySem PySem.Spec PyProof.Rows
section
variable{prog:Program}{w:World}{A:Around}{E:Value→Shared→Prop}{s:Shared}
end
section
variable{X:Cx}{K:PySem.W.Frag}{es:List Expr}{k0:Nat}{tp:Pos}{a:Expr}{ta:TA}{p pos:Pos}
end
end L2
namespace L2
open PySem PySem.Spec PyProof.Rows
section
variable{prog:Program}{w:World}{A:Around}{E:Value→Shared→Prop}{s:Shared}
end
section
variable{prog:Program}{w:World}{A:Around}{E:Value→Shared→Prop}{s:Shared}
end
section
variable{prog:Program}{w:World}{A:Around}{E:Value→Shared→Prop}{s:Shared}
end
end L2
namespace L2
open PySem PySem.Spec PyProof.Rows
theorem rR{X:Cx}{ix:Nat}{nm:Str}{posn poss:Pos}{elt iter tg:Expr}{ifs:List Expr}{scope:Scope}{pos:Pos}{wi:TI}{g:TG}{tc:TT}{te:TE}(sc0:Scope)(N0:List Str)(cp:List (Nat × Str))(tgN:List Str)
    (hc:X.calm=true)(hsc:X.env.scope=sc0)(hN0:X.N=N0)(hi:PI X tg iter wi)
    (hg:∀C s0 H0 fp,PG (aN X scope cp tgN C s0 H0 fp) tg g)
    (ht:∀C s0 H0 fp,uS (aN X scope cp tgN C s0 H0 fp) ifs tc)
    (he:∀C s0 H0 fp,PE (aN X scope cp tgN C s0 H0 fp) elt te)
    (hk:scope.kind=.function)(hcell:∀y∈scope.names,y.2≠.cell)(hnames:∀y∈scope.names,y.2=.local→scope.names.lookup y.1=some .local)
    (hfr:∀y∈scope.names,y.2=.free→scope.names.lookup y.1=some .free∧sc0.names.lookup y.1=some .cell)
    (hcp:∀p∈cp,N0[p.1]?=some p.2)(hcq:∀p∈cp,sc0.names.lookup p.2=some .cell∧scope.names.lookup p.2=some .free)
    (hNd:X.N.Nodup)(hix:X.N[ix]?=some nm)(hlc:X.env.scope.names.lookup nm=some .local)(hsw:swapsWith (.ListComp elt [⟨tg,iter,ifs,0⟩] scope pos) (some (.Name nm posn)) poss.line X.env=pure true)
    (hs:∀x,foldedSetIterable iter X.env x=pure x:=by intro _;rfl):
    PS X (.Assign [.Name nm posn] (.ListComp elt [⟨tg,iter,ifs,0⟩] scope pos) poss) (BS (tD cp tgN.length wi g tc te) (vJ ix)):=by
  intro pins s σ H D0 I h
  let Q:VK:=fun x H1=>D0.nx (σ.set ix (some x)) H1
  have h:tD cp tgN.length wi g tc te σ H Q:=h
  have hkind:∀x,X.env.kindOf x=sc0.names.lookup x:=fun x=>by unfold Env.kindOf;rw [hsc]
  have hfree:∀y∈scope.names,y.2=.free→∃c,X.env.cells.lookup y.1=some c:=fun y hy e=>I.ok.has y.1 (.inl (by rw [hkind];exact(hfr y hy e).2))
  rw [exec_Assign_Name_used _ _ _ _ hsw]
  refine wpAny_bind (wpAny_standAt (wpAny_bind ?_))
  unfold evalThenUse
  refine wpAny_bind ?_
  refine wpAny_comprehension_free (use:=some (assign (.Name nm posn) X.env)) rfl hs (lQ hfree) hk hnames (wpAny_mono (hi pins s σ H _ I h.go) (fun xv s₁ h₁=>wpAny_mono h₁ (fun itv s₂ h₂=>?_) fun _ _ e=>e) fun _ _ e=>e)
  obtain⟨it,fp,tn,J,H2,rfl,I2,T,st2,f2,hq⟩:=h₂
  refine wpAny_newObj_type ?_
  have hlF:H2 s₂.heap.objs.size=none:=I2.hok.fresh (Nat.le_refl _)
  have I3:aB X pins σ (bw H2 s₂.heap.objs.size (.lst [])) {s₂ with heap:=s₂.heap.push {cls:=.type "list",data:=.seq ([]:List Value).toArray}}:=I2.lnew (t':=s₂.toks) .nil (Nat.zero_le _)
  obtain⟨W,⟨m0,w0⟩,turn⟩:=hq _ hlF
  have f3:∀b∈fp,jw X pins (bw H2 s₂.heap.objs.size (.lst [])) b:=fun b hb=>by
    obtain⟨f0,fr⟩:=f2 b hb
    obtain⟨o,ho,_⟩:=T.obj _ _ st2 b hb
    exact⟨by rw [aQ (Nat.ne_of_lt (Heap.lt_size ho))];exact f0,fr⟩
  have st3:tn 0 (s₂.heap.push {cls:=.type "list",data:=.seq ([]:List Value).toArray}):=T.keep _ _ _ st2 fun b _ o e=>Heap.get?_push_of_some _ e
  generalize hD:s₂.heap.objs.size=D at*
  generalize hs3:({s₂ with heap:=s₂.heap.push {cls:=.type "list",data:=.seq ([]:List Value).toArray}}:Shared)=s₃ at*
  have hst3:tn 0 s₃.heap:=by rw [←hs3];exact st3
  refine wpAny_newFunctionEnv hcell (by intro y hy;simp at hy) (fun h₁ hns₁ hsb₁=>?_) hk
  generalize hC:s₃.heap.objs.size=C at*
  have old:∀b o,s₃.heap.get? b=some o→h₁.get? b=some o:=fun b o e=>hsb₁.extBut b o (by rw [←hC];exact Nat.ne_of_lt (Heap.lt_size e)) (Heap.get?_push_of_some _ e)
  have nC:∀b o,s₃.heap.get? b=some o→b≠C:=fun b o e=>by rw [←hC];exact Nat.ne_of_lt (Heap.lt_size e)
  have hHC:(bw H2 D (.lst [])) C=none:=I3.hok.fresh (by rw [hC];exact Nat.le_refl _)
  have clS:∀x c,(h_ X.env scope.names []).lookup x=some c→X.env.cells.lookup x=some c:=fun x c e=>ja _ _ x c hfree (fun _ _ z=>by simp at z) e
  have clH:∀x,(∃y∈scope.names,y.1=x∧y.2=.free)→∃c,(h_ X.env scope.names []).lookup x=some c:=fun x e=>lP _ _ x (.inl e)
  have ok':(aN X scope cp tgN C s₃ (bw H2 D (.lst [])) fp).Ok:=by
    refine⟨I.ok.mod,hk,I.ok.glob,I.ok.blt,by rw [←hC];exact Nat.le_refl _,fun x y c e1 e2=>I.ok.inj x y c (clS _ _ e1) (clS _ _ e2),fun x e=>clH x (dk hcell e),fun x c e1 e2=>?_,I.ok.hd,I.ok.frames,.inl rfl,fun b hb=>?_,fun b o e=>I3.bs b o e,?_,fun b o e hb=>?_,fun b hb z=>?_,I3.stack,fun b hb=>I3.stkFree b hb⟩
    · exfalso
      have e1':scope.names.lookup x=some .local:=by simpa [aN] using e1
      have e2':=clS x c e2
      obtain⟨c',hc'⟩:∃y∈scope.names,y.1=x∧y.2=.free:=by
        by_cases q:∃y∈scope.names,y.1=x∧y.2=.free
        · exact q
        · exfalso
          have:∀(names:List (Str × NameKind)) (cs:List (Str × Addr)),(¬∃y∈names,y.1=x∧y.2=.free)→cs.lookup x=none→(h_ X.env names cs).lookup x=none:=by
            intro names
            induction names with
            | nil=>intro cs _ h;exact h
            | cons y r ih=>
              intro cs hn hcs
              obtain⟨n,k⟩:=y
              refine ih _ (fun⟨y,hy,z⟩=>hn ⟨y,List.mem_cons_of_mem _ hy,z⟩) ?_
              by_cases hk:(k==NameKind.free)=true
              · rw [if_pos hk,List.lookup_cons]
                cases hx:x==n with
                | true=>exact absurd ⟨(n,k),List.mem_cons_self,(by simpa using hx:x=n).symm,by simpa using hk⟩ hn
                | false=>exact hcs
              · rw [if_neg hk];exact hcs
          have z:=this scope.names [] q rfl
          have e2'':(h_ X.env scope.names []).lookup x=some c:=e2
          rw [z] at e2'';cases e2''
      have z:=(hfr c' hc'.1 hc'.2.2).1
      rw [hc'.2.1,e1'] at z;cases z
    · obtain⟨f0,f1,f4,f5,f6,f7⟩:=f3 b hb
      obtain⟨o,ho,_⟩:=T.obj _ _ hst3 b hb
      exact⟨nC b o ho,fun x c e=>f6 x c (clS x c e)⟩
    · exact Nat.le_trans I.ok.bsz I3.sz
    · obtain⟨f0,f1,f4,f5,f6,f7⟩:=f3 b hb
      rcases f5 with z | z
      · exact I.ok.noex b o e z
      · have:=(I.ok.bs b o e).1
        exact absurd (Nat.lt_of_lt_of_le (Heap.lt_size this) z) (Nat.lt_irrefl _)
    · obtain⟨f0,f1,f4,f5,f6,f7⟩:=f3 b hb
      rcases List.mem_cons.mp (I3.stkSub b z) with z | z
      · exact f1 z
      · exact f4 z
  have I4:aB (aN X scope cp tgN C s₃ (bw H2 D (.lst [])) fp) [] (gA cp tgN.length σ) (bw H2 D (.lst [])) {s₃ with heap:=h₁,toks:=s₃.toks+([]:List (Str × Value)).length}:=by
    refine⟨ok',rfl,I3.bare,Un.kept old,⟨_,hns₁,fun i x v e1 e2 e3=>?_⟩,fun x c e=>?_,hHC,fun x c e=>I3.freeC x c (clS x c e),fun p hp=>by simp [aN] at hp,I3.hok.kept old,by simp [gA,aN]⟩
    · have hlt:i < cp.length:=by
        by_cases q:i < cp.length
        · exact q
        · exfalso
          unfold gA at e2
          rw [List.getElem?_append_right (by simp;lia)] at e2
          rw [List.getElem?_replicate] at e2
          split at e2<;>cases e2
      have e1':(cp.map (·.2))[i]?=some x:=by
        have e1'':(cp.map (·.2)++tgN)[i]?=some x:=e1
        rwa [List.getElem?_append_left (by simp;exact hlt)] at e1''
      have e2':(cp.map (fun p=>(σ[p.1]?).join))[i]?=some (some v):=by
        unfold gA at e2
        rwa [List.getElem?_append_left (by simp;exact hlt)] at e2
      rw [List.getElem?_map,List.getElem?_eq_getElem hlt] at e1' e2'
      have ex:(cp[i]).2=x:=by simpa using e1'
      have ev:(σ[(cp[i]).1]?).join=some v:=by simpa using e2'
      have ev':σ[(cp[i]).1]?=some (some v):=by
        cases q:σ[(cp[i]).1]? with
        | none=>rw [q] at ev;cases ev
        | some z=>rw [q] at ev;simp only [Option.join_some] at ev;rw [ev]
      have hN:=hcp cp[i] (List.getElem_mem hlt)
      rw [←hN0] at hN
      obtain⟨hcl,hcf⟩:=hcq cp[i] (List.getElem_mem hlt)
      rw [ex] at hN hcl hcf
      obtain⟨m,hn,hl⟩:=I3.loc
      obtain⟨u,r,l⟩:=hl _ x v hN ev' (.inr (.inl (by rw [hsc];exact hcl)))
      refine⟨u,r,.inr ?_⟩
      rcases l with ⟨k1,_⟩ | ⟨k1,c,hcc,o,ho,hd⟩
      · rw [hkind,hcl] at k1;cases k1
      · have e3':(relabel scope X.env).names.lookup x=some .local∨(relabel scope X.env).names.lookup x=some .cell∨(relabel scope X.env).names.lookup x=some .free:=e3
        have nl:(relabel scope X.env).names.lookup x=some .cell∨(relabel scope X.env).names.lookup x=some .free:=by
          rcases e3' with z | z | z
          · exact absurd z (dU hcf)
          · exact .inl z
          · exact .inr z
        obtain⟨c',hc'⟩:=clH x (dk hcell nl)
        have:=clS x c' hc'
        rw [hcc] at this;cases this
        exact⟨nl,c,hc',o,old c o ho,hd⟩
    · obtain⟨v,o,ho,hd⟩:=I3.cell x c (clS x c e)
      exact⟨v,o,old c o ho,hd⟩
  have hst4:tn 0 h₁:=T.keep _ _ _ hst3 fun b _ o e=>old b o e
  have loop:codeAny (model X.prog X.w) X.A (.compLoop (.ListComp elt [⟨tg,iter,ifs,0⟩] scope pos) 0 (.ref it) (.ref D) (compEnvC scope (h_ X.env scope.names []) C X.env))
      (compPost (model X.prog X.w) X.A X.xe (some (assign (.Name nm posn) X.env)) (fun _ s'=>wpAny (model X.prog X.w) X.A (pure ()) (fun _ s''=>wpAny (model X.prog X.w) X.A (pure Flow.next) (SP X pins D0) X.xe s'') X.xe s') (.ref D) C) {s₃ with heap:=h₁,toks:=s₃.toks+([]:List (Str × Value)).length}:=by
    refine jD (fun n s'=>∃i σ' H',aB (aN X scope cp tgN C s₃ (bw H2 D (.lst [])) fp) [] σ' H' s'∧tn i s'.heap∧(∀b∈fp,H' b=none)∧W i n σ' H') ?_ (n0:=m0) ⟨0,_,_,I4,hst4,fun b hb=>(f3 b hb).1,w0⟩
    rintro n s5 ⟨i,σ5,H5,I5,st5,fr5,w5⟩
    have stat:∀{H':Hp},(∀b∈fp,H' b=none)→∀b∈fp,jw (aN X scope cp tgN C s₃ (bw H2 D (.lst [])) fp) [] H' b:=fun hn b hb=>
      ⟨hn b hb,(ok'.exf b hb).1,ok'.exfs b hb,.inl hb,(ok'.exf b hb).2,fun p hp=>by simp [aN] at hp⟩
    rcases turn i n σ5 H5 w5 with ⟨stop,qn⟩ | ⟨go,N,hN,step⟩
    · refine cT (T.done (aN X scope cp tgN C s₃ (bw H2 D (.lst [])) fp) rfl rfl rfl hc i [] s5 σ5 H5 (fun _ _=>False) I5 (stat fr5) st5 stop) fun r s6 ⟨hr,I6⟩=>?_
      subst hr
      refine⟨fun _=>?_,fun v z=>by cases z⟩
      obtain⟨m,hn,_⟩:=I6.loc
      have I7:aB X pins σ H5 s6:=by
        have key:∀h':Heap,Heap.SameBut C s6.heap h'→aB X pins σ H5 {s6 with heap:=h'}:=fun h' sb=>by
          have ub:=I6.base
          have kp:∀b u,b≠C→s6.heap.get? b=some u→h'.get? b=some u:=fun b u ne e=>sb.extBut b u ne e
          have nit:∀b u,H5 b=some u→b≠C:=fun b u e z=>by
            have:=I6.free
            rw [z] at e
            rw [show H5 C=none from this] at e;cases e
          refine I3.call' (s':={s6 with heap:=h'}) (ch:=fp) I6.os ⟨fun b o e n hb hx=>kp b o (nC b o e) (ub.keep b o e n hb hx),fun b o e n hb hx=>?_,ub.free,fun b o e hx=>?_,ub.tups,ub.frzs,ub.tbls⟩ (fun b u e=>?_) I6.bare (fun b hb=>?_)
          · obtain⟨sl,q⟩:=ub.slot b o e n hb hx
            exact⟨sl,kp b _ (nC b o e) q⟩
          · obtain⟨o',q⟩:=ub.there b o e hx
            exact⟨o',kp b _ (nC b o e) q⟩
          · refine(I6.hok b u e).stay (fun c v hc q=>kp c v ?_ q) (fun _ q=>q) fun _ _ q=>q
            rcases hc with z | z
            · rw [z];exact nit b u e
            · exact nit c _ z
          · obtain⟨f0,f1,f4,f5,f6,f7⟩:=f3 b hb
            exact⟨f5,f1,f6,f7⟩
        exact key s6.heap ⟨rfl,fun _ _=>rfl⟩
      have fC:jw X pins H5 C:=I3.fpOk (by rw [hC];exact Nat.le_refl _) I6.free
      show wpAny (model X.prog X.w) X.A (assign (.Name nm posn) X.env (.ref D)) _ X.xe s6
      refine wpAny_assign_Name (nZ (v:=.ref D) I7 hNd hix (Or.inl hlc) rfl (fun s' I' hsb=>?_) (Or.inr hlc))
      obtain⟨a,sb,ha⟩:=hsb
      have nCa:C≠a:=by
        rcases ha with z | z
        · rw [z];exact fC.2.1
        · exact fun e=>fC.2.2.2.2.1 _ _ z e.symm
      obtain⟨oN,esN,epN,hoN,rN⟩:=hn
      refine⟨m,⟨oN,esN,epN,(sb.2 C nCa).trans hoN,rN⟩,fun h' sb'=>wpAny_pure (wpAny_pure ?_)⟩
      have I8:aB X pins (σ.set ix (some (.ref D))) H5 {s' with heap:=h',toks:=s'.toks}:=I'.turnedL (t':=s'.toks) (fp:=[C]) (fun b hb=>by rw [List.mem_singleton.mp hb];exact fC) fun b o nb e=>sb'.extBut b o (by simpa using nb) e
      exact⟨_,H5,I8,qn⟩
    · refine cT (T.item (aN X scope cp tgN C s₃ (bw H2 D (.lst [])) fp) rfl rfl rfl hc i [] s5 σ5 H5 (fun _ _=>False) I5 (stat fr5) st5 go) fun r s6 ⟨u,hr,h6⟩=>?_
      subst hr
      refine⟨fun z=>(by cases z),fun v z=>?_⟩
      cases z
      refine cT h6 fun _ s7 ⟨x,H7,I7,r7,y7,st7,fr7⟩=>?_
      have I7':=I7.pinned (stat fr7) (T.obj _ _ st7)
      have again:∀{σ8:L2.St} {H8:Hp} {s8:Shared},aB (aN X scope cp tgN C s₃ (bw H2 D (.lst [])) fp) ([]++kh fp s7.heap) σ8 H8 s8→N σ8 H8→∃m,m < n∧∃i σ' H',aB (aN X scope cp tgN C s₃ (bw H2 D (.lst [])) fp) [] σ' H' s8∧tn i s8.heap∧(∀b∈fp,H' b=none)∧W i m σ' H':=fun{σ8 H8 s8} I8 n8=>by
        obtain⟨m',hm,w8⟩:=hN σ8 H8 n8
        refine⟨m',hm,i+1,σ8,H8,I8.unpinned,T.keep _ _ _ st7 fun b hb o e=>(I8.pin (b,o) (List.mem_append_right _ (List.mem_append_right _ (dA hb e)))).1,fun b hb=>?_,w8⟩
        obtain⟨o,e,d⟩:=T.obj _ _ st7 b hb
        exact(I8.pin (b,o) (List.mem_append_right _ (List.mem_append_right _ (dA hb e)))).2.1
      refine cT (hg C s₃ (bw H2 D (.lst [])) fp _ s7 σ5 H7 x u _ I7' r7 (step x H7 y7)) fun _ s8 ⟨σ8,H8,I8,q8⟩=>?_
      refine cT (ht C s₃ (bw H2 D (.lst [])) fp _ s8 σ8 H8 _ I8 q8) fun ok s9 ⟨H9,I9,q9⟩=>?_
      cases ok with
      | false=>
        rw [if_neg Bool.false_ne_true] at q9 ⊢
        exact again I9 q9
      | true=>
        rw [if_pos rfl] at q9 ⊢
        refine cT (he C s₃ (bw H2 D (.lst [])) fp _ s9 σ8 H9 _ I9 q9) fun v s10 ⟨xv,H10,I10,r10,ys,hl,hz,n10⟩=>?_
        refine cT (kg _ s10 σ8 H10 (.ref D) [xv] (.ref D) [v] (fun _ H=>N σ8 H) I10 rfl (.cons r10 .nil) ⟨D,ys,xv,rfl,rfl,hl,hz,n10⟩) fun _ s11 ⟨_,H11,I11,_,q11⟩=>?_
        exact again I11 q11
  exact codeAny_compStart_list loop (T.self X.A 0 _ _ _ hst4 loop)
end L2
namespace L2
open PySem PySem.Spec PyProof.Rows
mutual
def DA(K:PySem.W.Frag)(F:Hp):PyData→V→Prop
  | .none,v=>v=.non
  | .bool b,v=>v=.bl b
  | .int i,v=>v=.int i
  | .str x,v=>v=.str x
  | .tuple ds,v=>∃a xs,v=.ref a∧cP K F a xs∧aF K F ds xs
  | .list ds,v=>∃a xs,v=.ref a∧i_ K F a xs∧aF K F ds xs
  | .dict kvs,v=>∃(a:Addr) (m:List (Int × Int)),v=.ref a∧F a=some (.dK (m.map fun p=>(Sum.inl p.1,V.int p.2)))∧kvs=m.map fun p=>(PyData.int p.1,PyData.int p.2)
def aF(K:PySem.W.Frag)(F:Hp):List PyData→List V→Prop
  | [],xs=>xs=[]
  | d::ds,xs=>∃x r,xs=x::r∧DA K F d x∧aF K F ds r
end
mutual
theorem DA.mono{K:PySem.W.Frag}{F F':Hp}(h:aw F F'):∀{d:PyData} {v:V},DA K F d v→DA K F' d v
  | .none,_,q=>by simp only [DA] at q ⊢;exact q
  | .bool b,_,q=>by simp only [DA] at q ⊢;exact q
  | .int i,_,q=>by simp only [DA] at q ⊢;exact q
  | .str x,_,q=>by simp only [DA] at q ⊢;exact q
  | .tuple ds,_,q=>by
    simp only [DA] at q ⊢
    obtain⟨a,xs,e,s,r⟩:=q
    exact⟨a,xs,e,h.tup s,aF.mono h r⟩
  | .list ds,_,q=>by
    simp only [DA] at q ⊢
    obtain⟨a,xs,e,s,r⟩:=q
    exact⟨a,xs,e,h.seq s,aF.mono h r⟩
  | .dict _,_,q=>by
    simp only [DA] at q ⊢
    obtain⟨a,m,e,s,k⟩:=q
    exact⟨a,m,e,h _ _ s,k⟩
theorem aF.mono{K:PySem.W.Frag}{F F':Hp}(h:aw F F'):∀{ds:List PyData} {xs:List V},aF K F ds xs→aF K F' ds xs
  | [],_,q=>by simp only [aF] at q ⊢;exact q
  | d::ds,_,q=>by
    simp only [aF] at q ⊢
    obtain⟨x,r,e,a,b⟩:=q
    exact⟨x,r,e,DA.mono h a,aF.mono h b⟩
end
section
variable{K:PySem.W.Frag}{F:Hp}
theorem aF.len:∀{ds:List PyData} {xs:List V},aF K F ds xs→ds.length=xs.length
  | [],_,q=>by simp only [aF] at q;subst q;rfl
  | d::ds,_,q=>by
    simp only [aF] at q
    obtain⟨x,r,e,a,b⟩:=q
    subst e
    simp [aF.len b]
theorem aF.get:∀{ds:List PyData} {xs:List V} {i:Nat} {d:PyData},aF K F ds xs→ds[i]?=some d→∃v,xs[i]?=some v∧DA K F d v
  | [],_,_,_,_,h=>by simp at h
  | d::ds,_,i,d',q,h=>by
    simp only [aF] at q
    obtain⟨x,r,e,a,b⟩:=q
    subst e
    cases i with
    | zero=>simp at h;subst h;exact⟨x,rfl,a⟩
    | succ i=>
      obtain⟨v,h1,h2⟩:=aF.get (i:=i) b (by simpa using h)
      exact⟨v,by simpa using h1,h2⟩
theorem aF.append:∀{ds es:List PyData} {xs ys:List V},aF K F ds xs→aF K F es ys→aF K F (ds++es) (xs++ys)
  | [],_,_,_,q,s=>by simp only [aF] at q;subst q;simpa using s
  | d::ds,es,_,ys,q,s=>by
    simp only [aF] at q
    obtain⟨x,r,e,a,b⟩:=q
    subst e
    simp only [List.cons_append,aF]
    exact⟨x,_,rfl,a,aF.append b s⟩
theorem aF.one{d:PyData}{v:V}(h:DA K F d v):aF K F [d] [v]:=by simp only [aF];exact⟨_,_,rfl,h,rfl⟩
theorem aF.nil:aF K F [] []:=by simp only [aF]
theorem aF.cons{d:PyData}{v:V}{ds:List PyData}{vs:List V}(h:DA K F d v)(r:aF K F ds vs):aF K F (d::ds) (v::vs):=by simp only [aF];exact⟨_,_,rfl,h,r⟩
theorem aF.drop:∀{ds:List PyData} {xs:List V} (n:Nat),aF K F ds xs→aF K F (ds.drop n) (xs.drop n)
  | _,_,0,q=>q
  | [],_,n+1,q=>by simp only [aF] at q;subst q;exact aF.nil
  | d::ds,_,n+1,q=>by
    simp only [aF] at q
    obtain⟨x,r,e,a,b⟩:=q
    subst e
    simpa using aF.drop n b
theorem aF.take:∀{ds:List PyData} {xs:List V} (n:Nat),aF K F ds xs→aF K F (ds.take n) (xs.take n)
  | _,_,0,q=>by simpa using aF.nil
  | [],_,n+1,q=>by simp only [aF] at q;subst q;exact aF.nil
  | d::ds,_,n+1,q=>by
    simp only [aF] at q
    obtain⟨x,r,e,a,b⟩:=q
    subst e
    simpa using aF.cons a (aF.take n b)
theorem aF.set{d:PyData}{v:V}(h:DA K F d v):∀{ds:List PyData} {xs:List V} (n:Nat),aF K F ds xs→aF K F (ds.set n d) (xs.set n v)
  | [],_,_,q=>by simp only [aF] at q;subst q;exact aF.nil
  | e::ds,_,n,q=>by
    simp only [aF] at q
    obtain⟨x,r,e,a,b⟩:=q
    subst e
    cases n with
    | zero=>exact aF.cons h b
    | succ n=>exact aF.cons a (aF.set h n b)
theorem aF.erase:∀{ds:List PyData} {xs:List V} (n:Nat),aF K F ds xs→aF K F (ds.eraseIdx n) (xs.eraseIdx n)
  | [],_,_,q=>by simp only [aF] at q;subst q;exact aF.nil
  | e::ds,_,n,q=>by
    simp only [aF] at q
    obtain⟨x,r,e,a,b⟩:=q
    subst e
    cases n with
    | zero=>exact b
    | succ n=>exact aF.cons a (aF.erase n b)
theorem aF.ints:∀{ns:List Int} {xs:List V},aF K F (ns.map .int) xs↔ xs=ns.map V.int
  | [],xs=>by simp [aF]
  | n::ns,xs=>by
    simp only [List.map_cons,aF,DA]
    constructor
    · rintro⟨x,r,e,rfl,q⟩;rw [e,aF.ints.mp q]
    · rintro rfl;exact⟨_,_,rfl,rfl,aF.ints.mpr rfl⟩
theorem dw{i:Int}{v:V}:DA K F (.int i) v↔ v=.int i:=by simp only [DA]
theorem fv{b:Bool}{v:V}:DA K F (.bool b) v↔ v=.bl b:=by simp only [DA]
theorem sD{v:V}:DA K F .none v↔ v=.non:=by simp only [DA]
theorem Az{x:Str}{v:V}:DA K F (.str x) v↔ v=.str x:=by simp only [DA]
theorem bW{ds:List PyData}{v:V}:DA K F (.tuple ds) v↔ ∃a xs,v=.ref a∧cP K F a xs∧aF K F ds xs:=by simp only [DA]
theorem dQ{ds:List PyData}{v:V}:DA K F (.list ds) v↔ ∃a xs,v=.ref a∧i_ K F a xs∧aF K F ds xs:=by simp only [DA]
end
inductive Sv where
  | d (x:PyData)
  | l (xs:List PyData)
  /-- a list of lists that nobody else holds -/
  | n (xss:List (List PyData))
abbrev En:=List (Option Sv)
inductive Rv where
  | d (x:PyData)
  | l (xs:List PyData)
  | s (i:Nat)
def Fp(σ:L2.St)(e:En)(H:Hp)(i:Nat)(a:Addr):Prop:=(∃xs:List PyData,e[i]?=some (some (Sv.l xs))∧σ[i]?=some (some (.ref a)))∨
  ∃(xss:List (List PyData)) (l:Addr) (bs:List Addr),e[i]?=some (some (Sv.n xss))∧σ[i]?=some (some (.ref l))∧H l=some (.lst (bs.map V.ref))∧(a=l∨a∈bs)
def cI(σ:L2.St)(e:En)(H:Hp)(a:Addr):Prop:=∃i,Fp σ e H i a
structure aZ (K:PySem.W.Frag) (F H:Hp) (σ:L2.St) (e:En):Prop where
  sm:aw F H
  len:σ.length=e.length
  dat:∀(i:Nat) (x:PyData),e[i]?=some (some (.d x))→∃v,σ[i]?=some (some v)∧DA K F x v
  own:∀(i:Nat) (xs:List PyData),e[i]?=some (some (.l xs))→∃l vs,σ[i]?=some (some (.ref l))∧F l=none∧H l=some (.lst vs)∧aF K F xs vs
  nst:∀(i:Nat) (xss:List (List PyData)),e[i]?=some (some (.n xss))→∃(l:Addr) (bs:List Addr),σ[i]?=some (some (.ref l))∧F l=none∧H l=some (.lst (bs.map V.ref))∧bs.length=xss.length∧bs.Nodup∧l∉bs∧
    ∀(k:Nat) (b:Addr) (ys:List PyData),bs[k]?=some b→xss[k]?=some ys→F b=none∧∃us,H b=some (.lst us)∧aF K F ys us
  fp:∀(i j:Nat) (a:Addr),Fp σ e H i a→Fp σ e H j a→i=j
theorem aZ.inj{K:PySem.W.Frag}{F H:Hp}{σ:L2.St}{e:En}(R:aZ K F H σ e)(i j:Nat)(xs ys:List PyData)(l:Addr)(h1:e[i]?=some (some (.l xs)))(h2:e[j]?=some (some (.l ys)))(h3:σ[i]?=some (some (.ref l)))(h4:σ[j]?=some (some (.ref l))):i=j:=R.fp i j l (.inl ⟨xs,h1,h3⟩) (.inl ⟨ys,h2,h4⟩)
theorem aZ.fpAt{K:PySem.W.Frag}{F H:Hp}{σ:L2.St}{e:En}(R:aZ K F H σ e){i:Nat}{a:Addr}(h:Fp σ e H i a):F a=none∧∃vs,H a=some (.lst vs):=by
  rcases h with ⟨xs,h1,h2⟩ | ⟨xss,l,bs,h1,h2,h3,h4⟩
  · obtain⟨l,vs,g1,g2,g3,_⟩:=R.own i xs h1
    rw [h2] at g1;cases g1
    exact⟨g2,vs,g3⟩
  · obtain⟨l',bs',g1,g2,g3,g4,g5,g6,g7⟩:=R.nst i xss h1
    rw [h2] at g1;cases g1
    rw [h3] at g3
    have e1:bs=bs':=by
      have:=HO.lst.inj (Option.some.inj g3)
      exact List.map_inj_right (fun _ _ z=>V.ref.inj z) |>.mp this
    subst e1
    rcases h4 with rfl | h4
    · exact⟨g2,_,h3⟩
    · obtain⟨k,hk⟩:=List.getElem?_of_mem h4
      have hk2:k < xss.length:=by rw [←g4];exact(List.getElem?_eq_some_iff.mp hk).1
      obtain⟨c1,us,c2,_⟩:=g7 k a xss[k] hk (List.getElem?_eq_getElem hk2)
      exact⟨c1,us,c2⟩
structure dY (σ:L2.St) (F H:Hp) (e:En) (F' H':Hp) (e':En):Prop where
  sf:aw F F'
  dom:∀a,H' a=none→H a=none
  fr:∀a vs,F a=none→H a=some (.lst vs)→¬cI σ e H a→F' a=none
  lst:∀a vs,H a=some (.lst vs)→∃vs',H' a=some (.lst vs')
  tmp:∀a o,H a=some o→¬cI σ e H a→H' a=some o
  shp:∀i:Nat,(∃xs,e'[i]?=some (some (.l xs)))↔ (∃xs,e[i]?=some (some (.l xs)))
  ow:∀a,cI σ e' H' a→cI σ e H a∨H a=none
theorem dY.refl(σ:L2.St)(F H:Hp)(e:En):dY σ F H e F H e:=⟨aw.refl _,fun _ h=>h,fun _ _ h _ _=>h,fun _ vs h=>⟨vs,h⟩,fun _ _ h _=>h,fun _=>Iff.rfl,fun _ h=>.inl h⟩
theorem dY.trans{σ:L2.St}{F H F1 H1 F2 H2:Hp}{e e1 e2:En}(x:dY σ F H e F1 H1 e1)(y:dY σ F1 H1 e1 F2 H2 e2):dY σ F H e F2 H2 e2:=
  ⟨x.sf.trans y.sf,fun a h=>x.dom a (y.dom a h),fun a vs h n no=>let ⟨vs',q⟩:=x.lst a vs n;y.fr a vs' (x.fr a vs h n no) q (fun z=>(x.ow a z).elim no fun z=>by rw [n] at z;cases z),fun a vs h=>let ⟨vs',q⟩:=x.lst a vs h;y.lst a vs' q,
    fun a o h n=>y.tmp a o (x.tmp a o h n) (fun z=>(x.ow a z).elim n fun z=>by rw [h] at z;cases z),fun i=>(y.shp i).trans (x.shp i),fun a h=>(y.ow a h).elim (x.ow a) fun z=>.inr (x.dom a z)⟩
def ck(K:PySem.W.Frag)(σ:L2.St)(H0 F H:Hp)(e:En):Rv→V→Prop
  | .d x,v=>DA K F x v
  | .l xs,v=>∃l vs,v=.ref l∧H0 l=none∧F l=none∧H l=some (.lst vs)∧aF K F xs vs∧¬cI σ e H l
  | .s i,v=>σ[i]?=some (some v)∧∃xs,e[i]?=some (some (.l xs))
section
variable{K:PySem.W.Frag}{σ:L2.St}{H0 F H F' H':Hp}{e e':En}{r:Rv}{v:V}
theorem ck.ext(h:ck K σ H0 F H e r v)(x:dY σ F H e F' H' e'):ck K σ H0 F' H' e' r v:=by
  cases r with
  | d y=>exact DA.mono x.sf h
  | l xs=>
    obtain⟨l,vs,e1,h1,h2,h3,h4,h5⟩:=h
    exact⟨l,vs,e1,h1,x.fr l _ h2 h3 h5,x.tmp l _ h3 h5,aF.mono x.sf h4,fun z=>(x.ow l z).elim h5 fun z=>by rw [h3] at z;cases z⟩
  | s i=>exact⟨h.1,(x.shp i).mpr h.2⟩
theorem ck.weak{H1:Hp}(h:ck K σ H1 F H e r v)(d:∀a,H1 a=none→H0 a=none):ck K σ H0 F H e r v:=by
  cases r with
  | d y=>exact h
  | l xs=>
    obtain⟨l,vs,e1,h1,r⟩:=h
    exact⟨l,vs,e1,d l h1,r⟩
  | s i=>exact h
theorem aZ.ownH(R:aZ K F H σ e)(a:Addr)(h:cI σ e H a):H a≠none:=by
  obtain⟨i,h⟩:=h
  obtain⟨_,vs,h2⟩:=R.fpAt h
  rw [h2];simp
theorem aZ.freeF(R:aZ K F H σ e){p:Addr}(hp:H p=none):F p=none:=R.sm.free hp
theorem x_(R:aZ K F H σ e)(h:∀l bs,H l=some (.lst bs)→cI σ e H l→H' l=some (.lst bs)){i:Nat}{a:Addr}:Fp σ e H' i a↔ Fp σ e H i a:=by
  have key:∀xss l,e[i]?=some (some (.n xss))→σ[i]?=some (some (.ref l))→H' l=H l:=fun xss l h1 h2=>by
    obtain⟨l',bs,g1,g2,g3,_⟩:=R.nst i xss h1
    rw [h2] at g1;cases g1
    rw [g3]
    exact h l _ g3 ⟨i,.inr ⟨xss,l,bs,h1,h2,g3,.inl rfl⟩⟩
  constructor
  · rintro(h1 | ⟨xss,l,bs,h1,h2,h3,h4⟩)
    · exact .inl h1
    · exact .inr ⟨xss,l,bs,h1,h2,by rw [←key xss l h1 h2];exact h3,h4⟩
  · rintro(h1 | ⟨xss,l,bs,h1,h2,h3,h4⟩)
    · exact .inl h1
    · exact .inr ⟨xss,l,bs,h1,h2,by rw [key xss l h1 h2];exact h3,h4⟩
theorem aZ.keep(R:aZ K F H σ e)(sF:aw F F')(sm:aw F' H')(hf:∀a,cI σ e H a→F' a=none)(hh:∀a o,cI σ e H a→H a=some o→H' a=some o):aZ K F' H' σ e∧∀a,cI σ e H' a↔ cI σ e H a:=by
  have fs:∀{i a},Fp σ e H' i a↔ Fp σ e H i a:=fun{i a}=>x_ R fun l bs h1 h2=>hh l _ h2 h1
  refine⟨⟨sm,R.len,fun i x h=>let ⟨v,h1,h2⟩:=R.dat i x h;⟨v,h1,DA.mono sF h2⟩,fun i xs h=>?_,fun i xss h=>?_,fun i j a h1 h2=>R.fp i j a (fs.mp h1) (fs.mp h2)⟩,fun a=>⟨fun⟨i,h⟩=>⟨i,fs.mp h⟩,fun⟨i,h⟩=>⟨i,fs.mpr h⟩⟩⟩
  · obtain⟨l,vs,h1,h2,h3,h4⟩:=R.own i xs h
    have o:cI σ e H l:=⟨i,.inl ⟨xs,h,h1⟩⟩
    exact⟨l,vs,h1,hf l o,hh l _ o h3,h4.mono sF⟩
  · obtain⟨l,bs,h1,h2,h3,h4,h5,h6,h7⟩:=R.nst i xss h
    have o:cI σ e H l:=⟨i,.inr ⟨xss,l,bs,h,h1,h3,.inl rfl⟩⟩
    refine⟨l,bs,h1,hf l o,hh l _ o h3,h4,h5,h6,fun k b ys g1 g2=>?_⟩
    obtain⟨c1,us,c2,c3⟩:=h7 k b ys g1 g2
    have ob:cI σ e H b:=⟨i,.inr ⟨xss,l,bs,h,h1,h3,.inr (List.mem_of_getElem? g1)⟩⟩
    exact⟨hf b ob,us,hh b _ ob c2,c3.mono sF⟩
theorem aZ.same(R:aZ K F H σ e)(s:aw H H'):aZ K F H' σ e∧dY σ F H e F H' e:=by
  obtain⟨R',o'⟩:=R.keep (aw.refl F) (R.sm.trans s) (fun a ⟨i,h⟩=>(R.fpAt h).1) fun a o _ h=>s a o h
  exact⟨R',⟨aw.refl _,fun a h=>s.free h,fun _ _ h _ _=>h,fun a vs h=>⟨vs,s _ _ h⟩,fun a o h _=>s a o h,fun _=>Iff.rfl,fun a h=>.inl ((o' a).mp h)⟩⟩
theorem aZ.freeze(R:aZ K F H σ e){p:Addr}{o:HO}(hF:F p=none)(hp:H p=some o)(hn:¬cI σ e H p):aZ K (bw F p o) H σ e∧aw F (bw F p o):=by
  have sF:aw F (bw F p o):=aw.new hF
  refine⟨(R.keep sF (fun b u q=>?_) (fun a ha=>?_) fun _ _ _ h=>h).1,sF⟩
  · by_cases z:b=p
    · subst z;rw [aL] at q;cases q;exact hp
    · rw [aQ z] at q;exact R.sm _ _ q
  · obtain⟨i,hi⟩:=ha
    have z:a≠p:=fun z=>hn ⟨i,by rw [←z];exact hi⟩
    rw [aQ z];exact(R.fpAt hi).1
theorem aZ.notOwn(R:aZ K F H σ e){p:Addr}{o:HO}(hp:H p=some o)(hl:∀vs,o≠.lst vs):¬cI σ e H p:=fun⟨i,h⟩=>by
  obtain⟨_,vs,g⟩:=R.fpAt h
  rw [hp] at g;cases g
  exact hl _ rfl
theorem aZ.newT(R:aZ K F H σ e){p:Addr}{vs:List V}(hp:H p=none):aZ K (bw F p (.tup vs)) (bw H p (.tup vs)) σ e∧dY σ F H e (bw F p (.tup vs)) (bw H p (.tup vs)) e:=by
  have hF:=R.freeF hp
  obtain⟨R1,X1⟩:=R.same (aw.new hp (o:=.tup vs))
  obtain⟨R2,s2⟩:=R1.freeze (p:=p) hF aL (R1.notOwn aL (fun _ z=>nomatch z))
  refine⟨R2,⟨s2,X1.dom,fun a ws h n _=>?_,X1.lst,X1.tmp,X1.shp,X1.ow⟩⟩
  have z:a≠p:=fun z=>by rw [z,hp] at n;cases n
  rw [aQ z];exact h
theorem aZ.sameOwn(R:aZ K F H σ e)(s:aw H H')(a:Addr):cI σ e H' a↔ cI σ e H a:=(R.keep (aw.refl F) (R.sm.trans s) (fun a ⟨i,h⟩=>(R.fpAt h).1) fun a o _ h=>s a o h).2 a
theorem aZ.newL(R:aZ K F H σ e){p:Addr}{vs:List V}(hp:H p=none):aZ K F (bw H p (.lst vs)) σ e∧dY σ F H e F (bw H p (.lst vs)) e∧F p=none∧¬cI σ e (bw H p (.lst vs)) p:=
  ⟨(R.same (aw.new hp)).1,(R.same (aw.new hp)).2,R.freeF hp,fun z=>R.ownH p ((R.sameOwn (aw.new hp) p).mp z) hp⟩
theorem aZ.growT(R:aZ K F H σ e){p:Addr}{xs:List V}(s:aw H H')(hp:cP K H' p xs):∃F',aZ K F' H' σ e∧dY σ F H e F' H' e∧cP K F' p xs:=by
  obtain⟨R1,X1⟩:=R.same s
  rcases hp with hp | hp
  · have key:∀o,H' p=some o→(∀vs,o≠.lst vs)→(∀G:Hp,G p=some o→Rd G p (.tup xs))→∃F',aZ K F' H' σ e∧dY σ F H e F' H' e∧cP K F' p xs:=by
      intro o ho hl hr
      cases q:F p with
      | some u=>
        have:=R1.sm _ _ q
        rw [ho] at this;cases this
        exact⟨F,R1,X1,.inl (hr F q)⟩
      | none=>
        obtain⟨R2,s2⟩:=R1.freeze q ho (R1.notOwn ho hl)
        refine⟨_,R2,⟨s2,X1.dom,fun a ws h n _=>?_,X1.lst,X1.tmp,X1.shp,X1.ow⟩,.inl (hr _ aL)⟩
        have z:a≠p:=fun z=>by rw [z] at n;rw [s _ _ n] at ho;cases ho;exact hl _ rfl
        rw [aQ z];exact h
    rcases hp with hp | ⟨ob,hp⟩
    · exact key _ hp (fun _ z=>nomatch z) fun G g=>.inl g
    · exact key _ hp (fun _ z=>nomatch z) fun G g=>.inr ⟨ob,g⟩
  · exact⟨F,R1,X1,.inr hp⟩
theorem ck.frozen(R:aZ K F H σ e){xs:List PyData}(h:ck K σ H0 F H e (.l xs) v):∃F',aZ K F' H σ e∧aw F F'∧DA K F' (.list xs) v∧(∀a,F a=none→H0 a≠none→F' a=none):=by
  obtain⟨l,vs,rfl,h1,h2,h3,h4,h5⟩:=h
  obtain⟨R2,s2⟩:=R.freeze h2 h3 h5
  refine⟨_,R2,s2,?_,fun a ha hn=>?_⟩
  · rw [dQ]
    exact⟨l,vs,rfl,.inl (.inl aL),aF.mono s2 h4⟩
  · have z:a≠l:=fun z=>hn (by rw [z];exact h1)
    rw [aQ z];exact ha
def fU(e:En):Rv→Option (Bool × List PyData)
  | .d (.tuple xs)=>some (false,xs)
  | .d (.list xs)=>some (true,xs)
  | .l xs=>some (true,xs)
  | .s i=>match e[i]? with
    | some (some (.l xs))=>some (true,xs)
    | _=>none
  | _=>none
theorem eu(R:aZ K F H σ e)(h:ck K σ H0 F H e r v){b:Bool}{xs:List PyData}(q:fU e r=some (b,xs)):
    ∃p vs,v=.ref p∧aF K F xs vs∧(if b=true then i_ K H p vs else cP K H p vs):=by
  cases r with
  | d x=>
    cases x with
    | tuple ds=>
      cases q
      obtain⟨a,ys,e1,e2,e3⟩:=bW.mp h
      exact⟨a,ys,e1,e3,R.sm.tup e2⟩
    | list ds=>
      cases q
      obtain⟨a,ys,e1,e2,e3⟩:=dQ.mp h
      exact⟨a,ys,e1,e3,R.sm.seq e2⟩
    | _=>cases q
  | l ys=>
    cases q
    obtain⟨l,vs,e1,h1,h2,h3,h4,_⟩:=h
    exact⟨l,vs,e1,h4,.inl (.inl h3)⟩
  | s i=>
    obtain⟨h1,ys,h2⟩:=h
    simp only [fU,h2] at q
    cases q
    obtain⟨l,vs,e1,e2,e3,e4⟩:=R.own i _ h2
    rw [h1] at e1;cases e1
    exact⟨l,vs,rfl,e4,.inl (.inl e3)⟩
end
end L2
namespace L2
open PySem PySem.Spec PyProof.Rows
abbrev FE:=En→Option (Rv × En)
abbrev FT:=En→Option (Bool × En)
abbrev FA:=En→Option (List Rv × En)
def bT(K:PySem.W.Frag)(σ:L2.St)(H0 F H:Hp)(e:En):List Rv→List V→Prop
  | [],vs=>vs=[]
  | r::rs,vs=>∃v ws,vs=v::ws∧ck K σ H0 F H e r v∧bT K σ H0 F H e rs ws
def fE(K:PySem.W.Frag)(f:FE):TE:=fun σ H Q=>∃F e r e',aZ K F H σ e∧f e=some (r,e')∧∀F' H' v,dY σ F H e F' H' e'→aZ K F' H' σ e'→ck K σ H F' H' e' r v→Q v H'
def fT(K:PySem.W.Frag)(f:FT):TT:=fun σ H Q=>∃F e b e',aZ K F H σ e∧f e=some (b,e')∧∀F' H',dY σ F H e F' H' e'→aZ K F' H' σ e'→Q b H'
def fA(K:PySem.W.Frag)(f:FA):TA:=fun σ H Q=>∃F e rs e',aZ K F H σ e∧f e=some (rs,e')∧∀F' H' vs,dY σ F H e F' H' e'→aZ K F' H' σ e'→bT K σ H F' H' e' rs vs→Q vs H'
theorem PE.mono{X:Cx}{e:Expr}{t t':TE}(h:PE X e t)(m:∀σ H Q,t' σ H Q→t σ H Q):PE X e t':=fun pins s σ H Q I q=>h pins s σ H Q I (m σ H Q q)
theorem PT.mono{X:Cx}{e:Expr}{t t':TT}(h:PT X e t)(m:∀σ H Q,t' σ H Q→t σ H Q):PT X e t':=fun pins s σ H Q I q=>h pins s σ H Q I (m σ H Q q)
theorem PW.mono{X:Cx}{e:Expr}{t t':TT}(h:PW X e t)(m:∀σ H Q,t' σ H Q→t σ H Q):PW X e t':=fun wh pins s σ H Q I q=>h wh pins s σ H Q I (m σ H Q q)
theorem PA.mono{X:Cx}{es:List Expr}{t t':TA}(h:PA X es t)(m:∀σ H Q,t' σ H Q→t σ H Q):PA X es t':=fun pos pins s σ H Q I q=>h pos pins s σ H Q I (m σ H Q q)
section
variable{K:PySem.W.Frag}{σ:L2.St}{H0 F H F' H':Hp}{e e':En}
theorem bT.ext:∀{rs:List Rv} {vs:List V},bT K σ H0 F H e rs vs→dY σ F H e F' H' e'→bT K σ H0 F' H' e' rs vs
  | [],_,h,_=>h
  | r::rs,_,h,x=>by
    obtain⟨v,ws,rfl,h1,h2⟩:=h
    exact⟨v,ws,rfl,h1.ext x,bT.ext h2 x⟩
theorem bT.weak{H1:Hp}(d:∀a,H1 a=none→H0 a=none):∀{rs:List Rv} {vs:List V},bT K σ H1 F H e rs vs→bT K σ H0 F H e rs vs
  | [],_,h=>h
  | r::rs,_,h=>by
    obtain⟨v,ws,rfl,h1,h2⟩:=h
    exact⟨v,ws,rfl,h1.weak d,bT.weak d h2⟩
theorem dY.frz{F'':Hp}(x:dY σ F H e F' H' e')(s:aw F' F'')(h:∀a,F' a=none→H a≠none→F'' a=none):dY σ F H e F'' H' e':=
  ⟨x.sf.trans s,x.dom,fun a vs h1 h2 h3=>h a (x.fr a vs h1 h2 h3) (by rw [h2];simp),x.lst,x.tmp,x.shp,x.ow⟩
def i4:List Rv→Option (List PyData)
  | []=>some []
  | .d x::rs=>(i4 rs).map (x::·)
  | .l xs::rs=>(i4 rs).map (.list xs::·)
  | .s _::_=>none
theorem bT.frozen:∀{rs:List Rv} {vs:List V} {ds:List PyData} {F:Hp},aZ K F H σ e→bT K σ H0 F H e rs vs→i4 rs=some ds→
    ∃F',aZ K F' H σ e∧aw F F'∧aF K F' ds vs∧(∀a,F a=none→H0 a≠none→F' a=none)
  | [],_,_,F,R,h,q=>by
    cases q
    have h':_=[]:=h
    subst h'
    exact⟨F,R,aw.refl _,aF.nil,fun _ h _=>h⟩
  | .d x::rs,_,ds,F,R,h,q=>by
    obtain⟨v,ws,rfl,h1,h2⟩:=h
    obtain⟨ds',q1,rfl⟩:=Option.map_eq_some_iff.mp q
    obtain⟨F',R',s',d',f'⟩:=bT.frozen R h2 q1
    exact⟨F',R',s',.cons (DA.mono s' h1) d',f'⟩
  | .l xs::rs,_,ds,F,R,h,q=>by
    obtain⟨v,ws,rfl,h1,h2⟩:=h
    obtain⟨ds',q1,rfl⟩:=Option.map_eq_some_iff.mp q
    obtain⟨F',R',s',d',f'⟩:=bT.frozen R h2 q1
    obtain⟨l,us,rfl,g1,g2,g3,g4,g5⟩:=h1
    cases hl:F' l with
    | none=>
      have h1':ck K σ H0 F' H e (.l xs) (.ref l):=⟨l,us,rfl,g1,hl,g3,aF.mono s' g4,g5⟩
      obtain⟨F2,R2,s2,d2,f2⟩:=h1'.frozen R'
      exact⟨F2,R2,s'.trans s2,.cons d2 (aF.mono s2 d'),fun a ha hn=>f2 a (f' a ha hn) hn⟩
    | some o=>
      have:=R'.sm _ _ hl
      rw [g3] at this;cases this
      exact⟨F',R',s',.cons (dQ.mpr ⟨l,us,rfl,.inl (.inl hl),aF.mono s' g4⟩) d',f'⟩
end
section
variable{X:Cx}{K:PySem.W.Frag}{a b c:Expr}{fa fb:FE}{ft fu:FT}{pos:Pos}{es:List Expr}{fs:FA}
def ae(i:Nat):FE:=fun e=>match e[i]? with
  | some (some (.d x))=>some (.d x,e)
  | some (some (.l _))=>some (.s i,e)
  | _=>none
def vC(x:PyData):FE:=fun e=>some (.d x,e)
theorem zF{i:Nat}{σ:L2.St}{H:Hp}{Q:VK}(h:fE K (ae i) σ H Q):DC i σ H Q:=by
  obtain⟨F,e,r,e',R,hf,q⟩:=h
  unfold ae at hf
  match h1:e[i]?,hf with
  | some (some (.d x)),hf=>
    cases hf
    obtain⟨v,h2,h3⟩:=R.dat i x h1
    exact⟨v,h2,q F H v (dY.refl _ _ _ _) R h3⟩
  | some (some (.n _)),hf=>cases hf
  | some (some (.l xs)),hf=>
    cases hf
    obtain⟨l,vs,h2,h3⟩:=R.own i xs h1
    exact⟨_,h2,q F H _ (dY.refl _ _ _ _) R ⟨h2,xs,h1⟩⟩
  | some none,hf=>cases hf
  | none,hf=>cases hf
theorem qv(i:Nat){x:Str}{pos:Pos}(hN:X.N[i]?=some x)(hv:Cs X.env.scope x)(hd:(x==("__debug__":Str))=false)(hcd:(x==("__classdict__":Str))=false):PE X (.Name x pos) (fE K (ae i)):=(Bm hN hv hd hcd).mono fun _ _ _ h=>zF h
theorem xB{x:PyData}{v:V}{σ:L2.St}{H:Hp}{Q:VK}(hx:∀F,DA K F x v)(h:fE K (vC x) σ H Q):tC v σ H Q:=by
  obtain⟨F,e,r,e',R,hf,q⟩:=h
  cases hf
  exact q F H v (dY.refl _ _ _ _) R (hx F)
theorem ab{i j pos}:PE X (.Constant (.int i) j pos) (fE K (vC (.int i))):=Bj.mono fun _ _ _ h=>xB (fun _=>dw.mpr rfl) h
theorem sS{b j pos}:PE X (.Constant (.bool b) j pos) (fE K (vC (.bool b))):=C3.mono fun _ _ _ h=>xB (fun _=>fv.mpr rfl) h
theorem y_{x:Str}{v:V}{u:Value}{pos:Pos}{y:PyData}(hg:Gl X x)(hm:X.mg x=some u)(r:bz v u)(hy:∀F,DA K F y v)(hd:(x==("__debug__":Str))=false):PE X (.Name x pos) (fE K (vC y)):=(yJ hg hm r hd).mono fun _ _ _ h=>xB hy h
def iK(K:PySem.W.Frag)(r:R2)(g:En→Rv→Rv→Option Rv):Prop:=
  ∀(σ:L2.St) (H0 F H:Hp) (e:En) (x y z:Rv) (v u:V) (Q:VK),aZ K F H σ e→ck K σ H0 F H e x v→ck K σ H0 F H e y u→g e x y=some z→
    (∀F' H' w,dY σ F H e F' H' e→aZ K F' H' σ e→ck K σ H F' H' e z w→Q w H')→r v u H Q
def aq(g:En→Rv→Rv→Option Rv)(fa fb:FE):FE:=fun e=>(fa e).bind fun p=>(fb p.2).bind fun q=>(g q.2 p.1 q.1).map fun z=>(z,q.2)
theorem pE{r:R2}{g:En→Rv→Rv→Option Rv}(ho:iK K r g){σ:L2.St}{H:Hp}{Q:VK}(h:fE K (aq g fa fb) σ H Q):Dy r (fE K fa) (fE K fb) σ H Q:=by
  obtain⟨F,e,z,e2,R,hf,q⟩:=h
  unfold aq at hf
  obtain⟨⟨x,e1⟩,h1,hf⟩:=Option.bind_eq_some_iff.mp hf
  obtain⟨⟨y,e2'⟩,h2,hf⟩:=Option.bind_eq_some_iff.mp hf
  obtain⟨z',h3,hf⟩:=Option.map_eq_some_iff.mp hf
  cases hf
  refine⟨F,e,x,e1,R,h1,fun F1 H1 v X1 R1 A1=>⟨F1,e1,y,_,R1,h2,fun F2 H2 u X2 R2 A2=>?_⟩⟩
  have X12:=X1.trans X2
  refine ho σ H F2 H2 _ x y _ v u Q R2 (A1.ext X2) (A2.weak X1.dom) h3 fun F3 H3 w X3 R3 A3=>?_
  exact q F3 H3 w (X12.trans X3) R3 (A3.weak X12.dom)
theorem nL{op:Operator}{r:R2}{g:En→Rv→Rv→Option Rv}(hr:ii X (binaryOp op) r)(ho:iK K r g)(ha:PE X a (fE K fa))(hb:PE X b (fE K fb)):PE X (.BinOp a op b pos) (fE K (aq g fa fb)):=(C7 hr ha hb).mono fun _ _ _ h=>pE ho h
theorem BC{op:CmpOp}{r:R2}{g:En→Rv→Rv→Option Rv}(hr:ii X (compareOp op) r)(ho:iK K r g)(ha:PE X a (fE K fa))(hb:PE X b (fE K fb))(hm:behindInMarks op b=false):PE X (.Compare a [op] [b] pos) (fE K (aq g fa fb)):=(yH hr ha hb hm).mono fun _ _ _ h=>pE ho h
theorem De{r:R2}{g:En→Rv→Rv→Option Rv}(hr:xU X r)(ho:iK K r g)(ha:PE X a (fE K fa))(hb:PE X b (fE K fb))(hs:oo b):PE X (.Subscript a b pos) (fE K (aq g fa fb)):=(C6 hr ha hb hs).mono fun _ _ _ h=>pE ho h
def Aj(g:En→Rv→Option Rv)(fa:FE):FE:=fun e=>(fa e).bind fun p=>(g p.2 p.1).map fun z=>(z,p.2)
def DQ(K:PySem.W.Frag)(r:V→Hp→VK→Prop)(g:En→Rv→Option Rv):Prop:=
  ∀(σ:L2.St) (H0 F H:Hp) (e:En) (x z:Rv) (v:V) (Q:VK),aZ K F H σ e→ck K σ H0 F H e x v→g e x=some z→
    (∀F' H' w,dY σ F H e F' H' e→aZ K F' H' σ e→ck K σ H F' H' e z w→Q w H')→r v H Q
theorem B_{r:V→Hp→VK→Prop}{g:En→Rv→Option Rv}(ho:DQ K r g){σ:L2.St}{H:Hp}{Q:VK}(h:fE K (Aj g fa) σ H Q):E3 r (fE K fa) σ H Q:=by
  obtain⟨F,e,z,e2,R,hf,q⟩:=h
  unfold Aj at hf
  obtain⟨⟨x,e1⟩,h1,hf⟩:=Option.bind_eq_some_iff.mp hf
  obtain⟨z',h3,hf⟩:=Option.map_eq_some_iff.mp hf
  cases hf
  refine⟨F,e,x,_,R,h1,fun F1 H1 v X1 R1 A1=>?_⟩
  refine ho σ H F1 H1 _ x _ v Q R1 A1 h3 fun F3 H3 w X3 R3 A3=>?_
  exact q F3 H3 w (X1.trans X3) R3 (A3.weak X1.dom)
theorem Df{op:UnaryOp}{r:V→Hp→VK→Prop}{g:En→Rv→Option Rv}(hr:DR X (unaryOp op) r)(ho:DQ K r g)(ha:PE X a (fE K fa)):PE X (.UnaryOp op a pos) (fE K (Aj g fa)):=(C9 hr ha).mono fun _ _ _ h=>B_ ho h
def gH:Rv→Option Bool
  | .d (.bool b)=>some b
  | _=>none
theorem nq{σ:L2.St}{H0 F H:Hp}{e:En}{r:Rv}{v:V}{b:Bool}(h:ck K σ H0 F H e r v)(q:gH r=some b):v=.bl b:=by
  unfold gH at q
  split at q
  · cases q;exact fv.mp (show DA K F (.bool _) v from h)
  · cases q
theorem pv{σ:L2.St}{H0 F H:Hp}{e:En}{b:Bool}:ck K σ H0 F H e (.d (.bool b)) (.bl b):=(fv (K:=K) (F:=F)).mpr rfl
def bv(f:FE):FT:=fun e=>(f e).bind fun p=>(gH p.1).map fun b=>(b,p.2)
theorem qN{σ:L2.St}{H:Hp}{Q:Bool→Hp→Prop}(h:fT K (bv fa) σ H Q):fE K fa σ H fun x H'=>∃k,x=.bl k∧Q k H':=by
  obtain⟨F,e,b,e1,R,hf,q⟩:=h
  unfold bv at hf
  obtain⟨⟨x,e1'⟩,h1,hf⟩:=Option.bind_eq_some_iff.mp hf
  obtain⟨b',h3,hf⟩:=Option.map_eq_some_iff.mp hf
  cases hf
  exact⟨F,e,x,_,R,h1,fun F1 H1 v X1 R1 A1=>⟨_,nq A1 h3,q F1 H1 X1 R1⟩⟩
theorem BE{op:CmpOp}{r:R2}{g:En→Rv→Rv→Option Rv}(hr:ii X (compareOp op) r)(ho:iK K r g)(ha:PE X a (fE K fa))(hb:PE X b (fE K fb))(hm:behindInMarks op b=false):PT X (.Compare a [op] [b] pos) (fT K (bv (aq g fa fb))):=
  (yY hr ha hb hm).mono fun σ H Q h=>by
    obtain⟨F,e,z,e2,R,hf,q⟩:=qN h
    exact pE ho ⟨F,e,z,e2,R,hf,q⟩
theorem rV{e:Expr}(h:PE X e (fE K fa))(he:∀whole,isTrue e X.env whole=(do let v ←whole;standAt e.pos;holding [v] (truthy v))):PT X e (fT K (bv fa)):=(By h he).mono fun _ _ _ h=>qN h
def mZ(f g:FT):FT:=fun e=>(f e).bind fun p=>if p.1=true then g p.2 else some (false,p.2)
def EL(f g:FT):FT:=fun e=>(f e).bind fun p=>if p.1=true then some (true,p.2) else g p.2
def qL(f:FT):FT:=fun e=>(f e).map fun p=>(!p.1,p.2)
theorem zC{σ:L2.St}{H:Hp}{Q:Bool→Hp→Prop}(h:fT K (mZ ft fu) σ H Q):Du (fT K ft) (fT K fu) σ H Q:=by
  obtain⟨F,e,b,e1,R,hf,q⟩:=h
  unfold mZ at hf
  obtain⟨⟨x,e1'⟩,h1,hf⟩:=Option.bind_eq_some_iff.mp hf
  refine⟨F,e,x,e1',R,h1,fun F1 H1 X1 R1=>?_⟩
  cases x with
  | true=>exact⟨F1,e1',b,e1,R1,hf,fun F2 H2 X2 R2=>q F2 H2 (X1.trans X2) R2⟩
  | false=>cases hf;exact q F1 H1 X1 R1
theorem zE{σ:L2.St}{H:Hp}{Q:Bool→Hp→Prop}(h:fT K (qL ft) σ H Q):Dx (fT K ft) σ H Q:=by
  obtain⟨F,e,b,e1,R,hf,q⟩:=h
  unfold qL at hf
  obtain⟨⟨x,e1'⟩,h1,hf⟩:=Option.map_eq_some_iff.mp hf
  cases hf
  exact⟨F,e,x,_,R,h1,fun F1 H1 X1 R1=>q F1 H1 X1 R1⟩
variable{ib:List Expr}
theorem lr(ha:PT X a (fT K ft)):PW X (.BoolOp .And [a] pos) (fT K ft):=y6 ha
theorem pk(ha:PT X a (fT K ft))(hb:PW X (.BoolOp .And (b::ib) pos) (fT K fu)):PW X (.BoolOp .And (a::b::ib) pos) (fT K (mZ ft fu)):=(Bz ha hb).mono fun _ _ _ h=>zC h
theorem wQ(ha:PT X a (fT K ft)):PT X (.UnaryOp .Not a pos) (fT K (qL ft)):=(Bx ha).mono fun _ _ _ h=>zE h
theorem ze{e:Expr}(h:PW X e (fT K ft)):PT X e (fT K ft):=h.pt
def xA(f g:FE):FE:=fun e=>(f e).bind fun p=>(gH p.1).bind fun b=>if b=true then g p.2 else some (.d (.bool false),p.2)
def r8(f g:FE):FE:=fun e=>(f e).bind fun p=>(gH p.1).bind fun b=>if b=true then some (.d (.bool true),p.2) else g p.2
def xD(f:FE):FE:=fun e=>(f e).bind fun p=>(gH p.1).map fun b=>(.d (.bool (!b)),p.2)
theorem Ad(ha:PE X a (fE K fa))(hb:PE X (.BoolOp .Or (b::ib) pos) (fE K fb)):PE X (.BoolOp .Or (a::b::ib) pos) (fE K (r8 fa fb)):=(C8 ha hb).mono fun σ H Q h=>by
  obtain⟨F,e,z,e2,R,hf,q⟩:=h
  unfold r8 at hf
  obtain⟨⟨x,e1⟩,h1,hf⟩:=Option.bind_eq_some_iff.mp hf
  obtain⟨b,h2,hf⟩:=Option.bind_eq_some_iff.mp hf
  refine⟨F,e,x,e1,R,h1,fun F1 H1 v X1 R1 A1=>⟨b,nq A1 h2,?_⟩⟩
  cases b with
  | false=>exact⟨F1,e1,z,e2,R1,hf,fun F2 H2 w X2 R2 A2=>q F2 H2 w (X1.trans X2) R2 (A2.weak X1.dom)⟩
  | true=>cases hf;exact q F1 H1 _ X1 R1 pv
theorem BD{op}(h:PE X a (fE K fa)):PE X (.BoolOp op [a] pos) (fE K fa):=Bl h
def EK(t:FT)(f g:FE):FE:=fun e=>(t e).bind fun p=>if p.1=true then f p.2 else g p.2
def ah:FA:=fun e=>some ([],e)
def aa(fa:FE)(fs:FA):FA:=fun e=>(fa e).bind fun p=>(fs p.2).map fun q=>(p.1::q.1,q.2)
theorem ac:PA X [] (fA K ah):=Bi.mono fun σ H Q h=>by
  obtain⟨F,e,r,e',R,hf,q⟩:=h
  cases hf
  exact q F H [] (dY.refl _ _ _ _) R rfl
theorem Ex(ha:PE X a (fE K fa))(hr:PA X es (fA K fs))(h:PySem.W.isStarred a=false):PA X (a::es) (fA K (aa fa fs)):=(Bh ha hr h).mono fun σ H Q h=>by
  obtain⟨F,e,z,e2,R,hf,q⟩:=h
  unfold aa at hf
  obtain⟨⟨x,e1⟩,h1,hf⟩:=Option.bind_eq_some_iff.mp hf
  obtain⟨⟨xs,e2'⟩,h2,hf⟩:=Option.map_eq_some_iff.mp hf
  cases hf
  refine⟨F,e,x,e1,R,h1,fun F1 H1 v X1 R1 A1=>⟨F1,e1,xs,_,R1,h2,fun F2 H2 vs X2 R2 A2=>?_⟩⟩
  exact q F2 H2 (v::vs) (X1.trans X2) R2 ⟨v,vs,rfl,A1.ext X2,A2.weak X1.dom⟩
def bS(fs:FA):FE:=fun e=>(fs e).bind fun p=>(i4 p.1).bind fun ds=>if ds.length≤1000 then some (.d (.tuple ds),p.2) else none
def dX(fs:FA):FE:=fun e=>(fs e).bind fun p=>(i4 p.1).bind fun ds=>if ds.length≤1000 then some (.l ds,p.2) else none
theorem aP{x1}(h:PA X es (fA K fs)):PE X (.Tuple es x1 pos) (fE K (bS fs)):=(wz h).mono fun σ H Q h=>by
  obtain⟨F,e,z,e2,R,hf,q⟩:=h
  unfold bS at hf
  obtain⟨⟨rs,e1⟩,h1,hf⟩:=Option.bind_eq_some_iff.mp hf
  obtain⟨ds,h2,hf⟩:=Option.bind_eq_some_iff.mp hf
  split at hf
  case isFalse=>cases hf
  case isTrue hl=>
  cases hf
  refine⟨F,e,rs,_,R,h1,fun F1 H1 vs X1 R1 A1=>?_⟩
  obtain⟨F2,R2,s2,d2,f2⟩:=bT.frozen R1 A1 h2
  have hlen:=d2.len
  refine⟨Nat.le_of_lt (ky (by lia)),fun p hp=>?_⟩
  obtain⟨R3,X3⟩:=R2.newT (vs:=vs) hp
  exact q _ _ _ ((X1.frz s2 f2).trans X3) R3 (bW.mpr ⟨p,vs,rfl,.inl (.inl aL),aF.mono X3.sf d2⟩)
theorem bN(h:PA X es (fA K fs)):PE X (.List es pos) (fE K (dX fs)):=(Bk h).mono fun σ H Q h=>by
  obtain⟨F,e,z,e2,R,hf,q⟩:=h
  unfold dX at hf
  obtain⟨⟨rs,e1⟩,h1,hf⟩:=Option.bind_eq_some_iff.mp hf
  obtain⟨ds,h2,hf⟩:=Option.bind_eq_some_iff.mp hf
  split at hf
  case isFalse=>cases hf
  case isTrue hl=>
  cases hf
  refine⟨F,e,rs,_,R,h1,fun F1 H1 vs X1 R1 A1=>?_⟩
  obtain⟨F2,R2,s2,d2,f2⟩:=bT.frozen R1 A1 h2
  have hlen:=d2.len
  refine⟨Nat.le_of_lt (ky (by lia)),fun p hp=>?_⟩
  obtain⟨R3,X3,hF,no⟩:=R2.newL (vs:=vs) hp
  exact q _ _ _ ((X1.frz s2 f2).trans X3) R3 ⟨p,vs,rfl,X1.dom p hp,hF,aL,d2,no⟩
def eL(K:PySem.W.Frag)(r:List V→Hp→VK→Prop)(g:En→List Rv→Option Rv):Prop:=
  ∀(σ:L2.St) (H0 F H:Hp) (e:En) (xs:List Rv) (z:Rv) (vs:List V) (Q:VK),aZ K F H σ e→bT K σ H0 F H e xs vs→g e xs=some z→
    (∀F' H' w,dY σ F H e F' H' e→aZ K F' H' σ e→ck K σ H F' H' e z w→Q w H')→r vs H Q
def a8(g:En→List Rv→Option Rv)(fs:FA):FE:=fun e=>(fs e).bind fun p=>(g p.2 p.1).map fun z=>(z,p.2)
theorem qI{r:List V→Hp→VK→Prop}{g:En→List Rv→Option Rv}(ho:eL K r g){σ:L2.St}{H:Hp}{Q:VK}(h:fE K (a8 g fs) σ H Q):EA r (fA K fs) σ H Q:=by
  obtain⟨F,e,z,e2,R,hf,q⟩:=h
  unfold a8 at hf
  obtain⟨⟨x,e1⟩,h1,hf⟩:=Option.bind_eq_some_iff.mp hf
  obtain⟨z',h3,hf⟩:=Option.map_eq_some_iff.mp hf
  cases hf
  refine⟨F,e,x,_,R,h1,fun F1 H1 vs X1 R1 A1=>?_⟩
  refine ho σ H F1 H1 _ x _ vs Q R1 A1 h3 fun F3 H3 w X3 R3 A3=>?_
  exact q F3 H3 w (X1.trans X3) R3 (A3.weak X1.dom)
theorem wM{x:Str}{p pos:Pos}{id:String}{r:List V→Hp→VK→Prop}{g:En→List Rv→Option Rv}(hc:e_ X (.builtin id) r)(ho:eL K r g)(hg:Gl X x)(hm:X.mg x=none)(hv:bootBuiltins x=some (.builtin id))(ha:PA X (a::es) (fA K fs))(hn:x≠"__name__")(hdb:(x==("__debug__":Str))=false)
    (he:starEach (a::es) X.env=(false,eval a X.env)::starEach es X.env)(hpl:(backTo pos (starEach es X.env)).any (·.1)=false):PE X (.Call (.Name x p) (a::es) [] pos) (fE K (a8 g fs)):=(wx hc hg hm hv ha hn hdb he hpl).mono fun _ _ _ h=>qI ho h
theorem ut{x:Str}{p pos:Pos}{T:String}{r:List V→Hp→VK→Prop}{g:En→List Rv→Option Rv}(hc:e_ X (.type T) r)(ho:eL K r g)(hg:Gl X x)(hm:X.mg x=none)(hv:bootBuiltins x=some (.type T))(ha:PA X (a::es) (fA K fs))(hn:x≠"__name__")(hdb:(x==("__debug__":Str))=false)
    (he:starEach (a::es) X.env=(false,eval a X.env)::starEach es X.env)(hpl:(backTo pos (starEach es X.env)).any (·.1)=false):PE X (.Call (.Name x p) (a::es) [] pos) (fE K (a8 g fs)):=(ul hc hg hm hv ha hn hdb he hpl).mono fun _ _ _ h=>qI ho h
end
end L2
namespace L2
open PySem PySem.Spec PyProof.Rows
mutual
theorem DA.reads{X:Cx}{pins:List (Addr × Obj)}{σ:L2.St}{H:Hp}{s:Shared}(I:aB X pins σ H s):∀{d:PyData} {v:V} {u:Value},d.canLay0=true→DA X.K H d v→bz v u→∃as,Reads s.heap u d as
  | .none,_,_,_,q,r=>by
    simp only [DA] at q;subst q;cases r;exact⟨_,.none⟩
  | .bool b,_,_,_,q,r=>by
    simp only [DA] at q;subst q;cases r;exact⟨_,.bool b⟩
  | .int i,_,_,_,q,r=>by
    simp only [DA] at q;subst q;obtain⟨t,rfl⟩:=r;exact⟨_,.int i t⟩
  | .str x,_,_,_,q,r=>by
    simp only [DA] at q;subst q;obtain⟨t,rfl⟩:=r;exact⟨_,.str x t⟩
  | .tuple ds,_,_,c,q,r=>by
    simp only [DA] at q
    obtain⟨a,xs,e,hs,rr⟩:=q
    subst e;cases r
    obtain⟨its,rv,⟨o,ho,hc,n,hd⟩,hz⟩:=I.tuple hs
    obtain⟨as,q⟩:=aF.reads I (by simpa [PyData.canLay0] using c) rr rv
    exact⟨_,.tuple ho hc hd q⟩
  | .list ds,_,_,c,q,r=>by
    simp only [DA] at q
    obtain⟨a,xs,e,hs,rr⟩:=q
    subst e;cases r
    obtain⟨its,rv,ht,hz⟩:=I.list hs
    obtain⟨o,ho,hc,n,hd⟩:=ht.isList
    obtain⟨as,q⟩:=aF.reads I (by simpa [PyData.canLay0] using c) rr rv
    exact⟨_,.list ho hc hd q⟩
  | .dict _,_,_,c,_,_=>by simp [PyData.canLay0] at c
theorem aF.reads{X:Cx}{pins:List (Addr × Obj)}{σ:L2.St}{H:Hp}{s:Shared}(I:aB X pins σ H s):∀{ds:List PyData} {xs:List V} {us:List Value},PyData.canLayAll0 ds=true→aF X.K H ds xs→aM xs us→∃as,ReadsAll s.heap us ds as
  | [],_,_,_,q,r=>by
    simp only [aF] at q;subst q;cases r;exact⟨_,.nil⟩
  | d::ds,_,_,c,q,r=>by
    simp only [aF] at q
    simp only [PyData.canLayAll0,Bool.and_eq_true] at c
    obtain⟨x,rr,e,a,b⟩:=q
    subst e
    cases r with
    | cons p p'=>
      obtain⟨as,q1⟩:=DA.reads I c.1 a p
      obtain⟨bs,q2⟩:=aF.reads I c.2 b p'
      exact⟨_,.cons q1 q2⟩
end
def i3(e:En):Rv→Option PyData
  | .d x=>some x
  | .l xs=>some (.list xs)
  | .s i=>match e[i]? with
    | some (some (.l xs))=>some (.list xs)
    | _=>none
theorem lT{K:PySem.W.Frag}{σ:L2.St}{H0 F H:Hp}{e:En}{r:Rv}{v:V}{d:PyData}(R:aZ K F H σ e)(h:ck K σ H0 F H e r v)(q:i3 e r=some d):DA K H d v:=by
  cases r with
  | d x=>cases q;exact DA.mono R.sm h
  | l xs=>
    cases q
    obtain⟨l,vs,rfl,h1,h2,h3,h4,_⟩:=h
    exact dQ.mpr ⟨l,vs,rfl,.inl (.inl h3),aF.mono R.sm h4⟩
  | s i=>
    obtain⟨h1,ys,h2⟩:=h
    simp only [i3,h2] at q
    cases q
    obtain⟨l,vs,e1,e2,e3,e4⟩:=R.own i _ h2
    rw [h1] at e1;cases e1
    exact dQ.mpr ⟨l,vs,rfl,.inl (.inl e3),aF.mono R.sm e4⟩
section
variable{X:Cx}{K:PySem.W.Frag}
def cj:Rv→Option Int
  | .d (.int i)=>some i
  | _=>none
theorem cv{σ:L2.St}{H0 F H:Hp}{e:En}{r:Rv}{v:V}{i:Int}(h:ck K σ H0 F H e r v)(q:cj r=some i):v=.int i:=by
  unfold cj at q
  split at q
  · cases q;exact dw.mp (show DA K F (.int _) v from h)
  · cases q
theorem mx{σ:L2.St}{H0 F H:Hp}{e:En}{i:Int}:ck K σ H0 F H e (.d (.int i)) (.int i):=(dw (K:=K) (F:=F)).mpr rfl
def gI(C:Int→Int→Bool)(f:Int→Int→PyData):En→Rv→Rv→Option Rv:=fun _ x y=>(cj x).bind fun i=>(cj y).bind fun j=>if C i j=true then some (.d (f i j)) else none
theorem qe{C:Int→Int→Prop}{c:Int→Int→Bool}{g:Int→Int→V}{f:Int→Int→PyData}(hc:∀i j,c i j=true→C i j)(hf:∀F i j,DA K F (f i j) (g i j)):iK K (rI C g) (gI c f):=by
  intro σ H0 F H e x y z v u Q R A B hg q
  unfold gI at hg
  obtain⟨i,h1,hg⟩:=Option.bind_eq_some_iff.mp hg
  obtain⟨j,h2,hg⟩:=Option.bind_eq_some_iff.mp hg
  split at hg
  case isFalse=>cases hg
  case isTrue hh=>
  cases hg
  exact⟨i,j,cv A h1,cv B h2,hc i j hh,q F H _ (dY.refl _ _ _ _) R (hf F i j)⟩
theorem jl{g:Int→Int→V}{f:Int→Int→PyData}(hf:∀F i j,DA K F (f i j) (g i j)):iK K (uu g) (gI (fun _ _=>true) f):=by
  intro σ H0 F H e x y z v u Q R A B hg q
  obtain⟨i,j,h1,h2,h3,h4⟩:=qe (K:=K) (C:=fun _ _=>True) (c:=fun _ _=>true) (g:=g) (f:=f) (fun _ _ _=>trivial) hf σ H0 F H e x y z v u Q R A B hg q
  exact⟨i,j,h1,h2,h4⟩
def xN(g g':En→Rv→Rv→Option Rv):En→Rv→Rv→Option Rv:=fun e x y=>(g e x y).or (g' e x y)
theorem iK.or{r r':R2}{g g':En→Rv→Rv→Option Rv}(h:iK K r g)(h':iK K r' g'):iK K (fun x y H Q=>r x y H Q∨r' x y H Q) (xN g g'):=by
  intro σ H0 F H e x y z v u Q R A B hg q
  unfold xN at hg
  cases e1:g e x y with
  | some w=>
    rw [e1] at hg
    cases hg
    exact .inl (h σ H0 F H e x y _ v u Q R A B e1 q)
  | none=>
    rw [e1] at hg
    exact .inr (h' σ H0 F H e x y _ v u Q R A B hg q)
def vA:=gI (fun _ _=>true) fun i j=>.int (i+j)
def iu:=gI (fun _ _=>true) fun i j=>.int (i - j)
def gZ(i:Int):Bool:=decide (-(2 ^ 64) < i)&&decide (i < 2 ^ 64)
def Cy(n:Nat)(i:Int):Bool:=decide (i.natAbs < 2 ^ n)
theorem gJ{n:Nat}{i:Int}:Cy n i=true↔ Bt n i:=by unfold Cy Bt;exact decide_eq_true_iff
def jk(i j:Int):Bool:=gZ i || gZ j || (Cy 4000 i&&Cy 4000 j)
def pX:=gI jk fun i j=>.int (i*j)
def dJ:=gI (fun _ j=>j != 0&&Cy 8000 j) fun i j=>.int (i.fdiv j)
def aW:=gI (fun _ j=>j != 0) fun i j=>.int (i.fmod j)
def wF(i j:Int):Bool:=decide (0≤j)&&decide (j≤1000000)&&gZ i
def rE:=gI wF fun i j=>.int (i ^ j.toNat)
theorem jo{i:Int}(h:gZ i=true): -(2 ^ 64) < i∧i < 2 ^ 64:=by
  unfold gZ at h
  rw [Bool.and_eq_true,decide_eq_true_iff,decide_eq_true_iff] at h
  exact h
theorem yU{i j:Int}(h:wF i j=true):Am i j:=by
  unfold wF at h
  rw [Bool.and_eq_true,Bool.and_eq_true,decide_eq_true_iff,decide_eq_true_iff] at h
  have:=jo h.2
  exact⟨h.1.1,h.1.2,by lia⟩
def se(i j:Int):Prop:=xS i j∨zL i j
theorem yB:ii X (binaryOp .Mult) (rI se fun i j=>.int (i*j)):=by
  intro pins s σ H x y v u Q I rx ry h
  obtain⟨i,j,e1,e2,h1,q⟩:=h
  rcases h1 with h1 | h1
  · exact Bb pins s σ H x y v u Q I rx ry ⟨i,j,e1,e2,h1,q⟩
  · exact yC pins s σ H x y v u Q I rx ry ⟨i,j,e1,e2,h1,q⟩
theorem yo{i j:Int}(h:jk i j=true):se i j:=by
  unfold jk at h
  rw [Bool.or_eq_true,Bool.or_eq_true,Bool.and_eq_true] at h
  rcases h with (h | h) | h
  · exact .inl (.inl (jo h))
  · exact .inl (.inr (jo h))
  · exact .inr ⟨gJ.mp h.1,gJ.mp h.2⟩
theorem AQ:iK K (rI se fun i j=>.int (i*j)) pX:=qe (fun _ _ h=>yo h) fun _ _ _=>dw.mpr rfl
theorem Dt:iK K (uu fun i j=>.int (i - j)) iu:=jl fun _ _ _=>dw.mpr rfl
theorem AB:iK K (rI zK fun i j=>.int (i.fdiv j)) dJ:=qe (fun i j h=>by
  rw [Bool.and_eq_true] at h
  exact⟨by simpa using h.1,gJ.mp h.2⟩) fun _ _ _=>dw.mpr rfl
theorem CT:iK K (rI (fun _ j=>j≠0) fun i j=>.int (i.fmod j)) aW:=qe (fun i j h=>by simpa using h) fun _ _ _=>dw.mpr rfl
theorem C_:iK K (rI Am fun i j=>.int (i ^ j.toNat)) rE:=qe (fun _ _ h=>yU h) fun _ _ _=>dw.mpr rfl
def pV:En→Rv→Rv→Option Rv:=fun e x y=>match fU e x,fU e y with
  | some (false,xs),some (false,ys)=>if xs.length+ys.length≤1000000 then some (.d (.tuple (xs++ys))) else none
  | _,_=>none
theorem Ax:iK K (wR K) pV:=by
  intro σ H0 F H e x y z v u Q R A B hg q
  unfold pV at hg
  match h1:fU e x,h2:fU e y,hg with
  | some (false,xs),some (false,ys),hg=>
    obtain⟨p,vs,rfl,d1,s1⟩:=eu R A h1
    obtain⟨p',us,rfl,d2,s2⟩:=eu R B h2
    dsimp only at hg
    split at hg
    case isFalse=>cases hg
    case isTrue hl=>
    cases hg
    have l1:=d1.len
    have l2:=d2.len
    have sl:sizeLine=16777216:=sizeLine_eq
    refine⟨p,p',vs,us,rfl,rfl,s1,s2,by lia,fun t H' sm hT=>?_⟩
    obtain⟨F',R',X',hF⟩:=R.growT sm hT
    exact q F' H' _ X' R' (bW.mpr ⟨t,_,rfl,hF,(d1.append d2).mono X'.sf⟩)
def rH(e:En):Rv→Option (List PyData)
  | .l xs=>some xs
  | .s i=>match e[i]? with
    | some (some (.l xs))=>some xs
    | _=>none
  | _=>none
theorem o5{σ:L2.St}{H0 F H:Hp}{e:En}{r:Rv}{v:V}(R:aZ K F H σ e)(h:ck K σ H0 F H e r v){xs:List PyData}(q:rH e r=some xs):∃p vs,v=.ref p∧F p=none∧H p=some (.lst vs)∧aF K F xs vs:=by
  cases r with
  | d x=>cases q
  | l ys=>
    cases q
    obtain⟨l,vs,e1,h1,h2,h3,h4,_⟩:=h
    exact⟨l,vs,e1,h2,h3,h4⟩
  | s i=>
    obtain⟨h1,ys,h2⟩:=h
    simp only [rH,h2] at q
    cases q
    obtain⟨l,vs,e1,e2,e3,e4⟩:=R.own i _ h2
    rw [h1] at e1;cases e1
    exact⟨l,vs,rfl,e2,e3,e4⟩
def sG:En→Rv→Rv→Option Rv:=fun e x y=>(rH e x).bind fun xs=>(rH e y).bind fun ys=>if xs.length+ys.length≤1000000 then some (.l (xs++ys)) else none
theorem Aw:iK K BF sG:=by
  intro σ H0 F H e x y z v u Q R A B hg q
  unfold sG at hg
  obtain⟨xs,h1,hg⟩:=Option.bind_eq_some_iff.mp hg
  obtain⟨ys,h2,hg⟩:=Option.bind_eq_some_iff.mp hg
  split at hg
  case isFalse=>cases hg
  case isTrue hl=>
  cases hg
  obtain⟨p,vs,rfl,f1,s1,d1⟩:=o5 R A h1
  obtain⟨p',us,rfl,f2,s2,d2⟩:=o5 R B h2
  have l1:=d1.len
  have l2:=d2.len
  have sl:sizeLine=16777216:=sizeLine_eq
  refine⟨p,p',vs,us,rfl,rfl,s1,s2,by lia,fun t ht=>?_⟩
  obtain⟨R3,X3,hF,no⟩:=R.newL (vs:=vs++us) ht
  exact q _ _ _ X3 R3 ⟨t,_,rfl,ht,hF,aL,d1.append d2,no⟩
def dc:En→Rv→Rv→Option Rv:=xN vA (xN pV sG)
def Ae(K:PySem.W.Frag):R2:=fun x y H Q=>uu (fun i j=>.int (i+j)) x y H Q∨(wR K x y H Q∨BF x y H Q)
theorem yw:ii X (binaryOp .Add) (Ae X.K):=A8.or (yx.or A9)
theorem Cu:iK K (Ae K) dc:=iK.or (jl fun _ _ _=>dw.mpr rfl) (iK.or Ax Aw)
def pZ:En→Rv→Rv→Option Rv:=fun e x y=>match fU e x,cj y with
  | some (false,[d]),some k=>if 0≤k∧k≤100000 then some (.d (.tuple (List.replicate k.toNat d))) else none
  | _,_=>none
theorem aF.rep{F:Hp}{d:PyData}{v:V}(h:DA K F d v):∀n,aF K F (List.replicate n d) (List.replicate n v)
  | 0=>aF.nil
  | n+1=>aF.cons h (aF.rep h n)
theorem BJ:iK K (wV K) pZ:=by
  intro σ H0 F H e x y z v u Q R A B hg q
  unfold pZ at hg
  match h1:fU e x,h2:cj y,hg with
  | some (false,[d]),some k,hg=>
    obtain⟨p,vs,rfl,d1,s1⟩:=eu R A h1
    dsimp only at hg
    split at hg
    case isFalse=>cases hg
    case isTrue hl=>
    cases hg
    have hd:=d1
    simp only [aF] at hd
    obtain⟨w,r,e1,hw,e2⟩:=hd
    subst e2 e1
    refine⟨p,k,w,rfl,cv B h2,s1,hl.1,hl.2,fun t H' sm hT=>?_⟩
    obtain⟨F',R',X',hF⟩:=R.growT sm hT
    exact q F' H' _ X' R' (bW.mpr ⟨t,_,rfl,hF,(aF.rep hw _).mono X'.sf⟩)
def pY:En→Rv→Rv→Option Rv:=fun e x y=>(rH e x).bind fun xs=>(cj y).bind fun k=>if -100000≤k∧k≤100000∧xs.length*k.toNat≤1000000 then some (.l (List.replicate k.toNat xs).flatten) else none
theorem aF.reps{F:Hp}{ds:List PyData}{vs:List V}(h:aF K F ds vs):∀n,aF K F (List.replicate n ds).flatten (List.replicate n vs).flatten
  | 0=>aF.nil
  | n+1=>by simpa [List.replicate_succ] using aF.append h (aF.reps h n)
theorem BI:iK K BH pY:=by
  intro σ H0 F H e x y z v u Q R A B hg q
  unfold pY at hg
  obtain⟨xs,h1,hg⟩:=Option.bind_eq_some_iff.mp hg
  obtain⟨k,h2,hg⟩:=Option.bind_eq_some_iff.mp hg
  split at hg
  case isFalse=>cases hg
  case isTrue hl=>
  cases hg
  obtain⟨p,vs,rfl,f1,s1,d1⟩:=o5 R A h1
  have l1:=d1.len
  have sl:sizeLine=16777216:=sizeLine_eq
  refine⟨p,k,vs,rfl,cv B h2,s1,by lia,by lia,by rw [←l1];lia,fun t ht=>?_⟩
  obtain⟨R3,X3,hF,no⟩:=R.newL (vs:=(List.replicate k.toNat vs).flatten) ht
  exact q _ _ _ X3 R3 ⟨t,_,rfl,ht,hF,aL,aF.reps d1 _,no⟩
def bf:En→Rv→Rv→Option Rv:=xN pX (xN pZ pY)
def Af(K:PySem.W.Frag):R2:=fun x y H Q=>rI se (fun i j=>.int (i*j)) x y H Q∨(wV K x y H Q∨BH x y H Q)
theorem yA:ii X (binaryOp .Mult) (Af X.K):=yB.or (yD.or Be)
theorem CU:iK K (Af K) bf:=iK.or AQ (iK.or BJ BI)
def ye:=gI (fun _ _=>true) fun i j=>.bool (decide (i < j))
def Fg:=gI (fun _ _=>true) fun i j=>.bool (decide (i≤j))
def uO:=gI (fun _ _=>true) fun i j=>.bool (decide (j < i))
def CC:=gI (fun _ _=>true) fun i j=>.bool (decide (j≤i))
theorem Ew:iK K (uu fun i j=>.bl (decide (i < j))) ye:=jl fun _ _ _=>fv.mpr rfl
theorem Em:iK K (uu fun i j=>.bl (decide (j < i))) uO:=jl fun _ _ _=>fv.mpr rfl
theorem El:iK K (uu fun i j=>.bl (decide (j≤i))) CC:=jl fun _ _ _=>fv.mpr rfl
def BG(K:PySem.W.Frag)(neg:Bool):R2:=fun x y H Q=>∃a b,DA K H a x∧DA K H b y∧SeqAt.shaped a=true∧SeqAt.shaped b=true∧Q (.bl (if neg then !PyData.eqv a b else PyData.eqv a b)) H
theorem A_{k:Nat}(hr:cY k X.A):ii X (compareOp .Eq) (BG X.K false):=by
  intro pins s σ H x y v u Q I rx ry h
  obtain⟨a,b,ha,hb,s1,s2,q⟩:=h
  obtain⟨as,ra⟩:=DA.reads I (SeqAt.canLay_of_shaped s1) ha rx
  obtain⟨bs,rb⟩:=DA.reads I (SeqAt.canLay_of_shaped s2) hb ry
  exact SeqAt.compareEq_shaped ra rb s1 s2 hr.units ⟨.bl _,H,I,rfl,q⟩
theorem Bc{k:Nat}(hr:cY k X.A):ii X (compareOp .NotEq) (BG X.K true):=by
  intro pins s σ H x y v u Q I rx ry h
  obtain⟨a,b,ha,hb,s1,s2,q⟩:=h
  obtain⟨as,ra⟩:=DA.reads I (SeqAt.canLay_of_shaped s1) ha rx
  obtain⟨bs,rb⟩:=DA.reads I (SeqAt.canLay_of_shaped s2) hb ry
  exact SeqAt.compareNe_shaped ra rb s1 s2 hr.units ⟨.bl _,H,I,rfl,q⟩
def de(neg:Bool):En→Rv→Rv→Option Rv:=fun e x y=>(i3 e x).bind fun a=>(i3 e y).bind fun b=>if (SeqAt.shaped a&&SeqAt.shaped b)=true then some (.d (.bool (if neg then !PyData.eqv a b else PyData.eqv a b))) else none
theorem zT{neg:Bool}:iK K (BG K neg) (de neg):=by
  intro σ H0 F H e x y z v u Q R A B hg q
  unfold de at hg
  obtain⟨a,h1,hg⟩:=Option.bind_eq_some_iff.mp hg
  obtain⟨b,h2,hg⟩:=Option.bind_eq_some_iff.mp hg
  split at hg
  case isFalse=>cases hg
  case isTrue hl=>
  cases hg
  rw [Bool.and_eq_true] at hl
  exact⟨a,b,lT R A h1,lT R B h2,hl.1,hl.2,q F H _ (dY.refl _ _ _ _) R pv⟩
def Dh(K:PySem.W.Frag)(neg:Bool):R2:=fun x y H Q=>∃a xs,DA K H a x∧(DA K H (.list xs) y∨DA K H (.tuple xs) y)∧a.canLay0=true∧a.depth≤60∧PyData.canLayAll0 xs=true∧Q (.bl (if neg then !(xs.any fun y=>PyData.eqv y a) else xs.any fun y=>PyData.eqv y a)) H
theorem Ba{k:Nat}(hr:cY k X.A):ii X (compareOp .In) (Dh X.K false):=by
  intro pins s σ H x y v u Q I rx ry h
  obtain⟨a,xs,ha,hb,s1,s2,s3,q⟩:=h
  obtain⟨as,ra⟩:=DA.reads I s1 ha rx
  have hu:=hr.units
  rcases hb with hb | hb
  · obtain⟨bs,rb⟩:=DA.reads I (by simpa [PyData.canLay0] using s3) hb ry
    exact PySem.SeqAt.in_list_reads rb ra s3 s1 (by lia) ⟨.bl _,H,I,rfl,q⟩
  · obtain⟨bs,rb⟩:=DA.reads I (by simpa [PyData.canLay0] using s3) hb ry
    exact PySem.SeqAt.in_tuple_reads rb ra s3 s1 (by lia) ⟨.bl _,H,I,rfl,q⟩
def zW(neg:Bool):En→Rv→Rv→Option Rv:=fun e x y=>(i3 e x).bind fun a=>(fU e y).bind fun p=>if (a.canLay0&&decide (a.depth≤60)&&PyData.canLayAll0 p.2)=true then some (.d (.bool (if neg then !(p.2.any fun y=>PyData.eqv y a) else p.2.any fun y=>PyData.eqv y a))) else none
theorem Ep{neg:Bool}:iK K (Dh K neg) (zW neg):=by
  intro σ H0 F H e x y z v u Q R A B hg q
  unfold zW at hg
  obtain⟨a,h1,hg⟩:=Option.bind_eq_some_iff.mp hg
  obtain⟨⟨b,xs⟩,h2,hg⟩:=Option.bind_eq_some_iff.mp hg
  split at hg
  case isFalse=>cases hg
  case isTrue hl=>
  cases hg
  rw [Bool.and_eq_true,Bool.and_eq_true,decide_eq_true_iff] at hl
  obtain⟨p,vs,rfl,d1,s1⟩:=eu R B h2
  refine⟨a,xs,lT R A h1,?_,hl.1.1,hl.1.2,hl.2,q F H _ (dY.refl _ _ _ _) R pv⟩
  cases b with
  | true=>exact .inl (dQ.mpr ⟨p,vs,rfl,s1,d1.mono R.sm⟩)
  | false=>exact .inr (bW.mpr ⟨p,vs,rfl,s1,d1.mono R.sm⟩)
def aV:En→Rv→Rv→Option Rv:=fun e x y=>(fU e x).bind fun p=>(cj y).bind fun i=>(atI p.2 i).map .d
def Di(K:PySem.W.Frag):R2:=fun x y H Q=>Dj K x y H Q∨Dl K x y H Q
theorem Er:xU X (Di X.K):=yh.or AF
theorem aF.atI{F:Hp}{ds:List PyData}{vs:List V}(h:aF K F ds vs){i:Int}{d:PyData}(q:atI ds i=some d):∃v,L2.atI vs i=some v∧DA K F d v:=by
  unfold L2.atI at q ⊢
  obtain⟨j,h1,h2⟩:=Option.bind_eq_some_iff.mp q
  obtain⟨v,h3,h4⟩:=h.get h2
  exact⟨v,by rw [←h.len,h1];exact h3,h4⟩
theorem Es:iK K (Di K) aV:=by
  intro σ H0 F H e x y z v u Q R A B hg q
  unfold aV at hg
  obtain⟨⟨b,xs⟩,h1,hg⟩:=Option.bind_eq_some_iff.mp hg
  obtain⟨i,h2,hg⟩:=Option.bind_eq_some_iff.mp hg
  obtain⟨d,h3,hg⟩:=Option.map_eq_some_iff.mp hg
  cases hg
  obtain⟨p,vs,rfl,d1,s1⟩:=eu R A h1
  obtain⟨w,h4,h5⟩:=d1.atI h3
  have fin:=q F H w (dY.refl _ _ _ _) R h5
  cases b with
  | true=>exact .inl ⟨p,vs,i,w,rfl,cv B h2,s1,h4,fin⟩
  | false=>exact .inr ⟨p,vs,i,w,rfl,cv B h2,s1,h4,fin⟩
end
end L2
namespace HT
open PySem PySem.Spec PyProof.Rows
section
variable{prog:Program}{w:World}{A:Around}{E:Value→Shared→Prop}{s:Shared}
theorem getItem_tuple_all{t sl:Addr}{items:Array Value}{vl vu:Value}{lo hi:Option Int}{Q:Value→Shared→Prop}(ht:IsTup s.heap t items)(hs:s.heap.IsSliceOf sl vl vu .none)(pl:IsPart vl lo)(pu:IsPart vu hi)
    (hw:sIx items.size 0 lo=0∧sIx items.size items.size hi=items.size)
    (h:Q (.ref t) s):wpAny (model prog w) A (getItem (.ref t) (.ref sl)) Q E s:=by
  obtain⟨os,hos,hcs,hds⟩:=id hs
  have hTs:s.TypeIs (.ref sl) "slice":=⟨os,hos,hcs⟩
  unfold getItem
  try with_reducible refine wpAny_holding ?_
  first | refine wpAny_bind (wpAny_pure ?_) | skip
  refine wpAny_bind (wpAny_sequenceKey ht.typeIs (by decide) ?_)
  refine wpAny_bind (wpAny_callSpecial?_slot (name:=Str.ofString "__getitem__") ht.typeIs PyProof.Rows.slot_tuple_getitem
    (wpAny_call_entry PyProof.Rows.slot_tuple_getitem ht.typeIs entry_tuple_getitem ?_ (args_tuple_getitem _ _)))
  show wpAny _ _ (Builtin.Tuple.tupleItemsOf (.ref t) >>= _) _ _ s
  refine wpAny_bind (tupleItemsOf_ ht ?_)
  refine wpAny_bind (wpAny_typeOf hTs ?_)
  rw [if_pos (by decide)]
  refine wpAny_bind (gB hs pl pu ?_)
  have hno:(((sIx items.size 0 lo:Nat):Int)==0&&(1:Int)==1&&(sIx items.size items.size hi - sIx items.size 0 lo)==items.size)=true:=by
    rw [hw.1,hw.2];simp
  show wpAny _ _ (if (((sIx items.size 0 lo:Nat):Int)==0&&(1:Int)==1&&(sIx items.size items.size hi - sIx items.size 0 lo)==items.size)=true then _ else _) _ _ s
  rw [if_pos hno]
  unfold Builtin.Tuple.tupleIsExact
  refine wpAny_bind (wpAny_bind (wpAny_typeOf ht.typeIs (wpAny_pure ?_)))
  rw [if_pos (by decide)]
  exact wpAny_bind (wpAny_rule (wpAny_pure ⟨_,rfl,wpAny_pure h⟩))
end
end HT
namespace L2
open PySem PySem.Spec PyProof.Rows
section
variable{X:Cx}{K:PySem.W.Frag}{a:Expr}{fa:FE}{lo hi:Option Expr}{pos p2:Pos}
def cutD(xs:List PyData)(lo hi:Option Int):List PyData:=(xs.drop (HT.sIx xs.length 0 lo)).take (HT.sIx xs.length xs.length hi - HT.sIx xs.length 0 lo)
def Dp(K:PySem.W.Frag):V→Option Int→Option Int→Hp→VK→Prop:=fun x lo hi H Q=>∃a xs,x=.ref a∧cP K H a xs∧
  (HT.sIx xs.length 0 lo=0∧HT.sIx xs.length xs.length hi=xs.length)∧Q (.ref a) H
theorem zu:xV X (Dp X.K):=by
  intro pins s σ H x v vl vu lo hi sl Q I rx hs pl pu h
  obtain⟨a,xs,rfl,hx,hw,q⟩:=h
  cases rx
  obtain⟨its,r,ht,hz⟩:=I.tuple hx
  have hlen:its.toArray.size=xs.length:=by rw [List.size_toArray];exact r.length.symm
  refine⟨"tuple",_,PyProof.Rows.slot_tuple_getitem.lookup,ht.typeIs,?_⟩
  exact HT.getItem_tuple_all ht hs pl pu (by rw [hlen];exact hw) ⟨.ref a,H,I,rfl,q⟩
def Ey(K:PySem.W.Frag):V→Option Int→Option Int→Hp→VK→Prop:=fun x lo hi H Q=>Do K x lo hi H Q∨(Dp K x lo hi H Q∨Dn K x lo hi H Q)
theorem Ez:xV X (Ey X.K):=BQ.or (zu.or zt)
abbrev FO:=En→Option (Option Int × En)
def fO(K:PySem.W.Frag)(f:FO):TO:=fun σ H Q=>∃F e o e',aZ K F H σ e∧f e=some (o,e')∧∀F' H',dY σ F H e F' H' e'→aZ K F' H' σ e'→Q o H'
theorem PO.mono{e:Option Expr}{t t':TO}(h:PO X e t)(m:∀σ H Q,t' σ H Q→t σ H Q):PO X e t':=fun pins s σ H Q I q=>h pins s σ H Q I (m σ H Q q)
def qd:FO:=fun e=>some (none,e)
def nI(f:FE):FO:=fun e=>(f e).bind fun p=>(cj p.1).map fun i=>(some i,p.2)
theorem za:PO X none (fO K qd):=yQ.mono fun σ H Q h=>by
  obtain⟨F,e,o,e',R,hf,q⟩:=h
  cases hf
  exact q F H (dY.refl _ _ _ _) R
theorem zc(h:PE X a (fE K fa)):PO X (some a) (fO K (nI fa)):=(yR h).mono fun σ H Q h=>by
  obtain⟨F,e,o,e',R,hf,q⟩:=h
  unfold nI at hf
  obtain⟨⟨x,e1⟩,h1,hf⟩:=Option.bind_eq_some_iff.mp hf
  obtain⟨i,h2,hf⟩:=Option.map_eq_some_iff.mp hf
  cases hf
  exact⟨F,e,x,_,R,h1,fun F1 H1 v X1 R1 A1=>⟨i,cv A1 h2,q F1 H1 X1 R1⟩⟩
def Ej(e:En)(x:Rv)(lo hi:Option Int):Option Rv:=(fU e x).map fun p=>if p.1=true then .l (cutD p.2 lo hi) else .d (.tuple (cutD p.2 lo hi))
def B9(fa:FE)(fl fh:FO):FE:=fun e=>(fa e).bind fun p=>(fl p.2).bind fun l=>(fh l.2).bind fun h=>(Ej h.2 p.1 l.1 h.1).map fun z=>(z,h.2)
theorem vh{F:Hp}{ds:List PyData}{vs:List V}(h:aF K F ds vs)(lo hi:Option Int):aF K F (cutD ds lo hi) (mU vs lo hi):=by
  unfold cutD mU
  rw [h.len]
  exact(h.drop _).take _
theorem x9{α:Type}{xs:List α}{lo hi:Option Int}(h:HT.sIx xs.length 0 lo=0∧HT.sIx xs.length xs.length hi=xs.length):(xs.drop (HT.sIx xs.length 0 lo)).take (HT.sIx xs.length xs.length hi - HT.sIx xs.length 0 lo)=xs:=by
  rw [h.1,h.2];simp
theorem wN{fl fh:FO}(he:PE X a (fE X.K fa))(hl:PO X lo (fO X.K fl))(hh:PO X hi (fO X.K fh)):PE X (.Subscript a (.Slice lo hi none p2) pos) (fE X.K (B9 fa fl fh)):=(wy Ez he hl hh).mono fun σ H Q h=>by
  obtain⟨F,e,z,e',R,hf,q⟩:=h
  unfold B9 at hf
  obtain⟨⟨x,e1⟩,h1,hf⟩:=Option.bind_eq_some_iff.mp hf
  obtain⟨⟨l,e2⟩,h2,hf⟩:=Option.bind_eq_some_iff.mp hf
  obtain⟨⟨u,e3⟩,h3,hf⟩:=Option.bind_eq_some_iff.mp hf
  obtain⟨z',h4,hf⟩:=Option.map_eq_some_iff.mp hf
  cases hf
  refine⟨F,e,x,e1,R,h1,fun F1 H1 v X1 R1 A1=>⟨F1,e1,l,e2,R1,h2,fun F2 H2 X2 R2=>⟨F2,e2,u,_,R2,h3,fun F3 H3 X3 R3=>?_⟩⟩⟩
  have X12:=X1.trans X2
  have X13:=X12.trans X3
  have A3:=(A1.ext X2).ext X3
  unfold Ej at h4
  obtain⟨⟨b,xs⟩,h5,h4⟩:=Option.map_eq_some_iff.mp h4
  obtain⟨p,vs,rfl,d1,s1⟩:=eu R3 A3 h5
  cases b with
  | true=>
    rw [if_pos rfl] at h4;cases h4
    refine .inr (.inr ⟨p,vs,rfl,s1,fun t ht=>?_⟩)
    obtain⟨R4,X4,hF,no⟩:=R3.newL (vs:=mU vs l u) ht
    exact q _ _ _ (X13.trans X4) R4 ⟨t,_,rfl,X13.dom _ ht,hF,aL,vh d1 l u,no⟩
  | false=>
    rw [if_neg (by simp)] at h4;cases h4
    by_cases hw:HT.sIx vs.length 0 l=0∧HT.sIx vs.length vs.length u=vs.length
    · refine .inr (.inl ⟨p,vs,rfl,s1,hw,?_⟩)
      have e5:cutD xs l u=xs:=by unfold cutD;exact x9 (by rw [d1.len];exact hw)
      rw [e5] at q
      obtain⟨F4,R4,X4,hF⟩:=R3.growT (aw.refl _) s1
      exact q _ _ _ (X13.trans X4) R4 (bW.mpr ⟨p,vs,rfl,hF,d1.mono X4.sf⟩)
    · refine .inl ⟨p,vs,rfl,s1,hw,fun t ht=>?_⟩
      obtain⟨R4,X4⟩:=R3.newT (vs:=mU vs l u) ht
      exact q _ _ _ (X13.trans X4) R4 (bW.mpr ⟨t,_,rfl,.inl (.inl aL),(vh d1 l u).mono X4.sf⟩)
end
section
variable{X:Cx}{K:PySem.W.Frag}
theorem pz{σ:L2.St}{H0 F H:Hp}{e:En}{x:Rv}{vs:List V}(h:bT K σ H0 F H e [x] vs):∃v,vs=[v]∧ck K σ H0 F H e x v:=by
  obtain⟨v,ws,rfl,h1,h2⟩:=h
  have h2':ws=[]:=h2
  subst h2'
  exact⟨v,rfl,h1⟩
theorem lu{σ:L2.St}{H0 F H:Hp}{e:En}{x y:Rv}{vs:List V}(h:bT K σ H0 F H e [x,y] vs):∃v u,vs=[v,u]∧ck K σ H0 F H e x v∧ck K σ H0 F H e y u:=by
  obtain⟨v,ws,rfl,h1,h2⟩:=h
  obtain⟨u,rfl,h3⟩:=pz h2
  exact⟨v,u,rfl,h1,h3⟩
def g1(g:En→Rv→Option Rv):En→List Rv→Option Rv:=fun e xs=>match xs with
  | [x]=>g e x
  | _=>none
def g2(g:En→Rv→Rv→Option Rv):En→List Rv→Option Rv:=fun e xs=>match xs with
  | [x,y]=>g e x y
  | _=>none
theorem iM{r:List V→Hp→VK→Prop}{g:En→Rv→Option Rv}(h:DQ K (fun v H Q=>r [v] H Q) g):eL K r (g1 g):=by
  intro σ H0 F H e xs z vs Q R A hg q
  unfold g1 at hg
  match xs,hg with
  | [x],hg=>
    obtain⟨v,rfl,h1⟩:=pz A
    exact h σ H0 F H e x z v Q R h1 hg q
theorem sy{r:List V→Hp→VK→Prop}{g:En→Rv→Rv→Option Rv}(h:iK K (fun v u H Q=>r [v,u] H Q) g):eL K r (g2 g):=by
  intro σ H0 F H e xs z vs Q R A hg q
  unfold g2 at hg
  match xs,hg with
  | [x,y],hg=>
    obtain⟨v,u,rfl,h1,h2⟩:=lu A
    exact h σ H0 F H e x y z v u Q R h1 h2 hg q
def jH:En→Rv→Option Rv:=fun e x=>(fU e x).map fun p=>.d (.int p.2.length)
theorem CO:eL K (fun xs H Q=>∃p ys,xs=[.ref p]∧(i_ K H p ys∨cP K H p ys)∧Q (.int ys.length) H) (g1 jH):=iM fun σ H0 F H e x z v Q R A hg q=>by
  obtain⟨⟨b,xs⟩,h5,h4⟩:=Option.map_eq_some_iff.mp hg
  obtain⟨p,vs,rfl,d1,s1⟩:=eu R A h5
  cases h4
  refine⟨p,vs,rfl,?_,?_⟩
  · cases b with
    | true=>exact .inl s1
    | false=>exact .inr s1
  · rw [←d1.len]
    exact q F H _ (dY.refl _ _ _ _) R mx
def rp:En→Rv→Option Rv:=fun _ x=>(cj x).map fun i=>.d (.int (if i < 0 then -i else i))
theorem Ct:eL K (fun xs H Q=>∃i,xs=[.int i]∧Q (.int (if i < 0 then -i else i)) H) (g1 rp):=iM fun σ H0 F H e x z v Q R A hg q=>by
  obtain⟨i,h5,h4⟩:=Option.map_eq_some_iff.mp hg
  cases h4
  exact⟨i,by rw [cv A h5],q F H _ (dY.refl _ _ _ _) R mx⟩
def pW:En→Rv→Option Rv:=fun _ x=>match x with
  | .d (.int i)=>some (.d (.int i))
  | .d (.bool k)=>some (.d (.int (if k then 1 else 0)))
  | _=>none
theorem CJ:eL K (fun xs H Q=>(∃i,xs=[.int i]∧Q (.int i) H)∨∃k,xs=[.bl k]∧Q (.int (if k then 1 else 0)) H) (g1 pW):=iM fun σ H0 F H e x z v Q R A hg q=>by
  unfold pW at hg
  split at hg
  · cases hg
    exact .inl ⟨_,by rw [dw.mp (show DA K F (.int _) v from A)],q F H _ (dY.refl _ _ _ _) R mx⟩
  · cases hg
    exact .inr ⟨_,by rw [fv.mp (show DA K F (.bool _) v from A)],q F H _ (dY.refl _ _ _ _) R mx⟩
  · cases hg
def vH:=gI (fun _ _=>true) fun i j=>.int (if j < i then j else i)
def tY:=gI (fun _ _=>true) fun i j=>.int (if j > i then j else i)
theorem CS:eL K (fun xs H Q=>∃i j,xs=[.int i,.int j]∧Q (.int (if j < i then j else i)) H) (g2 vH):=sy fun σ H0 F H e x y z v u Q R A B hg q=>by
  obtain⟨i,j,h1,h2,h3⟩:=jl (K:=K) (g:=fun i j=>.int (if j < i then j else i)) (fun _ _ _=>dw.mpr rfl) σ H0 F H e x y z v u Q R A B hg q
  exact⟨i,j,by rw [h1,h2],h3⟩
theorem CQ:eL K (fun xs H Q=>∃i j,xs=[.int i,.int j]∧Q (.int (if j > i then j else i)) H) (g2 tY):=sy fun σ H0 F H e x y z v u Q R A B hg q=>by
  obtain⟨i,j,h1,h2,h3⟩:=jl (K:=K) (g:=fun i j=>.int (if j > i then j else i)) (fun _ _ _=>dw.mpr rfl) σ H0 F H e x y z v u Q R A B hg q
  exact⟨i,j,by rw [h1,h2],h3⟩
def df:En→Rv→Option Rv:=fun e x=>(fU e x).map fun p=>.d (.tuple p.2)
theorem zA:eL K (fun xs H Q=>∃p ys,xs=[.ref p]∧((i_ K H p ys∧∀l,H l=none→Q (.ref l) (bw H l (.tup ys)))∨(cP K H p ys∧Q (.ref p) H))) (g1 df):=iM fun σ H0 F H e x z v Q R A hg q=>by
  obtain⟨⟨b,xs⟩,h5,h4⟩:=Option.map_eq_some_iff.mp hg
  obtain⟨p,vs,rfl,d1,s1⟩:=eu R A h5
  cases h4
  refine⟨p,vs,rfl,?_⟩
  cases b with
  | true=>
    refine .inl ⟨s1,fun t ht=>?_⟩
    obtain⟨R4,X4⟩:=R.newT (vs:=vs) ht
    exact q _ _ _ X4 R4 (bW.mpr ⟨t,_,rfl,.inl (.inl aL),d1.mono X4.sf⟩)
  | false=>
    obtain⟨F4,R4,X4,hF⟩:=R.growT (aw.refl _) s1
    exact .inr ⟨s1,q _ _ _ X4 R4 (bW.mpr ⟨p,vs,rfl,hF,d1.mono X4.sf⟩)⟩
def zX:En→Rv→Option Rv:=fun e x=>(fU e x).map fun p=>.l p.2
theorem AN:eL K (fun xs H Q=>∃p ys,xs=[.ref p]∧(i_ K H p ys∨cP K H p ys)∧∀l,H l=none→Q (.ref l) (bw H l (.lst ys))) (g1 zX):=iM fun σ H0 F H e x z v Q R A hg q=>by
  obtain⟨⟨b,xs⟩,h5,h4⟩:=Option.map_eq_some_iff.mp hg
  obtain⟨p,vs,rfl,d1,s1⟩:=eu R A h5
  cases h4
  refine⟨p,vs,rfl,?_,fun t ht=>?_⟩
  · cases b with
    | true=>exact .inl s1
    | false=>exact .inr s1
  · obtain⟨R4,X4,hF,no⟩:=R.newL (vs:=vs) ht
    exact q _ _ _ X4 R4 ⟨t,_,rfl,ht,hF,aL,d1,no⟩
mutual
def fy:PyData→Bool
  | .tuple ds=>fx ds
  | .list _=>false
  | .dict _=>false
  | _=>true
def fx:List PyData→Bool
  | []=>true
  | d::r=>fy d&&fx r
end
mutual
def eU:PyData→Bool
  | .list _=>false
  | .tuple ds=>dO ds
  | _=>true
def dO:List PyData→Bool
  | []=>true
  | d::r=>eU d&&dO r
end
theorem mw{h:Heap}:∀{m:List (Int × Int)} {es:List DictEntry} {vs:List (lH × Value)} {P:Program} {w:World},KV (m.map fun p=>((Sum.inl p.1:lH),V.int p.2)) vs→Pairs (o_ P w) es vs→
    ReadsAll h (es.map (·.key)) (m.map fun p=>PyData.int p.1) []∧ReadsAll h (es.map (·.val)) (m.map fun p=>PyData.int p.2) []
  | [],es,vs,P,w,r,q=>by
    cases r
    cases q
    exact⟨.nil,.nil⟩
  | p::m,es,vs,P,w,r,q=>by
    rw [List.map_cons] at r
    cases r with
    | @cons a b as bs h1 t=>
      cases q with
      | @cons e kv es' kvs' h2 h3 h4=>
        obtain⟨z1,z2⟩:=h1
        obtain⟨c1,c2⟩:=mw t h4
        obtain⟨tk,z2⟩:=z2
        have k1:vQ (Sum.inl p.1) e.key=true:=by
          have:b.1=Sum.inl p.1:=z1.symm
          rw [←this];exact h2
        rcases bu k1 with ⟨i,t',e1,e2⟩ | ⟨x,t',e1,e2⟩
        · cases e1
          refine⟨?_,?_⟩
          · simp only [List.map_cons,e2]
            exact ReadsAll.cons (as:=[]) (bs:=[]) (.int p.1 t') c1
          · simp only [List.map_cons,h3,z2]
            exact ReadsAll.cons (as:=[]) (bs:=[]) (.int p.2 tk) c2
        · cases e1
mutual
theorem DA.readsR{X:Cx}{pins:List (Addr × Obj)}{σ:L2.St}{H:Hp}{s:Shared}(I:aB X pins σ H s):∀{d:PyData} {v:V} {u:Value},DA X.K H d v→bz v u→∃as,Reads s.heap u d as∧(eU d=true→sysModules∉as)
  | .none,_,_,q,r=>by
    simp only [DA] at q;subst q;cases r;exact⟨_,.none,fun _=>by simp⟩
  | .bool b,_,_,q,r=>by
    simp only [DA] at q;subst q;cases r;exact⟨_,.bool b,fun _=>by simp⟩
  | .int i,_,_,q,r=>by
    simp only [DA] at q;subst q;obtain⟨t,rfl⟩:=r;exact⟨_,.int i t,fun _=>by simp⟩
  | .str x,_,_,q,r=>by
    simp only [DA] at q;subst q;obtain⟨t,rfl⟩:=r;exact⟨_,.str x t,fun _=>by simp⟩
  | .tuple ds,_,_,q,r=>by
    simp only [DA] at q
    obtain⟨a,xs,e,hs,rr⟩:=q
    subst e;cases r
    obtain⟨its,rv,⟨o,ho,hc,n,hd⟩,hz⟩:=I.tuple hs
    obtain⟨as,q,z⟩:=aF.readsR I rr rv
    exact⟨_,.tuple ho hc hd q,fun c=>z (by simpa [eU] using c)⟩
  | .list ds,_,_,q,r=>by
    simp only [DA] at q
    obtain⟨a,xs,e,hs,rr⟩:=q
    subst e;cases r
    obtain⟨its,rv,ht,hz⟩:=I.list hs
    obtain⟨o,ho,hc,n,hd⟩:=ht.isList
    obtain⟨as,q,z⟩:=aF.readsR I rr rv
    exact⟨_,.list ho hc hd q,fun c=>by simp [eU] at c⟩
  | .dict kvs,_,_,q,r=>by
    simp only [DA] at q
    obtain⟨a,m,e,hs,rfl⟩:=q
    subst e;cases r
    obtain⟨_,hS,vs,kv,o,es,ep,ho,hx,hd,_,hp,_⟩:=(show dZ X.prog X.w H s.heap a (.dK (m.map fun p=>(Sum.inl p.1,V.int p.2))) from I.hok a _ hs)
    obtain⟨c1,c2⟩:=mw (h:=s.heap) kv hp
    refine⟨_,Reads.dict (as:=[]) (bs:=[]) ho hx.1 hd ?_ ?_,fun _=>?_⟩
    · rw [List.map_map];exact c1
    · rw [List.map_map];exact c2
    · have:a≠sysModules:=by simpa using hS
      simpa using this.symm
theorem aF.readsR{X:Cx}{pins:List (Addr × Obj)}{σ:L2.St}{H:Hp}{s:Shared}(I:aB X pins σ H s):∀{ds:List PyData} {xs:List V} {us:List Value},aF X.K H ds xs→aM xs us→∃as,ReadsAll s.heap us ds as∧(dO ds=true→sysModules∉as)
  | [],_,_,q,r=>by
    simp only [aF] at q;subst q;cases r;exact⟨_,.nil,fun _=>by simp⟩
  | d::ds,_,_,q,r=>by
    simp only [aF] at q
    obtain⟨x,rr,e,a,b⟩:=q
    subst e
    cases r with
    | cons p p'=>
      obtain⟨as,q1,z1⟩:=DA.readsR I a p
      obtain⟨bs,q2,z2⟩:=aF.readsR I b p'
      refine⟨_,.cons q1 q2,fun c=>?_⟩
      simp only [dO,Bool.and_eq_true] at c
      intro z
      rcases List.mem_append.mp z with z | z
      · exact z1 c.1 z
      · exact z2 c.2 z
end
def gY(d:PyData):Bool:=(fy d || (!d.hasDict || eU d))&&d.showable&&decide (d.depth≤60)&&decide (d.shown.length≤sizeLine)
def iw:En→Rv→Option Rv:=fun _ x=>match x with
  | .d d=>if gY d=true then some (.d (.str d.shown)) else none
  | _=>none
def wW(K:PySem.W.Frag):List V→Hp→VK→Prop:=fun xs H Q=>∃x d,xs=[x]∧DA K H d x∧(d.hasDict=true→eU d=true)∧d.showable=true∧d.depth≤60∧d.shown.length≤sizeLine∧Q (.str d.shown) H
mutual
theorem fB:∀(d:PyData),fy d=true→d.hasDict=false
  | .none,_=>rfl
  | .bool _,_=>rfl
  | .int _,_=>rfl
  | .str _,_=>rfl
  | .tuple ds,h=>by simp only [PyData.hasDict];exact jE ds (by simpa [fy] using h)
  | .list ds,h=>by simp [fy] at h
  | .dict _,h=>by simp [fy] at h
theorem jE:∀(ds:List PyData),fx ds=true→PyData.hasDictAll ds=false
  | [],_=>rfl
  | d::r,h=>by
    simp only [fx,Bool.and_eq_true] at h
    simp only [PyData.hasDictAll,fB d h.1,jE r h.2,Bool.or_self]
end
theorem rl{X:Cx}{k:Nat}(hr:cY k X.A):e_ X (.builtin "repr") (wW X.K):=by
  intro pins s σ H xs us Q I r h
  obtain⟨x,d,rfl,ha,hdl,hsh,hdp,hsz,q⟩:=h
  obtain⟨u,rfl,ru⟩:∃u,us=[u]∧bz x u:=by
    cases r with
    | cons p p'=>cases p';exact⟨_,rfl,p⟩
  have hun:=hr.un
  obtain⟨as,rd,hm⟩:=DA.readsR I ha ru
  have fin:∀a,u=.ref a→wpAny (model X.prog X.w) X.A (call (.builtin "repr") [u]) (EP X pins σ Q) X.xe s:=fun a e=>by
    subst e
    exact repr_of_reads' rd hsh (fun z=>hm (hdl z)) hr.gd (by lia) (fun _ _ e=>e) (fun h' u tk hk=>⟨.str _,H,I.kept hk,⟨_,rfl⟩,q⟩) hsz
  cases d with
  | none=>simp only [DA] at ha;subst ha;cases ru;exact P.repr_of_none ⟨.str _,H,I.tok _,⟨_,rfl⟩,q⟩
  | bool b=>simp only [DA] at ha;subst ha;cases ru;exact P.repr_of_bool ⟨.str _,H,I.tok _,⟨_,rfl⟩,q⟩
  | int i=>
    simp only [DA] at ha;subst ha;obtain⟨t,rfl⟩:=ru
    simp only [PyData.showable,decide_eq_true_eq] at hsh
    exact P.repr_of_int hsh ⟨.str _,H,I.tok _,⟨_,rfl⟩,q⟩
  | str y=>simp only [DA] at ha;subst ha;obtain⟨t,rfl⟩:=ru;exact P.repr_of_str ⟨.str _,H,I.tok _,⟨_,rfl⟩,q⟩ hsz
  | list ds=>obtain⟨a,_,e,_⟩:=dQ.mp ha;subst e;exact fin a ru
  | dict ds=>simp only [DA] at ha;obtain⟨a,_,e,_⟩:=ha;subst e;exact fin a ru
  | tuple ds=>obtain⟨a,_,e,_⟩:=bW.mp ha;subst e;exact fin a ru
theorem BL:eL K (wW K) (g1 iw):=iM fun σ H0 F H e x z v Q R A hg q=>by
  unfold iw at hg
  split at hg
  case h_2=>cases hg
  case h_1 d=>
  split at hg
  case isFalse=>cases hg
  case isTrue hl=>
  cases hg
  unfold gY at hl
  rw [Bool.and_eq_true,Bool.and_eq_true,Bool.and_eq_true,decide_eq_true_iff,decide_eq_true_iff] at hl
  refine⟨v,d,rfl,DA.mono R.sm A,fun z=>?_,hl.1.1.2,hl.1.2,hl.2,q F H _ (dY.refl _ _ _ _) R ((Az (K:=K) (F:=F)).mpr rfl)⟩
  have c:=hl.1.1.1
  cases hf:fy d with
  | true=>rw [fB d hf] at z;cases z
  | false=>rw [hf,z] at c;simpa using c
end
end L2
namespace L2
open PySem PySem.Spec PyProof.Rows
section
variable{K:PySem.W.Frag}{σ:L2.St}{H0 F H F' H':Hp}{e e':En}
theorem aZ.upd1(R:aZ K F H σ e){σ':L2.St}(i:Nat)(hl:σ'.length=e'.length)(hσ:∀j,j≠i→σ'[j]?=σ[j]?)(he:∀j,j≠i→e'[j]?=e[j]?)(sF:aw F F')(sm:aw F' H')(hf:∀j a,j≠i→Fp σ e H j a→F' a=none)
    (hh:∀j a o,j≠i→Fp σ e H j a→H a=some o→H' a=some o)(hd:∀x,e'[i]?=some (some (.d x))→∃v,σ'[i]?=some (some v)∧DA K F' x v)
    (ho:∀xs,e'[i]?=some (some (.l xs))→∃l vs,σ'[i]?=some (some (.ref l))∧F' l=none∧H' l=some (.lst vs)∧aF K F' xs vs)
    (hn:∀xss,e'[i]?=some (some (.n xss))→∃(l:Addr) (bs:List Addr),σ'[i]?=some (some (.ref l))∧F' l=none∧H' l=some (.lst (bs.map V.ref))∧bs.length=xss.length∧bs.Nodup∧l∉bs∧
      ∀(k:Nat) (b:Addr) (ys:List PyData),bs[k]?=some b→xss[k]?=some ys→F' b=none∧∃us,H' b=some (.lst us)∧aF K F' ys us)
    (hi:∀a j,j≠i→Fp σ' e' H' i a→¬Fp σ e H j a):aZ K F' H' σ' e'∧∀j a,j≠i→(Fp σ' e' H' j a↔ Fp σ e H j a):=by
  have fs:∀j a,j≠i→(Fp σ' e' H' j a↔ Fp σ e H j a):=by
    intro j a hj
    have key:∀xss l,e[j]?=some (some (.n xss))→σ[j]?=some (some (.ref l))→H' l=H l:=fun xss l h1 h2=>by
      obtain⟨l',bs,g1,g2,g3,_⟩:=R.nst j xss h1
      rw [h2] at g1;cases g1
      rw [g3]
      exact hh j l _ hj (.inr ⟨xss,l,bs,h1,h2,g3,.inl rfl⟩) g3
    unfold Fp
    rw [he j hj,hσ j hj]
    constructor
    · rintro(h1 | ⟨xss,l,bs,h1,h2,h3,h4⟩)
      · exact .inl h1
      · exact .inr ⟨xss,l,bs,h1,h2,by rw [←key xss l h1 h2];exact h3,h4⟩
    · rintro(h1 | ⟨xss,l,bs,h1,h2,h3,h4⟩)
      · exact .inl h1
      · exact .inr ⟨xss,l,bs,h1,h2,by rw [key xss l h1 h2];exact h3,h4⟩
  refine⟨⟨sm,hl,fun j x q=>?_,fun j xs q=>?_,fun j xss q=>?_,fun j k a q1 q2=>?_⟩,fs⟩
  · by_cases z:j=i
    · subst z;exact hd x q
    · rw [he j z] at q
      obtain⟨v,h1,h2⟩:=R.dat j x q
      exact⟨v,by rw [hσ j z];exact h1,DA.mono sF h2⟩
  · by_cases z:j=i
    · subst z;exact ho xs q
    · rw [he j z] at q
      obtain⟨l,vs,h1,h2,h3,h4⟩:=R.own j xs q
      have o:Fp σ e H j l:=.inl ⟨xs,q,h1⟩
      exact⟨l,vs,by rw [hσ j z];exact h1,hf j l z o,hh j l _ z o h3,h4.mono sF⟩
  · by_cases z:j=i
    · subst z;exact hn xss q
    · rw [he j z] at q
      obtain⟨l,bs,h1,h2,h3,h4,h5,h6,h7⟩:=R.nst j xss q
      have o:Fp σ e H j l:=.inr ⟨xss,l,bs,q,h1,h3,.inl rfl⟩
      refine⟨l,bs,by rw [hσ j z];exact h1,hf j l z o,hh j l _ z o h3,h4,h5,h6,fun k b ys g1 g2=>?_⟩
      obtain⟨c1,us,c2,c3⟩:=h7 k b ys g1 g2
      have ob:Fp σ e H j b:=.inr ⟨xss,l,bs,q,h1,h3,.inr (List.mem_of_getElem? g1)⟩
      exact⟨hf j b z ob,us,hh j b _ z ob c2,c3.mono sF⟩
  · by_cases zj:j=i
    · subst zj
      by_cases zk:k=j
      · exact zk.symm
      · exact absurd ((fs k a zk).mp q2) (hi a k zk q1)
    · by_cases zk:k=i
      · subst zk
        exact absurd ((fs j a zj).mp q1) (hi a j zj q2)
      · exact R.fp j k a ((fs j a zj).mp q1) ((fs k a zk).mp q2)
theorem aZ.putL(R:aZ K F H σ e){i:Nat}{xs ys:List PyData}{l:Addr}{vs:List V}(hi:e[i]?=some (some (.l xs)))(hl:σ[i]?=some (some (.ref l)))(hd:aF K F ys vs):
    aZ K F (bw H l (.lst vs)) σ (e.set i (some (.l ys)))∧dY σ F H e F (bw H l (.lst vs)) (e.set i (some (.l ys))):=by
  obtain⟨l',vs',h1,h2,h3,h4⟩:=R.own i xs hi
  rw [hl] at h1;cases h1
  have hlt:i < e.length:=(List.getElem?_eq_some_iff.mp hi).1
  have fi:Fp σ e H i l:=.inl ⟨xs,hi,hl⟩
  have gi:(e.set i (some (Sv.l ys)))[i]?=some (some (.l ys)):=List.getElem?_set_self hlt
  obtain⟨R',fs⟩:=R.upd1 (F':=F) (H':=bw H l (.lst vs)) (e':=e.set i (some (.l ys))) i (by rw [List.length_set];exact R.len) (fun _ _=>rfl) (fun j hj=>List.getElem?_set_ne (Ne.symm hj)) (aw.refl F)
    (fun b o q=>by
      have z:b≠l:=fun z=>by rw [z,h2] at q;cases q
      rw [aQ z];exact R.sm b o q)
    (fun j a _ q=>(R.fpAt q).1)
    (fun j a o hj q ha=>by
      have z:a≠l:=fun z=>hj (R.fp j i a q (by rw [z];exact fi))
      rw [aQ z];exact ha)
    (fun x q=>by rw [gi] at q;cases q) (fun zs q=>by rw [gi] at q;cases q;exact⟨l,vs,hl,h2,aL,hd⟩) (fun xss q=>by rw [gi] at q;cases q)
    (fun a j hj q q2=>by
      rcases q with ⟨zs,_,q⟩ | ⟨xss,_,_,q,_⟩
      · rw [hl] at q;cases q
        exact hj (R.fp j i _ q2 fi)
      · rw [gi] at q;cases q)
  refine⟨R',⟨aw.refl _,fun a q=>?_,fun _ _ q _ _=>q,fun a ws q=>?_,fun a o q n=>?_,fun j=>?_,fun a ⟨j,q⟩=>?_⟩⟩
  · by_cases z:a=l
    · rw [z,aL] at q;cases q
    · rw [aQ z] at q;exact q
  · by_cases z:a=l
    · rw [z];exact⟨vs,aL⟩
    · rw [aQ z];exact⟨ws,q⟩
  · have z:a≠l:=fun z=>n ⟨i,by rw [z];exact fi⟩
    rw [aQ z];exact q
  · by_cases z:j=i
    · subst z;rw [gi];exact⟨fun _=>⟨xs,hi⟩,fun _=>⟨ys,rfl⟩⟩
    · rw [List.getElem?_set_ne (Ne.symm z)]
  · by_cases z:j=i
    · subst z
      rcases q with ⟨zs,_,q⟩ | ⟨xss,_,_,q,_⟩
      · rw [hl] at q;cases q;exact .inl ⟨j,fi⟩
      · rw [gi] at q;cases q
    · exact .inl ⟨j,(fs j a z).mp q⟩
theorem aZ.setD(R:aZ K F H σ e)(i:Nat){x:PyData}{v:V}(h:DA K F x v):aZ K F H (σ.set i (some v)) (e.set i (some (.d x)))∧∀a,cI (σ.set i (some v)) (e.set i (some (.d x))) H a→cI σ e H a:=by
  have gi:∀s,(e.set i (some (Sv.d x)))[i]?=some (some s)→s=.d x∧i < e.length:=fun s q=>by
    have hlt:i < e.length:=by have:=(List.getElem?_eq_some_iff.mp q).1;simpa using this
    rw [List.getElem?_set_self hlt] at q
    exact⟨(Option.some.inj (Option.some.inj q)).symm,hlt⟩
  have nofp:∀a,¬Fp (σ.set i (some v)) (e.set i (some (.d x))) H i a:=fun a q=>by
    rcases q with ⟨zs,q,_⟩ | ⟨xss,_,_,q,_⟩
    · cases (gi _ q).1
    · cases (gi _ q).1
  obtain⟨R',fs⟩:=R.upd1 (F':=F) (H':=H) (σ':=σ.set i (some v)) (e':=e.set i (some (.d x))) i (by rw [List.length_set,List.length_set];exact R.len) (fun j hj=>List.getElem?_set_ne (Ne.symm hj)) (fun j hj=>List.getElem?_set_ne (Ne.symm hj)) (aw.refl F) R.sm
    (fun j a _ q=>(R.fpAt q).1) (fun j a o _ _ ha=>ha)
    (fun y q=>by
      obtain⟨z,hlt⟩:=gi _ q
      cases z
      exact⟨v,List.getElem?_set_self (by rw [R.len];exact hlt),h⟩)
    (fun zs q=>by cases (gi _ q).1) (fun xss q=>by cases (gi _ q).1) (fun a j hj q=>absurd q (nofp a))
  refine⟨R',fun a ⟨j,q⟩=>?_⟩
  by_cases z:j=i
  · subst z;exact absurd q (nofp a)
  · exact⟨j,(fs j a z).mp q⟩
theorem aZ.setL(R:aZ K F H σ e)(i:Nat){xs:List PyData}{l:Addr}{vs:List V}(h1:F l=none)(h2:H l=some (.lst vs))(h3:aF K F xs vs)(h4:¬cI σ e H l):aZ K F H (σ.set i (some (.ref l))) (e.set i (some (.l xs)))∧∀a,cI (σ.set i (some (.ref l))) (e.set i (some (.l xs))) H a→cI σ e H a∨a=l:=by
  have gi:∀s,(e.set i (some (Sv.l xs)))[i]?=some (some s)→s=.l xs∧i < e.length:=fun s q=>by
    have hlt:i < e.length:=by have:=(List.getElem?_eq_some_iff.mp q).1;simpa using this
    rw [List.getElem?_set_self hlt] at q
    exact⟨(Option.some.inj (Option.some.inj q)).symm,hlt⟩
  have onefp:∀a,Fp (σ.set i (some (.ref l))) (e.set i (some (.l xs))) H i a→a=l:=fun a q=>by
    rcases q with ⟨zs,q,q2⟩ | ⟨xss,_,_,q,_⟩
    · obtain⟨_,hlt⟩:=gi _ q
      rw [List.getElem?_set_self (by rw [R.len];exact hlt)] at q2
      cases q2;rfl
    · cases (gi _ q).1
  obtain⟨R',fs⟩:=R.upd1 (F':=F) (H':=H) (σ':=σ.set i (some (.ref l))) (e':=e.set i (some (.l xs))) i (by rw [List.length_set,List.length_set];exact R.len) (fun j hj=>List.getElem?_set_ne (Ne.symm hj)) (fun j hj=>List.getElem?_set_ne (Ne.symm hj)) (aw.refl F) R.sm
    (fun j a _ q=>(R.fpAt q).1) (fun j a o _ _ ha=>ha) (fun y q=>by cases (gi _ q).1)
    (fun zs q=>by
      obtain⟨z,hlt⟩:=gi _ q
      cases z
      exact⟨l,vs,List.getElem?_set_self (by rw [R.len];exact hlt),h1,h2,h3⟩)
    (fun xss q=>by cases (gi _ q).1) (fun a j hj q q2=>h4 ⟨j,by rw [onefp a q] at q2;exact q2⟩)
  refine⟨R',fun a ⟨j,q⟩=>?_⟩
  by_cases z:j=i
  · subst z;exact .inr (onefp a q)
  · exact .inl ⟨j,(fs j a z).mp q⟩
end
section
variable{X:Cx}{K:PySem.W.Frag}{o a:Expr}{es:List Expr}{fo:FE}{fs:FA}{name:Str}{apos cpos:Pos}{id:String}
def si(K:PySem.W.Frag)(r:V→List V→Hp→VK→Prop)(g:List PyData→List PyData→Option (PyData × List PyData)):Prop:=
  ∀(F H:Hp) (l:Addr) (xs ys ds:List PyData) (z:PyData) (vs us:List V) (Q:VK),F l=none→aw F H→H l=some (.lst vs)→aF K F xs vs→aF K F ds us→g xs ds=some (z,ys)→
    (∀w ws,DA K F z w→aF K F ys ws→Q w (bw H l (.lst ws)))→r (.ref l) us H Q
def du(g:List PyData→List PyData→Option (PyData × List PyData))(fo:FE)(fs:FA):FE:=fun e=>(fo e).bind fun p=>match p.1 with
  | .s i=>(fs p.2).bind fun q=>(i4 q.1).bind fun ds=>match q.2[i]? with
    | some (some (.l xs))=>(g xs ds).map fun z=>(.d z.1,q.2.set i (some (.l z.2)))
    | _=>none
  | _=>none
theorem xC{r:V→List V→Hp→VK→Prop}{g:List PyData→List PyData→Option (PyData × List PyData)}(hm:si K r g){σ:L2.St}{H:Hp}{Q:VK}(h:fE K (du g fo fs) σ H Q):E2 K "list" r (fE K fo) (fA K fs) σ H Q:=by
  obtain⟨F,e,z,e',R,hf,q⟩:=h
  unfold du at hf
  obtain⟨⟨x,e1⟩,h1,hf⟩:=Option.bind_eq_some_iff.mp hf
  match x,h1,hf with
  | .s i,h1,hf=>
  dsimp only at hf
  obtain⟨⟨rs,e2⟩,h2,hf⟩:=Option.bind_eq_some_iff.mp hf
  obtain⟨ds,h3,hf⟩:=Option.bind_eq_some_iff.mp hf
  refine⟨F,e,_,e1,R,h1,fun F1 H1 v X1 R1 A1=>?_⟩
  obtain⟨g1,zs,g2⟩:=A1
  obtain⟨l,vs,c1,c2,c3,c4⟩:=R1.own i zs g2
  rw [g1] at c1;cases c1
  refine⟨.inl ⟨rfl,vs,.inl (.inl c3)⟩,F1,e1,rs,e2,R1,h2,fun F2 H2 us X2 R2 A2=>?_⟩
  match h4:e2[i]?,hf with
  | some (some (.l xs)),hf=>
  dsimp only at hf
  obtain⟨⟨zd,ys⟩,h5,hf⟩:=Option.map_eq_some_iff.mp hf
  cases hf
  obtain⟨F3,R3,s3,d3,f3⟩:=bT.frozen R2 A2 h3
  obtain⟨l',vs',k1,k2,k3,k4⟩:=R3.own i xs h4
  rw [g1] at k1;cases k1
  refine hm F3 H2 l xs ys ds zd vs' us Q k2 R3.sm k3 k4 d3 h5 fun w ws hw hws=>?_
  obtain⟨R4,X4⟩:=R3.putL h4 g1 hws
  exact q _ _ _ ((X1.trans (X2.frz s3 f3)).trans X4) R4 hw
theorem Ac{r:V→List V→Hp→VK→Prop}{g:List PyData→List PyData→Option (PyData × List PyData)}(slot:Slot "list" name id)(hty:typeOf (.builtin id)=pure (.type "method_descriptor"))(hm:EQ X id r)(hf:si X.K r g)(ho:PE X o (fE X.K fo))(ha:PA X (a::es) (fA X.K fs))
    (hbase:attributeBase o name X.env (eval o X.env)=eval o X.env)
    (hfew:((backTo cpos (starEach (a::es) X.env)).all (fun x=> !x.1)&&(backToKw cpos (keywordEach [] X.env)).all (fun x=>x.1.isSome)
      &&decide ((a::es).length+([]:List Keyword).length+(if ([]:List Keyword).isEmpty then 0 else 1) < 30))=true)
    (hline:(apos.endLine==cpos.line)=true)(hs:starEach (a::es) X.env=(false,eval a X.env)::starEach es X.env)(hplain:(backTo cpos (starEach es X.env)).any (·.1)=false):
    PE X (.Call (.Attribute o name apos) (a::es) [] cpos) (fE X.K (du g fo fs)):=(C4 PySem.F.plainAttrs_list slot hty hm ho ha hbase hfew hline hs hplain).mono fun _ _ _ h=>xC hf h
def bX:List PyData→List PyData→Option (PyData × List PyData):=fun xs ds=>match ds with
  | [d]=>if xs.length < 1000000 then some (.none,xs++[d]) else none
  | _=>none
theorem uV:si K sT bX:=by
  intro F H l xs ys ds z vs us Q hF sm hl d1 d2 hg q
  unfold bX at hg
  match ds,hg,d2 with
  | [d],hg,d2=>
    simp only [aF] at d2
    obtain⟨w,r,rfl,hw,rfl⟩:=d2
    dsimp only at hg
    split at hg
    case isFalse=>cases hg
    case isTrue hlt=>
    cases hg
    have:=d1.len
    have sl:sizeLine=16777216:=sizeLine_eq
    exact⟨l,vs,w,rfl,rfl,hl,by lia,q _ _ (sD.mpr rfl) (d1.append (aF.one hw))⟩
def AO:List PyData→List PyData→Option (PyData × List PyData):=fun xs ds=>match ds with
  | []=>(xs[xs.length - 1]?).map fun d=>(d,xs.dropLast)
  | _=>none
def jj:List PyData→List PyData→Option (PyData × List PyData):=fun xs ds=>match ds with
  | [.int i]=>if 0≤i∧i < 1000000000 then(xs[i.toNat]?).map fun d=>(d,xs.eraseIdx i.toNat) else none
  | _=>none
theorem yT:si K wU jj:=by
  intro F H l xs ys ds z vs us Q hF sm hl d1 d2 hg q
  unfold jj at hg
  match ds,hg,d2 with
  | [.int i],hg,d2=>
    simp only [aF,DA] at d2
    obtain⟨w,r,rfl,rfl,rfl⟩:=d2
    dsimp only at hg
    split at hg
    case isFalse=>cases hg
    case isTrue hlt=>
    obtain⟨d,h1,h2⟩:=Option.map_eq_some_iff.mp hg
    cases h2
    obtain⟨v,g1,g2⟩:=d1.get h1
    have hlt2:i.toNat < vs.length:=(List.getElem?_eq_some_iff.mp g1).1
    exact⟨l,vs,i,i.toNat,v,rfl,rfl,hl,by lia,by lia,seqIndex_of hlt.1 (by lia),g1,q _ _ g2 (d1.erase _)⟩
end
end L2
namespace L2
open PySem PySem.Spec PyProof.Rows
inductive Fl where
  | nx (e:En)
  | bk (e:En)
  | ct (e:En)
  | rt (r:Rv) (e:En)
abbrev FS:=En→Option Fl
structure dt (W:List Nat) (σ:L2.St) (F H:Hp) (e:En) (σ':L2.St) (F' H':Hp) (e':En):Prop where
  sf:aw F F'
  dom:∀a,H' a=none→H a=none
  fr:∀a vs,F a=none→H a=some (.lst vs)→¬cI σ e H a→F' a=none
  lst:∀a vs,H a=some (.lst vs)→∃vs',H' a=some (.lst vs')
  tmp:∀a o,H a=some o→¬cI σ e H a→H' a=some o
  own:∀a,cI σ' e' H' a→cI σ e H a∨H a=none
  wr:∀j,j∉W→σ'[j]?=σ[j]?
section
variable{K:PySem.W.Frag}{W W1 W2:List Nat}{σ σ1 σ2 σ':L2.St}{H0 F H F1 H1 F2 H2 F' H':Hp}{e e1 e2 e':En}
theorem dt.refl:dt W σ F H e σ F H e:=⟨aw.refl _,fun _ h=>h,fun _ _ h _ _=>h,fun _ vs h=>⟨vs,h⟩,fun _ _ h _=>h,fun _ h=>.inl h,fun _ _=>rfl⟩
theorem dY.s(x:dY σ F H e F' H' e'):dt W σ F H e σ F' H' e':=⟨x.sf,x.dom,x.fr,x.lst,x.tmp,x.ow,fun _ _=>rfl⟩
theorem dt.trans(x:dt W σ F H e σ1 F1 H1 e1)(y:dt W σ1 F1 H1 e1 σ2 F2 H2 e2):dt W σ F H e σ2 F2 H2 e2:=
  ⟨x.sf.trans y.sf,fun a h=>x.dom a (y.dom a h),fun a vs h n no=>let ⟨vs',q⟩:=x.lst a vs n;y.fr a vs' (x.fr a vs h n no) q (fun z=>(x.own a z).elim no fun z=>by rw [n] at z;cases z),fun a vs h=>let ⟨vs',q⟩:=x.lst a vs h;y.lst a vs' q,
    fun a o h n=>y.tmp a o (x.tmp a o h n) (fun z=>(x.own a z).elim n fun z=>by rw [h] at z;cases z),
    fun a h=>(y.own a h).elim (x.own a) (fun z=>.inr (x.dom a z)),
    fun j h=>(y.wr j h).trans (x.wr j h)⟩
theorem dt.mono(x:dt W1 σ F H e σ' F' H' e')(h:∀j,j∈W1→j∈W):dt W σ F H e σ' F' H' e':=⟨x.sf,x.dom,x.fr,x.lst,x.tmp,x.own,fun j n=>x.wr j fun z=>n (h j z)⟩
end
def lW(K:PySem.W.Frag)(W:List Nat)(σ:L2.St)(F H:Hp)(e:En)(D:q_):Fl→Prop
  | .nx e'=>∀F' H' σ',dt W σ F H e σ' F' H' e'→aZ K F' H' σ' e'→D.nx σ' H'
  | .bk e'=>∀F' H' σ',dt W σ F H e σ' F' H' e'→aZ K F' H' σ' e'→D.bk σ' H'
  | .ct e'=>∀F' H' σ',dt W σ F H e σ' F' H' e'→aZ K F' H' σ' e'→D.ct σ' H'
  | .rt r e'=>∀F' H' σ' v,dt W σ F H e σ' F' H' e'→aZ K F' H' σ' e'→ck K σ' H F' H' e' r v→D.rt v H'
def fS(K:PySem.W.Frag)(f:FS)(W:List Nat):TS:=fun D σ H=>∃F e fl,aZ K F H σ e∧f e=some fl∧lW K W σ F H e D fl
theorem PS.mono{X:Cx}{st:Stmt}{t t':TS}(h:PS X st t)(m:∀D σ H,t' D σ H→t D σ H):PS X st t':=fun pins s σ H D I q=>h pins s σ H D I (m D σ H q)
theorem kW.mono{X:Cx}{st:List Stmt}{t t':TS}(h:kW X st t)(m:∀D σ H,t' D σ H→t D σ H):kW X st t':=fun pins s σ H D I q=>h pins s σ H D I (m D σ H q)
theorem lW.later{K:PySem.W.Frag}{W W1 W2:List Nat}{σ σ1:L2.St}{F H F1 H1:Hp}{e e1:En}{D:q_}{fl:Fl}(h:lW K W σ F H e D fl)(x:dt W1 σ F H e σ1 F1 H1 e1)(h1:∀j,j∈W1→j∈W)(h2:∀j,j∈W2→j∈W):lW K W2 σ1 F1 H1 e1 D fl:=by
  cases fl with
  | nx e'=>exact fun F' H' σ' y R=>h F' H' σ' ((x.mono h1).trans (y.mono h2)) R
  | bk e'=>exact fun F' H' σ' y R=>h F' H' σ' ((x.mono h1).trans (y.mono h2)) R
  | ct e'=>exact fun F' H' σ' y R=>h F' H' σ' ((x.mono h1).trans (y.mono h2)) R
  | rt r e'=>exact fun F' H' σ' v y R A=>h F' H' σ' v ((x.mono h1).trans (y.mono h2)) R (A.weak x.dom)
section
variable{X:Cx}{K:PySem.W.Frag}{W W1 W2:List Nat}{st:Stmt}{ib:List Stmt}{f g:FS}{a b:Expr}{fa:FE}{ft:FT}{pos:Pos}
def ic:FS:=fun e=>some (.nx e)
def aG(f g:FS):FS:=fun e=>(f e).bind fun fl=>match fl with
  | .nx e1=>g e1
  | fl=>some fl
theorem cH:kW X [] (fS K ic []):=yW.mono fun D σ H h=>by
  obtain⟨F,e,fl,R,hf,q⟩:=h
  cases hf
  exact q F H σ dt.refl R
theorem ag(h1:PS X st (fS K f W1))(h2:kW X ib (fS K g W2)):kW X (st::ib) (fS K (aG f g) (W1++W2)):=(wJ h1 h2).mono fun D σ H h=>by
  obtain⟨F,e,fl,R,hf,q⟩:=h
  unfold aG at hf
  obtain⟨fl1,h1,hf⟩:=Option.bind_eq_some_iff.mp hf
  have s1:∀j,j∈W1→j∈W1++W2:=fun j h=>List.mem_append.mpr (.inl h)
  have s2:∀j,j∈W2→j∈W1++W2:=fun j h=>List.mem_append.mpr (.inr h)
  refine⟨F,e,fl1,R,h1,?_⟩
  cases fl1 with
  | nx e1=>exact fun F' H' σ' x R'=>⟨F',e1,fl,R',hf,q.later x s1 s2⟩
  | bk e1=>cases hf;exact fun F' H' σ' x R'=>q F' H' σ' (x.mono s1) R'
  | ct e1=>cases hf;exact fun F' H' σ' x R'=>q F' H' σ' (x.mono s1) R'
  | rt r e1=>cases hf;exact fun F' H' σ' v x R' A=>q F' H' σ' v (x.mono s1) R' A
theorem am(h1:PS X st (fS K f W)):kW X [st] (fS K f W):=yX h1
def gj(fa:FE):FS:=fun e=>(fa e).map fun p=>.nx p.2
theorem en(he:PE X a (fE K fa))(hs:swapsWith a none pos.line X.env=pure false):PS X (.Expr a pos) (fS K (gj fa) []):=(yV he hs).mono fun D σ H h=>by
  obtain⟨F,e,fl,R,hf,q⟩:=h
  obtain⟨⟨x,e1⟩,h1,hf⟩:=Option.map_eq_some_iff.mp hf
  cases hf
  exact⟨F,e,x,e1,R,h1,fun F1 H1 v X1 R1 A1=>q F1 H1 σ X1.s R1⟩
def bF(fa:FE):FS:=fun e=>(fa e).map fun p=>.rt p.1 p.2
theorem aK(he:PE X a (fE K fa)):PS X (.Return (some a) pos) (fS K (bF fa) []):=(Bv he).mono fun D σ H h=>by
  obtain⟨F,e,fl,R,hf,q⟩:=h
  obtain⟨⟨x,e1⟩,h1,hf⟩:=Option.map_eq_some_iff.mp hf
  cases hf
  exact⟨F,e,x,e1,R,h1,fun F1 H1 v X1 R1 A1=>q F1 H1 σ v X1.s R1 A1⟩
def k7(ft:FT)(f g:FS):FS:=fun e=>(ft e).bind fun p=>if p.1=true then f p.2 else g p.2
theorem eW{c:Expr}{bs cs:List Stmt}(hc:PT X c (fT K ft))(ha:kW X bs (fS K f W1))(hb:kW X cs (fS K g W2)):PS X (.If c bs cs pos) (fS K (k7 ft f g) (W1++W2)):=(C' hc ha hb).mono fun D σ H h=>by
  obtain⟨F,e,fl,R,hf,q⟩:=h
  unfold k7 at hf
  obtain⟨⟨x,e1⟩,h1,hf⟩:=Option.bind_eq_some_iff.mp hf
  refine⟨F,e,x,e1,R,h1,fun F1 H1 X1 R1=>?_⟩
  cases x with
  | true=>exact⟨F1,e1,fl,R1,hf,q.later (W1:=[]) X1.s (fun j h=>by cases h) fun j h=>List.mem_append.mpr (.inl h)⟩
  | false=>exact⟨F1,e1,fl,R1,hf,q.later (W1:=[]) X1.s (fun j h=>by cases h) fun j h=>List.mem_append.mpr (.inr h)⟩
def wK(i:Nat)(r:Rv)(e:En):Option En:=match r with
  | .d x=>some (e.set i (some (.d x)))
  | .l xs=>some (e.set i (some (.l xs)))
  | .s _=>none
theorem wL{σ:L2.St}{H F H1 F1:Hp}{e e1 e2:En}{i:Nat}{r:Rv}{v:V}(R:aZ K F H σ e)(X1:dY σ F H e F1 H1 e1)(R1:aZ K F1 H1 σ e1)(A1:ck K σ H F1 H1 e1 r v)(h:wK i r e1=some e2):
    dt [i] σ F H e (σ.set i (some v)) F1 H1 e2∧aZ K F1 H1 (σ.set i (some v)) e2:=by
  have wr:∀j,j∉[i]→(σ.set i (some v))[j]?=σ[j]?:=fun j n=>List.getElem?_set_ne (fun z=>n (by simp [z]))
  cases r with
  | d x=>
    cases h
    obtain⟨R2,o2⟩:=R1.setD i A1
    exact⟨⟨X1.sf,X1.dom,X1.fr,X1.lst,X1.tmp,fun a h=>X1.ow a (o2 a h),wr⟩,R2⟩
  | l xs=>
    cases h
    obtain⟨l,vs,rfl,h1,h2,h3,h4,h5⟩:=A1
    obtain⟨R2,o2⟩:=R1.setL i h2 h3 h4 h5
    refine⟨⟨X1.sf,X1.dom,X1.fr,X1.lst,X1.tmp,fun a h=>?_,wr⟩,R2⟩
    rcases o2 a h with z | z
    · exact X1.ow a z
    · exact .inr (by rw [z];exact h1)
  | s j=>cases h
def aT(i:Nat)(fa:FE):FS:=fun e=>(fa e).bind fun p=>(wK i p.1 p.2).map .nx
theorem ax{i:Nat}{x:Str}{pos':Pos}(hN:X.N.Nodup)(hi:X.N[i]?=some x)(hx:Cg X.env.scope x)(he:PE X a (fE K fa))(hs:swapsWith a (some (.Name x pos')) pos.line X.env=pure false)(hf:X.fn x=true∨X.env.scope.names.lookup x=some .local):
    PS X (.Assign [.Name x pos'] a pos) (fS K (aT i fa) [i]):=(Bw hN hi hx he hs hf).mono fun D σ H h=>by
  obtain⟨F,e,fl,R,hf,q⟩:=h
  unfold aT at hf
  obtain⟨⟨r,e1⟩,h1,hf⟩:=Option.bind_eq_some_iff.mp hf
  obtain⟨e2,h2,hf⟩:=Option.map_eq_some_iff.mp hf
  cases hf
  refine⟨F,e,r,e1,R,h1,fun F1 H1 v X1 R1 A1=>?_⟩
  obtain⟨x,R2⟩:=wL R X1 R1 A1 h2
  exact q F1 H1 _ x R2
abbrev FG:=PyData→En→Option En
def fG(K:PySem.W.Frag)(g:FG)(W:List Nat):TG:=fun v σ H Q=>∃F e x e',aZ K F H σ e∧DA K F x v∧g x e=some e'∧∀σ',dt W σ F H e σ' F H e'→aZ K F H σ' e'→Q σ' H
abbrev zM:=List PyData→En→Option En
def DU(K:PySem.W.Frag)(g:zM)(W:List Nat):xK:=fun vs σ H Q=>∃F e xs e',aZ K F H σ e∧aF K F xs vs∧g xs e=some e'∧∀σ',dt W σ F H e σ' F H e'→aZ K F H σ' e'→Q σ' H
theorem PG.mono{tg:Expr}{t t':TG}(h:PG X tg t)(m:∀v σ H Q,t' v σ H Q→t v σ H Q):PG X tg t':=fun pins s σ H v u Q I r q=>h pins s σ H v u Q I r (m v σ H Q q)
theorem uM.mono{tg:List Expr}{t t':xK}(h:uM X tg t)(m:∀v σ H Q,t' v σ H Q→t v σ H Q):uM X tg t':=fun pins s σ H v u Q I r q=>h pins s σ H v u Q I r (m v σ H Q q)
def af(i:Nat):FG:=fun x e=>some (e.set i (some (.d x)))
def bo:zM:=fun xs e=>match xs with
  | []=>some e
  | _=>none
def ao(g:FG)(gs:zM):zM:=fun xs e=>match xs with
  | x::r=>(g x e).bind fun e1=>gs r e1
  | _=>none
def bB(gs:zM):FG:=fun x e=>match x with
  | .tuple xs=>gs xs e
  | _=>none
theorem ap{i:Nat}{x:Str}(hN:X.N.Nodup)(hi:X.N[i]?=some x)(hx:Cg X.env.scope x)(hf:X.fn x=true∨X.env.scope.names.lookup x=some .local):PG X (.Name x pos) (fG K (af i) [i]):=(yK hN hi hx hf).mono fun v σ H Q h=>by
  obtain⟨F,e,x,e',R,hx,hg,q⟩:=h
  cases hg
  obtain⟨R2,o2⟩:=R.setD i hx
  exact q _ ⟨aw.refl _,fun _ h=>h,fun _ _ h _ _=>h,fun _ vs h=>⟨vs,h⟩,fun _ _ h _=>h,fun a h=>.inl (o2 a h),fun j n=>List.getElem?_set_ne (fun z=>n (by simp [z]))⟩ R2
theorem cS:uM X [] (DU K bo []):=yM.mono fun v σ H Q h=>by
  obtain⟨F,e,x,e',R,hx,hg,q⟩:=h
  unfold bo at hg
  split at hg
  · cases hg
    simp only [aF] at hx
    exact⟨hx,q σ dt.refl R⟩
  · cases hg
theorem ay{es:List Expr}{g1:FG}{gs:zM}(h1:PG X a (fG K g1 W1))(h2:uM X es (DU K gs W2))
    (hs:(assignEach (a::es) X.env).map (·.2)=assign a X.env::(assignEach es X.env).map (·.2)):uM X (a::es) (DU K (ao g1 gs) (W1++W2)):=(wA h1 h2 hs).mono fun v σ H Q h=>by
  obtain⟨F,e,xs,e',R,hx,hg,q⟩:=h
  unfold ao at hg
  match xs,hg,hx with
  | x::r,hg,hx=>
    simp only [aF] at hx
    obtain⟨w,ws,e1,hw,hr⟩:=hx
    dsimp only at hg
    obtain⟨e1',h3,h4⟩:=Option.bind_eq_some_iff.mp hg
    refine⟨w,ws,e1,F,e,x,e1',R,hw,h3,fun σ1 x1 R1=>⟨F,e1',r,e',R1,hr,h4,fun σ2 x2 R2=>?_⟩⟩
    exact q σ2 ((x1.mono fun j h=>List.mem_append.mpr (.inl h)).trans (x2.mono fun j h=>List.mem_append.mpr (.inr h))) R2
theorem dS{es:List Expr}{k n:Nat}{gs:zM}(hK:X.K=K)(hc:X.calm=true)(h:uM X es (DU K gs W))(hl:∀xs e e',gs xs e=some e'→xs.length=n)(hn:(assignEach es X.env).length=n)(hst:(assignEach es X.env).findIdx? (·.1)=none):PG X (.Tuple es k pos) (fG K (bB gs) W):=(yL hK hc h hn hst).mono fun v σ H Q h=>by
  obtain⟨F,e,x,e',R,hx,hg,q⟩:=h
  unfold bB at hg
  match x,hg,hx with
  | .tuple xs,hg,hx=>
    obtain⟨p,vs,e1,e2,e3⟩:=bW.mp hx
    exact⟨p,vs,e1,R.sm.tup e2,by rw [←e3.len];exact hl xs e e' hg,F,e,xs,e',R,e3,hg,q⟩
theorem dR(xs:List PyData)(e e':En)(h:bo xs e=some e'):xs.length=0:=by
  unfold bo at h
  split at h
  · rfl
  · cases h
theorem aH{g:FG}{gs:zM}{n:Nat}(hl:∀xs e e',gs xs e=some e'→xs.length=n)(xs:List PyData)(e e':En)(h:ao g gs xs e=some e'):xs.length=n+1:=by
  unfold ao at h
  match xs,h with
  | x::r,h=>
    obtain⟨e1,h3,h4⟩:=Option.bind_eq_some_iff.mp h
    simp [hl r e1 e' h4]
def my(fa:FE)(g:FG):FS:=fun e=>(fa e).bind fun p=>match p.1 with
  | .d x=>(g x p.2).map .nx
  | _=>none
theorem kr{tg:Expr}{g:FG}(he:PE X a (fE K fa))(hg:PG X tg (fG K g W))(hs:swapsWithSole [tg] a pos.line X.env=pure false)(hw:swappedStores [tg] a X.env=pure none)
    (h1:(assignEach [tg] X.env).map (·.2)=[assign tg X.env]):PS X (.Assign [tg] a pos) (fS K (my fa g) W):=(wG he hg hs hw h1).mono fun D σ H h=>by
  obtain⟨F,e,fl,R,hf,q⟩:=h
  unfold my at hf
  obtain⟨⟨r,e1⟩,h1,hf⟩:=Option.bind_eq_some_iff.mp hf
  match r,h1,hf with
  | .d x,h1,hf=>
    obtain⟨e2,h2,hf⟩:=Option.map_eq_some_iff.mp hf
    cases hf
    exact⟨F,e,_,e1,R,h1,fun F1 H1 v X1 R1 A1=>⟨F1,e1,x,e2,R1,A1,h2,fun σ' x2 R2=>q F1 H1 σ' (X1.s.trans x2) R2⟩⟩
def rX(i j:Nat)(fs:FA):FS:=fun e=>(fs e).bind fun p=>match p.1 with
  | [.d x,.d y]=>some (.nx ((p.2.set i (some (.d x))).set j (some (.d y))))
  | _=>none
theorem wO{i j:Nat}{x y:Str}{fs:FA}{px py pt:Pos}{kt k2 pt2}(hc:X.calm=true)(hN:X.N.Nodup)(hi:X.N[i]?=some x)(hj:X.N[j]?=some y)(hij:i≠j)
    (hx:X.env.scope.names.lookup x=some .local)(hy:X.env.scope.names.lookup y=some .local)(ha:PA X [a,b] (fA K fs))
    (hw:swappedStores [.Tuple [.Name x px,.Name y py] kt pt] (.Tuple [a,b] k2 pt2) X.env=pure (some [x,y]))
    (hs:swapsWithSole [.Tuple [.Name x px,.Name y py] kt pt] (.Tuple [a,b] k2 pt2) pos.line X.env=pure false):
    PS X (.Assign [.Tuple [.Name x px,.Name y py] kt pt] (.Tuple [a,b] k2 pt2) pos) (fS K (rX i j fs) [i,j]):=(Bu hc hN hi hj hij hx hy ha hw hs).mono fun D σ H h=>by
  obtain⟨F,e,fl,R,hf,q⟩:=h
  unfold rX at hf
  obtain⟨⟨rs,e1⟩,h1,hf⟩:=Option.bind_eq_some_iff.mp hf
  refine⟨F,e,rs,e1,R,h1,fun F1 H1 vs X1 R1 A1=>?_⟩
  match rs,hf,A1 with
  | [.d x,.d y],hf,A1=>
    cases hf
    obtain⟨v,u,rfl,a1,a2⟩:=lu A1
    obtain⟨R2,o2⟩:=R1.setD i a1
    obtain⟨R3,o3⟩:=R2.setD j a2
    refine⟨v,u,rfl,q F1 H1 _ ⟨X1.sf,X1.dom,X1.fr,X1.lst,X1.tmp,fun a h=>X1.ow a (o2 a (o3 a h)),fun m n=>?_⟩ R3⟩
    rw [List.getElem?_set_ne (fun z=>n (by simp [z])),List.getElem?_set_ne (fun z=>n (by simp [z]))]
def oJ:Rv→Option PyData
  | .d x=>some x
  | .l xs=>some (.list xs)
  | .s _=>none
theorem nv{r:Rv}{d:PyData}(h:oJ r=some d):i4 [r]=some [d]:=by
  cases r with
  | d x=>cases h;rfl
  | l xs=>cases h;rfl
  | s i=>cases h
def ku(e:En):Rv→Option (Nat × List PyData)
  | .s n=>match e[n]? with
    | some (some (.l xs))=>some (n,xs)
    | _=>none
  | _=>none
theorem uw{e:En}{r:Rv}{n:Nat}{xs:List PyData}(h:ku e r=some (n,xs)):r=.s n∧e[n]?=some (some (.l xs)):=by
  unfold ku at h
  split at h
  · split at h
    · rename_i heq
      cases h;exact⟨rfl,heq⟩
    · cases h
  · cases h
def qm(fa fo fi:FE):FS:=fun e=>(fa e).bind fun p=>(oJ p.1).bind fun d=>(fo p.2).bind fun o=>(fi o.2).bind fun i=>(cj i.1).bind fun k=>(ku i.2 o.1).bind fun s=>(t_ s.2.length k).map fun j=>.nx (i.2.set s.1 (some (.l (s.2.set j d))))
theorem rT{o i:Expr}{fo fi:FE}{ps:Pos}(he:PE X a (fE K fa))(ho:PE X o (fE K fo))(hi:PE X i (fE K fi))
    (ha:∀v,assign (.Subscript o i ps) X.env v=(do
      let ov ←holding [v] (eval o X.env)
      let iv ←holding [v,ov] (eval i X.env)
      standAt ps
      holding [v,ov,iv] (setItem ov iv v)
      release [v,ov,iv] []))
    (hs:swapsWithSole [.Subscript o i ps] a pos.line X.env=pure false)(hw:swappedStores [.Subscript o i ps] a X.env=pure none)
    (h1:(assignEach [.Subscript o i ps] X.env).map (·.2)=[assign (.Subscript o i ps) X.env]):PS X (.Assign [.Subscript o i ps] a pos) (fS K (qm fa fo fi) []):=(wG he (Bn ho hi xi ha) hs hw h1).mono fun D σ H h=>by
  obtain⟨F,e,fl,R,hf,q⟩:=h
  unfold qm at hf
  obtain⟨⟨r,e1⟩,g1,hf⟩:=Option.bind_eq_some_iff.mp hf
  obtain⟨d,g2,hf⟩:=Option.bind_eq_some_iff.mp hf
  obtain⟨⟨ro,e2⟩,g3,hf⟩:=Option.bind_eq_some_iff.mp hf
  obtain⟨⟨ri,e3⟩,g4,hf⟩:=Option.bind_eq_some_iff.mp hf
  obtain⟨k,g5,hf⟩:=Option.bind_eq_some_iff.mp hf
  obtain⟨⟨n,xs⟩,g6,hf⟩:=Option.bind_eq_some_iff.mp hf
  obtain⟨j,g7,hf⟩:=Option.map_eq_some_iff.mp hf
  cases hf
  obtain⟨z6,g6'⟩:=uw g6
  dsimp only at z6 g6'
  subst z6
  refine⟨F,e,r,e1,R,g1,fun F1 H1 v X1 R1 A1=>?_⟩
  refine⟨F1,e1,_,e2,R1,g3,fun F2 H2 u X2 R2 A2=>⟨F2,e2,ri,e3,R2,g4,fun F3 H3 w X3 R3 A3=>?_⟩⟩
  have X12:=X1.trans X2
  have X13:=X12.trans X3
  have A1':=(A1.ext X2).ext X3
  obtain⟨F4,R4,s4,d4,f4⟩:=bT.frozen R3 (rs:=[r]) (vs:=[v]) ⟨v,[],rfl,A1',rfl⟩ (nv g2)
  obtain⟨h1,_⟩:=A2
  obtain⟨l,vs,k1,k2,k3,k4⟩:=R4.own n xs g6'
  rw [h1] at k1;cases k1
  simp only [aF] at d4
  obtain⟨v',r',e',hv,_⟩:=d4
  cases e'
  refine⟨l,vs,k,j,rfl,cv A3 g5,k3,by rw [←k4.len];exact g7,?_⟩
  obtain⟨R5,X5⟩:=R4.putL g6' h1 (k4.set hv j)
  exact q _ _ σ ((X13.frz s4 f4).trans X5).s R5
def g_(ft:FT)(f:FS):Nat→FS
  | 0,_=>none
  | n+1,e=>(ft e).bind fun p=>if p.1=true then(f p.2).bind fun fl=>match fl with
      | .nx e1=>g_ ft f n e1
      | .ct e1=>g_ ft f n e1
      | .bk e1=>some (.nx e1)
      | .rt r e1=>some (.rt r e1)
    else some (.nx p.2)
def jn(n:Nat)(ft:FT)(f:FS):FS:=g_ ft f n
theorem mv{n:Nat}{c:Expr}{body:List Stmt}(hp:PassesOwn (model X.prog X.w) X.A X.env X.xe)(hc:PT X c (fT K ft))(hb:kW X body (fS K f W)):PS X (.While c body [] pos) (fS K (jn n ft f) W):=(wH hp hc hb).mono fun D σ H h=>by
  refine⟨fun m σ H=>∃F e fl,aZ K F H σ e∧g_ ft f m e=some fl∧lW K W σ F H e D fl,⟨n,h⟩,?_⟩
  rintro m σ H ⟨F,e,fl,R,hf,q⟩
  cases m with
  | zero=>cases hf
  | succ m=>
    unfold g_ at hf
    obtain⟨⟨x,e1⟩,h1,hf⟩:=Option.bind_eq_some_iff.mp hf
    refine⟨F,e,x,e1,R,h1,fun F1 H1 X1 R1=>?_⟩
    have sub:∀j,j∈([]:List Nat)→j∈W:=fun j h=>by cases h
    cases x with
    | false=>
      rw [if_neg (by simp)] at hf
      cases hf
      exact CL (q F1 H1 σ X1.s R1)
    | true=>
      rw [if_pos rfl] at hf
      refine CM ?_
      obtain⟨fl1,h2,hf⟩:=Option.bind_eq_some_iff.mp hf
      have q1:lW K W σ F1 H1 e1 D fl:=q.later (W1:=[]) X1.s sub fun j h=>h
      refine⟨fun σ' H'=>∃F' e',aZ K F' H' σ' e'∧g_ ft f m e'=some fl∧lW K W σ' F' H' e' D fl,fun σ' H' ⟨F',e',r1,r2,r3⟩=>⟨m,Nat.lt_succ_self m,F',e',fl,r1,r2,r3⟩,F1,e1,fl1,R1,h2,?_⟩
      cases fl1 with
      | nx e2=>exact fun F2 H2 σ2 x R2=>⟨F2,e2,R2,hf,q1.later x (fun j h=>h) fun j h=>h⟩
      | ct e2=>exact fun F2 H2 σ2 x R2=>⟨F2,e2,R2,hf,q1.later x (fun j h=>h) fun j h=>h⟩
      | bk e2=>cases hf;exact fun F2 H2 σ2 x R2=>q1 F2 H2 σ2 x R2
      | rt r e2=>cases hf;exact fun F2 H2 σ2 v x R2 A=>q1 F2 H2 σ2 v x R2 A
end
end L2
namespace L2
open PySem PySem.Spec PyProof.Rows
theorem PI.mono{X:Cx}{tg iter:Expr}{t t':TI}(h:PI X tg iter t)(m:∀σ H R,t' σ H R→t σ H R):PI X tg iter t':=fun pins s σ H R I q=>h pins s σ H R I (m σ H R q)
theorem PI.or{X:Cx}{tg iter:Expr}{t t':TI}(h:PI X tg iter t)(h':PI X tg iter t'):PI X tg iter (fun σ H R=>t σ H R∨t' σ H R):=fun pins s σ H R I q=>by
  rcases q with q | q
  · exact h pins s σ H R I q
  · exact h' pins s σ H R I q
abbrev gD:=List (Nat × List PyData)
def uQ(K:PySem.W.Frag)(σ:L2.St)(F H:Hp)(own:gD):Prop:=∀p∈own,∃l vs,σ[p.1]?=some (some (.ref l))∧H l=some (.lst vs)∧aF K F p.2 vs
def uR(K:PySem.W.Frag)(σ:L2.St)(J:It)(items:List PyData)(own:gD)(F0:Hp):Prop:=∀F H,aw F0 F→aw F H→uQ K σ F H own→
  (∀i,i < items.length→J.go i H)∧(∀i,items.length≤i→J.stop i H)∧∀i d x H',items[i]?=some d→J.yld i H x H'→∃F',aw H H'∧aw F F'∧aw F' H'∧(∀a,F a=none→H a≠none→F' a=none)∧DA K F' d x
abbrev FI:=En→Option (List PyData × gD × En)
def keeps(own:gD)(e:En):Prop:=∀p∈own,e[p.1]?=some (some (.l p.2))
def fI(K:PySem.W.Frag)(f:FI):TI:=fun σ H R=>∃F e items own e',aZ K F H σ e∧f e=some (items,own,e')∧∀J F' H',dY σ F H e F' H' e'→aZ K F' H' σ e'→keeps own e'→uR K σ J items own F'→R J H'
section
variable{K:PySem.W.Frag}{σ:L2.St}{H0 F H F' H':Hp}{e e':En}
theorem aZ.held(R:aZ K F H σ e){own:gD}(h:keeps own e):uQ K σ F H own:=fun p hp=>by
  obtain⟨l,vs,h1,h2,h3,h4⟩:=R.own p.1 p.2 (h p hp)
  exact⟨l,vs,h1,h3,h4⟩
theorem aZ.step(R:aZ K F H σ e)(s:aw H H')(sF:aw F F')(sm:aw F' H')(fz:∀a,F a=none→H a≠none→F' a=none):aZ K F' H' σ e∧dY σ F H e F' H' e:=by
  obtain⟨R',o'⟩:=R.keep sF sm (fun a ⟨i,h⟩=>by
    obtain⟨h1,vs,h2⟩:=R.fpAt h
    exact fz a h1 (by rw [h2];simp)) fun a o _ h=>s a o h
  exact⟨R',⟨sF,fun a h=>s.free h,fun a vs h1 h2 _=>fz a h1 (by rw [h2];simp),fun a vs h=>⟨vs,s _ _ h⟩,fun a o h _=>s a o h,fun _=>Iff.rfl,fun a h=>.inl ((o' a).mp h)⟩⟩
inductive xJ (K:PySem.W.Frag) (σ:L2.St) (F:Hp) (p:Addr):Bool→List PyData→gD→Prop
  | tup {xs vs}:cP K F p vs→aF K F xs vs→xJ K σ F p false xs []
  | lst {xs vs}:i_ K F p vs→aF K F xs vs→xJ K σ F p true xs []
  | own {i xs}:σ[i]?=some (some (.ref p))→xJ K σ F p true xs [(i,xs)]
theorem xJ.at{p:Addr}{b:Bool}{xs:List PyData}{own:gD}{F0:Hp}(h:xJ K σ F0 p b xs own)(s0:aw F0 F)(s1:aw F H){own':gD}(hh:uQ K σ F H own')(hs:∀q∈own,q∈own'):∃vs,aF K F xs vs∧(if b=true then i_ K H p vs else cP K H p vs):=by
  cases h with
  | tup h1 h2=>exact⟨_,h2.mono s0,(s0.trans s1).tup h1⟩
  | lst h1 h2=>exact⟨_,h2.mono s0,(s0.trans s1).seq h1⟩
  | @own i xs h1=>
    obtain⟨l,vs,g1,g2,g3⟩:=hh (i,xs) (hs (i,xs) (by simp))
    dsimp only at g1 g3
    rw [h1] at g1;cases g1
    exact⟨vs,g3,.inl (.inl g2)⟩
def BR(e:En):Rv→Option (Bool × List PyData × gD)
  | .d (.tuple xs)=>some (false,xs,[])
  | .d (.list xs)=>some (true,xs,[])
  | .l xs=>some (true,xs,[])
  | .s i=>match e[i]? with
    | some (some (.l xs))=>some (true,xs,[(i,xs)])
    | _=>none
  | _=>none
theorem tf{r:Rv}{v:V}{b:Bool}{xs:List PyData}{own:gD}(R:aZ K F H σ e)(A:ck K σ H0 F H e r v)(h:BR e r=some (b,xs,own)):
    ∃F' p,aZ K F' H σ e∧aw F F'∧(∀a,F a=none→H0 a≠none→F' a=none)∧v=.ref p∧xJ K σ F' p b xs own∧keeps own e:=by
  cases r with
  | d x=>
    cases x with
    | tuple ds=>
      cases h
      obtain⟨a,ys,e1,e2,e3⟩:=bW.mp A
      exact⟨F,a,R,aw.refl _,fun _ h _=>h,e1,.tup e2 e3,fun p hp=>by cases hp⟩
    | list ds=>
      cases h
      obtain⟨a,ys,e1,e2,e3⟩:=dQ.mp A
      exact⟨F,a,R,aw.refl _,fun _ h _=>h,e1,.lst e2 e3,fun p hp=>by cases hp⟩
    | _=>cases h
  | l ys=>
    cases h
    obtain⟨F',R',s',d',f'⟩:=A.frozen R
    obtain⟨a,ys,e1,e2,e3⟩:=dQ.mp d'
    exact⟨F',a,R',s',f',e1,.lst e2 e3,fun p hp=>by cases hp⟩
  | s i=>
    obtain⟨h1,ys,h2⟩:=A
    simp only [BR,h2] at h
    cases h
    obtain⟨l,vs,e1,e2,e3,e4⟩:=R.own i _ h2
    rw [h1] at e1;cases e1
    exact⟨F,l,R,aw.refl _,fun _ h _=>h,rfl,.own h1,fun p hp=>by simp only [List.mem_singleton] at hp;subst hp;exact h2⟩
theorem t9{p:Addr}{xs:List PyData}{own:gD}{F0:Hp}(h:xJ K σ F0 p true xs own):uR K σ (D_ K p) xs own F0:=by
  intro F H s0 s1 hh
  obtain⟨vs,d,q⟩:=h.at s0 s1 hh fun _ h=>h
  have q:i_ K H p vs:=q
  refine⟨fun i hi=>⟨vs,vs[i]'(by rw [←d.len];exact hi),q,List.getElem?_eq_getElem _⟩,fun i hi=>⟨vs,q,by rw [←d.len];exact hi⟩,fun i x v H' hx hy=>?_⟩
  obtain⟨rfl,hy⟩:=hy
  obtain⟨w,g1,g2⟩:=d.get hx
  have e:=hy vs q
  rw [g1] at e;cases e
  exact⟨F,aw.refl _,aw.refl _,s1,fun _ h _=>h,g2⟩
theorem vO{p:Addr}{xs:List PyData}{own:gD}{F0:Hp}(h:xJ K σ F0 p false xs own):uR K σ (Ea K p) xs own F0:=by
  intro F H s0 s1 hh
  obtain⟨vs,d,q⟩:=h.at s0 s1 hh fun _ h=>h
  have q:cP K H p vs:=q
  refine⟨fun i hi=>⟨vs,vs[i]'(by rw [←d.len];exact hi),q,List.getElem?_eq_getElem _⟩,fun i hi=>⟨vs,q,by rw [←d.len];exact hi⟩,fun i x v H' hx hy=>?_⟩
  obtain⟨rfl,hy⟩:=hy
  obtain⟨w,g1,g2⟩:=d.get hx
  have e:=hy vs q
  rw [g1] at e;cases e
  exact⟨F,aw.refl _,aw.refl _,s1,fun _ h _=>h,g2⟩
theorem wc{p:Addr}{x y:V}{a b:PyData}(s1:aw F H)(hp:H p=none)(hx:DA K F a x)(hy:DA K F b y):∃F',aw H (bw H p (.tup [x,y]))∧aw F F'∧aw F' (bw H p (.tup [x,y]))∧(∀c,F c=none→H c≠none→F' c=none)∧DA K F' (.tuple [a,b]) (.ref p):=by
  have hF:F p=none:=s1.free hp
  have sF:aw F (bw F p (.tup [x,y])):=aw.new hF
  refine⟨bw F p (.tup [x,y]),aw.new hp,sF,fun b o q=>?_,fun c h n=>?_,bW.mpr ⟨p,_,rfl,.inl (.inl aL),.cons (DA.mono sF hx) (.one (DA.mono sF hy))⟩⟩
  · by_cases z:b=p
    · subst z;rw [aL] at q ⊢;exact q
    · rw [aQ z] at q ⊢;exact s1 _ _ q
  · have z:c≠p:=fun z=>n (by rw [z];exact hp)
    rw [aQ z];exact h
def hE:List PyData→List PyData→List PyData
  | x::r,y::s=>.tuple [x,y]::hE r s
  | _,_=>[]
theorem qQ:∀{xs ys:List PyData} {i:Nat} {d:PyData},(hE xs ys)[i]?=some d→∃x y,xs[i]?=some x∧ys[i]?=some y∧d=.tuple [x,y]
  | [],ys,i,d,h=>by simp [hE] at h
  | x::r,[],i,d,h=>by simp [hE] at h
  | x::r,y::s,0,d,h=>by
    simp only [hE,List.getElem?_cons_zero] at h
    cases h;exact⟨x,y,rfl,rfl,rfl⟩
  | x::r,y::s,i+1,d,h=>by
    simp only [hE,List.getElem?_cons_succ] at h
    obtain⟨a,b,h1,h2,h3⟩:=qQ h
    exact⟨a,b,by simpa using h1,by simpa using h2,h3⟩
theorem qR:∀(xs ys:List PyData),(hE xs ys).length=min xs.length ys.length
  | [],ys=>by simp [hE]
  | x::r,[]=>by simp [hE]
  | x::r,y::s=>by simp [hE,qR r s]
theorem vP{P Q:Hp→Addr→List V→Prop}{J:It}{l1 l2:Addr}{b1 b2:Bool}{xs ys:List PyData}{ms own2:gD}{F0:Hp}(h1:xJ K σ F0 l1 b1 xs ms)(h2:xJ K σ F0 l2 b2 ys own2)
    (hP:∀H vs,(if b1=true then i_ K H l1 vs else cP K H l1 vs)→P H l1 vs)(hQ:∀H vs,(if b2=true then i_ K H l2 vs else cP K H l2 vs)→Q H l2 vs)
    (go:∀i H vs us x y,P H l1 vs→Q H l2 us→vs[i]?=some x→us[i]?=some y→J.go i H)(stop:∀i H vs us,P H l1 vs→Q H l2 us→(vs.length≤i∨us.length≤i)→J.stop i H)
    (yld:∀i H v H',J.yld i H v H'→∃p x y,v=.ref p∧H p=none∧H'=bw H p (.tup [x,y])∧∀xs ys,P H l1 xs→Q H l2 ys→xs[i]?=some x∧ys[i]?=some y):
    uR K σ J (hE xs ys) (ms++own2) F0:=by
  intro F H s0 s1 hh
  obtain⟨vs,d1,q1⟩:=h1.at s0 s1 hh fun _ h=>List.mem_append.mpr (.inl h)
  obtain⟨us,d2,q2⟩:=h2.at s0 s1 hh fun _ h=>List.mem_append.mpr (.inr h)
  have q1:=hP H vs q1
  have q2:=hQ H us q2
  have l1':=d1.len
  have l2':=d2.len
  rw [qR]
  refine⟨fun i hi=>go i H vs us (vs[i]'(by lia)) (us[i]'(by lia)) q1 q2 (List.getElem?_eq_getElem _) (List.getElem?_eq_getElem _),fun i hi=>stop i H vs us q1 q2 (by lia),fun i x v H' hx hy=>?_⟩
  obtain⟨t,a,b,rfl,ht,rfl,hy3⟩:=yld i H v H' hy
  obtain⟨x',y',hx2,hy',rfl⟩:=qQ hx
  obtain⟨w,g1,g2⟩:=d1.get hx2
  obtain⟨w',g3,g4⟩:=d2.get hy'
  obtain⟨e1,e2⟩:=hy3 vs us q1 q2
  rw [g1] at e1;cases e1
  rw [g3] at e2;cases e2
  exact wc s1 ht g2 g4
def a_(lo:Int)(n:Nat):List PyData:=(List.range n).map fun(i:Nat)=>.int (lo+(i:Int))
theorem rF{lo:Int}{n:Nat}{F0:Hp}:uR K σ (DN lo n) (a_ lo n) [] F0:=by
  intro F H s0 s1 hh
  unfold a_
  rw [List.length_map,List.length_range]
  refine⟨fun i hi=>hi,fun i hi=>hi,fun i x v H' hx hy=>?_⟩
  obtain⟨rfl,rfl⟩:=hy
  rw [List.getElem?_map] at hx
  obtain⟨k,h1,rfl⟩:=Option.map_eq_some_iff.mp hx
  have h2:=(List.getElem?_eq_some_iff.mp h1).2
  simp at h2
  subst h2
  exact⟨F,aw.refl _,aw.refl _,s1,fun _ h _=>h,dw.mpr rfl⟩
end
inductive D9 (K:PySem.W.Frag) (own:gD) (σ0:L2.St) (F1:Hp) (P:En→Prop) (G:L2.St→Hp→Hp→En→Prop) (σ:L2.St) (H:Hp):Prop
  | mk {F:Hp} {e:En} (R:aZ K F H σ e) (kp:keeps own e) (hσ:∀p∈own,σ[p.1]?=σ0[p.1]?) (sF:aw F1 F) (hf:P e) (q:G σ F H e):D9 K own σ0 F1 P G σ H
section
variable{X:Cx}{K:PySem.W.Frag}{tg a b:Expr}{es:List Expr}{fa:FE}{fs:FA}{pos p tp:Pos}{k0:Nat}
def ia(fa:FE):FI:=fun e=>(fa e).bind fun p=>(BR p.2 p.1).map fun s=>(s.2.1,s.2.2,p.2)
theorem fR(hK:X.K=K)(h:PE X a (fE K fa)):PI X tg a (fI K (ia fa)):=((wB (tg:=tg) hK h).or (yO (tg:=tg) hK h)).mono fun σ H R hh=>by
  obtain⟨F,e,items,own,e',R0,hf,q⟩:=hh
  unfold ia at hf
  obtain⟨⟨r,e1⟩,h1,hf⟩:=Option.bind_eq_some_iff.mp hf
  obtain⟨⟨b,xs,ow⟩,h2,hf⟩:=Option.map_eq_some_iff.mp hf
  cases hf
  cases b with
  | true=>
    refine .inl ⟨F,e,r,e1,R0,h1,fun F1 H1 v X1 R1 A1=>?_⟩
    obtain⟨F2,p,R2,s2,f2,rfl,sc,kp⟩:=tf R1 A1 h2
    obtain⟨vs,_,c⟩:=sc.at (aw.refl _) R2.sm (R2.held kp) fun _ h=>h
    exact⟨p,rfl,⟨vs,c⟩,q _ F2 H1 (X1.frz s2 f2) R2 kp (t9 sc)⟩
  | false=>
    refine .inr ⟨F,e,r,e1,R0,h1,fun F1 H1 v X1 R1 A1=>?_⟩
    obtain⟨F2,p,R2,s2,f2,rfl,sc,kp⟩:=tf R1 A1 h2
    obtain⟨vs,_,c⟩:=sc.at (aw.refl _) R2.sm (R2.held kp) fun _ h=>h
    exact⟨p,rfl,⟨vs,c⟩,q _ F2 H1 (X1.frz s2 f2) R2 kp (vO sc)⟩
def wZ(j:Int):Bool:=decide (-1000000≤j)&&decide (j≤1000000)
theorem w6{j:Int}(h:wZ j=true): -1000000≤j∧j≤1000000:=by
  unfold wZ at h
  rw [Bool.and_eq_true,decide_eq_true_iff,decide_eq_true_iff] at h
  exact h
def ci(fs:FA):FI:=fun e=>(fs e).bind fun p=>match p.1 with
  | [r]=>(cj r).bind fun j=>if wZ j=true then some (a_ 0 j.toNat,[],p.2) else none
  | _=>none
theorem cf(hg:Gl X "range")(hm:X.mg "range"=none)(ha:PA X [a] (fA K fs))(hs:starEach [a] X.env=[(false,eval a X.env)]):PI X tg (.Call (.Name "range" p) [a] [] pos) (fI K (ci fs)):=(um hg hm ha hs).mono fun σ H R hh=>by
  obtain⟨F,e,items,own,e',R0,hf,q⟩:=hh
  unfold ci at hf
  obtain⟨⟨rs,e1⟩,h1,hf⟩:=Option.bind_eq_some_iff.mp hf
  match rs,h1,hf with
  | [r],h1,hf=>
  obtain⟨j,h2,hf⟩:=Option.bind_eq_some_iff.mp hf
  split at hf
  case isFalse=>cases hf
  case isTrue hj=>
  cases hf
  refine⟨F,e,_,e1,R0,h1,fun F1 H1 vs X1 R1 A1=>?_⟩
  obtain⟨v,rfl,A2⟩:=pz A1
  have:=w6 hj
  exact⟨j,by rw [cv A2 h2],by lia,by lia,q _ F1 H1 X1 R1 (fun _ h=>by cases h) rF⟩
open Classical in
noncomputable def j8(own:gD)(g:FG)(f:FS):List PyData→FS
  | [],e=>some (.nx e)
  | x::r,e=>(g x e).bind fun e1=>(f e1).bind fun fl=>match fl with
    | .nx e2=>if keeps own e2 then j8 own g f r e2 else none
    | .ct e2=>if keeps own e2 then j8 own g f r e2 else none
    | .bk e2=>some (.nx e2)
    | .rt v e2=>some (.rt v e2)
noncomputable def cN(W:List Nat)(fi:FI)(g:FG)(f:FS):FS:=fun e=>(fi e).bind fun p=>if (p.2.1.all fun q=> !W.contains q.1)=true then j8 p.2.1 g f p.1 p.2.2 else none
theorem cL{W1 W2:List Nat}{iter:Expr}{body:List Stmt}{fi:FI}{g:FG}{f:FS}(hp:PassesOwn (model X.prog X.w) X.A X.env X.xe)(hc:X.calm=true)(hi:PI X tg iter (fI K fi))(hg:PG X tg (fG K g W1))(hb:kW X body (fS K f W2))(hs:∀x,foldedSetIterable iter X.env x=pure x):
    PS X (.For tg iter body [] pos) (fS K (cN (W1++W2) fi g f) (W1++W2)):=(Bs hp hc hi hg hb hs).mono fun D σ0 H0 hh=>by
  obtain⟨F0,e0,fl,R0,hf,q0⟩:=hh
  unfold cN at hf
  obtain⟨⟨items,own,e1⟩,h1,hf⟩:=Option.bind_eq_some_iff.mp hf
  dsimp only at hf
  split at hf
  case isFalse=>cases hf
  case isTrue hW=>
  have hW':∀p∈own,p.1∉W1++W2:=fun p hp=>by
    have:=List.all_eq_true.mp hW p hp
    simpa using this
  refine⟨F0,e0,items,own,e1,R0,h1,fun J F1 H1 X1 R1 kp ok=>?_⟩
  have s1:∀j,j∈W1→j∈W1++W2:=fun j h=>List.mem_append.mpr (.inl h)
  have s2:∀j,j∈W2→j∈W1++W2:=fun j h=>List.mem_append.mpr (.inr h)
  have q1:lW K (W1++W2) σ0 F1 H1 e1 D fl:=q0.later (W1:=[]) X1.s (fun j h=>by cases h) fun j h=>h
  refine⟨fun i m σ H=>m=items.length - i∧i≤items.length∧D9 K own σ0 F1 (fun e=>j8 own g f (items.drop i) e=some fl) (fun σ F H e=>lW K (W1++W2) σ F H e D fl) σ H,
    ⟨items.length,by simp,Nat.zero_le _,.mk R1 kp (fun _ _=>rfl) (aw.refl _) hf q1⟩,?_⟩
  rintro i m σ H ⟨rfl,hi,⟨R,kp,hσ,sF,hf,q⟩⟩
  rename_i F e
  have held:uQ K σ0 F H own:=fun p hp=>by
    obtain⟨l,vs,g1,g2⟩:=R.held kp p hp
    exact⟨l,vs,by rw [←hσ p hp];exact g1,g2⟩
  obtain⟨go,stop,yld⟩:=ok F H sF R.sm held
  by_cases hlt:i < items.length
  · have hd:items.drop i=items[i]::items.drop (i+1):=List.drop_eq_getElem_cons hlt
    rw [hd] at hf
    unfold j8 at hf
    obtain⟨e2,h2,hf⟩:=Option.bind_eq_some_iff.mp hf
    obtain⟨fl2,h3,hf⟩:=Option.bind_eq_some_iff.mp hf
    refine .inr ⟨go i hlt,D9 K own σ0 F1 (fun e=>j8 own g f (items.drop (i+1)) e=some fl) (fun σ F H e=>lW K (W1++W2) σ F H e D fl),
      fun σ' H' r=>⟨items.length - (i+1),by lia,rfl,hlt,r⟩,fun x H' hy=>?_⟩
    obtain⟨F',sH,sF',sm',fz,hx⟩:=yld i items[i] x H' (List.getElem?_eq_getElem hlt) hy
    obtain⟨R',X'⟩:=R.step sH sF' sm' fz
    refine⟨F',e,items[i],e2,R',hx,h2,fun σ2 x2 R2=>⟨F',e2,fl2,R2,h3,?_⟩⟩
    have q2:lW K (W1++W2) σ2 F' H' e2 D fl:=(q.later (W1:=[]) (W2:=W1++W2) X'.s (fun j h=>by cases h) fun j h=>h).later x2 s1 fun j h=>h
    have w2:∀p∈own,σ2[p.1]?=σ0[p.1]?:=fun p hp=>(x2.wr p.1 fun z=>hW' p hp (s1 _ z)).trans (hσ p hp)
    cases fl2 with
    | nx e3=>
      intro F3 H3 σ3 x3 R3
      dsimp only at hf
      split at hf
      case isFalse=>cases hf
      case isTrue kp3=>
      exact .mk R3 kp3 (fun p hp=>(x3.wr p.1 fun z=>hW' p hp (s2 _ z)).trans (w2 p hp)) (sF.trans (sF'.trans x3.sf)) hf (q2.later x3 s2 fun j h=>h)
    | ct e3=>
      intro F3 H3 σ3 x3 R3
      dsimp only at hf
      split at hf
      case isFalse=>cases hf
      case isTrue kp3=>
      exact .mk R3 kp3 (fun p hp=>(x3.wr p.1 fun z=>hW' p hp (s2 _ z)).trans (w2 p hp)) (sF.trans (sF'.trans x3.sf)) hf (q2.later x3 s2 fun j h=>h)
    | bk e3=>
      cases hf
      exact fun F3 H3 σ3 x3 R3=>q2 F3 H3 σ3 (x3.mono s2) R3
    | rt r e3=>
      cases hf
      exact fun F3 H3 σ3 v x3 R3 A3=>q2 F3 H3 σ3 v (x3.mono s2) R3 A3
  · have hd:items.drop i=[]:=List.drop_eq_nil_of_le (by lia)
    rw [hd] at hf
    cases hf
    exact .inl ⟨stop i (by lia),q F H σ dt.refl R⟩
end
end L2
namespace L2
open PySem PySem.Spec PyProof.Rows
def xO:Option (Option Sv)→Bool
  | some (some (.l _))=>true
  | _=>false
theorem yg{s:Option (Option Sv)}:xO s=true↔ ∃xs,s=some (some (.l xs)):=by
  unfold xO
  split
  · simp
  · rename_i h
    constructor
    · intro z;cases z
    · rintro⟨xs,rfl⟩;exact absurd rfl (h xs)
def kG(pos:Nat→Option Nat)(ei e:En):En:=e.mapIdx fun i s=>match s with
  | some (.l xs)=>match pos i with
    | some k=>(ei[k]?).join
    | none=>some (.l xs)
  | s=>s
theorem ce{pos:Nat→Option Nat}{ei e:En}{i:Nat}:(kG pos ei e)[i]?=(e[i]?).map fun s=>match s with
  | some (.l xs)=>match pos i with
    | some k=>(ei[k]?).join
    | none=>some (.l xs)
  | s=>s:=by unfold kG;rw [List.getElem?_mapIdx]
structure pJ (σ:L2.St) (e:En) (σi:L2.St) (ei:En) (pos:Nat→Option Nat):Prop where
  a:∀(i k:Nat) (xs:List PyData),e[i]?=some (some (.l xs))→pos i=some k→σi[k]?=σ[i]?
  b:∀(k:Nat) (ys:List PyData),ei[k]?=some (some (.l ys))→∃(i:Nat) (xs:List PyData),e[i]?=some (some (.l xs))∧pos i=some k∧σi[k]?=σ[i]?
section
variable{K:PySem.W.Frag}{σ σi σi':L2.St}{F H F' H':Hp}{e ei ei':En}{pos:Nat→Option Nat}
def AS(e:En):Prop:=∀(i:Nat) (xss:List (List PyData)),e[i]?≠some (some (.n xss))
theorem pJ.own(s:pJ σ e σi ei pos)(hn:AS ei){a:Addr}{H H':Hp}(h:cI σi ei H a):∃(i k:Nat) (xs:List PyData),e[i]?=some (some (.l xs))∧pos i=some k∧σ[i]?=some (some (.ref a)):=by
  obtain⟨k,⟨ys,h1,h2⟩ | ⟨xss,_,_,h1,_⟩⟩:=h
  · obtain⟨i,xs,g1,g2,g3⟩:=s.b k ys h1
    exact⟨i,k,xs,g1,g2,by rw [←g3];exact h2⟩
  · exact absurd h1 (hn k xss)
theorem qE(R:aZ K F H σ e)(s:pJ σ e σi ei pos)(hnn:AS ei)(sf:aw F F')(dom:∀a,H' a=none→H a=none)(fr:∀a vs,F a=none→H a=some (.lst vs)→¬cI σi ei H a→F' a=none)(lst:∀a vs,H a=some (.lst vs)→∃vs',H' a=some (.lst vs'))
    (tmp:∀a o,H a=some o→¬cI σi ei H a→H' a=some o)(R':aZ K F' H' σi' ei')(hσ:∀(i k:Nat) (xs:List PyData),e[i]?=some (some (.l xs))→pos i=some k→σi'[k]?=σi[k]?)(hsh:∀(i k:Nat) (xs:List PyData),e[i]?=some (some (.l xs))→pos i=some k→∃ys,ei'[k]?=some (some (.l ys))):
    aZ K F' H' σ (kG pos ei' e)∧dY σ F H e F' H' (kG pos ei' e)∧∀a,cI σ (kG pos ei' e) H' a→cI σ e H a:=by
  have shp:∀i:Nat,(∃xs,(kG pos ei' e)[i]?=some (some (.l xs)))↔ (∃xs,e[i]?=some (some (.l xs))):=by
    intro i
    rw [ce]
    match h:e[i]? with
    | none=>simp
    | some none=>simp
    | some (some (.d x))=>simp
    | some (some (.n x))=>simp
    | some (some (.l xs))=>
      simp only [Option.map_some]
      constructor
      · intro _;exact⟨xs,rfl⟩
      · intro _
        match hp:pos i with
        | none=>exact⟨xs,rfl⟩
        | some k=>
          obtain⟨ys,g⟩:=hsh i k xs h hp
          exact⟨ys,by show some ((ei'[k]?).join)=_;rw [g];rfl⟩
  have oth:∀(i:Nat) (s:Sv),(∀xs,s≠.l xs)→((kG pos ei' e)[i]?=some (some s)↔ e[i]?=some (some s)):=by
    intro i s hs
    constructor
    · intro h
      rw [ce] at h
      match h1:e[i]?,h with
      | some (some (.d y)),h=>exact h
      | some (some (.n y)),h=>exact h
      | some (some (.l ys)),h=>
        simp only [Option.map_some,Option.some.injEq] at h
        match hp:pos i,h with
        | none,h=>cases h;exact absurd rfl (hs _)
        | some k,h=>
          obtain⟨zs,g⟩:=hsh i k ys h1 hp
          change (ei'[k]?).join=_ at h
          rw [g] at h;cases h;exact absurd rfl (hs _)
      | some none,h=>simp at h
      | none,h=>simp at h
    · intro h
      rw [ce,h]
      cases s with
      | d y=>rfl
      | n y=>rfl
      | l y=>exact absurd rfl (hs y)
  have out:∀i a,Fp σ e H i a→(∀k xs,e[i]?=some (some (.l xs))→pos i≠some k)→¬cI σi ei H a:=by
    intro i a hi hp z
    obtain⟨j,k,ws,d1,d2,d3⟩:=s.own hnn (H':=H') z
    have:i=j:=R.fp i j a hi (.inl ⟨ws,d1,d3⟩)
    subst this
    exact hp k ws d1 d2
  have keep:∀i a o,Fp σ e H i a→(∀k xs,e[i]?=some (some (.l xs))→pos i≠some k)→H a=some o→H' a=some o:=fun i a o hi hp ha=>tmp a o ha (out i a hi hp)
  have sown:∀a,cI σi ei H a→cI σ e H a:=fun a z=>by
    obtain⟨j,k,ws,d1,d2,d3⟩:=s.own hnn (H':=H') z
    exact⟨j,.inl ⟨ws,d1,d3⟩⟩
  have fs:∀i a,Fp σ (kG pos ei' e) H' i a↔ Fp σ e H i a:=by
    intro i a
    have key:∀xss l,e[i]?=some (some (.n xss))→σ[i]?=some (some (.ref l))→H' l=H l:=fun xss l h1 h2=>by
      obtain⟨l',bs,g1,g2,g3,_⟩:=R.nst i xss h1
      rw [h2] at g1;cases g1
      rw [g3]
      exact keep i l _ (.inr ⟨xss,l,bs,h1,h2,g3,.inl rfl⟩) (fun k xs z=>by rw [h1] at z;cases z) g3
    constructor
    · rintro(⟨xs,h1,h2⟩ | ⟨xss,l,bs,h1,h2,h3,h4⟩)
      · obtain⟨ys,h⟩:=(shp i).mp ⟨xs,h1⟩
        exact .inl ⟨ys,h,h2⟩
      · have h1':=(oth i (.n xss) (fun _ z=>nomatch z)).mp h1
        exact .inr ⟨xss,l,bs,h1',h2,by rw [←key xss l h1' h2];exact h3,h4⟩
    · rintro(⟨xs,h1,h2⟩ | ⟨xss,l,bs,h1,h2,h3,h4⟩)
      · obtain⟨ys,h⟩:=(shp i).mpr ⟨xs,h1⟩
        exact .inl ⟨ys,h,h2⟩
      · exact .inr ⟨xss,l,bs,(oth i (.n xss) (fun _ z=>nomatch z)).mpr h1,h2,by rw [key xss l h1 h2];exact h3,h4⟩
  refine⟨⟨R'.sm,?_,fun i x h=>?_,fun i xs h=>?_,fun i xss h=>?_,fun i j a h1 h2=>R.fp i j a ((fs i a).mp h1) ((fs j a).mp h2)⟩,⟨sf,dom,fun a vs h1 h2 n=>fr a vs h1 h2 fun z=>n (sown a z),lst,fun a o h n=>tmp a o h fun z=>n (sown a z),shp,fun a ⟨i,h⟩=>.inl ⟨i,(fs i a).mp h⟩⟩,fun a ⟨i,h⟩=>⟨i,(fs i a).mp h⟩⟩
  · unfold kG;rw [List.length_mapIdx];exact R.len
  · obtain⟨v,g1,g2⟩:=R.dat i x ((oth i (.d x) (fun _ z=>nomatch z)).mp h)
    exact⟨v,g1,DA.mono sf g2⟩
  · obtain⟨ys,h1⟩:=(shp i).mp ⟨xs,h⟩
    obtain⟨l,vs,g1,g2,g3,g4⟩:=R.own i ys h1
    rw [ce,h1] at h
    simp only [Option.map_some,Option.some.injEq] at h
    match hp:pos i,h with
    | none,h=>
      cases h
      have np:∀k xs,e[i]?=some (some (Sv.l xs))→pos i≠some k:=fun k xs _ z=>by rw [hp] at z;cases z
      have fi:Fp σ e H i l:=.inl ⟨_,h1,g1⟩
      exact⟨l,vs,g1,fr l vs g2 g3 (out i l fi np),keep i l _ fi np g3,g4.mono sf⟩
    | some k,h=>
      obtain⟨zs,c1⟩:=hsh i k ys h1 hp
      change (ei'[k]?).join=_ at h
      rw [c1] at h;cases h
      obtain⟨l',vs',d1,d2,d3,d4⟩:=R'.own k _ c1
      rw [hσ i k ys h1 hp,s.a i k ys h1 hp] at d1
      exact⟨l',vs',d1,d2,d3,d4⟩
  · have h1:=(oth i (.n xss) (fun _ z=>nomatch z)).mp h
    obtain⟨l,bs,g1,g2,g3,g4,g5,g6,g7⟩:=R.nst i xss h1
    have np:∀k xs,e[i]?=some (some (Sv.l xs))→pos i≠some k:=fun k xs z=>by rw [h1] at z;cases z
    have fi:Fp σ e H i l:=.inr ⟨xss,l,bs,h1,g1,g3,.inl rfl⟩
    refine⟨l,bs,g1,fr l _ g2 g3 (out i l fi np),keep i l _ fi np g3,g4,g5,g6,fun k b ys q1 q2=>?_⟩
    obtain⟨c1,us,c2,c3⟩:=g7 k b ys q1 q2
    have fb:Fp σ e H i b:=.inr ⟨xss,l,bs,h1,g1,g3,.inr (List.mem_of_getElem? q1)⟩
    exact⟨fr b _ c1 c2 (out i b fb np),us,keep i b _ fb np c2,c3.mono sf⟩
end
def cU(e:En):List Rv→Option (List Sv)
  | []=>some []
  | .d x::r=>(cU e r).map (.d x::·)
  | .l xs::r=>(cU e r).map (.d (.list xs)::·)
  | .s i::r=>match e[i]? with
    | some (some (.l xs))=>(cU e r).map (.l xs::·)
    | _=>none
def aI:List Rv→List Nat
  | []=>[]
  | .s i::r=>i::aI r
  | .d _::r=>aI r
  | .l _::r=>aI r
def jm(rs:List Rv)(i:Nat):Option Nat:=rs.findIdx? fun r=>match r with
  | .s j=>j==i
  | _=>false
def noS:Rv→Prop
  | .s _=>False
  | _=>True
abbrev FM:=List Sv→Option (Rv × List Sv)
def bE(K:PySem.W.Frag)(n:Nat)(m:FM):Sp:=fun vs H Q _=>vs.length=n∧∃F as r as',aZ K F H (vs.map some) (as.map some)∧AS (as.map some)∧m as=some (r,as')∧noS r∧
  ∀F' H' v,dY (vs.map some) F H (as.map some) F' H' (as'.map some)→aZ K F' H' (vs.map some) (as'.map some)→ck K (vs.map some) H F' H' (as'.map some) r v→Q v H'
def bg:List Rv→List Sv→Bool
  | [],[]=>true
  | .s _::r,.l _::s=>bg r s
  | .d _::r,_::s=>bg r s
  | .l _::r,_::s=>bg r s
  | _,_=>false
def ym:Rv→Bool
  | .s _=>false
  | _=>true
def eN:List Rv→List Sv→En→En
  | .s i::r,.l ys::s,e=>eN r s (e.set i (some (.l ys)))
  | .d _::r,_::s,e=>eN r s e
  | .l _::r,_::s,e=>eN r s e
  | _,_,e=>e
def bx(n:Nat)(m:FM)(fs:FA):FE:=fun e=>(fs e).bind fun p=>(cU p.2 p.1).bind fun as=>(m as).bind fun z=>if p.1.length=n∧(aI p.1).Nodup∧bg p.1 z.2=true∧ym z.1=true then some (z.1,eN p.1 z.2 p.2) else none
theorem gP:∀{rs:List Rv} {as:List Sv},bg rs as=true→∀(k i:Nat),rs[k]?=some (.s i)→∃ys,as[k]?=some (.l ys)
  | [],[],_,k,i,h=>by simp at h
  | .s j::r,.l ys::s,h,k,i,hk=>by
    cases k with
    | zero=>exact⟨ys,rfl⟩
    | succ k=>simpa using gP (rs:=r) (as:=s) (by simpa [bg] using h) k i (by simpa using hk)
  | .d x::r,y::s,h,k,i,hk=>by
    cases k with
    | zero=>simp at hk
    | succ k=>simpa using gP (rs:=r) (as:=s) (by simpa [bg] using h) k i (by simpa using hk)
  | .l x::r,y::s,h,k,i,hk=>by
    cases k with
    | zero=>simp at hk
    | succ k=>simpa using gP (rs:=r) (as:=s) (by simpa [bg] using h) k i (by simpa using hk)
  | .s _::_,.d _::_,h,_,_,_=>by simp [bg] at h
  | .s _::_,[],h,_,_,_=>by simp [bg] at h
  | .d _::_,[],h,_,_,_=>by simp [bg] at h
  | .l _::_,[],h,_,_,_=>by simp [bg] at h
theorem km{r0:Rv}{rs:List Rv}{i:Nat}:jm (r0::rs) i=if (match r0 with | .s j=>j==i | _=>false)=true then some 0 else(jm rs i).map (· +1):=by
  unfold jm;rw [List.findIdx?_cons]
theorem kn{rs:List Rv}{i k:Nat}(h:jm rs i=some k):rs[k]?=some (.s i):=by
  unfold jm at h
  rw [List.findIdx?_eq_some_iff_getElem] at h
  obtain⟨hk,h1,_⟩:=h
  rw [List.getElem?_eq_getElem hk]
  split at h1
  · rename_i heq
    rw [heq]
    have:=eq_of_beq h1
    rw [this]
  · cases h1
theorem eK:∀{rs:List Rv} {i:Nat},i∈aI rs↔ Rv.s i∈rs
  | [],i=>by simp [aI]
  | .s j::r,i=>by simp [aI,eK (rs:=r)]
  | .d x::r,i=>by simp [aI,eK (rs:=r)]
  | .l x::r,i=>by simp [aI,eK (rs:=r)]
theorem eZ:∀{rs:List Rv} {i k j:Nat},(aI rs).Nodup→rs[k]?=some (.s i)→rs[j]?=some (.s i)→k=j
  | [],i,k,j,_,h,_=>by simp at h
  | .s m::r,i,k,j,hn,h1,h2=>by
    simp only [aI,List.nodup_cons] at hn
    cases k with
    | zero=>
      simp at h1;subst h1
      cases j with
      | zero=>rfl
      | succ j=>exact absurd (eK.mpr (List.mem_of_getElem? (by simpa using h2))) hn.1
    | succ k=>
      cases j with
      | zero=>
        simp at h2;subst h2
        exact absurd (eK.mpr (List.mem_of_getElem? (by simpa using h1))) hn.1
      | succ j=>
        have:=eZ (rs:=r) (i:=i) (k:=k) (j:=j) hn.2 (by simpa using h1) (by simpa using h2)
        lia
  | .d x::r,i,k,j,hn,h1,h2=>by
    cases k with
    | zero=>simp at h1
    | succ k=>
      cases j with
      | zero=>simp at h2
      | succ j=>
        have:=eZ (rs:=r) (i:=i) (k:=k) (j:=j) (by simpa [aI] using hn) (by simpa using h1) (by simpa using h2)
        lia
  | .l x::r,i,k,j,hn,h1,h2=>by
    cases k with
    | zero=>simp at h1
    | succ k=>
      cases j with
      | zero=>simp at h2
      | succ j=>
        have:=eZ (rs:=r) (i:=i) (k:=k) (j:=j) (by simpa [aI] using hn) (by simpa using h1) (by simpa using h2)
        lia
theorem wD{rs:List Rv}{i:Nat}(h:i∉aI rs):jm rs i=none:=by
  unfold jm
  rw [List.findIdx?_eq_none_iff]
  intro r hr
  cases r with
  | d x=>rfl
  | l x=>rfl
  | s j=>
    have:j≠i:=fun z=>h (by rw [←z];exact eK.mpr hr)
    simpa using this
theorem lg:∀{rs:List Rv} {as:List Sv} {e:En},(aI rs).Nodup→bg rs as=true→(∀j∈aI rs,∃xs,e[j]?=some (some (.l xs)))→eN rs as e=kG (jm rs) (as.map some) e
  | [],[],e,_,_,_=>by
    refine List.ext_getElem? fun i=>?_
    rw [ce]
    have:jm [] i=none:=rfl
    rw [this]
    simp only [eN]
    match e[i]? with
    | none=>rfl
    | some none=>rfl
    | some (some (.d x))=>rfl
    | some (some (.l x))=>rfl
    | some (some (.n x))=>rfl
  | .d x::r,y::s,e,hn,hl,hs=>by
    rw [show eN (.d x::r) (y::s) e=eN r s e from rfl,lg (by simpa [aI] using hn) (by simpa [bg] using hl) (fun j hj=>hs j (by simpa [aI] using hj))]
    refine List.ext_getElem? fun i=>?_
    rw [ce,ce,km]
    cases jm r i<;>simp
  | .l x::r,y::s,e,hn,hl,hs=>by
    rw [show eN (.l x::r) (y::s) e=eN r s e from rfl,lg (by simpa [aI] using hn) (by simpa [bg] using hl) (fun j hj=>hs j (by simpa [aI] using hj))]
    refine List.ext_getElem? fun i=>?_
    rw [ce,ce,km]
    cases jm r i<;>simp
  | .s k::r,.l ys::s,e,hn,hl,hs=>by
    simp only [aI,List.nodup_cons] at hn
    obtain⟨xs,hk⟩:=hs k (by simp [aI])
    have hlt:k < e.length:=(List.getElem?_eq_some_iff.mp hk).1
    rw [show eN (.s k::r) (.l ys::s) e=eN r s (e.set k (some (.l ys))) from rfl,lg hn.2 (by simpa [bg] using hl) (fun j hj=>by
      have z:k≠j:=fun z=>hn.1 (by rw [z];exact hj)
      rw [List.getElem?_set_ne z]
      exact hs j (by simp [aI,hj]))]
    refine List.ext_getElem? fun i=>?_
    rw [ce,ce,km]
    by_cases z:k=i
    · subst z
      rw [List.getElem?_set_self hlt,hk,wD hn.1]
      simp
    · rw [List.getElem?_set_ne z]
      have:((match (Rv.s k) with | .s j=>j==i | _=>false)=true)=False:=by simp [z]
      simp only [this,if_false]
      cases jm r i<;>simp
  | .s _::_,.d _::_,_,_,h,_=>by simp [bg] at h
  | .s _::_,.n _::_,_,_,h,_=>by simp [bg] at h
  | .s _::_,[],_,_,h,_=>by simp [bg] at h
  | .d _::_,[],_,_,h,_=>by simp [bg] at h
  | .l _::_,[],_,_,h,_=>by simp [bg] at h
  | [],_::_,_,_,h,_=>by simp [bg] at h
theorem ee{e:En}:∀{rs:List Rv} {as:List Sv},cU e rs=some as→∀j∈aI rs,∃xs,e[j]?=some (some (.l xs))
  | [],_,_,j,h=>by simp [aI] at h
  | .d x::rs,as,q,j,h=>by
    obtain⟨as',q1,rfl⟩:=Option.map_eq_some_iff.mp q
    exact ee q1 j (by simpa [aI] using h)
  | .l x::rs,as,q,j,h=>by
    obtain⟨as',q1,rfl⟩:=Option.map_eq_some_iff.mp q
    exact ee q1 j (by simpa [aI] using h)
  | .s k::rs,as,q,j,h=>by
    unfold cU at q
    match he:e[k]?,q with
    | some (some (.l xs)),q=>
      obtain⟨as',q1,rfl⟩:=Option.map_eq_some_iff.mp q
      simp only [aI,List.mem_cons] at h
      rcases h with rfl | h
      · exact⟨xs,he⟩
      · exact ee q1 j h
theorem jx{e:En}:∀{rs:List Rv} {as:List Sv} {k i:Nat},cU e rs=some as→rs[k]?=some (.s i)→∃xs,as[k]?=some (.l xs)
  | [],_,k,i,_,h=>by simp at h
  | .d x::rs,as,k,i,q,h=>by
    obtain⟨as',q1,rfl⟩:=Option.map_eq_some_iff.mp q
    cases k with
    | zero=>simp at h
    | succ k=>simpa using jx (k:=k) (i:=i) q1 (by simpa using h)
  | .l x::rs,as,k,i,q,h=>by
    obtain⟨as',q1,rfl⟩:=Option.map_eq_some_iff.mp q
    cases k with
    | zero=>simp at h
    | succ k=>simpa using jx (k:=k) (i:=i) q1 (by simpa using h)
  | .s j::rs,as,k,i,q,h=>by
    unfold cU at q
    match he:e[j]?,q with
    | some (some (.l xs)),q=>
      obtain⟨as',q1,rfl⟩:=Option.map_eq_some_iff.mp q
      cases k with
      | zero=>exact⟨xs,rfl⟩
      | succ k=>simpa using jx (k:=k) (i:=i) q1 (by simpa using h)
section
variable{X:Cx}{K:PySem.W.Frag}{σ:L2.St}{H0 H:Hp}{e:En}
theorem k8:∀{rs:List Rv} {vs:List V} {as:List Sv} {F:Hp},aZ K F H σ e→bT K σ H0 F H e rs vs→cU e rs=some as→
    ∃F',aZ K F' H σ e∧aw F F'∧(∀a,F a=none→H0 a≠none→F' a=none)∧vs.length=as.length∧rs.length=as.length∧
      (∀(k:Nat) (x:PyData),as[k]?=some (.d x)→∃v,vs[k]?=some v∧DA K F' x v)∧∀(k:Nat) (xs:List PyData),as[k]?=some (.l xs)→∃i,rs[k]?=some (.s i)∧e[i]?=some (some (.l xs))∧∃v,vs[k]?=some v∧σ[i]?=some (some v)
  | [],vs,as,F,R,h,q=>by
    cases q
    have h':vs=[]:=h
    subst h'
    exact⟨F,R,aw.refl _,fun _ h _=>h,rfl,rfl,fun k x h=>by simp at h,fun k x h=>by simp at h⟩
  | .d x::rs,_,as,F,R,h,q=>by
    obtain⟨v,ws,rfl,h1,h2⟩:=h
    obtain⟨as',q1,rfl⟩:=Option.map_eq_some_iff.mp q
    obtain⟨F',R',s',f',l1,l2,d',o'⟩:=k8 R h2 q1
    refine⟨F',R',s',f',by simp [l1],by simp [l2],fun k y hk=>?_,fun k ys hk=>?_⟩
    · cases k with
      | zero=>simp at hk;subst hk;exact⟨v,rfl,DA.mono s' h1⟩
      | succ k=>simpa using d' k y (by simpa using hk)
    · cases k with
      | zero=>simp at hk
      | succ k=>simpa using o' k ys (by simpa using hk)
  | .l xs::rs,_,as,F,R,h,q=>by
    obtain⟨v,ws,rfl,h1,h2⟩:=h
    obtain⟨as',q1,rfl⟩:=Option.map_eq_some_iff.mp q
    obtain⟨F',R',s',f',l1,l2,d',o'⟩:=k8 R h2 q1
    have key:∃F2,aZ K F2 H σ e∧aw F' F2∧(∀a,F' a=none→H0 a≠none→F2 a=none)∧DA K F2 (.list xs) v:=by
      obtain⟨l,us,rfl,g1,g2,g3,g4,g5⟩:=h1
      cases hl:F' l with
      | none=>
        have h1':ck K σ H0 F' H e (.l xs) (.ref l):=⟨l,us,rfl,g1,hl,g3,aF.mono s' g4,g5⟩
        obtain⟨F2,R2,s2,d2,f2⟩:=h1'.frozen R'
        exact⟨F2,R2,s2,f2,d2⟩
      | some o=>
        have:=R'.sm _ _ hl
        rw [g3] at this;cases this
        exact⟨F',R',aw.refl _,fun _ h _=>h,dQ.mpr ⟨l,us,rfl,.inl (.inl hl),aF.mono s' g4⟩⟩
    obtain⟨F2,R2,s2,f2,d2⟩:=key
    refine⟨F2,R2,s'.trans s2,fun a ha hn=>f2 a (f' a ha hn) hn,by simp [l1],by simp [l2],fun k y hk=>?_,fun k ys hk=>?_⟩
    · cases k with
      | zero=>simp at hk;subst hk;exact⟨v,rfl,d2⟩
      | succ k=>
        obtain⟨u,c1,c2⟩:=d' k y (by simpa using hk)
        exact⟨u,by simpa using c1,DA.mono s2 c2⟩
    · cases k with
      | zero=>simp at hk
      | succ k=>simpa using o' k ys (by simpa using hk)
  | .s i::rs,_,as,F,R,h,q=>by
    obtain⟨v,ws,rfl,h1,h2⟩:=h
    unfold cU at q
    match he:e[i]?,q with
    | some (some (.l xs)),q=>
      obtain⟨as',q1,rfl⟩:=Option.map_eq_some_iff.mp q
      obtain⟨F',R',s',f',l1,l2,d',o'⟩:=k8 R h2 q1
      refine⟨F',R',s',f',by simp [l1],by simp [l2],fun k y hk=>?_,fun k ys hk=>?_⟩
      · cases k with
        | zero=>simp at hk
        | succ k=>simpa using d' k y (by simpa using hk)
      · cases k with
        | zero=>simp at hk;subst hk;exact⟨i,rfl,he,v,rfl,h1.1⟩
        | succ k=>simpa using o' k ys (by simpa using hk)
theorem dN{α:Type}{l:List α}{k:Nat}{x:α}:(l.map some)[k]?=some (some x)↔ l[k]?=some x:=by
  rw [List.getElem?_map]
  cases l[k]?<;>simp
theorem ck.noS{σ':L2.St}{e':En}{F H:Hp}{r:Rv}{v:V}(h:ck K σ' H0 F H e' r v)(n:L2.noS r)(ho:∀a,cI σ e H a→H0 a≠none):ck K σ H0 F H e r v:=by
  cases r with
  | d x=>exact h
  | l xs=>
    obtain⟨l,vs,e1,h1,h2,h3,h4,_⟩:=h
    exact⟨l,vs,e1,h1,h2,h3,h4,fun z=>ho l z h1⟩
  | s i=>exact absurd n (by simp [L2.noS])
theorem gE:∀{rs:List Rv} {as:List Sv},cU e rs=some as→AS (as.map some)
  | [],_,q=>by cases q;intro i xss h;simp at h
  | .d x::rs,as,q=>by
    obtain⟨as',q1,rfl⟩:=Option.map_eq_some_iff.mp q
    have ih:=gE q1
    intro i xss h
    cases i with
    | zero=>simp at h
    | succ i=>exact ih i xss (by simpa using h)
  | .l x::rs,as,q=>by
    obtain⟨as',q1,rfl⟩:=Option.map_eq_some_iff.mp q
    have ih:=gE q1
    intro i xss h
    cases i with
    | zero=>simp at h
    | succ i=>exact ih i xss (by simpa using h)
  | .s j::rs,as,q=>by
    unfold cU at q
    match he:e[j]?,q with
    | some (some (.l xs)),q=>
      obtain⟨as',q1,rfl⟩:=Option.map_eq_some_iff.mp q
      have ih:=gE q1
      intro i xss h
      cases i with
      | zero=>simp at h
      | succ i=>exact ih i xss (by simpa using h)
theorem B8{n:Nat}{m:FM}{fs:FA}{Q:VK}{E:XK}(h:fE K (bx n m fs) σ H Q):tu (bE K n m) [] E (fA K fs) σ H Q:=by
  obtain⟨F,e,z,e',R,hf,q⟩:=h
  unfold bx at hf
  obtain⟨⟨rs,e1⟩,h1,hf⟩:=Option.bind_eq_some_iff.mp hf
  obtain⟨as,h2,hf⟩:=Option.bind_eq_some_iff.mp hf
  obtain⟨⟨r,as'⟩,h3,hf⟩:=Option.bind_eq_some_iff.mp hf
  split at hf
  case isFalse=>cases hf
  case isTrue hc=>
  obtain⟨c1,c2,c3,c4⟩:=hc
  cases hf
  refine⟨F,e,rs,e1,R,h1,fun F1 H1 vs X1 R1 A1=>?_⟩
  obtain⟨F2,R2,s2,f2,l1,l2,d2,o2⟩:=k8 R1 A1 h2
  have X2:=X1.frz s2 f2
  rw [List.append_nil]
  have hn:L2.noS r:=by
    cases r with
    | d x=>trivial
    | l x=>trivial
    | s i=>cases c4
  have nN:=gE h2
  have RA:aZ K F2 H1 (vs.map some) (as.map some):=by
    refine⟨R2.sm,by simp [l1],fun k x hk=>?_,fun k xs hk=>?_,fun k xss hk=>absurd hk (nN k xss),fun k j l f1 f2=>?_⟩
    · obtain⟨v,g1,g2⟩:=d2 k x (dN.mp hk)
      exact⟨v,dN.mpr g1,g2⟩
    · obtain⟨i,g1,g2,v,g3,g4⟩:=o2 k xs (dN.mp hk)
      obtain⟨l,us,k1,k2,k3,k4⟩:=R2.own i xs g2
      rw [g4] at k1;cases k1
      exact⟨l,us,dN.mpr g3,k2,k3,k4⟩
    · obtain⟨xs,g1,g3⟩:=f1.resolve_right fun⟨xss,_,_,z,_⟩=>nN k xss z
      obtain⟨ys,g2,g4⟩:=f2.resolve_right fun⟨xss,_,_,z,_⟩=>nN j xss z
      obtain⟨i1,a1,a2,v1,a3,a4⟩:=o2 k xs (dN.mp g1)
      obtain⟨i2,b1,b2,v2,b3,b4⟩:=o2 j ys (dN.mp g2)
      have e1:=dN.mp g3
      have e2:=dN.mp g4
      rw [a3] at e1;cases e1
      rw [b3] at e2;cases e2
      have:i1=i2:=R2.inj i1 i2 xs ys l a2 b2 a4 b4
      subst this
      exact eZ c2 a1 b1
  have sub:pJ σ e1 (vs.map some) (as.map some) (jm rs):=by
    refine⟨fun i k xs g1 g2=>?_,fun k ys g1=>?_⟩
    · have g3:=kn g2
      obtain⟨zs,hs⟩:=jx h2 g3
      obtain⟨i',a1,a2,v,a3,a4⟩:=o2 k zs hs
      rw [g3] at a1;cases a1
      rw [dN.mpr a3,a4]
    · obtain⟨i,a1,a2,v,a3,a4⟩:=o2 k ys (dN.mp g1)
      refine⟨i,ys,a2,?_,by rw [dN.mpr a3,a4]⟩
      cases hp:jm rs i with
      | none=>
        unfold jm at hp
        rw [List.findIdx?_eq_none_iff] at hp
        have:=hp _ (List.mem_of_getElem? a1)
        simp at this
      | some j=>rw [eZ c2 (kn hp) a1]
  refine⟨by rw [l1,←l2];exact c1,F2,as,r,as',RA,nN,h3,hn,fun F' H' v X3 R3 A3=>?_⟩
  obtain⟨R4,X4,o4⟩:=qE R2 sub nN X3.sf X3.dom X3.fr X3.lst X3.tmp R3 (fun _ _ _ _ _=>rfl) fun i k xs g1 g2=>by
    obtain⟨ys,g3⟩:=gP c3 k i (kn g2)
    exact⟨ys,dN.mpr g3⟩
  have hb:=lg (e:=e1) c2 c3 (ee h2)
  rw [←hb] at R4 X4 o4
  exact q F' H' v (X2.trans X4) R4 ((A3.noS hn fun a z=>R2.ownH a (o4 a z)).weak X2.dom)
theorem aD{x:Str}{st:Stmt}{f:Addr}{fd:FuncData}{ps:List Str}{k n:Nat}{m:FM}{a:Expr}{es:List Expr}{fs:FA}{p pos:Pos}(h:aX X.K X.mg x st f fd ps)(G:aC X.prog X.w X.K X.mg X.base bD k f fd ps (bE K n m))(hr:cY k X.A)(ha:PA X (a::es) (fA K fs))
    (hg:Gl X x)(hdb:(x==("__debug__":Str))=false)(he:starEach (a::es) X.env=(false,eval a X.env)::starEach es X.env)(hpl:(backTo pos (starEach es X.env)).any (·.1)=false):
    PE X (.Call (.Name x p) (a::es) [] pos) (fE K (bx n m fs)):=(C5 h G hr ha hg hdb he hpl).mono fun _ _ _ h=>B8 h
def tL:List Sv→En→Option (List Sv)
  | [],_=>some []
  | .d x::r,e=>(tL r e.tail).map (.d x::·)
  | .l _::r,e=>match e.head? with
    | some (some (.l ys))=>(tL r e.tail).map (.l ys::·)
    | _=>none
  | .n _::_,_=>none
def vk(n:Nat)(e:En):Rv→Option Rv
  | .s i=>if n≤i then match e[i]? with
      | some (some (.l xs))=>some (.l xs)
      | _=>none
    else none
  | r=>some r
def nH(W:List Nat)(as:List Sv):Bool:=W.all fun j=>match as[j]? with
  | some (.l _)=>false
  | _=>true
def ig(n k:Nat)(W:List Nat)(f:FS):FM:=fun as=>if as.length=n∧nH W as=true then(f (as.map some++List.replicate k none)).bind fun fl=>match fl with
    | .rt r e=>(vk n e r).bind fun r'=>(tL as e).map fun as'=>(r',as')
    | .nx e=>(tL as e).map fun as'=>(.d .none,as')
    | _=>none
  else none
theorem lD:∀{as as':List Sv} {e:En},tL as e=some as'→as'.length=as.length∧(∀(j:Nat) (x:PyData),as'[j]?=some (.d x)↔ as[j]?=some (.d x))∧(∀(j:Nat) (ys:List PyData),as'[j]?=some (.l ys)→(∃xs,as[j]?=some (.l xs))∧e[j]?=some (some (.l ys)))∧∀(j:Nat) (xs:List PyData),as[j]?=some (.l xs)→∃ys,as'[j]?=some (.l ys)
  | [],_,e,h=>by cases h;simp
  | .d x::r,_,e,h=>by
    obtain⟨s,h1,rfl⟩:=Option.map_eq_some_iff.mp h
    obtain⟨g1,g2,g3,g4⟩:=lD h1
    refine⟨by simp [g1],fun j y=>?_,fun j ys hj=>?_,fun j xs hj=>?_⟩
    · cases j with
      | zero=>simp
      | succ j=>simpa using g2 j y
    · cases j with
      | zero=>simp at hj
      | succ j=>
        obtain⟨c1,c2⟩:=g3 j ys (by simpa using hj)
        refine⟨by simpa using c1,?_⟩
        rw [List.getElem?_tail] at c2
        exact c2
    · cases j with
      | zero=>simp at hj
      | succ j=>simpa using g4 j xs (by simpa using hj)
  | .l xs::r,_,e,h=>by
    unfold tL at h
    match he:e.head?,h with
    | some (some (.l ys)),h=>
      obtain⟨s,h1,rfl⟩:=Option.map_eq_some_iff.mp h
      obtain⟨g1,g2,g3,g4⟩:=lD h1
      refine⟨by simp [g1],fun j y=>?_,fun j zs hj=>?_,fun j zs hj=>?_⟩
      · cases j with
        | zero=>simp
        | succ j=>simpa using g2 j y
      · cases j with
        | zero=>
          simp at hj;subst hj
          exact⟨⟨xs,rfl⟩,by rw [List.head?_eq_getElem?] at he;exact he⟩
        | succ j=>
          obtain⟨c1,c2⟩:=g3 j zs (by simpa using hj)
          refine⟨by simpa using c1,?_⟩
          rw [List.getElem?_tail] at c2
          exact c2
      · cases j with
        | zero=>exact⟨ys,rfl⟩
        | succ j=>simpa using g4 j zs (by simpa using hj)
  | .n x::r,_,e,h=>by simp [tL] at h
end
end L2
namespace L2
open PySem PySem.Spec PyProof.Rows
theorem dG{α:Type}{l:List (Option α)}{k i:Nat}{x:α}(h:(l++List.replicate k none)[i]?=some (some x)):l[i]?=some (some x):=by
  rw [List.getElem?_append] at h
  split at h
  · exact h
  · rw [List.getElem?_replicate] at h
    split at h<;>simp at h
theorem dM{α:Type}{l:List (Option α)}{k i:Nat}{x:α}(h:l[i]?=some (some x)):(l++List.replicate k none)[i]?=some (some x):=by
  have hi:i < l.length:=(List.getElem?_eq_some_iff.mp h).1
  rw [List.getElem?_append_left hi];exact h
section
variable{K:PySem.W.Frag}{F H:Hp}{σ:L2.St}{e:En}{k:Nat}
theorem oK{i:Nat}{a:Addr}:Fp (σ++List.replicate k none) (e++List.replicate k none) H i a↔ Fp σ e H i a:=by
  constructor
  · rintro(⟨xs,h1,h2⟩ | ⟨xss,l,bs,h1,h2,h3⟩)
    · exact .inl ⟨xs,dG h1,dG h2⟩
    · exact .inr ⟨xss,l,bs,dG h1,dG h2,h3⟩
  · rintro(⟨xs,h1,h2⟩ | ⟨xss,l,bs,h1,h2,h3⟩)
    · exact .inl ⟨xs,dM h1,dM h2⟩
    · exact .inr ⟨xss,l,bs,dM h1,dM h2,h3⟩
theorem pd{a:Addr}:cI (σ++List.replicate k none) (e++List.replicate k none) H a↔ cI σ e H a:=⟨fun⟨i,h⟩=>⟨i,oK.mp h⟩,fun⟨i,h⟩=>⟨i,oK.mpr h⟩⟩
theorem aZ.pad(R:aZ K F H σ e):aZ K F H (σ++List.replicate k none) (e++List.replicate k none):=by
  refine⟨R.sm,by simp [R.len],fun i x h=>?_,fun i xs h=>?_,fun i xss h=>?_,fun i j a h1 h2=>R.fp i j a (oK.mp h1) (oK.mp h2)⟩
  · obtain⟨v,g1,g2⟩:=R.dat i x (dG h)
    exact⟨v,dM g1,g2⟩
  · obtain⟨l,vs,g1,g2⟩:=R.own i xs (dG h)
    exact⟨l,vs,dM g1,g2⟩
  · obtain⟨l,bs,g1,g2⟩:=R.nst i xss (dG h)
    exact⟨l,bs,dM g1,g2⟩
end
theorem pD:∀{as as':List Sv} {e:En},tL as e=some as'→AS (as'.map some)
  | [],_,e,h=>by cases h;intro i xss z;simp at z
  | .d x::r,_,e,h=>by
    obtain⟨s,h1,rfl⟩:=Option.map_eq_some_iff.mp h
    have ih:=pD h1
    intro i xss z
    cases i with
    | zero=>simp at z
    | succ i=>exact ih i xss (by simpa using z)
  | .l xs::r,_,e,h=>by
    unfold tL at h
    match he:e.head?,h with
    | some (some (.l ys)),h=>
      obtain⟨s,h1,rfl⟩:=Option.map_eq_some_iff.mp h
      have ih:=pD h1
      intro i xss z
      cases i with
      | zero=>simp at z
      | succ i=>exact ih i xss (by simpa using z)
  | .n x::r,_,e,h=>by simp [tL] at h
theorem qb{W:List Nat}{as:List Sv}(h:nH W as=true){j:Nat}{xs:List PyData}(hj:as[j]?=some (.l xs)):j∉W:=fun z=>by
  unfold nH at h
  have:=List.all_eq_true.mp h j z
  rw [hj] at this
  cases this
section
variable{P:Program}{w:World}{K:PySem.W.Frag}{mg:Str→Option Value}{base:Heap}
theorem aX.fn{x:Str}{st:Stmt}{f:Addr}{fd:FuncData}{N ps:List Str}{k n k0:Nat}{W:List Nat}{fb:FS}(h:aX K mg x st f fd ps)(S:aE N ps (aj st))(hn:ps.length=n)(hN:N.length=n+k0)
    (hb:∀(cdv:Value) (A:Around) (outer:List Env) (s:Shared) (H:Hp) (E:XK),cY k (A.deeper (envOfC x (aj st) s.heap.objs.size f cdv))→kW (rm bD P w K mg base N x (aj st) f cdv A outer s H E).nox (cD st) (fS K fb W)):
    aC P w K mg base bD (k+1) f fd ps (bE K n (ig n k0 W fb)):=by
  refine h.F.ok S (fun vs H Q E q=>?_) fun cdv A outer s H vs Q E hr hsp=>⟨_,hb cdv A outer s H E hr,?_⟩
  · rw [hn];exact q.1
  · obtain⟨hl,F,as,r,as',R,nN,hm,nr,q⟩:=hsp
    unfold ig at hm
    split at hm
    case isFalse=>cases hm
    case isTrue hc=>
    obtain⟨la,nl⟩:=hc
    obtain⟨fl,h1,hm⟩:=Option.bind_eq_some_iff.mp hm
    have hst:hX N vs=vs.map some++List.replicate k0 none:=by unfold hX;rw [hN,hl];congr 2;lia
    rw [hst]
    have key:∀{as':List Sv} {e':En},tL as e'=some as'→∀F' H' σ',dt W (vs.map some++List.replicate k0 none) F H (as.map some++List.replicate k0 none) σ' F' H' e'→aZ K F' H' σ' e'→
        dY (vs.map some) F H (as.map some) F' H' (as'.map some)∧aZ K F' H' (vs.map some) (as'.map some)∧∀a,cI (vs.map some) (as'.map some) H' a→cI (vs.map some) (as.map some) H a:=by
      intro as' e' hu F' H' σ' X' R'
      obtain⟨u1,u2,u3,u4⟩:=lD hu
      have uN:=pD hu
      have ow:∀a,cI (vs.map some) (as'.map some) H' a→cI (vs.map some) (as.map some) H a:=by
        rintro a ⟨j,⟨ys,c1,c2⟩ | ⟨xss,_,_,z,_⟩⟩
        · obtain⟨⟨xs,c3⟩,_⟩:=u3 j ys (dN.mp c1)
          exact⟨j,.inl ⟨xs,dN.mpr c3,c2⟩⟩
        · exact absurd z (uN j xss)
      have sg:∀(j:Nat) (xs:List PyData),as[j]?=some (.l xs)→σ'[j]?=(vs.map some)[j]?:=fun j xs hj=>by
        rw [X'.wr j (qb nl hj)]
        have hj2:j < (vs.map some).length:=by rw [List.length_map,hl,←la];exact(List.getElem?_eq_some_iff.mp hj).1
        rw [List.getElem?_append_left hj2]
      refine⟨⟨X'.sf,X'.dom,fun a vs h1 h2 hn=>X'.fr a vs h1 h2 fun z=>hn (pd.mp z),X'.lst,fun a o ha hn=>X'.tmp a o ha fun z=>hn (pd.mp z),fun j=>?_,fun a z=>.inl (ow a z)⟩,⟨R'.sm,?_,fun j y hj=>?_,fun j ys hj=>?_,fun j xss hj=>absurd hj (uN j xss),fun j i l f1 f2=>?_⟩,ow⟩
      · constructor
        · rintro⟨ys,hj⟩
          obtain⟨⟨xs,c⟩,_⟩:=u3 j ys (dN.mp hj)
          exact⟨xs,dN.mpr c⟩
        · rintro⟨xs,hj⟩
          obtain⟨ys,c⟩:=u4 j xs (dN.mp hj)
          exact⟨ys,dN.mpr c⟩
      · simp [u1,hl,la]
      · obtain⟨v,c1,c2⟩:=R.dat j y (dN.mpr ((u2 j y).mp (dN.mp hj)))
        exact⟨v,c1,DA.mono X'.sf c2⟩
      · obtain⟨⟨xs,c1⟩,c2⟩:=u3 j ys (dN.mp hj)
        obtain⟨l,us,d1,d2⟩:=R'.own j ys c2
        exact⟨l,us,by rw [←sg j xs c1];exact d1,d2⟩
      · obtain⟨xs,g1,g3⟩:=f1.resolve_right fun⟨xss,_,_,z,_⟩=>uN j xss z
        obtain⟨ys,g2,g4⟩:=f2.resolve_right fun⟨xss,_,_,z,_⟩=>uN i xss z
        obtain⟨⟨zs,c1⟩,c2⟩:=u3 j xs (dN.mp g1)
        obtain⟨⟨ws,c3⟩,c4⟩:=u3 i ys (dN.mp g2)
        exact R'.inj j i xs ys l c2 c4 (by rw [sg j zs c1];exact g3) (by rw [sg i ws c3];exact g4)
    refine⟨F,as.map some++List.replicate k0 none,fl,R.pad,h1,?_⟩
    cases fl with
    | bk e'=>cases hm
    | ct e'=>cases hm
    | nx e'=>
      obtain⟨as2,h2,hm⟩:=Option.map_eq_some_iff.mp hm
      cases hm
      intro F' H' σ' X' R'
      obtain⟨X2,R2,_⟩:=key h2 F' H' σ' X' R'
      exact q F' H' .non X2 R2 ((sD (K:=K) (F:=F')).mpr rfl)
    | rt r0 e'=>
      obtain⟨r1,h2,hm⟩:=Option.bind_eq_some_iff.mp hm
      obtain⟨as2,h3,hm⟩:=Option.map_eq_some_iff.mp hm
      cases hm
      intro F' H' σ' v X' R' A'
      obtain⟨X2,R2,ow2⟩:=key h3 F' H' σ' X' R'
      have noo:∀l,H l=none→¬cI (vs.map some) (as'.map some) H' l:=fun l hl z=>R.ownH l (ow2 l z) hl
      refine q F' H' v X2 R2 ?_
      cases r0 with
      | d y=>cases h2;exact A'
      | l ys=>
        cases h2
        obtain⟨l,us,d0,d1,d2,d3,d4,_⟩:=A'
        exact⟨l,us,d0,d1,d2,d3,d4,noo l d1⟩
      | s i=>
        simp only [vk] at h2
        split at h2
        case isFalse=>cases h2
        case isTrue hi=>
        obtain⟨a1,xs,a2⟩:=A'
        rw [a2] at h2
        cases h2
        obtain⟨l,us,d1,d2,d3,d4⟩:=R'.own i _ a2
        rw [a1] at d1;cases d1
        suffices hl0:H l=none from⟨l,us,rfl,hl0,d2,d3,d4,noo l hl0⟩
        rcases X'.own l ⟨i,.inl ⟨_,a2,a1⟩⟩ with z | z
        · obtain⟨j,zf⟩:=pd.mp z
          obtain⟨ys,z1,z2⟩:=zf.resolve_right fun⟨xss,_,_,z,_⟩=>nN j xss z
          have z1':=dN.mp z1
          obtain⟨u1,u2,u3,u4⟩:=lD h3
          obtain⟨ws,w1⟩:=u4 j ys z1'
          obtain⟨_,w2⟩:=u3 j ws w1
          have hj2:j < vs.length:=by rw [hl,←la];exact(List.getElem?_eq_some_iff.mp z1').1
          have e3:σ'[j]?=some (some (.ref l)):=by
            rw [X'.wr j (qb nl z1'),List.getElem?_append_left (by simpa using hj2)]
            exact z2
          have:=R'.inj i j _ ws l a2 w2 a1 e3
          lia
        · exact z
end
def CP:Option Sv→Option Sv
  | some (.n _)=>none
  | s=>s
def nD(cp:List (Nat × Str))(nT:Nat)(e:En):En:=cp.map (fun p=>CP (e[p.1]?).join)++List.replicate nT none
def kj(cp:List (Nat × Str))(i:Nat):Option Nat:=cp.findIdx? fun p=>p.1==i
def dI(g:FG)(ft:FT)(fe:FE):List PyData→En→List PyData→Option (List PyData × En)
  | [],e,acc=>some (acc,e)
  | x::r,e,acc=>(g x e).bind fun e1=>(ft e1).bind fun b=>if b.1=true then(fe b.2).bind fun v=>(oJ v.1).bind fun d=>if acc.length < 1000000 then dI g ft fe r v.2 (acc++[d]) else none else dI g ft fe r b.2 acc
def lN(cp:List (Nat × Str))(ei e:En):Bool:=cp.all fun p=> !xO e[p.1]? || xO ei[(kj cp p.1).getD 0]?
def cK(cp:List (Nat × Str))(nT:Nat)(fi:FI)(g:FG)(ft:FT)(fe:FE):FE:=fun e=>(fi e).bind fun p=>if (p.2.1.all fun q=> !(cp.any fun c=>c.1==q.1))=true then(dI g ft fe p.1 (nD cp nT p.2.2) []).bind fun z=>if lN cp z.2 p.2.2=true then some (.l z.1,kG (kj cp) z.2 p.2.2) else none else none
section
variable{K:PySem.W.Frag}{F H:Hp}{σ:L2.St}{e:En}{cp:List (Nat × Str)}{nT:Nat}
theorem gh{i k:Nat}(h:kj cp i=some k):∃s,cp[k]?=some (i,s):=by
  unfold kj at h
  rw [List.findIdx?_eq_some_iff_getElem] at h
  obtain⟨hk,h1,_⟩:=h
  refine⟨cp[k].2,?_⟩
  rw [List.getElem?_eq_getElem hk]
  have:=eq_of_beq h1
  rw [←this]
theorem iQ{k:Nat}{x:Sv}(h:(nD cp nT e)[k]?=some (some x)):∃i s,cp[k]?=some (i,s)∧e[i]?=some (some x):=by
  unfold nD at h
  have h:=dG h
  rw [List.getElem?_map] at h
  obtain⟨p,h1,h2⟩:=Option.map_eq_some_iff.mp h
  refine⟨p.1,p.2,h1,?_⟩
  cases q:e[p.1]? with
  | none=>rw [q] at h2;cases h2
  | some y=>
    rw [q] at h2
    match y,h2 with
    | some (.d z),h2=>exact congrArg some h2
    | some (.l z),h2=>exact congrArg some h2
    | some (.n z),h2=>cases h2
    | none,h2=>cases h2
theorem jJ:AS (nD cp nT e):=by
  intro k xss h
  unfold nD at h
  have h:=dG h
  rw [List.getElem?_map] at h
  obtain⟨p,h1,h2⟩:=Option.map_eq_some_iff.mp h
  match (e[p.1]?).join,h2 with
  | some (.d z),h2=>cases h2
  | some (.l z),h2=>cases h2
  | some (.n z),h2=>cases h2
  | none,h2=>cases h2
theorem ly{k i:Nat}{s:Str}{v:V}(h:cp[k]?=some (i,s))(hv:σ[i]?=some (some v)):(gA cp nT σ)[k]?=some (some v):=by
  unfold gA
  refine dM ?_
  rw [List.getElem?_map,h]
  simp [hv]
theorem mH{k i:Nat}{s:Str}{v:V}(h:cp[k]?=some (i,s))(hv:(gA cp nT σ)[k]?=some (some v)):σ[i]?=some (some v):=by
  unfold gA at hv
  have hv:=dG hv
  rw [List.getElem?_map,h] at hv
  simp only [Option.map_some,Option.some.injEq] at hv
  cases q:σ[i]? with
  | none=>rw [q] at hv;cases hv
  | some y=>rw [q] at hv;exact congrArg some hv
theorem oH:∀{cp:List (Nat × Str)} {k j i:Nat} {s t:Str},(cp.map (·.1)).Nodup→cp[k]?=some (i,s)→cp[j]?=some (i,t)→k=j
  | [],k,j,i,s,t,_,h,_=>by simp at h
  | p::r,k,j,i,s,t,hn,h1,h2=>by
    simp only [List.map_cons,List.nodup_cons] at hn
    cases k with
    | zero=>
      simp at h1;subst h1
      cases j with
      | zero=>rfl
      | succ j=>
        have hm:(i,t)∈r:=List.mem_of_getElem? (i:=j) (by simpa using h2)
        exact absurd (List.mem_map.mpr ⟨(i,t),hm,rfl⟩) hn.1
    | succ k=>
      cases j with
      | zero=>
        simp at h2;subst h2
        have hm:(i,s)∈r:=List.mem_of_getElem? (i:=k) (by simpa using h1)
        exact absurd (List.mem_map.mpr ⟨(i,s),hm,rfl⟩) hn.1
      | succ j=>
        have:=oH (cp:=r) (k:=k) (j:=j) hn.2 (by simpa using h1) (by simpa using h2)
        lia
theorem aZ.inn(R:aZ K F H σ e)(hn:(cp.map (·.1)).Nodup):aZ K F H (gA cp nT σ) (nD cp nT e)∧pJ σ e (gA cp nT σ) (nD cp nT e) (kj cp):=by
  refine⟨⟨R.sm,by simp [gA,nD],fun k x h=>?_,fun k xs h=>?_,fun k xss h=>absurd h (jJ k xss),fun k j l f1 f2=>?_⟩,⟨fun i k xs h1 h2=>?_,fun k ys h=>?_⟩⟩
  · obtain⟨i,s,h1,h2⟩:=iQ h
    obtain⟨v,g1,g2⟩:=R.dat i x h2
    exact⟨v,ly h1 g1,g2⟩
  · obtain⟨i,s,h1,h2⟩:=iQ h
    obtain⟨l,vs,g1,g2⟩:=R.own i xs h2
    exact⟨l,vs,ly h1 g1,g2⟩
  · obtain⟨xs,h1,h3⟩:=f1.resolve_right fun⟨xss,_,_,z,_⟩=>jJ k xss z
    obtain⟨ys,h2,h4⟩:=f2.resolve_right fun⟨xss,_,_,z,_⟩=>jJ j xss z
    obtain⟨i,s,a1,a2⟩:=iQ h1
    obtain⟨i',s',b1,b2⟩:=iQ h2
    have:i=i':=R.inj i i' xs ys l a2 b2 (mH a1 h3) (mH b1 h4)
    subst this
    exact oH hn a1 b1
  · obtain⟨s,g⟩:=gh h2
    obtain⟨l,vs,g1,_⟩:=R.own i xs h1
    rw [g1];exact ly g g1
  · obtain⟨i,s,h1,h2⟩:=iQ h
    obtain⟨l,vs,g1,_⟩:=R.own i ys h2
    refine⟨i,ys,h2,?_,by rw [g1];exact ly h1 g1⟩
    cases hp:kj cp i with
    | none=>
      unfold kj at hp
      rw [List.findIdx?_eq_none_iff] at hp
      have:=hp _ (List.mem_of_getElem? h1)
      simp at this
    | some j=>
      obtain⟨t,g⟩:=gh hp
      rw [oH hn g h1]
theorem aZ.putT(R:aZ K F H σ e){l:Addr}{ws:List V}(h1:F l=none)(h2:¬cI σ e H l):aZ K F (bw H l (.lst ws)) σ e∧∀a,cI σ e (bw H l (.lst ws)) a↔ cI σ e H a:=
  R.keep (aw.refl F) (fun b o q=>by
    have z:b≠l:=fun z=>by rw [z,h1] at q;cases q
    rw [aQ z];exact R.sm b o q) (fun a ⟨i,h⟩=>(R.fpAt h).1) fun a o ha q=>by
      have z:a≠l:=fun z=>h2 (by rw [←z];exact ha)
      rw [aQ z];exact q
theorem dt.putT{W:List Nat}{σ':L2.St}{F' H':Hp}{e':En}(x:dt W σ F H e σ' F' H' e'){l:Addr}{o:HO}(h:H l=none)(ho:∀a,cI σ' e' (bw H' l o) a↔ cI σ' e' H' a):dt W σ F H e σ' F' (bw H' l o) e':=by
  refine⟨x.sf,fun a q=>?_,x.fr,fun a vs q=>?_,fun a u q n=>?_,fun a q=>x.own a ((ho a).mp q),x.wr⟩
  · by_cases z:a=l
    · rw [z];exact h
    · rw [aQ z] at q;exact x.dom a q
  · have z:a≠l:=fun z=>by rw [z,h] at q;cases q
    rw [aQ z];exact x.lst a vs q
  · have z:a≠l:=fun z=>by rw [z,h] at q;cases q
    rw [aQ z];exact x.tmp a u q n
inductive CI (K:PySem.W.Frag) (W:List Nat) (σ0:L2.St) (F1 H1:Hp) (e0:En) (l:Addr) (P:Hp→En→List PyData→Prop) (σ':L2.St) (H':Hp):Prop
  | mk {F':Hp} {ei:En} {acc:List PyData} {vs:List V} (R:aZ K F' H' σ' ei) (X:dt W σ0 F1 H1 e0 σ' F' H' ei) (fl:F' l=none) (no:¬cI σ' ei H' l) (hl:H' l=some (.lst vs)) (da:aF K F' acc vs) (hc:P F' ei acc):CI K W σ0 F1 H1 e0 l P σ' H'
theorem qJ{Q:VK}{fi:FI}{g:FG}{W:List Nat}{ft:FT}{fe:FE}(hn:(cp.map (·.1)).Nodup)(hW:∀j∈W,cp.length≤j)(h:fE K (cK cp nT fi g ft fe) σ H Q):tD cp nT (fI K fi) (fG K g W) (fT K ft) (fE K fe) σ H Q:=by
  obtain⟨F0,e0,z,e',R0,hf,q⟩:=h
  unfold cK at hf
  obtain⟨⟨items,own,e1⟩,h1,hf⟩:=Option.bind_eq_some_iff.mp hf
  dsimp only at hf
  split at hf
  case isFalse=>cases hf
  case isTrue hO=>
  obtain⟨⟨out,eo⟩,h2,hf⟩:=Option.bind_eq_some_iff.mp hf
  dsimp only at hf
  split at hf
  case isFalse=>cases hf
  case isTrue hB=>
  cases hf
  refine⟨⟨F0,e0,items,own,e1,R0,h1,fun J F1 H1 X1 R1 kp ok=>?_⟩⟩
  intro l hl
  obtain⟨Ri,sub⟩:=R1.inn (nT:=nT) hn
  have hFl:F1 l=none:=R1.freeF hl
  let Iv:Nat→L2.St→Hp→Prop:=fun i=>CI K W (gA cp nT σ) F1 H1 (nD cp nT e1) l fun _ ei acc=>dI g ft fe (items.drop i) ei acc=some (out,eo)
  have notown:∀p∈own,∀a,σ[p.1]?=some (some (.ref a))→¬cI (gA cp nT σ) (nD cp nT e1) H1 a:=by
    rintro p hp a ha ⟨k,zf⟩
    obtain⟨xs,c1,c2⟩:=zf.resolve_right fun⟨xss,_,_,z,_⟩=>jJ k xss z
    obtain⟨i,s,d1,d2⟩:=iQ c1
    have e2:=mH d1 c2
    have:p.1=i:=R1.inj p.1 i p.2 xs a (kp p hp) d2 ha e2
    have hh:=List.all_eq_true.mp hO p hp
    simp only [Bool.not_eq_true',List.any_eq_false,beq_iff_eq] at hh
    exact hh (i,s) (List.mem_of_getElem? d1) this.symm
  refine⟨fun i m σ' H'=>m=items.length - i∧i≤items.length∧Iv i σ' H',⟨items.length,by simp,Nat.zero_le _,.mk (Ri.putT hFl (fun z=>(Ri.ownH l z) hl)).1 (dt.refl.putT hl (Ri.putT hFl (fun z=>(Ri.ownH l z) hl)).2) hFl (fun z=>(Ri.ownH l (((Ri.putT hFl (fun z=>(Ri.ownH l z) hl)).2 l).mp z)) hl) aL aF.nil h2⟩,?_⟩
  rintro i m σ' H' ⟨rfl,hi,⟨R',X',fl,no,hl',da,hc⟩⟩
  rename_i F' ei acc vs
  have held:uQ K σ F' H' own:=fun p hp=>by
    obtain⟨a,us,c1,c2,c3,c4⟩:=R1.own p.1 p.2 (kp p hp)
    exact⟨a,us,c1,X'.tmp a _ c3 (notown p hp a c1),c4.mono X'.sf⟩
  obtain⟨go,stop,yld⟩:=ok F' H' X'.sf R'.sm held
  by_cases hlt:i < items.length
  · have hd:items.drop i=items[i]::items.drop (i+1):=List.drop_eq_getElem_cons hlt
    rw [hd] at hc
    unfold dI at hc
    obtain⟨e2,c2,hc⟩:=Option.bind_eq_some_iff.mp hc
    obtain⟨⟨b,e3⟩,c3,hc⟩:=Option.bind_eq_some_iff.mp hc
    refine .inr ⟨go i hlt,Iv (i+1),fun σ2 H2 r=>⟨items.length - (i+1),by lia,rfl,hlt,r⟩,fun x H2 hy=>?_⟩
    obtain⟨F2,sH,sF2,sm2,fz,hx⟩:=yld i items[i] x H2 (List.getElem?_eq_getElem hlt) hy
    obtain⟨R2,X2⟩:=R'.step sH sF2 sm2 fz
    refine⟨F2,ei,items[i],e2,R2,hx,c2,fun σ3 X3 R3=>⟨F2,e2,b,e3,R3,c3,fun F4 H4 X4 R4=>?_⟩⟩
    have hlH2:H2 l=some (.lst vs):=sH _ _ hl'
    have no2:¬cI σ' ei H2 l:=fun z=>by
      rcases X2.ow l z with z | z
      · exact no z
      · rw [hl'] at z;cases z
    have no3:¬cI σ3 e2 H2 l:=fun z=>by
      rcases X3.own l z with z | z
      · exact no2 z
      · rw [hlH2] at z;cases z
    have fl2:F2 l=none:=fz l fl (by rw [hl'];simp)
    have hlH4:H4 l=some (.lst vs):=X4.tmp l _ hlH2 no3
    have fl4:F4 l=none:=X4.fr l vs fl2 hlH2 no3
    have no4:¬cI σ3 e3 H4 l:=fun z=>by
      rcases X4.ow l z with z | z
      · exact no3 z
      · rw [hlH2] at z;cases z
    have E4:dt W (gA cp nT σ) F1 H1 (nD cp nT e1) σ3 F4 H4 e3:=((X'.trans X2.s).trans X3).trans X4.s
    cases b with
    | false=>
      rw [if_neg (by simp)] at hc
      exact CL (.mk R4 E4 fl4 no4 hlH4 (da.mono (sF2.trans X4.sf)) hc)
    | true=>
      rw [if_pos rfl] at hc
      obtain⟨⟨r,e5⟩,c5,hc⟩:=Option.bind_eq_some_iff.mp hc
      obtain⟨d,c6,hc⟩:=Option.bind_eq_some_iff.mp hc
      split at hc
      case isFalse=>cases hc
      case isTrue hlen=>
      refine CM ⟨F4,e3,r,e5,R4,c5,fun F5 H5 v X5 R5 A5=>?_⟩
      have hlH5:H5 l=some (.lst vs):=X5.tmp l _ hlH4 no4
      have fl5:F5 l=none:=X5.fr l vs fl4 hlH4 no4
      have no5:¬cI σ3 e5 H5 l:=fun z=>by
        rcases X5.ow l z with z | z
        · exact no4 z
        · rw [hlH4] at z;cases z
      obtain⟨F6,R6,s6,d6,f6⟩:=bT.frozen R5 (rs:=[r]) (vs:=[v]) ⟨v,[],rfl,A5,rfl⟩ (nv c6)
      have fl6:F6 l=none:=f6 l fl5 (by rw [hlH4];simp)
      have X6:=X5.frz s6 f6
      have ll:=da.len
      have sl:sizeLine=16777216:=sizeLine_eq
      have dv:DA K F6 d v:=by
        simp only [aF] at d6
        obtain⟨v',r',e',hv,_⟩:=d6
        cases e';exact hv
      obtain⟨R7,o7⟩:=R6.putT (ws:=vs++[v]) fl6 no5
      exact⟨vs,hlH5,by lia,.mk R7 ((E4.trans X6.s).putT hl o7) fl6 (fun z=>no5 ((o7 l).mp z)) aL ((da.mono (sF2.trans (X4.sf.trans (X5.sf.trans s6)))).append (aF.one dv)) hc⟩
  · have hd:items.drop i=[]:=List.drop_eq_nil_of_le (by lia)
    rw [hd] at hc
    cases hc
    refine .inl ⟨stop i (by lia),?_⟩
    obtain⟨R9,X9,o9⟩:=qE R1 sub jJ X'.sf X'.dom X'.fr X'.lst X'.tmp R' (fun i k xs g1 g2=>X'.wr k fun z=>by
      obtain⟨s,g⟩:=gh g2
      have:=(List.getElem?_eq_some_iff.mp g).1
      have:=hW k z
      lia) fun i k xs g1 g2=>by
        obtain⟨s,g⟩:=gh g2
        unfold lN at hB
        have hb:=List.all_eq_true.mp hB _ (List.mem_of_getElem? g)
        simp only [g1,g2,Option.getD_some,xO,Bool.not_true,Bool.false_or] at hb
        exact yg.mp hb
    exact q F' H' (.ref l) (X1.trans X9) R9 ⟨l,vs,rfl,X1.dom l hl,fl,hl',da,fun z=>R1.ownH l (o9 l z) hl⟩
end
end L2
namespace L2
open PySem PySem.Spec PyProof.Rows
section
variable{X:Cx}{K:PySem.W.Frag}{a b:Expr}{es:List Expr}{fa fb:FE}{fs:FA}{pos p p2 p3:Pos}{lo hi:Option Expr}
def yf:En→Rv→Option Rv:=fun _ x=>(cj x).map fun i=>.d (.int (-i))
theorem CV:DQ K (rU fun i=>.int (-i)) yf:=by
  intro σ H0 F H e x z v Q R A hg q
  obtain⟨i,h5,h4⟩:=Option.map_eq_some_iff.mp hg
  cases h4
  exact⟨i,cv A h5,q F H _ (dY.refl _ _ _ _) R mx⟩
theorem Dc(ha:PE X a (fE K fa)):PE X (.UnaryOp .USub a pos) (fE K (Aj yf fa)):=Df B7 CV ha
theorem cO(hK:X.K=K)(ha:PE X a (fE K fa))(hb:PE X b (fE K fb)):PE X (.BinOp a .Add b pos) (fE K (aq dc fa fb)):=nL (hK ▸ yw) Cu ha hb
theorem qg(ha:PE X a (fE K fa))(hb:PE X b (fE K fb)):PE X (.BinOp a .Sub b pos) (fE K (aq iu fa fb)):=nL Bf Dt ha hb
theorem b_(hK:X.K=K)(ha:PE X a (fE K fa))(hb:PE X b (fE K fb)):PE X (.BinOp a .Mult b pos) (fE K (aq bf fa fb)):=nL (hK ▸ yA) CU ha hb
theorem fQ(ha:PE X a (fE K fa))(hb:PE X b (fE K fb)):PE X (.BinOp a .FloorDiv b pos) (fE K (aq dJ fa fb)):=nL wu AB ha hb
theorem aS(ha:PE X a (fE K fa))(hb:PE X b (fE K fb)):PE X (.BinOp a .Mod b pos) (fE K (aq aW fa fb)):=nL yz CT ha hb
theorem Ab(ha:PE X a (fE K fa))(hb:PE X b (fE K fb)):PE X (.BinOp a .Pow b pos) (fE K (aq rE fa fb)):=nL Bd C_ ha hb
theorem aA(hK:X.K=K)(ha:PE X a (fE K fa))(hb:PE X b (fE K fb))(hs:oo b):PE X (.Subscript a b pos) (fE K (aq aV fa fb)):=De (hK ▸ Er) Es ha hb hs
theorem y9{fl fh:FO}(hK:X.K=K)(he:PE X a (fE K fa))(hl:PO X lo (fO K fl))(hh:PO X hi (fO K fh)):PE X (.Subscript a (.Slice lo hi none p2) pos) (fE K (B9 fa fl fh)):=by subst hK;exact wN he hl hh
structure pH (X:Cx) (K:PySem.W.Frag) (op:CmpOp) (g:En→Rv→Rv→Option Rv):Prop where
  ex:∃r,ii X (compareOp op) r∧iK K r g
theorem xZ:pH X K .Lt ye:=⟨_,C1,Ew⟩
theorem vd:pH X K .Gt uO:=⟨_,C0,Em⟩
theorem Cz:pH X K .GtE CC:=⟨_,CZ,El⟩
theorem lO{k:Nat}(hK:X.K=K)(hr:cY k X.A):pH X K .Eq (de false):=⟨_,hK ▸ A_ hr,zT⟩
theorem Av{k:Nat}(hK:X.K=K)(hr:cY k X.A):pH X K .NotEq (de true):=⟨_,hK ▸ Bc hr,zT⟩
theorem Eh{k:Nat}(hK:X.K=K)(hr:cY k X.A):pH X K .In (zW false):=⟨_,hK ▸ Ba hr,Ep⟩
theorem nK{op:CmpOp}{g:En→Rv→Rv→Option Rv}(h:pH X K op g)(ha:PE X a (fE K fa))(hb:PE X b (fE K fb))(hm:behindInMarks op b=false):PE X (.Compare a [op] [b] pos) (fE K (aq g fa fb)):=by
  obtain⟨r,h1,h2⟩:=h.ex;exact BC h1 h2 ha hb hm
theorem bL{op:CmpOp}{g:En→Rv→Rv→Option Rv}(h:pH X K op g)(ha:PE X a (fE K fa))(hb:PE X b (fE K fb))(hm:behindInMarks op b=false):PT X (.Compare a [op] [b] pos) (fT K (bv (aq g fa fb))):=by
  obtain⟨r,h1,h2⟩:=h.ex;exact BE h1 h2 ha hb hm
structure om (X:Cx) (K:PySem.W.Frag) (x:Str) (g:En→List Rv→Option Rv):Prop where
  ex:(∃id r,e_ X (.builtin id) r∧eL K r g∧bootBuiltins x=some (.builtin id))∨∃T r,e_ X (.type T) r∧eL K r g∧bootBuiltins x=some (.type T)
theorem bU{x:Str}{g:En→List Rv→Option Rv}(h:om X K x g)(hg:Gl X x)(hm:X.mg x=none)(ha:PA X (a::es) (fA K fs))(hn:x≠"__name__")(hdb:(x==("__debug__":Str))=false)
    (he:starEach (a::es) X.env=(false,eval a X.env)::starEach es X.env)(hpl:(backTo pos (starEach es X.env)).any (·.1)=false):PE X (.Call (.Name x p) (a::es) [] pos) (fE K (a8 g fs)):=by
  rcases h.ex with ⟨id,r,h1,h2,h3⟩ | ⟨T,r,h1,h2,h3⟩
  · exact wM h1 h2 hg hm h3 ha hn hdb he hpl
  · exact ut h1 h2 hg hm h3 ha hn hdb he hpl
theorem b_len(hK:X.K=K):om X K "len" (g1 jH):=⟨.inl ⟨_,_,hK ▸ oE,CO,PySem.boot_len⟩⟩
theorem b_abs:om X K "abs" (g1 rp):=⟨.inl ⟨_,_,ve,Ct,PyProof.Rows.boot_abs⟩⟩
theorem b_min(hc:X.calm=true):om X K "min" (g2 vH):=⟨.inl ⟨_,_,tW hc,CS,PyProof.Rows.boot_min⟩⟩
theorem b_max(hc:X.calm=true):om X K "max" (g2 tY):=⟨.inl ⟨_,_,tV hc,CQ,PyProof.Rows.boot_max⟩⟩
theorem b_int:om X K "int" (g1 pW):=⟨.inr ⟨_,_,tU,CJ,PyProof.Rows.boot_int⟩⟩
theorem b_tuple(hK:X.K=K):om X K "tuple" (g1 df):=⟨.inr ⟨_,_,hK ▸ mT,zA,PyProof.Rows.boot_tuple⟩⟩
theorem b_list(hK:X.K=K):om X K "list" (g1 zX):=⟨.inr ⟨_,_,hK ▸ oF,AN,PyProof.Rows.boot_list⟩⟩
theorem b_repr{k:Nat}(hK:X.K=K)(hr:cY k X.A):om X K "repr" (g1 iw):=⟨.inl ⟨_,_,hK ▸ rl hr,BL,PyProof.Rows.boot_repr⟩⟩
abbrev cJ:FT:=fun e=>some (true,e)
theorem uS.mono{ifs:List Expr}{t t':TT}(h:uS X ifs t)(m:∀σ H Q,t' σ H Q→t σ H Q):uS X ifs t':=fun pins s σ H Q I q=>h pins s σ H Q I (m σ H Q q)
theorem gS:uS X [] (fT K cJ):=yZ.mono fun σ H Q h=>by
  obtain⟨F,e,b,e',R,hf,q⟩:=h
  cases hf
  exact q F H (dY.refl _ _ _ _) R
theorem zg{c:Expr}{ft:FT}(h:PT X c (fT K ft)):uS X [c] (fT K ft):=y0 h
theorem ph{elt iter tg:Expr}{ifs:List Expr}{scope:Scope}{fi:FI}{g:FG}{ft:FT}{fe:FE}{W:List Nat}(sc0:Scope)(N0:List Str)(cp:List (Nat × Str))(tgN:List Str)
    (hc:X.calm=true)(hsc:X.env.scope=sc0)(hN0:X.N=N0)(hi:PI X tg iter (fI K fi))
    (hg:∀C s0 H0 fp,PG (aN X scope cp tgN C s0 H0 fp) tg (fG K g W))
    (ht:∀C s0 H0 fp,uS (aN X scope cp tgN C s0 H0 fp) ifs (fT K ft))
    (he:∀C s0 H0 fp,PE (aN X scope cp tgN C s0 H0 fp) elt (fE K fe))
    (hk:scope.kind=.function)(hcell:∀y∈scope.names,y.2≠.cell)(hnames:∀y∈scope.names,y.2=.local→scope.names.lookup y.1=some .local)
    (hfr:∀y∈scope.names,y.2=.free→scope.names.lookup y.1=some .free∧sc0.names.lookup y.1=some .cell)
    (hcp:∀p∈cp,N0[p.1]?=some p.2)(hcq:∀p∈cp,sc0.names.lookup p.2=some .cell∧scope.names.lookup p.2=some .free)(hnd:(cp.map (·.1)).Nodup)(hW:∀j∈W,cp.length≤j)
    (hs:∀x,foldedSetIterable iter X.env x=pure x):
    PE X (.ListComp elt [⟨tg,iter,ifs,0⟩] scope pos) (fE K (cK cp tgN.length fi g ft fe)):=(yI sc0 N0 cp tgN hc hsc hN0 hi hg ht he hk hcell hnames hfr hcp hcq hs).mono fun _ _ _ h=>qJ hnd hW h
theorem iU{ix:Nat}{nm:Str}{posn poss:Pos}{elt iter tg:Expr}{ifs:List Expr}{scope:Scope}{fi:FI}{g:FG}{ft:FT}{fe:FE}{W:List Nat}(sc0:Scope)(N0:List Str)(cp:List (Nat × Str))(tgN:List Str)
    (hc:X.calm=true)(hsc:X.env.scope=sc0)(hN0:X.N=N0)(hi:PI X tg iter (fI K fi))
    (hg:∀C s0 H0 fp,PG (aN X scope cp tgN C s0 H0 fp) tg (fG K g W))
    (ht:∀C s0 H0 fp,uS (aN X scope cp tgN C s0 H0 fp) ifs (fT K ft))
    (he:∀C s0 H0 fp,PE (aN X scope cp tgN C s0 H0 fp) elt (fE K fe))
    (hk:scope.kind=.function)(hcell:∀y∈scope.names,y.2≠.cell)(hnames:∀y∈scope.names,y.2=.local→scope.names.lookup y.1=some .local)
    (hfr:∀y∈scope.names,y.2=.free→scope.names.lookup y.1=some .free∧sc0.names.lookup y.1=some .cell)
    (hcp:∀p∈cp,N0[p.1]?=some p.2)(hcq:∀p∈cp,sc0.names.lookup p.2=some .cell∧scope.names.lookup p.2=some .free)(hnd:(cp.map (·.1)).Nodup)(hW:∀j∈W,cp.length≤j)
    (hNd:X.N.Nodup)(hix:X.N[ix]?=some nm)(hlc:X.env.scope.names.lookup nm=some .local)(hsw:swapsWith (.ListComp elt [⟨tg,iter,ifs,0⟩] scope pos) (some (.Name nm posn)) poss.line X.env=pure true)
    (hs:∀x,foldedSetIterable iter X.env x=pure x):
    PS X (.Assign [.Name nm posn] (.ListComp elt [⟨tg,iter,ifs,0⟩] scope pos) poss) (fS K (aT ix (cK cp tgN.length fi g ft fe)) [ix]):=(rR sc0 N0 cp tgN hc hsc hN0 hi hg ht he hk hcell hnames hfr hcp hcq hNd hix hlc hsw hs).mono fun D σ H h=>by
  obtain⟨F,e,fl,R,hf,q⟩:=h
  unfold aT at hf
  obtain⟨⟨r,e1⟩,h1,hf⟩:=Option.bind_eq_some_iff.mp hf
  obtain⟨e2,h2,hf⟩:=Option.map_eq_some_iff.mp hf
  cases hf
  refine qJ hnd hW ⟨F,e,r,e1,R,h1,fun F1 H1 v X1 R1 A1=>?_⟩
  obtain⟨x,R2⟩:=wL R X1 R1 A1 h2
  exact q F1 H1 _ x R2
variable{o:Expr}{fo:FE}{apos cpos:Pos}
theorem dj(hK:X.K=K)(ho:PE X o (fE K fo))(ha:PA X (a::es) (fA K fs))(hbase:attributeBase o "append" X.env (eval o X.env)=eval o X.env)
    (hfew:((backTo cpos (starEach (a::es) X.env)).all (fun x=> !x.1)&&(backToKw cpos (keywordEach [] X.env)).all (fun x=>x.1.isSome)
      &&decide ((a::es).length+([]:List Keyword).length+(if ([]:List Keyword).isEmpty then 0 else 1) < 30))=true)
    (hline:(apos.endLine==cpos.line)=true)(hs:starEach (a::es) X.env=(false,eval a X.env)::starEach es X.env)(hplain:(backTo cpos (starEach es X.env)).any (·.1)=false):
    PE X (.Call (.Attribute o "append" apos) (a::es) [] cpos) (fE K (du bX fo fs)):=by
  subst hK;exact Ac PySem.F.slot_list_append PySem.F.type_list_append kg uV ho ha hbase hfew hline hs hplain
theorem y8(hK:X.K=K)(ho:PE X o (fE K fo))(ha:PA X (a::es) (fA K fs))(hbase:attributeBase o "pop" X.env (eval o X.env)=eval o X.env)
    (hfew:((backTo cpos (starEach (a::es) X.env)).all (fun x=> !x.1)&&(backToKw cpos (keywordEach [] X.env)).all (fun x=>x.1.isSome)
      &&decide ((a::es).length+([]:List Keyword).length+(if ([]:List Keyword).isEmpty then 0 else 1) < 30))=true)
    (hline:(apos.endLine==cpos.line)=true)(hs:starEach (a::es) X.env=(false,eval a X.env)::starEach es X.env)(hplain:(backTo cpos (starEach es X.env)).any (·.1)=false):
    PE X (.Call (.Attribute o "pop" apos) (a::es) [] cpos) (fE K (du jj fo fs)):=by
  subst hK;exact Ac PySem.F.slot_list_pop PySem.F.type_list_pop vZ yT ho ha hbase hfew hline hs hplain
end
end L2
namespace L2
open PySem PySem.Spec PyProof.Rows
theorem rY{K:PySem.W.Frag}{H:Hp}{a:Addr}{ns:List Int}{m:FM}{as':List Sv}{Q:VK}{E:XK}(hS:i_ K H a (ns.map V.int))(hm:m [.d (.list (ns.map .int))]=some (.d (.bool true),as'))(q:∀H',Q (.bl true) H'):bE K 1 m [.ref a] H Q E:=by
  refine⟨rfl,H,[.d (.list (ns.map .int))],_,as',?_,?_,hm,trivial,fun F' H' v X' R' A'=>?_⟩
  · refine⟨aw.refl _,rfl,fun i x h=>?_,fun i xs h=>?_,fun i xss h=>?_,fun i j l f1 _=>?_⟩
    · match i,h with
      | 0,h=>
        simp at h;subst h
        exact⟨.ref a,rfl,dQ.mpr ⟨a,_,rfl,hS,aF.ints.mpr rfl⟩⟩
      | i+1,h=>simp at h
    · match i,h with
      | 0,h=>simp at h
      | i+1,h=>simp at h
    · match i,h with
      | 0,h=>simp at h
      | i+1,h=>simp at h
    · rcases f1 with ⟨_,h,_⟩ | ⟨_,_,_,h,_⟩
      · match i,h with
        | 0,h=>simp at h
        | i+1,h=>simp at h
      · match i,h with
        | 0,h=>simp at h
        | i+1,h=>simp at h
  · intro i xss h
    match i,h with
    | 0,h=>simp at h
    | i+1,h=>simp at h
  · rw [fv.mp (show DA K F' (.bool true) v from A')];exact q H'
end L2
namespace L2
open PySem PySem.Spec PyProof.Rows
section
variable{K:PySem.W.Frag}{σ:L2.St}{H0 F H F' H':Hp}{e e':En}
end
section
variable{X:Cx}{K:PySem.W.Frag}{a b:Expr}{es:List Expr}{fa fb:FE}{fs:FA}{pos p p2 p3 pos':Pos}{x:Str}{i:Nat}
def nC(k:Int):En→Option Int:=fun _=>some k
end
end L2
namespace L2
open PySem PySem.Spec PyProof.Rows
theorem j9{C:Int→Int→Bool}{f:Int→Int→PyData}{e:En}{i j:Int}(h:C i j=true):gI C f e (.d (.int i)) (.d (.int j))=some (.d (f i j)):=by simp [gI,cj,h]
theorem lY{e:En}{i j:Int}:dc e (.d (.int i)) (.d (.int j))=some (.d (.int (i+j))):=rfl
theorem jd{e:En}{i j:Int}:iu e (.d (.int i)) (.d (.int j))=some (.d (.int (i - j))):=rfl
theorem aO{e:En}{i j:Int}(h:jk i j=true):bf e (.d (.int i)) (.d (.int j))=some (.d (.int (i*j))):=by
  unfold bf xN pX;rw [j9 h];rfl
theorem v_{i j:Int}(h1: -(2 ^ 64) < i)(h2:i < 2 ^ 64):jk i j=true:=by
  have:gZ i=true:=by unfold gZ;rw [decide_eq_true h1,decide_eq_true h2];rfl
  unfold jk;rw [this];simp
theorem mn{i j:Int}(h1: -(2 ^ 64) < j)(h2:j < 2 ^ 64):jk i j=true:=by
  have:gZ j=true:=by unfold gZ;rw [decide_eq_true h1,decide_eq_true h2];rfl
  unfold jk;rw [this];simp
theorem bY{i j:Int}(h1:Bt 4000 i)(h2:Bt 4000 j):jk i j=true:=by unfold jk;rw [gJ.mpr h1,gJ.mpr h2];simp
theorem aJ{e:En}{i j:Int}(h:0 < j):aW e (.d (.int i)) (.d (.int j))=some (.d (.int (i % j))):=by
  unfold aW;rw [j9 (by simp;lia)]
  rw [Int.fmod_eq_emod_of_nonneg i (by lia)]
theorem eG{e:En}{i j:Int}(h:0 < j)(h2:Bt 8000 j):dJ e (.d (.int i)) (.d (.int j))=some (.d (.int (i / j))):=by
  unfold dJ;rw [j9 (by simp [gJ.mpr h2];lia)]
  rw [Int.fdiv_eq_ediv_of_nonneg i (by lia)]
theorem lh{e:En}{i j:Int}{neg:Bool}:de neg e (.d (.int i)) (.d (.int j))=some (.d (.bool (if neg then !(i==j) else i==j))):=by
  unfold de;simp [i3,SeqAt.shaped,PyData.canLay0,PyData.depth,PyData.eqv]
theorem oR{e:En}{i j:Int}:ye e (.d (.int i)) (.d (.int j))=some (.d (.bool (decide (i < j)))):=rfl
theorem oP{e:En}{i j:Int}:Fg e (.d (.int i)) (.d (.int j))=some (.d (.bool (decide (i≤j)))):=rfl
theorem ef{e:En}{i j:Int}:uO e (.d (.int i)) (.d (.int j))=some (.d (.bool (decide (j < i)))):=rfl
theorem oO{e:En}{i j:Int}:CC e (.d (.int i)) (.d (.int j))=some (.d (.bool (decide (j≤i)))):=rfl
theorem l4{e:En}{i j:Int}:g2 vH e [.d (.int i),.d (.int j)]=some (.d (.int (min i j))):=by
  show some (Rv.d (.int (if j < i then j else i)))=_
  congr 3
  split<;>lia
theorem l0{e:En}{i j:Int}:g2 tY e [.d (.int i),.d (.int j)]=some (.d (.int (max i j))):=by
  show some (Rv.d (.int (if j > i then j else i)))=_
  congr 3
  split<;>lia
theorem l5{e:En}{i:Int}:yf e (.d (.int i))=some (.d (.int (-i))):=rfl
theorem j_{e:En}{b:Bool}:g1 pW e [.d (.bool b)]=some (.d (.int (if b then 1 else 0))):=rfl
theorem lX{e:En}{i:Int}:g1 rp e [.d (.int i)]=some (.d (.int i.natAbs)):=by
  show some (Rv.d (.int (if i < 0 then -i else i)))=_
  congr 3
  split<;>lia
theorem j5{j:Int}(h1:0 < j)(h2:j < 2 ^ 64):Bt 8000 j:=Bt.mono (m:=64) (by unfold Bt;lia) (by decide)
theorem gF{α:Type}{xs:List α}{i:Int}(h0:0≤i)(h:i < xs.length):atI xs i=xs[i.toNat]?:=by
  unfold atI t_
  rw [if_pos h0,if_pos h];rfl
theorem vD{e:En}{i:Nat}{xs:List PyData}{neg:Bool}(h:e[i]?=some (some (.l xs)))(hs:SeqAt.shaped (.list xs)=true):de neg e (.s i) (.l [])=some (.d (.bool (if neg then !xs.isEmpty else xs.isEmpty))):=by
  unfold de
  simp only [i3,h,Option.bind_some,hs]
  have h0:SeqAt.shaped (.list [])=true:=by simp [SeqAt.shaped,PyData.canLay0,PyData.canLayAll0,PyData.depth,PyData.depthAll]
  rw [h0]
  cases xs<;>simp [PyData.eqv,PyData.eqvAll]
theorem qC(ns:List Int):SeqAt.shaped (.list (ns.map .int))=true∧SeqAt.shaped (.tuple (ns.map .int))=true:=by
  have h1:PyData.canLayAll0 (ns.map PyData.int)=true:=by
    induction ns with
    | nil=>rfl
    | cons n r ih=>simp [PyData.canLayAll0,PyData.canLay0,ih]
  have h2:PyData.depthAll (ns.map PyData.int)=0:=by
    clear h1
    induction ns with
    | nil=>rfl
    | cons n r ih=>simp [PyData.depthAll,PyData.depth,ih]
  constructor<;>simp [SeqAt.shaped,PyData.canLay0,PyData.depth,h1,h2]
theorem bj{own:gD}{g:FG}{f:FS}(P:Nat→En→Prop):∀(items:List PyData) (k:Nat) (e:En),(∀i x e,items[i]?=some x→P (k+i) e→∃e1 e2,g x e=some e1∧f e1=some (.nx e2)∧keeps own e2∧P (k+i+1) e2)→P k e→∃e',j8 own g f items e=some (.nx e')∧P (k+items.length) e'
  | [],k,e,_,h=>⟨e,rfl,h⟩
  | x::r,k,e,hs,h=>by
    obtain⟨e1,e2,h1,h2,h3,h4⟩:=hs 0 x e rfl h
    obtain⟨e',h5,h6⟩:=bj P r (k+1) e2 (fun i y e hy hp=>by
      have:=hs (i+1) y e (by simpa using hy) (by rw [show k+(i+1)=k+1+i by lia];exact hp)
      rw [show k+(i+1)+1=k+1+i+1 by lia] at this
      exact this) h4
    refine⟨e',?_,by rw [List.length_cons,show k+(r.length+1)=k+1+r.length by lia];exact h6⟩
    unfold j8
    simp only [h1,h2,Option.bind_some,if_pos h3]
    exact h5
theorem a9{e:En}:keeps [] e:=fun _ h=>by cases h
theorem br{W:List Nat}{fi:FI}{g:FG}{f:FS}{e e1:En}{items:List PyData}(h:fi e=some (items,[],e1)):cN W fi g f e=j8 [] g f items e1:=by
  unfold cN;rw [h];rfl
theorem cW{lo:Int}{n i:Nat}{x:PyData}(h:(a_ lo n)[i]?=some x):x=.int (lo+i)∧i < n:=by
  unfold a_ at h
  rw [List.getElem?_map] at h
  obtain⟨k,h1,rfl⟩:=Option.map_eq_some_iff.mp h
  obtain⟨h2,h3⟩:=List.getElem?_eq_some_iff.mp h1
  simp at h2 h3
  subst h3
  exact⟨rfl,h2⟩
theorem cz{lo:Int}{n:Nat}:(a_ lo n).length=n:=by simp [a_]
theorem cq{fs:FA}{e e1:En}{n:Int}(h:fs e=some ([.d (.int n)],e1))(h1: -1000000≤n)(h2:n≤1000000):ci fs e=some (a_ 0 n.toNat,[],e1):=by
  unfold ci;rw [h]
  have:wZ n=true:=by unfold wZ;rw [decide_eq_true h1,decide_eq_true h2];rfl
  simp [cj,this]
theorem jr{ft:FT}{f:FS}(P:En→Prop)(μ:En→Nat)(hs:∀e,P e→(∃e1,ft e=some (false,e1)∧True)∨∃e1 e2,ft e=some (true,e1)∧f e1=some (.nx e2)∧P e2∧μ e2 < μ e):
    ∀(n:Nat) (e:En),P e→μ e < n→∃e0 e',g_ ft f n e=some (.nx e')∧P e0∧ft e0=some (false,e'):=by
  intro n
  induction n with
  | zero=>intro e _ h;lia
  | succ n ih=>
    intro e hp hm
    rcases hs e hp with ⟨e1,h1,_⟩ | ⟨e1,e2,h1,h2,h3,h4⟩
    · exact⟨e,e1,by unfold g_;rw [h1];rfl,hp,h1⟩
    · obtain⟨e0,e',g1,g2⟩:=ih e2 h3 (by lia)
      exact⟨e0,e',by unfold g_;rw [h1];simp only [Option.bind_some,if_true,h2];exact g1,g2⟩
theorem eF{cs:En}{ft:FT}{fe:FE}{b:PyData→Bool}{y:PyData→PyData}:∀(items:List PyData) (t:Option Sv) (acc:List PyData),(∀x∈items,ft (cs++[some (.d x)])=some (b x,cs++[some (.d x)]))→(∀x∈items,b x=true→fe (cs++[some (.d x)])=some (.d (y x),cs++[some (.d x)]))→
    acc.length+items.length≤1000000→∃t',dI (af cs.length) ft fe items (cs++[t]) acc=some (acc++(items.filter b).map y,cs++[t'])
  | [],t,acc,_,_,_=>⟨t,by simp [dI]⟩
  | x::r,t,acc,h1,h2,hl=>by
    have hg:af cs.length x (cs++[t])=some (cs++[some (.d x)]):=by simp [af]
    have h1x:=h1 x (by simp)
    unfold dI
    rw [hg]
    simp only [Option.bind_some,h1x]
    cases hb:b x with
    | true=>
      simp only [if_true,h2 x (by simp) hb,Option.bind_some,oJ]
      rw [if_pos (by simp at hl;lia)]
      obtain⟨t',ih⟩:=eF (b:=b) (y:=y) r (some (.d x)) (acc++[y x]) (fun z hz=>h1 z (by simp [hz])) (fun z hz=>h2 z (by simp [hz])) (by simp at hl ⊢;lia)
      exact⟨t',by rw [ih];simp [hb]⟩
    | false=>
      simp only [Bool.false_eq_true,if_false]
      obtain⟨t',ih⟩:=eF (b:=b) (y:=y) r (some (.d x)) acc (fun z hz=>h1 z (by simp [hz])) (fun z hz=>h2 z (by simp [hz])) (by simp at hl;lia)
      exact⟨t',by rw [ih];simp [hb]⟩
theorem oW{fa:FE}{e e1:En}{xs:List PyData}(h:fa e=some (.d (.tuple xs),e1)):ia fa e=some (xs,[],e1):=by
  unfold ia;rw [h];rfl
theorem sL{fa:FE}{e e1:En}{xs:List PyData}(h:fa e=some (.d (.list xs),e1)):ia fa e=some (xs,[],e1):=by
  unfold ia;rw [h];rfl
theorem oX{fa:FE}{e e1:En}{xs:List PyData}(h:fa e=some (.l xs,e1)):ia fa e=some (xs,[],e1):=by
  unfold ia;rw [h];rfl
theorem j2{cp:List (Nat × Str)}{nT:Nat}{fi:FI}{g:FG}{ft:FT}{fe:FE}{e e1 cs:En}{t t':En}{items out:List PyData}(h1:fi e=some (items,[],e1))(hc:nD cp nT e1=cs++t)(hl:cs.length=cp.length)(h3:dI g ft fe items (nD cp nT e1) []=some (out,cs++t')):cK cp nT fi g ft fe e=some (.l out,e1):=by
  have key:∀i x,e1[i]?=some (some (.l x))→∀k,kj cp i=some k→(cs++t')[k]?=some (some (.l x)):=by
    intro i x hi k hk
    obtain⟨s,hs⟩:=gh hk
    have hk2:k < cp.length:=(List.getElem?_eq_some_iff.mp hs).1
    have:(nD cp nT e1)[k]?=some (some (.l x)):=by
      unfold nD
      rw [List.getElem?_append_left (by simpa using hk2),List.getElem?_map,hs]
      simp [hi,CP]
    rw [hc,List.getElem?_append_left (by lia)] at this
    rw [List.getElem?_append_left (by lia)]
    exact this
  unfold cK
  rw [h1]
  simp only [Option.bind_some,List.all_nil,if_true,h3]
  have hb:lN cp (cs++t') e1=true:=by
    unfold lN
    rw [List.all_eq_true]
    intro p hp
    match hi:e1[p.1]? with
    | none=>simp [xO]
    | some none=>simp [xO]
    | some (some (.d x))=>simp [xO]
    | some (some (.n x))=>simp [xO]
    | some (some (.l x))=>
      cases hq:kj cp p.1 with
      | none=>
        unfold kj at hq
        rw [List.findIdx?_eq_none_iff] at hq
        have:=hq p hp
        simp at this
      | some k=>simp [key p.1 x hi k hq,xO]
  rw [if_pos hb]
  congr 2
  refine List.ext_getElem? fun i=>?_
  rw [ce]
  match hi:e1[i]? with
  | none=>rfl
  | some none=>rfl
  | some (some (.d x))=>rfl
  | some (some (.n x))=>rfl
  | some (some (.l x))=>
    cases hp:kj cp i with
    | none=>simp [hp]
    | some k=>simp [hp,key i x hi k hp]
theorem j4{α:Type}{xs:List α}{i:Int}(h0:0≤i)(h1:i < xs.length):∃x∈xs,atI xs i=some x:=by
  rw [gF h0 h1]
  exact⟨xs[i.toNat]'(by lia),List.getElem_mem _,List.getElem?_eq_getElem _⟩
theorem vF{e:En}{xs:List PyData}{i:Int}:aV e (.l xs) (.d (.int i))=(atI xs i).map .d:=rfl
theorem kQ{e:En}{xs:List PyData}{i:Int}:aV e (.d (.tuple xs)) (.d (.int i))=(atI xs i).map .d:=rfl
theorem rA{e:En}{xs:List PyData}{i:Int}:aV e (.d (.list xs)) (.d (.int i))=(atI xs i).map .d:=rfl
theorem vG{e:En}{j:Nat}{xs:List PyData}{i:Int}(h:e[j]?=some (some (.l xs))):aV e (.s j) (.d (.int i))=(atI xs i).map .d:=by
  simp [aV,fU,h,cj]
theorem rD{e:En}{xs:List PyData}:g1 jH e [.d (.tuple xs)]=some (.d (.int xs.length)):=rfl
theorem oQ{e:En}{xs:List PyData}:g1 jH e [.d (.list xs)]=some (.d (.int xs.length)):=rfl
theorem rB{e:En}{xs:List PyData}:g1 jH e [.l xs]=some (.d (.int xs.length)):=rfl
theorem rC{e:En}{j:Nat}{xs:List PyData}(h:e[j]?=some (some (.l xs))):g1 jH e [.s j]=some (.d (.int xs.length)):=by
  simp [g1,jH,fU,h]
theorem l7{e:En}{j:Nat}{xs:List PyData}(h:e[j]?=some (some (.l xs))):g1 df e [.s j]=some (.d (.tuple xs)):=by
  simp [g1,df,fU,h]
theorem l6{e:En}{xs:List PyData}:g1 df e [.l xs]=some (.d (.tuple xs)):=rfl
theorem j'{e:En}{xs:List PyData}:g1 df e [.d (.list xs)]=some (.d (.tuple xs)):=rfl
theorem l8{e:En}{xs:List PyData}:g1 df e [.d (.tuple xs)]=some (.d (.tuple xs)):=rfl
theorem vK{e:En}{xs:List PyData}{lo hi:Option Int}:Ej e (.d (.tuple xs)) lo hi=some (.d (.tuple (cutD xs lo hi))):=rfl
theorem vB{e:En}{xs ys:List PyData}(h:xs.length+ys.length≤1000000):dc e (.d (.tuple xs)) (.d (.tuple ys))=some (.d (.tuple (xs++ys))):=by
  simp [dc,xN,vA,gI,cj,pV,fU,h]
theorem vI{e:En}{i j:Int}(h:j≠0):aW e (.d (.int i)) (.d (.int j))=some (.d (.int (i.fmod j))):=by
  unfold aW;rw [j9 (by simpa using h)]
theorem sI{e:En}{i j:Int}(h:j≠0)(h2:Bt 8000 j):dJ e (.d (.int i)) (.d (.int j))=some (.d (.int (i.fdiv j))):=by
  unfold dJ;rw [j9 (by simp [gJ.mpr h2,h])]
theorem jI{e:En}{i j:Int}(h:wF i j=true):rE e (.d (.int i)) (.d (.int j))=some (.d (.int (i ^ j.toNat))):=by
  unfold rE;rw [j9 h]
theorem jQ:wF 10 18=true:=by decide
theorem dH{f g:FS}{e e1:En}(h:f e=some (.nx e1)):aG f g e=g e1:=by unfold aG;rw [h];rfl
theorem Dr{ft:FT}{f g:FS}{e e1:En}(h:ft e=some (true,e1)):k7 ft f g e=f e1:=by unfold k7;rw [h];rfl
theorem Dq{ft:FT}{f g:FS}{e e1:En}(h:ft e=some (false,e1)):k7 ft f g e=g e1:=by unfold k7;rw [h];rfl
def z9(i:Nat)(e:En):Nat:=match e[i]? with
  | some (some (.l xs))=>xs.length
  | _=>0
def nG(i:Nat)(e:En):Nat:=match e[i]? with
  | some (some (.d (.int k)))=>k.natAbs
  | _=>0
theorem o8{n m:Nat}(h:n < 2 ^ m)(hm:m≤4200):n < 2 ^ 4200:=Nat.lt_of_lt_of_le h (Nat.pow_le_pow_right (by decide) hm)
theorem oy{α:Type}{a:α}{r:List α}:atI (a::r) 0=some a:=by
  rw [gF (by decide) (by simp)];rfl
theorem lK{α:Type}{a b:α}{r:List α}:atI (a::b::r) 1=some b:=by
  rw [gF (by decide) (by simp;lia)];rfl
theorem oz{α:Type}{a b c:α}{r:List α}:atI (a::b::c::r) 2=some c:=by
  rw [gF (by decide) (by simp;lia)];rfl
theorem oA{α:Type}{a b c d:α}{r:List α}:atI (a::b::c::d::r) 3=some d:=by
  rw [gF (by decide) (by simp;lia)];rfl
theorem jy{W:aR}{k:Int}(h:qW W k):atI (W.ties.map aY) k=some (aY (W.tie k)):=by
  rw [gF h.1 (by rw [List.length_map];exact h.2),List.getElem?_map,h.get];rfl
theorem lM{ns:List Int}{k:Int}(h0:0≤k)(h1:k < (ns.length:Int)):atI (ns.map PyData.int) k=some (.int (ns.getD k.toNat 0)):=by
  rw [gF h0 (by rw [List.length_map];exact h1),List.getElem?_map]
  have:k.toNat < ns.length:=by lia
  simp [this]
theorem vg{a b c d:PyData}:cutD [a,b,c,d] none (some 2)=[a,b]:=rfl
theorem j7{a b c d:PyData}:cutD [a,b,c,d] (some 2) none=[c,d]:=rfl
theorem j6{a b c:PyData}:cutD [a,b,c] (some 1) none=[b,c]:=rfl
theorem pS(ns:List Int):PyData.canLayAll0 (ns.map PyData.int)=true:=by
  induction ns with
  | nil=>rfl
  | cons n r ih=>simp [PyData.canLayAll0,PyData.canLay0,ih]
theorem pK{x:Int}:∀(ns:List Int),((ns.map PyData.int).any fun y=>PyData.eqv y (.int x))=ns.contains x
  | []=>rfl
  | n::r=>by
    rw [List.map_cons,List.any_cons,pK r,List.contains_cons]
    show(n==x || _)=_
    rw [show(n==x)=(x==n) by rw [Bool.eq_iff_iff];simp;exact eq_comm]
theorem jF{e:En}{x:Int}{ns:List Int}{neg:Bool}:zW neg e (.d (.int x)) (.d (.tuple (ns.map .int)))=some (.d (.bool (if neg then !ns.contains x else ns.contains x))):=by
  unfold zW
  simp only [i3,fU,Option.bind_some,pS,pK]
  simp [PyData.canLay0,PyData.depth]
theorem li{e:En}{x a b:Int}{neg:Bool}:zW neg e (.d (.int x)) (.d (.tuple [.int a,.int b]))=some (.d (.bool (if neg then !(a==x || b==x) else(a==x || b==x)))):=by
  have h:=jF (e:=e) (x:=x) (ns:=[a,b]) (neg:=neg)
  simp only [List.map_cons,List.map_nil] at h
  rw [h]
  have:[a,b].contains x=(a==x || b==x):=by
    simp only [List.contains_cons,List.contains_nil,Bool.or_false]
    rw [show(x==a)=(a==x) by rw [Bool.eq_iff_iff];simp;exact eq_comm,show(x==b)=(b==x) by rw [Bool.eq_iff_iff];simp;exact eq_comm]
  rw [this]
theorem ir(W:aR):ar W=.tuple [.int W.things,.tuple (W.ties.map aY),.tuple (W.pat.map .int),.int W.asks]:=rfl
end L2
namespace L2
open PySem PySem.Spec PyProof.Rows
abbrev Std:=List Int × List Int
structure Cq (W:aR) (s:Std):Prop where
  inw:∀k∈s.1,qW W k
  nd:s.1.Nodup
  tk:s.2.length≤2*s.1.length
  th:∀t∈s.2,0≤t∧t < W.things
def nxt(W:aR)(s:Std)(k:Int)(b:Bool):Std:=(aR.askd s.1 k,W.took s.2 k b)
structure Nd where
  tie:Int
  yes:Int
  no:Int
def Cn(W:aR)(n:Nat)(S:Nat→Std)(i:Nat)(k:Int)(b:Bool)(l:Int):Prop:=l= -1∨(0≤l∧l < (n:Int)∧S l.toNat=nxt W (S i) k b)
structure Ed (W:aR) (n:Nat) (S:Nat→Std) (i:Nat) (x:Nd):Prop where
  tie:qW W x.tie
  st:Cq W (S i)
  may:W.may (S i).1 (S i).2 x.tie=true
  yes:Cn W n S i x.tie true x.yes
  no:Cn W n S i x.tie false x.no
def Ee(W:aR)(T:List Nd)(S:Nat→Std):Prop:=∀(i:Nat) (x:Nd),T[i]?=some x→Ed W T.length S i x
structure Wt where
  st:Std
  par:Int
  side:Int
def uG(S:Nat→Std)(n:Nat)(s:Std):Nat→Std:=fun i=>if i=n then s else S i
structure E8 (W:aR) (T:List Nd) (S:Nat→Std) (ws:List Wt):Prop where
  tr:Ee W T S
  wt:∀w∈ws,Cq W w.st∧(w.par= -1∨∃(p:Nat) (x:Nd),w.par=(p:Int)∧T[p]?=some x∧((w.side=0∧w.st=L2.nxt W (S p) x.tie true)∨(w.side=1∧w.st=L2.nxt W (S p) x.tie false)))
  side:∀w∈ws,w.side=0∨w.side=1
end L2
namespace L2
open PySem PySem.Spec PyProof.Rows
theorem kJ{cp:List (Nat × Str)}{nT:Nat}{fi:FI}{g:FG}{ft:FT}{fe:FE}{e e1 cs:En}{t t':En}{items out:List PyData}{own:gD}(h1:fi e=some (items,own,e1))(ho:(own.all fun q=> !(cp.any fun c=>c.1==q.1))=true)(hc:nD cp nT e1=cs++t)(hl:cs.length=cp.length)(h3:dI g ft fe items (nD cp nT e1) []=some (out,cs++t')):cK cp nT fi g ft fe e=some (.l out,e1):=by
  have key:=j2 (cp:=cp) (nT:=nT) (fi:=fun _=>some (items,[],e1)) (g:=g) (ft:=ft) (fe:=fe) (e:=e) rfl hc hl h3
  unfold cK at key ⊢
  rw [h1]
  simp only [Option.bind_some,List.all_nil,if_true] at key
  simp only [Option.bind_some,ho,if_true]
  exact key
theorem ny{α:Type}(x:α):∀n,(List.replicate n [x]).flatten=List.replicate n x
  | 0=>rfl
  | n+1=>by rw [List.replicate_succ,List.flatten_cons,ny x n];rfl
theorem CD{e:En}{x:PyData}{n:Int}(h0:0≤n)(h1:n≤100000):bf e (.l [x]) (.d (.int n))=some (.l (List.replicate n.toNat x)):=by
  have a:pY e (.l [x]) (.d (.int n))=some (.l (List.replicate n.toNat [x]).flatten):=by
    simp [pY,rH,cj]
    lia
  have b:pX e (.l [x]) (.d (.int n))=none:=by simp [pX,gI,cj]
  have c:pZ e (.l [x]) (.d (.int n))=none:=by simp [pZ,fU,cj]
  unfold bf xN
  rw [b,c,a,ny]
  rfl
def nm(nums:List Int)(l:Int):Int:=(atI nums l).getD (-1)
structure ER (order:List Int) (n:Nat) (nums:List Int):Prop where
  len:nums.length=n+1
  top:nums[n]?=some (-1)
  at':∀(j:Nat) (v:Int),j < n→nums[j]?=some v→v= -1∨∃p:Nat,v=(p:Int)∧order[p]?=some (j:Int)
def wb(T:List Nd)(w:Int):Nd:=T.getD w.toNat ⟨0,0,0⟩
end L2
namespace L2
open PySem PySem.Spec PyProof.Rows
structure Fd (S:Nat→Std) (n:Nat) (ss:List Std):Prop where
  len:ss.length=n
  at':∀(j:Nat) (s:Std),ss[j]?=some s→s.1.length≤(S j).1.length∧s.2.length≤2*s.1.length∧(∀k∈s.1,0≤k∧k < 16)∧∀t∈s.2,0≤t∧t < 12
end L2
namespace L2
open PySem PySem.Spec PyProof.Rows
theorem cA(s:String):PyData.strOk (Str.ofString s)=true:=by
  rw [Str.ofString_eq_toList]
  unfold PyData.strOk
  simp only [List.size_toArray,List.length_map]
  rw [show(List.map Char.toNat s.toList).toArray.all (fun a=>decide (a < 1114112)) 0 s.toList.length=(List.map Char.toNat s.toList).all (fun a=>decide (a < 1114112)) by simp]
  rw [List.all_map,List.all_eq_true]
  intro c _
  show decide (c.toNat < 1114112)=true
  rw [decide_eq_true_eq]
  have:=c.valid
  unfold UInt32.isValidChar Nat.isValidChar at this
  show c.val.toNat < _
  lia
theorem dC{a b:Str}(h1:PyData.strOk a=true)(h2:PyData.strOk b=true):PyData.strOk (a++b)=true:=by
  unfold PyData.strOk at*
  rw [show(a++b).cps=a.cps++b.cps from rfl]
  simp only [Array.all_append,h1,h2,Bool.and_self]
theorem mK{sep:Str}(h:PyData.strOk sep=true):∀(ts:List Str),(∀t∈ts,PyData.strOk t=true)→PyData.strOk (Str.join sep ts)=true
  | [],_=>by show PyData.strOk Str.empty=true;simp [PyData.strOk,Str.empty]
  | [x],hx=>hx x (by simp)
  | x::y::r,hx=>dC (dC (hx x (by simp)) h) (mK h (y::r) fun t ht=>hx t (by simp at ht ⊢;exact .inr ht))
theorem kz{ts:List Str}(h:∀t∈ts,PyData.strOk t=true):PyData.strOk (tupleText ts)=true:=by
  unfold tupleText
  exact dC (dC (cA _) (mK (cA _) ts h)) (cA _)
structure Sz (n dep:Nat) (d:PyData):Prop where
  fl:fy d=true
  sh:d.showable=true
  dp:d.depth≤dep
  ln:d.shown.length≤n
  so:PyData.strOk d.shown=true
theorem Sz.all{n dep:Nat}:∀{ds:List PyData},(∀d∈ds,Sz n dep d)→fx ds=true∧PyData.showableAll ds=true∧PyData.depthAll ds≤dep∧piled (PyData.shownAll ds)≤ds.length*(n+2)∧∀t∈PyData.shownAll ds,PyData.strOk t=true
  | [],_=>⟨rfl,rfl,by simp [PyData.depthAll],by simp [PyData.shownAll,piled],by simp [PyData.shownAll]⟩
  | d::r,h=>by
    obtain⟨a1,a2,a3,a4,a5⟩:=h d (by simp)
    obtain⟨b1,b2,b3,b4,b5⟩:=Sz.all (ds:=r) fun x hx=>h x (by simp [hx])
    refine⟨?_,?_,?_,?_,?_⟩
    · simp only [fx,a1,b1,Bool.and_self]
    · simp only [PyData.showableAll,a2,b2,Bool.and_self]
    · simp only [PyData.depthAll];lia
    · simp only [PyData.shownAll,eV,List.length_cons,Nat.succ_mul];lia
    · intro t ht
      simp only [PyData.shownAll,List.mem_cons] at ht
      rcases ht with rfl | ht
      · exact a5
      · exact b5 t ht
theorem Sz.tup{n dep m:Nat}{ds:List PyData}(h:∀d∈ds,Sz n dep d)(hl:ds.length≤m):Sz (m*(n+2)+3) (dep+2) (.tuple ds):=by
  obtain⟨b1,b2,b3,b4,b5⟩:=Sz.all h
  refine⟨by simpa [fy] using b1,b2,by simp only [PyData.depth];lia,?_,by simp only [PyData.shown];exact kz b5⟩
  have h2:=iY (PyData.shownAll ds)
  have:=Nat.mul_le_mul_right (n+2) hl
  simp only [PyData.shown]
  lia
theorem Sz.ok{n dep:Nat}{d:PyData}(h:Sz n dep d)(h1:n≤16777216)(h2:dep≤60):gY d=true:=by
  have sl:sizeLine=16777216:=sizeLine_eq
  unfold gY
  rw [h.fl,h.sh,decide_eq_true (Nat.le_trans h.dp h2),decide_eq_true (show d.shown.length≤sizeLine by rw [sl];exact Nat.le_trans h.ln h1)]
  rfl
theorem sJ{e:En}{d:PyData}(h:gY d=true):g1 iw e [.d d]=some (.d (.str d.shown)):=by
  simp [g1,iw,h]
theorem yd{e:En}{s:Str}(h:PyData.strOk s=true):de false e (.d (.str s)) (.d (.str s))=some (.d (.bool true)):=by
  simp [de,i3,SeqAt.shaped,PyData.canLay0,PyData.depth,PyData.eqv,h]
end L2
namespace L2
open PySem PySem.Spec PyProof.Rows
theorem yc{e:En}{xs ys:List PyData}(hl:xs.length+ys.length≤1000000):dc e (.l xs) (.l ys)=some (.l (xs++ys)):=by
  simp [dc,xN,vA,gI,cj,pV,fU,sG,rH,hl]
def rn(T:List Nd)(ans:List Bool):Nat→Int→List (Int × Bool)
  | 0,_=>[]
  | f+1,at'=>if at' < 0 then [] else((wb T at').tie,ans.getD (wb T at').tie.toNat false)::rn T ans f (if ans.getD (wb T at').tie.toNat false=true then(wb T at').yes else(wb T at').no)
def rt(T:List Nd):Int:=if T.length=0 then -1 else 0
structure EU (W:aR) (T:List Nd) (S:Nat→Std) (ans:List Bool) (r:List (Int × Bool)) (a:Int):Prop where
  at':a= -1∨(0≤a∧a < (T.length:Int)∧r.length≤(S a.toNat).1.length)
  eq:r++rn T ans (17 - r.length) a=rn T ans 17 (rt T)
  len:r.length≤16
  inw:∀p∈r,qW W p.1
theorem Sz.bool{b:Bool}:Sz 5 2 (.bool b):=by
  cases b
  · exact⟨rfl,rfl,by simp [PyData.depth],by show(Str.ofString "False").length≤5;decide,cA _⟩
  · exact⟨rfl,rfl,by simp [PyData.depth],by show(Str.ofString "True").length≤5;decide,cA _⟩
end L2
namespace L2
open PySem PySem.Spec PyProof.Rows
abbrev Fr:=Int × Int
def dF(f:Fr):PyData:=.tuple [.int f.1,.int f.2]
def tm(a b:Fr):Fr:=lowM (a.1*b.1) (a.2*b.2)
def pl(a b:Fr):Fr:=lowM (a.1*b.2+b.1*a.2) (a.2*b.2)
theorem gQ{t b:Int}(hb:0 < b)(ht:0≤t):∃d:Int,0 < d∧(lowM t b).1*d=t∧(lowM t b).2*d=b∧0 < (lowM t b).2∧0≤(lowM t b).1:=by
  obtain⟨d,h1,h2,h3,h4,h5⟩:=eI (t:=t) (b:=b) (by lia)
  have d0:0 < d:=by
    rcases Int.lt_trichotomy d 0 with z | z | z
    · have:=Int.mul_neg_of_pos_of_neg h5 z
      lia
    · exact absurd z h2
    · exact z
  refine⟨d,d0,h3,h4,h5,?_⟩
  rcases Int.lt_or_le (lowM t b).1 0 with z | z
  · have:=Int.mul_neg_of_neg_of_pos z d0
    lia
  · exact z
theorem lj{t b i:Int}(hb:0 < b)(ht:0≤t)(h:t≤i*b):(lowM t b).1≤i*(lowM t b).2:=by
  obtain⟨d,d0,h3,h4,h5,h6⟩:=gQ hb ht
  refine Int.le_of_mul_le_mul_right (a:=d) ?_ d0
  rw [h3,Int.mul_assoc,h4]
  exact h
theorem jL{t b:Int}(hb:0 < b)(ht:0≤t):(lowM t b).2 ∣ b:=by
  obtain⟨d,d0,h3,h4,h5,h6⟩:=gQ hb ht
  exact⟨d,h4.symm⟩
theorem vY{t b M u:Int}(hb:0 < b)(ht:0≤t)(h:t*M=b*u):(lowM t b).2 ∣ M:=by
  have g:=mf (t:=t) (b:=b) (by lia)
  obtain⟨d,d0,h3,h4,h5,h6⟩:=gQ hb ht
  generalize (lowM t b).1=p at*
  generalize (lowM t b).2=q at*
  have e:p*M=q*u:=by
    refine Int.eq_of_mul_eq_mul_right (a:=d) (by lia) ?_
    rw [show p*M*d=(p*d)*M by rw [Int.mul_assoc,Int.mul_comm M d,←Int.mul_assoc],h3,h,←h4,Int.mul_assoc,Int.mul_comm d u,←Int.mul_assoc]
  have dv:q.natAbs ∣ (p*M).natAbs:=Int.natAbs_dvd_natAbs.mpr ⟨u,e⟩
  rw [Int.natAbs_mul] at dv
  have cp:Nat.Coprime q.natAbs p.natAbs:=by
    have:Nat.gcd p.natAbs q.natAbs=1:=g
    rw [Nat.Coprime,Nat.gcd_comm];exact this
  exact Int.natAbs_dvd_natAbs.mp (cp.dvd_of_dvd_mul_left dv)
structure tS (M:Int) (f:Fr):Prop where
  pos:0 < f.2
  lo:0≤f.1
  hi:f.1≤f.2
  dv:f.2 ∣ M
theorem tS.tm{M N:Int}{a b:Fr}(h:tS M a)(k:tS N b):tS (M*N) (tm a b):=by
  have p:0 < a.2*b.2:=Int.mul_pos h.pos k.pos
  have t:0≤a.1*b.1:=Int.mul_nonneg h.lo k.lo
  obtain⟨d,d0,h3,h4,h5,h6⟩:=gQ p t
  refine⟨h5,h6,?_,Int.dvd_trans (jL p t) (Int.mul_dvd_mul h.dv k.dv)⟩
  have:=lj (i:=1) p t (by rw [Int.one_mul];exact Int.mul_le_mul h.hi k.hi k.lo (Int.le_of_lt h.pos))
  rw [Int.one_mul] at this
  exact this
structure qX (M i:Int) (f:Fr):Prop where
  pos:0 < f.2
  lo:0≤f.1
  hi:f.1≤i*f.2
  dv:f.2 ∣ M
theorem tS.bt{M:Int}{f:Fr}{n:Nat}(h:tS M f)(hM:Bt n M)(h0:0 < M):Bt n f.1∧Bt n f.2:=by
  have l:=Int.le_of_dvd h0 h.dv
  have:=h.pos;have:=h.lo;have:=h.hi
  exact⟨hM.of_le (by lia),hM.of_le (by lia)⟩
theorem qX.bt{M i:Int}{f:Fr}{n m:Nat}(h:qX M i f)(hM:Bt n M)(h0:0 < M)(hi:Bt m i):Bt (m+n) f.1∧Bt n f.2:=by
  have l:=Int.le_of_dvd h0 h.dv
  have p:=h.pos;have q:=h.lo;have r:=h.hi
  have b2:Bt n f.2:=hM.of_le (by lia)
  exact⟨(hi.mul b2).of_le (by lia),b2⟩
def bp(W:aR):List Int→Int
  | []=>1
  | k::r=>(W.tie k).bot*bp W r
def Cw(W:aR):Int:=bp W W.rng
def ch(W:aR)(k:Int)(b:Bool):Fr:=if b then((W.tie k).top,(W.tie k).bot) else((W.tie k).bot - (W.tie k).top,(W.tie k).bot)
structure Fc (W:aR) (S:Nat→Std) (n:Nat) (rs:List Fr):Prop where
  len:rs.length=n
  at':∀(j:Nat) (f:Fr),rs[j]?=some f→tS (bp W (S j).1) f
theorem uW{rs:List Fr}{i:Nat}{z:Fr}(h:i < rs.length):atI (rs.map dF) (i:Int)=some (dF (rs.getD i z)):=by
  rw [gF (by lia) (by rw [List.length_map];lia),List.getElem?_map]
  simp [h,dF]
theorem oB{rs:List Fr}{k:Int}{z:Fr}(h0:0≤k)(h:k < (rs.length:Int)):atI (rs.map dF) k=some (dF (rs.getD k.toNat z)):=by
  have:=uW (rs:=rs) (i:=k.toNat) (z:=z) (by lia)
  rw [show((k.toNat:Nat):Int)=k by lia] at this
  exact this
structure E9 (W:aR) (i:Nat) (ss:List Fr):Prop where
  len:ss.length=W.ties.length
  at':∀(j:Nat) (f:Fr),ss[j]?=some f→qX (Cw W) (i:Int) f
theorem Sz.intB{n:Nat}{k:Int}(h:Bt n k)(h0:0 < n)(hn:n≤1900):Sz (n+1) 2 (.int k):=by
  have l:=h.log h0
  refine⟨rfl,?_,by simp [PyData.depth],?_,cA _⟩
  · show decide (k.natAbs.log2 < 1920)=true
    rw [decide_eq_true_eq];lia
  · have:=int_text_length_le h0 l
    show(Str.ofString (toString k)).length≤n+1
    rw [PySem.ofString_length];exact this
def DL(l:Int)(f:Fr):PyData:=.tuple [.int l,dF f]
def ways(W:aR)(x:Nd):List PyData:=(if x.yes= -1 then [] else [DL x.yes (ch W x.tie true)])++(if x.no= -1 then [] else [DL x.no (ch W x.tie false)])
end L2
namespace L2
open PySem PySem.Spec PyProof.Rows
def Ca(sc:Scope)(x:Str):Bool:=match sc.names.lookup x with
  | some .local=>true
  | some .cell=>true
  | some .free=>true
  | _=>false
theorem zG{sc:Scope}{x:Str}(h:Ca sc x=true):Cs sc x:=by
  unfold Ca at h
  unfold Cs
  split at h
  · rename_i e;exact .inl e
  · rename_i e;exact .inr (.inl e)
  · rename_i e;exact .inr (.inr e)
  · cases h
section
variable{X:Cx}{K:PySem.W.Frag}
theorem qw(i:Nat){x:Str}{pos:Pos}(hN:X.N[i]?=some x)(hv:Ca X.env.scope x=true)(hd:((x==("__debug__":Str)) || (x==("__classdict__":Str)))=false):PE X (.Name x pos) (fE K (ae i)):=qv i hN (zG hv) (Bool.or_eq_false_iff.mp hd).1 (Bool.or_eq_false_iff.mp hd).2
end
end L2
namespace L2
open PySem PySem.Spec PyProof.Rows
section
variable{X:Cx}{tg a b c:Expr}{ta:TA}{p pos p2 pos2:Pos}
end
section
variable{K:PySem.W.Frag}{σ:L2.St}
end
section
variable{X:Cx}{K:PySem.W.Frag}{tg a b c:Expr}{fs:FA}{pos p p2 pos2:Pos}
end
end L2
namespace L2
open PySem PySem.Spec PyProof.Rows
end L2
namespace L2
open PySem PySem.Spec PyProof.Rows
section
variable(P:Program)(w:World)
end
section
variable{P:Program}{w:World}{H H':Hp}{h h':Heap}{a:Addr}{o:HO}
end
section
variable{P:Program}{w:World}{H:Hp}{h h':Heap}{x e:Addr}{o':HO}
end
section
variable{fs fs' ex ex':List Addr}{H H1 H2:Hp}{h h1 h2 h':Heap}{a x e:Addr}{o:HO}
end
end L2
namespace L2
open PySem PySem.Spec PyProof.Rows
section
variable{X:Cx}{pins:List (Addr × Obj)}{σ:List (Option V)}{H H':Hp}{s:Shared}{h':Heap}
end
end L2
namespace L2
open PySem PySem.Spec PyProof.Rows
section
variable{X:Cx}
variable{a b:Expr}{ta tb:TE}{pos:Pos}
variable{tA tB':TT}{ib:List Expr}
end
end L2
namespace L2
open PySem PySem.Spec PyProof.Rows
section
variable{X:Cx}{pins:List (Addr × Obj)}{σ:St}{H:Hp}{s:Shared}{a:Addr}{xs ys:List V}
end
section
variable{X:Cx}{pins:List (Addr × Obj)}{σ:St}{H:Hp}{s:Shared}{E:Value→Shared→Prop}
end
section
variable{X:Cx}{st:Stmt}{ib:List Stmt}{t u:TS}{e:Expr}{te:TE}{pos:Pos}
end
section
variable{X:Cx}{pos:Pos}
end
section
variable{X:Cx}{pos:Pos}
end
end L2
namespace L2
open PySem PySem.Spec PyProof.Rows
section
variable{X:Cx}{tg:Expr}
end
end L2
namespace L2
open PySem PySem.Spec PyProof.Rows
section
variable{X:Cx}{a b c:Expr}{ta tb tc:TE}{pos:Pos}
end
section
variable{X:Cx}{a b c:Expr}{ta tb tc:TE}{pos:Pos}
end
end L2
namespace L2
open PySem PySem.Spec PyProof.Rows
section
variable{prog:Program}{w:World}{A:Around}{E:Value→Shared→Prop}{s:Shared}{K:PySem.W.Frag}{x dx C f:Addr}{mA:Str→Option Value}{name:Str}{v:Value}
end
section
variable{P:Program}{w:World}{H H':Hp}{h h':Heap}{a C dx:Addr}{fs fs':List (Str × V)}
end
section
variable{X:Cx}{pins:List (Addr × Obj)}{σ:St}{H:Hp}{s:Shared}{a C dx:Addr}{fs:List (Str × V)}{f:Str}{v:V}{A:Around}{E:Value→Shared→Prop}
end
section
variable{X:Cx}{o e value:Expr}{f:Str}{pos pos' tpos:Pos}{ta tv:TE}
end
section
variable{X:Cx}{pins:List (Addr × Obj)}{σ:St}{H:Hp}{s:Shared}{A:Around}{E:Value→Shared→Prop}{Q:Value→Shared→Prop}{c:Value}{b:Bool}
end
end L2
namespace L2
open PySem PySem.Spec PyProof.Rows
section
variable{X:Cx}{e:Expr}{es:List Expr}{te:TE}{t:TA}{pos:Pos}
end
section
variable{X:Cx}{pins:List (Addr × Obj)}{σ:St}{H:Hp}{s s':Shared}
end
section
variable{X:Cx}{CX:tP}{k:Nat}{f C:Addr}{fd:FuncData}{ps:List Str}{sp:Sp}{dvs:List V}{ds:List Value}{E:XK}{x m:Str}{p pos apos:Pos}{e o:Expr}{es:List Expr}{ta:TE}{t:TA}
end
section
variable{X:Cx}{CX:tP}{k:Nat}{f C:Addr}{fd:FuncData}{ps ks:List Str}{sp:Sp}{E:XK}{x m:Str}{p pos apos kpos:Pos}{e o:Expr}{es:List Expr}{kws:List Keyword}{te ta:TE}{t tk:TA}{nm:Option Str}
variable{g:List Value→List Value→List Value}{gV:List V→List V→List V}
end
end L2
namespace L2
open PySem PySem.Spec PyProof.Rows
section
variable{X:Cx}{x:Str}{p pos:Pos}{e:Expr}{es:List Expr}{t:TA}{id T:String}{r:List V→Hp→VK→Prop}
end
end L2
namespace L2
open PySem PySem.Spec PyProof.Rows
section
variable{κ:Type}[DecidableEq κ]
end
section
variable{P:Program}{w:World}{H:Hp}{h:Heap}{a:Addr}
end
section
variable{X:Cx}{pins:List (Addr × Obj)}{σ:St}{H:Hp}{s:Shared}{a:Addr}{y v:V}{u r:Value}{o:Option V}{A:Around}{E:Value→Shared→Prop}
end
section
variable{X:Cx}{pins:List (Addr × Obj)}{σ:St}{H:Hp}{s:Shared}{a:Addr}{kvs:List (lH × V)}{k:lH}{u:Value}{A:Around}{E:Value→Shared→Prop}
end
section
variable{X:Cx}{o i e value:Expr}{pos pos' tpos:Pos}{td ty tv:TE}
end
section
variable{X:Cx}{pos:Pos}
end
section
variable{X:Cx}{pins:List (Addr × Obj)}{σ:St}{H:Hp}{s:Shared}{a:Addr}{y d:V}{u r:Value}{o:Option V}{A:Around}{E:Value→Shared→Prop}
end
section
variable{X:Cx}{o e f:Expr}{apos cpos:Pos}{td ty tx:TE}
end
section
variable{X:Cx}{pins:List (Addr × Obj)}{σ:St}{H:Hp}{s:Shared}{a:Addr}{kvs:List (lH × V)}{A:Around}{E:Value→Shared→Prop}
end
section
variable{X:Cx}{pins:List (Addr × Obj)}{σ:St}{H:Hp}{s:Shared}{a:Addr}{y:V}{u:Value}{A:Around}{E:Value→Shared→Prop}
end
end L2
namespace Att
open PySem PySem.W PySem.Calls PyProof.Rows
section
variable{prog:Program}{w:World}{A:Around}{E:Value→Shared→Prop}{s:Shared}{K:Frag}
end
end Att
namespace L2
open PySem PySem.Spec PyProof.Rows
end L2
namespace L2
open PySem PySem.Spec PyProof.Rows
end L2
namespace L2
open PySem PySem.Spec PyProof.Rows
section
variable{P:Program}{w:World}{K:PySem.W.Frag}{mg:Str→Option Value}{base:Heap}
end
section
variable{X:Cx}
end
section
variable{κ:Type}[DecidableEq κ]
end
end L2
namespace L2
open PySem PySem.Spec PyProof.Rows
section
variable{X:Cx}{K:PySem.W.Frag}{a:Expr}{fa:FE}{pos p p2:Pos}
end
end L2
namespace L2
open PySem PySem.Spec PyProof.Rows
section
variable{X:Cx}{K:PySem.W.Frag}
end
end L2
namespace L2
open PySem PySem.Spec PyProof.Rows
section
variable{X:Cx}{K:PySem.W.Frag}{σ:L2.St}{F H:Hp}{e:En}{pos p1 p2:Pos}
end
end L2
namespace L2
open PySem PySem.Spec PyProof.Rows
section
variable{X:Cx}{K:PySem.W.Frag}{a b c d:Expr}{ta tb tc td:TE}{fa fb fc fd:FE}{pos:Pos}
end
end L2
namespace L2
open PySem PySem.Spec PyProof.Rows
section
variable{X:Cx}{K:PySem.W.Frag}{a b:Expr}{es:List Expr}{fa fb:FE}{fs:FA}{pos p apos:Pos}
end
end L2
namespace L2
open PySem PySem.Spec PyProof.Rows
section
variable{X:Cx}{K:PySem.W.Frag}{a b:Expr}{fa fb:FE}{fs:FA}{pos p p2 p3:Pos}
end
end L2
namespace L2
open PySem PySem.Spec PyProof.Rows
theorem qX.plS{M i j:Int}{a b:Fr}(h:qX M i a)(k:qX M j b):qX M (i+j) (L2.pl a b):=by
  have p:0 < a.2*b.2:=Int.mul_pos h.pos k.pos
  have t:0≤a.1*b.2+b.1*a.2:=Int.add_nonneg (Int.mul_nonneg h.lo (Int.le_of_lt k.pos)) (Int.mul_nonneg k.lo (Int.le_of_lt h.pos))
  obtain⟨d,d0,h3,h4,h5,h6⟩:=gQ p t
  refine⟨h5,h6,lj p t ?_,?_⟩
  · have e1:a.1*b.2≤i*a.2*b.2:=Int.mul_le_mul_of_nonneg_right h.hi (Int.le_of_lt k.pos)
    have e2:b.1*a.2≤j*b.2*a.2:=Int.mul_le_mul_of_nonneg_right k.hi (Int.le_of_lt h.pos)
    rw [Int.add_mul,show i*(a.2*b.2)=i*a.2*b.2 by ac_rfl,show j*(a.2*b.2)=j*b.2*a.2 by ac_rfl]
    lia
  · obtain⟨x,hx⟩:=h.dv
    obtain⟨y,hy⟩:=k.dv
    refine vY (u:=a.1*x+b.1*y) p t ?_
    rw [Int.add_mul,Int.mul_add]
    congr 1
    · rw [hx]
      rw [show a.1*b.2*(a.2*x)=a.2*b.2*(a.1*x) by ac_rfl]
    · rw [hy]
      rw [show b.1*a.2*(b.2*y)=a.2*b.2*(b.1*y) by ac_rfl]
def bq(W:aR)(as:List Int):Int:=bp W (W.rng.filter fun k=> !as.contains k)
def wI(l:Nat):Int:=1000*(2 ^ (16 - l) - 1)
structure E6 (W:aR) (k:Int) (as:List Int) (y n:Fr):Prop where
  y:qX (bq W (aR.askd as k)) (wI (as.length+1)) y
  n:qX (bq W (aR.askd as k)) (wI (as.length+1)) n
  len:as.length≤15
  inw:qW W k
  new:k∉as
def lk(ws:List Fr)(l:Int):Fr:=if l= -1 then(0,1) else ws.getD l.toNat (0,1)
structure Fe (W:aR) (S:Nat→Std) (n:Nat) (ws:List Fr):Prop where
  len:ws.length=n
  at':∀(j:Nat) (f:Fr),ws[j]?=some f→qX (bq W (S j).1) (wI (S j).1.length) f
theorem Cc{M i:Int}(h:0≤i):qX M i (0,1):=⟨by decide,by decide,by show(0:Int)≤i*1;lia,Int.one_dvd _⟩
theorem Sz.int10{n m:Nat}{k:Int}(hb:Bt m k)(m0:0 < m)(m1:m≤1900)(h:k.natAbs < 10 ^ n)(h0:0 < n):Sz (n+1) 2 (.int k):=by
  refine⟨rfl,?_,by simp [PyData.depth],?_,cA _⟩
  · show decide (k.natAbs.log2 < 1920)=true
    rw [decide_eq_true_eq]
    have:=hb.log m0
    lia
  · have:=int_text_length_le10 h0 h
    show(Str.ofString (toString k)).length≤n+1
    rw [PySem.ofString_length];exact this
end L2
namespace L2
open PySem PySem.Spec PyProof.Rows
theorem gL{cs:En}{g:FG}{ft:FT}{fe:FE}{b:PyData→Bool}{y:PyData→PyData}{u:PyData→En}(n:Nat):∀(items:List PyData) (t:En) (acc:List PyData),t.length=n→(∀x∈items,∀t:En,t.length=n→g x (cs++t)=some (cs++u x))→(∀x∈items,(u x).length=n)→
    (∀x∈items,ft (cs++u x)=some (b x,cs++u x))→(∀x∈items,b x=true→fe (cs++u x)=some (.d (y x),cs++u x))→acc.length+items.length≤1000000→
    ∃t',t'.length=n∧dI g ft fe items (cs++t) acc=some (acc++(items.filter b).map y,cs++t')
  | [],t,acc,h,_,_,_,_,_=>⟨t,h,by simp [dI]⟩
  | x::r,t,acc,h,hg,hu,h1,h2,hl=>by
    have h1x:=h1 x (by simp)
    unfold dI
    rw [hg x (by simp) t h]
    simp only [Option.bind_some,h1x]
    cases hb:b x with
    | true=>
      simp only [if_true,h2 x (by simp) hb,Option.bind_some,oJ]
      rw [if_pos (by simp at hl;lia)]
      obtain⟨t',e1,ih⟩:=gL (b:=b) (y:=y) (u:=u) n r (u x) (acc++[y x]) (hu x (by simp)) (fun z hz=>hg z (by simp [hz])) (fun z hz=>hu z (by simp [hz])) (fun z hz=>h1 z (by simp [hz])) (fun z hz=>h2 z (by simp [hz])) (by simp at hl ⊢;lia)
      exact⟨t',e1,by rw [ih];simp [hb]⟩
    | false=>
      simp only [Bool.false_eq_true,if_false]
      obtain⟨t',e1,ih⟩:=gL (b:=b) (y:=y) (u:=u) n r (u x) acc (hu x (by simp)) (fun z hz=>hg z (by simp [hz])) (fun z hz=>hu z (by simp [hz])) (fun z hz=>h1 z (by simp [hz])) (fun z hz=>h2 z (by simp [hz])) (by simp at hl;lia)
      exact⟨t',e1,by rw [ih];simp [hb]⟩
noncomputable def nS(n:Int):Str:=Str.ofString (toString n)
theorem n_{x:Str}(h:PyData.strOk x=true):∀c∈x.cps.toList,c < 1114112:=by
  intro c hc
  unfold PyData.strOk at h
  rw [Array.all_eq_true'] at h
  have:=h c (by simpa using hc)
  simpa using this
theorem xj{l:Array Nat}(h:∀c∈l.toList,c < 1114112):PyData.strOk ⟨l⟩=true:=by
  unfold PyData.strOk
  rw [Array.all_eq_true']
  intro c hc
  simpa using h c (by simpa using hc)
theorem x8(c:Char):c.toNat < 1114112:=by
  have:=c.valid
  unfold UInt32.isValidChar Nat.isValidChar at this
  show c.val.toNat < _
  lia
open PySem.Builtin.Str in
theorem qh{q c:Nat}(hc:c < 1114112):∀d∈reprChar q c,d < 1114112:=by
  intro d hd
  unfold reprChar at hd
  have hx:∀w:Nat,∀d∈(List.replicate (w - ((Nat.toDigits 16 c).map Char.toNat).length) 48++(Nat.toDigits 16 c).map Char.toNat),d < 1114112:=by
    intro w d hd
    rcases List.mem_append.mp hd with h | h
    · have:=List.eq_of_mem_replicate h;lia
    · obtain⟨ch,_,rfl⟩:=List.mem_map.mp h;exact x8 ch
  dsimp only at hd
  split at hd
  · simp only [List.mem_cons,List.not_mem_nil,or_false] at hd;lia
  split at hd
  · simp only [List.mem_cons,List.not_mem_nil,or_false] at hd;lia
  split at hd
  · simp only [List.mem_cons,List.not_mem_nil,or_false] at hd;lia
  split at hd
  · simp only [List.mem_cons,List.not_mem_nil,or_false] at hd;lia
  split at hd
  · simp only [List.mem_cons,List.not_mem_nil,or_false] at hd;lia
  split at hd
  · rcases List.mem_append.mp hd with h | h
    · simp only [List.mem_cons,List.not_mem_nil,or_false] at h;lia
    · exact hx 2 d h
  split at hd
  · rcases List.mem_append.mp hd with h | h
    · simp only [List.mem_cons,List.not_mem_nil,or_false] at h;lia
    · exact hx 4 d h
  · rcases List.mem_append.mp hd with h | h
    · simp only [List.mem_cons,List.not_mem_nil,or_false] at h;lia
    · exact hx 8 d h
open PySem.Builtin.Str in
theorem nM{q:Nat}:∀(l:List Nat) (acc:Array Nat),(∀c∈l,c < 1114112)→(∀c∈acc.toList,c < 1114112)→∀c∈(l.foldl (fun out c=>out++(reprChar q c).toArray) acc).toList,c < 1114112
  | [],acc,_,h=>h
  | x::r,acc,h1,h2=>nM r _ (fun c hc=>h1 c (by simp [hc])) fun c hc=>by
    simp only [Array.toList_append,List.mem_append] at hc
    rcases hc with hc | hc
    · exact h2 c hc
    · exact qh (h1 x (by simp)) c hc
theorem qi{x:Str}(h:PyData.strOk x=true):PyData.strOk (reprText x)=true:=by
  unfold reprText
  refine xj fun c hc=>?_
  have hq:reprQuote x < 1114112:=by unfold reprQuote;split<;>lia
  rw [Array.toList_push] at hc
  rcases List.mem_append.mp hc with hc | hc
  · rw [←Array.foldl_toList] at hc
    exact nM _ _ (n_ h) (fun c hc=>by simp at hc;lia) c hc
  · simp at hc;lia
theorem Sz.str{x:Str}{n:Nat}(h:PyData.strOk x=true)(hl:x.length≤n):Sz (10*n+2) 2 (.str x):=by
  refine⟨rfl,rfl,by simp [PyData.depth],?_,qi h⟩
  have:=PySem.StrLaws.reprText_len x fun c hc=>Nat.lt_of_lt_of_le (n_ h c hc) (by decide)
  show(reprText x).length≤_
  lia
end L2
namespace L2
open PySem PySem.Spec PyProof.Rows
section
variable{X:Cx}{K:PySem.W.Frag}{a:Expr}{fa:FE}{pos p pos2 p2:Pos}
end
end L2
namespace L2
open PySem PySem.Spec PyProof.Rows
section
variable{X:Cx}{K:PySem.W.Frag}{a:Expr}{fa:FE}
end
end L2
namespace L2
open PySem PySem.Spec PyProof.Rows
abbrev Rn:=List (Int × Bool)
def ya(R:Rn):List Int:=R.map (·.1)
def zS(W:aR)(R:Rn):List Int:=(R.filter (·.2)).flatMap fun r=>[(W.tie r.1).one,(W.tie r.1).other]
structure Fb (W:aR) (R:Rn) (asked taken:List Int):Prop where
  pa:asked.Perm (ya R)
  pt:taken.Perm (zS W R)
  inw:∀k∈ya R,qW W k
  nd:(ya R).Nodup
  nk:(zS W R).Nodup
  bd:∀t:Int,0≤t→t < W.things→W.many (ya R) t≤W.pat.getD t.toNat 0
  ak:(R.length:Int)≤W.asks
  sa:asked.Pairwise (· ≤·)
  st:taken.Pairwise (· ≤·)
end L2
namespace L2
open PySem PySem.Spec PyProof.Rows
section
variable{prog:Program}{w:World}{A:Around}{R:Result→Shared→Prop}
end
def BU(l:Addr)(wi:TI)(g:TG)(tc:TT)(te:TE)(σ:L2.St)(H:Hp)(N:L2.St→Hp→Prop):Prop:=
  wi σ H fun J H1=>∃W:Nat→Nat→L2.St→Hp→Prop,(∃m,W 0 m σ H1)∧∀i m σ' H',W i m σ' H'→
    (J.stop i H'∧N σ' H')∨(J.go i H'∧∃N2:L2.St→Hp→Prop,(∀σ2 H2,N2 σ2 H2→∃m',m' < m∧W (i+1) m' σ2 H2)∧
      ∀x H2,J.yld i H' x H2→g x σ' H2 fun σ2 H3=>tc σ2 H3 fun b H4=>if b=true then te σ2 H4 fun v H5=>∃ys,H5 l=some (.lst ys)∧ys.length < sizeLine∧N2 σ2 (bw H5 l (.lst (ys++[v]))) else N2 σ2 H4)
structure EB (cp:List (Nat × Str)) (nT:Nat) (wi:TI) (g:TG) (tc:TT) (wi2:TI) (g2:TG) (tc2:TT) (te:TE) (σ:L2.St) (H:Hp) (Q:VK):Prop where
  go:wi σ H fun J H1=>∀l,H1 l=none→
  ∃W:Nat→Nat→L2.St→Hp→Prop,(∃m,W 0 m (gA cp nT σ) (bw H1 l (.lst [])))∧∀i m σ' H',W i m σ' H'→
    (J.stop i H'∧Q (.ref l) H')∨(J.go i H'∧∃N:L2.St→Hp→Prop,(∀σ2 H2,N σ2 H2→∃m',m' < m∧W (i+1) m' σ2 H2)∧
      ∀x H2,J.yld i H' x H2→g x σ' H2 fun σ2 H3=>tc σ2 H3 fun b H4=>if b=true then BU l wi2 g2 tc2 te σ2 H4 N else N σ2 H4)
section
variable{K:PySem.W.Frag}{F H:Hp}{σ:L2.St}{e:En}{cp:List (Nat × Str)}{nT:Nat}
end
section
variable{X:Cx}{K:PySem.W.Frag}{pos:Pos}
end
section
variable{X:Cx}{K:PySem.W.Frag}{pos:Pos}
variable{o:Expr}{fo:FE}{apos cpos:Pos}
end
end L2
namespace L2
open PySem PySem.Spec PyProof.Rows
section
variable{X:Cx}{K:PySem.W.Frag}
end
end L2
namespace L2
open PySem PySem.Spec PyProof.Rows
structure ie (f:Fr):Prop where
  pos:0 < f.2
  cop:Int.gcd f.1 f.2=1
def Vl(M:Int)(f:Fr)(v:Int):Prop:=f.1*M=v*f.2
theorem Vl.of{M i:Int}{f:Fr}(h:qX M i f):Vl M f (f.1*(M / f.2)):=by
  unfold Vl
  obtain⟨c,hc⟩:=h.dv
  have hp:=h.pos
  rw [hc,Int.mul_ediv_cancel_left _ (by lia),Int.mul_assoc,Int.mul_comm c f.2]
theorem Vl.pl{M:Int}{a b:Fr}{v w:Int}(ha:Vl M a v)(hb:Vl M b w)(pa:0 < a.2)(pb:0 < b.2):Vl M (pl a b) (v+w):=by
  unfold Vl at*
  have p:a.2*b.2≠0:=Int.ne_of_gt (Int.mul_pos pa pb)
  have hc:=ji (t:=a.1*b.2+b.1*a.2) (b:=a.2*b.2) p
  change (L2.pl a b).1*(a.2*b.2)=(L2.pl a b).2*(a.1*b.2+b.1*a.2) at hc
  generalize (L2.pl a b).1=x at*
  generalize (L2.pl a b).2=y at*
  refine Int.eq_of_mul_eq_mul_right (a:=a.2*b.2) p ?_
  have e1:x*M*(a.2*b.2)=y*(a.1*M*b.2+b.1*M*a.2):=by
    rw [show x*M*(a.2*b.2)=x*(a.2*b.2)*M by rw [Int.mul_assoc,Int.mul_comm M,←Int.mul_assoc],hc,Int.mul_assoc y,Int.add_mul]
    congr 2
    · rw [Int.mul_assoc,Int.mul_comm b.2 M,←Int.mul_assoc]
    · rw [Int.mul_assoc,Int.mul_comm a.2 M,←Int.mul_assoc]
  rw [e1,ha,hb]
  have e2:v*a.2*b.2+w*b.2*a.2=(v+w)*(a.2*b.2):=by
    rw [Int.add_mul,Int.mul_assoc v,Int.mul_assoc w,Int.mul_comm b.2 a.2]
  rw [e2,←Int.mul_assoc,Int.mul_comm y (v+w)]
theorem ie.lowM{t b:Int}(h:0 < b):ie (L2.lowM t b):=by
  obtain⟨d,_,_,_,_,h5⟩:=eI (t:=t) (b:=b) (by lia)
  exact⟨h5,mf (by lia)⟩
theorem ie.pl{a b:Fr}(pa:0 < a.2)(pb:0 < b.2):ie (pl a b):=ie.lowM (Int.mul_pos pa pb)
theorem ie.uniq{M v:Int}{a b:Fr}(hM:0 < M)(ha:ie a)(hb:ie b)(va:Vl M a v)(vb:Vl M b v):a=b:=by
  unfold Vl at*
  have cr:a.1*b.2=b.1*a.2:=by
    refine Int.eq_of_mul_eq_mul_right (a:=M) (by lia) ?_
    rw [show a.1*b.2*M=a.1*M*b.2 by rw [Int.mul_assoc,Int.mul_comm b.2,←Int.mul_assoc],va,show b.1*a.2*M=b.1*M*a.2 by rw [Int.mul_assoc,Int.mul_comm a.2,←Int.mul_assoc],vb,Int.mul_assoc,Int.mul_assoc,Int.mul_comm a.2]
  have pa:=ha.pos;have pb:=hb.pos
  have d1:a.2.natAbs ∣ b.2.natAbs:=by
    have dv:a.2.natAbs ∣ (a.1*b.2).natAbs:=Int.natAbs_dvd_natAbs.mpr ⟨b.1,by rw [cr,Int.mul_comm]⟩
    rw [Int.natAbs_mul] at dv
    have cp:Nat.Coprime a.2.natAbs a.1.natAbs:=by
      have:Nat.gcd a.1.natAbs a.2.natAbs=1:=ha.cop
      rw [Nat.Coprime,Nat.gcd_comm];exact this
    exact cp.dvd_of_dvd_mul_left dv
  have d2:b.2.natAbs ∣ a.2.natAbs:=by
    have dv:b.2.natAbs ∣ (b.1*a.2).natAbs:=Int.natAbs_dvd_natAbs.mpr ⟨a.1,by rw [←cr,Int.mul_comm]⟩
    rw [Int.natAbs_mul] at dv
    have cp:Nat.Coprime b.2.natAbs b.1.natAbs:=by
      have:Nat.gcd b.1.natAbs b.2.natAbs=1:=hb.cop
      rw [Nat.Coprime,Nat.gcd_comm];exact this
    exact cp.dvd_of_dvd_mul_left dv
  have e2:a.2=b.2:=by
    have:=Nat.dvd_antisymm d1 d2
    lia
  have e1:a.1=b.1:=by
    rw [e2] at cr
    exact Int.eq_of_mul_eq_mul_right (by lia) cr
  exact Prod.ext e1 e2
def au(a:Fr)(L:List Fr):Fr:=L.foldl pl a
theorem tj{M j:Int}:∀(L:List Fr) {a:Fr} {i:Int},qX M i a→ie a→0≤j→(∀f∈L,qX M j f)→qX M (i+j*(L.length:Int)) (au a L)∧ie (au a L)∧∀v,Vl M a v→Vl M (au a L) (v+(L.map fun f=>f.1*(M / f.2)).sum)
  | [],a,i,h,hl,_,_=>⟨by simpa [au] using h,hl,fun v hv=>by simpa [au] using hv⟩
  | f::r,a,i,h,hl,hj,hf=>by
    have k:=hf f (by simp)
    have hp:=h.plS k
    obtain⟨c1,c2,c3⟩:=tj r (a:=pl a f) hp (ie.pl h.pos k.pos) hj fun x hx=>hf x (by simp [hx])
    refine⟨?_,c2,fun v hv=>?_⟩
    · have e:i+j*((f::r).length:Int)=i+j+j*(r.length:Int):=by
        simp only [List.length_cons,Int.natCast_add,Int.natCast_one,Int.mul_add,Int.mul_one];lia
      rw [e];exact c1
    · have:=c3 _ (hv.pl (Vl.of k) h.pos k.pos)
      simp only [List.map_cons,List.sum_cons]
      rw [Int.add_assoc] at this
      exact this
theorem tO:ie ((0,1):Fr):=⟨by decide,by decide⟩
def Ff(t:fP)(b:Bool):Fr:=if b then(t.top,t.bot) else(t.bot - t.top,t.bot)
abbrev Pg:=List Int × Int
structure ET (k:Nat) (ps:List Pg):Prop where
  ne:ps≠[]
  len:ps.length≤2 ^ k
  pt:∀p∈ps,p.1.length≤2*k∧0≤p.2∧p.2≤1000*(k:Int)
end L2
namespace L2
open PySem PySem.Spec PyProof.Rows
end L2
namespace L2
open PySem PySem.Spec PyProof.Rows
section
variable{prog:Program}{w:World}{A:Around}{E:Value→Shared→Prop}{s:Shared}
end
section
variable{X:Cx}{a:Expr}{ta:TA}{p p2 pos pos2:Pos}
variable{K:PySem.W.Frag}{fs:FA}{p3:Pos}
end
end L2
namespace L2
open PySem PySem.Spec PyProof.Rows
def CK(lo hi:Int):PyData→Bool
  | .int i=>decide (lo≤i)&&decide (i≤hi)
  | _=>false
def uniq(many:Int):List Int→List PyData→Bool
  | _,[]=>true
  | pre,.int i::r=>CK 0 (many - 1) (.int i)&&(!pre.contains i&&uniq many (pre++[i]) r)
  | _,_::_=>false
theorem nu{g:FG}{ft:FT}{fe:FE}(P:Nat→En→Prop)(R:PyData→Prop):∀(items:List PyData) (k:Nat) (e:En) (acc:List PyData),(∀i x e,items[i]?=some x→P (k+i) e→∃e1 r d e2,g x e=some e1∧ft e1=some (true,e1)∧fe e1=some (r,e2)∧oJ r=some d∧R d∧P (k+i+1) e2)→P k e→acc.length+items.length≤1000000→
    ∃out e',dI g ft fe items e acc=some (acc++out,e')∧out.length=items.length∧(∀d∈out,R d)∧P (k+items.length) e'
  | [],k,e,acc,_,h,_=>⟨[],e,by simp [dI],rfl,(fun _ h=>by cases h),h⟩
  | x::r,k,e,acc,hs,h,hl=>by
    obtain⟨e1,v,d,e2,h1,h2,h3,h3',h4,h5⟩:=hs 0 x e rfl h
    simp only [List.length_cons] at hl
    obtain⟨out,e',h6,h7,h8,h9⟩:=nu P R r (k+1) e2 (acc++[d]) (fun i y e hy hp=>by
      have:=hs (i+1) y e (by simpa using hy) (by rw [show k+(i+1)=k+1+i by lia];exact hp)
      rw [show k+(i+1)+1=k+1+i+1 by lia] at this
      exact this) (by simpa using h5) (by simp;lia)
    refine⟨d::out,e',?_,by simp [h7],fun y hy=>?_,by rw [List.length_cons,show k+(r.length+1)=k+1+r.length by lia];exact h9⟩
    · unfold dI
      simp only [h1,h2,h3,h3',Option.bind_some,if_true]
      rw [if_pos (by lia),h6]
      simp
    · rcases List.mem_cons.mp hy with rfl | hy
      · exact h4
      · exact h8 y hy
theorem uH{cp:List (Nat × Str)}{nT:Nat}{fi:FI}{g:FG}{ft:FT}{fe:FE}{e e1 eo:En}{items out:List PyData}(h1:fi e=some (items,[],e1))(h3:dI g ft fe items (nD cp nT e1) []=some (out,eo))(hb:lN cp eo e1=true):cK cp nT fi g ft fe e=some (.l out,kG (kj cp) eo e1):=by
  unfold cK
  rw [h1]
  simp only [Option.bind_some,List.all_nil,if_true,h3]
  rw [if_pos hb]
end L2
namespace L2
open PySem PySem.Spec PyProof.Rows
mutual
def xR:Nat→PyData→Bool
  | _,.none=>true
  | _,.bool _=>true
  | _,.int i=>decide (i.natAbs < 2 ^ 128)
  | _,.str x=>PyData.strOk x&&decide (x.length≤10)
  | k,.list xs=>decide (0 < k)&&nJ (k - 1) xs
  | k,.tuple xs=>decide (0 < k)&&nJ (k - 1) xs
  | _,.dict _=>false
def nJ:Nat→List PyData→Bool
  | _,[]=>true
  | k,x::r=>xR k x&&nJ k r
end
mutual
def wt:PyData→Nat
  | .list xs=>oj xs+1
  | .tuple xs=>oj xs+1
  | .dict _=>1
  | .none=>1
  | .bool _=>1
  | .int _=>1
  | .str _=>1
def oj:List PyData→Nat
  | []=>0
  | x::r=>wt x+oj r
end
theorem qH:∀(ts:List Str) (k:Nat) (acc:Str),(textFrom k acc ts).length≤acc.length+piled ts
  | [],_,acc=>by show acc.length≤acc.length+0;lia
  | t::r,k,acc=>by
    have ih:=qH r (k+1) (acc++(if k > 0 then ", " else "":String)++t)
    have e:(acc++(if k > 0 then ", " else "":String)++t).length≤acc.length+2+t.length:=by
      rw [strLen_append,strLen_append]
      have:(Str.ofString (if k > 0 then ", " else "")).length≤2:=by split<;>decide
      lia
    show(textFrom (k+1) _ r).length≤_
    rw [eV];lia
theorem vV(ts:List Str):(listText ts).length≤piled ts+2:=by
  unfold listText
  rw [strLen_append]
  have h:=qH ts 0 "["
  have h1:(("[":Str)).length=1:=by decide
  have h2:(("]":Str)).length=1:=by decide
  lia
theorem mL:∀(ts:List Str) (k:Nat) (acc:Str),PyData.strOk acc=true→(∀t∈ts,PyData.strOk t=true)→PyData.strOk (textFrom k acc ts)=true
  | [],_,acc,h,_=>h
  | t::r,k,acc,h,hs=>mL r (k+1) _ (dC (dC h (cA _)) (hs t (by simp))) fun u hu=>hs u (by simp [hu])
theorem uC{ts:List Str}(h:∀t∈ts,PyData.strOk t=true):PyData.strOk (listText ts)=true:=dC (mL ts 0 _ (cA _) h) (cA _)
structure DM (d:PyData) (k:Nat):Prop where
  lay:d.canLay0=true
  sh:d.showable=true
  dp:d.depth≤k
  ln:d.shown.length+2≤104*wt d
  so:PyData.strOk d.shown=true
theorem lJ{d:PyData}{n:Nat}{k:Nat}(h:Sz n 0 d∨Sz n 2 d)(hn:n≤102)(hw:wt d=1)(hl:d.canLay0=true)(hd:d.depth=0):DM d k:=by
  rcases h with h | h<;>exact⟨hl,h.sh,by lia,by have:=h.ln;lia,h.so⟩
mutual
theorem rg{k:Nat}:∀{d:PyData},xR k d=true→DM d k
  | .none,_=>⟨rfl,rfl,by simp [PyData.depth],by show(Str.ofString "None").length+2≤104*1;decide,cA _⟩
  | .bool b,_=>lJ (.inr Sz.bool) (by decide) rfl rfl (by simp [PyData.depth])
  | .int i,h=>by
    simp only [xR,decide_eq_true_eq] at h
    exact lJ (.inr (Sz.int10 (n:=39) (m:=128) (show Bt 128 i from h) (by decide) (by decide) (Nat.lt_of_lt_of_le h (by decide)) (by decide))) (by decide) rfl rfl (by simp [PyData.depth])
  | .str x,h=>by
    simp only [xR,Bool.and_eq_true,decide_eq_true_eq] at h
    exact lJ (.inr (Sz.str (n:=10) h.1 h.2)) (by decide) rfl (by simpa [PyData.canLay0] using h.1) (by simp [PyData.depth])
  | .dict _,h=>by simp [xR] at h
  | .list xs,h=>by
    simp only [xR,Bool.and_eq_true,decide_eq_true_eq] at h
    obtain⟨a1,a2,a3,a4,a5⟩:=ox h.2
    have:=vV (PyData.shownAll xs)
    refine⟨by simpa [PyData.canLay0] using a1,a2,by simp only [PyData.depth];lia,by simp only [PyData.shown,wt];lia,by simp only [PyData.shown];exact uC a5⟩
  | .tuple xs,h=>by
    simp only [xR,Bool.and_eq_true,decide_eq_true_eq] at h
    obtain⟨a1,a2,a3,a4,a5⟩:=ox h.2
    have:=iY (PyData.shownAll xs)
    refine⟨by simpa [PyData.canLay0] using a1,a2,by simp only [PyData.depth];lia,by simp only [PyData.shown,wt];lia,by simp only [PyData.shown];exact kz a5⟩
theorem ox{k:Nat}:∀{ds:List PyData},nJ k ds=true→PyData.canLayAll0 ds=true∧PyData.showableAll ds=true∧PyData.depthAll ds≤k∧piled (PyData.shownAll ds)≤104*oj ds∧∀t∈PyData.shownAll ds,PyData.strOk t=true
  | [],_=>⟨rfl,rfl,by simp [PyData.depthAll],by simp [PyData.shownAll,piled],by simp [PyData.shownAll]⟩
  | d::r,h=>by
    simp only [nJ,Bool.and_eq_true] at h
    obtain⟨a1,a2,a3,a4,a5⟩:=rg h.1
    obtain⟨b1,b2,b3,b4,b5⟩:=ox h.2
    refine⟨by simp only [PyData.canLayAll0,a1,b1,Bool.and_self],by simp only [PyData.showableAll,a2,b2,Bool.and_self],by simp only [PyData.depthAll];lia,by simp only [PyData.shownAll,eV,oj];lia,fun t ht=>?_⟩
    simp only [PyData.shownAll,List.mem_cons] at ht
    rcases ht with rfl | ht
    · exact a5
    · exact b5 t ht
end
theorem vE{e:En}{s:Str}(h:PyData.strOk s=true):de true e (.d (.str s)) (.d (.str s))=some (.d (.bool false)):=by
  unfold de
  simp only [i3,Option.bind_some]
  have h0:SeqAt.shaped (.str s)=true:=by simp [SeqAt.shaped,PyData.canLay0,PyData.depth,h]
  rw [h0]
  simp [PyData.eqv]
end L2
namespace L2
open PySem PySem.Spec PyProof.Rows
section
variable{X:Cx}{K:PySem.W.Frag}
variable{a b:Expr}{fa fb:FE}{pos:Pos}
end
end L2
namespace L2
open PySem PySem.Spec PyProof.Rows
def tx(s:Str):List Nat:=s.cps.toList
end L2
namespace L2
open PySem PySem.Spec PyProof.Rows
end L2
namespace L2
open PySem PySem.Spec PyProof.Rows
end L2
namespace L2
open PySem PySem.Spec PyProof.Rows
section
variable{X:Cx}{K:PySem.W.Frag}{es:List Expr}{k0:Nat}{tp:Pos}{a b:Expr}{fs:FA}{p pos:Pos}
def i5(fs:FA):FI:=fun e=>(fs e).bind fun p=>match p.1 with
  | [.d (.tuple xs),.d (.tuple ys)]=>some (hE xs ys,[],p.2)
  | _=>none
theorem lp(hK:X.K=K)(hg:Gl X "zip")(hm:X.mg "zip"=none)(ha:PA X [a,b] (fA K fs))(hs:starEach [a,b] X.env=[(false,eval a X.env),(false,eval b X.env)])(hs2:starEach [b] X.env=[(false,eval b X.env)]):PI X (.Tuple es k0 tp) (.Call (.Name "zip" p) [a,b] [] pos) (fI K (i5 fs)):=
    (Bq (es:=es) (k0:=k0) (tp:=tp) hK hg hm ha hs hs2).mono fun σ H R hh=>by
  obtain⟨F,e,items,own,e',R0,hf,q⟩:=hh
  unfold i5 at hf
  obtain⟨⟨rs,e1⟩,h1,hf⟩:=Option.bind_eq_some_iff.mp hf
  match rs,h1,hf with
  | [.d (.tuple xs),.d (.tuple ys)],h1,hf=>
  cases hf
  refine⟨F,e,_,e1,R0,h1,fun F1 H1 vs X1 R1 A1=>?_⟩
  obtain⟨v,u,rfl,a1,a2⟩:=lu A1
  obtain⟨p1,vs,rfl,s1,d1⟩:=bW.mp (show DA K F1 (.tuple xs) v from a1)
  obtain⟨p2,us,rfl,s2,d2⟩:=bW.mp (show DA K F1 (.tuple ys) u from a2)
  exact⟨p1,p2,rfl,⟨vs,R1.sm.tup s1⟩,⟨us,R1.sm.tup s2⟩,q _ F1 H1 X1 R1 (fun z hz=>by cases hz) (vP (ms:=[]) (own2:=[]) (P:=cP K) (Q:=cP K) (.tup s1 d1) (.tup s2 d2) (fun _ _ h=>h) (fun _ _ h=>h) (fun i H vs us x y h1 h2 h3 h4=>⟨vs,us,x,y,h1,h2,h3,h4⟩) (fun i H vs us h1 h2 h3=>⟨vs,us,h1,h2,h3⟩) fun i H v H' h=>h)⟩
end
end L2
namespace L2
open PySem PySem.Spec PyProof.Rows
def Fh(x:Nd)(b:Bool):Int:=if b=true then x.yes else x.no
def z_(T:List Nd)(i:Nat)(b:Bool):Int:=match T[i]? with
  | some x=>Fh x b
  | none=> -1
def Ef(T:List Nd):Prop:=∀(i j:Nat) (a b:Bool),z_ T i a=z_ T j b→z_ T i a≠ -1→i=j∧a=b
def EM(w:Wt):Int × Int:=(w.par,w.side)
structure Fo (T:List Nd) (ws:List Wt):Prop where
  unq:Ef T
  rng:∀i a,z_ T i a= -1∨(0 < z_ T i a∧z_ T i a < (T.length:Int))
  free:∀w∈ws,w.par= -1∨(0≤w.par∧w.par < (T.length:Int)∧z_ T w.par.toNat (w.side==0)= -1)
  dst:(ws.map EM).Nodup
  side:∀w∈ws,w.side=0∨w.side=1
structure Fs (T:List Nd) (w0 ws order:List Int):Prop where
  nd:(order++ws).Nodup
  par:∀v∈order++ws,v=0∨∃u∈order,∃b,z_ T u.toNat b=v∧v≠ -1
  fst:(order=[]∧ws=w0)∨order[0]?=some 0
end L2
namespace L2
open PySem PySem.Spec PyProof.Rows
section
variable{prog:Program}{w:World}{A:Around}{E:Value→Shared→Prop}{s:Shared}
end
section
variable{X:Cx}{tg a:Expr}{ta:TA}{p pos:Pos}
end
section
variable{X:Cx}{K:PySem.W.Frag}{σ:L2.St}{tg a:Expr}{fs:FA}{p pos:Pos}
end
end L2
namespace L2
open PySem PySem.Spec PyProof.Rows
section
variable{X:Cx}{a k:Expr}{p2 pos:Pos}{fa fk:FE}{K:PySem.W.Frag}
section
variable{prog:Program}{w:World}{A:Around}{E:Value→Shared→Prop}{s:Shared}
end
end
end L2
namespace L2
open PySem PySem.Spec PyProof.Rows
section
variable{X:Cx}{a b:Expr}{ta:TA}{p p2 pos pos2:Pos}{K:PySem.W.Frag}{fs:FA}
end
section
variable{X:Cx}{o i e:Expr}{fo fi:FE}{tpos pos:Pos}{K:PySem.W.Frag}
end
end L2
namespace L2
open PySem PySem.Spec PyProof.Rows
section
variable{X:Cx}{K:PySem.W.Frag}
end
end L2
namespace L2
open PySem PySem.Spec PyProof.Rows
section
open PySem.MeetsSeq2 PySem.AutoSeq1 PySem.SeqAt
end
section
variable{X:Cx}{K:PySem.W.Frag}{o a:Expr}{to te:TE}{name:Str}{apos cpos:Pos}{T id:String}{r:V→List V→Hp→VK→Prop}{fo fa:FE}
end
end L2
namespace L2
open PySem PySem.Spec PyProof.Rows
section
variable{X:Cx}{K:PySem.W.Frag}{o a:Expr}{apos cpos:Pos}{fo fa:FE}
end
end L2
namespace L2
open PySem PySem.Spec PyProof.Rows
section
variable{K:PySem.W.Frag}{F H:Hp}{σ:L2.St}{e:En}{cp:List (Nat × Str)}{nT:Nat}
end
section
variable{X:Cx}{K:PySem.W.Frag}{a b:Expr}{es:List Expr}{fa fb:FE}{fs:FA}{pos p p2 p3:Pos}{lo hi:Option Expr}
end
end L2
namespace L2
open PySem PySem.Spec PyProof.Rows
section
variable{X:Cx}{K:PySem.W.Frag}
end
end L2
namespace L2
open PySem PySem.Spec PyProof.Rows
section
variable{X:Cx}{K:PySem.W.Frag}{a b:Expr}{fa fb:FE}{pos:Pos}
end
end L2
namespace L2
open PySem PySem.Spec PyProof.Rows
section
variable{X:Cx}{K:PySem.W.Frag}
end
end L2
namespace L2
open PySem PySem.Spec PyProof.Rows
mutual
theorem jc:∀(d:PyData),fy d=true→eU d=true
  | .none,_=>rfl
  | .bool _,_=>rfl
  | .int _,_=>rfl
  | .str _,_=>rfl
  | .tuple ds,h=>by simp only [eU];exact kP ds (by simpa [fy] using h)
  | .list ds,h=>by simp [fy] at h
  | .dict _,h=>by simp [fy] at h
theorem kP:∀(ds:List PyData),fx ds=true→dO ds=true
  | [],_=>rfl
  | d::r,h=>by
    simp only [fx,Bool.and_eq_true] at h
    simp only [dO,jc d h.1,kP r h.2,Bool.and_self]
end
structure Sw (b:Bool) (n dep:Nat) (d:PyData):Prop where
  dl:bif b then eU d=true else d.hasDict=false
  sh:d.showable=true
  dp:d.depth≤dep
  ln:d.shown.length+2≤n
  so:PyData.strOk d.shown=true
theorem Sw.mono{b:Bool}{n m dep e:Nat}{d:PyData}(h:Sw b n dep d)(h1:n≤m)(h2:dep≤e):Sw b m e d:=⟨h.dl,h.sh,Nat.le_trans h.dp h2,Nat.le_trans h.ln h1,h.so⟩
theorem Sz.sw{n dep:Nat}{d:PyData}(h:Sz n dep d)(b:Bool):Sw b (n+2) dep d:=⟨by cases b;exact fB d h.fl;exact jc d h.fl,h.sh,h.dp,by have:=h.ln;lia,h.so⟩
theorem DM.swF{k:Nat}{d:PyData}(h:DM d k)(f:fy d=true)(b:Bool):Sw b (104*wt d) k d:=⟨by cases b;exact fB d f;exact jc d f,h.sh,h.dp,h.ln,h.so⟩
theorem Sw.all{b:Bool}{n dep:Nat}:∀{ds:List PyData},(∀d∈ds,Sw b n dep d)→(bif b then dO ds=true else PyData.hasDictAll ds=false)∧PyData.showableAll ds=true∧PyData.depthAll ds≤dep∧piled (PyData.shownAll ds)≤ds.length*n∧∀t∈PyData.shownAll ds,PyData.strOk t=true
  | [],_=>⟨by cases b<;>rfl,rfl,by simp [PyData.depthAll],by simp [PyData.shownAll,piled],by simp [PyData.shownAll]⟩
  | d::r,h=>by
    obtain⟨a1,a2,a3,a4,a5⟩:=h d (by simp)
    obtain⟨b1,b2,b3,b4,b5⟩:=Sw.all (ds:=r) fun x hx=>h x (by simp [hx])
    refine⟨?_,?_,?_,?_,?_⟩
    · cases b
      · simp only [cond_false] at a1 b1 ⊢;simp only [PyData.hasDictAll,a1,b1,Bool.or_self]
      · simp only [cond_true] at a1 b1 ⊢;simp only [dO,a1,b1,Bool.and_self]
    · simp only [PyData.showableAll,a2,b2,Bool.and_self]
    · simp only [PyData.depthAll];lia
    · simp only [PyData.shownAll,eV,List.length_cons,Nat.succ_mul];lia
    · intro t ht
      simp only [PyData.shownAll,List.mem_cons] at ht
      rcases ht with rfl | ht
      · exact a5
      · exact b5 t ht
theorem Sw.tup{b:Bool}{n dep m:Nat}{ds:List PyData}(h:∀d∈ds,Sw b n dep d)(hl:ds.length≤m):Sw b (m*n+5) (dep+1) (.tuple ds):=by
  obtain⟨b1,b2,b3,b4,b5⟩:=Sw.all h
  refine⟨by cases b<;>simpa [eU,PyData.hasDict] using b1,b2,by simp only [PyData.depth];lia,?_,by simp only [PyData.shown];exact kz b5⟩
  have h2:=iY (PyData.shownAll ds)
  have:=Nat.mul_le_mul_right n hl
  simp only [PyData.shown]
  lia
theorem Sw.ok{b:Bool}{n dep:Nat}{d:PyData}(h:Sw b n dep d)(h1:n≤16777216)(h2:dep≤60):gY d=true:=by
  have sl:sizeLine=16777216:=sizeLine_eq
  have hd:(!d.hasDict || eU d)=true:=by
    have:=h.dl
    cases b
    · simp only [cond_false] at this;simp [this]
    · simp only [cond_true] at this;simp [this]
  have:=h.ln
  unfold gY
  rw [hd,h.sh,decide_eq_true (Nat.le_trans h.dp h2),decide_eq_true (show d.shown.length≤sizeLine by rw [sl];lia)]
  simp
theorem Sw.repr{b:Bool}{n dep:Nat}{d:PyData}(h:Sw b n dep d)(h1:n≤16777216)(h2:dep≤60)(e:En):g1 iw e [.d d]=some (.d (.str d.shown)):=sJ (h.ok h1 h2)
theorem Sw.int{b:Bool}{i:Int}(h:i.natAbs < 2 ^ 128):Sw b 200 0 (.int i):=((rg (k:=0) (d:=.int i) (by simp only [xR,decide_eq_true_eq];exact h)).swF rfl b).mono (by simp [wt]) (by decide)
theorem Sw.ints{b:Bool}{ns:List Int}{m:Nat}(h:∀r∈ns,r.natAbs < 2 ^ 128)(hl:ns.length≤m):Sw b (m*200+5) 1 (.tuple (ns.map .int)):=Sw.tup (n:=200) (dep:=0) (fun d hd=>by
  obtain⟨x,hx,rfl⟩:=List.mem_map.mp hd
  exact Sw.int (h x hx)) (by rw [List.length_map];exact hl)
end L2
namespace L2
open PySem PySem.Spec PyProof.Rows
def uq:List Fr→Int
  | []=>1
  | f::r=>f.2*uq r
theorem jR:∀{ws:List Fr},(∀f∈ws,0 < f.2)→0 < uq ws
  | [],_=>by decide
  | f::r,h=>Int.mul_pos (h f (by simp)) (jR fun g hg=>h g (by simp [hg]))
theorem iT:∀{ws:List Fr} {f:Fr},f∈ws→f.2 ∣ uq ws
  | [],f,h=>by cases h
  | g::r,f,h=>by
    rcases List.mem_cons.mp h with rfl | h
    · exact⟨uq r,rfl⟩
    · exact Int.dvd_trans (iT h) ⟨g.2,by rw [uq,Int.mul_comm]⟩
theorem iF{n:Nat}:∀{ws:List Fr},(∀f∈ws,Bt n f.2)→Bt (n*ws.length+1) (uq ws)
  | [],_=>by show Bt 1 1;unfold Bt;decide
  | f::r,h=>by
    have:=(h f (by simp)).mul (iF (ws:=r) fun g hg=>h g (by simp [hg]))
    rw [uq]
    exact this.mono (by rw [List.length_cons,Nat.mul_succ];lia)
structure S1 (n:Nat) (f:Fr):Prop where
  low:ie f
  lo:0≤f.1
  hi:f.1≤f.2
  bt:Bt n f.2
theorem S1.mono{n m:Nat}{f:Fr}(h:S1 n f)(hm:n≤m):S1 m f:=⟨h.low,h.lo,h.hi,h.bt.mono hm⟩
theorem S1.top{n:Nat}{f:Fr}(h:S1 n f):Bt n f.1:=h.bt.of_le (by have:=h.lo;have:=h.hi;lia)
theorem S1.rok{n:Nat}{f:Fr}{M:Int}(h:S1 n f)(hd:f.2 ∣ M):tS M f:=⟨h.low.pos,h.lo,h.hi,hd⟩
def cC(t:fP):Fr:=(t.top,t.bot)
theorem gK{W:aR}(ok:W.Ok){t:fP}(ht:t∈W.ties):S1 7 (cC t):=by
  have o:=ok.ties t ht
  exact⟨⟨by have:=o.b0;show 0 < t.bot;lia,o.cop⟩,o.c0,o.c1,by have:=o.b1;have:=o.b0;show Bt 7 t.bot;unfold Bt;lia⟩
def inc(e:Int)(t:fP):Bool:=t.one==e || t.other==e
def qY(W:aR)(ws:List Fr)(e:Int):List (Fr × fP):=(ws.zip W.ties).filter fun p=>inc e p.2
def DZ(W:aR)(ws:List Fr)(e:Int):Fr:=au (0,1) ((qY W ws e).map fun p=>tm p.1 (cC p.2))
def D4(W:aR)(ws:List Fr)(e:Int):Fr:=au (0,1) ((qY W ws e).map (·.1))
def CN(W:aR)(ws:List Fr)(e:Nat):List (Fr × Int):=[(DZ W ws e,1),(D4 W ws e,W.pat.getD e 0)]
def iZ(W:aR)(ws:List Fr):Nat→List (Fr × Int)
  | 0=>[(au (0,1) ws,W.asks)]
  | n+1=>iZ W ws n++CN W ws n
def cM(W:aR)(ws:List Fr):Int:=uq ws*uq (W.ties.map cC)
theorem vc{W:aR}(ok:W.Ok){ws:List Fr}{n:Nat}(h:∀f∈ws,S1 n f):0 < cM W ws∧Bt (n*ws.length+114) (cM W ws):=by
  have hc:∀f∈W.ties.map cC,S1 7 f:=fun f hf=>by
    obtain⟨t,ht,rfl⟩:=List.mem_map.mp hf
    exact gK ok ht
  refine⟨Int.mul_pos (jR fun f hf=>(h f hf).low.pos) (jR fun f hf=>(hc f hf).low.pos),?_⟩
  have wl:=ok.len
  exact((iF fun f hf=>(h f hf).bt).mul (iF fun f hf=>(hc f hf).bt)).mono (by rw [List.length_map];lia)
theorem et{W:aR}{ws:List Fr}{e:Int}{p:Fr × fP}(h:p∈qY W ws e):p.1∈ws∧p.2∈W.ties∧inc e p.2=true:=by
  have:=List.mem_filter.mp h
  have hz:=List.of_mem_zip (show(p.1,p.2)∈ws.zip W.ties from this.1)
  exact⟨hz.1,hz.2,this.2⟩
theorem s_{W:aR}{ws:List Fr}{e:Int}:(qY W ws e).length≤ws.length:=Nat.le_trans (List.length_filter_le _ _) (by rw [List.length_zip];lia)
theorem ls{W:aR}{ws:List Fr}{n:Nat}(h:∀f∈ws,S1 n f){f:Fr}(hf:f∈ws):tS (cM W ws) f:=(h f hf).rok (Int.dvd_trans (iT hf) ⟨_,rfl⟩)
theorem w_{W:aR}(ok:W.Ok){ws:List Fr}{n:Nat}(h:∀f∈ws,S1 n f){f:Fr}{t:fP}(hf:f∈ws)(ht:t∈W.ties):tS (cM W ws) (tm f (cC t)):=((h f hf).rok (iT hf)).tm ((gK ok ht).rok (iT (List.mem_map_of_mem ht)))
theorem xl{M:Int}{L:List Fr}(h:∀f∈L,tS M f):qX M (L.length:Int) (au (0,1) L)∧ie (au (0,1) L):=by
  obtain⟨h1,h2,_⟩:=tj (M:=M) (j:=1) L (a:=(0,1)) (i:=0) (Cc (Int.le_refl 0)) tO (by decide) fun f hf=>⟨(h f hf).pos,(h f hf).lo,by rw [Int.one_mul];exact(h f hf).hi,(h f hf).dv⟩
  rw [Int.zero_add,Int.one_mul] at h1
  exact⟨h1,h2⟩
structure Ft (b f g:Fr):Prop where
  pf:0 < f.2
  pg:0 < g.2
  eq:g.1*(f.2*b.1)=g.2*(f.1*b.2)
def zo(b f:Fr):Fr:=lowM (f.1*b.2) (f.2*b.1)
theorem BP{b f:Fr}{n m:Nat}(hf:S1 n f)(b1:0 < b.2)(b2:b.2≤b.1)(bt:Bt m b.1):S1 (n+m) (zo b f):=by
  have hb:0 < b.1:=by lia
  have p:=Int.mul_pos hf.low.pos hb
  have t:0≤f.1*b.2:=Int.mul_nonneg hf.lo (Int.le_of_lt b1)
  obtain⟨d,d0,h3,h4,h5,h6⟩:=gQ p t
  refine⟨ie.lowM p,h6,?_,?_⟩
  · have:=lj (i:=1) p t (by rw [Int.one_mul];exact Int.mul_le_mul hf.hi b2 (Int.le_of_lt b1) (Int.le_of_lt hf.low.pos))
    rwa [Int.one_mul] at this
  · have l:=Int.le_of_dvd p (jL p t)
    have:=(ie.lowM (t:=f.1*b.2) p).pos
    exact(hf.bt.mul bt).of_le (by show(lowM _ _).2.natAbs≤_;lia)
end L2
namespace L2
open PySem PySem.Spec PyProof.Rows
def vR(f:Fr):Rat:=(f.1:Rat) / (f.2:Rat)
theorem bG{b:Int}(h:0 < b):(b:Rat)≠0:=fun e=>by
  have:b=0:=by exact_mod_cast e
  lia
theorem pF{t b:Int}(hb:0 < b):vR (lowM t b)=(t:Rat) / (b:Rat):=by
  have c:=ji (t:=t) (b:=b) (Int.ne_of_gt hb)
  have p:=(ie.lowM (t:=t) hb).pos
  have c':((lowM t b).1:Rat)*(b:Rat)=((lowM t b).2:Rat)*(t:Rat):=by exact_mod_cast c
  have h1:=bG hb
  have h2:=bG p
  unfold vR
  generalize ((lowM t b).1:Rat)=x at*
  generalize ((lowM t b).2:Rat)=y at*
  generalize (b:Rat)=z at*
  generalize (t:Rat)=w at*
  grind
theorem fN{a b:Fr}(ha:0 < a.2)(hb:0 < b.2):vR (pl a b)=vR a+vR b:=by
  have h:=pF (t:=a.1*b.2+b.1*a.2) (Int.mul_pos ha hb)
  have h1:=bG ha
  have h2:=bG hb
  change vR (pl a b)=_ at h
  rw [h]
  unfold vR
  rw [Rat.intCast_add,Rat.intCast_mul,Rat.intCast_mul,Rat.intCast_mul]
  generalize (a.1:Rat)=x at*
  generalize (a.2:Rat)=y at*
  generalize (b.1:Rat)=z at*
  generalize (b.2:Rat)=w at*
  grind
theorem kU{a b:Fr}(ha:0 < a.2)(hb:0 < b.2):vR (tm a b)=vR a*vR b:=by
  have h:=pF (t:=a.1*b.1) (Int.mul_pos ha hb)
  have h1:=bG ha
  have h2:=bG hb
  change vR (tm a b)=_ at h
  rw [h]
  unfold vR
  rw [Rat.intCast_mul,Rat.intCast_mul]
  generalize (a.1:Rat)=x at*
  generalize (a.2:Rat)=y at*
  generalize (b.1:Rat)=z at*
  generalize (b.2:Rat)=w at*
  grind
theorem xE{a b:Fr}(ha:ie a)(hb:ie b)(h:vR a=vR b):a=b:=by
  have h1:=bG ha.pos
  have h2:=bG hb.pos
  have c:(b.1:Rat)*(a.2:Rat)=(a.1:Rat)*(b.2:Rat):=by
    unfold vR at h
    generalize (a.1:Rat)=x at*
    generalize (a.2:Rat)=y at*
    generalize (b.1:Rat)=z at*
    generalize (b.2:Rat)=w at*
    grind
  have c':b.1*a.2=a.1*b.2:=by exact_mod_cast c
  exact ie.uniq (M:=a.2) (v:=a.1) ha.pos ha hb rfl c'
theorem r9:vR (0,1)=0:=by unfold vR;simp;grind
theorem jp(n:Int):vR (n,1)=(n:Rat):=by unfold vR;simp;grind
theorem xk(a b:List Rat):(a++b).sum=a.sum+b.sum:=by
  induction a with
  | nil=>simp only [List.nil_append,List.sum_nil];grind
  | cons x r ih=>simp only [List.cons_append,List.sum_cons,ih];grind
def cR(t:fP)(b:Bool):Rat:=vR (Ff t b)
end L2
namespace L2
open PySem PySem.Spec PyProof.Rows
def hR(t:fP):Rat:=cR t true*(t.worth:Rat)
end L2
namespace L2
open PySem PySem.Spec PyProof.Rows
structure Fq (O:aR) (ss ws:List Std):Prop where
  len:ss.length=ws.length
  at':∀j,(ss.getD j ([],[])).1=(ws.getD j ([],[])).1∧(ss.getD j ([],[])).2.length≤2*(ss.getD j ([],[])).1.length∧∀k∈(ss.getD j ([],[])).1,qW O k
structure Fn (O:aR) (T:List Nd):Prop where
  tie:∀(i:Nat) (x:Nd),T[i]?=some x→qW O x.tie
  lk:∀(i:Nat) (x:Nd),T[i]?=some x→(-1≤x.yes∧x.yes < (T.length:Int))∧(-1≤x.no∧x.no < (T.length:Int))
end L2
namespace L2
open PySem PySem.Spec PyProof.Rows
mutual
def ud:PyData→Bool
  | .list _=>false
  | .tuple ds=>sR ds
  | _=>true
def sR:List PyData→Bool
  | []=>true
  | d::ds=>ud d&&sR ds
end
section
variable{K:PySem.W.Frag}
mutual
theorem sQ{F F':Hp}(h:∀a o,F a=some o→(∀vs,o≠.lst vs)→F' a=some o):∀{d:PyData} {v:V},ud d=true→DA K F d v→DA K F' d v
  | .none,_,_,q=>by simp only [DA] at q ⊢;exact q
  | .bool b,_,_,q=>by simp only [DA] at q ⊢;exact q
  | .int i,_,_,q=>by simp only [DA] at q ⊢;exact q
  | .str x,_,_,q=>by simp only [DA] at q ⊢;exact q
  | .tuple ds,_,n,q=>by
    simp only [DA] at q ⊢
    obtain⟨a,xs,e,s,r⟩:=q
    refine⟨a,xs,e,?_,qa h (by simpa only [ud] using n) r⟩
    rcases s with (s | ⟨o,s⟩) | s
    · exact .inl (.inl (h _ _ s fun _ z=>nomatch z))
    · exact .inl (.inr ⟨o,h _ _ s fun _ z=>nomatch z⟩)
    · exact .inr s
  | .list ds,_,n,q=>by simp [ud] at n
  | .dict _,_,_,q=>by
    simp only [DA] at q ⊢
    obtain⟨a,m,e,s,k⟩:=q
    exact⟨a,m,e,(h _ _ s fun _ z=>nomatch z),k⟩
theorem qa{F F':Hp}(h:∀a o,F a=some o→(∀vs,o≠.lst vs)→F' a=some o):∀{ds:List PyData} {xs:List V},sR ds=true→aF K F ds xs→aF K F' ds xs
  | [],_,_,q=>by simp only [aF] at q ⊢;exact q
  | d::ds,_,n,q=>by
    simp only [aF] at q ⊢
    simp only [sR,Bool.and_eq_true] at n
    obtain⟨x,r,e,a,b⟩:=q
    exact⟨x,r,e,sQ h n.1 a,qa h n.2 b⟩
end
def kO(e:En):List Rv→Option (List PyData)
  | []=>some []
  | .d x::rs=>(kO e rs).map (x::·)
  | .l _::_=>none
  | .s i::rs=>match e[i]? with
    | some (some (.l xs))=>(kO e rs).map (.list xs::·)
    | _=>none
def pU:List Rv→Option (List PyData)
  | []=>some []
  | .d x::rs=>(pU rs).map (x::·)
  | _=>none
def uI(n:Nat)(m:FM)(fa:FE)(ft fr:FA):FE:=fun e=>(fa e).bind fun p=>(ft p.2).bind fun t=>(fr t.2).bind fun s=>(pU (p.1::[])).bind fun x=>(kO s.2 t.1).bind fun ds=>(pU s.1).bind fun ys=>
  (m ((x++.tuple ds::ys).map .d)).bind fun z=>match z.1 with
    | .d y=>if ds.length≤1000∧ys.length+2=n∧ud y=true then some (.d y,s.2) else none
    | _=>none
variable{X:Cx}{σ:L2.St}{H0 H:Hp}{e:En}
theorem lR{F:Hp}:∀{rs:List Rv} {vs:List V} {ds:List PyData},bT K σ H0 F H e rs vs→pU rs=some ds→aF K F ds vs
  | [],_,_,h,q=>by
    cases q
    have h':_=[]:=h
    subst h'
    exact aF.nil
  | .d x::rs,_,ds,h,q=>by
    obtain⟨v,ws,rfl,h1,h2⟩:=h
    obtain⟨ds',q1,rfl⟩:=Option.map_eq_some_iff.mp q
    exact .cons h1 (lR h2 q1)
theorem lU{F F':Hp}(R:aZ K F H σ e)(s:aw F F')(ho:∀a,cI σ e H a→F' a=H a):∀{rs:List Rv} {vs:List V} {ds:List PyData},bT K σ H0 F H e rs vs→kO e rs=some ds→aF K F' ds vs
  | [],_,_,h,q=>by
    cases q
    have h':_=[]:=h
    subst h'
    exact aF.nil
  | .d x::rs,_,ds,h,q=>by
    obtain⟨v,ws,rfl,h1,h2⟩:=h
    obtain⟨ds',q1,rfl⟩:=Option.map_eq_some_iff.mp q
    exact .cons (DA.mono s h1) (lU R s ho h2 q1)
  | .s i::rs,_,ds,h,q=>by
    obtain⟨v,ws,rfl,h1,h2⟩:=h
    unfold kO at q
    match he:e[i]?,q with
    | some (some (.l xs)),q=>
      obtain⟨ds',q1,rfl⟩:=Option.map_eq_some_iff.mp q
      refine .cons ?_ (lU R s ho h2 q1)
      obtain⟨l,vs,g1,g2,g3,g4⟩:=R.own i xs he
      have g5:=h1.1
      rw [g1] at g5;cases g5
      have o:cI σ e H l:=⟨i,.inl ⟨xs,he,g1⟩⟩
      exact dQ.mpr ⟨l,vs,rfl,.inl (.inl (by rw [ho l o,g3])),aF.mono s g4⟩
theorem wY{F:Hp}{ds:List PyData}{vs:List V}(s:aw F H)(h:aF K F ds vs):aZ K F H (vs.map some) ((ds.map Sv.d).map some)∧AS ((ds.map Sv.d).map some)∧∀a,¬cI (vs.map some) ((ds.map Sv.d).map some) H a:=by
  have key:∀(i:Nat) (z:Sv),((ds.map Sv.d).map some)[i]?=some (some z)→∃x,z=.d x∧ds[i]?=some x:=by
    intro i z hz
    have:=dN.mp hz
    rw [List.getElem?_map] at this
    obtain⟨x,h1,h2⟩:=Option.map_eq_some_iff.mp this
    exact⟨x,h2.symm,h1⟩
  have nf:∀(i:Nat) (a:Addr),¬Fp (vs.map some) ((ds.map Sv.d).map some) H i a:=by
    rintro i a (⟨xs,h1,_⟩ | ⟨xss,l,bs,h1,_⟩)
    · obtain⟨x,z,_⟩:=key i _ h1;cases z
    · obtain⟨x,z,_⟩:=key i _ h1;cases z
  refine⟨⟨s,by simp [h.len],fun i x hx=>?_,fun i xs hx=>?_,fun i xs hx=>?_,fun i j a h1=>absurd h1 (nf i a)⟩,fun i xss hx=>?_,fun a ⟨i,h1⟩=>nf i a h1⟩
  · obtain⟨y,z,hy⟩:=key i _ hx
    cases z
    obtain⟨v,g1,g2⟩:=h.get hy
    exact⟨v,dN.mpr g1,g2⟩
  · obtain⟨y,z,hy⟩:=key i _ hx;cases z
  · obtain⟨y,z,hy⟩:=key i _ hx;cases z
  · obtain⟨y,z,hy⟩:=key i _ hx;cases z
open Classical in
theorem zD{n:Nat}{m:FM}{fa:FE}{ft fr:FA}{Q:VK}{E:XK}(h:fE K (uI n m fa ft fr) σ H Q):tu (bE K n m) [] E (mM (fE K fa) (mM (BX (fA K ft)) (fA K fr))) σ H Q:=by
  obtain⟨F,e,z,e',R,hf,q⟩:=h
  unfold uI at hf
  obtain⟨⟨r0,e1⟩,h1,hf⟩:=Option.bind_eq_some_iff.mp hf
  obtain⟨⟨rt,e2⟩,h2,hf⟩:=Option.bind_eq_some_iff.mp hf
  obtain⟨⟨rr,e3⟩,h3,hf⟩:=Option.bind_eq_some_iff.mp hf
  obtain⟨x,k1,hf⟩:=Option.bind_eq_some_iff.mp hf
  obtain⟨ds,k2,hf⟩:=Option.bind_eq_some_iff.mp hf
  obtain⟨ys,k3,hf⟩:=Option.bind_eq_some_iff.mp hf
  obtain⟨⟨rv,as'⟩,k4,hf⟩:=Option.bind_eq_some_iff.mp hf
  match rv,k4,hf with
  | .l _,_,hf=>cases hf
  | .s _,_,hf=>cases hf
  | .d y,k4,hf=>
  simp only at hf
  split at hf
  case isFalse=>cases hf
  case isTrue hc=>
  obtain⟨c1,c2,c3⟩:=hc
  cases hf
  simp only at h2 h3 k1 k2 k3
  refine⟨F,e,r0,e1,R,h1,fun F1 H1 v0 X1 R1 A1=>⟨F1,e1,rt,e2,R1,h2,fun F2 H2 ts X2 R2 A2=>?_⟩⟩
  have lts:ts.length=ds.length:=by
    have:∀{rs:List Rv} {vs:List V} {ds:List PyData},bT K σ H1 F2 H2 e2 rs vs→kO e' rs=some ds→vs.length=ds.length:=by
      intro rs
      induction rs with
      | nil=>intro vs ds h q;cases q;have h':_=[]:=h;subst h';rfl
      | cons r rs ih=>
        intro vs ds h q
        obtain⟨v,ws,rfl,g1,g2⟩:=h
        cases r with
        | d x=>obtain⟨ds',q1,rfl⟩:=Option.map_eq_some_iff.mp q;simp [ih g2 q1]
        | l x=>cases q
        | s i=>
          unfold kO at q
          match he:e'[i]?,q with
          | some (some (.l xs)),q=>obtain⟨ds',q1,rfl⟩:=Option.map_eq_some_iff.mp q;simp [ih g2 q1]
    exact this A2 k2
  refine⟨Nat.le_of_lt (ky (by lia)),fun p hp=>?_⟩
  obtain⟨R3,X3⟩:=R2.newT (vs:=ts) hp
  refine⟨_,e2,rr,e',R3,h3,fun F4 H4 ws X4 R4 A4=>?_⟩
  have A2':=(A2.ext X3).ext X4
  have A1':=((A1.ext X2).ext X3).ext X4
  have hp4:F4 p=some (.tup ts):=X4.sf _ _ aL
  let F5:Hp:=fun a=>if cI σ e' H4 a then H4 a else F4 a
  have s45:aw F4 F5:=fun a o ha=>by
    show(if cI σ e' H4 a then H4 a else F4 a)=some o
    split
    · exact R4.sm _ _ ha
    · exact ha
  have s5:aw F5 H4:=fun a o ha=>by
    change (if cI σ e' H4 a then H4 a else F4 a)=some o at ha
    split at ha
    · exact ha
    · exact R4.sm _ _ ha
  have D1:aF K F5 x [v0]:=aF.mono s45 (lR (rs:=[r0]) (vs:=[v0]) (H0:=H) (H:=H4) (σ:=σ) (e:=e') ⟨v0,[],rfl,A1',rfl⟩ k1)
  have D2:aF K F5 ds ts:=lU R4 s45 (fun a ha=>if_pos ha) A2' k2
  have D3:aF K F5 ys ws:=aF.mono s45 (lR A4 k3)
  have DT:aF K F5 (x++.tuple ds::ys) (v0::.ref p::ws):=aF.append D1 (.cons (bW.mpr ⟨p,ts,rfl,.inl (.inl (s45 _ _ hp4)),D2⟩) D3)
  obtain⟨RA,nN,nO⟩:=wY s5 DT
  have lx:x.length=1:=by simpa using D1.len
  refine⟨?_,F5,_,.d y,as',?_,nN,k4,trivial,fun F' H' v X5 R5 A5=>?_⟩
  · have:=DT.len
    simp only [List.length_append,List.length_cons,List.length_nil] at this ⊢
    lia
  · simpa using RA
  · simp only [List.append_nil] at X5 R5 A5
    let F6:Hp:=fun a=>if cI σ e' H4 a then none else F' a
    have f6:∀a,¬cI σ e' H4 a→F6 a=F' a:=fun a ha=>if_neg ha
    have sH:∀a o,H4 a=some o→H' a=some o:=fun a o ha=>X5.tmp a o ha (nO a)
    have s46:aw F4 F6:=fun a o ha=>by
      have no:¬cI σ e' H4 a:=fun⟨i,hi⟩=>by rw [(R4.fpAt hi).1] at ha;cases ha
      rw [f6 a no]
      exact X5.sf _ _ (s45 _ _ ha)
    have s6:aw F6 H':=fun a o ha=>by
      change (if cI σ e' H4 a then none else F' a)=some o at ha
      split at ha
      · cases ha
      · exact R5.sm _ _ ha
    obtain⟨R6,o6⟩:=R4.keep s46 s6 (fun a ha=>if_pos ha) fun a o _ ha=>sH a o ha
    have X6:dY σ F4 H4 e' F6 H' e':=⟨s46,X5.dom,fun a vs g1 g2 g3=>by
      rw [f6 a g3]
      exact X5.fr a vs (by show(if cI σ e' H4 a then H4 a else F4 a)=none;rw [if_neg g3];exact g1) g2 (nO a),X5.lst,fun a o g _=>sH a o g,fun _=>Iff.rfl,fun a g=>.inl ((o6 a).mp g)⟩
    have A6:DA K F6 y v:=sQ (fun a o ha hl=>by
      by_cases g:cI σ e' H4 a
      · obtain⟨i,hi⟩:=g
        obtain⟨_,vs,g2⟩:=R4.fpAt hi
        have:=sH _ _ g2
        rw [R5.sm _ _ ha] at this
        cases this
        exact absurd rfl (hl vs)
      · rw [f6 a g];exact ha) c3 A5
    exact q F6 H' v ((((X1.trans X2).trans X3).trans X4).trans X6) R6 A6
theorem Dd{x:Str}{st:Stmt}{f:Addr}{fd:FuncData}{ps:List Str}{k n:Nat}{m:FM}{a:Expr}{ts es:List Expr}{fa:FE}{ft fr:FA}{x1}{p pos pt:Pos}(h:aX X.K X.mg x st f fd ps)(G:aC X.prog X.w X.K X.mg X.base bD k f fd ps (bE K n m))(hr:cY k X.A)(ha:PE X a (fE K fa))(hs:PySem.W.isStarred a=false)(ht:PA X ts (fA K ft))(hq:PA X es (fA K fr))
    (hg:Gl X x)(hdb:(x==("__debug__":Str))=false)(he:starEach (a::.Tuple ts x1 pt::es) X.env=(false,eval a X.env)::starEach (.Tuple ts x1 pt::es) X.env)(hpl:(backTo pos (starEach (.Tuple ts x1 pt::es) X.env)).any (·.1)=false):
    PE X (.Call (.Name x p) (a::.Tuple ts x1 pt::es) [] pos) (fE K (uI n m fa ft fr)):=(C5 h G hr (Bh ha (Bh (wz ht) hq rfl) hs) hg hdb he hpl).mono fun _ _ _ h=>zD h
end
end L2
namespace L2
open PySem PySem.Spec PyProof.Rows
section
variable{X:Cx}{a b:Expr}{ta:TA}{p p2 pos pos2:Pos}
theorem oi:∀(ps:List Addr),aM (ps.map V.ref) (ps.map Value.ref)
  | []=>.nil
  | p::r=>.cons rfl (oi r)
def uU:Value→Addr
  | .ref p=>p
  | _=>0
def uJ(H:Hp)(l:Addr)(ps:List Addr)(xs ys:List V):Hp:=fun c=>if c=l then some (.lst (ps.map V.ref)) else match ps.findIdx? (· ==c) with
  | some j=>match xs[j]?,ys[j]? with
    | some x,some y=>some (.tup [x,y])
    | _,_=>H c
  | none=>H c
theorem xG{H:Hp}{l:Addr}{ps:List Addr}{xs ys:List V}:uJ H l ps xs ys l=some (.lst (ps.map V.ref)):=if_pos rfl
theorem lF{H:Hp}{l:Addr}{ps:List Addr}{xs ys:List V}{c:Addr}(h:c≠l)(hn:c∉ps):uJ H l ps xs ys c=H c:=by
  unfold uJ
  rw [if_neg h]
  have:ps.findIdx? (· ==c)=none:=by
    rw [List.findIdx?_eq_none_iff]
    intro x hx
    simp only [beq_eq_false_iff_ne]
    exact fun e=>hn (e ▸ hx)
  rw [this]
theorem xH{H:Hp}{l:Addr}{ps:List Addr}{xs ys:List V}{j:Nat}{q:Addr}{x y:V}(nd:ps.Nodup)(hl:l∉ps)(hj:ps[j]?=some q)(hx:xs[j]?=some x)(hy:ys[j]?=some y):uJ H l ps xs ys q=some (.tup [x,y]):=by
  unfold uJ
  have hq:q≠l:=fun e=>hl (e ▸ List.mem_of_getElem? hj)
  rw [if_neg hq]
  obtain⟨hj1,hj2⟩:=List.getElem?_eq_some_iff.mp hj
  have:ps.findIdx? (· ==q)=some j:=by
    rw [List.findIdx?_eq_some_iff_getElem]
    refine⟨hj1,by simp [hj2],fun k hk=>?_⟩
    simp only [beq_iff_eq]
    intro e
    exact(List.pairwise_iff_getElem.mp nd) k j (by lia) hj1 hk (by rw [e,hj2])
  rw [this]
  simp only [hx,hy]
def Fi(K:PySem.W.Frag)(ta:TA):TE:=fun σ H Q=>ta σ H fun vs H1=>∃(a b:Addr) (xs ys:List V),vs=[.ref a,.ref b]∧cP K H1 a xs∧cP K H1 b ys∧
  ∀(l:Addr) (ps:List Addr) (H':Hp),H1 l=none→(∀q∈ps,H1 q=none)→ps.Nodup→l∉ps→ps.length=min xs.length ys.length→(∀c,c≠l→c∉ps→H' c=H1 c)→H' l=some (.lst (ps.map V.ref))→
    (∀(j:Nat) (q:Addr) (x y:V),ps[j]?=some q→xs[j]?=some x→ys[j]?=some y→H' q=some (.tup [x,y]))→Q (.ref l) H'
theorem rM(hc:X.calm=true)(hgl:Gl X "list")(hml:X.mg "list"=none)(hg:Gl X "zip")(hm:X.mg "zip"=none)(ha:PA X [a,b] ta)(hs:starEach [a,b] X.env=[(false,eval a X.env),(false,eval b X.env)])(hs2:starEach [b] X.env=[(false,eval b X.env)])
    (he:starEach [.Call (.Name "zip" p) [a,b] [] pos] X.env=(false,eval (.Call (.Name "zip" p) [a,b] [] pos) X.env)::starEach [] X.env):PE X (.Call (.Name "list" p2) [.Call (.Name "zip" p) [a,b] [] pos] [] pos2) (Fi X.K ta):=by
  intro pins s σ H Q I h
  refine wpAny_Call_Name_kw (kd I hgl hml PyProof.Rows.boot_list ?_ (by decide) (by decide))
  refine PyProof.Rows.callWith_type1 ?_ he rfl
  rw [he]
  refine Calls.spliced_cons ?_
  refine wpAny_Call_Name_kw (kd I hg hm pR (PyProof.Rows.callWith_type1 (cT (ha pos pins s σ H _ I h) fun us s1 ⟨vs,H1,I1,r1,q1⟩=>?_) (by rw [hs,hs2]) (by rw [hs2];rfl)) (by decide) (by decide))
  obtain⟨a,b,xs,ys,e,qx,qy,q⟩:=q1
  subst e
  cases r1 with
  | cons r rr=>
    cases rr with
    | cons r' rr=>
      cases rr
      cases r
      cases r'
      obtain⟨x1,v1,p1,z1⟩:=I1.tuple qx
      obtain⟨x2,v2,p2,z2⟩:=I1.tuple qy
      refine qS p1 p2 fun g st hk=>?_
      refine wpAny_pure ?_
      have up:∀{c:Addr} {o:Obj},s1.heap.get? c=some o→c < s1.heap.objs.size:=fun e=>Heap.lt_size e
      have lz:s1.heap.objs.size+4 < g.objs.size:=Heap.lt_size st.1
      obtain⟨oa,ea,_⟩:=id p1
      obtain⟨ob,eb,_⟩:=id p2
      have la:@LT.lt Nat _ a s1.heap.objs.size:=up ea
      have lb:@LT.lt Nat _ b s1.heap.objs.size:=up eb
      have D:jv (s1.heap.objs.size+4) (s1.heap.objs.size+2) (s1.heap.objs.size+3) s1.heap.objs.size (s1.heap.objs.size+1) a b:=by
        refine⟨?_,?_,?_,?_,?_,?_,?_,?_,?_,?_,?_,?_,?_,?_⟩<;>(intro e;have e':@Eq Nat _ _:=e;lia)
      have e1:=v1.length
      have e2:=v2.length
      have hst:ZL g.objs.size (s1.heap.objs.size+4) (s1.heap.objs.size+2) (s1.heap.objs.size+3) s1.heap.objs.size (s1.heap.objs.size+1) a b x1.toArray x2.toArray 0 g:=⟨st.2.1,st.2.2.2.1,st.2.2.2.2,(cg (prog:=X.prog) (w:=X.w) s1.heap.objs.size a).row p1 fun o e=>hk _ _ e,(cg (prog:=X.prog) (w:=X.w) s1.heap.objs.size b).row p2 fun o e=>hk _ _ e,(let ⟨_,_,e⟩:=st.2.2.1;⟨_,e⟩),.inl ⟨st.1,st.2.2.1⟩⟩
      refine mS (s:={s1 with heap:=g}) (n:=min x1.length x2.length) (I1.ok.hd hc) D ⟨?_,?_,?_,?_⟩ ?_ ?_ ?_ ?_ st.1 hst (fun c hc'=>?_) fun g' acc c' hk' hS hacc=>?_
      · intro e;have e':@Eq Nat _ _:=e;lia
      · intro e;have e':@Eq Nat _ _:=e;lia
      · intro e;have e':@Eq Nat _ _:=e;lia
      · intro e;have e':@Eq Nat _ _:=e;lia
      · rw [sizeLine_eq] at*;lia
      · simp;lia
      · simp;lia
      · simp;lia
      · simp only [List.mem_cons,List.not_mem_nil,or_false] at hc'
        show c < g.objs.size
        rcases hc' with rfl | rfl | rfl | rfl | rfl | rfl | rfl
        · exact lz
        · exact Heap.lt_size st.2.1
        · obtain⟨_,_,e⟩:=st.2.2.1;exact Heap.lt_size e
        · obtain⟨_,e,_⟩:=st.2.2.2.1;exact Heap.lt_size e
        · obtain⟨_,e,_⟩:=st.2.2.2.2;exact Heap.lt_size e
        · exact Heap.lt_size (hk _ _ ea)
        · exact Heap.lt_size (hk _ _ eb)
      · have len:acc.toList.length=min xs.length ys.length:=by rw [Array.length_toList,hacc.sz,e1,e2]
        have isr:∀(j:Nat) (v:Value),acc.toList[j]?=some v→v=.ref (uU v):=fun j v e=>by
          obtain⟨q,x,y,rfl,_⟩:=hacc.at_ j v (by simpa using e)
          rfl
        have acp:acc.toList=(acc.toList.map uU).map Value.ref:=by
          rw [List.map_map]
          refine(List.map_id _).symm.trans (List.map_congr_left fun v hv=>?_)
          obtain⟨j,hj⟩:=List.getElem?_of_mem hv
          exact isr j v hj
        have pj:∀(j:Nat) (q:Addr),(acc.toList.map uU)[j]?=some q→acc[j]?=some (.ref q):=fun j q e=>by
          rw [List.getElem?_map] at e
          obtain⟨v,hv,rfl⟩:=Option.map_eq_some_iff.mp e
          rw [←isr j v hv]
          simpa using hv
        have lq:∀q∈acc.toList.map uU,@LT.lt Nat _ g.objs.size q:=fun q hq=>by
          obtain⟨j,hj⟩:=List.getElem?_of_mem hq
          exact hacc.lo j q (pj j q hj)
        have nd:(acc.toList.map uU).Nodup:=List.pairwise_iff_getElem.mpr fun i j hi hj hij e=>by
          have k1:=pj i _ (List.getElem?_eq_getElem hi)
          have k2:=pj j _ (List.getElem?_eq_getElem hj)
          have:@LT.lt Nat _ _ _:=hacc.inc i j _ _ hij k1 k2
          rw [e] at this
          exact Nat.lt_irrefl _ this
        have nl:g.objs.size∉acc.toList.map uU:=fun hq=>Nat.lt_irrefl _ (lq _ hq)
        have fl:H1 g.objs.size=none:=I1.hok.fresh (show @LE.le Nat _ s1.heap.objs.size g.objs.size by lia)
        have fq:∀q∈acc.toList.map uU,H1 q=none:=fun q hq=>I1.hok.fresh (show @LE.le Nat _ s1.heap.objs.size q by have:=lq q hq;lia)
        have kp:∀c u,s1.heap.get? c=some u→g'.get? c=some u:=fun c u e=>by
          have lc:@LT.lt Nat _ c s1.heap.objs.size:=Heap.lt_size e
          refine hk' c u ?_ ?_ ?_ ?_ ?_ (hk c u e)<;>(intro z;have z':@Eq Nat _ _:=z;first | lia | (have z2:@Eq Nat c g.objs.size:=z;lia))
        have I3:aB X pins σ (uJ H1 g.objs.size (acc.toList.map uU) xs ys) {s1 with heap:=g',toks:=s1.toks}:=by
          refine I1.many kp (fun c o e=>?_) (fun c hlt=>?_) fun c o hn e=>?_
          · rw [lF (fun z=>by rw [z,fl] at e;cases e) (fun hq=>by rw [fq c hq] at e;cases e)];exact e
          · refine lF (fun z=>?_) fun hq=>?_
            · have z':@Eq Nat c g.objs.size:=z
              have h':@LT.lt Nat _ c s1.heap.objs.size:=hlt
              lia
            · have h':@LT.lt Nat _ c s1.heap.objs.size:=hlt
              have:=lq c hq
              lia
          · by_cases z:c=g.objs.size
            · subst z
              rw [xG] at e
              cases e
              refine⟨?_,acc.toList,c',?_,by simpa using hS⟩
              · rw [List.length_map,List.length_map,len];lia
              · have:=oi (acc.toList.map uU)
                rw [←acp] at this
                exact this
            · by_cases hq:c∈acc.toList.map uU
              · obtain⟨j,hj⟩:=List.getElem?_of_mem hq
                obtain⟨q',ux,uy,k1,k2,k3,k4,_⟩:=hacc.at_ j _ (pj j c hj)
                cases k1
                have hjl:j < min xs.length ys.length:=by rw [←len];have:=(List.getElem?_eq_some_iff.mp hj).1;simpa using this
                have hx:xs[j]?=some (xs[j]'(by lia)):=List.getElem?_eq_getElem (by lia)
                have hy:ys[j]?=some (ys[j]'(by lia)):=List.getElem?_eq_getElem (by lia)
                obtain⟨ux',hux,rux⟩:=v1.get hx
                obtain⟨uy',huy,ruy⟩:=v2.get hy
                have ex:ux'=ux:=by have:x1[j]?=some ux:=(by simpa using k2);rw [hux] at this;exact Option.some.inj this
                have ey:uy'=uy:=by have:x2[j]?=some uy:=(by simpa using k3);rw [huy] at this;exact Option.some.inj this
                subst ex ey
                rw [xH nd nl hj hx hy] at e
                cases e
                exact⟨(by show 2≤sizeLine;decide),[ux',uy'],.cons rux (.cons ruy .nil),⟨_,k4,rfl,_,rfl,rfl⟩⟩
              · rw [lF z hq,hn] at e;cases e
        exact⟨.ref g.objs.size,_,I3,rfl,q g.objs.size (acc.toList.map uU) _ fl fq nd nl (by rw [List.length_map,len]) (fun c h1 h2=>lF h1 h2) xG fun j q x y h1 h2 h3=>xH nd nl h1 h2 h3⟩
end
end L2
namespace L2
open PySem PySem.Spec PyProof.Rows
section
variable{X:Cx}{K:PySem.W.Frag}{fs:FA}{a b:Expr}{p p2 pos pos2:Pos}
def tM(fs:FA):FE:=fun e=>(fs e).bind fun p=>match p.1 with
  | [.d (.tuple xs),.d (.tuple ys)]=>some (.l (hE xs ys),p.2)
  | _=>none
theorem sE{F:Hp}:∀{xs ys:List PyData} {us vs:List V} {ps:List Addr},aF K F xs us→aF K F ys vs→ps.length=min us.length vs.length→(∀(j:Nat) (q:Addr) (x y:V),ps[j]?=some q→us[j]?=some x→vs[j]?=some y→F q=some (.tup [x,y]))→aF K F (hE xs ys) (ps.map V.ref)
  | [],ys,us,vs,ps,h1,h2,hl,_=>by
    have:=h1.len
    have e:ps=[]:=List.length_eq_zero_iff.mp (by simp at this;rw [hl,←this];simp)
    subst e
    cases ys<;>exact aF.nil
  | x::xs,[],us,vs,ps,h1,h2,hl,_=>by
    have:=h2.len
    have e:ps=[]:=List.length_eq_zero_iff.mp (by simp at this;rw [hl,←this];simp)
    subst e
    exact aF.nil
  | x::xs,y::ys,us,vs,ps,h1,h2,hl,hp=>by
    simp only [aF] at h1 h2
    obtain⟨u,us',rfl,a1,b1⟩:=h1
    obtain⟨v,vs',rfl,a2,b2⟩:=h2
    cases ps with
    | nil=>simp at hl
    | cons q ps=>
      have t:=sE (ps:=ps) b1 b2 (by simp at hl;lia) (fun j q x y e1 e2 e3=>hp (j+1) q x y (by simpa using e1) (by simpa using e2) (by simpa using e3))
      exact .cons (bW.mpr ⟨q,[u,v],rfl,.inl (.inl (hp 0 q u v rfl rfl rfl)),.cons a1 (.cons a2 .nil)⟩) t
open Classical in
theorem ur(hK:X.K=K)(hc:X.calm=true)(hgl:Gl X "list")(hml:X.mg "list"=none)(hg:Gl X "zip")(hm:X.mg "zip"=none)(ha:PA X [a,b] (fA K fs))(hs:starEach [a,b] X.env=[(false,eval a X.env),(false,eval b X.env)])(hs2:starEach [b] X.env=[(false,eval b X.env)])
    (he:starEach [.Call (.Name "zip" p) [a,b] [] pos] X.env=[(false,eval (.Call (.Name "zip" p) [a,b] [] pos) X.env)]):PE X (.Call (.Name "list" p2) [.Call (.Name "zip" p) [a,b] [] pos] [] pos2) (fE K (tM fs)):=(rM hc hgl hml hg hm ha hs hs2 he).mono fun σ H Q h=>by
  subst hK
  obtain⟨F,e,z,e',R,hf,q⟩:=h
  unfold tM at hf
  obtain⟨⟨rs,e1⟩,h1,hf⟩:=Option.bind_eq_some_iff.mp hf
  match rs,h1,hf with
  | [.d (.tuple xs),.d (.tuple ys)],h1,hf=>
  cases hf
  refine⟨F,e,_,e1,R,h1,fun F1 H1 vs X1 R1 A1=>?_⟩
  obtain⟨v,u,rfl,B1,B2⟩:=lu A1
  obtain⟨a,us,rfl,s1,d1⟩:=bW.mp B1
  obtain⟨b,ws,rfl,s2,d2⟩:=bW.mp B2
  refine⟨a,b,us,ws,rfl,R1.sm.tup s1,R1.sm.tup s2,fun l ps H' fl fq nd nl len oth hl tp=>?_⟩
  let F2:Hp:=fun c=>if c∈ps then H' c else F1 c
  have f2:∀c,c∉ps→F2 c=F1 c:=fun c hc=>if_neg hc
  have np:∀c o,H1 c=some o→c∉ps:=fun c o e hq=>by rw [fq c hq] at e;cases e
  have up:∀c o,H1 c=some o→H' c=some o:=fun c o e=>by
    rw [oth c (fun z=>by rw [z,fl] at e;cases e) (np c o e)];exact e
  have sF:aw F1 F2:=fun c o e=>by rw [f2 c (np c o (R1.sm c o e))];exact e
  have sm:aw F2 H':=fun c o e=>by
    by_cases hq:c∈ps
    · have:F2 c=H' c:=if_pos hq
      rw [←this];exact e
    · rw [f2 c hq] at e;exact up c o (R1.sm c o e)
  have own:∀c,cI σ e1 H1 c→F2 c=none:=fun c ⟨i,hi⟩=>by
    obtain⟨n1,vs,n2⟩:=R1.fpAt hi
    rw [f2 c (np c _ n2)];exact n1
  obtain⟨R2,o2⟩:=R1.keep sF sm own fun c o _ e=>up c o e
  have dm:∀c,H' c=none→H1 c=none:=fun c e=>by
    cases hc:H1 c with
    | none=>rfl
    | some o=>
      rw [up c o hc] at e
      cases e
  have X2:dY σ F1 H1 e1 F2 H' e1:=⟨sF,dm,fun c vs n1 n2 _=>by rw [f2 c (np c _ n2)];exact n1,fun c vs e=>⟨vs,up c _ e⟩,fun c o e _=>up c o e,fun _=>Iff.rfl,fun c h=>.inl ((o2 c).mp h)⟩
  refine q F2 H' _ (X1.trans X2) R2 ⟨l,ps.map V.ref,rfl,X1.dom l fl,by rw [f2 l nl];exact R1.freeF fl,hl,sE (aF.mono sF d1) (aF.mono sF d2) len (fun j q x y g1 g2 g3=>?_),fun z=>?_⟩
  · have:F2 q=H' q:=if_pos (List.mem_of_getElem? g1)
    rw [this];exact tp j q x y g1 g2 g3
  · exact R1.ownH l ((o2 l).mp z) fl
end
end L2
namespace V48
open PySem PySem.Spec PyProof.Rows L2
variable{P:Program}{w:World}{K:W.Frag}{mg:Str→Option Value}{base:Heap}{f:Addr}{fd:FuncData}
local macro_rules|`(tactic|trivial)=>`(tactic|first|exact .inl rfl|exact .inr rfl|assumption)
local macro_rules|`(¬$n:num)=>`(@qw _ _ $n _ _ (by rfl) (by rfl) (by decide))
local macro_rules|`($a∘$b)=>`(@Ex _ _ _ _ _ _ $a $b (by rfl))
def top(i:Nat):Stmt:=PySem.Challenge.pw_askedpairs_k48_worths_of_papers.main.body.getD i (.Pass ⟨0,0,0,0⟩)
theorem vw{α:Type u}{β:Type v}{f:α→β}:List.map f []=[]:=rfl
theorem vt{α:Type u}{β:Type v}{f:α→β}{a:α}{l:List α}:List.map f (a::l)=f a::List.map f l:=rfl
theorem vn{α:Type u}{l:List α}:[]++l=l:=rfl
theorem vm{α:Type u}{a:α}{l m:List α}:(a::l)++m=a::(l++m):=rfl
theorem vp{α:Type u}{a:α}{l:List α}:(a::l)[0]?=some a:=rfl
theorem vq{α:Type u}{a:α}{l:List α}{i:Nat}:(a::l)[i+1]?=l[i]?:=rfl
theorem vo{α:Type u}{β:Type v}{a:α}{f:α→Option β}:Option.bind (some a) f=f a:=rfl
theorem vx{α:Type u}{β:Type v}{a:α}{f:α→β}:Option.map f (some a)=some (f a):=rfl
abbrev bO:Stmt:=top 2
abbrev gy:Stmt:=top 3
abbrev mE:Stmt:=top 4
abbrev gX:Stmt:=top 5
abbrev iV:Stmt:=top 6
abbrev gv:Stmt:=top 8
abbrev bQ:Stmt:=top 10
abbrev bP:Stmt:=top 11
abbrev jT:Stmt:=top 13
abbrev jS:Stmt:=top 14
abbrev iH:Stmt:=top 15
abbrev qj:Stmt:=top 16
abbrev i7:Stmt:=top 17
abbrev gW:Stmt:=top 18
abbrev fJ:Stmt:=top 19
abbrev mz:Stmt:=top 20
abbrev mB:Stmt:=top 21
abbrev gn:Stmt:=top 22
abbrev jV:Stmt:=top 23
abbrev mC:Stmt:=top 24
abbrev qk:Stmt:=top 25
abbrev nP:Stmt:=top 26
abbrev fH:Stmt:=top 27
abbrev gu:Stmt:=top 28
abbrev iI:Stmt:=top 29
abbrev gq:Stmt:=top 30
abbrev jU:Stmt:=top 31
abbrev eY:Stmt:=top 32
abbrev dq:Stmt:=top 33
abbrev dr:Stmt:=top 34
abbrev mD:Stmt:=top 35
structure i0 (mg:Str→Option Value):Prop where
  b_abs:mg "abs"=none
  b_len:mg "len"=none
  b_min:mg "min"=none
  b_max:mg "max"=none
  b_range:mg "range"=none
  b_repr:mg "repr"=none
  b_tuple:mg "tuple"=none
  b_int:mg "int"=none
  b_zip:mg "zip"=none
  b_list:mg "list"=none
noncomputable def bA:FT:=(bv (aq (de true) (ae 1) (vC (.int 0))))
noncomputable def bV:FS:=(rX 0 1 (aa (ae 1) (aa (aq aW (ae 0) (ae 1)) ah)))
noncomputable def fY:FS:=(aG (jn (2 ^ 4200) bA bV)
    (bF (a8 (g1 rp) (aa (ae 0) ah))))
noncomputable def bK:FM:=ig 2 0 ([0,1]++[]) fY
theorem fK:aE ["one","other"] ["one","other"] (aj bO):=⟨rfl,rfl,rfl,by decide+kernel,rfl,by decide+kernel,by decide+kernel⟩
theorem jP(h:aX K mg "common_divisor" bO f fd ["one","other"])(T:i0 mg):aC P w K mg base bD 1 f fd ["one","other"] (bE K 2 bK):=by
  have nd:=fK.nd
  exact h.fn fK rfl rfl (fun cdv A outer s H E hr=>(@ag _ _ _ _ _ _ _ _ (@mv _ _ _ _ _ _ _ _ _ PassesOwn.never (@bL _ _ _ _ _ _ _ _ _ (@Av _ _ _ rfl hr) (¬1) ab (bh _))
      (@am _ _ _ _ _ (@wO _ _ _ _ _ 0 1 _ _ _ _ _ _ _ _ _ rfl nd rfl rfl (by decide) rfl rfl ((¬1)∘((@aS _ _ _ _ _ _ _ (¬0) (¬1))∘ac)) (by rfl) (by rfl))))
      (@am _ _ _ _ _ (@aK _ _ _ _ _ (@bU _ _ _ _ _ _ _ _ _ (@b_abs _ _) (by rfl) T.b_abs ((¬0)∘ac) (by decide) (by decide) (by rfl) (by rfl))))))
noncomputable def pQ:FS:=(aG (aT 2 (bx 2 bK (aa (ae 0) (aa (ae 1) ah))))
    (aG (k7 (bv (aq ye (ae 1) (vC (.int 0))))
    (aT 2 (Aj yf (ae 2)))
    ic)
    (bF (bS (aa (aq dJ (ae 0) (ae 2)) (aa (aq dJ (ae 1) (ae 2)) ah))))))
noncomputable def eT:FM:=ig 2 1 ([2]++(([2]++[])++[])) pQ
theorem nX:aE ["top","bottom","divisor"] ["top","bottom"] (aj gy):=⟨rfl,rfl,rfl,by decide+kernel,rfl,by decide+kernel,by decide+kernel⟩
theorem uk(h:aX K mg "lowest" gy f fd ["top","bottom"])(T:i0 mg){f_common_divisor:Addr}{e_common_divisor:FuncData}(h_common_divisor:aX K mg "common_divisor" bO f_common_divisor e_common_divisor ["one","other"])(G_common_divisor:aC P w K mg base bD 1 f_common_divisor e_common_divisor ["one","other"] (bE K 2 bK)):aC P w K mg base bD 2 f fd ["top","bottom"] (bE K 2 eT):=by
  have nd:=nX.nd
  exact h.fn nX rfl rfl (fun cdv A outer s H E hr=>(@ag _ _ _ _ _ _ _ _ (@ax _ _ _ _ _ 2 _ _ nd rfl (Or.inl rfl) (@aD _ _ _ _ _ _ _ _ _ _ _ _ _ _ _ h_common_divisor G_common_divisor (hr.mono (by decide)) ((¬0)∘((¬1)∘ac)) (by rfl) (by decide) (by rfl) (by rfl)) (by rfl) (by trivial))
      (@ag _ _ _ _ _ _ _ _ (@eW _ _ _ _ _ _ _ _ _ _ _ (@bL _ _ _ _ _ _ _ _ _ (@xZ _ _) (¬1) ab (bh _))
      (@am _ _ _ _ _ (@ax _ _ _ _ _ 2 _ _ nd rfl (Or.inl rfl) (@Dc _ _ _ _ _ (¬2)) (by rfl) (by trivial)))
      (@cH _ _))
      (@am _ _ _ _ _ (@aK _ _ _ _ _ (@aP _ _ _ _ _ _ ((@fQ _ _ _ _ _ _ _ (¬0) (¬2))∘((@fQ _ _ _ _ _ _ _ (¬1) (¬2))∘ac))))))))
noncomputable def u7:FS:=(bF (bx 2 eT (aa (aq dc (aq bf (aq aV (ae 0) (vC (.int 0))) (aq aV (ae 1) (vC (.int 1)))) (aq bf (aq aV (ae 1) (vC (.int 0))) (aq aV (ae 0) (vC (.int 1))))) (aa (aq bf (aq aV (ae 0) (vC (.int 1))) (aq aV (ae 1) (vC (.int 1)))) ah))))
noncomputable def ml:FM:=ig 2 0 [] u7
theorem sZ:aE ["one","other"] ["one","other"] (aj mE):=⟨rfl,rfl,rfl,by decide+kernel,rfl,by decide+kernel,by decide+kernel⟩
theorem yv(h:aX K mg "plus" mE f fd ["one","other"])(T:i0 mg){f_lowest:Addr}{e_lowest:FuncData}(h_lowest:aX K mg "lowest" gy f_lowest e_lowest ["top","bottom"])(G_lowest:aC P w K mg base bD 2 f_lowest e_lowest ["top","bottom"] (bE K 2 eT)):aC P w K mg base bD 3 f fd ["one","other"] (bE K 2 ml):=by
  have nd:=sZ.nd
  exact h.fn sZ rfl rfl (fun cdv A outer s H E hr=>(@am _ _ _ _ _ (@aK _ _ _ _ _ (@aD _ _ _ _ _ _ _ _ _ _ _ _ _ _ _ h_lowest G_lowest (hr.mono (by decide)) ((@cO _ _ _ _ _ _ _ rfl (@b_ _ _ _ _ _ _ _ rfl (@aA _ _ _ _ _ _ _ rfl (¬0) ab (fun _ _=>rfl)) (@aA _ _ _ _ _ _ _ rfl (¬1) ab (fun _ _=>rfl))) (@b_ _ _ _ _ _ _ _ rfl (@aA _ _ _ _ _ _ _ rfl (¬1) ab (fun _ _=>rfl)) (@aA _ _ _ _ _ _ _ rfl (¬0) ab (fun _ _=>rfl))))∘((@b_ _ _ _ _ _ _ _ rfl (@aA _ _ _ _ _ _ _ rfl (¬0) ab (fun _ _=>rfl)) (@aA _ _ _ _ _ _ _ rfl (¬1) ab (fun _ _=>rfl)))∘ac)) (by rfl) (by decide) (by rfl) (by rfl)))))
noncomputable def sx:FS:=(bF (bx 2 eT (aa (aq bf (aq aV (ae 0) (vC (.int 0))) (aq aV (ae 1) (vC (.int 0)))) (aa (aq bf (aq aV (ae 0) (vC (.int 1))) (aq aV (ae 1) (vC (.int 1)))) ah))))
noncomputable def cG:FM:=ig 2 0 [] sx
theorem qu:aE ["one","other"] ["one","other"] (aj gX):=⟨rfl,rfl,rfl,by decide+kernel,rfl,by decide+kernel,by decide+kernel⟩
theorem wo(h:aX K mg "times" gX f fd ["one","other"])(T:i0 mg){f_lowest:Addr}{e_lowest:FuncData}(h_lowest:aX K mg "lowest" gy f_lowest e_lowest ["top","bottom"])(G_lowest:aC P w K mg base bD 2 f_lowest e_lowest ["top","bottom"] (bE K 2 eT)):aC P w K mg base bD 3 f fd ["one","other"] (bE K 2 cG):=by
  have nd:=qu.nd
  exact h.fn qu rfl rfl (fun cdv A outer s H E hr=>(@am _ _ _ _ _ (@aK _ _ _ _ _ (@aD _ _ _ _ _ _ _ _ _ _ _ _ _ _ _ h_lowest G_lowest (hr.mono (by decide)) ((@b_ _ _ _ _ _ _ _ rfl (@aA _ _ _ _ _ _ _ rfl (¬0) ab (fun _ _=>rfl)) (@aA _ _ _ _ _ _ _ rfl (¬1) ab (fun _ _=>rfl)))∘((@b_ _ _ _ _ _ _ _ rfl (@aA _ _ _ _ _ _ _ rfl (¬0) ab (fun _ _=>rfl)) (@aA _ _ _ _ _ _ _ rfl (¬1) ab (fun _ _=>rfl)))∘ac)) (by rfl) (by decide) (by rfl) (by rfl)))))
noncomputable def eH:FI:=(ia (ae 0))
noncomputable def eC:FS:=(aT 1 (bx 2 ml (aa (ae 1) (aa (ae 2) ah))))
noncomputable def oD:FS:=(aG (aT 1 (vC (.tuple [.int (0),.int (1)])))
    (aG (cN ([2]++[1]) eH (af 2) eC)
    (bF (ae 1))))
noncomputable def cQ:FM:=ig 1 2 ([1]++(([2]++[1])++[])) oD
theorem qz:aE ["row","amount","part"] ["row"] (aj iV):=⟨rfl,rfl,rfl,by decide+kernel,rfl,by decide+kernel,by decide+kernel⟩
theorem wq(h:aX K mg "total" iV f fd ["row"])(T:i0 mg){f_plus:Addr}{e_plus:FuncData}(h_plus:aX K mg "plus" mE f_plus e_plus ["one","other"])(G_plus:aC P w K mg base bD 3 f_plus e_plus ["one","other"] (bE K 2 ml)){g_ZERO:Addr}(m_ZERO:mg "ZERO"=some (.ref g_ZERO))(c_ZERO:∀F,DA K F (.tuple [.int (0),.int (1)]) (.ref g_ZERO)):aC P w K mg base bD 4 f fd ["row"] (bE K 1 cQ):=by
  have nd:=qz.nd
  exact h.fn qz rfl rfl (fun cdv A outer s H E hr=>(@ag _ _ _ _ _ _ _ _ (@ax _ _ _ _ _ 1 _ _ nd rfl (Or.inl rfl) (@y_ _ _ _ (V.ref g_ZERO) _ _ (PyData.tuple [.int (0),.int (1)]) rfl m_ZERO rfl c_ZERO (by decide)) (by rfl) (by trivial))
      (@ag _ _ _ _ _ _ _ _ (@cL _ _ _ _ _ _ _ _ _ _ _ PassesOwn.never rfl (@fR _ _ _ _ _ rfl (¬0)) (@ap _ _ _ 2 _ nd rfl (Or.inl rfl) (by trivial))
      (@am _ _ _ _ _ (@ax _ _ _ _ _ 1 _ _ nd rfl (Or.inl rfl) (@aD _ _ _ _ _ _ _ _ _ _ _ _ _ _ _ h_plus G_plus (hr.mono (by decide)) ((¬1)∘((¬2)∘ac)) (by rfl) (by decide) (by rfl) (by rfl)) (by rfl) (by trivial))) (by intro _;rfl))
      (@am _ _ _ _ _ (@aK _ _ _ _ _ (¬1))))))
noncomputable def m9:FS:=(bF (bx 2 cG (aa (aq aV (ae 0) (vC (.int 2))) (aa (bS (aa (aq aV (ae 0) (vC (.int 3))) (aa (vC (.int 1)) ah))) ah))))
noncomputable def f_:FM:=ig 1 0 [] m9
theorem mG:aE ["tie"] ["tie"] (aj gv):=⟨rfl,rfl,rfl,by decide+kernel,rfl,by decide+kernel,by decide+kernel⟩
theorem rL(h:aX K mg "gain_of" gv f fd ["tie"])(T:i0 mg){f_times:Addr}{e_times:FuncData}(h_times:aX K mg "times" gX f_times e_times ["one","other"])(G_times:aC P w K mg base bD 3 f_times e_times ["one","other"] (bE K 2 cG)):aC P w K mg base bD 4 f fd ["tie"] (bE K 1 f_):=by
  have nd:=mG.nd
  exact h.fn mG rfl rfl (fun cdv A outer s H E hr=>(@am _ _ _ _ _ (@aK _ _ _ _ _ (@aD _ _ _ _ _ _ _ _ _ _ _ _ _ _ _ h_times G_times (hr.mono (by decide)) ((@aA _ _ _ _ _ _ _ rfl (¬0) ab (fun _ _=>rfl))∘((@aP _ _ _ _ _ _ ((@aA _ _ _ _ _ _ _ rfl (¬0) ab (fun _ _=>rfl))∘(ab∘ac)))∘ac)) (by rfl) (by decide) (by rfl) (by rfl)))))
noncomputable def cF:FI:=(i5 (aa (ae 1) (aa (aq aV (ae 0) (vC (.int 1))) ah)))
noncomputable def bI:FE:=(bx 2 cG (aa (ae 0) (aa (bx 1 f_ (aa (ae 1) ah)) ah)))
noncomputable def iq:FS:=(bF (bx 1 cQ (aa (cK [] 2 cF (bB (ao (af 0) (ao (af 1) bo))) cJ bI) ah)))
noncomputable def cy:FM:=ig 2 0 [] iq
theorem hU:aE ["web","shares"] ["web","shares"] (aj bQ):=⟨rfl,rfl,rfl,by decide+kernel,rfl,by decide+kernel,by decide+kernel⟩
theorem kZ(h:aX K mg "shares_worth" bQ f fd ["web","shares"])(T:i0 mg){f_total:Addr}{e_total:FuncData}(h_total:aX K mg "total" iV f_total e_total ["row"])(G_total:aC P w K mg base bD 4 f_total e_total ["row"] (bE K 1 cQ)){f_times:Addr}{e_times:FuncData}(h_times:aX K mg "times" gX f_times e_times ["one","other"])(G_times:aC P w K mg base bD 3 f_times e_times ["one","other"] (bE K 2 cG)){f_gain_of:Addr}{e_gain_of:FuncData}(h_gain_of:aX K mg "gain_of" gv f_gain_of e_gain_of ["tie"])(G_gain_of:aC P w K mg base bD 4 f_gain_of e_gain_of ["tie"] (bE K 1 f_)):aC P w K mg base bD 5 f fd ["web","shares"] (bE K 2 cy):=by
  have nd:=hU.nd
  exact h.fn hU rfl rfl (fun cdv A outer s H E hr=>(@am _ _ _ _ _ (@aK _ _ _ _ _ (@aD _ _ _ _ _ _ _ _ _ _ _ _ _ _ _ h_total G_total (hr.mono (by decide)) ((@ph _ _ _ _ _ _ _ _ _ _ _ _ _ (aj bQ) ["web","shares"] [] ["share","tie"] rfl rfl rfl (@lp _ _ _ _ _ _ _ _ _ _ rfl rfl T.b_zip ((¬1)∘((@aA _ _ _ _ _ _ _ rfl (¬0) ab (fun _ _=>rfl))∘ac)) (by rfl) (by rfl))
        (fun C s0 H0 fp=>(@dS _ _ _ _ _ _ _ _ rfl rfl (@ay _ _ _ _ _ _ _ _ (@ap _ _ _ 0 _ (show List.Nodup (["share","tie"]:List Str) by decide+kernel) rfl (Or.inl rfl) (by trivial)) (@ay _ _ _ _ _ _ _ _ (@ap _ _ _ 1 _ (show List.Nodup (["share","tie"]:List Str) by decide+kernel) rfl (Or.inl rfl) (by trivial)) (@cS _ _) (by rfl)) (by rfl)) (aH (aH dR)) (by rfl) (by rfl))) (fun C s0 H0 fp=>(@gS _ _))
        (fun C s0 H0 fp=>(@aD _ _ _ _ _ _ _ _ _ _ _ _ _ _ _ h_times G_times (hr.mono (by decide)) ((¬0)∘((@aD _ _ _ _ _ _ _ _ _ _ _ _ _ _ _ h_gain_of G_gain_of (hr.mono (by decide)) ((¬1)∘ac) (by rfl) (by decide) (by rfl) (by rfl))∘ac)) (by rfl) (by decide) (by rfl) (by rfl))) rfl (by decide+kernel) (by decide+kernel) (by decide+kernel) (by decide+kernel) (by decide+kernel) (by decide+kernel) (by decide+kernel) (by intro _;rfl))∘ac) (by rfl) (by decide) (by rfl) (by rfl)))))
noncomputable def cE:FI:=(i5 (aa (ae 3) (aa (aq aV (ae 0) (vC (.int 2))) ah)))
noncomputable def bH:FE:=(bx 2 cG (aa (ae 0) (aa (bS (aa (ae 1) (aa (vC (.int 1)) ah))) ah)))
noncomputable def io:FS:=(aG (my (ae 1) (bB (ao (af 2) (ao (af 3) (ao (af 4) (ao (af 5) bo))))))
    (aG (aT 6 (cK [] 2 cE (bB (ao (af 0) (ao (af 1) bo))) cJ bH))
    (bF (bx 1 cQ (aa (dX (aa (bx 1 cQ (aa (ae 2) ah)) (aa (bx 1 cQ (aa (ae 6) ah)) (aa (bx 2 cG (aa (ae 4) (aa (bS (aa (aq aV (ae 0) (vC (.int 3))) (aa (vC (.int 1)) ah))) ah))) (aa (bx 1 cQ (aa (ae 5) ah)) ah))))) ah)))))
noncomputable def cx:FM:=ig 2 5 (([2]++([3]++([4]++([5]++[]))))++([6]++[])) io
theorem hJ:aE ["web","prices","keeping","bearing","asking","once","borne"] ["web","prices"] (aj bP):=⟨rfl,rfl,rfl,by decide+kernel,rfl,by decide+kernel,by decide+kernel⟩
theorem kY(h:aX K mg "prices_worth" bP f fd ["web","prices"])(T:i0 mg){f_total:Addr}{e_total:FuncData}(h_total:aX K mg "total" iV f_total e_total ["row"])(G_total:aC P w K mg base bD 4 f_total e_total ["row"] (bE K 1 cQ)){f_times:Addr}{e_times:FuncData}(h_times:aX K mg "times" gX f_times e_times ["one","other"])(G_times:aC P w K mg base bD 3 f_times e_times ["one","other"] (bE K 2 cG)):aC P w K mg base bD 5 f fd ["web","prices"] (bE K 2 cx):=by
  have nd:=hJ.nd
  exact h.fn hJ rfl rfl (fun cdv A outer s H E hr=>(@ag _ _ _ _ _ _ _ _ (@kr _ _ _ _ _ _ _ _ (¬1) (@dS _ _ _ _ _ _ _ _ rfl rfl (@ay _ _ _ _ _ _ _ _ (@ap _ _ _ 2 _ nd rfl (Or.inl rfl) (by trivial)) (@ay _ _ _ _ _ _ _ _ (@ap _ _ _ 3 _ nd rfl (Or.inl rfl) (by trivial)) (@ay _ _ _ _ _ _ _ _ (@ap _ _ _ 4 _ nd rfl (Or.inl rfl) (by trivial)) (@ay _ _ _ _ _ _ _ _ (@ap _ _ _ 5 _ nd rfl (Or.inl rfl) (by trivial)) (@cS _ _) (by rfl)) (by rfl)) (by rfl)) (by rfl)) (aH (aH (aH (aH dR)))) (by rfl) (by rfl)) (by rfl) (by rfl) (by rfl))
      (@ag _ _ _ _ _ _ _ _ (@iU _ _ _ (6) _ _ _ _ _ _ _ _ _ _ _ _ _ (aj bP) ["web","prices","keeping","bearing","asking","once","borne"] [] ["price","patience"] rfl rfl rfl (@lp _ _ _ _ _ _ _ _ _ _ rfl rfl T.b_zip ((¬3)∘((@aA _ _ _ _ _ _ _ rfl (¬0) ab (fun _ _=>rfl))∘ac)) (by rfl) (by rfl))
        (fun C s0 H0 fp=>(@dS _ _ _ _ _ _ _ _ rfl rfl (@ay _ _ _ _ _ _ _ _ (@ap _ _ _ 0 _ (show List.Nodup (["price","patience"]:List Str) by decide+kernel) rfl (Or.inl rfl) (by trivial)) (@ay _ _ _ _ _ _ _ _ (@ap _ _ _ 1 _ (show List.Nodup (["price","patience"]:List Str) by decide+kernel) rfl (Or.inl rfl) (by trivial)) (@cS _ _) (by rfl)) (by rfl)) (aH (aH dR)) (by rfl) (by rfl))) (fun C s0 H0 fp=>(@gS _ _))
        (fun C s0 H0 fp=>(@aD _ _ _ _ _ _ _ _ _ _ _ _ _ _ _ h_times G_times (hr.mono (by decide)) ((¬0)∘((@aP _ _ _ _ _ _ ((¬1)∘(ab∘ac)))∘ac)) (by rfl) (by decide) (by rfl) (by rfl))) rfl (by decide+kernel) (by decide+kernel) (by decide+kernel) (by decide+kernel) (by decide+kernel) (by decide+kernel) (by decide+kernel) nd rfl rfl (by rfl) (by intro _;rfl))
      (@am _ _ _ _ _ (@aK _ _ _ _ _ (@aD _ _ _ _ _ _ _ _ _ _ _ _ _ _ _ h_total G_total (hr.mono (by decide)) ((@bN _ _ _ _ _ ((@aD _ _ _ _ _ _ _ _ _ _ _ _ _ _ _ h_total G_total (hr.mono (by decide)) ((¬2)∘ac) (by rfl) (by decide) (by rfl) (by rfl))∘((@aD _ _ _ _ _ _ _ _ _ _ _ _ _ _ _ h_total G_total (hr.mono (by decide)) ((¬6)∘ac) (by rfl) (by decide) (by rfl) (by rfl))∘((@aD _ _ _ _ _ _ _ _ _ _ _ _ _ _ _ h_times G_times (hr.mono (by decide)) ((¬4)∘((@aP _ _ _ _ _ _ ((@aA _ _ _ _ _ _ _ rfl (¬0) ab (fun _ _=>rfl))∘(ab∘ac)))∘ac)) (by rfl) (by decide) (by rfl) (by rfl))∘((@aD _ _ _ _ _ _ _ _ _ _ _ _ _ _ _ h_total G_total (hr.mono (by decide)) ((¬5)∘ac) (by rfl) (by decide) (by rfl) (by rfl))∘ac)))))∘ac) (by rfl) (by decide) (by rfl) (by rfl)))))))
noncomputable def sr:FS:=(aG (aT 2 (aq aW (aq dc (aq dc (aq bf (aq aW (ae 0) (vC (.int 2147483647))) (vC (.int 48271))) (aq bf (aq bf (vC (.int 7919)) (ae 1)) (ae 1))) (vC (.int 104729))) (vC (.int 2147483647))))
    (bF (aq aW (aq bf (ae 2) (ae 2)) (vC (.int 2147483629)))))
noncomputable def iS:FM:=ig 2 1 ([2]++[]) sr
theorem qq:aE ["_law_cell","_law_k","_law_number"] ["_law_cell","_law_k"] (aj jT):=⟨rfl,rfl,rfl,by decide+kernel,rfl,by decide+kernel,by decide+kernel⟩
theorem wj(h:aX K mg "_law_mixed" jT f fd ["_law_cell","_law_k"])(T:i0 mg):aC P w K mg base bD 1 f fd ["_law_cell","_law_k"] (bE K 2 iS):=by
  have nd:=qq.nd
  exact h.fn qq rfl rfl (fun cdv A outer s H E hr=>(@ag _ _ _ _ _ _ _ _ (@ax _ _ _ _ _ 2 _ _ nd rfl (Or.inl rfl) (@aS _ _ _ _ _ _ _ (@cO _ _ _ _ _ _ _ rfl (@cO _ _ _ _ _ _ _ rfl (@b_ _ _ _ _ _ _ _ rfl (@aS _ _ _ _ _ _ _ (¬0) ab) ab) (@b_ _ _ _ _ _ _ _ rfl (@b_ _ _ _ _ _ _ _ rfl ab (¬1)) (¬1))) ab) ab) (by rfl) (by trivial))
      (@am _ _ _ _ _ (@aK _ _ _ _ _ (@aS _ _ _ _ _ _ _ (@b_ _ _ _ _ _ _ _ rfl (¬2) (¬2)) ab)))))
noncomputable def eD:FT:=(mZ (bv (aq CC (ae 3) (aq rE (vC (.int 10)) (vC (.int 18))))) (bv (aq ye (a8 (g1 jH) (aa (ae 1) ah)) (vC (.int 900)))))
noncomputable def iL:FS:=(aG (gj (du bX (ae 1) (aa (aq aW (ae 3) (vC (.int 2147483629))) ah)))
    (aT 3 (aq dJ (ae 3) (vC (.int 2147483629)))))
noncomputable def iO:FI:=(ci (aa (vC (.int 12)) ah))
noncomputable def fV:FS:=(gj (du bX (ae 1) (aa (bx 2 iS (aa (bx 2 iS (aa (ae 3) (aa (aq dc (aq bf (vC (.int 3)) (ae 4)) (vC (.int 1))) ah))) (aa (aq dc (aq dc (ae 4) (ae 2)) (vC (.int 2))) ah))) ah)))
noncomputable def ka:FI:=(ci (aa (a8 (g2 vH) (aa (a8 (g1 jH) (aa (ae 0) ah)) (aa (vC (.int 63)) ah))) ah))
noncomputable def eB:FS:=(aG (aT 3 (a8 (g1 rp) (aa (aq aV (ae 0) (ae 2)) ah)))
    (aG (k7 (bv (aq ye (ae 3) (aq rE (vC (.int 10)) (vC (.int 18)))))
    (cN ([4]++[]) iO (af 4) fV)
    ic)
    (aG (jn (2 ^ 4200) eD iL)
    (k7 (bv (aq CC (ae 3) (vC (.int 2147483629))))
    (gj (du bX (ae 1) (aa (aq aW (ae 3) (vC (.int 2147483629))) ah)))
    ic))))
noncomputable def sk:FS:=(aG (aT 1 (dX ah))
    (aG (cN ([2]++([3]++((([4]++[])++[])++(([]++[3])++([]++[]))))) ka (af 2) eB)
    (bF (ae 1))))
noncomputable def jM:FM:=ig 1 4 ([1]++(([2]++([3]++((([4]++[])++[])++(([]++[3])++([]++[])))))++[])) sk
theorem qo:aE ["_law_script","_law_drawn","_law_k","_law_cell","_law_j"] ["_law_script"] (aj jS):=⟨rfl,rfl,rfl,by decide+kernel,rfl,by decide+kernel,by decide+kernel⟩
theorem wf(h:aX K mg "_law_draws" jS f fd ["_law_script"])(T:i0 mg){fLmixed:Addr}{eLmixed:FuncData}(hLmixed:aX K mg "_law_mixed" jT fLmixed eLmixed ["_law_cell","_law_k"])(GLmixed:aC P w K mg base bD 1 fLmixed eLmixed ["_law_cell","_law_k"] (bE K 2 iS)):aC P w K mg base bD 2 f fd ["_law_script"] (bE K 1 jM):=by
  have nd:=qo.nd
  exact h.fn qo rfl rfl (fun cdv A outer s H E hr=>(@ag _ _ _ _ _ _ _ _ (@ax _ _ _ _ _ 1 _ _ nd rfl (Or.inl rfl) (@bN _ _ _ _ _ ac) (by rfl) (by trivial))
      (@ag _ _ _ _ _ _ _ _ (@cL _ _ _ _ _ _ _ _ _ _ _ PassesOwn.never rfl (@cf _ _ _ _ _ _ _ rfl T.b_range ((@bU _ _ _ _ _ _ _ _ _ (@b_min _ _ rfl) (by rfl) T.b_min ((@bU _ _ _ _ _ _ _ _ _ (@b_len _ _ rfl) (by rfl) T.b_len ((¬0)∘ac) (by decide) (by decide) (by rfl) (by rfl))∘(ab∘ac)) (by decide) (by decide) (by rfl) (by rfl))∘ac) (by rfl)) (@ap _ _ _ 2 _ nd rfl (Or.inl rfl) (by trivial))
      (@ag _ _ _ _ _ _ _ _ (@ax _ _ _ _ _ 3 _ _ nd rfl (Or.inl rfl) (@bU _ _ _ _ _ _ _ _ _ (@b_abs _ _) (by rfl) T.b_abs ((@aA _ _ _ _ _ _ _ rfl (¬0) (¬2) (fun _ _=>rfl))∘ac) (by decide) (by decide) (by rfl) (by rfl)) (by rfl) (by trivial))
      (@ag _ _ _ _ _ _ _ _ (@eW _ _ _ _ _ _ _ _ _ _ _ (@bL _ _ _ _ _ _ _ _ _ (@xZ _ _) (¬3) (@Ab _ _ _ _ _ _ _ ab ab) (bh _))
      (@am _ _ _ _ _ (@cL _ _ _ _ _ _ _ _ _ _ _ PassesOwn.never rfl (@cf _ _ _ _ _ _ _ rfl T.b_range (ab∘ac) (by rfl)) (@ap _ _ _ 4 _ nd rfl (Or.inl rfl) (by trivial))
      (@am _ _ _ _ _ (@en _ _ _ _ _ (@dj _ _ _ _ _ _ _ _ _ rfl (¬1) ((@aD _ _ _ _ _ _ _ _ _ _ _ _ _ _ _ hLmixed GLmixed (hr.mono (by decide)) ((@aD _ _ _ _ _ _ _ _ _ _ _ _ _ _ _ hLmixed GLmixed (hr.mono (by decide)) ((¬3)∘((@cO _ _ _ _ _ _ _ rfl (@b_ _ _ _ _ _ _ _ rfl ab (¬4)) ab)∘ac)) (by rfl) (by decide) (by rfl) (by rfl))∘((@cO _ _ _ _ _ _ _ rfl (@cO _ _ _ _ _ _ _ rfl (¬4) (¬2)) ab)∘ac)) (by rfl) (by decide) (by rfl) (by rfl))∘ac) (by rfl) (by rfl) (by rfl) (by rfl) (by rfl)) (by rfl))) (by intro _;rfl)))
      (@cH _ _))
      (@ag _ _ _ _ _ _ _ _ (@mv _ _ _ _ _ _ _ _ _ PassesOwn.never (@ze _ _ _ _ (@pk _ _ _ _ _ _ _ _ (@bL _ _ _ _ _ _ _ _ _ (@Cz _ _) (¬3) (@Ab _ _ _ _ _ _ _ ab ab) (bh _)) (@lr _ _ _ _ _ (@bL _ _ _ _ _ _ _ _ _ (@xZ _ _) (@bU _ _ _ _ _ _ _ _ _ (@b_len _ _ rfl) (by rfl) T.b_len ((¬1)∘ac) (by decide) (by decide) (by rfl) (by rfl)) ab (bh _)))))
      (@ag _ _ _ _ _ _ _ _ (@en _ _ _ _ _ (@dj _ _ _ _ _ _ _ _ _ rfl (¬1) ((@aS _ _ _ _ _ _ _ (¬3) ab)∘ac) (by rfl) (by rfl) (by rfl) (by rfl) (by rfl)) (by rfl))
      (@am _ _ _ _ _ (@ax _ _ _ _ _ 3 _ _ nd rfl (Or.inl rfl) (@fQ _ _ _ _ _ _ _ (¬3) ab) (by rfl) (by trivial)))))
      (@am _ _ _ _ _ (@eW _ _ _ _ _ _ _ _ _ _ _ (@bL _ _ _ _ _ _ _ _ _ (@Cz _ _) (¬3) ab (bh _))
      (@am _ _ _ _ _ (@en _ _ _ _ _ (@dj _ _ _ _ _ _ _ _ _ rfl (¬1) ((@aS _ _ _ _ _ _ _ (¬3) ab)∘ac) (by rfl) (by rfl) (by rfl) (by rfl) (by rfl)) (by rfl)))
      (@cH _ _)))))) (by intro _;rfl))
      (@am _ _ _ _ _ (@aK _ _ _ _ _ (¬1))))))
noncomputable def rh:FS:=(aG (k7 (bv (aq (de false) (ae 0) (dX ah)))
    (bF (vC (.int 0)))
    ic)
    (bF (du jj (ae 0) (aa (vC (.int 0)) ah))))
noncomputable def aU:FM:=ig 1 0 (([]++[])++[]) rh
theorem sV:aE ["_law_drawn"] ["_law_drawn"] (aj iH):=⟨rfl,rfl,rfl,by decide+kernel,rfl,by decide+kernel,by decide+kernel⟩
theorem yq(h:aX K mg "_law_next" iH f fd ["_law_drawn"])(T:i0 mg):aC P w K mg base bD 1 f fd ["_law_drawn"] (bE K 1 aU):=by
  have nd:=sV.nd
  exact h.fn sV rfl rfl (fun cdv A outer s H E hr=>(@ag _ _ _ _ _ _ _ _ (@eW _ _ _ _ _ _ _ _ _ _ _ (@bL _ _ _ _ _ _ _ _ _ (@lO _ _ _ rfl hr) (¬0) (@bN _ _ _ _ _ ac) (bh _))
      (@am _ _ _ _ _ (@aK _ _ _ _ _ ab))
      (@cH _ _))
      (@am _ _ _ _ _ (@aK _ _ _ _ _ (@y8 _ _ _ _ _ _ _ _ _ rfl (¬0) (ab∘ac) (by rfl) (by rfl) (by rfl) (by rfl) (by rfl))))))
noncomputable def jB:FT:=(bv (aq (de true) (ae 1) (vC (.int 0))))
noncomputable def k9:FS:=(rX 0 1 (aa (ae 1) (aa (aq aW (ae 0) (ae 1)) ah)))
noncomputable def zN:FS:=(aG (jn (2 ^ 4200) jB k9)
    (bF (a8 (g1 rp) (aa (ae 0) ah))))
noncomputable def p9:FM:=ig 2 0 ([0,1]++[]) zN
theorem xb:aE ["_law_one","_law_other"] ["_law_one","_law_other"] (aj qj):=⟨rfl,rfl,rfl,by decide+kernel,rfl,by decide+kernel,by decide+kernel⟩
theorem AU(h:aX K mg "_law_gcd" qj f fd ["_law_one","_law_other"])(T:i0 mg):aC P w K mg base bD 1 f fd ["_law_one","_law_other"] (bE K 2 p9):=by
  have nd:=xb.nd
  exact h.fn xb rfl rfl (fun cdv A outer s H E hr=>(@ag _ _ _ _ _ _ _ _ (@mv _ _ _ _ _ _ _ _ _ PassesOwn.never (@bL _ _ _ _ _ _ _ _ _ (@Av _ _ _ rfl hr) (¬1) ab (bh _))
      (@am _ _ _ _ _ (@wO _ _ _ _ _ 0 1 _ _ _ _ _ _ _ _ _ rfl nd rfl rfl (by decide) rfl rfl ((¬1)∘((@aS _ _ _ _ _ _ _ (¬0) (¬1))∘ac)) (by rfl) (by rfl))))
      (@am _ _ _ _ _ (@aK _ _ _ _ _ (@bU _ _ _ _ _ _ _ _ _ (@b_abs _ _) (by rfl) T.b_abs ((¬0)∘ac) (by decide) (by decide) (by rfl) (by rfl))))))
noncomputable def zO:FS:=(aG (aT 2 (bx 2 p9 (aa (ae 0) (aa (ae 1) ah))))
    (bF (bS (aa (aq dJ (ae 0) (ae 2)) (aa (aq dJ (ae 1) (ae 2)) ah)))))
noncomputable def dg:FM:=ig 2 1 ([2]++[]) zO
theorem xc:aE ["_law_top","_law_bottom","_law_common"] ["_law_top","_law_bottom"] (aj i7):=⟨rfl,rfl,rfl,by decide+kernel,rfl,by decide+kernel,by decide+kernel⟩
theorem AV(h:aX K mg "_law_low" i7 f fd ["_law_top","_law_bottom"])(T:i0 mg){fLgcd:Addr}{eLgcd:FuncData}(hLgcd:aX K mg "_law_gcd" qj fLgcd eLgcd ["_law_one","_law_other"])(GLgcd:aC P w K mg base bD 1 fLgcd eLgcd ["_law_one","_law_other"] (bE K 2 p9)):aC P w K mg base bD 2 f fd ["_law_top","_law_bottom"] (bE K 2 dg):=by
  have nd:=xc.nd
  exact h.fn xc rfl rfl (fun cdv A outer s H E hr=>(@ag _ _ _ _ _ _ _ _ (@ax _ _ _ _ _ 2 _ _ nd rfl (Or.inl rfl) (@aD _ _ _ _ _ _ _ _ _ _ _ _ _ _ _ hLgcd GLgcd (hr.mono (by decide)) ((¬0)∘((¬1)∘ac)) (by rfl) (by decide) (by rfl) (by rfl)) (by rfl) (by trivial))
      (@am _ _ _ _ _ (@aK _ _ _ _ _ (@aP _ _ _ _ _ _ ((@fQ _ _ _ _ _ _ _ (¬0) (¬2))∘((@fQ _ _ _ _ _ _ _ (¬1) (¬2))∘ac)))))))
noncomputable def rj:FS:=(bF (bx 2 dg (aa (aq dc (aq bf (aq aV (ae 0) (vC (.int 0))) (aq aV (ae 1) (vC (.int 1)))) (aq bf (aq aV (ae 1) (vC (.int 0))) (aq aV (ae 0) (vC (.int 1))))) (aa (aq bf (aq aV (ae 0) (vC (.int 1))) (aq aV (ae 1) (vC (.int 1)))) ah))))
noncomputable def bJ:FM:=ig 2 0 [] rj
theorem sW:aE ["_law_one","_law_other"] ["_law_one","_law_other"] (aj gW):=⟨rfl,rfl,rfl,by decide+kernel,rfl,by decide+kernel,by decide+kernel⟩
theorem yr(h:aX K mg "_law_plus" gW f fd ["_law_one","_law_other"])(T:i0 mg){fLlow:Addr}{eLlow:FuncData}(hLlow:aX K mg "_law_low" i7 fLlow eLlow ["_law_top","_law_bottom"])(GLlow:aC P w K mg base bD 2 fLlow eLlow ["_law_top","_law_bottom"] (bE K 2 dg)):aC P w K mg base bD 3 f fd ["_law_one","_law_other"] (bE K 2 bJ):=by
  have nd:=sW.nd
  exact h.fn sW rfl rfl (fun cdv A outer s H E hr=>(@am _ _ _ _ _ (@aK _ _ _ _ _ (@aD _ _ _ _ _ _ _ _ _ _ _ _ _ _ _ hLlow GLlow (hr.mono (by decide)) ((@cO _ _ _ _ _ _ _ rfl (@b_ _ _ _ _ _ _ _ rfl (@aA _ _ _ _ _ _ _ rfl (¬0) ab (fun _ _=>rfl)) (@aA _ _ _ _ _ _ _ rfl (¬1) ab (fun _ _=>rfl))) (@b_ _ _ _ _ _ _ _ rfl (@aA _ _ _ _ _ _ _ rfl (¬1) ab (fun _ _=>rfl)) (@aA _ _ _ _ _ _ _ rfl (¬0) ab (fun _ _=>rfl))))∘((@b_ _ _ _ _ _ _ _ rfl (@aA _ _ _ _ _ _ _ rfl (¬0) ab (fun _ _=>rfl)) (@aA _ _ _ _ _ _ _ rfl (¬1) ab (fun _ _=>rfl)))∘ac)) (by rfl) (by decide) (by rfl) (by rfl)))))
noncomputable def su:FS:=(bF (bx 2 dg (aa (aq bf (aq aV (ae 0) (vC (.int 0))) (aq aV (ae 1) (vC (.int 0)))) (aa (aq bf (aq aV (ae 0) (vC (.int 1))) (aq aV (ae 1) (vC (.int 1)))) ah))))
noncomputable def bC:FM:=ig 2 0 [] su
theorem qs:aE ["_law_one","_law_other"] ["_law_one","_law_other"] (aj fJ):=⟨rfl,rfl,rfl,by decide+kernel,rfl,by decide+kernel,by decide+kernel⟩
theorem wm(h:aX K mg "_law_times" fJ f fd ["_law_one","_law_other"])(T:i0 mg){fLlow:Addr}{eLlow:FuncData}(hLlow:aX K mg "_law_low" i7 fLlow eLlow ["_law_top","_law_bottom"])(GLlow:aC P w K mg base bD 2 fLlow eLlow ["_law_top","_law_bottom"] (bE K 2 dg)):aC P w K mg base bD 3 f fd ["_law_one","_law_other"] (bE K 2 bC):=by
  have nd:=qs.nd
  exact h.fn qs rfl rfl (fun cdv A outer s H E hr=>(@am _ _ _ _ _ (@aK _ _ _ _ _ (@aD _ _ _ _ _ _ _ _ _ _ _ _ _ _ _ hLlow GLlow (hr.mono (by decide)) ((@b_ _ _ _ _ _ _ _ rfl (@aA _ _ _ _ _ _ _ rfl (¬0) ab (fun _ _=>rfl)) (@aA _ _ _ _ _ _ _ rfl (¬1) ab (fun _ _=>rfl)))∘((@b_ _ _ _ _ _ _ _ rfl (@aA _ _ _ _ _ _ _ rfl (¬0) ab (fun _ _=>rfl)) (@aA _ _ _ _ _ _ _ rfl (¬1) ab (fun _ _=>rfl)))∘ac)) (by rfl) (by decide) (by rfl) (by rfl)))))
noncomputable def uX:FS:=(bF (aq ye (aq bf (aq aV (ae 0) (vC (.int 0))) (aq aV (ae 1) (vC (.int 1)))) (aq bf (aq aV (ae 1) (vC (.int 0))) (aq aV (ae 0) (vC (.int 1))))))
noncomputable def mh:FM:=ig 2 0 [] uX
theorem sU:aE ["_law_one","_law_other"] ["_law_one","_law_other"] (aj mz):=⟨rfl,rfl,rfl,by decide+kernel,rfl,by decide+kernel,by decide+kernel⟩
theorem yp(h:aX K mg "_law_less" mz f fd ["_law_one","_law_other"])(T:i0 mg):aC P w K mg base bD 1 f fd ["_law_one","_law_other"] (bE K 2 mh):=by
  have nd:=sU.nd
  exact h.fn sU rfl rfl (fun cdv A outer s H E hr=>(@am _ _ _ _ _ (@aK _ _ _ _ _ (@nK _ _ _ _ _ _ _ _ _ (@xZ _ _) (@b_ _ _ _ _ _ _ _ rfl (@aA _ _ _ _ _ _ _ rfl (¬0) ab (fun _ _=>rfl)) (@aA _ _ _ _ _ _ _ rfl (¬1) ab (fun _ _=>rfl))) (@b_ _ _ _ _ _ _ _ rfl (@aA _ _ _ _ _ _ _ rfl (¬1) ab (fun _ _=>rfl)) (@aA _ _ _ _ _ _ _ rfl (¬0) ab (fun _ _=>rfl))) (bh _)))))
noncomputable def uY:FS:=(bF (aq (de false) (a8 (g1 iw) (aa (ae 0) ah)) (a8 (g1 iw) (aa (ae 1) ah))))
noncomputable def kf:FM:=ig 2 0 [] uY
theorem sX:aE ["_law_found","_law_due"] ["_law_found","_law_due"] (aj mB):=⟨rfl,rfl,rfl,by decide+kernel,rfl,by decide+kernel,by decide+kernel⟩
theorem yt(h:aX K mg "_law_same" mB f fd ["_law_found","_law_due"])(T:i0 mg):aC P w K mg base bD 1 f fd ["_law_found","_law_due"] (bE K 2 kf):=by
  have nd:=sX.nd
  exact h.fn sX rfl rfl (fun cdv A outer s H E hr=>(@am _ _ _ _ _ (@aK _ _ _ _ _ (@nK _ _ _ _ _ _ _ _ _ (@lO _ _ _ rfl hr) (@bU _ _ _ _ _ _ _ _ _ (@b_repr _ _ _ rfl hr) (by rfl) T.b_repr ((¬0)∘ac) (by decide) (by decide) (by rfl) (by rfl)) (@bU _ _ _ _ _ _ _ _ _ (@b_repr _ _ _ rfl hr) (by rfl) T.b_repr ((¬1)∘ac) (by decide) (by decide) (by rfl) (by rfl)) (bh _)))))
noncomputable def ij:FS:=(aG (k7 (bv (aq (de false) (ae 1) (vC (.int 0))))
    (bF (aq aV (dX (aa (bS (aa (vC (.int 1)) (aa (vC (.int 2)) ah))) (aa (bS (aa (vC (.int 1)) (aa (vC (.int 3)) ah))) (aa (bS (aa (vC (.int 2)) (aa (vC (.int 3)) ah))) (aa (bS (aa (vC (.int 1)) (aa (vC (.int 1)) ah))) (aa (bS (aa (vC (.int 0)) (aa (vC (.int 1)) ah))) (aa (bS (aa (vC (.int 3)) (aa (vC (.int 4)) ah))) ah))))))) (aq aW (ae 0) (vC (.int 6)))))
    ic)
    (aG (k7 (bv (aq (de false) (ae 1) (vC (.int 1))))
    (aG (aT 2 (aq dc (vC (.int 2)) (aq aW (ae 0) (vC (.int 9)))))
    (bF (bx 2 dg (aa (aq dc (vC (.int 1)) (aq aW (aq dJ (ae 0) (vC (.int 9))) (aq iu (ae 2) (vC (.int 1))))) (aa (ae 2) ah)))))
    ic)
    (aG (k7 (bv (aq (de false) (ae 1) (vC (.int 2))))
    (aG (aT 2 (aq dc (vC (.int 1)) (aq aW (ae 0) (vC (.int 100)))))
    (bF (bx 2 dg (aa (aq aW (aq dJ (ae 0) (vC (.int 100))) (aq dc (ae 2) (vC (.int 1)))) (aa (ae 2) ah)))))
    ic)
    (bF (bS (aa (vC (.int 1)) (aa (vC (.int 1)) ah)))))))
noncomputable def bZ:FM:=ig 2 1 (([]++[])++((([2]++[])++[])++((([2]++[])++[])++[]))) ij
theorem nQ:aE ["_law_number","_law_kind","_law_bottom"] ["_law_number","_law_kind"] (aj gn):=⟨rfl,rfl,rfl,by decide+kernel,rfl,by decide+kernel,by decide+kernel⟩
theorem ug(h:aX K mg "_law_chance" gn f fd ["_law_number","_law_kind"])(T:i0 mg){fLlow:Addr}{eLlow:FuncData}(hLlow:aX K mg "_law_low" i7 fLlow eLlow ["_law_top","_law_bottom"])(GLlow:aC P w K mg base bD 2 fLlow eLlow ["_law_top","_law_bottom"] (bE K 2 dg)):aC P w K mg base bD 3 f fd ["_law_number","_law_kind"] (bE K 2 bZ):=by
  have nd:=nQ.nd
  exact h.fn nQ rfl rfl (fun cdv A outer s H E hr=>(@ag _ _ _ _ _ _ _ _ (@eW _ _ _ _ _ _ _ _ _ _ _ (@bL _ _ _ _ _ _ _ _ _ (@lO _ _ _ rfl hr) (¬1) ab (bh _))
      (@am _ _ _ _ _ (@aK _ _ _ _ _ (@aA _ _ _ _ _ _ _ rfl (@bN _ _ _ _ _ ((@aP _ _ _ _ _ _ (ab∘(ab∘ac)))∘((@aP _ _ _ _ _ _ (ab∘(ab∘ac)))∘((@aP _ _ _ _ _ _ (ab∘(ab∘ac)))∘((@aP _ _ _ _ _ _ (ab∘(ab∘ac)))∘((@aP _ _ _ _ _ _ (ab∘(ab∘ac)))∘((@aP _ _ _ _ _ _ (ab∘(ab∘ac)))∘ac))))))) (@aS _ _ _ _ _ _ _ (¬0) ab) (fun _ _=>rfl))))
      (@cH _ _))
      (@ag _ _ _ _ _ _ _ _ (@eW _ _ _ _ _ _ _ _ _ _ _ (@bL _ _ _ _ _ _ _ _ _ (@lO _ _ _ rfl hr) (¬1) ab (bh _))
      (@ag _ _ _ _ _ _ _ _ (@ax _ _ _ _ _ 2 _ _ nd rfl (Or.inl rfl) (@cO _ _ _ _ _ _ _ rfl ab (@aS _ _ _ _ _ _ _ (¬0) ab)) (by rfl) (by trivial))
      (@am _ _ _ _ _ (@aK _ _ _ _ _ (@aD _ _ _ _ _ _ _ _ _ _ _ _ _ _ _ hLlow GLlow (hr.mono (by decide)) ((@cO _ _ _ _ _ _ _ rfl ab (@aS _ _ _ _ _ _ _ (@fQ _ _ _ _ _ _ _ (¬0) ab) (@qg _ _ _ _ _ _ _ (¬2) ab)))∘((¬2)∘ac)) (by rfl) (by decide) (by rfl) (by rfl)))))
      (@cH _ _))
      (@ag _ _ _ _ _ _ _ _ (@eW _ _ _ _ _ _ _ _ _ _ _ (@bL _ _ _ _ _ _ _ _ _ (@lO _ _ _ rfl hr) (¬1) ab (bh _))
      (@ag _ _ _ _ _ _ _ _ (@ax _ _ _ _ _ 2 _ _ nd rfl (Or.inl rfl) (@cO _ _ _ _ _ _ _ rfl ab (@aS _ _ _ _ _ _ _ (¬0) ab)) (by rfl) (by trivial))
      (@am _ _ _ _ _ (@aK _ _ _ _ _ (@aD _ _ _ _ _ _ _ _ _ _ _ _ _ _ _ hLlow GLlow (hr.mono (by decide)) ((@aS _ _ _ _ _ _ _ (@fQ _ _ _ _ _ _ _ (¬0) ab) (@cO _ _ _ _ _ _ _ rfl (¬2) ab))∘((¬2)∘ac)) (by rfl) (by decide) (by rfl) (by rfl)))))
      (@cH _ _))
      (@am _ _ _ _ _ (@aK _ _ _ _ _ (@aP _ _ _ _ _ _ (ab∘(ab∘ac)))))))))
noncomputable def sv:FS:=(bF (aq aV (dX (aa (aq aW (ae 0) (vC (.int 7))) (aa (aq dc (vC (.int 5)) (aq aW (ae 0) (vC (.int 2)))) (aa (aq aW (ae 0) (vC (.int 1001))) (aa (aq iu (vC (.int 1000)) (aq aW (ae 0) (vC (.int 3)))) ah))))) (aq aW (ae 1) (vC (.int 4)))))
noncomputable def jN:FM:=ig 2 0 [] sv
theorem qt:aE ["_law_number","_law_kind"] ["_law_number","_law_kind"] (aj jV):=⟨rfl,rfl,rfl,by decide+kernel,rfl,by decide+kernel,by decide+kernel⟩
theorem wn(h:aX K mg "_law_worth" jV f fd ["_law_number","_law_kind"])(T:i0 mg):aC P w K mg base bD 1 f fd ["_law_number","_law_kind"] (bE K 2 jN):=by
  have nd:=qt.nd
  exact h.fn qt rfl rfl (fun cdv A outer s H E hr=>(@am _ _ _ _ _ (@aK _ _ _ _ _ (@aA _ _ _ _ _ _ _ rfl (@bN _ _ _ _ _ ((@aS _ _ _ _ _ _ _ (¬0) ab)∘((@cO _ _ _ _ _ _ _ rfl ab (@aS _ _ _ _ _ _ _ (¬0) ab))∘((@aS _ _ _ _ _ _ _ (¬0) ab)∘((@qg _ _ _ _ _ _ _ ab (@aS _ _ _ _ _ _ _ (¬0) ab))∘ac))))) (@aS _ _ _ _ _ _ _ (¬1) ab) (fun _ _=>rfl)))))
noncomputable def ma:FI:=(ci (aa (ae 2) ah))
noncomputable def fX:FS:=(aG (aT 8 (bx 1 aU (aa (ae 0) ah)))
    (aG (aT 9 (aq aV (dX (aa (aq aW (ae 8) (ae 1)) (aa (vC (.int 0)) (aa (aq aW (ae 7) (ae 1)) (aa (aq aW (ae 8) (ae 1)) (aa (aq aW (ae 8) (vC (.int 2))) (aa (aq aW (ae 8) (ae 1)) ah))))))) (ae 3)))
    (aG (aT 10 (aq aW (aq dc (aq dc (ae 9) (vC (.int 1))) (aq aW (aq dJ (ae 8) (vC (.int 12))) (aq iu (ae 1) (vC (.int 1))))) (ae 1)))
    (aG (k7 (bv (aq (de false) (ae 3) (vC (.int 4))))
    (my (bS (aa (vC (.int 0)) (aa (vC (.int 1)) ah))) (bB (ao (af 9) (ao (af 10) bo))))
    ic)
    (aG (aT 11 (bx 1 aU (aa (ae 0) ah)))
    (aG (aT 12 (bS (aa (a8 (g2 vH) (aa (ae 9) (aa (ae 10) ah))) (aa (a8 (g2 tY) (aa (ae 9) (aa (ae 10) ah))) ah))))
    (gj (du bX (ae 6) (aa (aq dc (ae 12) (bS (aa (bx 2 bZ (aa (ae 11) (aa (ae 4) ah))) (aa (bx 2 jN (aa (aq dJ (ae 11) (vC (.int 10007))) (aa (ae 5) ah))) ah)))) ah)))))))))
noncomputable def uZ:FS:=(aG (aT 3 (aq aW (bx 1 aU (aa (ae 0) ah)) (vC (.int 6))))
    (aG (aT 4 (aq aW (bx 1 aU (aa (ae 0) ah)) (vC (.int 4))))
    (aG (aT 5 (aq aW (bx 1 aU (aa (ae 0) ah)) (vC (.int 4))))
    (aG (aT 6 (dX ah))
    (aG (cN ([7]++([8]++([9]++([10]++((([9]++([10]++[]))++[])++([11]++([12]++[]))))))) ma (af 7) fX)
    (bF (a8 (g1 df) (aa (ae 6) ah))))))))
noncomputable def mi:FM:=ig 3 10 ([3]++([4]++([5]++([6]++(([7]++([8]++([9]++([10]++((([9]++([10]++[]))++[])++([11]++([12]++[])))))))++[]))))) uZ
theorem sY:aE ["_law_drawn","_law_things","_law_many","_law_shape","_law_odds","_law_worths","_law_found","_law_k","_law_number","_law_one","_law_other","_law_cell","_law_ends"] ["_law_drawn","_law_things","_law_many"] (aj mC):=⟨rfl,rfl,rfl,by decide+kernel,rfl,by decide+kernel,by decide+kernel⟩
theorem yu(h:aX K mg "_law_ties" mC f fd ["_law_drawn","_law_things","_law_many"])(T:i0 mg){fLnext:Addr}{eLnext:FuncData}(hLnext:aX K mg "_law_next" iH fLnext eLnext ["_law_drawn"])(GLnext:aC P w K mg base bD 1 fLnext eLnext ["_law_drawn"] (bE K 1 aU)){fLchance:Addr}{eLchance:FuncData}(hLchance:aX K mg "_law_chance" gn fLchance eLchance ["_law_number","_law_kind"])(GLchance:aC P w K mg base bD 3 fLchance eLchance ["_law_number","_law_kind"] (bE K 2 bZ)){fLworth:Addr}{eLworth:FuncData}(hLworth:aX K mg "_law_worth" jV fLworth eLworth ["_law_number","_law_kind"])(GLworth:aC P w K mg base bD 1 fLworth eLworth ["_law_number","_law_kind"] (bE K 2 jN)):aC P w K mg base bD 4 f fd ["_law_drawn","_law_things","_law_many"] (bE K 3 mi):=by
  have nd:=sY.nd
  exact h.fn sY rfl rfl (fun cdv A outer s H E hr=>(@ag _ _ _ _ _ _ _ _ (@ax _ _ _ _ _ 3 _ _ nd rfl (Or.inl rfl) (@aS _ _ _ _ _ _ _ (@aD _ _ _ _ _ _ _ _ _ _ _ _ _ _ _ hLnext GLnext (hr.mono (by decide)) ((¬0)∘ac) (by rfl) (by decide) (by rfl) (by rfl)) ab) (by rfl) (by trivial))
      (@ag _ _ _ _ _ _ _ _ (@ax _ _ _ _ _ 4 _ _ nd rfl (Or.inl rfl) (@aS _ _ _ _ _ _ _ (@aD _ _ _ _ _ _ _ _ _ _ _ _ _ _ _ hLnext GLnext (hr.mono (by decide)) ((¬0)∘ac) (by rfl) (by decide) (by rfl) (by rfl)) ab) (by rfl) (by trivial))
      (@ag _ _ _ _ _ _ _ _ (@ax _ _ _ _ _ 5 _ _ nd rfl (Or.inl rfl) (@aS _ _ _ _ _ _ _ (@aD _ _ _ _ _ _ _ _ _ _ _ _ _ _ _ hLnext GLnext (hr.mono (by decide)) ((¬0)∘ac) (by rfl) (by decide) (by rfl) (by rfl)) ab) (by rfl) (by trivial))
      (@ag _ _ _ _ _ _ _ _ (@ax _ _ _ _ _ 6 _ _ nd rfl (Or.inl rfl) (@bN _ _ _ _ _ ac) (by rfl) (by trivial))
      (@ag _ _ _ _ _ _ _ _ (@cL _ _ _ _ _ _ _ _ _ _ _ PassesOwn.never rfl (@cf _ _ _ _ _ _ _ rfl T.b_range ((¬2)∘ac) (by rfl)) (@ap _ _ _ 7 _ nd rfl (Or.inl rfl) (by trivial))
      (@ag _ _ _ _ _ _ _ _ (@ax _ _ _ _ _ 8 _ _ nd rfl (Or.inl rfl) (@aD _ _ _ _ _ _ _ _ _ _ _ _ _ _ _ hLnext GLnext (hr.mono (by decide)) ((¬0)∘ac) (by rfl) (by decide) (by rfl) (by rfl)) (by rfl) (by trivial))
      (@ag _ _ _ _ _ _ _ _ (@ax _ _ _ _ _ 9 _ _ nd rfl (Or.inl rfl) (@aA _ _ _ _ _ _ _ rfl (@bN _ _ _ _ _ ((@aS _ _ _ _ _ _ _ (¬8) (¬1))∘(ab∘((@aS _ _ _ _ _ _ _ (¬7) (¬1))∘((@aS _ _ _ _ _ _ _ (¬8) (¬1))∘((@aS _ _ _ _ _ _ _ (¬8) ab)∘((@aS _ _ _ _ _ _ _ (¬8) (¬1))∘ac))))))) (¬3) (fun _ _=>rfl)) (by rfl) (by trivial))
      (@ag _ _ _ _ _ _ _ _ (@ax _ _ _ _ _ 10 _ _ nd rfl (Or.inl rfl) (@aS _ _ _ _ _ _ _ (@cO _ _ _ _ _ _ _ rfl (@cO _ _ _ _ _ _ _ rfl (¬9) ab) (@aS _ _ _ _ _ _ _ (@fQ _ _ _ _ _ _ _ (¬8) ab) (@qg _ _ _ _ _ _ _ (¬1) ab))) (¬1)) (by rfl) (by trivial))
      (@ag _ _ _ _ _ _ _ _ (@eW _ _ _ _ _ _ _ _ _ _ _ (@bL _ _ _ _ _ _ _ _ _ (@lO _ _ _ rfl hr) (¬3) ab (bh _))
      (@am _ _ _ _ _ (@kr _ _ _ _ _ _ _ _ (@aP _ _ _ _ _ _ (ab∘(ab∘ac))) (@dS _ _ _ _ _ _ _ _ rfl rfl (@ay _ _ _ _ _ _ _ _ (@ap _ _ _ 9 _ nd rfl (Or.inl rfl) (by trivial)) (@ay _ _ _ _ _ _ _ _ (@ap _ _ _ 10 _ nd rfl (Or.inl rfl) (by trivial)) (@cS _ _) (by rfl)) (by rfl)) (aH (aH dR)) (by rfl) (by rfl)) (by rfl) (by rfl) (by rfl)))
      (@cH _ _))
      (@ag _ _ _ _ _ _ _ _ (@ax _ _ _ _ _ 11 _ _ nd rfl (Or.inl rfl) (@aD _ _ _ _ _ _ _ _ _ _ _ _ _ _ _ hLnext GLnext (hr.mono (by decide)) ((¬0)∘ac) (by rfl) (by decide) (by rfl) (by rfl)) (by rfl) (by trivial))
      (@ag _ _ _ _ _ _ _ _ (@ax _ _ _ _ _ 12 _ _ nd rfl (Or.inl rfl) (@aP _ _ _ _ _ _ ((@bU _ _ _ _ _ _ _ _ _ (@b_min _ _ rfl) (by rfl) T.b_min ((¬9)∘((¬10)∘ac)) (by decide) (by decide) (by rfl) (by rfl))∘((@bU _ _ _ _ _ _ _ _ _ (@b_max _ _ rfl) (by rfl) T.b_max ((¬9)∘((¬10)∘ac)) (by decide) (by decide) (by rfl) (by rfl))∘ac))) (by rfl) (by trivial))
      (@am _ _ _ _ _ (@en _ _ _ _ _ (@dj _ _ _ _ _ _ _ _ _ rfl (¬6) ((@cO _ _ _ _ _ _ _ rfl (¬12) (@aP _ _ _ _ _ _ ((@aD _ _ _ _ _ _ _ _ _ _ _ _ _ _ _ hLchance GLchance (hr.mono (by decide)) ((¬11)∘((¬4)∘ac)) (by rfl) (by decide) (by rfl) (by rfl))∘((@aD _ _ _ _ _ _ _ _ _ _ _ _ _ _ _ hLworth GLworth (hr.mono (by decide)) ((@fQ _ _ _ _ _ _ _ (¬11) ab)∘((¬5)∘ac)) (by rfl) (by decide) (by rfl) (by rfl))∘ac))))∘ac) (by rfl) (by rfl) (by rfl) (by rfl) (by rfl)) (by rfl))))))))) (by intro _;rfl))
      (@am _ _ _ _ _ (@aK _ _ _ _ _ (@bU _ _ _ _ _ _ _ _ _ (@b_tuple _ _ rfl) (by rfl) T.b_tuple ((¬6)∘ac) (by decide) (by decide) (by rfl) (by rfl))))))))))
noncomputable def oV:FI:=(ci (aa (ae 3) ah))
noncomputable def k':FS:=(gj (du bX (ae 7) (aa (aq aV (dX (aa (vC (.int 20)) (aa (aq dc (vC (.int 1)) (aq aW (bx 1 aU (aa (ae 0) ah)) (vC (.int 3)))) (aa (aq aW (bx 1 aU (aa (ae 0) ah)) (vC (.int 21))) ah)))) (ae 6)) ah)))
noncomputable def zP:FS:=(aG (aT 3 (aq aW (bx 1 aU (aa (ae 0) ah)) (aq dc (ae 1) (vC (.int 1)))))
    (aG (aT 4 (aq bf (aq aW (bx 1 aU (aa (ae 0) ah)) (aq dc (ae 2) (vC (.int 1)))) (a8 (g1 pW) (aa (aq uO (ae 3) (vC (.int 1))) ah))))
    (aG (aT 5 (bx 3 mi (aa (ae 0) (aa (a8 (g2 tY) (aa (vC (.int 2)) (aa (ae 3) ah))) (aa (ae 4) ah)))))
    (aG (aT 6 (aq aW (bx 1 aU (aa (ae 0) ah)) (vC (.int 3))))
    (aG (aT 7 (dX ah))
    (aG (cN ([8]++[]) oV (af 8) k')
    (aG (aT 9 (aq aV (dX (aa (vC (.int 40)) (aa (aq dc (vC (.int 1)) (aq aW (bx 1 aU (aa (ae 0) ah)) (a8 (g2 tY) (aa (vC (.int 1)) (aa (ae 4) ah))))) (aa (aq aW (bx 1 aU (aa (ae 0) ah)) (vC (.int 41))) ah)))) (aq aW (bx 1 aU (aa (ae 0) ah)) (vC (.int 3)))))
    (bF (bS (aa (ae 3) (aa (ae 5) (aa (a8 (g1 df) (aa (ae 7) ah)) (aa (ae 9) ah)))))))))))))
noncomputable def p_:FM:=ig 3 7 ([3]++([4]++([5]++([6]++([7]++(([8]++[])++([9]++[]))))))) zP
theorem xg:aE ["_law_drawn","_law_most","_law_ties_here","_law_things","_law_many","_law_rows","_law_way","_law_patience","_law_k","_law_asks"] ["_law_drawn","_law_most","_law_ties_here"] (aj qk):=⟨rfl,rfl,rfl,by decide+kernel,rfl,by decide+kernel,by decide+kernel⟩
theorem AX(h:aX K mg "_law_web" qk f fd ["_law_drawn","_law_most","_law_ties_here"])(T:i0 mg){fLties:Addr}{eLties:FuncData}(hLties:aX K mg "_law_ties" mC fLties eLties ["_law_drawn","_law_things","_law_many"])(GLties:aC P w K mg base bD 4 fLties eLties ["_law_drawn","_law_things","_law_many"] (bE K 3 mi)){fLnext:Addr}{eLnext:FuncData}(hLnext:aX K mg "_law_next" iH fLnext eLnext ["_law_drawn"])(GLnext:aC P w K mg base bD 1 fLnext eLnext ["_law_drawn"] (bE K 1 aU)):aC P w K mg base bD 5 f fd ["_law_drawn","_law_most","_law_ties_here"] (bE K 3 p_):=by
  have nd:=xg.nd
  exact h.fn xg rfl rfl (fun cdv A outer s H E hr=>(@ag _ _ _ _ _ _ _ _ (@ax _ _ _ _ _ 3 _ _ nd rfl (Or.inl rfl) (@aS _ _ _ _ _ _ _ (@aD _ _ _ _ _ _ _ _ _ _ _ _ _ _ _ hLnext GLnext (hr.mono (by decide)) ((¬0)∘ac) (by rfl) (by decide) (by rfl) (by rfl)) (@cO _ _ _ _ _ _ _ rfl (¬1) ab)) (by rfl) (by trivial))
      (@ag _ _ _ _ _ _ _ _ (@ax _ _ _ _ _ 4 _ _ nd rfl (Or.inl rfl) (@b_ _ _ _ _ _ _ _ rfl (@aS _ _ _ _ _ _ _ (@aD _ _ _ _ _ _ _ _ _ _ _ _ _ _ _ hLnext GLnext (hr.mono (by decide)) ((¬0)∘ac) (by rfl) (by decide) (by rfl) (by rfl)) (@cO _ _ _ _ _ _ _ rfl (¬2) ab)) (@bU _ _ _ _ _ _ _ _ _ (@b_int _ _) (by rfl) T.b_int ((@nK _ _ _ _ _ _ _ _ _ (@vd _ _) (¬3) ab (bh _))∘ac) (by decide) (by decide) (by rfl) (by rfl))) (by rfl) (by trivial))
      (@ag _ _ _ _ _ _ _ _ (@ax _ _ _ _ _ 5 _ _ nd rfl (Or.inl rfl) (@aD _ _ _ _ _ _ _ _ _ _ _ _ _ _ _ hLties GLties (hr.mono (by decide)) ((¬0)∘((@bU _ _ _ _ _ _ _ _ _ (@b_max _ _ rfl) (by rfl) T.b_max (ab∘((¬3)∘ac)) (by decide) (by decide) (by rfl) (by rfl))∘((¬4)∘ac))) (by rfl) (by decide) (by rfl) (by rfl)) (by rfl) (by trivial))
      (@ag _ _ _ _ _ _ _ _ (@ax _ _ _ _ _ 6 _ _ nd rfl (Or.inl rfl) (@aS _ _ _ _ _ _ _ (@aD _ _ _ _ _ _ _ _ _ _ _ _ _ _ _ hLnext GLnext (hr.mono (by decide)) ((¬0)∘ac) (by rfl) (by decide) (by rfl) (by rfl)) ab) (by rfl) (by trivial))
      (@ag _ _ _ _ _ _ _ _ (@ax _ _ _ _ _ 7 _ _ nd rfl (Or.inl rfl) (@bN _ _ _ _ _ ac) (by rfl) (by trivial))
      (@ag _ _ _ _ _ _ _ _ (@cL _ _ _ _ _ _ _ _ _ _ _ PassesOwn.never rfl (@cf _ _ _ _ _ _ _ rfl T.b_range ((¬3)∘ac) (by rfl)) (@ap _ _ _ 8 _ nd rfl (Or.inl rfl) (by trivial))
      (@am _ _ _ _ _ (@en _ _ _ _ _ (@dj _ _ _ _ _ _ _ _ _ rfl (¬7) ((@aA _ _ _ _ _ _ _ rfl (@bN _ _ _ _ _ (ab∘((@cO _ _ _ _ _ _ _ rfl ab (@aS _ _ _ _ _ _ _ (@aD _ _ _ _ _ _ _ _ _ _ _ _ _ _ _ hLnext GLnext (hr.mono (by decide)) ((¬0)∘ac) (by rfl) (by decide) (by rfl) (by rfl)) ab))∘((@aS _ _ _ _ _ _ _ (@aD _ _ _ _ _ _ _ _ _ _ _ _ _ _ _ hLnext GLnext (hr.mono (by decide)) ((¬0)∘ac) (by rfl) (by decide) (by rfl) (by rfl)) ab)∘ac)))) (¬6) (fun _ _=>rfl))∘ac) (by rfl) (by rfl) (by rfl) (by rfl) (by rfl)) (by rfl))) (by intro _;rfl))
      (@ag _ _ _ _ _ _ _ _ (@ax _ _ _ _ _ 9 _ _ nd rfl (Or.inl rfl) (@aA _ _ _ _ _ _ _ rfl (@bN _ _ _ _ _ (ab∘((@cO _ _ _ _ _ _ _ rfl ab (@aS _ _ _ _ _ _ _ (@aD _ _ _ _ _ _ _ _ _ _ _ _ _ _ _ hLnext GLnext (hr.mono (by decide)) ((¬0)∘ac) (by rfl) (by decide) (by rfl) (by rfl)) (@bU _ _ _ _ _ _ _ _ _ (@b_max _ _ rfl) (by rfl) T.b_max (ab∘((¬4)∘ac)) (by decide) (by decide) (by rfl) (by rfl))))∘((@aS _ _ _ _ _ _ _ (@aD _ _ _ _ _ _ _ _ _ _ _ _ _ _ _ hLnext GLnext (hr.mono (by decide)) ((¬0)∘ac) (by rfl) (by decide) (by rfl) (by rfl)) ab)∘ac)))) (@aS _ _ _ _ _ _ _ (@aD _ _ _ _ _ _ _ _ _ _ _ _ _ _ _ hLnext GLnext (hr.mono (by decide)) ((¬0)∘ac) (by rfl) (by decide) (by rfl) (by rfl)) ab) (fun _ _=>rfl)) (by rfl) (by trivial))
      (@am _ _ _ _ _ (@aK _ _ _ _ _ (@aP _ _ _ _ _ _ ((¬3)∘((¬5)∘((@bU _ _ _ _ _ _ _ _ _ (@b_tuple _ _ rfl) (by rfl) T.b_tuple ((¬7)∘ac) (by decide) (by decide) (by rfl) (by rfl))∘((¬9)∘ac)))))))))))))))
noncomputable def gN:FI:=(ia (ae 0))
noncomputable def dD:FS:=(aT 1 (bx 2 bJ (aa (ae 1) (aa (ae 2) ah))))
noncomputable def pP:FS:=(aG (aT 1 (bS (aa (vC (.int 0)) (aa (vC (.int 1)) ah))))
    (aG (cN ([2]++[1]) gN (af 2) dD)
    (bF (ae 1))))
noncomputable def fF:FM:=ig 1 2 ([1]++(([2]++[1])++[])) pP
theorem xf:aE ["_law_rows","_law_found","_law_one"] ["_law_rows"] (aj nP):=⟨rfl,rfl,rfl,by decide+kernel,rfl,by decide+kernel,by decide+kernel⟩
theorem AW(h:aX K mg "_law_sum" nP f fd ["_law_rows"])(T:i0 mg){fLplus:Addr}{eLplus:FuncData}(hLplus:aX K mg "_law_plus" gW fLplus eLplus ["_law_one","_law_other"])(GLplus:aC P w K mg base bD 3 fLplus eLplus ["_law_one","_law_other"] (bE K 2 bJ)):aC P w K mg base bD 4 f fd ["_law_rows"] (bE K 1 fF):=by
  have nd:=xf.nd
  exact h.fn xf rfl rfl (fun cdv A outer s H E hr=>(@ag _ _ _ _ _ _ _ _ (@ax _ _ _ _ _ 1 _ _ nd rfl (Or.inl rfl) (@aP _ _ _ _ _ _ (ab∘(ab∘ac))) (by rfl) (by trivial))
      (@ag _ _ _ _ _ _ _ _ (@cL _ _ _ _ _ _ _ _ _ _ _ PassesOwn.never rfl (@fR _ _ _ _ _ rfl (¬0)) (@ap _ _ _ 2 _ nd rfl (Or.inl rfl) (by trivial))
      (@am _ _ _ _ _ (@ax _ _ _ _ _ 1 _ _ nd rfl (Or.inl rfl) (@aD _ _ _ _ _ _ _ _ _ _ _ _ _ _ _ hLplus GLplus (hr.mono (by decide)) ((¬1)∘((¬2)∘ac)) (by rfl) (by decide) (by rfl) (by rfl)) (by rfl) (by trivial))) (by intro _;rfl))
      (@am _ _ _ _ _ (@aK _ _ _ _ _ (¬1))))))
noncomputable def kb:FI:=(ia (ae 4))
noncomputable def dy:FE:=(aq aV (ae 0) (ae 1))
noncomputable def kc:FI:=(ia (ae 4))
noncomputable def dz:FE:=(bx 2 bC (aa (aq aV (ae 0) (ae 2)) (aa (aq aV (aq aV (aq aV (ae 1) (vC (.int 1))) (ae 2)) (vC (.int 2))) ah)))
noncomputable def iP:FI:=(ci (aa (a8 (g1 jH) (aa (aq aV (ae 0) (vC (.int 1))) ah)) ah))
noncomputable def eE:FT:=(bv (aq (zW false) (ae 0) (B9 (aq aV (aq aV (ae 1) (vC (.int 1))) (ae 2)) qd (nI (vC (.int 2))))))
noncomputable def iN:FE:=(ae 2)
noncomputable def nB:FI:=(ci (aa (aq aV (ae 0) (vC (.int 0))) ah))
noncomputable def fW:FS:=(aG (aT 4 (cK [(3,"_law_end"),(0,"_law_web_here")] 1 iP (af 2) eE iN))
    (aG (gj (du bX (ae 2) (aa (bS (aa (bx 1 fF (aa (cK [(1,"_law_shares_here"),(0,"_law_web_here")] 1 kc (af 2) cJ dz) ah)) (aa (vC (.int 1)) ah))) ah)))
    (gj (du bX (ae 2) (aa (bS (aa (bx 1 fF (aa (cK [(1,"_law_shares_here")] 1 kb (af 1) cJ dy) ah)) (aa (aq aV (aq aV (ae 0) (vC (.int 2))) (ae 3)) ah))) ah)))))
noncomputable def oC:FS:=(aG (aT 2 (dX (aa (bS (aa (bx 1 fF (aa (ae 1) ah)) (aa (aq aV (ae 0) (vC (.int 3))) ah))) ah)))
    (aG (cN ([3]++([4]++([]++[]))) nB (af 3) fW)
    (bF (ae 2))))
noncomputable def iR:FM:=ig 2 3 ([2]++(([3]++([4]++([]++[])))++[])) oC
theorem qp:aE ["_law_web_here","_law_shares_here","_law_found","_law_end","_law_some"] ["_law_web_here","_law_shares_here"] (aj fH):=⟨rfl,rfl,rfl,by decide+kernel,rfl,by decide+kernel,by decide+kernel⟩
theorem wg(h:aX K mg "_law_loads" fH f fd ["_law_web_here","_law_shares_here"])(T:i0 mg){fLsum:Addr}{eLsum:FuncData}(hLsum:aX K mg "_law_sum" nP fLsum eLsum ["_law_rows"])(GLsum:aC P w K mg base bD 4 fLsum eLsum ["_law_rows"] (bE K 1 fF)){fLtimes:Addr}{eLtimes:FuncData}(hLtimes:aX K mg "_law_times" fJ fLtimes eLtimes ["_law_one","_law_other"])(GLtimes:aC P w K mg base bD 3 fLtimes eLtimes ["_law_one","_law_other"] (bE K 2 bC)):aC P w K mg base bD 5 f fd ["_law_web_here","_law_shares_here"] (bE K 2 iR):=by
  have nd:=qp.nd
  exact h.fn qp rfl rfl (fun cdv A outer s H E hr=>(@ag _ _ _ _ _ _ _ _ (@ax _ _ _ _ _ 2 _ _ nd rfl (Or.inl rfl) (@bN _ _ _ _ _ ((@aP _ _ _ _ _ _ ((@aD _ _ _ _ _ _ _ _ _ _ _ _ _ _ _ hLsum GLsum (hr.mono (by decide)) ((¬1)∘ac) (by rfl) (by decide) (by rfl) (by rfl))∘((@aA _ _ _ _ _ _ _ rfl (¬0) ab (fun _ _=>rfl))∘ac)))∘ac)) (by rfl) (by trivial))
      (@ag _ _ _ _ _ _ _ _ (@cL _ _ _ _ _ _ _ _ _ _ _ PassesOwn.never rfl (@cf _ _ _ _ _ _ _ rfl T.b_range ((@aA _ _ _ _ _ _ _ rfl (¬0) ab (fun _ _=>rfl))∘ac) (by rfl)) (@ap _ _ _ 3 _ nd rfl (Or.inr rfl) (by trivial))
      (@ag _ _ _ _ _ _ _ _ (@iU _ _ _ (4) _ _ _ _ _ _ _ _ _ _ _ _ _ (aj fH) ["_law_web_here","_law_shares_here","_law_found","_law_end","_law_some"] [(3,"_law_end"),(0,"_law_web_here")] ["_law_tie"] rfl rfl rfl (@cf _ _ _ _ _ _ _ rfl T.b_range ((@bU _ _ _ _ _ _ _ _ _ (@b_len _ _ rfl) (by rfl) T.b_len ((@aA _ _ _ _ _ _ _ rfl (¬0) ab (fun _ _=>rfl))∘ac) (by decide) (by decide) (by rfl) (by rfl))∘ac) (by rfl))
        (fun C s0 H0 fp=>(@ap _ _ _ 2 _ (show List.Nodup (["_law_end","_law_web_here","_law_tie"]:List Str) by decide+kernel) rfl (Or.inl rfl) (by trivial))) (fun C s0 H0 fp=>(@zg _ _ _ _ (@bL _ _ _ _ _ _ _ _ _ (@Eh _ _ _ rfl hr) (¬0) (@y9 _ _ _ _ _ _ _ _ _ _ rfl (@aA _ _ _ _ _ _ _ rfl (@aA _ _ _ _ _ _ _ rfl (¬1) ab (fun _ _=>rfl)) (¬2) (fun _ _=>rfl)) (@za _ _) (@zc _ _ _ _ ab)) (by with_unfolding_all rfl))))
        (fun C s0 H0 fp=>(¬2)) rfl (by decide+kernel) (by decide+kernel) (by decide+kernel) (by decide+kernel) (by decide+kernel) (by decide+kernel) (by decide+kernel) nd rfl rfl (by rfl) (by intro _;rfl))
      (@ag _ _ _ _ _ _ _ _ (@en _ _ _ _ _ (@dj _ _ _ _ _ _ _ _ _ rfl (¬2) ((@aP _ _ _ _ _ _ ((@aD _ _ _ _ _ _ _ _ _ _ _ _ _ _ _ hLsum GLsum (hr.mono (by decide)) ((@ph _ _ _ _ _ _ _ _ _ _ _ _ _ (aj fH) ["_law_web_here","_law_shares_here","_law_found","_law_end","_law_some"] [(1,"_law_shares_here"),(0,"_law_web_here")] ["_law_tie"] rfl rfl rfl (@fR _ _ _ _ _ rfl (¬4))
        (fun C s0 H0 fp=>(@ap _ _ _ 2 _ (show List.Nodup (["_law_shares_here","_law_web_here","_law_tie"]:List Str) by decide+kernel) rfl (Or.inl rfl) (by trivial))) (fun C s0 H0 fp=>(@gS _ _))
        (fun C s0 H0 fp=>(@aD _ _ _ _ _ _ _ _ _ _ _ _ _ _ _ hLtimes GLtimes (hr.mono (by decide)) ((@aA _ _ _ _ _ _ _ rfl (¬0) (¬2) (fun _ _=>rfl))∘((@aA _ _ _ _ _ _ _ rfl (@aA _ _ _ _ _ _ _ rfl (@aA _ _ _ _ _ _ _ rfl (¬1) ab (fun _ _=>rfl)) (¬2) (fun _ _=>rfl)) ab (fun _ _=>rfl))∘ac)) (by rfl) (by decide) (by rfl) (by rfl))) rfl (by decide+kernel) (by decide+kernel) (by decide+kernel) (by decide+kernel) (by decide+kernel) (by decide+kernel) (by decide+kernel) (by intro _;rfl))∘ac) (by rfl) (by decide) (by rfl) (by rfl))∘(ab∘ac)))∘ac) (by rfl) (by rfl) (by rfl) (by rfl) (by rfl)) (by rfl))
      (@am _ _ _ _ _ (@en _ _ _ _ _ (@dj _ _ _ _ _ _ _ _ _ rfl (¬2) ((@aP _ _ _ _ _ _ ((@aD _ _ _ _ _ _ _ _ _ _ _ _ _ _ _ hLsum GLsum (hr.mono (by decide)) ((@ph _ _ _ _ _ _ _ _ _ _ _ _ _ (aj fH) ["_law_web_here","_law_shares_here","_law_found","_law_end","_law_some"] [(1,"_law_shares_here")] ["_law_tie"] rfl rfl rfl (@fR _ _ _ _ _ rfl (¬4))
        (fun C s0 H0 fp=>(@ap _ _ _ 1 _ (show List.Nodup (["_law_shares_here","_law_tie"]:List Str) by decide+kernel) rfl (Or.inl rfl) (by trivial))) (fun C s0 H0 fp=>(@gS _ _))
        (fun C s0 H0 fp=>(@aA _ _ _ _ _ _ _ rfl (¬0) (¬1) (fun _ _=>rfl))) rfl (by decide+kernel) (by decide+kernel) (by decide+kernel) (by decide+kernel) (by decide+kernel) (by decide+kernel) (by decide+kernel) (by intro _;rfl))∘ac) (by rfl) (by decide) (by rfl) (by rfl))∘((@aA _ _ _ _ _ _ _ rfl (@aA _ _ _ _ _ _ _ rfl (¬0) ab (fun _ _=>rfl)) (¬3) (fun _ _=>rfl))∘ac)))∘ac) (by rfl) (by rfl) (by rfl) (by rfl) (by rfl)) (by rfl))))) (by intro _;rfl))
      (@am _ _ _ _ _ (@aK _ _ _ _ _ (¬2))))))
noncomputable def je:FI:=(ia (ae 2))
noncomputable def eP:FE:=(bx 2 dg (aa (aq bf (aq aV (ae 1) (vC (.int 0))) (aq aV (ae 0) (vC (.int 1)))) (aa (aq bf (aq aV (ae 1) (vC (.int 1))) (aq aV (ae 0) (vC (.int 0)))) ah)))
noncomputable def jf:FI:=(ia (bx 2 iR (aa (ae 0) (aa (ae 2) ah))))
noncomputable def cV:FS:=(k7 (mZ (bv (aq uO (ae 8) (vC (.int 0)))) (bv (bx 2 mh (aa (ae 6) (aa (bx 2 dg (aa (aq aV (ae 7) (vC (.int 0))) (aa (aq bf (aq aV (ae 7) (vC (.int 1))) (ae 8)) ah))) ah)))))
    (aT 6 (bx 2 dg (aa (aq aV (ae 7) (vC (.int 0))) (aa (aq bf (aq aV (ae 7) (vC (.int 1))) (ae 8)) ah))))
    ic)
noncomputable def jg:FI:=(i5 (aa (ae 1) (aa (aq aV (ae 0) (vC (.int 1))) ah)))
noncomputable def cn:FS:=(aG (aT 5 (r8 (aq (de false) (aq aV (ae 0) (vC (.int 3))) (vC (.int 0))) (r8 (aq (de false) (aq aV (aq aV (ae 0) (vC (.int 2))) (aq aV (ae 4) (vC (.int 0)))) (vC (.int 0))) (aq (de false) (aq aV (aq aV (ae 0) (vC (.int 2))) (aq aV (ae 4) (vC (.int 1)))) (vC (.int 0))))))
    (gj (du bX (ae 2) (aa (aq aV (dX (aa (ae 3) (aa (bS (aa (vC (.int 0)) (aa (vC (.int 1)) ah))) ah))) (a8 (g1 pW) (aa (ae 5) ah))) ah))))
noncomputable def pN:FS:=(aG (aT 2 (dX ah))
    (aG (cN (([3]++([4]++[]))++([5]++[])) jg (bB (ao (af 3) (ao (af 4) bo))) cn)
    (aG (aT 6 (bS (aa (vC (.int 1)) (aa (vC (.int 1)) ah))))
    (aG (cN (([7]++([8]++[]))++([6]++[])) jf (bB (ao (af 7) (ao (af 8) bo))) cV)
    (bF (a8 (g1 df) (aa (cK [(6,"_law_by")] 1 je (af 1) cJ eP) ah)))))))
noncomputable def iD:FM:=ig 2 7 ([2]++((([3]++([4]++[]))++([5]++[]))++([6]++((([7]++([8]++[]))++([6]++[]))++[])))) pN
theorem nV:aE ["_law_web_here","_law_shares_here","_law_own","_law_share","_law_tie","_law_shut","_law_by","_law_load","_law_most"] ["_law_web_here","_law_shares_here"] (aj gu):=⟨rfl,rfl,rfl,by decide+kernel,rfl,by decide+kernel,by decide+kernel⟩
theorem ui(h:aX K mg "_law_scaled" gu f fd ["_law_web_here","_law_shares_here"])(T:i0 mg){fLloads:Addr}{eLloads:FuncData}(hLloads:aX K mg "_law_loads" fH fLloads eLloads ["_law_web_here","_law_shares_here"])(GLloads:aC P w K mg base bD 5 fLloads eLloads ["_law_web_here","_law_shares_here"] (bE K 2 iR)){fLless:Addr}{eLless:FuncData}(hLless:aX K mg "_law_less" mz fLless eLless ["_law_one","_law_other"])(GLless:aC P w K mg base bD 1 fLless eLless ["_law_one","_law_other"] (bE K 2 mh)){fLlow:Addr}{eLlow:FuncData}(hLlow:aX K mg "_law_low" i7 fLlow eLlow ["_law_top","_law_bottom"])(GLlow:aC P w K mg base bD 2 fLlow eLlow ["_law_top","_law_bottom"] (bE K 2 dg)):aC P w K mg base bD 6 f fd ["_law_web_here","_law_shares_here"] (bE K 2 iD):=by
  have nd:=nV.nd
  exact h.fn nV rfl rfl (fun cdv A outer s H E hr=>(@ag _ _ _ _ _ _ _ _ (@ax _ _ _ _ _ 2 _ _ nd rfl (Or.inl rfl) (@bN _ _ _ _ _ ac) (by rfl) (by trivial))
      (@ag _ _ _ _ _ _ _ _ (@cL _ _ _ _ _ _ _ _ _ _ _ PassesOwn.never rfl (@lp _ _ _ _ _ _ _ _ _ _ rfl rfl T.b_zip ((¬1)∘((@aA _ _ _ _ _ _ _ rfl (¬0) ab (fun _ _=>rfl))∘ac)) (by rfl) (by rfl)) (@dS _ _ _ _ _ _ _ _ rfl rfl (@ay _ _ _ _ _ _ _ _ (@ap _ _ _ 3 _ nd rfl (Or.inl rfl) (by trivial)) (@ay _ _ _ _ _ _ _ _ (@ap _ _ _ 4 _ nd rfl (Or.inl rfl) (by trivial)) (@cS _ _) (by rfl)) (by rfl)) (aH (aH dR)) (by rfl) (by rfl))
      (@ag _ _ _ _ _ _ _ _ (@ax _ _ _ _ _ 5 _ _ nd rfl (Or.inl rfl) (@Ad _ _ _ _ _ _ _ _ (@nK _ _ _ _ _ _ _ _ _ (@lO _ _ _ rfl hr) (@aA _ _ _ _ _ _ _ rfl (¬0) ab (fun _ _=>rfl)) ab (bh _)) (@Ad _ _ _ _ _ _ _ _ (@nK _ _ _ _ _ _ _ _ _ (@lO _ _ _ rfl hr) (@aA _ _ _ _ _ _ _ rfl (@aA _ _ _ _ _ _ _ rfl (¬0) ab (fun _ _=>rfl)) (@aA _ _ _ _ _ _ _ rfl (¬4) ab (fun _ _=>rfl)) (fun _ _=>rfl)) ab (bh _)) (@BD _ _ _ _ _ _ (@nK _ _ _ _ _ _ _ _ _ (@lO _ _ _ rfl hr) (@aA _ _ _ _ _ _ _ rfl (@aA _ _ _ _ _ _ _ rfl (¬0) ab (fun _ _=>rfl)) (@aA _ _ _ _ _ _ _ rfl (¬4) ab (fun _ _=>rfl)) (fun _ _=>rfl)) ab (bh _))))) (by rfl) (by trivial))
      (@am _ _ _ _ _ (@en _ _ _ _ _ (@dj _ _ _ _ _ _ _ _ _ rfl (¬2) ((@aA _ _ _ _ _ _ _ rfl (@bN _ _ _ _ _ ((¬3)∘((@aP _ _ _ _ _ _ (ab∘(ab∘ac)))∘ac))) (@bU _ _ _ _ _ _ _ _ _ (@b_int _ _) (by rfl) T.b_int ((¬5)∘ac) (by decide) (by decide) (by rfl) (by rfl)) (fun _ _=>rfl))∘ac) (by rfl) (by rfl) (by rfl) (by rfl) (by rfl)) (by rfl)))) (by intro _;rfl))
      (@ag _ _ _ _ _ _ _ _ (@ax _ _ _ _ _ 6 _ _ nd rfl (Or.inr rfl) (@aP _ _ _ _ _ _ (ab∘(ab∘ac))) (by rfl) (by trivial))
      (@ag _ _ _ _ _ _ _ _ (@cL _ _ _ _ _ _ _ _ _ _ _ PassesOwn.never rfl (@fR _ _ _ _ _ rfl (@aD _ _ _ _ _ _ _ _ _ _ _ _ _ _ _ hLloads GLloads (hr.mono (by decide)) ((¬0)∘((¬2)∘ac)) (by rfl) (by decide) (by rfl) (by rfl))) (@dS _ _ _ _ _ _ _ _ rfl rfl (@ay _ _ _ _ _ _ _ _ (@ap _ _ _ 7 _ nd rfl (Or.inl rfl) (by trivial)) (@ay _ _ _ _ _ _ _ _ (@ap _ _ _ 8 _ nd rfl (Or.inl rfl) (by trivial)) (@cS _ _) (by rfl)) (by rfl)) (aH (aH dR)) (by rfl) (by rfl))
      (@am _ _ _ _ _ (@eW _ _ _ _ _ _ _ _ _ _ _ (@ze _ _ _ _ (@pk _ _ _ _ _ _ _ _ (@bL _ _ _ _ _ _ _ _ _ (@vd _ _) (¬8) ab (bh _)) (@lr _ _ _ _ _ (@rV _ _ _ _ (@aD _ _ _ _ _ _ _ _ _ _ _ _ _ _ _ hLless GLless (hr.mono (by decide)) ((¬6)∘((@aD _ _ _ _ _ _ _ _ _ _ _ _ _ _ _ hLlow GLlow (hr.mono (by decide)) ((@aA _ _ _ _ _ _ _ rfl (¬7) ab (fun _ _=>rfl))∘((@b_ _ _ _ _ _ _ _ rfl (@aA _ _ _ _ _ _ _ rfl (¬7) ab (fun _ _=>rfl)) (¬8))∘ac)) (by rfl) (by decide) (by rfl) (by rfl))∘ac)) (by rfl) (by decide) (by rfl) (by rfl)) (by intro _;rfl)))))
      (@am _ _ _ _ _ (@ax _ _ _ _ _ 6 _ _ nd rfl (Or.inr rfl) (@aD _ _ _ _ _ _ _ _ _ _ _ _ _ _ _ hLlow GLlow (hr.mono (by decide)) ((@aA _ _ _ _ _ _ _ rfl (¬7) ab (fun _ _=>rfl))∘((@b_ _ _ _ _ _ _ _ rfl (@aA _ _ _ _ _ _ _ rfl (¬7) ab (fun _ _=>rfl)) (¬8))∘ac)) (by rfl) (by decide) (by rfl) (by rfl)) (by rfl) (by trivial)))
      (@cH _ _))) (by intro _;rfl))
      (@am _ _ _ _ _ (@aK _ _ _ _ _ (@bU _ _ _ _ _ _ _ _ _ (@b_tuple _ _ rfl) (by rfl) T.b_tuple ((@ph _ _ _ _ _ _ _ _ _ _ _ _ _ (aj gu) ["_law_web_here","_law_shares_here","_law_own","_law_share","_law_tie","_law_shut","_law_by","_law_load","_law_most"] [(6,"_law_by")] ["_law_share"] rfl rfl rfl (@fR _ _ _ _ _ rfl (¬2))
        (fun C s0 H0 fp=>(@ap _ _ _ 1 _ (show List.Nodup (["_law_by","_law_share"]:List Str) by decide+kernel) rfl (Or.inl rfl) (by trivial))) (fun C s0 H0 fp=>(@gS _ _))
        (fun C s0 H0 fp=>(@aD _ _ _ _ _ _ _ _ _ _ _ _ _ _ _ hLlow GLlow (hr.mono (by decide)) ((@b_ _ _ _ _ _ _ _ rfl (@aA _ _ _ _ _ _ _ rfl (¬1) ab (fun _ _=>rfl)) (@aA _ _ _ _ _ _ _ rfl (¬0) ab (fun _ _=>rfl)))∘((@b_ _ _ _ _ _ _ _ rfl (@aA _ _ _ _ _ _ _ rfl (¬1) ab (fun _ _=>rfl)) (@aA _ _ _ _ _ _ _ rfl (¬0) ab (fun _ _=>rfl)))∘ac)) (by rfl) (by decide) (by rfl) (by rfl))) rfl (by decide+kernel) (by decide+kernel) (by decide+kernel) (by decide+kernel) (by decide+kernel) (by decide+kernel) (by decide+kernel) (by intro _;rfl))∘ac) (by decide) (by decide) (by rfl) (by rfl)))))))))
noncomputable def jh:FI:=(ia (aq aV (ae 1) (vC (.int 1))))
noncomputable def gG:FS:=(aG (aT 5 (bx 1 aU (aa (ae 0) ah)))
    (gj (du bX (ae 2) (aa (aq aV (dX (aa (bx 2 bZ (aa (ae 5) (aa (vC (.int 1)) ah))) (aa (bx 2 bZ (aa (ae 5) (aa (vC (.int 0)) ah))) (aa (bx 2 bZ (aa (ae 5) (aa (vC (.int 2)) ah))) ah)))) (ae 3)) ah))))
noncomputable def pO:FS:=(aG (aT 2 (dX ah))
    (aG (aT 3 (aq aW (bx 1 aU (aa (ae 0) ah)) (vC (.int 3))))
    (aG (cN ([4]++([5]++[])) jh (af 4) gG)
    (bF (a8 (g1 df) (aa (ae 2) ah))))))
noncomputable def iE:FM:=ig 2 4 ([2]++([3]++(([4]++([5]++[]))++[]))) pO
theorem nW:aE ["_law_drawn","_law_web_here","_law_found","_law_kind","_law_tie","_law_number"] ["_law_drawn","_law_web_here"] (aj iI):=⟨rfl,rfl,rfl,by decide+kernel,rfl,by decide+kernel,by decide+kernel⟩
theorem uj(h:aX K mg "_law_shares" iI f fd ["_law_drawn","_law_web_here"])(T:i0 mg){fLnext:Addr}{eLnext:FuncData}(hLnext:aX K mg "_law_next" iH fLnext eLnext ["_law_drawn"])(GLnext:aC P w K mg base bD 1 fLnext eLnext ["_law_drawn"] (bE K 1 aU)){fLchance:Addr}{eLchance:FuncData}(hLchance:aX K mg "_law_chance" gn fLchance eLchance ["_law_number","_law_kind"])(GLchance:aC P w K mg base bD 3 fLchance eLchance ["_law_number","_law_kind"] (bE K 2 bZ)):aC P w K mg base bD 4 f fd ["_law_drawn","_law_web_here"] (bE K 2 iE):=by
  have nd:=nW.nd
  exact h.fn nW rfl rfl (fun cdv A outer s H E hr=>(@ag _ _ _ _ _ _ _ _ (@ax _ _ _ _ _ 2 _ _ nd rfl (Or.inl rfl) (@bN _ _ _ _ _ ac) (by rfl) (by trivial))
      (@ag _ _ _ _ _ _ _ _ (@ax _ _ _ _ _ 3 _ _ nd rfl (Or.inl rfl) (@aS _ _ _ _ _ _ _ (@aD _ _ _ _ _ _ _ _ _ _ _ _ _ _ _ hLnext GLnext (hr.mono (by decide)) ((¬0)∘ac) (by rfl) (by decide) (by rfl) (by rfl)) ab) (by rfl) (by trivial))
      (@ag _ _ _ _ _ _ _ _ (@cL _ _ _ _ _ _ _ _ _ _ _ PassesOwn.never rfl (@fR _ _ _ _ _ rfl (@aA _ _ _ _ _ _ _ rfl (¬1) ab (fun _ _=>rfl))) (@ap _ _ _ 4 _ nd rfl (Or.inl rfl) (by trivial))
      (@ag _ _ _ _ _ _ _ _ (@ax _ _ _ _ _ 5 _ _ nd rfl (Or.inl rfl) (@aD _ _ _ _ _ _ _ _ _ _ _ _ _ _ _ hLnext GLnext (hr.mono (by decide)) ((¬0)∘ac) (by rfl) (by decide) (by rfl) (by rfl)) (by rfl) (by trivial))
      (@am _ _ _ _ _ (@en _ _ _ _ _ (@dj _ _ _ _ _ _ _ _ _ rfl (¬2) ((@aA _ _ _ _ _ _ _ rfl (@bN _ _ _ _ _ ((@aD _ _ _ _ _ _ _ _ _ _ _ _ _ _ _ hLchance GLchance (hr.mono (by decide)) ((¬5)∘(ab∘ac)) (by rfl) (by decide) (by rfl) (by rfl))∘((@aD _ _ _ _ _ _ _ _ _ _ _ _ _ _ _ hLchance GLchance (hr.mono (by decide)) ((¬5)∘(ab∘ac)) (by rfl) (by decide) (by rfl) (by rfl))∘((@aD _ _ _ _ _ _ _ _ _ _ _ _ _ _ _ hLchance GLchance (hr.mono (by decide)) ((¬5)∘(ab∘ac)) (by rfl) (by decide) (by rfl) (by rfl))∘ac)))) (¬3) (fun _ _=>rfl))∘ac) (by rfl) (by rfl) (by rfl) (by rfl) (by rfl)) (by rfl)))) (by intro _;rfl))
      (@am _ _ _ _ _ (@aK _ _ _ _ _ (@bU _ _ _ _ _ _ _ _ _ (@b_tuple _ _ rfl) (by rfl) T.b_tuple ((¬2)∘ac) (by decide) (by decide) (by rfl) (by rfl))))))))
noncomputable def iz:FI:=(ia (dX (aa (ae 5) (aa (aq aV (ae 6) (ae 2)) ah))))
noncomputable def ff:FS:=(aT 11 (bx 2 bJ (aa (ae 11) (aa (bS (aa (aq iu (vC (.int 0)) (aq aV (ae 12) (vC (.int 0)))) (aa (aq aV (ae 12) (vC (.int 1))) ah))) ah))))
noncomputable def iA:FI:=(ia (dX (aa (bx 2 bC (aa (ae 9) (aa (bx 2 bJ (aa (aq aV (ae 3) (ae 7)) (aa (aq aV (ae 3) (ae 8)) ah))) ah))) (aa (aq aV (ae 4) (ae 7)) (aa (aq aV (ae 4) (ae 8)) ah)))))
noncomputable def fj:FS:=(aT 11 (bx 2 bJ (aa (ae 11) (aa (bS (aa (aq iu (vC (.int 0)) (aq aV (ae 12) (vC (.int 0)))) (aa (aq aV (ae 12) (vC (.int 1))) ah))) ah))))
noncomputable def m8:FS:=(aG (my (ae 1) (bB (ao (af 3) (ao (af 4) (ao (af 5) (ao (af 6) bo))))))
    (aG (my (aq aV (aq aV (ae 0) (vC (.int 1))) (ae 2)) (bB (ao (af 7) (ao (af 8) (ao (af 9) (ao (af 10) bo))))))
    (aG (aT 11 (bx 2 bC (aa (ae 9) (aa (bS (aa (ae 10) (aa (vC (.int 1)) ah))) ah))))
    (aG (cN ([12]++[11]) iA (af 12) fj)
    (aG (cN ([12]++[11]) iz (af 12) ff)
    (bF (ae 11)))))))
noncomputable def eJ:FM:=ig 3 10 (([3]++([4]++([5]++([6]++[]))))++(([7]++([8]++([9]++([10]++[]))))++([11]++(([12]++[11])++(([12]++[11])++[]))))) m8
theorem mF:aE ["_law_web_here","_law_prices_here","_law_tie","_law_keeping","_law_bearing","_law_asking","_law_once","_law_one","_law_other","_law_chance_here","_law_worth_here","_law_found","_law_price_here"] ["_law_web_here","_law_prices_here","_law_tie"] (aj gq):=⟨rfl,rfl,rfl,by decide+kernel,rfl,by decide+kernel,by decide+kernel⟩
theorem rK(h:aX K mg "_law_lacking" gq f fd ["_law_web_here","_law_prices_here","_law_tie"])(T:i0 mg){fLtimes:Addr}{eLtimes:FuncData}(hLtimes:aX K mg "_law_times" fJ fLtimes eLtimes ["_law_one","_law_other"])(GLtimes:aC P w K mg base bD 3 fLtimes eLtimes ["_law_one","_law_other"] (bE K 2 bC)){fLplus:Addr}{eLplus:FuncData}(hLplus:aX K mg "_law_plus" gW fLplus eLplus ["_law_one","_law_other"])(GLplus:aC P w K mg base bD 3 fLplus eLplus ["_law_one","_law_other"] (bE K 2 bJ)):aC P w K mg base bD 4 f fd ["_law_web_here","_law_prices_here","_law_tie"] (bE K 3 eJ):=by
  have nd:=mF.nd
  exact h.fn mF rfl rfl (fun cdv A outer s H E hr=>(@ag _ _ _ _ _ _ _ _ (@kr _ _ _ _ _ _ _ _ (¬1) (@dS _ _ _ _ _ _ _ _ rfl rfl (@ay _ _ _ _ _ _ _ _ (@ap _ _ _ 3 _ nd rfl (Or.inl rfl) (by trivial)) (@ay _ _ _ _ _ _ _ _ (@ap _ _ _ 4 _ nd rfl (Or.inl rfl) (by trivial)) (@ay _ _ _ _ _ _ _ _ (@ap _ _ _ 5 _ nd rfl (Or.inl rfl) (by trivial)) (@ay _ _ _ _ _ _ _ _ (@ap _ _ _ 6 _ nd rfl (Or.inl rfl) (by trivial)) (@cS _ _) (by rfl)) (by rfl)) (by rfl)) (by rfl)) (aH (aH (aH (aH dR)))) (by rfl) (by rfl)) (by rfl) (by rfl) (by rfl))
      (@ag _ _ _ _ _ _ _ _ (@kr _ _ _ _ _ _ _ _ (@aA _ _ _ _ _ _ _ rfl (@aA _ _ _ _ _ _ _ rfl (¬0) ab (fun _ _=>rfl)) (¬2) (fun _ _=>rfl)) (@dS _ _ _ _ _ _ _ _ rfl rfl (@ay _ _ _ _ _ _ _ _ (@ap _ _ _ 7 _ nd rfl (Or.inl rfl) (by trivial)) (@ay _ _ _ _ _ _ _ _ (@ap _ _ _ 8 _ nd rfl (Or.inl rfl) (by trivial)) (@ay _ _ _ _ _ _ _ _ (@ap _ _ _ 9 _ nd rfl (Or.inl rfl) (by trivial)) (@ay _ _ _ _ _ _ _ _ (@ap _ _ _ 10 _ nd rfl (Or.inl rfl) (by trivial)) (@cS _ _) (by rfl)) (by rfl)) (by rfl)) (by rfl)) (aH (aH (aH (aH dR)))) (by rfl) (by rfl)) (by rfl) (by rfl) (by rfl))
      (@ag _ _ _ _ _ _ _ _ (@ax _ _ _ _ _ 11 _ _ nd rfl (Or.inl rfl) (@aD _ _ _ _ _ _ _ _ _ _ _ _ _ _ _ hLtimes GLtimes (hr.mono (by decide)) ((¬9)∘((@aP _ _ _ _ _ _ ((¬10)∘(ab∘ac)))∘ac)) (by rfl) (by decide) (by rfl) (by rfl)) (by rfl) (by trivial))
      (@ag _ _ _ _ _ _ _ _ (@cL _ _ _ _ _ _ _ _ _ _ _ PassesOwn.never rfl (@fR _ _ _ _ _ rfl (@bN _ _ _ _ _ ((@aD _ _ _ _ _ _ _ _ _ _ _ _ _ _ _ hLtimes GLtimes (hr.mono (by decide)) ((¬9)∘((@aD _ _ _ _ _ _ _ _ _ _ _ _ _ _ _ hLplus GLplus (hr.mono (by decide)) ((@aA _ _ _ _ _ _ _ rfl (¬3) (¬7) (fun _ _=>rfl))∘((@aA _ _ _ _ _ _ _ rfl (¬3) (¬8) (fun _ _=>rfl))∘ac)) (by rfl) (by decide) (by rfl) (by rfl))∘ac)) (by rfl) (by decide) (by rfl) (by rfl))∘((@aA _ _ _ _ _ _ _ rfl (¬4) (¬7) (fun _ _=>rfl))∘((@aA _ _ _ _ _ _ _ rfl (¬4) (¬8) (fun _ _=>rfl))∘ac))))) (@ap _ _ _ 12 _ nd rfl (Or.inl rfl) (by trivial))
      (@am _ _ _ _ _ (@ax _ _ _ _ _ 11 _ _ nd rfl (Or.inl rfl) (@aD _ _ _ _ _ _ _ _ _ _ _ _ _ _ _ hLplus GLplus (hr.mono (by decide)) ((¬11)∘((@aP _ _ _ _ _ _ ((@qg _ _ _ _ _ _ _ ab (@aA _ _ _ _ _ _ _ rfl (¬12) ab (fun _ _=>rfl)))∘((@aA _ _ _ _ _ _ _ rfl (¬12) ab (fun _ _=>rfl))∘ac)))∘ac)) (by rfl) (by decide) (by rfl) (by rfl)) (by rfl) (by trivial))) (by intro _;rfl))
      (@ag _ _ _ _ _ _ _ _ (@cL _ _ _ _ _ _ _ _ _ _ _ PassesOwn.never rfl (@fR _ _ _ _ _ rfl (@bN _ _ _ _ _ ((¬5)∘((@aA _ _ _ _ _ _ _ rfl (¬6) (¬2) (fun _ _=>rfl))∘ac)))) (@ap _ _ _ 12 _ nd rfl (Or.inl rfl) (by trivial))
      (@am _ _ _ _ _ (@ax _ _ _ _ _ 11 _ _ nd rfl (Or.inl rfl) (@aD _ _ _ _ _ _ _ _ _ _ _ _ _ _ _ hLplus GLplus (hr.mono (by decide)) ((¬11)∘((@aP _ _ _ _ _ _ ((@qg _ _ _ _ _ _ _ ab (@aA _ _ _ _ _ _ _ rfl (¬12) ab (fun _ _=>rfl)))∘((@aA _ _ _ _ _ _ _ rfl (¬12) ab (fun _ _=>rfl))∘ac)))∘ac)) (by rfl) (by decide) (by rfl) (by rfl)) (by rfl) (by trivial))) (by intro _;rfl))
      (@am _ _ _ _ _ (@aK _ _ _ _ _ (¬11)))))))))
noncomputable def k_:FS:=(bF (aq aV (dX (aa (bS (aa (aq aW (ae 0) (vC (.int 9))) (aa (vC (.int 1)) ah))) (aa (bx 2 dg (aa (aq aW (ae 0) (vC (.int 40))) (aa (aq dc (vC (.int 1)) (aq aW (aq dJ (ae 0) (vC (.int 40))) (vC (.int 9)))) ah))) (aa (bS (aa (vC (.int 0)) (aa (vC (.int 1)) ah))) ah)))) (ae 1)))
noncomputable def eh:FM:=ig 2 0 [] k_
theorem qr:aE ["_law_number","_law_kind"] ["_law_number","_law_kind"] (aj jU):=⟨rfl,rfl,rfl,by decide+kernel,rfl,by decide+kernel,by decide+kernel⟩
theorem wk(h:aX K mg "_law_price" jU f fd ["_law_number","_law_kind"])(T:i0 mg){fLlow:Addr}{eLlow:FuncData}(hLlow:aX K mg "_law_low" i7 fLlow eLlow ["_law_top","_law_bottom"])(GLlow:aC P w K mg base bD 2 fLlow eLlow ["_law_top","_law_bottom"] (bE K 2 dg)):aC P w K mg base bD 3 f fd ["_law_number","_law_kind"] (bE K 2 eh):=by
  have nd:=qr.nd
  exact h.fn qr rfl rfl (fun cdv A outer s H E hr=>(@am _ _ _ _ _ (@aK _ _ _ _ _ (@aA _ _ _ _ _ _ _ rfl (@bN _ _ _ _ _ ((@aP _ _ _ _ _ _ ((@aS _ _ _ _ _ _ _ (¬0) ab)∘(ab∘ac)))∘((@aD _ _ _ _ _ _ _ _ _ _ _ _ _ _ _ hLlow GLlow (hr.mono (by decide)) ((@aS _ _ _ _ _ _ _ (¬0) ab)∘((@cO _ _ _ _ _ _ _ rfl ab (@aS _ _ _ _ _ _ _ (@fQ _ _ _ _ _ _ _ (¬0) ab) ab))∘ac)) (by rfl) (by decide) (by rfl) (by rfl))∘((@aP _ _ _ _ _ _ (ab∘(ab∘ac)))∘ac)))) (¬1) (fun _ _=>rfl)))))
noncomputable def l9:FI:=(ci (aa (a8 (g1 jH) (aa (aq aV (ae 1) (vC (.int 1))) ah)) ah))
noncomputable def cm:FS:=(aG (aT 7 (uI 3 eJ (ae 1) (aa (ae 2) (aa (ae 3) (aa (ae 4) (aa (ae 5) ah)))) (aa (ae 6) ah)))
    (aG (my (aq aV (aq aV (ae 1) (vC (.int 1))) (ae 6)) (bB (ao (af 8) (ao (af 9) (ao (af 10) (ao (af 11) bo))))))
    (aG (aT 12 (aq aW (bx 1 aU (aa (ae 0) ah)) (vC (.int 3))))
    (k7 (mZ (bv (aq uO (aq aV (ae 7) (vC (.int 0))) (vC (.int 0)))) (bv (aq (de false) (ae 12) (vC (.int 0)))))
    (qm (ae 7) (ae 5) (ae 6))
    (k7 (mZ (bv (aq uO (aq aV (ae 7) (vC (.int 0))) (vC (.int 0)))) (bv (aq (de false) (ae 12) (vC (.int 1)))))
    (qm (bx 2 bJ (aa (aq aV (ae 2) (ae 8)) (aa (bx 2 dg (aa (aq bf (aq aV (ae 7) (vC (.int 0))) (aq aV (ae 10) (vC (.int 1)))) (aa (aq bf (aq aV (ae 7) (vC (.int 1))) (aq aV (ae 10) (vC (.int 0)))) ah))) ah))) (ae 2) (ae 8))
    (k7 (bv (aq uO (aq aV (ae 7) (vC (.int 0))) (vC (.int 0))))
    (qm (bx 2 bJ (aa (aq aV (ae 3) (ae 9)) (aa (ae 7) ah))) (ae 3) (ae 9))
    ic))))))
noncomputable def l_:FI:=(ci (aa (aq aV (ae 1) (vC (.int 0))) ah))
noncomputable def lV:FE:=(bx 2 eh (aa (bx 1 aU (aa (ae 0) ah)) (aa (aq aW (bx 1 aU (aa (ae 0) ah)) (vC (.int 3))) ah)))
noncomputable def gM:FI:=(ci (aa (aq aV (ae 1) (vC (.int 0))) ah))
noncomputable def eO:FE:=(bx 2 eh (aa (bx 1 aU (aa (ae 0) ah)) (aa (aq aW (bx 1 aU (aa (ae 0) ah)) (vC (.int 3))) ah)))
noncomputable def pM:FS:=(aG (aT 2 (cK [(0,"_law_drawn")] 1 gM (af 1) cJ eO))
    (aG (aT 3 (cK [(0,"_law_drawn")] 1 l_ (af 1) cJ lV))
    (aG (aT 4 (bx 2 eh (aa (bx 1 aU (aa (ae 0) ah)) (aa (aq aW (bx 1 aU (aa (ae 0) ah)) (vC (.int 3))) ah))))
    (aG (aT 5 (aq bf (dX (aa (bS (aa (vC (.int 0)) (aa (vC (.int 1)) ah))) ah)) (a8 (g1 jH) (aa (aq aV (ae 1) (vC (.int 1))) ah))))
    (aG (cN ([6]++([7]++(([8]++([9]++([10]++([11]++[]))))++([12]++([]++([]++([]++[]))))))) l9 (af 6) cm)
    (bF (bS (aa (a8 (g1 df) (aa (ae 2) ah)) (aa (a8 (g1 df) (aa (ae 3) ah)) (aa (ae 4) (aa (a8 (g1 df) (aa (ae 5) ah)) ah)))))))))))
noncomputable def iC:FM:=ig 2 11 ([2]++([3]++([4]++([5]++(([6]++([7]++(([8]++([9]++([10]++([11]++[]))))++([12]++([]++([]++([]++[])))))))++[]))))) pM
theorem nU:aE ["_law_drawn","_law_web_here","_law_keeping","_law_bearing","_law_asking","_law_once","_law_tie","_law_lack","_law_one","_law_other","_law_chance_here","_law_worth_here","_law_way"] ["_law_drawn","_law_web_here"] (aj eY):=⟨rfl,rfl,rfl,by decide+kernel,rfl,by decide+kernel,by decide+kernel⟩
theorem uh(h:aX K mg "_law_prices" eY f fd ["_law_drawn","_law_web_here"])(T:i0 mg){fLprice:Addr}{eLprice:FuncData}(hLprice:aX K mg "_law_price" jU fLprice eLprice ["_law_number","_law_kind"])(GLprice:aC P w K mg base bD 3 fLprice eLprice ["_law_number","_law_kind"] (bE K 2 eh)){fLnext:Addr}{eLnext:FuncData}(hLnext:aX K mg "_law_next" iH fLnext eLnext ["_law_drawn"])(GLnext:aC P w K mg base bD 1 fLnext eLnext ["_law_drawn"] (bE K 1 aU)){fLlacking:Addr}{eLlacking:FuncData}(hLlacking:aX K mg "_law_lacking" gq fLlacking eLlacking ["_law_web_here","_law_prices_here","_law_tie"])(GLlacking:aC P w K mg base bD 4 fLlacking eLlacking ["_law_web_here","_law_prices_here","_law_tie"] (bE K 3 eJ)){fLplus:Addr}{eLplus:FuncData}(hLplus:aX K mg "_law_plus" gW fLplus eLplus ["_law_one","_law_other"])(GLplus:aC P w K mg base bD 3 fLplus eLplus ["_law_one","_law_other"] (bE K 2 bJ)){fLlow:Addr}{eLlow:FuncData}(hLlow:aX K mg "_law_low" i7 fLlow eLlow ["_law_top","_law_bottom"])(GLlow:aC P w K mg base bD 2 fLlow eLlow ["_law_top","_law_bottom"] (bE K 2 dg)):aC P w K mg base bD 5 f fd ["_law_drawn","_law_web_here"] (bE K 2 iC):=by
  have nd:=nU.nd
  exact h.fn nU rfl rfl (fun cdv A outer s H E hr=>(@ag _ _ _ _ _ _ _ _ (@iU _ _ _ (2) _ _ _ _ _ _ _ _ _ _ _ _ _ (aj eY) ["_law_drawn","_law_web_here","_law_keeping","_law_bearing","_law_asking","_law_once","_law_tie","_law_lack","_law_one","_law_other","_law_chance_here","_law_worth_here","_law_way"] [(0,"_law_drawn")] ["_law_k"] rfl rfl rfl (@cf _ _ _ _ _ _ _ rfl T.b_range ((@aA _ _ _ _ _ _ _ rfl (¬1) ab (fun _ _=>rfl))∘ac) (by rfl))
        (fun C s0 H0 fp=>(@ap _ _ _ 1 _ (show List.Nodup (["_law_drawn","_law_k"]:List Str) by decide+kernel) rfl (Or.inl rfl) (by trivial))) (fun C s0 H0 fp=>(@gS _ _))
        (fun C s0 H0 fp=>(@aD _ _ _ _ _ _ _ _ _ _ _ _ _ _ _ hLprice GLprice (hr.mono (by decide)) ((@aD _ _ _ _ _ _ _ _ _ _ _ _ _ _ _ hLnext GLnext (hr.mono (by decide)) ((¬0)∘ac) (by rfl) (by decide) (by rfl) (by rfl))∘((@aS _ _ _ _ _ _ _ (@aD _ _ _ _ _ _ _ _ _ _ _ _ _ _ _ hLnext GLnext (hr.mono (by decide)) ((¬0)∘ac) (by rfl) (by decide) (by rfl) (by rfl)) ab)∘ac)) (by rfl) (by decide) (by rfl) (by rfl))) rfl (by decide+kernel) (by decide+kernel) (by decide+kernel) (by decide+kernel) (by decide+kernel) (by decide+kernel) (by decide+kernel) nd rfl rfl (by rfl) (by intro _;rfl))
      (@ag _ _ _ _ _ _ _ _ (@iU _ _ _ (3) _ _ _ _ _ _ _ _ _ _ _ _ _ (aj eY) ["_law_drawn","_law_web_here","_law_keeping","_law_bearing","_law_asking","_law_once","_law_tie","_law_lack","_law_one","_law_other","_law_chance_here","_law_worth_here","_law_way"] [(0,"_law_drawn")] ["_law_k"] rfl rfl rfl (@cf _ _ _ _ _ _ _ rfl T.b_range ((@aA _ _ _ _ _ _ _ rfl (¬1) ab (fun _ _=>rfl))∘ac) (by rfl))
        (fun C s0 H0 fp=>(@ap _ _ _ 1 _ (show List.Nodup (["_law_drawn","_law_k"]:List Str) by decide+kernel) rfl (Or.inl rfl) (by trivial))) (fun C s0 H0 fp=>(@gS _ _))
        (fun C s0 H0 fp=>(@aD _ _ _ _ _ _ _ _ _ _ _ _ _ _ _ hLprice GLprice (hr.mono (by decide)) ((@aD _ _ _ _ _ _ _ _ _ _ _ _ _ _ _ hLnext GLnext (hr.mono (by decide)) ((¬0)∘ac) (by rfl) (by decide) (by rfl) (by rfl))∘((@aS _ _ _ _ _ _ _ (@aD _ _ _ _ _ _ _ _ _ _ _ _ _ _ _ hLnext GLnext (hr.mono (by decide)) ((¬0)∘ac) (by rfl) (by decide) (by rfl) (by rfl)) ab)∘ac)) (by rfl) (by decide) (by rfl) (by rfl))) rfl (by decide+kernel) (by decide+kernel) (by decide+kernel) (by decide+kernel) (by decide+kernel) (by decide+kernel) (by decide+kernel) nd rfl rfl (by rfl) (by intro _;rfl))
      (@ag _ _ _ _ _ _ _ _ (@ax _ _ _ _ _ 4 _ _ nd rfl (Or.inl rfl) (@aD _ _ _ _ _ _ _ _ _ _ _ _ _ _ _ hLprice GLprice (hr.mono (by decide)) ((@aD _ _ _ _ _ _ _ _ _ _ _ _ _ _ _ hLnext GLnext (hr.mono (by decide)) ((¬0)∘ac) (by rfl) (by decide) (by rfl) (by rfl))∘((@aS _ _ _ _ _ _ _ (@aD _ _ _ _ _ _ _ _ _ _ _ _ _ _ _ hLnext GLnext (hr.mono (by decide)) ((¬0)∘ac) (by rfl) (by decide) (by rfl) (by rfl)) ab)∘ac)) (by rfl) (by decide) (by rfl) (by rfl)) (by rfl) (by trivial))
      (@ag _ _ _ _ _ _ _ _ (@ax _ _ _ _ _ 5 _ _ nd rfl (Or.inl rfl) (@b_ _ _ _ _ _ _ _ rfl (@bN _ _ _ _ _ ((@aP _ _ _ _ _ _ (ab∘(ab∘ac)))∘ac)) (@bU _ _ _ _ _ _ _ _ _ (@b_len _ _ rfl) (by rfl) T.b_len ((@aA _ _ _ _ _ _ _ rfl (¬1) ab (fun _ _=>rfl))∘ac) (by decide) (by decide) (by rfl) (by rfl))) (by rfl) (by trivial))
      (@ag _ _ _ _ _ _ _ _ (@cL _ _ _ _ _ _ _ _ _ _ _ PassesOwn.never rfl (@cf _ _ _ _ _ _ _ rfl T.b_range ((@bU _ _ _ _ _ _ _ _ _ (@b_len _ _ rfl) (by rfl) T.b_len ((@aA _ _ _ _ _ _ _ rfl (¬1) ab (fun _ _=>rfl))∘ac) (by decide) (by decide) (by rfl) (by rfl))∘ac) (by rfl)) (@ap _ _ _ 6 _ nd rfl (Or.inl rfl) (by trivial))
      (@ag _ _ _ _ _ _ _ _ (@ax _ _ _ _ _ 7 _ _ nd rfl (Or.inl rfl) (@Dd _ _ _ _ _ _ _ _ _ _ _ _ _ _ _ _ _ _ _ _ hLlacking GLlacking (hr.mono (by decide)) (¬1) (by rfl) ((¬2)∘((¬3)∘((¬4)∘((¬5)∘ac)))) ((¬6)∘ac) (by rfl) (by decide) (by rfl) (by rfl)) (by rfl) (by trivial))
      (@ag _ _ _ _ _ _ _ _ (@kr _ _ _ _ _ _ _ _ (@aA _ _ _ _ _ _ _ rfl (@aA _ _ _ _ _ _ _ rfl (¬1) ab (fun _ _=>rfl)) (¬6) (fun _ _=>rfl)) (@dS _ _ _ _ _ _ _ _ rfl rfl (@ay _ _ _ _ _ _ _ _ (@ap _ _ _ 8 _ nd rfl (Or.inl rfl) (by trivial)) (@ay _ _ _ _ _ _ _ _ (@ap _ _ _ 9 _ nd rfl (Or.inl rfl) (by trivial)) (@ay _ _ _ _ _ _ _ _ (@ap _ _ _ 10 _ nd rfl (Or.inl rfl) (by trivial)) (@ay _ _ _ _ _ _ _ _ (@ap _ _ _ 11 _ nd rfl (Or.inl rfl) (by trivial)) (@cS _ _) (by rfl)) (by rfl)) (by rfl)) (by rfl)) (aH (aH (aH (aH dR)))) (by rfl) (by rfl)) (by rfl) (by rfl) (by rfl))
      (@ag _ _ _ _ _ _ _ _ (@ax _ _ _ _ _ 12 _ _ nd rfl (Or.inl rfl) (@aS _ _ _ _ _ _ _ (@aD _ _ _ _ _ _ _ _ _ _ _ _ _ _ _ hLnext GLnext (hr.mono (by decide)) ((¬0)∘ac) (by rfl) (by decide) (by rfl) (by rfl)) ab) (by rfl) (by trivial))
      (@am _ _ _ _ _ (@eW _ _ _ _ _ _ _ _ _ _ _ (@ze _ _ _ _ (@pk _ _ _ _ _ _ _ _ (@bL _ _ _ _ _ _ _ _ _ (@vd _ _) (@aA _ _ _ _ _ _ _ rfl (¬7) ab (fun _ _=>rfl)) ab (bh _)) (@lr _ _ _ _ _ (@bL _ _ _ _ _ _ _ _ _ (@lO _ _ _ rfl hr) (¬12) ab (bh _)))))
      (@am _ _ _ _ _ (@rT _ _ _ _ _ _ _ _ _ _ (¬7) (¬5) (¬6) (by intro _;rfl) (by rfl) (by rfl) (by rfl)))
      (@am _ _ _ _ _ (@eW _ _ _ _ _ _ _ _ _ _ _ (@ze _ _ _ _ (@pk _ _ _ _ _ _ _ _ (@bL _ _ _ _ _ _ _ _ _ (@vd _ _) (@aA _ _ _ _ _ _ _ rfl (¬7) ab (fun _ _=>rfl)) ab (bh _)) (@lr _ _ _ _ _ (@bL _ _ _ _ _ _ _ _ _ (@lO _ _ _ rfl hr) (¬12) ab (bh _)))))
      (@am _ _ _ _ _ (@rT _ _ _ _ _ _ _ _ _ _ (@aD _ _ _ _ _ _ _ _ _ _ _ _ _ _ _ hLplus GLplus (hr.mono (by decide)) ((@aA _ _ _ _ _ _ _ rfl (¬2) (¬8) (fun _ _=>rfl))∘((@aD _ _ _ _ _ _ _ _ _ _ _ _ _ _ _ hLlow GLlow (hr.mono (by decide)) ((@b_ _ _ _ _ _ _ _ rfl (@aA _ _ _ _ _ _ _ rfl (¬7) ab (fun _ _=>rfl)) (@aA _ _ _ _ _ _ _ rfl (¬10) ab (fun _ _=>rfl)))∘((@b_ _ _ _ _ _ _ _ rfl (@aA _ _ _ _ _ _ _ rfl (¬7) ab (fun _ _=>rfl)) (@aA _ _ _ _ _ _ _ rfl (¬10) ab (fun _ _=>rfl)))∘ac)) (by rfl) (by decide) (by rfl) (by rfl))∘ac)) (by rfl) (by decide) (by rfl) (by rfl)) (¬2) (¬8) (by intro _;rfl) (by rfl) (by rfl) (by rfl)))
      (@am _ _ _ _ _ (@eW _ _ _ _ _ _ _ _ _ _ _ (@bL _ _ _ _ _ _ _ _ _ (@vd _ _) (@aA _ _ _ _ _ _ _ rfl (¬7) ab (fun _ _=>rfl)) ab (bh _))
      (@am _ _ _ _ _ (@rT _ _ _ _ _ _ _ _ _ _ (@aD _ _ _ _ _ _ _ _ _ _ _ _ _ _ _ hLplus GLplus (hr.mono (by decide)) ((@aA _ _ _ _ _ _ _ rfl (¬3) (¬9) (fun _ _=>rfl))∘((¬7)∘ac)) (by rfl) (by decide) (by rfl) (by rfl)) (¬3) (¬9) (by intro _;rfl) (by rfl) (by rfl) (by rfl)))
      (@cH _ _)))))))))) (by intro _;rfl))
      (@am _ _ _ _ _ (@aK _ _ _ _ _ (@aP _ _ _ _ _ _ ((@bU _ _ _ _ _ _ _ _ _ (@b_tuple _ _ rfl) (by rfl) T.b_tuple ((¬2)∘ac) (by decide) (by decide) (by rfl) (by rfl))∘((@bU _ _ _ _ _ _ _ _ _ (@b_tuple _ _ rfl) (by rfl) T.b_tuple ((¬3)∘ac) (by decide) (by decide) (by rfl) (by rfl))∘((¬4)∘((@bU _ _ _ _ _ _ _ _ _ (@b_tuple _ _ rfl) (by rfl) T.b_tuple ((¬5)∘ac) (by decide) (by decide) (by rfl) (by rfl))∘ac)))))))))))))
noncomputable def eQ:FI:=(ia (aq dc (tM (aa (ae 3) (aa (aq aV (ae 0) (vC (.int 2))) ah))) (dX (aa (bS (aa (ae 4) (aa (aq aV (ae 0) (vC (.int 3))) ah))) ah))))
noncomputable def cZ:FS:=(aT 6 (bx 2 bJ (aa (ae 6) (aa (bx 2 bC (aa (ae 7) (aa (bS (aa (ae 8) (aa (vC (.int 1)) ah))) ah))) ah))))
noncomputable def jz:FS:=(aG (my (ae 1) (bB (ao (af 2) (ao (af 3) (ao (af 4) (ao (af 5) bo))))))
    (aG (aT 6 (bx 2 bJ (aa (bx 1 fF (aa (ae 2) ah)) (aa (bx 1 fF (aa (ae 5) ah)) ah))))
    (aG (cN (([7]++([8]++[]))++[6]) eQ (bB (ao (af 7) (ao (af 8) bo))) cZ)
    (bF (ae 6)))))
noncomputable def dh:FM:=ig 2 7 (([2]++([3]++([4]++([5]++[]))))++([6]++((([7]++([8]++[]))++[6])++[]))) jz
theorem i8:aE ["_law_web_here","_law_prices_here","_law_keeping","_law_bearing","_law_asking","_law_once","_law_found","_law_price_here","_law_many"] ["_law_web_here","_law_prices_here"] (aj dq):=⟨rfl,rfl,rfl,by decide+kernel,rfl,by decide+kernel,by decide+kernel⟩
theorem mW(h:aX K mg "_law_prices_sum" dq f fd ["_law_web_here","_law_prices_here"])(T:i0 mg){fLplus:Addr}{eLplus:FuncData}(hLplus:aX K mg "_law_plus" gW fLplus eLplus ["_law_one","_law_other"])(GLplus:aC P w K mg base bD 3 fLplus eLplus ["_law_one","_law_other"] (bE K 2 bJ)){fLsum:Addr}{eLsum:FuncData}(hLsum:aX K mg "_law_sum" nP fLsum eLsum ["_law_rows"])(GLsum:aC P w K mg base bD 4 fLsum eLsum ["_law_rows"] (bE K 1 fF)){fLtimes:Addr}{eLtimes:FuncData}(hLtimes:aX K mg "_law_times" fJ fLtimes eLtimes ["_law_one","_law_other"])(GLtimes:aC P w K mg base bD 3 fLtimes eLtimes ["_law_one","_law_other"] (bE K 2 bC)):aC P w K mg base bD 5 f fd ["_law_web_here","_law_prices_here"] (bE K 2 dh):=by
  have nd:=i8.nd
  exact h.fn i8 rfl rfl (fun cdv A outer s H E hr=>(@ag _ _ _ _ _ _ _ _ (@kr _ _ _ _ _ _ _ _ (¬1) (@dS _ _ _ _ _ _ _ _ rfl rfl (@ay _ _ _ _ _ _ _ _ (@ap _ _ _ 2 _ nd rfl (Or.inl rfl) (by trivial)) (@ay _ _ _ _ _ _ _ _ (@ap _ _ _ 3 _ nd rfl (Or.inl rfl) (by trivial)) (@ay _ _ _ _ _ _ _ _ (@ap _ _ _ 4 _ nd rfl (Or.inl rfl) (by trivial)) (@ay _ _ _ _ _ _ _ _ (@ap _ _ _ 5 _ nd rfl (Or.inl rfl) (by trivial)) (@cS _ _) (by rfl)) (by rfl)) (by rfl)) (by rfl)) (aH (aH (aH (aH dR)))) (by rfl) (by rfl)) (by rfl) (by rfl) (by rfl))
      (@ag _ _ _ _ _ _ _ _ (@ax _ _ _ _ _ 6 _ _ nd rfl (Or.inl rfl) (@aD _ _ _ _ _ _ _ _ _ _ _ _ _ _ _ hLplus GLplus (hr.mono (by decide)) ((@aD _ _ _ _ _ _ _ _ _ _ _ _ _ _ _ hLsum GLsum (hr.mono (by decide)) ((¬2)∘ac) (by rfl) (by decide) (by rfl) (by rfl))∘((@aD _ _ _ _ _ _ _ _ _ _ _ _ _ _ _ hLsum GLsum (hr.mono (by decide)) ((¬5)∘ac) (by rfl) (by decide) (by rfl) (by rfl))∘ac)) (by rfl) (by decide) (by rfl) (by rfl)) (by rfl) (by trivial))
      (@ag _ _ _ _ _ _ _ _ (@cL _ _ _ _ _ _ _ _ _ _ _ PassesOwn.never rfl (@fR _ _ _ _ _ rfl (@cO _ _ _ _ _ _ _ rfl (@ur _ _ _ _ _ _ _ _ _ rfl rfl rfl T.b_list rfl T.b_zip ((¬3)∘((@aA _ _ _ _ _ _ _ rfl (¬0) ab (fun _ _=>rfl))∘ac)) (by rfl) (by rfl) (by rfl)) (@bN _ _ _ _ _ ((@aP _ _ _ _ _ _ ((¬4)∘((@aA _ _ _ _ _ _ _ rfl (¬0) ab (fun _ _=>rfl))∘ac)))∘ac)))) (@dS _ _ _ _ _ _ _ _ rfl rfl (@ay _ _ _ _ _ _ _ _ (@ap _ _ _ 7 _ nd rfl (Or.inl rfl) (by trivial)) (@ay _ _ _ _ _ _ _ _ (@ap _ _ _ 8 _ nd rfl (Or.inl rfl) (by trivial)) (@cS _ _) (by rfl)) (by rfl)) (aH (aH dR)) (by rfl) (by rfl))
      (@am _ _ _ _ _ (@ax _ _ _ _ _ 6 _ _ nd rfl (Or.inl rfl) (@aD _ _ _ _ _ _ _ _ _ _ _ _ _ _ _ hLplus GLplus (hr.mono (by decide)) ((¬6)∘((@aD _ _ _ _ _ _ _ _ _ _ _ _ _ _ _ hLtimes GLtimes (hr.mono (by decide)) ((¬7)∘((@aP _ _ _ _ _ _ ((¬8)∘(ab∘ac)))∘ac)) (by rfl) (by decide) (by rfl) (by rfl))∘ac)) (by rfl) (by decide) (by rfl) (by rfl)) (by rfl) (by trivial))) (by intro _;rfl))
      (@am _ _ _ _ _ (@aK _ _ _ _ _ (¬6)))))))
noncomputable def eR:FI:=(i5 (aa (ae 1) (aa (aq aV (ae 0) (vC (.int 1))) ah)))
noncomputable def c9:FS:=(aT 2 (bx 2 bJ (aa (ae 2) (aa (bx 2 bC (aa (bx 2 bC (aa (ae 3) (aa (aq aV (ae 4) (vC (.int 2))) ah))) (aa (bS (aa (aq aV (ae 4) (vC (.int 3))) (aa (vC (.int 1)) ah))) ah))) ah))))
noncomputable def jA:FS:=(aG (aT 2 (bS (aa (vC (.int 0)) (aa (vC (.int 1)) ah))))
    (aG (cN (([3]++([4]++[]))++[2]) eR (bB (ao (af 3) (ao (af 4) bo))) c9)
    (bF (ae 2))))
noncomputable def di:FM:=ig 2 3 ([2]++((([3]++([4]++[]))++[2])++[])) jA
theorem i9:aE ["_law_web_here","_law_shares_here","_law_found","_law_share","_law_tie"] ["_law_web_here","_law_shares_here"] (aj dr):=⟨rfl,rfl,rfl,by decide+kernel,rfl,by decide+kernel,by decide+kernel⟩
theorem mX(h:aX K mg "_law_shares_sum" dr f fd ["_law_web_here","_law_shares_here"])(T:i0 mg){fLplus:Addr}{eLplus:FuncData}(hLplus:aX K mg "_law_plus" gW fLplus eLplus ["_law_one","_law_other"])(GLplus:aC P w K mg base bD 3 fLplus eLplus ["_law_one","_law_other"] (bE K 2 bJ)){fLtimes:Addr}{eLtimes:FuncData}(hLtimes:aX K mg "_law_times" fJ fLtimes eLtimes ["_law_one","_law_other"])(GLtimes:aC P w K mg base bD 3 fLtimes eLtimes ["_law_one","_law_other"] (bE K 2 bC)):aC P w K mg base bD 4 f fd ["_law_web_here","_law_shares_here"] (bE K 2 di):=by
  have nd:=i9.nd
  exact h.fn i9 rfl rfl (fun cdv A outer s H E hr=>(@ag _ _ _ _ _ _ _ _ (@ax _ _ _ _ _ 2 _ _ nd rfl (Or.inl rfl) (@aP _ _ _ _ _ _ (ab∘(ab∘ac))) (by rfl) (by trivial))
      (@ag _ _ _ _ _ _ _ _ (@cL _ _ _ _ _ _ _ _ _ _ _ PassesOwn.never rfl (@lp _ _ _ _ _ _ _ _ _ _ rfl rfl T.b_zip ((¬1)∘((@aA _ _ _ _ _ _ _ rfl (¬0) ab (fun _ _=>rfl))∘ac)) (by rfl) (by rfl)) (@dS _ _ _ _ _ _ _ _ rfl rfl (@ay _ _ _ _ _ _ _ _ (@ap _ _ _ 3 _ nd rfl (Or.inl rfl) (by trivial)) (@ay _ _ _ _ _ _ _ _ (@ap _ _ _ 4 _ nd rfl (Or.inl rfl) (by trivial)) (@cS _ _) (by rfl)) (by rfl)) (aH (aH dR)) (by rfl) (by rfl))
      (@am _ _ _ _ _ (@ax _ _ _ _ _ 2 _ _ nd rfl (Or.inl rfl) (@aD _ _ _ _ _ _ _ _ _ _ _ _ _ _ _ hLplus GLplus (hr.mono (by decide)) ((¬2)∘((@aD _ _ _ _ _ _ _ _ _ _ _ _ _ _ _ hLtimes GLtimes (hr.mono (by decide)) ((@aD _ _ _ _ _ _ _ _ _ _ _ _ _ _ _ hLtimes GLtimes (hr.mono (by decide)) ((¬3)∘((@aA _ _ _ _ _ _ _ rfl (¬4) ab (fun _ _=>rfl))∘ac)) (by rfl) (by decide) (by rfl) (by rfl))∘((@aP _ _ _ _ _ _ ((@aA _ _ _ _ _ _ _ rfl (¬4) ab (fun _ _=>rfl))∘(ab∘ac)))∘ac)) (by rfl) (by decide) (by rfl) (by rfl))∘ac)) (by rfl) (by decide) (by rfl) (by rfl)) (by rfl) (by trivial))) (by intro _;rfl))
      (@am _ _ _ _ _ (@aK _ _ _ _ _ (¬2))))))
noncomputable def EY:FI:=(ci (aa (vC (.int 4)) ah))
noncomputable def Cv:FS:=(aG (aT 3 (bx 3 p_ (aa (ae 1) (aa (vC (.int 8)) (aa (vC (.int 12)) ah)))))
    (aG (aT 4 (bx 2 iD (aa (ae 3) (aa (bx 2 iE (aa (ae 1) (aa (ae 3) ah))) ah))))
    (aG (aT 5 (bx 2 iC (aa (ae 1) (aa (ae 3) ah))))
    (aG (aT 6 (a8 (g1 iw) (aa (bS (aa (ae 3) (aa (ae 4) (aa (ae 5) ah)))) ah)))
    (aG (k7 (qL (bv (bx 2 kf (aa (bx 2 cy (aa (ae 3) (aa (ae 4) ah))) (aa (bx 2 di (aa (ae 3) (aa (ae 4) ah))) ah)))))
    (bF (vC (.bool false)))
    ic)
    (aG (k7 (qL (bv (bx 2 kf (aa (bx 2 cx (aa (ae 3) (aa (ae 5) ah))) (aa (bx 2 dh (aa (ae 3) (aa (ae 5) ah))) ah)))))
    (bF (vC (.bool false)))
    ic)
    (k7 (bv (aq (de true) (a8 (g1 iw) (aa (bS (aa (ae 3) (aa (ae 4) (aa (ae 5) ah)))) ah)) (ae 6)))
    (bF (vC (.bool false)))
    ic)))))))
noncomputable def zQ:FS:=(aG (aT 1 (bx 1 jM (aa (ae 0) ah)))
    (aG (cN ([2]++([3]++([4]++([5]++([6]++(([]++[])++(([]++[])++([]++[])))))))) EY (af 2) Cv)
    (bF (vC (.bool true)))))
noncomputable def mj:FM:=ig 1 6 ([1]++(([2]++([3]++([4]++([5]++([6]++(([]++[])++(([]++[])++([]++[]))))))))++[])) zQ
theorem xh:aE ["_law_script","_law_drawn","_law_k","_law_web_here","_law_shares_here","_law_prices_here","_law_mark"] ["_law_script"] (aj mD):=⟨rfl,rfl,rfl,by decide+kernel,rfl,by decide+kernel,by decide+kernel⟩
theorem AY(h:aX K mg "law" mD f fd ["_law_script"])(T:i0 mg){fLdraws:Addr}{eLdraws:FuncData}(hLdraws:aX K mg "_law_draws" jS fLdraws eLdraws ["_law_script"])(GLdraws:aC P w K mg base bD 2 fLdraws eLdraws ["_law_script"] (bE K 1 jM)){fLweb:Addr}{eLweb:FuncData}(hLweb:aX K mg "_law_web" qk fLweb eLweb ["_law_drawn","_law_most","_law_ties_here"])(GLweb:aC P w K mg base bD 5 fLweb eLweb ["_law_drawn","_law_most","_law_ties_here"] (bE K 3 p_)){fLscaled:Addr}{eLscaled:FuncData}(hLscaled:aX K mg "_law_scaled" gu fLscaled eLscaled ["_law_web_here","_law_shares_here"])(GLscaled:aC P w K mg base bD 6 fLscaled eLscaled ["_law_web_here","_law_shares_here"] (bE K 2 iD)){fLprices:Addr}{eLprices:FuncData}(hLprices:aX K mg "_law_prices" eY fLprices eLprices ["_law_drawn","_law_web_here"])(GLprices:aC P w K mg base bD 5 fLprices eLprices ["_law_drawn","_law_web_here"] (bE K 2 iC)){fLshares:Addr}{eLshares:FuncData}(hLshares:aX K mg "_law_shares" iI fLshares eLshares ["_law_drawn","_law_web_here"])(GLshares:aC P w K mg base bD 4 fLshares eLshares ["_law_drawn","_law_web_here"] (bE K 2 iE)){fLsame:Addr}{eLsame:FuncData}(hLsame:aX K mg "_law_same" mB fLsame eLsame ["_law_found","_law_due"])(GLsame:aC P w K mg base bD 1 fLsame eLsame ["_law_found","_law_due"] (bE K 2 kf)){f_shares_worth:Addr}{e_shares_worth:FuncData}(h_shares_worth:aX K mg "shares_worth" bQ f_shares_worth e_shares_worth ["web","shares"])(G_shares_worth:aC P w K mg base bD 5 f_shares_worth e_shares_worth ["web","shares"] (bE K 2 cy)){fLshares_sum:Addr}{eLshares_sum:FuncData}(hLshares_sum:aX K mg "_law_shares_sum" dr fLshares_sum eLshares_sum ["_law_web_here","_law_shares_here"])(GLshares_sum:aC P w K mg base bD 4 fLshares_sum eLshares_sum ["_law_web_here","_law_shares_here"] (bE K 2 di)){f_prices_worth:Addr}{e_prices_worth:FuncData}(h_prices_worth:aX K mg "prices_worth" bP f_prices_worth e_prices_worth ["web","prices"])(G_prices_worth:aC P w K mg base bD 5 f_prices_worth e_prices_worth ["web","prices"] (bE K 2 cx)){fLprices_sum:Addr}{eLprices_sum:FuncData}(hLprices_sum:aX K mg "_law_prices_sum" dq fLprices_sum eLprices_sum ["_law_web_here","_law_prices_here"])(GLprices_sum:aC P w K mg base bD 5 fLprices_sum eLprices_sum ["_law_web_here","_law_prices_here"] (bE K 2 dh)):aC P w K mg base bD 7 f fd ["_law_script"] (bE K 1 mj):=by
  have nd:=xh.nd
  exact h.fn xh rfl rfl (fun cdv A outer s H E hr=>(@ag _ _ _ _ _ _ _ _ (@ax _ _ _ _ _ 1 _ _ nd rfl (Or.inl rfl) (@aD _ _ _ _ _ _ _ _ _ _ _ _ _ _ _ hLdraws GLdraws (hr.mono (by decide)) ((¬0)∘ac) (by rfl) (by decide) (by rfl) (by rfl)) (by rfl) (by trivial))
      (@ag _ _ _ _ _ _ _ _ (@cL _ _ _ _ _ _ _ _ _ _ _ PassesOwn.never rfl (@cf _ _ _ _ _ _ _ rfl T.b_range (ab∘ac) (by rfl)) (@ap _ _ _ 2 _ nd rfl (Or.inl rfl) (by trivial))
      (@ag _ _ _ _ _ _ _ _ (@ax _ _ _ _ _ 3 _ _ nd rfl (Or.inl rfl) (@aD _ _ _ _ _ _ _ _ _ _ _ _ _ _ _ hLweb GLweb (hr.mono (by decide)) ((¬1)∘(ab∘(ab∘ac))) (by rfl) (by decide) (by rfl) (by rfl)) (by rfl) (by trivial))
      (@ag _ _ _ _ _ _ _ _ (@ax _ _ _ _ _ 4 _ _ nd rfl (Or.inl rfl) (@aD _ _ _ _ _ _ _ _ _ _ _ _ _ _ _ hLscaled GLscaled (hr.mono (by decide)) ((¬3)∘((@aD _ _ _ _ _ _ _ _ _ _ _ _ _ _ _ hLshares GLshares (hr.mono (by decide)) ((¬1)∘((¬3)∘ac)) (by rfl) (by decide) (by rfl) (by rfl))∘ac)) (by rfl) (by decide) (by rfl) (by rfl)) (by rfl) (by trivial))
      (@ag _ _ _ _ _ _ _ _ (@ax _ _ _ _ _ 5 _ _ nd rfl (Or.inl rfl) (@aD _ _ _ _ _ _ _ _ _ _ _ _ _ _ _ hLprices GLprices (hr.mono (by decide)) ((¬1)∘((¬3)∘ac)) (by rfl) (by decide) (by rfl) (by rfl)) (by rfl) (by trivial))
      (@ag _ _ _ _ _ _ _ _ (@ax _ _ _ _ _ 6 _ _ nd rfl (Or.inl rfl) (@bU _ _ _ _ _ _ _ _ _ (@b_repr _ _ _ rfl hr) (by rfl) T.b_repr ((@aP _ _ _ _ _ _ ((¬3)∘((¬4)∘((¬5)∘ac))))∘ac) (by decide) (by decide) (by rfl) (by rfl)) (by rfl) (by trivial))
      (@ag _ _ _ _ _ _ _ _ (@eW _ _ _ _ _ _ _ _ _ _ _ (@wQ _ _ _ _ _ (@rV _ _ _ _ (@aD _ _ _ _ _ _ _ _ _ _ _ _ _ _ _ hLsame GLsame (hr.mono (by decide)) ((@aD _ _ _ _ _ _ _ _ _ _ _ _ _ _ _ h_shares_worth G_shares_worth (hr.mono (by decide)) ((¬3)∘((¬4)∘ac)) (by rfl) (by decide) (by rfl) (by rfl))∘((@aD _ _ _ _ _ _ _ _ _ _ _ _ _ _ _ hLshares_sum GLshares_sum (hr.mono (by decide)) ((¬3)∘((¬4)∘ac)) (by rfl) (by decide) (by rfl) (by rfl))∘ac)) (by rfl) (by decide) (by rfl) (by rfl)) (by intro _;rfl)))
      (@am _ _ _ _ _ (@aK _ _ _ _ _ (@sS _ _ _ _ _)))
      (@cH _ _))
      (@ag _ _ _ _ _ _ _ _ (@eW _ _ _ _ _ _ _ _ _ _ _ (@wQ _ _ _ _ _ (@rV _ _ _ _ (@aD _ _ _ _ _ _ _ _ _ _ _ _ _ _ _ hLsame GLsame (hr.mono (by decide)) ((@aD _ _ _ _ _ _ _ _ _ _ _ _ _ _ _ h_prices_worth G_prices_worth (hr.mono (by decide)) ((¬3)∘((¬5)∘ac)) (by rfl) (by decide) (by rfl) (by rfl))∘((@aD _ _ _ _ _ _ _ _ _ _ _ _ _ _ _ hLprices_sum GLprices_sum (hr.mono (by decide)) ((¬3)∘((¬5)∘ac)) (by rfl) (by decide) (by rfl) (by rfl))∘ac)) (by rfl) (by decide) (by rfl) (by rfl)) (by intro _;rfl)))
      (@am _ _ _ _ _ (@aK _ _ _ _ _ (@sS _ _ _ _ _)))
      (@cH _ _))
      (@am _ _ _ _ _ (@eW _ _ _ _ _ _ _ _ _ _ _ (@bL _ _ _ _ _ _ _ _ _ (@Av _ _ _ rfl hr) (@bU _ _ _ _ _ _ _ _ _ (@b_repr _ _ _ rfl hr) (by rfl) T.b_repr ((@aP _ _ _ _ _ _ ((¬3)∘((¬4)∘((¬5)∘ac))))∘ac) (by decide) (by decide) (by rfl) (by rfl)) (¬6) (bh _))
      (@am _ _ _ _ _ (@aK _ _ _ _ _ (@sS _ _ _ _ _)))
      (@cH _ _))))))))) (by intro _;rfl))
      (@am _ _ _ _ _ (@aK _ _ _ _ _ (@sS _ _ _ _ _))))))
local macro_rules | `(tactic| simp? [$ts,*]) => `(tactic| simp [$ts,*, ig, nH, aG, k7, bF, ic, aT, gj, my, rX, wK, bv, aq, Aj, ae, vC, dX, ah, aa, bS, a8, bx, mZ, EL, qL, EK, xA, r8, xD, B9, qd, nI, du, bX, AO, jj, i4, oJ, gH, cj, vk, tL, bB, ao, af, bo, cU, aI, bg, ym, eN, lY, jd, lh, oR, oP, ef, oO, l4, l0, l5, j_, lX, vF, kQ, rA, vG, rD, oQ, rB, rC, l7, l6, j', l8, vK, oy, lK, oz, oA, vg, j7, j6, jF, li, List.replicate, -List.map_nil, -List.map_cons, -List.nil_append, -List.cons_append, -Option.bind_some, -Option.map_some, -getElem?_pos, -List.append_nil, vw, vt, vn, vm, vp, vq, vo, vx])
theorem vi{n k:Int}(h:0 < k):0≤n % k:=Int.emod_nonneg _ (Int.ne_of_gt h)
theorem vj{n k:Int}(h:0 < k):n % k < k:=Int.emod_lt_of_pos _ h
def nx:List Int→Int
  | []=>0
  | d::_=>d
def hG(ds:List Int):Prop:=∀d∈ds,0≤d∧d < 2147483648
theorem Aa{ds:List Int}(h:hG ds):0≤nx ds∧nx ds < 2147483648:=by
  cases ds with
  | nil=>exact⟨Int.le_refl 0,by show(0:Int) < 2147483648;decide⟩
  | cons d r=>exact h d (by simp)
theorem DG{ds:List Int}(h:hG ds):hG ds.tail:=fun d hd=>h d (List.mem_of_mem_tail hd)
theorem B4(ds:List Int):aU [.l (ds.map .int)]=some (.d (.int (nx ds)),[.l (ds.tail.map .int)]):=by
  have hq:∀e:En,e[0]?=some (some (.l (ds.map .int)))→de false e (.s 0) (.l [])=some (.d (.bool (ds.map PyData.int).isEmpty)):=fun e he=>vD he (qC ds).1
  cases ds with
  | nil=>simp? [aU,rh,hq,nx]
  | cons d r=>simp? [aU,rh,hq,nx]
theorem gC{ds:List Int}(hd:hG ds):∃(n:Int) (ds':List Int),aU [.l (ds.map .int)]=some (.d (.int n),[.l (ds'.map .int)])∧0≤n∧n < 2147483648∧hG ds':=⟨nx ds,ds.tail,B4 ds,(Aa hd).1,(Aa hd).2,DG hd⟩
theorem tH(cell k:Int)(h0:0≤k)(h1:k≤1000):∃r,iS [.d (.int cell),.d (.int k)]=some (.d (.int r),[.d (.int cell),.d (.int k)])∧0≤r∧r < 2147483648:=by
  have a1:jk (cell % 2147483647) 48271=true:=mn (by decide) (by decide)
  have a2:jk 7919 k=true:=v_ (by decide) (by decide)
  have a3:jk (7919*k) k=true:=mn (by lia) (by lia)
  have a4:jk ((cell % 2147483647*48271+7919*k*k+104729) % 2147483647) ((cell % 2147483647*48271+7919*k*k+104729) % 2147483647)=true:=mn (by lia) (by lia)
  refine⟨_,by simp? [iS,sr,aJ,aO,a1,a2,a3,a4];rfl,?_,?_⟩
  · lia
  · lia
theorem oI{ds:List Int}(h:hG ds){r:Int}(h0:0≤r)(h1:r < 2147483648):hG (ds++[r]):=fun d hd=>by
  rcases List.mem_append.mp hd with hd | hd
  · exact h d hd
  · simp at hd;subst hd;exact⟨h0,h1⟩
abbrev dE(ns ds:List Int)(v2 v3 v4:Option Sv):En:=[some (.d (.list (ns.map .int))),some (.l (ds.map .int)),v2,v3,v4]
inductive DI (ns:List Int) (i:Nat):En→Prop
  | mk {ds v2 v3 v4} (hd:hG ds) (hl:ds.length≤1000*i):DI ns i (dE ns ds v2 v3 v4)
inductive DJ (ns:List Int) (k cell:Int) (n i:Nat):En→Prop
  | mk {ds v4} (hd:hG ds) (hl:ds.length=n+i):DJ ns k cell n i (dE ns ds (some (.d (.int k))) (some (.d (.int cell))) v4)
inductive DW (ns:List Int) (k:Int) (v4:Option Sv) (n:Nat):En→Prop
  | mk {cell ds} (hc:0≤cell) (hd:hG ds) (hl:ds.length≤max n 900):DW ns k v4 n (dE ns ds (some (.d (.int k))) (some (.d (.int cell))) v4)
theorem zw(ns:List Int)(hn:ns.length≤63):∃ds,jM [.d (.list (ns.map .int))]=some (.l (ds.map .int),[.d (.list (ns.map .int))])∧hG ds:=by
  have inner:∀(cell k:Int) (ds:List Int) (v4:Option Sv),0≤k→k≤63→hG ds→ds.length≤63000→∃ds' v4',(∀W,cN W iO (af 4) fV (dE ns ds (some (.d (.int k))) (some (.d (.int cell))) v4)=some (.nx (dE ns ds' (some (.d (.int k))) (some (.d (.int cell))) v4')))∧hG ds'∧ds'.length=ds.length+12:=by
    intro cell k ds v4 k0 k1 hd hl
    obtain⟨e',h1,h2⟩:=bj (own:=[]) (g:=af 4) (f:=fV) (DJ ns k cell ds.length) (a_ 0 12) 0 (dE ns ds (some (.d (.int k))) (some (.d (.int cell))) v4) (fun i x e hx hI=>by
      obtain⟨rfl,hi⟩:=cW hx
      obtain⟨hd',hl'⟩:=hI
      rename_i ds' v4'
      obtain⟨r1,c1,_,_⟩:=tH cell (3*(0+(i:Int))+1) (by lia) (by lia)
      obtain⟨r2,c2,c3,c4⟩:=tH r1 (0+(i:Int)+k+2) (by lia) (by lia)
      have a1:jk 3 (0+(i:Int))=true:=v_ (by decide) (by decide)
      refine⟨_,dE ns (ds'++[r2]) (some (.d (.int k))) (some (.d (.int cell))) (some (.d (.int (0+(i:Int))))),rfl,?_,a9,.mk (oI hd' c3 c4) (by simp;lia)⟩
      have hlen:ds'.length < 1000000:=by lia
      simp only [Int.zero_add] at a1 c1 c2
      simp? [dE,fV,c1,c2,aO,a1,hlen]) (.mk hd rfl)
    obtain⟨hd',hl'⟩:=h2
    rename_i ds' v4'
    rw [cz] at hl'
    refine⟨ds',v4',fun W=>?_,hd',by lia⟩
    rw [br (show iO _=some (a_ 0 12,[],_) from cq (n:=12) rfl (by decide) (by decide))]
    exact h1
  have wh:∀(cell k:Int) (ds:List Int) (v4:Option Sv),0≤cell→hG ds→ds.length≤63100→∃cell' ds',jn (2 ^ 4200) eD iL (dE ns ds (some (.d (.int k))) (some (.d (.int cell))) v4)=some (.nx (dE ns ds' (some (.d (.int k))) (some (.d (.int cell'))) v4))∧0≤cell'∧hG ds'∧ds'.length≤max ds.length 900:=by
    intro cell k ds v4 hc hd hl
    have tst:∀(cell:Int) (ds:List Int),eD (dE ns ds (some (.d (.int k))) (some (.d (.int cell))) v4)=some (decide (1000000000000000000≤cell)&&decide ((ds.length:Int) < 900),dE ns ds (some (.d (.int k))) (some (.d (.int cell))) v4):=by
      intro cell ds
      by_cases h:(1000000000000000000:Int)≤cell
      · simp? [dE,eD,jI,jQ,h]
      · simp? [dE,eD,jI,jQ,h]
    obtain⟨e0,e',h1,hI,h3⟩:=jr (ft:=eD) (f:=iL) (DW ns k v4 ds.length)
      (fun e=>1000000 - z9 1 e) (fun e hI=>by
        obtain⟨hc',hd',hl'⟩:=hI
        rename_i cell' ds'
        rw [tst]
        by_cases c1:(1000000000000000000:Int)≤cell'
        · by_cases c2:(ds'.length:Int) < 900
          · refine .inr ⟨_,dE ns (ds'++[cell' % 2147483629]) (some (.d (.int k))) (some (.d (.int (cell' / 2147483629)))) v4,by rw [decide_eq_true c1,decide_eq_true c2];rfl,?_,.mk (by lia) (oI hd' (by lia) (by lia)) (by simp;lia),?_⟩
            · have hlen:ds'.length < 1000000:=by lia
              have b8:Bt 8000 2147483629:=j5 (by decide) (by decide)
              simp? [dE,iL,aJ,eG,b8,hlen]
            · simp [z9,dE];lia
          · exact .inl ⟨_,by rw [decide_eq_true c1,decide_eq_false c2];rfl,trivial⟩
        · exact .inl ⟨_,by rw [decide_eq_false c1];rfl,trivial⟩) (2 ^ 4200) _ (.mk hc hd (by lia)) (o8 (m:=20) (Nat.lt_of_le_of_lt (Nat.sub_le _ _) (by decide)) (by decide))
    obtain⟨hc',hd',hl'⟩:=hI
    rename_i cell' ds'
    rw [tst] at h3
    have h4:=(Prod.mk.inj (Option.some.inj h3)).2
    subst h4
    exact⟨cell',ds',h1,hc',hd',hl'⟩
  have turn:∀(i:Nat) (ds:List Int) (v3 v4:Option Sv) (hi:i < ns.length),hG ds→ds.length≤1000*i→∃ds2 v3' v4',eB (dE ns ds (some (.d (.int (i:Int)))) v3 v4)=some (.nx (dE ns ds2 (some (.d (.int (i:Int)))) v3' v4'))∧hG ds2∧ds2.length≤1000*(i+1):=by
    intro i ds v3 v4 hi hd hl
    have hcell:atI (ns.map PyData.int) (i:Int)=some (.int ns[i]):=by
      rw [gF (by lia) (by rw [List.length_map];lia)]
      simp [hi]
    have c0:(0:Int)≤(ns[i].natAbs:Int):=by lia
    have st:aT 3 (a8 (g1 rp) (aa (aq aV (ae 0) (ae 2)) ah)) (dE ns ds (some (.d (.int (i:Int)))) v3 v4)=some (.nx (dE ns ds (some (.d (.int (i:Int)))) (some (.d (.int (ns[i].natAbs:Int)))) v4)):=by
      simp? [dE,hcell]
    generalize (ns[i].natAbs:Int)=cell at c0 st
    have mid:∃ds1 v4',k7 (bv (aq ye (ae 3) (aq rE (vC (.int 10)) (vC (.int 18))))) (cN ([4]++[]) iO (af 4) fV) ic (dE ns ds (some (.d (.int (i:Int)))) (some (.d (.int cell))) v4)=some (.nx (dE ns ds1 (some (.d (.int (i:Int)))) (some (.d (.int cell))) v4'))∧hG ds1∧ds1.length≤ds.length+12:=by
      by_cases cb:cell < 1000000000000000000
      · obtain⟨ds1,v4',f1,f2,f3⟩:=inner cell (i:Int) ds v4 (by lia) (by lia) hd (by lia)
        refine⟨ds1,v4',?_,f2,by lia⟩
        rw [Dr (e1:=dE ns ds (some (.d (.int (i:Int)))) (some (.d (.int cell))) v4) (by simp? [dE,jI,jQ,cb])]
        exact f1 _
      · refine⟨ds,v4,?_,hd,by lia⟩
        rw [Dq (e1:=dE ns ds (some (.d (.int (i:Int)))) (some (.d (.int cell))) v4) (by simp? [dE,jI,jQ,cb])]
        rfl
    obtain⟨ds1,v4',m1,m2,m3⟩:=mid
    obtain⟨cell2,ds2,w1,w2,w3,w4⟩:=wh cell (i:Int) ds1 v4' c0 m2 (by lia)
    by_cases c2:(2147483629:Int)≤cell2
    · refine⟨ds2++[cell2 % 2147483629],some (.d (.int cell2)),v4',?_,oI w3 (by lia) (by lia),by simp;lia⟩
      have hlen:ds2.length < 1000000:=by lia
      unfold eB
      rw [dH st,dH m1,dH w1]
      simp? [dE,c2,aJ,hlen]
    · refine⟨ds2,some (.d (.int cell2)),v4',?_,w3,by lia⟩
      unfold eB
      rw [dH st,dH m1,dH w1]
      simp? [dE,c2]
  obtain⟨e',h1,hI⟩:=bj (own:=[]) (g:=af 2) (f:=eB) (DI ns) (a_ 0 (min (ns.length:Int) 63).toNat) 0 (dE ns [] none none none) (fun i x e hx hI=>by
    obtain⟨rfl,hi⟩:=cW hx
    obtain⟨hd,hl⟩:=hI
    rename_i ds v2 v3 v4
    rw [Nat.zero_add] at hl ⊢
    obtain⟨ds2,v3',v4',t1,t2,t3⟩:=turn i ds v3 v4 (by lia) hd hl
    exact⟨dE ns ds (some (.d (.int (i:Int)))) v3 v4,_,by simp [af,dE],t1,a9,.mk t2 t3⟩) (.mk (fun d hd=>by cases hd) (by simp))
  obtain⟨hd,hl⟩:=hI
  rename_i ds v2 v3 v4
  refine⟨ds,?_,hd⟩
  have hf:∀W,cN W ka (af 2) eB (dE ns [] none none none)=some (.nx (dE ns ds v2 v3 v4)):=fun W=>by
    rw [br (show ka _=some (a_ 0 (min (ns.length:Int) 63).toNat,[],dE ns [] none none none) from cq (n:=min (ns.length:Int) 63) (by simp? [dE]) (by lia) (by lia))]
    exact h1
  unfold dE at hf
  simp only [List.map_nil] at hf
  simp? [jM,sk,hf]
theorem DD(a b:Int)(hb:Bt 4000 b):p9 [.d (.int a),.d (.int b)]=some (.d (.int (Int.gcd a b)),[.d (.int a),.d (.int b)]):=by
  have tst:∀x y:Int,jB [some (.d (.int x)),some (.d (.int y))]=some (!(y==0),[some (.d (.int x)),some (.d (.int y))]):=fun x y=>by simp? [jB]
  obtain⟨e0,e',h1,⟨x,y,he,hg,hy⟩,h3⟩:=jr (ft:=jB) (f:=k9) (fun e=>∃x y,e=[some (.d (.int x)),some (.d (.int y))]∧Int.gcd x y=Int.gcd a b∧Bt 4000 y) (nG 1) (fun e ⟨x,y,he,hg,hy⟩=>by
    subst he
    rw [tst]
    by_cases c:y=0
    · subst c;exact .inl ⟨_,rfl,trivial⟩
    · refine .inr ⟨_,[some (.d (.int y)),some (.d (.int (x.fmod y)))],by rw [beq_false_of_ne c];rfl,by simp? [k9,vI c],⟨y,x.fmod y,rfl,by rw [p6,hg],?_⟩,?_⟩
      · have:=fD x c
        exact Bt.of_le hy (by lia)
      · have:=fD x c
        simpa [nG] using this) (2 ^ 4200) _ ⟨a,b,rfl,rfl,hb⟩ (o8 (m:=4000) (by simpa [nG,Bt] using hb) (by decide))
  subst he
  rw [tst] at h3
  have h4:=Prod.mk.inj (Option.some.inj h3)
  have hy0:y=0:=by simpa using h4.1
  subst hy0
  have h5:=h4.2
  subst h5
  have hs:jn (2 ^ 4200) jB k9 [some (.d (.int a)),some (.d (.int b))]=some (.nx [some (.d (.int x)),some (.d (.int 0))]):=h1
  have hg':(x.natAbs:Int)=(Int.gcd a b:Int):=by rw [←hg];simp
  simp only [p9,zN,ig,nH,aG,k7,bF,ic,aT,gj,my,rX,wK,bv,aq,Aj,ae,vC,dX,ah,aa,bS,a8,bx,mZ,EL,qL,EK,xA,r8,xD,B9,qd,nI,du,bX,AO,jj,i4,oJ,gH,cj,vk,tL,bB,ao,af,bo,cU,aI,bg,ym,eN,lY,jd,lh,oR,oP,ef,oO,l4,l0,l5,j_,lX,vF,kQ,rA,vG,rD,oQ,rB,rC,l7,l6,j',l8,vK,oy,lK,oz,oA,vg,j7,j6,jF,li,List.replicate, -List.map_nil, -List.map_cons, -List.nil_append, -List.cons_append, -Option.bind_some, -Option.map_some, -getElem?_pos, -List.append_nil,vw,vt,vn,vm,vp,vq,vo,vx]
  simp? [hs,hg']
theorem jZ(t b:Int)(hb:0 < b)(h:Bt 4000 b):dg [.d (.int t),.d (.int b)]=some (.d (.tuple [.int (lowM t b).1,.int (lowM t b).2]),[.d (.int t),.d (.int b)]):=by
  have g0:=oS (t:=t) (b:=b) (by lia)
  have g1:(Int.gcd t b:Int)≠0:=by lia
  have g8:Bt 8000 (Int.gcd t b:Int):=(vL (t:=t) (by lia) h).mono (by decide)
  have e:lowM t b=(t.fdiv (Int.gcd t b:Int),b.fdiv (Int.gcd t b:Int)):=by unfold lowM;rw [if_neg (by lia)]
  rw [e]
  simp? [dg,zO,DD t b h,sI g1 g8]
theorem u9{i:Int}{n:Nat}(h1: -2147483648 < i)(h2:i < 2147483648)(hn:31≤n):Bt n i:=Bt.mono (m:=31) (by unfold Bt;lia) hn
def tX(t b:Int):Prop:=0≤t∧t≤b∧1≤b∧b≤100∧Int.gcd t b=1
theorem jY(n k:Int)(hn:0≤n):∃t b,bZ [.d (.int n),.d (.int k)]=some (.d (.tuple [.int t,.int b]),[.d (.int n),.d (.int k)])∧tX t b:=by
  have b9:Bt 8000 9:=j5 (by decide) (by decide)
  have b100:Bt 8000 100:=j5 (by decide) (by decide)
  have low:∀t b:Int,0 < b→0≤t→t≤b→b≤100→tX (lowM t b).1 (lowM t b).2:=fun t b hb h0 h1 h2=>by
    obtain⟨r1,r2,r3,r4⟩:=rG hb h0 h1 h2
    exact⟨r1,r2,r3,r4,mf (by lia)⟩
  by_cases c0:k=0
  · subst c0
    obtain⟨x,hx,ha⟩:=j4 (xs:=[PyData.tuple [.int 1,.int 2],.tuple [.int 1,.int 3],.tuple [.int 2,.int 3],.tuple [.int 1,.int 1],.tuple [.int 0,.int 1],.tuple [.int 3,.int 4]]) (i:=n % 6) (by lia) (by simp;lia)
    obtain⟨t,b,rfl,hc⟩:∃t b,x=.tuple [.int t,.int b]∧tX t b:=by
      simp only [List.mem_cons,List.not_mem_nil,or_false] at hx
      rcases hx with rfl | rfl | rfl | rfl | rfl | rfl<;>exact⟨_,_,rfl,by unfold tX;decide⟩
    exact⟨t,b,by simp? [bZ,ij,aJ,ha],hc⟩
  · by_cases c1:k=1
    · subst c1
      have hm:(n / 9) % (2+n % 9 - 1) < 2+n % 9 - 1:=Int.emod_lt_of_pos _ (by lia)
      have hm0:0≤(n / 9) % (2+n % 9 - 1):=Int.emod_nonneg _ (by lia)
      refine⟨_,_,?_,low (1+(n / 9) % (2+n % 9 - 1)) (2+n % 9) (by lia) (by lia) (by lia) (by lia)⟩
      have hpos:∀e:En,aW e (.d (.int (n / 9))) (.d (.int (2+n % 9 - 1)))=_:=fun e=>aJ (by lia)
      have hl:=jZ (1+(n / 9) % (2+n % 9 - 1)) (2+n % 9) (by lia) (u9 (by lia) (by lia) (by decide))
      simp? [bZ,ij,aJ,eG,b9,hpos,hl]
    · by_cases c2:k=2
      · subst c2
        have hm:(n / 100) % (1+n % 100+1) < 1+n % 100+1:=Int.emod_lt_of_pos _ (by lia)
        have hm0:0≤(n / 100) % (1+n % 100+1):=Int.emod_nonneg _ (by lia)
        refine⟨_,_,?_,low ((n / 100) % (1+n % 100+1)) (1+n % 100) (by lia) (by lia) (by lia) (by lia)⟩
        have hpos:∀e:En,aW e (.d (.int (n / 100))) (.d (.int (1+n % 100+1)))=_:=fun e=>aJ (by lia)
        have hl:=jZ ((n / 100) % (1+n % 100+1)) (1+n % 100) (by lia) (u9 (by lia) (by lia) (by decide))
        simp? [bZ,ij,aJ,eG,b100,hpos,hl]
      · refine⟨1,1,?_,by unfold tX;decide⟩
        simp? [bZ,ij,c0,c1,c2]
theorem zz(n k:Int):∃r,jN [.d (.int n),.d (.int k)]=some (.d (.int r),[.d (.int n),.d (.int k)])∧0≤r∧r≤1000:=by
  obtain⟨x,hx,ha⟩:=j4 (xs:=[PyData.int (n % 7),.int (5+n % 2),.int (n % 1001),.int (1000 - n % 3)]) (i:=k % 4) (by lia) (by simp;lia)
  obtain⟨r,rfl,hr⟩:∃r,x=.int r∧0≤r∧r≤1000:=by
    simp only [List.mem_cons,List.not_mem_nil,or_false] at hx
    rcases hx with rfl | rfl | rfl | rfl<;>exact⟨_,rfl,by lia,by lia⟩
  exact⟨r,by simp? [jN,sv,aJ,ha],hr⟩
abbrev tE(ds:List Int)(things many shape odds ws:Int)(ts:List fP)(v7 v8 v9 v10 v11 v12:Option Sv):En:=[some (.l (ds.map .int)),some (.d (.int things)),some (.d (.int many)),some (.d (.int shape)),some (.d (.int odds)),some (.d (.int ws)),some (.l (ts.map aY)),v7,v8,v9,v10,v11,v12]
inductive TR (things many shape odds ws:Int) (ts:List fP) (k:Option Sv):En→Prop
  | mk {t ds w8 w9 w10 w11 w12} (hd:hG ds) (ht:t.Ok things):TR things many shape odds ws ts k (tE ds things many shape odds ws (ts++[t]) k w8 w9 w10 w11 w12)
inductive TI (things many a b c:Int) (i:Nat):En→Prop
  | mk {ts ds w7 w8 w9 w10 w11 w12} (hd:hG ds) (hl:ts.length=i) (ht:∀t∈ts,t.Ok things):TI things many a b c i (tE ds things many a b c ts w7 w8 w9 w10 w11 w12)
theorem DE(ds:List Int)(things many shape odds ws:Int)(ts:List fP)(k:Int)(v8 v9 v10 v11 v12:Option Sv)(hd:hG ds)(h2:2≤things)(h12:things≤100)(s0:0≤shape)(s1:shape < 6)(k0:0≤k)(hl:ts.length≤1000):
    ∃e',fX (tE ds things many shape odds ws ts (some (.d (.int k))) v8 v9 v10 v11 v12)=some (.nx e')∧TR things many shape odds ws ts (some (.d (.int k))) e':=by
  obtain⟨n,d1,tn, -, -,hd1⟩:=gC hd
  obtain⟨m,d2,tm,m0, -,hd2⟩:=gC hd1
  obtain⟨x,hx,ha⟩:=j4 (xs:=[PyData.int (n % things),.int 0,.int (k % things),.int (n % things),.int (n % 2),.int (n % things)]) (i:=shape) s0 (by simp;lia)
  have tp:0 < things:=Int.lt_of_lt_of_le (by decide) h2
  have tq:0 < things - 1:=Int.sub_pos_of_lt (Int.lt_of_lt_of_le (by decide) h2)
  have nt:0≤n % things∧n % things < things:=⟨vi tp,vj tp⟩
  have kt:0≤k % things∧k % things < things:=⟨vi tp,vj tp⟩
  obtain⟨one,rfl,o0,o1⟩:∃r,x=.int r∧0≤r∧r < things:=by
    simp only [List.mem_cons,List.not_mem_nil,or_false] at hx
    rcases hx with rfl | rfl | rfl | rfl | rfl | rfl<;>exact⟨_,rfl,by lia,by lia⟩
  have r0:0≤(n / 12) % (things - 1):=vi tq
  have r1:(n / 12) % (things - 1) < things - 1:=vj tq
  have q0:0≤(one+1+(n / 12) % (things - 1)) % things:=vi tp
  have q1:(one+1+(n / 12) % (things - 1)) % things < things:=vj tp
  have qn:(one+1+(n / 12) % (things - 1)) % things≠one:=fun z=>by
    by_cases c:one+1+(n / 12) % (things - 1) < things
    · rw [Int.emod_eq_of_lt (by lia) c] at z;lia
    · have e:(one+1+(n / 12) % (things - 1)) % things=(one+1+(n / 12) % (things - 1) - things) % things:=by rw [Int.sub_emod_right]
      rw [e,Int.emod_eq_of_lt (by lia) (by lia)] at z;lia
  obtain⟨t,b,c1,c2,c3,c4,c5,c6⟩:=jY m odds m0
  obtain⟨w,w1,w2,w3⟩:=zz (m / 10007) ws
  have b12:Bt 8000 12:=j5 (by decide) (by decide)
  have b107:Bt 8000 10007:=j5 (by decide) (by decide)
  have g1:∀(e:En) (i:Int),aW e (.d (.int i)) (.d (.int things))=some (.d (.int (i % things))):=fun e i=>aJ tp
  have g2:∀(e:En) (i:Int),aW e (.d (.int i)) (.d (.int (things - 1)))=some (.d (.int (i % (things - 1)))):=fun e i=>aJ tq
  have hlen:ts.length < 1000000:=by lia
  by_cases c:shape=4
  · subst c
    refine⟨tE d2 things many 4 odds ws (ts++[⟨0,1,t,b,w⟩]) (some (.d (.int k))) (some (.d (.int n))) (some (.d (.int 0))) (some (.d (.int 1))) (some (.d (.int m))) (some (.d (.tuple [.int 0,.int 1]))),?_,.mk hd2 ⟨by show(0:Int)≤0;decide,by show(0:Int) < 1;decide,by show(1:Int) < things;lia,c2,c3,c4,c5,w2,w3,c6⟩⟩
    simp? [tE,fX,tn,tm,aJ,g1,g2,eG,b12,b107,ha,c1,w1,vB,aY,hlen]
    decide
  · refine⟨tE d2 things many shape odds ws (ts++[⟨min one ((one+1+(n / 12) % (things - 1)) % things),max one ((one+1+(n / 12) % (things - 1)) % things),t,b,w⟩]) (some (.d (.int k))) (some (.d (.int n))) (some (.d (.int one))) (some (.d (.int ((one+1+(n / 12) % (things - 1)) % things)))) (some (.d (.int m))) (some (.d (.tuple [.int (min one ((one+1+(n / 12) % (things - 1)) % things)),.int (max one ((one+1+(n / 12) % (things - 1)) % things))]))),?_,.mk hd2 ⟨by show 0≤min _ _;lia,by show min _ _ < max _ _;lia,by show max _ _ < _;lia,c2,c3,c4,c5,w2,w3,c6⟩⟩
    simp? [tE,fX,tn,tm,aJ,g1,g2,eG,b12,b107,ha,c1,w1,vB,aY,hlen,c]
theorem B5(ds:List Int)(things many:Int)(hd:hG ds)(h2:2≤things)(h12:things≤100)(m0:0≤many)(m1:many≤1000):∃(ts:List fP) (ds':List Int),mi [.l (ds.map .int),.d (.int things),.d (.int many)]=some (.d (.tuple (ts.map aY)),[.l (ds'.map .int),.d (.int things),.d (.int many)])∧hG ds'∧(ts.length:Int)=many∧∀t∈ts,t.Ok things:=by
  obtain⟨n0,d1,t0, -, -,hd1⟩:=gC hd
  obtain⟨n1,d2,t1, -, -,hd2⟩:=gC hd1
  obtain⟨n2,d3,t2, -, -,hd3⟩:=gC hd2
  obtain⟨e',h1,hI⟩:=bj (own:=[]) (g:=af 7) (f:=fX) (TI things many (n0 % 6) (n1 % 4) (n2 % 4)) (a_ 0 many.toNat) 0 (tE d3 things many (n0 % 6) (n1 % 4) (n2 % 4) [] none none none none none none) (fun i x e hx hI=>by
    obtain⟨rfl,hi⟩:=cW hx
    obtain⟨hd',hl,ht⟩:=hI
    rename_i ts ds' w7 w8 w9 w10 w11 w12
    obtain⟨e9,s1,⟨s2,s3⟩⟩:=DE ds' things many (n0 % 6) (n1 % 4) (n2 % 4) ts (0+(i:Int)) w8 w9 w10 w11 w12 hd' h2 h12 (vi (by decide)) (vj (by decide)) (by lia) (by lia)
    exact⟨_,_,rfl,s1,a9,.mk s2 (by simp;lia) fun z hz=>by
      rcases List.mem_append.mp hz with hz | hz
      · exact ht z hz
      · simp at hz;subst hz;exact s3⟩) (.mk hd3 rfl fun t ht=>by cases ht)
  obtain⟨hd',hl,ht⟩:=hI
  rename_i ts ds' w7 w8 w9 w10 w11 w12
  refine⟨ts,ds',?_,hd',by rw [hl,cz];lia,ht⟩
  have hf:∀W,cN W ma (af 7) fX (tE d3 things many (n0 % 6) (n1 % 4) (n2 % 4) [] none none none none none none)=some (.nx (tE ds' things many (n0 % 6) (n1 % 4) (n2 % 4) ts w7 w8 w9 w10 w11 w12)):=fun W=>by
    rw [br (show ma _=some (a_ 0 many.toNat,[],tE d3 things many (n0 % 6) (n1 % 4) (n2 % 4) [] none none none none none none) from cq (n:=many) (by simp? [tE]) (by lia) (by lia))]
    exact h1
  unfold tE at hf
  simp only [List.map_nil] at hf
  simp? [mi,uZ,t0,t1,t2,aJ,hf]
abbrev wE(ds:List Int)(most tn things many:Int)(ts:List fP)(way:Int)(ps:List Int)(v8 v9:Option Sv):En:=[some (.l (ds.map .int)),some (.d (.int most)),some (.d (.int tn)),some (.d (.int things)),some (.d (.int many)),some (.d (.tuple (ts.map aY))),some (.d (.int way)),some (.l (ps.map .int)),v8,v9]
inductive WI (most tn things many:Int) (ts:List fP) (way:Int) (i:Nat):En→Prop
  | mk {ps ds w8} (hd:hG ds) (hpl:ps.length=i) (hps:∀p∈ps,0≤p∧p≤20):WI most tn things many ts way i (wE ds most tn things many ts way ps w8 none)
theorem DF(ds:List Int)(most tn:Int)(hd:hG ds)(m0:0≤most)(m1:most≤12)(k0:0≤tn)(k1:tn≤16):∃(W:aR) (ds':List Int),p_ [.l (ds.map .int),.d (.int most),.d (.int tn)]=some (.d (ar W),[.l (ds'.map .int),.d (.int most),.d (.int tn)])∧hG ds'∧W.Ok∧W.things≤most∧(W.ties.length:Int)≤tn:=by
  obtain⟨n0,d1,t0, -, -,hd1⟩:=gC hd
  obtain⟨n1,d2,t1, -, -,hd2⟩:=gC hd1
  have mp:0 < most+1:=Int.lt_add_one_of_le m0
  have kp:0 < tn+1:=Int.lt_add_one_of_le k0
  have g0:∀(e:En),aW e (.d (.int n0)) (.d (.int (most+1)))=some (.d (.int (n0 % (most+1)))):=fun e=>aJ mp
  have g1':∀(e:En),aW e (.d (.int n1)) (.d (.int (tn+1)))=some (.d (.int (n1 % (tn+1)))):=fun e=>aJ kp
  have th0:0≤n0 % (most+1):=vi mp
  have th1:n0 % (most+1) < most+1:=vj mp
  have ti0:0≤n1 % (tn+1):=vi kp
  have ti1:n1 % (tn+1) < tn+1:=vj kp
  clear mp kp
  generalize n0 % (most+1)=things at th0 th1 g0
  generalize n1 % (tn+1)=tm at ti0 ti1 g1'
  obtain⟨many,hmany,mm,m00,m01⟩:∃many:Int,many=tm*(if decide (1 < things)=true then 1 else 0)∧(1 < things∨many=0)∧0≤many∧many≤tn:=by
    by_cases c:1 < things
    · exact⟨tm,by simp [c],.inl c,ti0,by lia⟩
    · exact⟨0,by simp [c],.inr rfl,by lia,by lia⟩
  have gm:∀e:En,bf e (.d (.int tm)) (.d (.int (if decide (1 < things)=true then 1 else 0)))=some (.d (.int many)):=fun e=>by
    rw [aO (mn (by split<;>decide) (by split<;>decide)),hmany]
  have gi:∀e:En,g1 pW e [.d (.bool (decide (1 < things)))]=some (.d (.int (if decide (1 < things)=true then 1 else 0))):=fun e=>rfl
  generalize (if decide (1 < things)=true then 1 else 0:Int)=one at gm gi
  obtain⟨ts,d3,t3,hd3,hlen,hts⟩:=B5 d2 (max 2 things) many hd2 (by lia) (by lia) m00 (by lia)
  obtain⟨n4,d4,t4, -, -,hd4⟩:=gC hd3
  obtain⟨e',h1,hI⟩:=bj (own:=[]) (g:=af 8) (f:=k') (WI most tn things many ts (n4 % 3)) (a_ 0 things.toNat) 0 (wE d4 most tn things many ts (n4 % 3) [] none none) (fun i x e hx hI=>by
    obtain⟨rfl,hi⟩:=cW hx
    obtain⟨hd5,hpl,hps⟩:=hI
    rename_i ps d5 w8
    obtain⟨p1,d6,t6, -, -,hd6⟩:=gC hd5
    obtain⟨p2,d7,t7, -, -,hd7⟩:=gC hd6
    obtain⟨z,hz,ha⟩:=j4 (xs:=[PyData.int 20,.int (1+p1 % 3),.int (p2 % 21)]) (i:=n4 % 3) (vi (by decide)) (vj (k:=3) (by decide))
    obtain⟨p,rfl,hp⟩:∃r,z=.int r∧0≤r∧r≤20:=by
      simp only [List.mem_cons,List.not_mem_nil,or_false] at hz
      rcases hz with rfl | rfl | rfl<;>exact⟨_,rfl,by lia,by lia⟩
    refine⟨wE d5 most tn things many ts (n4 % 3) ps (some (.d (.int (0+(i:Int))))) none,wE d7 most tn things many ts (n4 % 3) (ps++[p]) (some (.d (.int (0+(i:Int))))) none,rfl,?_,a9,.mk hd7 (by simp;lia) fun q hq=>by
      rcases List.mem_append.mp hq with hq | hq
      · exact hps q hq
      · simp at hq;subst hq;exact hp⟩
    have hlen:ps.length < 1000000:=by lia
    simp? [wE,k',t6,t7,aJ,ha,hlen]) (.mk hd4 rfl fun p hp=>by cases hp)
  obtain⟨hd5,hpl,hps⟩:=hI
  rename_i ps d5 w8
  have hf:∀W,cN W oV (af 8) k' (wE d4 most tn things many ts (n4 % 3) [] none none)=some (.nx (wE d5 most tn things many ts (n4 % 3) ps w8 none)):=fun W=>by
    rw [br (show oV _=some (a_ 0 things.toNat,[],wE d4 most tn things many ts (n4 % 3) [] none none) from cq (n:=things) (by simp? [wE]) (by lia) (by lia))]
    exact h1
  obtain⟨p1,d6,t6, -, -,hd6⟩:=gC hd5
  obtain⟨p2,d7,t7, -, -,hd7⟩:=gC hd6
  obtain⟨p3,d8,t8, -, -,hd8⟩:=gC hd7
  have xp:0 < max 1 many:=Int.lt_of_lt_of_le Int.zero_lt_one (Int.le_max_left _ _)
  have gx:∀(e:En),aW e (.d (.int p1)) (.d (.int (max 1 many)))=some (.d (.int (p1 % max 1 many))):=fun e=>aJ xp
  have x0:0≤p1 % max 1 many:=vi xp
  have x1:p1 % max 1 many < max 1 many:=vj xp
  obtain⟨z,hz,ha⟩:=j4 (xs:=[PyData.int 40,.int (1+p1 % max 1 many),.int (p2 % 41)]) (i:=p3 % 3) (vi (by decide)) (vj (k:=3) (by decide))
  obtain⟨asks,rfl,hasks⟩:∃r,z=.int r∧0≤r∧r≤40:=by
    simp only [List.mem_cons,List.not_mem_nil,or_false] at hz
    rcases hz with rfl | rfl | rfl<;>exact⟨_,rfl,by lia,by lia⟩
  rw [cz] at hpl
  refine⟨⟨things,ts,ps,asks⟩,d8,?_,hd8,⟨th0,by show things≤12;lia,fun t ht=>?_,by show ts.length≤16;lia,by show(ps.length:Int)=things;lia,hps,hasks.1,hasks.2⟩,by show things≤most;lia,by show(ts.length:Int)≤tn;lia⟩
  · unfold wE at hf
    simp only [List.map_nil] at hf
    simp? [p_,zP,t0,t1,g0,g1',gm,gi,t3,t4,aJ,hf,t6,t7,t8,gx,ha,ar]
  · rcases mm with c | c
    · have:=hts t ht
      rw [show max 2 things=things by lia] at this
      exact this
    · have:ts=[]:=List.length_eq_zero_iff.mp (by lia)
      subst this;cases ht
theorem kB(a b:Int)(hb:Bt 4000 b):bK [.d (.int a),.d (.int b)]=some (.d (.int (Int.gcd a b)),[.d (.int a),.d (.int b)]):=by
  have tst:∀x y:Int,bA [some (.d (.int x)),some (.d (.int y))]=some (!(y==0),[some (.d (.int x)),some (.d (.int y))]):=fun x y=>by simp? [bA]
  obtain⟨e0,e',h1,⟨x,y,he,hg,hy⟩,h3⟩:=jr (ft:=bA) (f:=bV) (fun e=>∃x y,e=[some (.d (.int x)),some (.d (.int y))]∧Int.gcd x y=Int.gcd a b∧Bt 4000 y) (nG 1) (fun e ⟨x,y,he,hg,hy⟩=>by
    subst he
    rw [tst]
    by_cases c:y=0
    · subst c;exact .inl ⟨_,rfl,trivial⟩
    · refine .inr ⟨_,[some (.d (.int y)),some (.d (.int (x.fmod y)))],by rw [beq_false_of_ne c];rfl,by simp? [bV,vI c],⟨y,x.fmod y,rfl,by rw [p6,hg],?_⟩,?_⟩
      · have:=fD x c
        exact Bt.of_le hy (by lia)
      · have:=fD x c
        simpa [nG] using this) (2 ^ 4200) _ ⟨a,b,rfl,rfl,hb⟩ (o8 (m:=4000) (by simpa [nG,Bt] using hb) (by decide))
  subst he
  rw [tst] at h3
  have h4:=Prod.mk.inj (Option.some.inj h3)
  have hy0:y=0:=by simpa using h4.1
  subst hy0
  have h5:=h4.2
  subst h5
  have hs:jn (2 ^ 4200) bA bV [some (.d (.int a)),some (.d (.int b))]=some (.nx [some (.d (.int x)),some (.d (.int 0))]):=h1
  have hg':(x.natAbs:Int)=(Int.gcd a b:Int):=by rw [←hg];simp
  simp only [bK,fY,ig,nH,aG,k7,bF,ic,aT,gj,my,rX,wK,bv,aq,Aj,ae,vC,dX,ah,aa,bS,a8,bx,mZ,EL,qL,EK,xA,r8,xD,B9,qd,nI,du,bX,AO,jj,i4,oJ,gH,cj,vk,tL,bB,ao,af,bo,cU,aI,bg,ym,eN,lY,jd,lh,oR,oP,ef,oO,l4,l0,l5,j_,lX,vF,kQ,rA,vG,rD,oQ,rB,rC,l7,l6,j',l8,vK,oy,lK,oz,oA,vg,j7,j6,jF,li,List.replicate, -List.map_nil, -List.map_cons, -List.nil_append, -List.cons_append, -Option.bind_some, -Option.map_some, -getElem?_pos, -List.append_nil,vw,vt,vn,vm,vp,vq,vo,vx]
  simp? [hs,hg']
theorem qG(t b:Int)(hb:0 < b)(h:Bt 4000 b):eT [.d (.int t),.d (.int b)]=some (.d (dF (lowM t b)),[.d (.int t),.d (.int b)]):=by
  have g0:=oS (t:=t) (b:=b) (by lia)
  have g1:(Int.gcd t b:Int)≠0:=by lia
  have g8:Bt 8000 (Int.gcd t b:Int):=(vL (t:=t) (by lia) h).mono (by decide)
  have e:lowM t b=(t.fdiv (Int.gcd t b:Int),b.fdiv (Int.gcd t b:Int)):=by unfold lowM;rw [if_neg (by lia)]
  have nb:¬b < 0:=by lia
  rw [e]
  simp? [eT,pQ,kB t b h,sI g1 g8,nb,dF]
theorem lA{a b:Fr}{n:Nat}(a2:0 < a.2)(b2:0 < b.2)(ha1:Bt n a.1)(ha:Bt n a.2)(hb1:Bt n b.1)(hb:Bt n b.2)(hn:n≤1900):cG [.d (dF a),.d (dF b)]=some (.d (dF (tm a b)),[.d (dF a),.d (dF b)]):=by
  have g1:∀e:En,bf e (.d (.int a.1)) (.d (.int b.1))=some (.d (.int (a.1*b.1))):=fun e=>aO (bY (ha1.mono (by lia)) (hb1.mono (by lia)))
  have g2:∀e:En,bf e (.d (.int a.2)) (.d (.int b.2))=some (.d (.int (a.2*b.2))):=fun e=>aO (bY (ha.mono (by lia)) (hb.mono (by lia)))
  have tl:=qG (a.1*b.1) (a.2*b.2) (Int.mul_pos a2 b2) ((ha.mul hb).mono (by lia))
  unfold tm
  unfold dF at*
  simp? [cG,sx,g1,g2,tl]
theorem iX{a b:Fr}{n:Nat}(a2:0 < a.2)(b2:0 < b.2)(ha1:Bt n a.1)(ha:Bt n a.2)(hb1:Bt n b.1)(hb:Bt n b.2)(hn:n≤1900):bC [.d (dF a),.d (dF b)]=some (.d (dF (tm a b)),[.d (dF a),.d (dF b)]):=by
  have g1:∀e:En,bf e (.d (.int a.1)) (.d (.int b.1))=some (.d (.int (a.1*b.1))):=fun e=>aO (bY (ha1.mono (by lia)) (hb1.mono (by lia)))
  have g2:∀e:En,bf e (.d (.int a.2)) (.d (.int b.2))=some (.d (.int (a.2*b.2))):=fun e=>aO (bY (ha.mono (by lia)) (hb.mono (by lia)))
  have tl:=jZ (a.1*b.1) (a.2*b.2) (Int.mul_pos a2 b2) ((ha.mul hb).mono (by lia))
  unfold tm
  unfold dF at*
  simp? [bC,su,g1,g2,tl]
theorem EX{W:aR}(e:En):aV e (.d (ar W)) (.d (.int 0))=some (.d (.int W.things)):=by rw [ir,kQ,oy];rfl
theorem zY{W:aR}(e:En):aV e (.d (ar W)) (.d (.int 1))=some (.d (.tuple (W.ties.map aY))):=by rw [ir,kQ,lK];rfl
theorem DV{W:aR}(e:En):aV e (.d (ar W)) (.d (.int 2))=some (.d (.tuple (W.pat.map .int))):=by rw [ir,kQ,oz];rfl
theorem DX{W:aR}(e:En):aV e (.d (ar W)) (.d (.int 3))=some (.d (.int W.asks)):=by rw [ir,kQ,oA];rfl
theorem fZ{α:Type}(l:List α):l.filter (fun _=>true)=l:=List.filter_eq_self.mpr fun _ _=>rfl
def wi(p:Fr × Int):Bool:=decide (p.1.1≤p.2*p.1.2)
def kR(p:Fr × fP):PyData:=.tuple [dF p.1,aY p.2]
theorem j3:∀(ws:List Fr) (ts:List fP),hE (ws.map dF) (ts.map aY)=(ws.zip ts).map kR
  | [],_=>by cases ‹List fP›<;>rfl
  | _::_,[]=>rfl
  | w::ws,t::ts=>by
    show PyData.tuple [dF w,aY t]::hE (ws.map dF) (ts.map aY)=_
    rw [j3 ws ts]
    rfl
def D7:PyData→Fr
  | .tuple [.int a,.int b]=>(a,b)
  | _=>(0,1)
def zB:PyData→En
  | .tuple [a,b]=>[some (.d a),some (.d b)]
  | _=>[]
theorem Ag{cs:En}{i j:Nat}(hi:i=cs.length)(hj:j=cs.length+1){x a b:PyData}(hx:x=.tuple [a,b])(t:En)(ht:t.length=2):bB (ao (af i) (ao (af j) bo)) x (cs++t)=some (cs++zB x):=by
  subst hx hi hj
  rcases t with _ | ⟨a1,_ | ⟨a2,_ | ⟨a3,r⟩⟩⟩
  · simp at ht
  · simp at ht
  · simp [bB,ao,af,bo,zB]
  · simp at ht
theorem xn{a b:Fr}(a2:0 < a.2)(b2:0 < b.2)(ha1:Bt 3600 a.1)(ha:Bt 3600 a.2)(hb1:Bt 300 b.1)(hb:Bt 300 b.2):bJ [.d (dF a),.d (dF b)]=some (.d (dF (pl a b)),[.d (dF a),.d (dF b)]):=by
  have g1:∀e:En,bf e (.d (.int a.1)) (.d (.int b.2))=some (.d (.int (a.1*b.2))):=fun e=>aO (bY (ha1.mono (by lia)) (hb.mono (by lia)))
  have g3:∀e:En,bf e (.d (.int b.1)) (.d (.int a.2))=some (.d (.int (b.1*a.2))):=fun e=>aO (bY (hb1.mono (by lia)) (ha.mono (by lia)))
  have g2:∀e:En,bf e (.d (.int a.2)) (.d (.int b.2))=some (.d (.int (a.2*b.2))):=fun e=>aO (bY (ha.mono (by lia)) (hb.mono (by lia)))
  have tl:=jZ (a.1*b.2+b.1*a.2) (a.2*b.2) (Int.mul_pos a2 b2) ((ha.mul hb).mono (by lia))
  unfold pl
  unfold dF at*
  simp? [bJ,rj,g1,g2,g3,tl]
structure jt (M:Int) (L:List Fr):Prop where
  m0:0 < M
  bt:Bt 3500 M
  rok:∀f∈L,tS M f
  small:∀f∈L,Bt 300 f.2
  len:L.length≤1000
theorem jt.part{M:Int}{L:List Fr}(h:jt M L)(i:Nat):0 < (au (0,1) (L.take i)).2∧Bt 3600 (au (0,1) (L.take i)).1∧Bt 3600 (au (0,1) (L.take i)).2:=by
  have s:=(xl (M:=M) (L:=L.take i) fun f hf=>h.rok f (List.mem_of_mem_take hf)).1
  have l:(L.take i).length≤1000:=by rw [List.length_take];have:=h.len;lia
  have b:=s.bt (n:=3500) (m:=10) h.bt h.m0 (by unfold Bt;lia)
  exact⟨s.pos,b.1.mono (by decide),b.2.mono (by decide)⟩
theorem jt.one{M:Int}{L:List Fr}(h:jt M L){f:Fr}(hf:f∈L):0 < f.2∧Bt 300 f.1∧Bt 300 f.2:=by
  have r:=h.rok f hf
  exact⟨r.pos,(h.small f hf).of_le (by have:=r.lo;have:=r.hi;lia),h.small f hf⟩
theorem iJ{L:List Fr}{i:Nat}{f:Fr}(h:L[i]?=some f):au (0,1) (L.take (i+1))=pl (au (0,1) (L.take i)) f:=by
  rw [List.take_succ,h]
  unfold au
  rw [List.foldl_append]
  rfl
theorem ke{M:Int}{L:List Fr}(h:jt M L){N:Option Sv}{own:gD}(ho:∀p∈own,p.1=0∧N=some (.l p.2)):∃v2,j8 own (af 2) dD (L.map dF) [N,some (.d (.tuple [.int 0,.int 1])),none]=some (.nx [N,some (.d (dF (au (0,1) L))),v2]):=by
  obtain⟨e',h1,⟨v2,he⟩⟩:=bj (own:=own) (g:=af 2) (f:=dD) (fun i e=>∃v2,e=[N,some (.d (dF (au (0,1) (L.take i)))),v2]) (L.map dF) 0 [N,some (.d (.tuple [.int 0,.int 1])),none] (fun i x e hx ⟨v2,he⟩=>by
    subst he
    rw [Nat.zero_add] at*
    rw [List.getElem?_map] at hx
    obtain⟨f,hf,rfl⟩:=Option.map_eq_some_iff.mp hx
    obtain⟨p1,p2,p3⟩:=h.part i
    obtain⟨q1,q2,q3⟩:=h.one (List.mem_of_getElem? hf)
    have tp:=xn p1 q1 p2 p3 q2 q3
    rw [←iJ hf] at tp
    refine⟨[N,some (.d (dF (au (0,1) (L.take i)))),some (.d (dF f))],[N,some (.d (dF (au (0,1) (L.take (i+1))))),some (.d (dF f))],rfl,?_,fun p hp=>by obtain⟨e1,e2⟩:=ho p hp;rw [e1,e2];rfl,_,rfl⟩
    generalize dF (au (0,1) (L.take i))=A at*
    generalize dF (au (0,1) (L.take (i+1)))=B at*
    generalize dF f=C at*
    simp? [dD,tp]) ⟨none,rfl⟩
  rw [Nat.zero_add,List.length_map,List.take_length] at he
  subst he
  exact⟨v2,h1⟩
theorem xm{M:Int}{L:List Fr}(h:jt M L){N:Sv}(hN:N=.d (.tuple (L.map dF))∨N=.d (.list (L.map dF))∨N=.l (L.map dF)):fF [N]=some (.d (dF (au (0,1) L)),[N]):=by
  rcases hN with rfl | rfl | rfl
  · obtain⟨v2,hl⟩:=ke h (N:=some (.d (.tuple (L.map dF)))) (own:=[]) fun p hp=>by cases hp
    have hs:=fun Wl=>br (W:=Wl) (g:=af 2) (f:=dD) (e:=[some (.d (.tuple (L.map dF))),some (.d (.tuple [.int 0,.int 1])),none]) (show gN _=_ from oW rfl)
    rw [hl] at hs
    generalize dF (au (0,1) L)=q at hs ⊢
    generalize L.map dF=M at hs ⊢
    simp? [fF,pP,hs]
  · obtain⟨v2,hl⟩:=ke h (N:=some (.d (.list (L.map dF)))) (own:=[]) fun p hp=>by cases hp
    have hs:=fun Wl=>br (W:=Wl) (g:=af 2) (f:=dD) (e:=[some (.d (.list (L.map dF))),some (.d (.tuple [.int 0,.int 1])),none]) (show gN _=_ from sL rfl)
    rw [hl] at hs
    generalize dF (au (0,1) L)=q at hs ⊢
    generalize L.map dF=M at hs ⊢
    simp? [fF,pP,hs]
  · obtain⟨v2,hl⟩:=ke h (N:=some (.l (L.map dF))) (own:=[(0,L.map dF)]) fun p hp=>by simp at hp;subst hp;exact⟨rfl,rfl⟩
    have hs:∀Wl,0∉Wl→cN Wl gN (af 2) dD [some (.l (L.map dF)),some (.d (.tuple [.int 0,.int 1])),none]=some (.nx [some (.l (L.map dF)),some (.d (dF (au (0,1) L))),v2]):=fun Wl hW=>by
      unfold cN
      rw [show gN [some (.l (L.map dF)),some (.d (.tuple [.int 0,.int 1])),none]=some (L.map dF,[(0,L.map dF)],[some (.l (L.map dF)),some (.d (.tuple [.int 0,.int 1])),none]) from rfl]
      simpa [hW] using hl
    generalize dF (au (0,1) L)=q at hs ⊢
    generalize L.map dF=M at hs ⊢
    simp? [fF,pP,hs]
theorem BV{a b:Fr}(h1:Bt 4000 a.1)(h2:Bt 4000 a.2)(h3:Bt 4000 b.1)(h4:Bt 4000 b.2):mh [.d (dF a),.d (dF b)]=some (.d (.bool (decide (a.1*b.2 < b.1*a.2))),[.d (dF a),.d (dF b)]):=by
  have g1:∀e:En,bf e (.d (.int a.1)) (.d (.int b.2))=some (.d (.int (a.1*b.2))):=fun e=>aO (bY h1 h4)
  have g2:∀e:En,bf e (.d (.int b.1)) (.d (.int a.2))=some (.d (.int (b.1*a.2))):=fun e=>aO (bY h3 h2)
  have gl:∀e:En,ye e (.d (.int (a.1*b.2))) (.d (.int (b.1*a.2)))=some (.d (.bool (decide (a.1*b.2 < b.1*a.2)))):=fun e=>rfl
  generalize decide (a.1*b.2 < b.1*a.2)=bb at*
  unfold dF
  simp? [mh,uX,g1,g2,gl]
theorem zi{W:aR}(ok:W.Ok){ws:List Fr}(h:∀f∈ws,S1 210 f)(hl:ws.length≤16):jt (cM W ws) ws:=by
  obtain⟨m0,mb⟩:=vc ok h
  exact⟨m0,mb.mono (by lia),fun f hf=>ls h hf,fun f hf=>(h f hf).bt.mono (by decide),by lia⟩
theorem zp{W:aR}(ok:W.Ok){ws:List Fr}(h:∀f∈ws,S1 210 f)(hl:ws.length≤16)(e:Int):jt (cM W ws) ((qY W ws e).map (·.1))∧jt (cM W ws) ((qY W ws e).map fun p=>tm p.1 (cC p.2)):=by
  obtain⟨m0,mb⟩:=vc ok h
  have sl:=s_ (W:=W) (ws:=ws) (e:=e)
  refine⟨⟨m0,mb.mono (by lia),fun f hf=>?_,fun f hf=>?_,by rw [List.length_map];lia⟩,⟨m0,mb.mono (by lia),fun f hf=>?_,fun f hf=>?_,by rw [List.length_map];lia⟩⟩
  · obtain⟨p,hp,rfl⟩:=List.mem_map.mp hf
    exact ls h (et hp).1
  · obtain⟨p,hp,rfl⟩:=List.mem_map.mp hf
    exact(h _ (et hp).1).bt.mono (by decide)
  · obtain⟨p,hp,rfl⟩:=List.mem_map.mp hf
    exact w_ ok h (et hp).1 (et hp).2.1
  · obtain⟨p,hp,rfl⟩:=List.mem_map.mp hf
    have a:=h _ (et hp).1
    have c:=gK ok (et hp).2.1
    have r:=(a.rok (Int.dvd_refl _)).tm (c.rok (Int.dvd_refl _))
    exact((r.bt (n:=217) ((a.bt.mul c.bt).mono (by decide)) (Int.mul_pos a.low.pos c.low.pos)).2).mono (by decide)
def dW(W:aR)(e:Int):List Nat:=(List.range W.ties.length).filter fun k=>inc e (W.tie (k:Int))
theorem tK{W:aR}{k:Nat}(h:k < W.ties.length):W.ties[k]?=some (W.tie (k:Int)):=by
  have:=qW.get (W:=W) (k:=(k:Int)) ⟨by lia,by lia⟩
  rwa [Int.toNat_natCast] at this
theorem qA{W:aR}{ws:List Fr}(hl:ws.length=W.ties.length)(e:Int):(dW W e).map (fun k=>(ws.getD k (0,1),W.tie (k:Int)))=qY W ws e:=by
  have hz:(List.range W.ties.length).map (fun k=>(ws.getD k (0,1),W.tie (k:Int)))=ws.zip W.ties:=by
    apply List.ext_getElem?
    intro i
    rw [List.getElem?_map]
    by_cases h:i < W.ties.length
    · have hz:(ws.zip W.ties)[i]?=some (ws.getD i (0,1),W.tie (i:Int)):=List.getElem?_zip_eq_some.mpr ⟨by
        rw [List.getD_eq_getElem?_getD,List.getElem?_eq_getElem (by lia)];rfl,tK h⟩
      rw [List.getElem?_range h,hz]
      rfl
    · rw [List.getElem?_eq_none (by simp;lia),List.getElem?_eq_none (by simp;lia)]
      rfl
  unfold qY dW
  rw [←hz,List.filter_map]
  rfl
def p7(p:Fr × Int):PyData:=.tuple [dF p.1,.int p.2]
def kD(k:Nat):PyData:=.int (k:Int)
theorem qB{W:aR}{e:Int}{k:Nat}(h:k∈dW W e):k < W.ties.length:=by
  have:=(List.mem_filter.mp h).1
  simpa using this
theorem AG{W:aR}(ok:W.Ok){e:Int}{b c f:Option Sv}:cK [(3,"_law_end"),(0,"_law_web_here")] 1 iP (af 2) eE iN [some (.d (ar W)),b,c,some (.d (.int e)),f]=some (.l ((dW W e).map kD),[some (.d (ar W)),b,c,some (.d (.int e)),f]):=by
  have wl:=ok.len
  have g1':=zY (W:=W)
  obtain⟨t1,hf1⟩:=eF (cs:=[some (.d (.int e)),some (.d (ar W))]) (ft:=eE) (fe:=iN) (b:=fun x=>match x with | .int k=>inc e (W.tie k) | _=>false) (y:=fun x=>x) (a_ 0 W.ties.length) none [] (fun x hx=>by
    obtain⟨i,hi⟩:=List.getElem?_of_mem hx
    obtain⟨rfl,hlt⟩:=cW hi
    rw [Int.zero_add]
    have ai:=jy (W:=W) (k:=(i:Int)) ⟨by lia,by lia⟩
    show eE [some (.d (.int e)),some (.d (ar W)),some (.d (.int (i:Int)))]=some (inc e (W.tie (i:Int)),[some (.d (.int e)),some (.d (ar W)),some (.d (.int (i:Int)))])
    have gi:∀(e':En),zW false e' (.d (.int e)) (.d (.tuple [.int (W.tie (i:Int)).one,.int (W.tie (i:Int)).other]))=some (.d (.bool (inc e (W.tie (i:Int))))):=fun e'=>li
    generalize inc e (W.tie (i:Int))=bb at*
    unfold aY at ai g1'
    have cu:L2.cutD [PyData.int (W.tie (i:Int)).one,.int (W.tie (i:Int)).other,.tuple [.int (W.tie (i:Int)).top,.int (W.tie (i:Int)).bot],.int (W.tie (i:Int)).worth] none (some 2)=[.int (W.tie (i:Int)).one,.int (W.tie (i:Int)).other]:=rfl
    generalize (W.ties.map fun t=>PyData.tuple [.int t.one,.int t.other,.tuple [.int t.top,.int t.bot],.int t.worth])=TT at*
    generalize W.tie (i:Int)=T at*
    generalize ar W=WW at*
    simp? [eE,g1',ai,cu,gi]) (fun x hx _=>rfl) (by simp [cz];lia)
  have hi:iP [some (.d (ar W)),b,c,some (.d (.int e)),f]=some (a_ 0 W.ties.length,[],[some (.d (ar W)),b,c,some (.d (.int e)),f]):=by
    have:=cq (fs:=aa (a8 (g1 jH) (aa (aq aV (ae 0) (vC (.int 1))) ah)) ah) (e:=[some (.d (ar W)),b,c,some (.d (.int e)),f]) (e1:=[some (.d (ar W)),b,c,some (.d (.int e)),f]) (n:=(W.ties.length:Int)) (by simp? [g1']) (by lia) (by lia)
    rw [Int.toNat_natCast] at this
    exact this
  have hv:=j2 (cp:=[(3,"_law_end"),(0,"_law_web_here")]) (nT:=1) (fi:=iP) (g:=af 2) (ft:=eE) (fe:=iN) (cs:=[some (.d (.int e)),some (.d (ar W))]) (t:=[none]) (t':=[t1]) hi rfl rfl hf1
  rw [hv,List.nil_append,List.map_id']
  congr 3
  unfold a_ dW
  rw [List.filter_map]
  have:∀l:List Nat,(List.map (fun(i:Nat)=>PyData.int (0+(i:Int))) l)=l.map kD:=fun l=>List.map_congr_left fun i _=>by rw [Int.zero_add];rfl
  rw [this]
  congr 1
  refine List.filter_congr fun i _=>?_
  simp only [Function.comp_apply,Int.zero_add]
theorem pL{ws:List Fr}{k:Nat}(h:k < ws.length):atI (ws.map dF) (k:Int)=some (dF (ws.getD k (0,1))):=uW h
theorem xX{W:aR}{ws:List Fr}(hl:ws.length=W.ties.length)(wl:W.ties.length≤16){N:Sv}(hN:N=.d (.tuple (ws.map dF))∨N=.l (ws.map dF)){e:Int}{a c d:Option Sv}:cK [(1,"_law_shares_here")] 1 kb (af 1) cJ dy [a,some N,c,d,some (.l ((dW W e).map kD))]=some (.l (((qY W ws e).map (·.1)).map dF),[a,some N,c,d,some (.l ((dW W e).map kD))]):=by
  obtain⟨t1,hf1⟩:=eF (cs:=[some N]) (ft:=cJ) (fe:=dy) (b:=fun _=>true) (y:=fun x=>match x with | .int k=>dF (ws.getD k.toNat (0,1)) | _=>.none) ((dW W e).map kD) none [] (fun x hx=>rfl) (fun x hx _=>by
    obtain⟨k,hk,rfl⟩:=List.mem_map.mp hx
    have as:=pL (ws:=ws) (k:=k) (by have:=qB hk;lia)
    show dy [some N,some (.d (.int (k:Int)))]=some (.d (dF (ws.getD (k:Int).toNat (0,1))),[some N,some (.d (.int (k:Int)))])
    rw [Int.toNat_natCast]
    rcases hN with rfl | rfl
    · generalize dF (ws.getD k (0,1))=D at*
      generalize ws.map dF=FF at*
      simp? [dy,as]
    · generalize dF (ws.getD k (0,1))=D at*
      generalize ws.map dF=FF at*
      simp? [dy,as]) (by
    have:(dW W e).length≤W.ties.length:=Nat.le_trans (List.length_filter_le _ _) (by simp)
    simp;lia)
  have hin:nD [(1,"_law_shares_here")] 1 [a,some N,c,d,some (.l ((dW W e).map kD))]=[some N]++[none]:=by rcases hN with rfl | rfl<;>rfl
  have hv:=kJ (cp:=[(1,"_law_shares_here")]) (nT:=1) (g:=af 1) (ft:=cJ) (fe:=dy) (cs:=[some N]) (t:=[none]) (t':=[t1]) (show kb [a,some N,c,d,some (.l ((dW W e).map kD))]=some ((dW W e).map kD,[(4,(dW W e).map kD)],[a,some N,c,d,some (.l ((dW W e).map kD))]) from rfl) rfl hin rfl (by rw [hin];exact hf1)
  rw [hv,List.nil_append,fZ,←qA hl,List.map_map,List.map_map,List.map_map]
  rfl
theorem xY{W:aR}(ok:W.Ok){ws:List Fr}(h:∀f∈ws,S1 210 f)(hl:ws.length=W.ties.length){N:Sv}(hN:N=.d (.tuple (ws.map dF))∨N=.l (ws.map dF)){e:Int}{c d:Option Sv}:cK [(1,"_law_shares_here"),(0,"_law_web_here")] 1 kc (af 2) cJ dz [some (.d (ar W)),some N,c,d,some (.l ((dW W e).map kD))]=some (.l (((qY W ws e).map fun p=>tm p.1 (cC p.2)).map dF),[some (.d (ar W)),some N,c,d,some (.l ((dW W e).map kD))]):=by
  have wl:=ok.len
  have g1':=zY (W:=W)
  obtain⟨t1,hf1⟩:=eF (cs:=[some N,some (.d (ar W))]) (ft:=cJ) (fe:=dz) (b:=fun _=>true) (y:=fun x=>match x with | .int k=>dF (tm (ws.getD k.toNat (0,1)) (cC (W.tie k))) | _=>.none) ((dW W e).map kD) none [] (fun x hx=>rfl) (fun x hx _=>by
    obtain⟨k,hk,rfl⟩:=List.mem_map.mp hx
    have kl:=qB hk
    have as:=pL (ws:=ws) (k:=k) (by lia)
    have ai:=jy (W:=W) (k:=(k:Int)) ⟨by lia,by lia⟩
    have a:=h (ws.getD k (0,1)) (by rw [List.getD_eq_getElem?_getD,List.getElem?_eq_getElem (by lia)];exact List.getElem_mem _)
    have cc:=gK ok (List.mem_of_getElem? (tK kl))
    have tt:=iX (n:=210) a.low.pos cc.low.pos a.top a.bt (cc.top.mono (by decide)) (cc.bt.mono (by decide)) (by decide)
    show dz [some N,some (.d (ar W)),some (.d (.int (k:Int)))]=some (.d (dF (tm (ws.getD (k:Int).toNat (0,1)) (cC (W.tie (k:Int))))),[some N,some (.d (ar W)),some (.d (.int (k:Int)))])
    rw [Int.toNat_natCast]
    rw [show dF (cC (W.tie (k:Int)))=.tuple [.int (W.tie (k:Int)).top,.int (W.tie (k:Int)).bot] from rfl] at tt
    generalize dF (tm (ws.getD k (0,1)) (cC (W.tie (k:Int))))=R at*
    unfold aY at ai g1'
    generalize (W.ties.map fun t=>PyData.tuple [.int t.one,.int t.other,.tuple [.int t.top,.int t.bot],.int t.worth])=TT at*
    generalize W.tie (k:Int)=T at*
    generalize ar W=WW at*
    rcases hN with rfl | rfl
    · generalize dF (ws.getD k (0,1))=D at*
      generalize ws.map dF=FF at*
      simp? [dz,as,g1',ai,tt]
    · generalize dF (ws.getD k (0,1))=D at*
      generalize ws.map dF=FF at*
      simp? [dz,as,g1',ai,tt]) (by
    have:(dW W e).length≤W.ties.length:=Nat.le_trans (List.length_filter_le _ _) (by simp)
    simp;lia)
  have hin:nD [(1,"_law_shares_here"),(0,"_law_web_here")] 1 [some (.d (ar W)),some N,c,d,some (.l ((dW W e).map kD))]=[some N,some (.d (ar W))]++[none]:=by rcases hN with rfl | rfl<;>rfl
  have hv:=kJ (cp:=[(1,"_law_shares_here"),(0,"_law_web_here")]) (nT:=1) (g:=af 2) (ft:=cJ) (fe:=dz) (cs:=[some N,some (.d (ar W))]) (t:=[none]) (t':=[t1]) (show kc [some (.d (ar W)),some N,c,d,some (.l ((dW W e).map kD))]=some ((dW W e).map kD,[(4,(dW W e).map kD)],[some (.d (ar W)),some N,c,d,some (.l ((dW W e).map kD))]) from rfl) rfl hin rfl (by rw [hin];exact hf1)
  rw [hv,List.nil_append,fZ,←qA hl,List.map_map,List.map_map,List.map_map]
  rfl
theorem oY{W:aR}{ws:List Fr}:∀k,(iZ W ws k).length=1+2*k
  | 0=>rfl
  | k+1=>by rw [iZ,List.length_append,oY k];simp [CN];lia
theorem p8{W:aR}(ok:W.Ok){ws:List Fr}:∀k,∀p∈iZ W ws k,0≤p.2∧p.2≤40
  | 0,p,h=>by
    simp only [iZ,List.mem_cons,List.not_mem_nil,or_false] at h
    subst h
    exact⟨ok.a0,ok.a1⟩
  | k+1,p,h=>by
    rw [iZ,List.mem_append] at h
    rcases h with h | h
    · exact p8 ok k p h
    · simp only [CN,List.mem_cons,List.not_mem_nil,or_false] at h
      rcases h with rfl | rfl
      · exact⟨by show(0:Int)≤1;decide,by show(1:Int)≤40;decide⟩
      · show 0≤W.pat.getD k 0∧W.pat.getD k 0≤40
        rw [List.getD_eq_getElem?_getD]
        cases q:W.pat[k]? with
        | none=>exact⟨by decide,by decide⟩
        | some z=>have:=ok.pat z (List.mem_of_getElem? q);show 0≤z∧z≤40;lia
theorem uc{W:aR}(ok:W.Ok){ws:List Fr}(h:∀f∈ws,S1 210 f)(hl:ws.length=W.ties.length){N:Sv}(hN:N=.d (.tuple (ws.map dF))∨N=.l (ws.map dF)){i:Nat}(hi:(i:Int) < W.things){v4:Option Sv}:
    fW [some (.d (ar W)),some N,some (.l ((iZ W ws i).map p7)),some (.d (.int (i:Int))),v4]=some (.nx [some (.d (ar W)),some N,some (.l ((iZ W ws (i+1)).map p7)),some (.d (.int (i:Int))),some (.l ((dW W (i:Int)).map kD))]):=by
  have wl:=ok.len;have t1:=ok.t1;have pl:=ok.pl
  have g2':=DV (W:=W)
  have k1:=fun b c f=>AG ok (e:=(i:Int)) (b:=b) (c:=c) (f:=f)
  have k2:=fun a c d=>xX hl wl hN (e:=(i:Int)) (a:=a) (c:=c) (d:=d)
  have k3:=fun c d=>xY ok h hl hN (e:=(i:Int)) (c:=c) (d:=d)
  obtain⟨A1,A2⟩:=zp ok h (by lia) (i:Int)
  have s1:=xm A1 (.inr (.inl rfl))
  have s2:=xm A2 (.inr (.inl rfl))
  have ai:=lM (ns:=W.pat) (k:=(i:Int)) (by lia) (by lia)
  rw [Int.toNat_natCast] at ai
  have ll:((iZ W ws i).map p7).length < 1000000:=by rw [List.length_map,oY];lia
  have ll2:((iZ W ws i).map p7).length+1 < 1000000:=by rw [List.length_map,oY];lia
  rw [iZ,List.map_append,show(CN W ws i).map p7=[.tuple [dF (DZ W ws (i:Int)),.int 1],.tuple [dF (D4 W ws (i:Int)),.int (W.pat.getD i 0)]] from rfl]
  rw [show au (0,1) ((qY W ws (i:Int)).map fun p=>tm p.1 (cC p.2))=DZ W ws (i:Int) from rfl] at s2
  rw [show au (0,1) ((qY W ws (i:Int)).map (·.1))=D4 W ws (i:Int) from rfl] at s1
  generalize W.pat.getD i 0=pe at*
  generalize dF (DZ W ws (i:Int))=D1 at*
  generalize dF (D4 W ws (i:Int))=D2 at*
  generalize ((qY W ws (i:Int)).map fun p=>tm p.1 (cC p.2)).map dF=Q1 at*
  generalize ((qY W ws (i:Int)).map (·.1)).map dF=Q2 at*
  generalize (dW W (i:Int)).map kD=Q3 at*
  generalize (iZ W ws i).map p7=LL at*
  generalize W.pat.map PyData.int=PP at*
  generalize ar W=WW at*
  unfold fW
  rcases hN with rfl | rfl
  · generalize ws.map dF=FF at*
    refine(dH (e1:=[some (.d WW),some (.d (.tuple FF)),some (.l LL),some (.d (.int (i:Int))),some (.l Q3)]) ?_).trans ?_
    · simp? [k1]
    refine(dH (e1:=[some (.d WW),some (.d (.tuple FF)),some (.l (LL++[.tuple [D1,.int 1]])),some (.d (.int (i:Int))),some (.l Q3)]) ?_).trans ?_
    · simp? [k3,s2,ll]
    · simp? [k2,s1,g2',ai,ll2]
  · generalize ws.map dF=FF at*
    refine(dH (e1:=[some (.d WW),some (.l FF),some (.l LL),some (.d (.int (i:Int))),some (.l Q3)]) ?_).trans ?_
    · simp? [k1]
    refine(dH (e1:=[some (.d WW),some (.l FF),some (.l (LL++[.tuple [D1,.int 1]])),some (.d (.int (i:Int))),some (.l Q3)]) ?_).trans ?_
    · simp? [k3,s2,ll]
    · simp? [k2,s1,g2',ai,ll2]
theorem zx{W:aR}(ok:W.Ok){ws:List Fr}(h:∀f∈ws,S1 210 f)(hl:ws.length=W.ties.length){N:Sv}(hN:N=.d (.tuple (ws.map dF))∨N=.l (ws.map dF)):iR [.d (ar W),N]=some (.l ((iZ W ws W.things.toNat).map p7),[.d (ar W),N]):=by
  have wl:=ok.len;have t0:=ok.t0;have t1:=ok.t1
  have g0':=EX (W:=W)
  have g3':=DX (W:=W)
  have s0:=xm (zi ok h (by lia)) (N:=N) (by rcases hN with rfl | rfl<;>simp)
  obtain⟨e',h1,⟨v3,v4,he⟩⟩:=bj (own:=[]) (g:=af 3) (f:=fW) (fun i e=>∃v3 v4,e=[some (.d (ar W)),some N,some (.l ((iZ W ws i).map p7)),v3,v4]) (a_ 0 W.things.toNat) 0 [some (.d (ar W)),some N,some (.l ((iZ W ws 0).map p7)),none,none] (fun i x e hx ⟨v3,v4,he⟩=>by
    subst he
    obtain⟨rfl,hlt⟩:=cW hx
    rw [Nat.zero_add,Int.zero_add]
    exact⟨[some (.d (ar W)),some N,some (.l ((iZ W ws i).map p7)),some (.d (.int (i:Int))),v4],_,rfl,uc ok h hl hN (by lia),a9,_,_,rfl⟩) ⟨none,none,rfl⟩
  rw [Nat.zero_add,cz] at he
  subst he
  have hi:nB [some (.d (ar W)),some N,some (.l ((iZ W ws 0).map p7)),none,none]=some (a_ 0 W.things.toNat,[],[some (.d (ar W)),some N,some (.l ((iZ W ws 0).map p7)),none,none]):=cq (n:=W.things) (by simp? [g0']) (by lia) (by lia)
  have hg:=fun Wl=>br (W:=Wl) (g:=af 3) (f:=fW) hi
  rw [h1] at hg
  rw [show(iZ W ws 0).map p7=[.tuple [dF (au (0,1) ws),.int W.asks]] from rfl] at hg
  generalize dF (au (0,1) ws)=SS at*
  generalize (iZ W ws W.things.toNat).map p7=LL at*
  generalize ar W=WW at*
  rcases hN with rfl | rfl
  · generalize ws.map dF=FF at*
    simp? [iR,oC,s0,g3',hg]
  · generalize ws.map dF=FF at*
    simp? [iR,oC,s0,g3',hg]
def zq(W:aR)(t:fP):Bool:=W.asks==0 || (W.pat.getD t.one.toNat 0==0 || W.pat.getD t.other.toNat 0==0)
def ms(W:aR)(p:Fr × fP):Fr:=if zq W p.2=true then(0,1) else p.1
def cX(W:aR)(ws:List Fr):List Fr:=(ws.zip W.ties).map (ms W)
theorem Cd{n:Nat}:S1 (n+1) ((0,1):Fr):=⟨tO,by decide,by decide,Bt.mono (m:=1) (by unfold Bt;decide) (by lia)⟩
theorem Bg{W:aR}{ws:List Fr}{n:Nat}(h:∀f∈ws,S1 (n+1) f):∀f∈cX W ws,S1 (n+1) f:=fun f hf=>by
  obtain⟨p,hp,rfl⟩:=List.mem_map.mp hf
  unfold ms
  split
  · exact Cd
  · exact h _ (List.of_mem_zip (show(p.1,p.2)∈ws.zip W.ties from hp)).1
theorem yE{W:aR}{ws:List Fr}(hl:ws.length=W.ties.length):(cX W ws).length=W.ties.length:=by
  unfold cX;rw [List.length_map,List.length_zip];lia
def qF(p:Fr × Int):Fr:=lowM p.1.1 (p.1.2*p.2)
def u_(b:Fr)(p:Fr × Int):Fr:=if 0 < p.2∧b.1*(qF p).2 < (qF p).1*b.2 then qF p else b
structure uP (b:Fr):Prop where
  pos:0 < b.2
  one:b.2≤b.1
  top:Bt 188 b.1
structure tQ (p:Fr × Int):Prop where
  pos:0 < p.1.2
  lo:0≤p.1.1
  hi:p.1.1≤16*p.1.2
  bt:Bt 178 p.1.2
  m0:0≤p.2
  m1:p.2≤40
theorem BA{p:Fr × Int}(h:tQ p)(hp:0 < p.2):0 < (qF p).2∧0≤(qF p).1∧Bt 188 (qF p).1∧Bt 188 (qF p).2∧(qF p).1*(p.1.2*p.2)=(qF p).2*p.1.1:=by
  have pos:=Int.mul_pos h.pos hp
  have c:=ji (t:=p.1.1) (b:=p.1.2*p.2) (Int.ne_of_gt pos)
  obtain⟨d,d0,h3,h4,h5,h6⟩:=gQ pos h.lo
  have m6:Bt 6 p.2:=by have:=h.m0;have:=h.m1;unfold Bt;lia
  have bb:Bt 184 (p.1.2*p.2):=(h.bt.mul m6).mono (by decide)
  have lb:=Int.le_of_dvd pos (jL pos h.lo)
  have b2:Bt 184 (lowM p.1.1 (p.1.2*p.2)).2:=bb.of_le (by lia)
  have ht:p.1.1≤16*(p.1.2*p.2):=by
    have e1:p.1.2*1≤p.1.2*p.2:=Int.mul_le_mul_of_nonneg_left (by lia) (Int.le_of_lt h.pos)
    have:=h.hi
    lia
  have l16:=lj (i:=16) pos h.lo ht
  have b1:Bt 188 (lowM p.1.1 (p.1.2*p.2)).1:=by
    have:Bt (4+184) (15*(lowM p.1.1 (p.1.2*p.2)).2):=Bt.mul (by unfold Bt;decide) b2
    unfold Bt at b2 ⊢
    have e:(2:Nat) ^ 188=16*2 ^ 184:=by decide
    rw [e]
    lia
  exact⟨h5,h6,b1,b2.mono (by decide),c⟩
theorem Au{b:Fr}{p:Fr × Int}(h:uP b)(k:tQ p):uP (u_ b p)∧b.1*(u_ b p).2≤(u_ b p).1*b.2∧(0 < p.2→p.1.1*(u_ b p).2≤(u_ b p).1*p.1.2*p.2):=by
  unfold u_
  split
  · rename_i c
    obtain⟨q1,q2,q3,q4,q5⟩:=BA k c.1
    refine⟨⟨q1,?_,q3⟩,by lia,fun _=>?_⟩
    · have e1:b.2*(qF p).2≤b.1*(qF p).2:=Int.mul_le_mul_of_nonneg_right h.one (Int.le_of_lt q1)
      refine Int.le_of_mul_le_mul_right (a:=b.2) ?_ h.pos
      have:(qF p).2*b.2=b.2*(qF p).2:=Int.mul_comm _ _
      lia
    · rw [Int.mul_assoc,q5,Int.mul_comm]
      exact Int.le_refl _
  · rename_i c
    refine⟨h,Int.le_refl _,fun hp=>?_⟩
    obtain⟨q1,q2,q3,q4,q5⟩:=BA k hp
    have c':(qF p).1*b.2≤b.1*(qF p).2:=by
      by_cases z:b.1*(qF p).2 < (qF p).1*b.2
      · exact absurd ⟨hp,z⟩ c
      · lia
    refine Int.le_of_mul_le_mul_right (a:=(qF p).2) ?_ q1
    have X:=Int.mul_pos k.pos hp
    have:=Int.mul_le_mul_of_nonneg_right c' (Int.le_of_lt X)
    have e1:(qF p).1*b.2*(p.1.2*p.2)=p.1.1*b.2*(qF p).2:=by
      rw [show(qF p).1*b.2*(p.1.2*p.2)=(qF p).1*(p.1.2*p.2)*b.2 by ac_rfl,q5]
      ac_rfl
    rw [e1] at this
    rw [show b.1*p.1.2*p.2*(qF p).2=b.1*(qF p).2*(p.1.2*p.2) by ac_rfl]
    exact this
theorem zR{b c:Fr}{x X:Int}(hb:0 < b.2)(hc:0 < c.2)(h:b.1*c.2≤c.1*b.2)(hx:0≤X)(k:x*b.2≤b.1*X):x*c.2≤c.1*X:=by
  refine Int.le_of_mul_le_mul_right (a:=b.2) ?_ hb
  have e1:=Int.mul_le_mul_of_nonneg_right k (Int.le_of_lt hc)
  have e2:=Int.mul_le_mul_of_nonneg_right h hx
  rw [show x*c.2*b.2=x*b.2*c.2 by ac_rfl,show c.1*X*b.2=c.1*b.2*X by ac_rfl]
  rw [show b.1*X*c.2=b.1*c.2*X by ac_rfl] at e1
  lia
def tT(b:Fr)(L:List (Fr × Int)):Fr:=L.foldl u_ b
theorem rk:∀(L:List (Fr × Int)) {b:Fr},uP b→(∀p∈L,tQ p)→uP (tT b L)∧b.1*(tT b L).2≤(tT b L).1*b.2∧∀p∈L,0 < p.2→p.1.1*(tT b L).2≤(tT b L).1*p.1.2*p.2
  | [],b,h,_=>⟨h,Int.le_refl _,fun p hp=>by cases hp⟩
  | x::r,b,h,hL=>by
    have kx:=hL x (by simp)
    obtain⟨s1,s2,s3⟩:=Au h kx
    obtain⟨t1,t2,t3⟩:=rk r s1 fun p hp=>hL p (by simp [hp])
    have e:tT b (x::r)=tT (u_ b x) r:=rfl
    rw [e]
    refine⟨t1,?_,fun p hp h0=>?_⟩
    · exact zR (b:=u_ b x) (X:=b.2) (x:=b.1) s1.pos t1.pos t2 (Int.le_of_lt h.pos) s2
    · rcases List.mem_cons.mp hp with rfl | hp
      · rw [Int.mul_assoc]
        have s3':=s3 h0
        rw [Int.mul_assoc] at s3'
        exact zR s1.pos t1.pos t2 (Int.le_of_lt (Int.mul_pos kx.pos h0)) s3'
      · exact t3 p hp h0
theorem AM{W:aR}(ok:W.Ok){ws:List Fr}{n:Nat}(h:∀f∈ws,S1 n f)(hl:ws.length=W.ties.length)(hn:n*W.ties.length+7*W.ties.length+2≤178):∀k,∀p∈iZ W ws k,tQ p:=fun k p hp=>by
  have wl:=ok.len
  obtain⟨m0, -⟩:=vc ok h
  have mb:Bt 178 (cM W ws):=by
    have hc:∀f∈W.ties.map cC,S1 7 f:=fun f hf=>by
      obtain⟨t,ht,rfl⟩:=List.mem_map.mp hf
      exact gK ok ht
    exact((iF fun f hf=>(h f hf).bt).mul (iF fun f hf=>(hc f hf).bt)).mono (by rw [List.length_map,hl];lia)
  obtain⟨q0,q1⟩:=p8 ok k p hp
  have fin:∀L:List Fr,p.1=au (0,1) L→(∀f∈L,tS (cM W ws) f)→L.length≤16→tQ p:=fun L e hL ll=>by
    have s:=(xl hL).1
    rw [←e] at s
    have b:=s.bt (n:=178) (m:=10) mb m0 (by unfold Bt;lia)
    refine⟨s.pos,s.lo,?_,b.2,q0,q1⟩
    have:=s.hi
    have e2:(L.length:Int)*p.1.2≤16*p.1.2:=Int.mul_le_mul_of_nonneg_right (by lia) (Int.le_of_lt s.pos)
    lia
  have sl:=fun e:Int=>s_ (W:=W) (ws:=ws) (e:=e)
  clear q0 q1
  induction k with
  | zero=>
    simp only [iZ,List.mem_cons,List.not_mem_nil,or_false] at hp
    exact fin ws (by rw [hp]) (fun f hf=>ls h hf) (by lia)
  | succ k ih=>
    rw [iZ,List.mem_append] at hp
    rcases hp with hp | hp
    · exact ih hp
    · simp only [CN,List.mem_cons,List.not_mem_nil,or_false] at hp
      rcases hp with hp | hp
      · exact fin ((qY W ws (k:Int)).map fun p=>tm p.1 (cC p.2)) (by rw [hp];rfl) (fun f hf=>by
          obtain⟨q,hq,rfl⟩:=List.mem_map.mp hf
          exact w_ ok h (et hq).1 (et hq).2.1) (by rw [List.length_map];have:=sl (k:Int);lia)
      · exact fin ((qY W ws (k:Int)).map (·.1)) (by rw [hp];rfl) (fun f hf=>by
          obtain⟨q,hq,rfl⟩:=List.mem_map.mp hf
          exact ls h (et hq).1) (by rw [List.length_map];have:=sl (k:Int);lia)
abbrev eX(W:aR)(ws:List Fr)(os:List Fr)(v3 v4 v5 v6 v7 v8:Option Sv):En:=[some (.d (ar W)),some (.d (.tuple (ws.map dF))),some (.l (os.map dF)),v3,v4,v5,v6,v7,v8]
theorem ww{W:aR}(ok:W.Ok){ws os:List Fr}{p:Fr × fP}(ht:p.2∈W.ties)(hl:os.length≤100){v5 v6 v7 v8:Option Sv}:
    cn (eX W ws os (some (.d (dF p.1))) (some (.d (aY p.2))) v5 v6 v7 v8)=some (.nx (eX W ws (os++[ms W p]) (some (.d (dF p.1))) (some (.d (aY p.2))) (some (.d (.bool (zq W p.2)))) v6 v7 v8)):=by
  have o:=ok.ties p.2 ht
  have o0:=o.o0;have o1:=o.o1;have o2:=o.o2;have pl:=ok.pl
  have g2':=DV (W:=W)
  have g3':=DX (W:=W)
  have a1:=lM (ns:=W.pat) (k:=p.2.one) o0 (by lia)
  have a2:=lM (ns:=W.pat) (k:=p.2.other) (by lia) (by lia)
  have gi:∀(e:En) (b:Bool),g1 pW e [.d (.bool b)]=some (.d (.int (if b=true then 1 else 0))):=fun e b=>by cases b<;>rfl
  have ge:∀(e:En) (i:Int),de false e (.d (.int i)) (.d (.int 0))=some (.d (.bool (i==0))):=fun e i=>by rw [lh];rfl
  have ll:os.length < 1000000:=by lia
  unfold ms zq
  generalize W.pat.getD p.2.one.toNat 0=x at*
  generalize W.pat.getD p.2.other.toNat 0=y at*
  generalize W.asks=z at*
  have e1:=fun e=>ge e x
  have e2:=fun e=>ge e y
  have e3:=fun e=>ge e z
  generalize (x==0)=b1 at*
  generalize (y==0)=b2 at*
  generalize (z==0)=b3 at*
  simp only [eX,List.map_append,List.map_cons,List.map_nil]
  generalize ws.map dF=FF at*
  generalize W.pat.map PyData.int=PP at*
  generalize ar W=WW at*
  unfold aY
  cases b3
  · cases b1
    · cases b2
      · simp? [cn,g2',g3',a1,a2,gi,e1,e2,e3,ll]
      · simp? [cn,g2',g3',a1,a2,gi,e1,e2,e3,ll,dF]
    · simp? [cn,g2',g3',a1,a2,gi,e1,e2,e3,ll,dF]
  · simp? [cn,g2',g3',a1,a2,gi,e1,e2,e3,ll,dF]
theorem xW{W:aR}{ws os:List Fr}{b:Fr}{p:Fr × Int}(hb:uP b)(hp:tQ p){v3 v4 v5:Option Sv}:
    cV (eX W ws os v3 v4 v5 (some (.d (dF b))) (some (.d (dF p.1))) (some (.d (.int p.2))))=some (.nx (eX W ws os v3 v4 v5 (some (.d (dF (u_ b p)))) (some (.d (dF p.1))) (some (.d (.int p.2))))):=by
  have m0:=hp.m0;have m1:=hp.m1
  unfold u_
  by_cases c:0 < p.2
  · have pos:=Int.mul_pos hp.pos c
    obtain⟨q1,q2,q3,q4,q5⟩:=BA hp c
    have m6:Bt 6 p.2:=by unfold Bt;lia
    have gm:∀e:En,bf e (.d (.int p.1.2)) (.d (.int p.2))=some (.d (.int (p.1.2*p.2))):=fun e=>aO (mn (by lia) (by lia))
    have tl:=jZ p.1.1 (p.1.2*p.2) pos ((hp.bt.mul m6).mono (by decide))
    rw [show PyData.tuple [.int (lowM p.1.1 (p.1.2*p.2)).1,.int (lowM p.1.1 (p.1.2*p.2)).2]=dF (qF p) from rfl] at tl
    have tq:=BV (a:=b) (b:=qF p) (hb.top.mono (by decide)) (hb.top.of_le (by have:=hb.pos;have:=hb.one;lia) |>.mono (by decide)) (q3.mono (by decide)) (q4.mono (by decide))
    have gg:∀e:En,uO e (.d (.int p.2)) (.d (.int 0))=some (.d (.bool true)):=fun e=>by
      have:decide (0 < p.2)=true:=decide_eq_true c
      rw [←this];rfl
    simp only [eX]
    generalize ws.map dF=FF at*
    generalize os.map dF=OO at*
    generalize ar W=WW at*
    by_cases c2:b.1*(qF p).2 < (qF p).1*b.2
    · rw [decide_eq_true c2] at tq
      rw [if_pos ⟨c,c2⟩]
      generalize dF (qF p)=Q at*
      generalize dF b=B at*
      unfold dF
      simp? [cV,gg,gm,tl,tq]
    · rw [decide_eq_false c2] at tq
      rw [if_neg (fun z=>c2 z.2)]
      generalize dF (qF p)=Q at*
      generalize dF b=B at*
      unfold dF
      simp? [cV,gg,gm,tl,tq]
  · rw [if_neg (fun z=>c z.1)]
    have gg:∀e:En,uO e (.d (.int p.2)) (.d (.int 0))=some (.d (.bool false)):=fun e=>by
      have:decide (0 < p.2)=false:=decide_eq_false c
      rw [←this];rfl
    simp only [eX]
    generalize dF b=B at*
    generalize dF p.1=D at*
    simp? [cV,gg]
theorem xq{W:aR}(ok:W.Ok){ws:List Fr}{n:Nat}(h:∀f∈ws,S1 (n+1) f)(hl:ws.length=W.ties.length)(hn:(n+1)*W.ties.length+7*W.ties.length+2≤178)(h7:n+1≤7):
    ∃ss:List Fr,iD [.d (ar W),.d (.tuple (ws.map dF))]=some (.d (.tuple (ss.map dF)),[.d (ar W),.d (.tuple (ws.map dF))])∧(∀f∈ss,S1 195 f)∧ss.length=W.ties.length∧∃D:Int,0 < D∧Bt 370 D∧∀f∈ss,f.2 ∣ D:=by
  have wl:=ok.len
  have g1':=zY (W:=W)
  have hz:=j3 ws W.ties
  have zl:(ws.zip W.ties).length=W.ties.length:=by rw [List.length_zip];lia
  have hos:=Bg (W:=W) h
  have ol:=yE (W:=W) hl
  obtain⟨e1,h1,⟨a3,a4,a5,he1⟩⟩:=bj (own:=[]) (g:=bB (ao (af 3) (ao (af 4) bo))) (f:=cn) (fun i e=>∃v3 v4 v5,e=eX W ws (((ws.zip W.ties).take i).map (ms W)) v3 v4 v5 none none none) ((ws.zip W.ties).map kR) 0 (eX W ws [] none none none none none none) (fun i x e hx ⟨v3,v4,v5,he⟩=>by
    subst he
    rw [Nat.zero_add] at*
    rw [List.getElem?_map] at hx
    obtain⟨p,hp,rfl⟩:=Option.map_eq_some_iff.mp hx
    have il:=(List.getElem?_eq_some_iff.mp hp).1
    have ht:p.2∈W.ties:=(List.of_mem_zip (show(p.1,p.2)∈ws.zip W.ties from List.mem_of_getElem? hp)).2
    have tt:=ww ok (ws:=ws) (os:=((ws.zip W.ties).take i).map (ms W)) (p:=p) ht (by rw [List.length_map,List.length_take];lia) (v5:=v5) (v6:=none) (v7:=none) (v8:=none)
    refine⟨eX W ws (((ws.zip W.ties).take i).map (ms W)) (some (.d (dF p.1))) (some (.d (aY p.2))) v5 none none none,_,rfl,tt,a9,some (.d (dF p.1)),some (.d (aY p.2)),some (.d (.bool (zq W p.2))),?_⟩
    rw [List.take_succ,hp]
    simp only [Option.toList_some,List.map_append,List.map_cons,List.map_nil]) ⟨none,none,none,rfl⟩
  rw [Nat.zero_add,List.length_map,List.take_length] at he1
  change e1=eX W ws (cX W ws) a3 a4 a5 none none none at he1
  subst he1
  have hi1:jg (eX W ws [] none none none none none none)=some ((ws.zip W.ties).map kR,[],eX W ws [] none none none none none none):=by
    rw [←hz]
    simp only [eX,List.map_nil]
    generalize W.ties.map aY=TT at*
    generalize ws.map dF=FF at*
    generalize ar W=WW at*
    simp? [jg,i5,g1']
  have hg1:=fun Wl=>br (W:=Wl) (g:=bB (ao (af 3) (ao (af 4) bo))) (f:=cn) hi1
  rw [h1] at hg1
  have hL:=AM ok hos ol hn W.things.toNat
  have lo:=zx ok (fun f hf=>(hos f hf).mono (by lia)) ol (.inr rfl)
  obtain⟨e2,h2,⟨c7,c8,he2⟩⟩:=bj (own:=[]) (g:=bB (ao (af 7) (ao (af 8) bo))) (f:=cV) (fun i e=>∃v7 v8,e=eX W ws (cX W ws) a3 a4 a5 (some (.d (dF (tT (1,1) ((iZ W (cX W ws) W.things.toNat).take i))))) v7 v8) ((iZ W (cX W ws) W.things.toNat).map p7) 0 (eX W ws (cX W ws) a3 a4 a5 (some (.d (dF (1,1)))) none none) (fun i x e hx ⟨v7,v8,he⟩=>by
    subst he
    rw [Nat.zero_add] at*
    rw [List.getElem?_map] at hx
    obtain⟨p,hp,rfl⟩:=Option.map_eq_some_iff.mp hx
    have b:=(rk ((iZ W (cX W ws) W.things.toNat).take i) (b:=(1,1)) ⟨by decide,by decide,by unfold Bt;decide⟩ fun p hp=>hL p (List.mem_of_mem_take hp)).1
    have tt:=xW (W:=W) (ws:=ws) (os:=cX W ws) b (hL p (List.mem_of_getElem? hp)) (v3:=a3) (v4:=a4) (v5:=a5)
    refine⟨eX W ws (cX W ws) a3 a4 a5 (some (.d (dF (tT (1,1) ((iZ W (cX W ws) W.things.toNat).take i))))) (some (.d (dF p.1))) (some (.d (.int p.2))),_,rfl,tt,a9,some (.d (dF p.1)),some (.d (.int p.2)),?_⟩
    rw [List.take_succ,hp]
    unfold tT
    rw [List.foldl_append]
    rfl) ⟨none,none,rfl⟩
  rw [Nat.zero_add,List.length_map,List.take_length] at he2
  subst he2
  obtain⟨B1, -,B3⟩:=rk (iZ W (cX W ws) W.things.toNat) (b:=(1,1)) ⟨by decide,by decide,by unfold Bt;decide⟩ hL
  have hi2:jf (eX W ws (cX W ws) a3 a4 a5 (some (.d (dF (1,1)))) none none)=some ((iZ W (cX W ws) W.things.toNat).map p7,[],eX W ws (cX W ws) a3 a4 a5 (some (.d (dF (1,1)))) none none):=by
    unfold jf
    refine oX ?_
    simp only [eX]
    generalize (iZ W (cX W ws) W.things.toNat).map p7=LL at*
    generalize (cX W ws).map dF=OO at*
    generalize ws.map dF=FF at*
    generalize ar W=WW at*
    simp? [lo]
  have hg2:=fun Wl=>br (W:=Wl) (g:=bB (ao (af 7) (ao (af 8) bo))) (f:=cV) hi2
  rw [h2] at hg2
  have bp:0 < (tT (1,1) (iZ W (cX W ws) W.things.toNat)).1:=by have:=B1.pos;have:=B1.one;lia
  have b2t:Bt 188 (tT (1,1) (iZ W (cX W ws) W.things.toNat)).2:=B1.top.of_le (by have:=B1.pos;have:=B1.one;lia)
  generalize tT (1,1) (iZ W (cX W ws) W.things.toNat)=by_ at*
  obtain⟨t1,hf1⟩:=eF (cs:=[some (.d (dF by_))]) (ft:=cJ) (fe:=eP) (b:=fun _=>true) (y:=fun x=>dF (zo by_ (D7 x))) ((cX W ws).map dF) none [] (fun x hx=>rfl) (fun x hx _=>by
    obtain⟨f,hf,rfl⟩:=List.mem_map.mp hx
    have s:=hos f hf
    have g1:∀e:En,bf e (.d (.int f.1)) (.d (.int by_.2))=some (.d (.int (f.1*by_.2))):=fun e=>aO (bY (s.top.mono (by lia)) (b2t.mono (by decide)))
    have g2:∀e:En,bf e (.d (.int f.2)) (.d (.int by_.1))=some (.d (.int (f.2*by_.1))):=fun e=>aO (bY (s.bt.mono (by lia)) (B1.top.mono (by decide)))
    have tl:=jZ (f.1*by_.2) (f.2*by_.1) (Int.mul_pos s.low.pos bp) ((s.bt.mul B1.top).mono (by lia))
    rw [show PyData.tuple [.int (lowM (f.1*by_.2) (f.2*by_.1)).1,.int (lowM (f.1*by_.2) (f.2*by_.1)).2]=dF (zo by_ f) from rfl] at tl
    show eP [some (.d (dF by_)),some (.d (dF f))]=some (.d (dF (zo by_ f)),[some (.d (dF by_)),some (.d (dF f))])
    generalize dF (zo by_ f)=R at*
    unfold dF
    simp? [eP,g1,g2,tl]) (by simp;lia)
  have hv:=kJ (cp:=[(6,"_law_by")]) (nT:=1) (fi:=je) (g:=af 1) (ft:=cJ) (fe:=eP) (cs:=[some (.d (dF by_))]) (t:=[none]) (t':=[t1]) (show je (eX W ws (cX W ws) a3 a4 a5 (some (.d (dF by_))) c7 c8)=some ((cX W ws).map dF,[(2,(cX W ws).map dF)],eX W ws (cX W ws) a3 a4 a5 (some (.d (dF by_))) c7 c8) from rfl) rfl rfl rfl hf1
  rw [List.nil_append,fZ,List.map_map] at hv
  refine⟨(cX W ws).map (zo by_),?_,fun f hf=>?_,by rw [List.length_map];exact ol,uq (cX W ws)*by_.1,Int.mul_pos (jR fun f hf=>(hos f hf).low.pos) bp,((iF fun f hf=>(hos f hf).bt).mul B1.top).mono (by rw [ol];lia),fun f hf=>?_⟩
  · rw [List.map_map]
    rw [show Function.comp (fun x=>dF (zo by_ (D7 x))) dF=Function.comp dF (zo by_) from rfl] at hv
    simp only [eX,List.map_nil] at hg1 hg2 hv
    generalize (cX W ws).map (Function.comp dF (zo by_))=RR at*
    generalize (cX W ws).map dF=OO at*
    generalize dF by_=BY at*
    generalize ws.map dF=FF at*
    generalize ar W=WW at*
    unfold dF at hg2
    simp? [iD,pN,hg1,hg2,hv]
  · obtain⟨g,hg,rfl⟩:=List.mem_map.mp hf
    exact(BP (hos g hg) B1.pos B1.one B1.top).mono (by lia)
  · obtain⟨g,hg,rfl⟩:=List.mem_map.mp hf
    have s:=hos g hg
    exact Int.dvd_trans (jL (Int.mul_pos s.low.pos bp) (Int.mul_nonneg s.lo (by have:=B1.pos;lia))) (Int.mul_dvd_mul (iT hg) (Int.dvd_refl _))
theorem me{t b:Int}{n:Nat}(hb:0 < b)(h1:Bt n t)(h2:Bt n b):Bt n (lowM t b).1∧Bt n (lowM t b).2∧0 < (lowM t b).2:=
  ⟨(sP (by lia) h1 h2).1,(sP (by lia) h1 h2).2,(ie.lowM hb).pos⟩
structure FQ (n:Nat) (f:Fr):Prop where
  pos:0 < f.2
  top:Bt n f.1
  bot:Bt n f.2
theorem FQ.mono{n m:Nat}{f:Fr}(h:FQ n f)(hm:n≤m):FQ m f:=⟨h.pos,h.top.mono hm,h.bot.mono hm⟩
theorem FQ.pl{n m:Nat}{a b:Fr}(ha:FQ n a)(hb:FQ m b):FQ (n+m+1) (L2.pl a b):=by
  obtain⟨r1,r2,r3⟩:=me (t:=a.1*b.2+b.1*a.2) (b:=a.2*b.2) (n:=n+m+1) (Int.mul_pos ha.pos hb.pos) ((ha.top.mul hb.bot).add ((hb.top.mul ha.bot).mono (by lia))) ((ha.bot.mul hb.bot).mono (by lia))
  exact⟨r3,r1,r2⟩
theorem FQ.tm{n m:Nat}{a b:Fr}(ha:FQ n a)(hb:FQ m b):FQ (n+m) (L2.tm a b):=by
  obtain⟨r1,r2,r3⟩:=me (t:=a.1*b.1) (b:=a.2*b.2) (n:=n+m) (Int.mul_pos ha.pos hb.pos) (ha.top.mul hb.top) (ha.bot.mul hb.bot)
  exact⟨r3,r1,r2⟩
def xQ(b:Fr):Fr:=(0 - b.1,b.2)
theorem FQ.ng{n:Nat}{b:Fr}(h:FQ n b):FQ n (xQ b):=⟨h.pos,h.top.of_le (by show(0 - b.1).natAbs≤b.1.natAbs;lia),h.bot⟩
theorem FQ.zero:FQ 1 ((0,1):Fr):=⟨by decide,by unfold Bt;decide,by unfold Bt;decide⟩
theorem zy{a b:Fr}{n m:Nat}(ha:FQ n a)(hb:FQ m b)(h:n+m≤3990):ml [.d (dF a),.d (dF b)]=some (.d (dF (pl a b)),[.d (dF a),.d (dF b)]):=by
  have g1:∀e:En,bf e (.d (.int a.1)) (.d (.int b.2))=some (.d (.int (a.1*b.2))):=fun e=>aO (bY (ha.top.mono (by lia)) (hb.bot.mono (by lia)))
  have g3:∀e:En,bf e (.d (.int b.1)) (.d (.int a.2))=some (.d (.int (b.1*a.2))):=fun e=>aO (bY (hb.top.mono (by lia)) (ha.bot.mono (by lia)))
  have g2:∀e:En,bf e (.d (.int a.2)) (.d (.int b.2))=some (.d (.int (a.2*b.2))):=fun e=>aO (bY (ha.bot.mono (by lia)) (hb.bot.mono (by lia)))
  have tl:=qG (a.1*b.2+b.1*a.2) (a.2*b.2) (Int.mul_pos ha.pos hb.pos) ((ha.bot.mul hb.bot).mono (by lia))
  unfold pl
  unfold dF at*
  simp? [ml,u7,g1,g2,g3,tl]
theorem dP{a b:Fr}{n m:Nat}(ha:FQ n a)(hb:FQ m b)(h:n+m≤3990):bJ [.d (dF a),.d (dF b)]=some (.d (dF (pl a b)),[.d (dF a),.d (dF b)]):=by
  have g1:∀e:En,bf e (.d (.int a.1)) (.d (.int b.2))=some (.d (.int (a.1*b.2))):=fun e=>aO (bY (ha.top.mono (by lia)) (hb.bot.mono (by lia)))
  have g3:∀e:En,bf e (.d (.int b.1)) (.d (.int a.2))=some (.d (.int (b.1*a.2))):=fun e=>aO (bY (hb.top.mono (by lia)) (ha.bot.mono (by lia)))
  have g2:∀e:En,bf e (.d (.int a.2)) (.d (.int b.2))=some (.d (.int (a.2*b.2))):=fun e=>aO (bY (ha.bot.mono (by lia)) (hb.bot.mono (by lia)))
  have tl:=jZ (a.1*b.2+b.1*a.2) (a.2*b.2) (Int.mul_pos ha.pos hb.pos) ((ha.bot.mul hb.bot).mono (by lia))
  unfold pl
  unfold dF at*
  simp? [bJ,rj,g1,g2,g3,tl]
def jO(a b:Fr):Fr:=pl a (xQ b)
def be(L:List Fr)(i:Int):Fr:=L.getD i.toNat (0,1)
def a7(t:fP):Fr:=tm (cC t) (t.worth,1)
def ed(K:List Fr)(t:fP):Fr:=tm (cC t) (pl (be K t.one) (be K t.other))
def av(K B:List Fr)(A:Fr)(O:List Fr)(t:fP)(k:Nat):Fr:=jO (jO (jO (jO (jO (a7 t) (ed K t)) (be B t.one)) (be B t.other)) A) (be O k)
def qf(K B:List Fr)(A:Fr)(O:List Fr)(t:fP)(k:Nat):Fr:=pl (pl (pl (pl (pl (0,1) (ed K t)) (be B t.one)) (be B t.other)) A) (be O k)
structure d9 (n:Nat) (W:aR) (K B:List Fr) (A:Fr) (O:List Fr):Prop where
  k:∀f∈K,FQ n f
  b:∀f∈B,FQ n f
  a:FQ n A
  o:∀f∈O,FQ n f
  lk:(K.length:Int)=W.things
  lb:(B.length:Int)=W.things
  lo:O.length=W.ties.length
theorem iG{n:Nat}{L:List Fr}{i:Int}(h:∀f∈L,FQ n f)(h0:0≤i)(h1:i < (L.length:Int)):FQ n (be L i):=by
  have h2:i.toNat < L.length:=by lia
  unfold be
  rw [List.getD_eq_getElem?_getD,List.getElem?_eq_getElem h2]
  exact h _ (List.getElem_mem h2)
def uA(b:Bool)(xs:List PyData):PyData:=if b then .list xs else .tuple xs
theorem AD{e:En}{b:Bool}{xs:List PyData}{i:Int}:aV e (.d (uA b xs)) (.d (.int i))=(atI xs i).map .d:=by
  cases b<;>rfl
theorem jG{e:En}{b:Bool}{L:List Fr}{i:Int}(h0:0≤i)(h1:i < (L.length:Int)):aV e (.d (uA b (L.map dF))) (.d (.int i))=some (.d (dF (be L i))):=by
  rw [AD,oB h0 h1];rfl
theorem oG{W:aR}(ok:W.Ok){t:fP}(ht:t∈W.ties):FQ 7 (cC t):=by
  have s:=gK ok ht
  exact⟨s.low.pos,s.top.mono (by decide),s.bt⟩
theorem iy{W:aR}(ok:W.Ok){t:fP}(ht:t∈W.ties):FQ 17 (a7 t):=by
  have o:=ok.ties t ht
  exact((oG ok ht).tm (m:=10) (b:=(t.worth,1)) ⟨by show(0:Int) < 1;decide,by have:=o.w0;have:=o.w1;show Bt 10 t.worth;unfold Bt;lia,by show Bt 10 1;unfold Bt;decide⟩)
theorem eA{W:aR}(ok:W.Ok){t:fP}(ht:t∈W.ties):FQ 10 ((t.worth,1):Fr):=by
  have o:=ok.ties t ht
  exact⟨by show(0:Int) < 1;decide,by have:=o.w0;have:=o.w1;show Bt 10 t.worth;unfold Bt;lia,by show Bt 10 1;unfold Bt;decide⟩
abbrev nF(W:aR)(p:PyData)(k:Nat)(x3 x4 x5 x6:PyData)(t:fP)(v12:Option Sv)(f:Fr):En:=[some (.d (ar W)),some (.d p),some (.d (.int (k:Int))),some (.d x3),some (.d x4),some (.d x5),some (.d x6),some (.d (.int t.one)),some (.d (.int t.other)),some (.d (.tuple [.int t.top,.int t.bot])),some (.d (.int t.worth)),some (.d (dF f)),v12]
theorem f9{W:aR}{p:PyData}{k:Nat}{x3 x4 x5 x6:PyData}{t:fP}{a b:Fr}{n m:Nat}(ha:FQ n a)(hb:FQ m b)(h:n+m≤3990):
    ff (nF W p k x3 x4 x5 x6 t (some (.d (dF b))) a)=some (.nx (nF W p k x3 x4 x5 x6 t (some (.d (dF b))) (jO a b)))∧fj (nF W p k x3 x4 x5 x6 t (some (.d (dF b))) a)=some (.nx (nF W p k x3 x4 x5 x6 t (some (.d (dF b))) (jO a b))):=by
  have tp:=dP ha hb.ng h
  have gi0:∀e:En,aV e (.d (dF b)) (.d (.int 0))=some (.d (.int b.1)):=fun e=>rfl
  have gi1:∀e:En,aV e (.d (dF b)) (.d (.int 1))=some (.d (.int b.2)):=fun e=>rfl
  have hn:PyData.tuple [.int (-b.1),.int b.2]=dF (xQ b):=by simp [dF,xQ]
  change bJ [.d (dF a),.d (dF (xQ b))]=some (.d (dF (jO a b)),_) at tp
  unfold nF
  generalize dF (jO a b)=r at*
  generalize dF a=a' at*
  generalize dF (xQ b)=nb at*
  generalize dF b=b' at*
  generalize ar W=w' at*
  constructor
  · simp? [ff,gi0,gi1,hn,tp]
  · simp? [fj,gi0,gi1,hn,tp]
theorem uE{W:aR}(ok:W.Ok){K B O:List Fr}{A:Fr}(h:d9 350 W K B A O){b1 b2 b3:Bool}{k:Nat}(hk:k < W.ties.length){p:PyData}(hp:p=.tuple [uA b1 (K.map dF),uA b2 (B.map dF),dF A,uA b3 (O.map dF)]):
    eJ [.d (ar W),.d p,.d (.int (k:Int))]=some (.d (dF (av K B A O (W.tie (k:Int)) k)),[.d (ar W),.d p,.d (.int (k:Int))]):=by
  have ik:qW W (k:Int):=⟨by lia,by lia⟩
  have ht:W.tie (k:Int)∈W.ties:=by
    unfold aR.tie
    rw [show((k:Int)).toNat=k by lia,List.getD_eq_getElem?_getD,List.getElem?_eq_getElem hk]
    exact List.getElem_mem hk
  have o:=ok.ties _ ht
  have:=o.o0;have:=o.o1;have:=o.o2
  have lk:=h.lk;have lb:=h.lb;have lo:=h.lo
  have gt:atI (W.ties.map aY) (k:Int)=some (aY (W.tie (k:Int))):=jy ik
  have gw:∀e:En,aV e (.d (ar W)) (.d (.int 1))=some (.d (.tuple (W.ties.map aY))):=fun e=>by rw [ir,kQ,lK];rfl
  generalize W.tie (k:Int)=t at*
  have q1:∀e:En,aV e (.d (uA b1 (K.map dF))) (.d (.int t.one))=some (.d (dF (be K t.one))):=fun e=>jG (by lia) (by lia)
  have q2:∀e:En,aV e (.d (uA b1 (K.map dF))) (.d (.int t.other))=some (.d (dF (be K t.other))):=fun e=>jG (by lia) (by lia)
  have q3:∀e:En,aV e (.d (uA b2 (B.map dF))) (.d (.int t.one))=some (.d (dF (be B t.one))):=fun e=>jG (by lia) (by lia)
  have q4:∀e:En,aV e (.d (uA b2 (B.map dF))) (.d (.int t.other))=some (.d (dF (be B t.other))):=fun e=>jG (by lia) (by lia)
  have q5:∀e:En,aV e (.d (uA b3 (O.map dF))) (.d (.int (k:Int)))=some (.d (dF (be O k))):=fun e=>jG (by lia) (by lia)
  have f1:FQ 350 (be K t.one):=iG h.k (by lia) (by lia)
  have f2:FQ 350 (be K t.other):=iG h.k (by lia) (by lia)
  have f3:FQ 350 (be B t.one):=iG h.b (by lia) (by lia)
  have f4:FQ 350 (be B t.other):=iG h.b (by lia) (by lia)
  have f5:FQ 350 (be O k):=iG h.o (by lia) (by lia)
  have fp:=f1.pl f2
  have fc:=oG ok ht
  have tp:=dP f1 f2 (by decide)
  have tg:=iX (n:=1000) fc.pos (eA ok ht).pos (fc.top.mono (by decide)) (fc.bot.mono (by decide)) ((eA ok ht).top.mono (by decide)) ((eA ok ht).bot.mono (by decide)) (by decide)
  have tk:=iX (n:=1000) fc.pos fp.pos (fc.top.mono (by decide)) (fc.bot.mono (by decide)) (fp.top.mono (by decide)) (fp.bot.mono (by decide)) (by decide)
  change bC [.d (.tuple [.int t.top,.int t.bot]),.d (.tuple [.int t.worth,.int 1])]=some (.d (dF (a7 t)),[.d (.tuple [.int t.top,.int t.bot]),.d (.tuple [.int t.worth,.int 1])]) at tg
  change bC [.d (.tuple [.int t.top,.int t.bot]),.d (dF (pl (be K t.one) (be K t.other)))]=some (.d (dF (ed K t)),[.d (.tuple [.int t.top,.int t.bot]),.d (dF (pl (be K t.one) (be K t.other)))]) at tk
  have fk:FQ 800 (ed K t):=(fc.tm fp).mono (by decide)
  have fg:FQ 17 (a7 t):=iy ok ht
  have n1:FQ 900 (jO (a7 t) (ed K t)):=(fg.pl fk.ng).mono (by decide)
  have n2:FQ 1300 (jO (jO (a7 t) (ed K t)) (be B t.one)):=(n1.pl f3.ng).mono (by decide)
  have n3:FQ 1700 (jO (jO (jO (a7 t) (ed K t)) (be B t.one)) (be B t.other)):=(n2.pl f4.ng).mono (by decide)
  have n4:FQ 2100 (jO (jO (jO (jO (a7 t) (ed K t)) (be B t.one)) (be B t.other)) A):=(n3.pl h.a.ng).mono (by decide)
  have s1:=fun p x3 x4 x5 x6=>(f9 (W:=W) (p:=p) (k:=k) (x3:=x3) (x4:=x4) (x5:=x5) (x6:=x6) (t:=t) fg fk (by decide)).2
  have s2:=fun p x3 x4 x5 x6=>(f9 (W:=W) (p:=p) (k:=k) (x3:=x3) (x4:=x4) (x5:=x5) (x6:=x6) (t:=t) n1 f3 (by decide)).2
  have s3:=fun p x3 x4 x5 x6=>(f9 (W:=W) (p:=p) (k:=k) (x3:=x3) (x4:=x4) (x5:=x5) (x6:=x6) (t:=t) n2 f4 (by decide)).2
  have s4:=fun p x3 x4 x5 x6=>(f9 (W:=W) (p:=p) (k:=k) (x3:=x3) (x4:=x4) (x5:=x5) (x6:=x6) (t:=t) n3 h.a (by decide)).1
  have s5:=fun p x3 x4 x5 x6=>(f9 (W:=W) (p:=p) (k:=k) (x3:=x3) (x4:=x4) (x5:=x5) (x6:=x6) (t:=t) n4 f5 (by decide)).1
  generalize hx3:uA b1 (K.map dF)=x3 at*
  generalize hx4:uA b2 (B.map dF)=x4 at*
  generalize hx6:uA b3 (O.map dF)=x6 at*
  have F1:∀Wl,cN Wl iA (af 12) fj (nF W p k x3 x4 (dF A) x6 t none (a7 t))=some (.nx (nF W p k x3 x4 (dF A) x6 t (some (.d (dF (be B t.other)))) (jO (jO (jO (a7 t) (ed K t)) (be B t.one)) (be B t.other)))):=fun Wl=>by
    have hi:iA (nF W p k x3 x4 (dF A) x6 t none (a7 t))=some ([dF (ed K t),dF (be B t.one),dF (be B t.other)],[],nF W p k x3 x4 (dF A) x6 t none (a7 t)):=by
      refine oX ?_
      unfold nF
      simp? [q1,q2,q3,q4,tp,tk]
    rw [br hi]
    have g:∀(x:PyData) (v:Option Sv) (f:Fr),af 12 x (nF W p k x3 x4 (dF A) x6 t v f)=some (nF W p k x3 x4 (dF A) x6 t (some (.d x)) f):=fun x v f=>rfl
    simp only [j8,g,s1,s2,s3,Option.bind_some,a9,if_true]
  have F2:∀v f,iz (nF W p k x3 x4 (dF A) x6 t v f)=some ([dF A,dF (be O k)],[],nF W p k x3 x4 (dF A) x6 t v f):=fun v f=>by
    refine oX ?_
    unfold nF
    simp? [q5]
  have F3:∀Wl,cN Wl iz (af 12) ff (nF W p k x3 x4 (dF A) x6 t (some (.d (dF (be B t.other)))) (jO (jO (jO (a7 t) (ed K t)) (be B t.one)) (be B t.other)))=some (.nx (nF W p k x3 x4 (dF A) x6 t (some (.d (dF (be O k)))) (av K B A O t k))):=fun Wl=>by
    rw [br (F2 _ _)]
    have g:∀(x:PyData) (v:Option Sv) (f:Fr),af 12 x (nF W p k x3 x4 (dF A) x6 t v f)=some (nF W p k x3 x4 (dF A) x6 t (some (.d x)) f):=fun x v f=>rfl
    simp only [j8,g,s4,s5,Option.bind_some,a9,if_true]
    rfl
  unfold nF at F1 F3
  generalize dF (av K B A O t k)=R at*
  generalize dF (a7 t)=G at*
  subst hp
  generalize ar W=w' at*
  generalize W.ties.map aY=tt at*
  unfold aY at gt
  generalize dF A=A' at*
  simp? [eJ,m8,gw,gt,tg,F1,F3]
theorem B0{W:aR}(ok:W.Ok){t:fP}(ht:t∈W.ties):f_ [.d (aY t)]=some (.d (dF (a7 t)),[.d (aY t)]):=by
  have fc:=oG ok ht
  have tg:=lA (n:=1000) fc.pos (eA ok ht).pos (fc.top.mono (by decide)) (fc.bot.mono (by decide)) ((eA ok ht).top.mono (by decide)) ((eA ok ht).bot.mono (by decide)) (by decide)
  change cG [.d (.tuple [.int t.top,.int t.bot]),.d (.tuple [.int t.worth,.int 1])]=some (.d (dF (a7 t)),[.d (.tuple [.int t.top,.int t.bot]),.d (.tuple [.int t.worth,.int 1])]) at tg
  generalize dF (a7 t)=R at*
  unfold aY
  simp? [f_,m9,tg]
theorem DK{b:Fr}:vR (xQ b)= - vR b:=by
  unfold vR xQ
  simp only [Int.zero_sub,Rat.intCast_neg]
  grind
theorem qM{a b:Fr}(ha:0 < a.2)(hb:0 < b.2):vR (jO a b)=vR a - vR b:=by
  unfold jO
  rw [fN ha (show 0 < (xQ b).2 from hb),DK]
  grind
theorem ki{a b:Fr}(ha:0 < a.2)(hb:0 < b.2):0 < (pl a b).2:=(ie.pl ha hb).pos
theorem gR{a b:Fr}(ha:0 < a.2)(hb:0 < b.2):0 < (jO a b).2:=(ie.pl ha (show 0 < (xQ b).2 from hb)).pos
theorem Ah{f:Fr}(h:0 < f.2):0 < vR f↔ 0 < f.1:=by
  have h2:(0:Rat) < (f.2:Rat):=by exact_mod_cast h
  have e:vR f*(f.2:Rat)=(f.1:Rat):=by unfold vR;have:=bG h;grind
  constructor
  · intro q
    have:=Rat.mul_pos q h2
    rw [e] at this
    exact_mod_cast this
  · intro q
    have q':(0:Rat) < (f.1:Rat):=by exact_mod_cast q
    rw [←e] at q'
    refine Rat.not_le.mp fun z=>?_
    have z1:0≤ - vR f:=by grind
    have z2:=Rat.mul_nonneg z1 (Rat.le_of_lt h2)
    have z3: - vR f*(f.2:Rat)= - (vR f*(f.2:Rat)):=by grind
    rw [z3] at z2
    generalize vR f*(f.2:Rat)=u at*
    grind
theorem jK{W:aR}(ok:W.Ok){K B O:List Fr}{A:Fr}{n:Nat}(h:d9 n W K B A O){t:fP}(ht:t∈W.ties):FQ n (be K t.one)∧FQ n (be K t.other)∧FQ n (be B t.one)∧FQ n (be B t.other)∧0 < (ed K t).2:=by
  have o:=ok.ties _ ht
  have:=o.o0;have:=o.o1;have:=o.o2
  have lk:=h.lk;have lb:=h.lb
  have f1:FQ n (be K t.one):=iG h.k (by lia) (by lia)
  have f2:FQ n (be K t.other):=iG h.k (by lia) (by lia)
  exact⟨f1,f2,iG h.b (by lia) (by lia),iG h.b (by lia) (by lia),((oG ok ht).tm (f1.pl f2)).pos⟩
theorem fM{W:aR}(ok:W.Ok){K B O:List Fr}{A:Fr}{n:Nat}(h:d9 n W K B A O){t:fP}(ht:t∈W.ties){k:Nat}(hk:k < W.ties.length):
    vR (av K B A O t k)=vR (a7 t) - vR (cC t)*(vR (be K t.one)+vR (be K t.other)) - vR (be B t.one) - vR (be B t.other) - vR A - vR (be O k)∧0 < (av K B A O t k).2∧vR (av K B A O t k)=vR (a7 t) - vR (qf K B A O t k)∧0 < (qf K B A O t k).2∧FQ (n*6+50) (qf K B A O t k):=by
  obtain⟨f1,f2,f3,f4,fk⟩:=jK ok h ht
  have fo:FQ n (be O k):=iG h.o (by lia) (by have:=h.lo;lia)
  have fg:=iy ok ht
  have p1:=gR fg.pos fk
  have p2:=gR p1 f3.pos
  have p3:=gR p2 f4.pos
  have p4:=gR p3 h.a.pos
  have p5:=gR p4 fo.pos
  have z0:0 < ((0,1):Fr).2:=by decide
  have r1:=ki z0 fk
  have r2:=ki r1 f3.pos
  have r3:=ki r2 f4.pos
  have r4:=ki r3 h.a.pos
  have r5:=ki r4 fo.pos
  have e1:vR (av K B A O t k)=vR (a7 t) - vR (ed K t) - vR (be B t.one) - vR (be B t.other) - vR A - vR (be O k):=by
    unfold av
    rw [qM p4 fo.pos,qM p3 h.a.pos,qM p2 f4.pos,qM p1 f3.pos,qM fg.pos fk]
  have e2:vR (qf K B A O t k)=vR (0,1)+vR (ed K t)+vR (be B t.one)+vR (be B t.other)+vR A+vR (be O k):=by
    unfold qf
    rw [fN r4 fo.pos,fN r3 h.a.pos,fN r2 f4.pos,fN r1 f3.pos,fN z0 fk]
  have ek:vR (ed K t)=vR (cC t)*(vR (be K t.one)+vR (be K t.other)):=by
    unfold ed
    rw [kU (oG ok ht).pos (f1.pl f2).pos,fN f1.pos f2.pos]
  refine⟨by rw [e1,ek],p5,?_,r5,?_⟩
  · rw [e1,e2,r9];grind
  · exact(((((FQ.zero.pl ((oG ok ht).tm (f1.pl f2))).pl f3).pl f4).pl h.a).pl fo).mono (by lia)
abbrev lm(K B:List Fr)(A:Fr)(O:List Fr):PyData:=.tuple [.tuple (K.map dF),.tuple (B.map dF),dF A,.tuple (O.map dF)]
theorem lC{W:aR}{k:Nat}(hk:k < W.ties.length):W.tie (k:Int)∈W.ties:=by
  unfold aR.tie
  rw [show((k:Int)).toNat=k by lia,List.getD_eq_getElem?_getD,List.getElem?_eq_getElem hk]
  exact List.getElem_mem hk
structure PO (D V:Int) (f:Fr):Prop where
  low:ie f
  ge:0≤vR f
  le:vR f≤(V:Rat)
  dn:∃u:Int,vR f*(D:Rat)=(u:Rat)
theorem jq{f:Fr}(h:0 < f.2):vR f*(f.2:Rat)=(f.1:Rat):=by
  unfold vR
  have:=bG h
  grind
theorem cB{a:Int}(h:0 < a):(0:Rat) < (a:Rat):=by exact_mod_cast h
theorem PO.mono{D V V':Int}{f:Fr}(h:PO D V f)(m:Int)(hv:V≤V'):PO (D*m) V' f:=by
  obtain⟨u,hu⟩:=h.dn
  refine⟨h.low,h.ge,?_,u*m,?_⟩
  · have:(V:Rat)≤(V':Rat):=by exact_mod_cast hv
    exact Rat.le_trans h.le this
  · rw [Rat.intCast_mul,Rat.intCast_mul,←hu];grind
theorem PO.bits{D V:Int}{f:Fr}(h:PO D V f)(hD:0 < D)(hb:Bt 230 D)(hV:V≤20000):FQ 250 f∧0≤f.1:=by
  obtain⟨u,hu⟩:=h.dn
  have p:=h.low.pos
  have e:=jq p
  have p':=cB p
  have e2:f.1*D=f.2*u:=by
    have:(f.1:Rat)*(D:Rat)=(f.2:Rat)*(u:Rat):=by rw [←e,←hu];grind
    exact_mod_cast this
  have dv:f.2 ∣ D:=by
    have c:Nat.Coprime f.2.natAbs f.1.natAbs:=by
      have:=h.low.cop
      rw [Int.gcd_comm] at this
      exact this
    have d2:f.2.natAbs ∣ f.1.natAbs*D.natAbs:=by
      rw [←Int.natAbs_mul]
      exact Int.natAbs_dvd_natAbs.mpr ⟨u,e2⟩
    exact Int.natAbs_dvd_natAbs.mp (c.dvd_of_dvd_mul_left d2)
  have le:=Int.le_of_dvd hD dv
  have n0:0≤f.1:=by
    have:=Rat.mul_nonneg h.ge (Rat.le_of_lt p')
    rw [e] at this
    exact_mod_cast this
  have up:f.1≤V*f.2:=by
    have:(f.1:Rat)≤(V:Rat)*(f.2:Rat):=by rw [←e];exact Rat.mul_le_mul_of_nonneg_right h.le (Rat.le_of_lt p')
    exact_mod_cast this
  have b2:Bt 230 f.2:=hb.of_le (by lia)
  have v2:Bt 15 (20000:Int):=by unfold Bt;decide
  refine⟨⟨p,((v2.mul b2).mono (n:=250) (by decide)).of_le ?_,b2.mono (by decide)⟩,n0⟩
  have:V*f.2≤20000*f.2:=Int.mul_le_mul_of_nonneg_right hV (by lia)
  lia
theorem ko{D:Int}{i:Nat}(h0:0 < D)(h:D≤2520*10000 ^ i)(hi:i≤16):Bt 230 D:=by
  have h1:(10000:Int) ^ i≤10000 ^ 16:=by exact_mod_cast Nat.pow_le_pow_right (n:=10000) (by decide) hi
  have h2:D≤2520*10000 ^ 16:=Int.le_trans h (Int.mul_le_mul_of_nonneg_left h1 (by decide))
  have h3:Bt 230 (2520*10000 ^ 16:Int):=by unfold Bt;decide
  exact h3.of_le (by lia)
structure PI (W:aR) (i:Nat) (K B:List Fr) (A:Fr) (O:List Fr):Prop where
  ex:∃D:Int,0 < D∧D≤2520*10000 ^ i∧∀f,(f∈K∨f∈B∨f=A∨f∈O)→PO D (40+1000*i) f
  lk:(K.length:Int)=W.things
  lb:(B.length:Int)=W.things
  lo:O.length=W.ties.length
  zr:∀j:Nat,i≤j→be O j=(0,1)
  dn:∀j:Nat,j < i→j < W.ties.length→vR (av K B A O (W.tie (j:Int)) j)≤0
theorem PI.rows{W:aR}{i:Nat}{K B O:List Fr}{A:Fr}(h:PI W i K B A O)(hi:i≤16):d9 250 W K B A O∧∀f,(f∈K∨f∈B∨f=A∨f∈O)→ie f∧0≤f.1:=by
  obtain⟨D,d0,d1,hp⟩:=h.ex
  have b:=ko d0 d1 hi
  have q:=fun f hf=>(hp f hf).bits d0 b (by lia)
  exact⟨⟨fun f hf=>(q f (.inl hf)).1,fun f hf=>(q f (.inr (.inl hf))).1,(q A (.inr (.inr (.inl rfl)))).1,fun f hf=>(q f (.inr (.inr (.inr hf)))).1,h.lk,h.lb,h.lo⟩,fun f hf=>⟨(hp f hf).low,(q f hf).2⟩⟩
theorem d9.mono{n m:Nat}{W:aR}{K B O:List Fr}{A:Fr}(h:d9 n W K B A O)(hm:n≤m):d9 m W K B A O:=⟨fun f hf=>(h.k f hf).mono hm,fun f hf=>(h.b f hf).mono hm,h.a.mono hm,fun f hf=>(h.o f hf).mono hm,h.lk,h.lb,h.lo⟩
theorem er{L:List Fr}{i:Int}(h0:0≤i)(h1:i < (L.length:Int)):be L i∈L:=by
  have h2:i.toNat < L.length:=by lia
  unfold be
  rw [List.getD_eq_getElem?_getD,List.getElem?_eq_getElem h2]
  exact List.getElem_mem h2
theorem gU{L:List Fr}{i j:Int}{f:Fr}(h0:0≤i)(h1:i < (L.length:Int))(j0:0≤j):be (L.set i.toNat f) j=if i=j then f else be L j:=by
  unfold be
  rw [List.getD_eq_getElem?_getD,List.getD_eq_getElem?_getD]
  by_cases e:i=j
  · subst e
    rw [if_pos rfl,List.getElem?_set_self (by lia)];rfl
  · rw [if_neg e,List.getElem?_set_ne (by lia)]
theorem md{W:aR}(ok:W.Ok){i:Nat}{K B O:List Fr}{A:Fr}(hi:i < W.ties.length){D V:Int}(d0:0 < D)(hr:d9 250 W K B A O)(hp:∀f,(f∈K∨f∈B∨f=A∨f∈O)→PO D V f)(hl:0 < (av K B A O (W.tie (i:Int)) i).1):
    0 < (W.tie (i:Int)).top∧0 < (W.tie (i:Int)).bot∧vR (cC (W.tie (i:Int)))*((W.tie (i:Int)).bot:Rat)=((W.tie (i:Int)).top:Rat)∧0 < vR (av K B A O (W.tie (i:Int)) i)∧vR (av K B A O (W.tie (i:Int)) i)≤vR (cC (W.tie (i:Int)))*1000∧vR (av K B A O (W.tie (i:Int)) i)≤1000∧
      (∃u:Int,vR (av K B A O (W.tie (i:Int)) i)*((D*(W.tie (i:Int)).bot:Int):Rat)=(u:Rat)):=by
  have ht:=lC hi
  have o:=ok.ties _ ht
  obtain⟨e1,l2,_,_,_⟩:=fM ok hr ht hi
  have hv:0 < vR (av K B A O (W.tie (i:Int)) i):=(Ah l2).mpr hl
  have lo:=hr.lo;have lk:=hr.lk;have lb:=hr.lb
  have o0:=o.o0;have o1:=o.o1;have o2:=o.o2
  have P1:=hp _ (.inl (er (L:=K) (i:=(W.tie (i:Int)).one) (by lia) (by lia)))
  have P2:=hp _ (.inl (er (L:=K) (i:=(W.tie (i:Int)).other) (by lia) (by lia)))
  have P3:=hp _ (.inr (.inl (er (L:=B) (i:=(W.tie (i:Int)).one) (by lia) (by lia))))
  have P4:=hp _ (.inr (.inl (er (L:=B) (i:=(W.tie (i:Int)).other) (by lia) (by lia))))
  have P5:=hp A (.inr (.inr (.inl rfl)))
  have P6:=hp _ (.inr (.inr (.inr (er (L:=O) (i:=(i:Int)) (by lia) (by lia)))))
  generalize W.tie (i:Int)=t at*
  have b0:0 < t.bot:=by have:=o.b0;lia
  have ec:vR (cC t)*(t.bot:Rat)=(t.top:Rat):=jq (f:=cC t) b0
  have eg:vR (a7 t)=vR (cC t)*(t.worth:Rat):=by
    unfold a7
    rw [kU (oG ok ht).pos (eA ok ht).pos,jp]
  have c0:0≤vR (cC t):=by
    have:=Rat.not_lt.mp fun z:vR (cC t) < 0=>by
      have q:0 < - vR (cC t):=by grind
      have:=Rat.mul_pos q (cB b0)
      have q2:(0:Rat)≤(t.top:Rat):=by exact_mod_cast o.c0
      have q3: - vR (cC t)*(t.bot:Rat)= - (t.top:Rat):=by rw [←ec];grind
      rw [q3] at this
      grind
    exact this
  have c1:vR (cC t)≤1:=by
    refine Rat.not_lt.mp fun z=>?_
    have q:0 < vR (cC t) - 1:=by grind
    have:=Rat.mul_pos q (cB b0)
    have q2:(t.top:Rat)≤(t.bot:Rat):=by exact_mod_cast o.c1
    have q3:(vR (cC t) - 1)*(t.bot:Rat)=(t.top:Rat) - (t.bot:Rat):=by rw [←ec];grind
    rw [q3] at this
    grind
  have w1:(t.worth:Rat)≤1000:=by exact_mod_cast o.w1
  have w0:(0:Rat)≤(t.worth:Rat):=by exact_mod_cast o.w0
  have m1:vR (cC t)*(t.worth:Rat)≤vR (cC t)*1000:=Rat.mul_le_mul_of_nonneg_left w1 c0
  have m2:0≤vR (cC t)*(vR (be K t.one)+vR (be K t.other)):=Rat.mul_nonneg c0 (by have:=P1.ge;have:=P2.ge;grind)
  have lc:vR (av K B A O t i)≤vR (cC t)*1000:=by
    rw [e1,eg]
    have:=P3.ge;have:=P4.ge;have:=P5.ge;have:=P6.ge
    grind
  have tp:0 < t.top:=by
    rcases Int.lt_or_le 0 t.top with z | z
    · exact z
    · exfalso
      have z':t.top=0:=by have:=o.c0;lia
      rw [z'] at ec
      have q:vR (cC t)=0:=by
        have hb:=bG b0
        have:vR (cC t)*(t.bot:Rat)=0:=by rw [ec];rfl
        grind
      rw [q] at lc
      grind
  refine⟨tp,b0,ec,hv,lc,by grind,?_⟩
  obtain⟨u1,h1⟩:=P1.dn
  obtain⟨u2,h2⟩:=P2.dn
  obtain⟨u3,h3⟩:=P3.dn
  obtain⟨u4,h4⟩:=P4.dn
  obtain⟨u5,h5⟩:=P5.dn
  obtain⟨u6,h6⟩:=P6.dn
  refine⟨D*(t.top*t.worth) - t.top*(u1+u2) - t.bot*(u3+u4+u5+u6),?_⟩
  simp only [Rat.intCast_sub,Rat.intCast_mul,Rat.intCast_add]
  rw [e1,eg,←h1,←h2,←h3,←h4,←h5,←h6,←ec]
  generalize vR (cC t)=c at*
  generalize (t.bot:Rat)=b at*
  generalize (D:Rat)=d at*
  generalize (t.worth:Rat)=w at*
  generalize vR (be K t.one)=x1 at*
  generalize vR (be K t.other)=x2 at*
  generalize vR (be B t.one)=x3 at*
  generalize vR (be B t.other)=x4 at*
  generalize vR A=x5 at*
  generalize vR (be O i)=x6 at*
  clear h1 h2 h3 h4 h5 h6 m1 m2 lc e1
  grind
theorem yi{W:aR}(ok:W.Ok){n m:Nat}{K B O K' B' O':List Fr}{A:Fr}(h:d9 n W K B A O)(h':d9 m W K' B' A O')(hk:∀j:Int,0≤j→vR (be K j)≤vR (be K' j))(hb:∀j:Int,0≤j→vR (be B j)≤vR (be B' j))(ho:∀j:Int,0≤j→vR (be O j)≤vR (be O' j)){k:Nat}(hlt:k < W.ties.length):
    vR (av K' B' A O' (W.tie (k:Int)) k)≤vR (av K B A O (W.tie (k:Int)) k):=by
  have ht:=lC hlt
  have o:=ok.ties _ ht
  have o0:=o.o0;have o1:=o.o1
  rw [(fM ok h ht hlt).1,(fM ok h' ht hlt).1]
  generalize W.tie (k:Int)=t at*
  have b0:0 < t.bot:=by have:=o.b0;lia
  have ec:vR (cC t)*(t.bot:Rat)=(t.top:Rat):=jq (f:=cC t) b0
  have c0:0≤vR (cC t):=by
    have:=Rat.not_lt.mp fun z:vR (cC t) < 0=>by
      have q:0 < - vR (cC t):=by grind
      have:=Rat.mul_pos q (cB b0)
      have q2:(0:Rat)≤(t.top:Rat):=by exact_mod_cast o.c0
      have q3: - vR (cC t)*(t.bot:Rat)= - (t.top:Rat):=by rw [←ec];grind
      rw [q3] at this
      grind
    exact this
  have m1:vR (cC t)*(vR (be K t.one)+vR (be K t.other))≤vR (cC t)*(vR (be K' t.one)+vR (be K' t.other)):=Rat.mul_le_mul_of_nonneg_left (by have:=hk t.one (by lia);have:=hk t.other (by lia);grind) c0
  have:=hb t.one (by lia)
  have:=hb t.other (by lia)
  have:=ho k (by lia)
  grind
theorem PI.stay{W:aR}{i:Nat}{K B O:List Fr}{A:Fr}(h:PI W i K B A O)(hl:¬0 < vR (av K B A O (W.tie (i:Int)) i)):PI W (i+1) K B A O:=by
  obtain⟨D,d0,d1,hp⟩:=h.ex
  refine⟨⟨D,d0,?_,fun f hf=>by have:=(hp f hf).mono 1 (V':=40+1000*((i+1:Nat):Int)) (by lia);rwa [Int.mul_one] at this⟩,h.lk,h.lb,h.lo,fun j hj=>h.zr j (by lia),fun j hj hlt=>?_⟩
  · have:(10000:Int) ^ i≤10000 ^ (i+1):=by exact_mod_cast Nat.pow_le_pow_right (n:=10000) (by decide) (by lia)
    lia
  · by_cases z:j=i
    · subst z;exact Rat.not_lt.mp hl
    · exact h.dn j (by lia) hlt
theorem PI.up{W:aR}(ok:W.Ok){i:Nat}{K B O K' B' O':List Fr}{A:Fr}(hi:i < W.ties.length)(h:PI W i K B A O){D':Int}(d0:0 < D')(d1:D'≤2520*10000 ^ (i+1))(hp:∀f,(f∈K'∨f∈B'∨f=A∨f∈O')→PO D' (40+1000*(i+1:Nat)) f)
    (lk:K'.length=K.length)(lb:B'.length=B.length)(lo:O'.length=O.length)(hk:∀j:Int,0≤j→vR (be K j)≤vR (be K' j))(hb:∀j:Int,0≤j→vR (be B j)≤vR (be B' j))(ho:∀j:Int,0≤j→vR (be O j)≤vR (be O' j))(hz:∀j:Nat,i+1≤j→be O' j=(0,1))(hl:vR (av K' B' A O' (W.tie (i:Int)) i)≤0):PI W (i+1) K' B' A O':=by
  have wl:=ok.len
  have r1:=(h.rows (by lia)).1
  have b:=ko d0 d1 (by lia)
  have q:=fun f hf=>(hp f hf).bits d0 b (by lia)
  have r2:d9 250 W K' B' A O':=⟨fun f hf=>(q f (.inl hf)).1,fun f hf=>(q f (.inr (.inl hf))).1,(q A (.inr (.inr (.inl rfl)))).1,fun f hf=>(q f (.inr (.inr (.inr hf)))).1,by rw [lk];exact h.lk,by rw [lb];exact h.lb,by rw [lo];exact h.lo⟩
  refine⟨⟨D',d0,d1,hp⟩,r2.lk,r2.lb,r2.lo,hz,fun j hj hlt=>?_⟩
  by_cases z:j=i
  · subst z;exact hl
  · exact Rat.le_trans (yi ok r1 r2 hk hb ho hlt) (h.dn j (by lia) hlt)
def iB(l:Fr)(t:fP):Fr:=lowM (l.1*t.bot) (l.2*t.top)
theorem iW{L:List Fr}{n:Nat}{f g:Fr}(h:f∈L.set n g):f∈L∨f=g:=by
  rcases List.mem_or_eq_of_mem_set h with h | h
  · exact .inl h
  · exact .inr h
theorem rW{L:List Fr}{i:Int}{f:Fr}(h0:0≤i)(h1:i < (L.length:Int))(hf:vR (be L i)≤vR f):∀j:Int,0≤j→vR (be L j)≤vR (be (L.set i.toNat f) j):=fun j hj=>by
  rw [gU h0 h1 hj]
  split
  · rename_i e;subst e;exact hf
  · exact Rat.le_refl
theorem D8{D:Int}{i:Nat}{t b:Int}(h1:D≤2520*10000 ^ i)(d0:0 < D)(t0:0 < t)(t1:t≤100)(b0:0 < b)(b1:b≤100):0 < D*(b*t)∧D*(b*t)≤2520*10000 ^ (i+1):=by
  have p:0 < b*t:=Int.mul_pos b0 t0
  have q:b*t≤100*100:=Int.mul_le_mul b1 t1 (by lia) (by decide)
  refine⟨Int.mul_pos d0 p,?_⟩
  have:D*(b*t)≤(2520*10000 ^ i)*10000:=Int.mul_le_mul h1 q (by lia) (by lia)
  rw [Int.pow_succ]
  lia
theorem PI.ways{W:aR}(ok:W.Ok){i:Nat}{K B O:List Fr}{A:Fr}(hi:i < W.ties.length)(h:PI W i K B A O)(hl:0 < (av K B A O (W.tie (i:Int)) i).1):
    PI W (i+1) K B A (O.set i (av K B A O (W.tie (i:Int)) i))∧PI W (i+1) (K.set (W.tie (i:Int)).one.toNat (pl (be K (W.tie (i:Int)).one) (iB (av K B A O (W.tie (i:Int)) i) (W.tie (i:Int))))) B A O∧
      PI W (i+1) K (B.set (W.tie (i:Int)).other.toNat (pl (be B (W.tie (i:Int)).other) (av K B A O (W.tie (i:Int)) i))) A O:=by
  have wl:=ok.len
  obtain⟨D,d0,d1,hp⟩:=h.ex
  have hr:=(h.rows (by lia)).1
  obtain⟨tp,bp,ec,lv,lc,l1000,u,hu⟩:=md ok hi d0 hr hp hl
  have ht:=lC hi
  obtain⟨e1,l2,_,_,_⟩:=fM ok hr ht hi
  have o:=ok.ties _ ht
  have o0:=o.o0;have o1:=o.o1;have o2:=o.o2
  have lk:=h.lk;have lb:=h.lb;have lo:=h.lo
  have z0:=h.zr i (Nat.le_refl _)
  have k1:=er (L:=K) (i:=(W.tie (i:Int)).one) (by lia) (by lia)
  have k4:=er (L:=B) (i:=(W.tie (i:Int)).other) (by lia) (by lia)
  have P1:=hp _ (.inl k1)
  have P4:=hp _ (.inr (.inl k4))
  obtain⟨D0,D1⟩:=D8 d1 d0 tp (by have:=o.c1;have:=o.b1;lia) bp o.b1
  have hp':=fun f hf=>(hp f hf).mono ((W.tie (i:Int)).bot*(W.tie (i:Int)).top) (V':=40+1000*((i+1:Nat):Int)) (by lia)
  have lL:ie (av K B A O (W.tie (i:Int)) i):=by
    unfold av jO
    exact ie.lowM (Int.mul_pos (gR (gR (gR (gR (iy ok ht).pos (jK ok hr ht).2.2.2.2) (jK ok hr ht).2.2.1.pos) (jK ok hr ht).2.2.2.1.pos) hr.a.pos) (iG hr.o (by lia) (by lia)).pos)
  have Vc:(1000:Rat)≤((40+1000*((i+1:Nat):Int):Int):Rat):=by
    have:(1000:Int)≤40+1000*((i+1:Nat):Int):=by lia
    exact_mod_cast this
  have Vs:((40+1000*(i:Int):Int):Rat)+1000=((40+1000*((i+1:Nat):Int):Int):Rat):=by
    have:(40+1000*(i:Int))+1000=40+1000*((i+1:Nat):Int):=by lia
    have e:(((40+1000*(i:Int))+1000:Int):Rat)=((40+1000*(i:Int):Int):Rat)+((1000:Int):Rat):=Rat.intCast_add _ _
    rw [←this,e];rfl
  have PL:PO (D*((W.tie (i:Int)).bot*(W.tie (i:Int)).top)) (40+1000*((i+1:Nat):Int)) (av K B A O (W.tie (i:Int)) i):=by
    refine⟨lL,Rat.le_of_lt lv,Rat.le_trans l1000 Vc,u*(W.tie (i:Int)).top,?_⟩
    rw [Rat.intCast_mul u,←hu]
    simp only [Rat.intCast_mul]
    grind
  have hin:vR (iB (av K B A O (W.tie (i:Int)) i) (W.tie (i:Int)))=vR (av K B A O (W.tie (i:Int)) i)*((W.tie (i:Int)).bot:Rat) / ((W.tie (i:Int)).top:Rat):=by
    unfold iB
    rw [pF (Int.mul_pos l2 tp)]
    unfold vR
    simp only [Rat.intCast_mul]
    have:=bG l2
    have:=bG tp
    grind
  have ip:0 < (iB (av K B A O (W.tie (i:Int)) i) (W.tie (i:Int))).2:=(ie.lowM (Int.mul_pos l2 tp)).pos
  generalize hL:av K B A O (W.tie (i:Int)) i=L at*
  generalize hT:W.tie (i:Int)=t at*
  have tn:=bG tp
  have bn:=bG bp
  have tR:=cB tp
  have bR:=cB bp
  have q0:0≤vR (iB L t):=by
    refine Rat.not_lt.mp fun z=>?_
    have z1:0 < - vR (iB L t):=by grind
    have z2:=Rat.mul_pos z1 tR
    have z3:=Rat.mul_pos lv bR
    have z4: - vR (iB L t)*(t.top:Rat)= - (vR L*(t.bot:Rat)):=by rw [hin];grind
    rw [z4] at z2
    grind
  have q1:vR (iB L t)≤1000:=by
    refine Rat.not_lt.mp fun z=>?_
    have z1:0 < vR (iB L t) - 1000:=by grind
    have z2:=Rat.mul_pos z1 tR
    have z4:(vR (iB L t) - 1000)*(t.top:Rat)=(vR L - vR (cC t)*1000)*(t.bot:Rat):=by rw [hin,←ec];grind
    have z5:(vR L - vR (cC t)*1000)*(t.bot:Rat)≤0:=by
      have y1:0≤vR (cC t)*1000 - vR L:=by grind
      have y2:=Rat.mul_nonneg y1 (Rat.le_of_lt bR)
      grind
    rw [z4] at z2
    grind
  refine⟨?_,?_,?_⟩
  · have is:(i:Int).toNat=i:=by lia
    refine h.up ok hi D0 D1 (fun f hf=>?_) rfl rfl (by simp) (fun _ _=>Rat.le_refl) (fun _ _=>Rat.le_refl) ?_ (fun j hj=>?_) ?_
    · rcases hf with hf | hf | hf | hf
      · exact hp' f (.inl hf)
      · exact hp' f (.inr (.inl hf))
      · exact hp' f (.inr (.inr (.inl hf)))
      · rcases iW hf with hf | rfl
        · exact hp' f (.inr (.inr (.inr hf)))
        · exact PL
    · have:=rW (L:=O) (i:=(i:Int)) (f:=L) (by lia) (by lia) (by rw [z0,r9];exact Rat.le_of_lt lv)
      rwa [is] at this
    · have:=gU (L:=O) (i:=(i:Int)) (j:=(j:Int)) (f:=L) (by lia) (by lia) (by lia)
      rw [is,if_neg (by lia)] at this
      rw [this];exact h.zr j (by lia)
    · have hr':d9 400 W K B A (O.set i L):=⟨fun f hf=>(hr.k f hf).mono (by decide),fun f hf=>(hr.b f hf).mono (by decide),hr.a.mono (by decide),fun f hf=>by
        rcases iW hf with hf | rfl
        · exact(hr.o f hf).mono (by decide)
        · exact((PL.bits D0 (ko D0 D1 (by lia)) (by lia)).1).mono (by decide),hr.lk,hr.lb,by rw [List.length_set];exact hr.lo⟩
      rw [hT,(fM ok hr' ht hi).1]
      have:=gU (L:=O) (i:=(i:Int)) (j:=(i:Int)) (f:=L) (by lia) (by lia) (by lia)
      rw [is,if_pos rfl] at this
      rw [this]
      rw [z0,r9] at e1
      grind
  · have PK:PO (D*(t.bot*t.top)) (40+1000*((i+1:Nat):Int)) (pl (be K t.one) (iB L t)):=by
      have ev:=fN P1.low.pos ip
      obtain⟨u1,h1⟩:=P1.dn
      refine⟨ie.pl P1.low.pos ip,by rw [ev];have:=P1.ge;grind,?_,u1*(t.bot*t.top)+u*t.bot,?_⟩
      · rw [ev,←Vs];have:=P1.le;grind
      · rw [ev,hin]
        simp only [Rat.intCast_mul,Rat.intCast_add] at hu ⊢
        rw [←h1,←hu]
        grind
    have ev:=fN P1.low.pos ip
    refine h.up ok hi D0 D1 (fun f hf=>?_) (by simp) rfl rfl (rW (by lia) (by lia) (by rw [ev];grind)) (fun _ _=>Rat.le_refl) (fun _ _=>Rat.le_refl) (fun j hj=>h.zr j (by lia)) ?_
    · rcases hf with hf | hf | hf | hf
      · rcases iW hf with hf | rfl
        · exact hp' f (.inl hf)
        · exact PK
      · exact hp' f (.inr (.inl hf))
      · exact hp' f (.inr (.inr (.inl hf)))
      · exact hp' f (.inr (.inr (.inr hf)))
    · have hr':d9 400 W (K.set t.one.toNat (pl (be K t.one) (iB L t))) B A O:=⟨fun f hf=>by
        rcases iW hf with hf | rfl
        · exact(hr.k f hf).mono (by decide)
        · exact((PK.bits D0 (ko D0 D1 (by lia)) (by lia)).1).mono (by decide),fun f hf=>(hr.b f hf).mono (by decide),hr.a.mono (by decide),fun f hf=>(hr.o f hf).mono (by decide),by rw [List.length_set];exact hr.lk,hr.lb,hr.lo⟩
      rw [hT,(fM ok hr' ht hi).1,gU (by lia) (by lia) (by lia),if_pos rfl,gU (by lia) (by lia) (by lia),if_neg (by lia),ev,hin]
      have ec':vR (cC t)=(t.top:Rat) / (t.bot:Rat):=by rw [←ec];grind
      have key:vR (cC t)*(vR L*(t.bot:Rat) / (t.top:Rat))=vR L:=by rw [ec'];grind
      grind
  · have PB:PO (D*(t.bot*t.top)) (40+1000*((i+1:Nat):Int)) (pl (be B t.other) L):=by
      have ev:=fN P4.low.pos l2
      obtain⟨u1,h1⟩:=P4.dn
      refine⟨ie.pl P4.low.pos l2,by rw [ev];have:=P4.ge;grind,?_,u1*(t.bot*t.top)+u*t.top,?_⟩
      · rw [ev,←Vs];have:=P4.le;grind
      · rw [ev]
        simp only [Rat.intCast_mul,Rat.intCast_add] at hu ⊢
        rw [←h1,←hu]
        grind
    have ev:=fN P4.low.pos l2
    refine h.up ok hi D0 D1 (fun f hf=>?_) rfl (by simp) rfl (fun _ _=>Rat.le_refl) (rW (by lia) (by lia) (by rw [ev];grind)) (fun _ _=>Rat.le_refl) (fun j hj=>h.zr j (by lia)) ?_
    · rcases hf with hf | hf | hf | hf
      · exact hp' f (.inl hf)
      · rcases iW hf with hf | rfl
        · exact hp' f (.inr (.inl hf))
        · exact PB
      · exact hp' f (.inr (.inr (.inl hf)))
      · exact hp' f (.inr (.inr (.inr hf)))
    · have hr':d9 400 W K (B.set t.other.toNat (pl (be B t.other) L)) A O:=⟨fun f hf=>(hr.k f hf).mono (by decide),fun f hf=>by
        rcases iW hf with hf | rfl
        · exact(hr.b f hf).mono (by decide)
        · exact((PB.bits D0 (ko D0 D1 (by lia)) (by lia)).1).mono (by decide),hr.a.mono (by decide),fun f hf=>(hr.o f hf).mono (by decide),hr.lk,by rw [List.length_set];exact hr.lb,hr.lo⟩
      rw [hT,(fM ok hr' ht hi).1,gU (by lia) (by lia) (by lia),if_neg (by lia),gU (by lia) (by lia) (by lia),if_pos rfl,ev]
      grind
theorem rP{m:Int}(h0:0≤m)(h1:m≤40):PO 2520 40 (m,1):=by
  refine⟨⟨by show(0:Int) < 1;decide,by show Int.gcd m 1=1;exact Int.gcd_one⟩,?_,?_,m*2520,?_⟩
  · rw [jp];exact_mod_cast h0
  · rw [jp];exact_mod_cast h1
  · rw [jp,Rat.intCast_mul]
theorem Br{a b:Int}(h0:0≤a)(h1:a≤39)(b0:1≤b)(b1:b≤9):PO 2520 40 (lowM a b):=by
  have hb:0 < b:=by lia
  have e:=pF (t:=a) hb
  have bn:=bG hb
  have bR:=cB hb
  have e2:vR (lowM a b)*(b:Rat)=(a:Rat):=by rw [e];grind
  obtain⟨c,hc⟩:∃c:Int,b*c=2520:=by
    have:b=1∨b=2∨b=3∨b=4∨b=5∨b=6∨b=7∨b=8∨b=9:=by lia
    rcases this with rfl | rfl | rfl | rfl | rfl | rfl | rfl | rfl | rfl
    · exact⟨2520,rfl⟩
    · exact⟨1260,rfl⟩
    · exact⟨840,rfl⟩
    · exact⟨630,rfl⟩
    · exact⟨504,rfl⟩
    · exact⟨420,rfl⟩
    · exact⟨360,rfl⟩
    · exact⟨315,rfl⟩
    · exact⟨280,rfl⟩
  refine⟨ie.lowM hb,?_,?_,a*c,?_⟩
  · refine Rat.not_lt.mp fun z=>?_
    have q:0 < - vR (lowM a b):=by grind
    have:=Rat.mul_pos q bR
    have q2:(0:Rat)≤(a:Rat):=by exact_mod_cast h0
    have q3: - vR (lowM a b)*(b:Rat)= - (a:Rat):=by rw [←e2];grind
    rw [q3] at this
    grind
  · refine Rat.not_lt.mp fun z=>?_
    have q:0 < vR (lowM a b) - ((40:Int):Rat):=by grind
    have:=Rat.mul_pos q bR
    have q2:(a:Rat)≤((40:Int):Rat)*(b:Rat):=by
      have:a≤40*b:=by lia
      exact_mod_cast this
    have q3:(vR (lowM a b) - ((40:Int):Rat))*(b:Rat)=(a:Rat) - ((40:Int):Rat)*(b:Rat):=by rw [←e2];grind
    rw [q3] at this
    grind
  · rw [←hc,Rat.intCast_mul,Rat.intCast_mul,←e2];grind
theorem tI{n k:Int}(hn:0≤n)(k0:0≤k)(k1:k < 3):∃f,eh [.d (.int n),.d (.int k)]=some (.d (dF f),[.d (.int n),.d (.int k)])∧PO 2520 40 f:=by
  have b40:Bt 8000 40:=j5 (by decide) (by decide)
  have g9:∀(e:En) (i:Int),aW e (.d (.int i)) (.d (.int 9))=some (.d (.int (i % 9))):=fun e i=>aJ (by decide)
  have g40:∀e:En,aW e (.d (.int n)) (.d (.int 40))=some (.d (.int (n % 40))):=fun e=>aJ (by decide)
  have f40:∀e:En,dJ e (.d (.int n)) (.d (.int 40))=some (.d (.int (n / 40))):=fun e=>eG (by decide) b40
  have hl:=jZ (n % 40) (1+(n / 40) % 9) (by lia) (u9 (by lia) (by lia) (by decide))
  have c:k=0∨k=1∨k=2:=by lia
  rcases c with rfl | rfl | rfl
  · exact⟨(n % 9,1),by unfold dF;simp? [eh,k_,g9,g40,f40,hl],rP (by lia) (by lia)⟩
  · exact⟨lowM (n % 40) (1+(n / 40) % 9),by unfold dF;simp? [eh,k_,g9,g40,f40,hl],Br (by lia) (by lia) (by lia) (by lia)⟩
  · exact⟨(0,1),by unfold dF;simp? [eh,k_,g9,g40,f40,hl],rP (by decide) (by decide)⟩
def uG(ei:En)(o:Option Nat)(s:Option Sv):Option Sv:=match s with
  | some (.l xs)=>match o with
    | some k=>(ei[k]?).join
    | none=>some (.l xs)
  | s=>s
theorem DH{ei:En}{s:Option Sv}:uG ei none s=s:=by rcases s with _ | (_ | _ | _)<;>rfl
theorem AC{D V:Int}{out:List PyData}(h:∀d∈out,∃f:Fr,d=dF f∧PO D V f):∃ws:List Fr,out=ws.map dF∧∀f∈ws,PO D V f:=by
  induction out with
  | nil=>exact⟨[],rfl,fun _ h=>by cases h⟩
  | cons d r ih=>
    obtain⟨ws,rfl,hw⟩:=ih fun x hx=>h x (by simp [hx])
    obtain⟨f,rfl,hf⟩:=h d (by simp)
    exact⟨f::ws,rfl,fun g hg=>by rcases List.mem_cons.mp hg with rfl | hg;exact hf;exact hw g hg⟩
theorem vf{ds:List Int}{W:aR}(ok:W.Ok){v2 v3 v4 v5 v6 v7 v8 v9 v10 v11 v12:Option Sv}(hd:hG ds):∃(ds':List Int) (ws:List Fr),cK [(0,"_law_drawn")] 1 gM (af 1) cJ eO [some (.l (ds.map .int)),some (.d (ar W)),v2,v3,v4,v5,v6,v7,v8,v9,v10,v11,v12]=some (.l (ws.map dF),[some (.l (ds'.map .int)),some (.d (ar W)),v2,v3,v4,v5,v6,v7,v8,v9,v10,v11,v12])∧hG ds'∧(ws.length:Int)=W.things∧∀f∈ws,PO 2520 40 f:=by
  have t0:=ok.t0;have t1:=ok.t1
  have g0':=EX (W:=W)
  obtain⟨out,e',h1,h2,h3,⟨ds',v,he,hd'⟩⟩:=nu (g:=af 1) (ft:=cJ) (fe:=eO) (fun i e=>∃ds v,e=[some (.l (ds.map .int)),v]∧hG ds) (fun d=>∃f:Fr,d=dF f∧PO 2520 40 f) (a_ 0 W.things.toNat) 0 [some (.l (ds.map .int)),none] [] (fun i x e hx ⟨ds,v,he,hd⟩=>by
    subst he
    obtain⟨n,d1,t1,a1,b1,hd1⟩:=gC hd
    obtain⟨n2,d2,t2,a2,b2,hd2⟩:=gC hd1
    have gm:∀e:En,aW e (.d (.int n2)) (.d (.int 3))=some (.d (.int (n2 % 3))):=fun e=>aJ (by decide)
    obtain⟨f,tc,hf⟩:=tI (n:=n) (k:=n2 % 3) a1 (by lia) (by lia)
    refine⟨_,.d (dF f),dF f,_,rfl,rfl,?_,rfl,⟨f,rfl,hf⟩,d2,some (.d x),rfl,hd2⟩
    generalize dF f=F at*
    simp? [eO,t1,t2,gm,tc]) ⟨ds,none,rfl,hd⟩ (by simp [cz];lia)
  subst he
  rw [List.nil_append] at h1
  obtain⟨ws,rfl,hw⟩:=AC h3
  rw [cz,List.length_map] at h2
  refine⟨ds',ws,?_,hd',by lia,hw⟩
  have hi:gM [some (.l (ds.map .int)),some (.d (ar W)),v2,v3,v4,v5,v6,v7,v8,v9,v10,v11,v12]=some (a_ 0 W.things.toNat,[],[some (.l (ds.map .int)),some (.d (ar W)),v2,v3,v4,v5,v6,v7,v8,v9,v10,v11,v12]):=
    cq (fs:=aa (aq aV (ae 1) (vC (.int 0))) ah) (n:=W.things) (by generalize ds.map PyData.int=DS;generalize ar W=WW at*;simp? [g0']) (by lia) (by lia)
  rw [uH (cp:=[(0,"_law_drawn")]) (nT:=1) hi h1 rfl]
  refine congrArg (fun z=>some (Rv.l (ws.map dF),z)) ?_
  have u:kG (kj [(0,"_law_drawn")]) [some (.l (ds'.map .int)),v] [some (.l (ds.map .int)),some (.d (ar W)),v2,v3,v4,v5,v6,v7,v8,v9,v10,v11,v12]=[some (.l (ds'.map .int)),some (.d (ar W)),uG [] none v2,uG [] none v3,uG [] none v4,uG [] none v5,uG [] none v6,uG [] none v7,uG [] none v8,uG [] none v9,uG [] none v10,uG [] none v11,uG [] none v12]:=rfl
  simp only [DH] at u
  exact u
abbrev gf(ds:List Int)(W:aR)(K B:List Fr)(A:Fr)(O:List Fr)(v6 v7 v8 v9 v10 v11 v12:Option Sv):En:=[some (.l (ds.map .int)),some (.d (ar W)),some (.l (K.map dF)),some (.l (B.map dF)),some (.d (dF A)),some (.l (O.map dF)),v6,v7,v8,v9,v10,v11,v12]
theorem ua{ds:List Int}{W:aR}(ok:W.Ok){K B O:List Fr}{A:Fr}(h:d9 350 W K B A O){i:Nat}(hi:i < W.ties.length){v7 v8 v9 v10 v11 v12:Option Sv}:
    uI 3 eJ (ae 1) (aa (ae 2) (aa (ae 3) (aa (ae 4) (aa (ae 5) ah)))) (aa (ae 6) ah) (gf ds W K B A O (some (.d (.int (i:Int)))) v7 v8 v9 v10 v11 v12)=some (.d (dF (av K B A O (W.tie (i:Int)) i)),gf ds W K B A O (some (.d (.int (i:Int)))) v7 v8 v9 v10 v11 v12):=by
  have tl:=uE ok h (b1:=true) (b2:=true) (b3:=true) hi (p:=.tuple [.list (K.map dF),.list (B.map dF),dF A,.list (O.map dF)]) rfl
  have nl:∀f:Fr,ud (dF f)=true:=fun f=>rfl
  have nl':=nl (av K B A O (W.tie (i:Int)) i)
  unfold gf
  generalize dF (av K B A O (W.tie (i:Int)) i)=L at*
  generalize K.map dF=KK at*
  generalize B.map dF=BB at*
  generalize O.map dF=OO at*
  generalize dF A=AA at*
  generalize ar W=WW at*
  simp? [uI,pU,kO,tl,nl']
inductive Ao (W:aR) (A:Fr) (i:Nat):En→Prop
  | mk {ds:List Int} {K B O:List Fr} {v6 v7 v8 v9 v10 v11 v12:Option Sv} (hd:hG ds) (h:PI W i K B A O):Ao W A i (gf ds W K B A O v6 v7 v8 v9 v10 v11 v12)
theorem rQ{ds:List Int}{W:aR}(ok:W.Ok){K B O:List Fr}{A:Fr}{i:Nat}(hi:i < W.ties.length)(h:PI W i K B A O)(hd:hG ds){v7 v8 v9 v10 v11 v12:Option Sv}:
    ∃e2,cm (gf ds W K B A O (some (.d (.int (i:Int)))) v7 v8 v9 v10 v11 v12)=some (.nx e2)∧Ao W A (i+1) e2:=by
  have wl:=ok.len
  have hr:=(h.rows (by lia)).1
  have lc:=ua (ds:=ds) ok (hr.mono (by decide)) hi (v7:=v7) (v8:=v8) (v9:=v9) (v10:=v10) (v11:=v11) (v12:=v12)
  obtain⟨n,d1,t1,a1,b1,hd1⟩:=gC hd
  have gm:∀e:En,aW e (.d (.int n)) (.d (.int 3))=some (.d (.int (n % 3))):=fun e=>aJ (by decide)
  have m0:0≤n % 3:=by lia
  have m1:n % 3 < 3:=by lia
  generalize n % 3=w at*
  have g1':=zY (W:=W)
  have ga:atI (W.ties.map aY) (i:Int)=some (aY (W.tie (i:Int))):=jy ⟨by lia,by lia⟩
  have ht:=lC hi
  have o:=ok.ties _ ht
  have o0:=o.o0;have o1:=o.o1;have o2:=o.o2
  have lk:=h.lk;have lb:=h.lb;have lo:=h.lo
  have gi0:∀e:En,aV e (.d (dF (av K B A O (W.tie (i:Int)) i))) (.d (.int 0))=some (.d (.int (av K B A O (W.tie (i:Int)) i).1)):=fun e=>rfl
  have gi1:∀e:En,aV e (.d (dF (av K B A O (W.tie (i:Int)) i))) (.d (.int 1))=some (.d (.int (av K B A O (W.tie (i:Int)) i).2)):=fun e=>rfl
  have l2:=(fM ok hr ht hi).2.1
  by_cases hl:0 < (av K B A O (W.tie (i:Int)) i).1
  case neg=>
    have st:=h.stay (fun z=>hl ((Ah l2).mp z))
    have gg:∀e:En,uO e (.d (.int (av K B A O (W.tie (i:Int)) i).1)) (.d (.int 0))=some (.d (.bool false)):=fun e=>by rw [ef];simp [hl]
    refine⟨gf d1 W K B A O (some (.d (.int (i:Int)))) (some (.d (dF (av K B A O (W.tie (i:Int)) i)))) (some (.d (.int (W.tie (i:Int)).one))) (some (.d (.int (W.tie (i:Int)).other))) (some (.d (.tuple [.int (W.tie (i:Int)).top,.int (W.tie (i:Int)).bot]))) (some (.d (.int (W.tie (i:Int)).worth))) (some (.d (.int w))),?_,.mk hd1 st⟩
    unfold gf at*
    generalize dF (av K B A O (W.tie (i:Int)) i)=L at*
    generalize (av K B A O (W.tie (i:Int)) i).1=L1 at*
    generalize (av K B A O (W.tie (i:Int)) i).2=L2 at*
    generalize K.map dF=KK at*
    generalize B.map dF=BB at*
    generalize O.map dF=OO at*
    generalize dF A=AA at*
    generalize ar W=WW at*
    generalize W.ties.map aY=TT at*
    unfold aY at ga
    simp? [cm,lc,g1',ga,t1,gm,gi0,gg, -ef]
  case pos=>
    obtain⟨y1,y2,y3⟩:=h.ways ok hi hl
    have gg:∀e:En,uO e (.d (.int (av K B A O (W.tie (i:Int)) i).1)) (.d (.int 0))=some (.d (.bool true)):=fun e=>by rw [ef];simp [hl]
    have fL:FQ 250 (av K B A O (W.tie (i:Int)) i):=by
      have r:=(y1.rows (by lia)).1
      exact r.o _ (List.mem_iff_getElem?.mpr ⟨i,List.getElem?_set_self (by lia)⟩)
    have cw:w=0∨w=1∨w=2:=by lia
    rcases cw with rfl | rfl | rfl
    · refine⟨gf d1 W K B A (O.set i (av K B A O (W.tie (i:Int)) i)) (some (.d (.int (i:Int)))) (some (.d (dF (av K B A O (W.tie (i:Int)) i)))) (some (.d (.int (W.tie (i:Int)).one))) (some (.d (.int (W.tie (i:Int)).other))) (some (.d (.tuple [.int (W.tie (i:Int)).top,.int (W.tie (i:Int)).bot]))) (some (.d (.int (W.tie (i:Int)).worth))) (some (.d (.int 0))),?_,.mk hd1 y1⟩
      have hix:t_ (O.map dF).length (i:Int)=some i:=by unfold t_;rw [List.length_map,if_pos (by lia),if_pos (by lia)];rfl
      unfold gf at*
      rw [List.map_set]
      generalize dF (av K B A O (W.tie (i:Int)) i)=L at*
      generalize (av K B A O (W.tie (i:Int)) i).1=L1 at*
      generalize (av K B A O (W.tie (i:Int)) i).2=L2 at*
      generalize K.map dF=KK at*
      generalize B.map dF=BB at*
      generalize O.map dF=OO at*
      generalize dF A=AA at*
      generalize ar W=WW at*
      generalize W.ties.map aY=TT at*
      unfold aY at ga
      simp? [cm,lc,g1',ga,t1,gm,gi0,gg,qm,ku,hix, -ef]
    · refine⟨gf d1 W (K.set (W.tie (i:Int)).one.toNat (pl (be K (W.tie (i:Int)).one) (iB (av K B A O (W.tie (i:Int)) i) (W.tie (i:Int))))) B A O (some (.d (.int (i:Int)))) (some (.d (dF (av K B A O (W.tie (i:Int)) i)))) (some (.d (.int (W.tie (i:Int)).one))) (some (.d (.int (W.tie (i:Int)).other))) (some (.d (.tuple [.int (W.tie (i:Int)).top,.int (W.tie (i:Int)).bot]))) (some (.d (.int (W.tie (i:Int)).worth))) (some (.d (.int 1))),?_,.mk hd1 y2⟩
      have hix:t_ (K.map dF).length (W.tie (i:Int)).one=some (W.tie (i:Int)).one.toNat:=by unfold t_;rw [List.length_map,if_pos (by lia),if_pos (by lia)]
      have gk:atI (K.map dF) (W.tie (i:Int)).one=some (dF (be K (W.tie (i:Int)).one)):=oB (by lia) (by lia)
      obtain⟨D,d0,dd1,hp⟩:=h.ex
      obtain⟨tp,bp,_⟩:=md ok hi d0 hr hp hl
      have fb:Bt 7 (W.tie (i:Int)).bot:=by have:=o.b1;unfold Bt;lia
      have ft:Bt 7 (W.tie (i:Int)).top:=by have:=o.b1;have:=o.c1;unfold Bt;lia
      have gb:∀e:En,bf e (.d (.int (av K B A O (W.tie (i:Int)) i).1)) (.d (.int (W.tie (i:Int)).bot))=some (.d (.int ((av K B A O (W.tie (i:Int)) i).1*(W.tie (i:Int)).bot))):=fun e=>aO (bY (fL.top.mono (by decide)) (fb.mono (by decide)))
      have gt:∀e:En,bf e (.d (.int (av K B A O (W.tie (i:Int)) i).2)) (.d (.int (W.tie (i:Int)).top))=some (.d (.int ((av K B A O (W.tie (i:Int)) i).2*(W.tie (i:Int)).top))):=fun e=>aO (bY (fL.bot.mono (by decide)) (ft.mono (by decide)))
      have tl:=jZ ((av K B A O (W.tie (i:Int)) i).1*(W.tie (i:Int)).bot) ((av K B A O (W.tie (i:Int)) i).2*(W.tie (i:Int)).top) (Int.mul_pos l2 tp) ((fL.bot.mul ft).mono (by decide))
      change dg _=some (.d (dF (iB (av K B A O (W.tie (i:Int)) i) (W.tie (i:Int)))),_) at tl
      have fI:FQ 257 (iB (av K B A O (W.tie (i:Int)) i) (W.tie (i:Int))):=by
        obtain⟨r1,r2,r3⟩:=me (n:=257) (Int.mul_pos l2 tp) (fL.top.mul fb) (fL.bot.mul ft)
        exact⟨r3,r1,r2⟩
      have tpl:=dP (hr.k _ (er (L:=K) (i:=(W.tie (i:Int)).one) (by lia) (by lia))) fI (by decide)
      unfold gf at*
      rw [List.map_set]
      generalize dF (pl (be K (W.tie (i:Int)).one) (iB (av K B A O (W.tie (i:Int)) i) (W.tie (i:Int))))=RR at*
      generalize dF (iB (av K B A O (W.tie (i:Int)) i) (W.tie (i:Int)))=II at*
      generalize dF (be K (W.tie (i:Int)).one)=KO at*
      generalize dF (av K B A O (W.tie (i:Int)) i)=L at*
      generalize (av K B A O (W.tie (i:Int)) i).1=L1 at*
      generalize (av K B A O (W.tie (i:Int)) i).2=L2 at*
      generalize K.map dF=KK at*
      generalize B.map dF=BB at*
      generalize O.map dF=OO at*
      generalize dF A=AA at*
      generalize ar W=WW at*
      generalize W.ties.map aY=TT at*
      unfold aY at ga
      simp? [cm,lc,g1',ga,t1,gm,gi0,gi1,gg,gk,gb,gt,tl,tpl,qm,ku,hix, -ef]
    · refine⟨gf d1 W K (B.set (W.tie (i:Int)).other.toNat (pl (be B (W.tie (i:Int)).other) (av K B A O (W.tie (i:Int)) i))) A O (some (.d (.int (i:Int)))) (some (.d (dF (av K B A O (W.tie (i:Int)) i)))) (some (.d (.int (W.tie (i:Int)).one))) (some (.d (.int (W.tie (i:Int)).other))) (some (.d (.tuple [.int (W.tie (i:Int)).top,.int (W.tie (i:Int)).bot]))) (some (.d (.int (W.tie (i:Int)).worth))) (some (.d (.int 2))),?_,.mk hd1 y3⟩
      have hix:t_ (B.map dF).length (W.tie (i:Int)).other=some (W.tie (i:Int)).other.toNat:=by unfold t_;rw [List.length_map,if_pos (by lia),if_pos (by lia)]
      have gk:atI (B.map dF) (W.tie (i:Int)).other=some (dF (be B (W.tie (i:Int)).other)):=oB (by lia) (by lia)
      have tpl:=dP (hr.b _ (er (L:=B) (i:=(W.tie (i:Int)).other) (by lia) (by lia))) fL (by decide)
      unfold gf at*
      rw [List.map_set]
      generalize dF (pl (be B (W.tie (i:Int)).other) (av K B A O (W.tie (i:Int)) i))=RR at*
      generalize dF (be B (W.tie (i:Int)).other)=KO at*
      generalize dF (av K B A O (W.tie (i:Int)) i)=L at*
      generalize (av K B A O (W.tie (i:Int)) i).1=L1 at*
      generalize (av K B A O (W.tie (i:Int)) i).2=L2 at*
      generalize K.map dF=KK at*
      generalize B.map dF=BB at*
      generalize O.map dF=OO at*
      generalize dF A=AA at*
      generalize ar W=WW at*
      generalize W.ties.map aY=TT at*
      unfold aY at ga
      simp? [cm,lc,g1',ga,t1,gm,gi0,gi1,gg,gk,tpl,qm,ku,hix, -ef]
theorem yP{W:aR}{K B:List Fr}{A:Fr}(hk:∀f∈K,PO 2520 40 f)(hb:∀f∈B,PO 2520 40 f)(ha:PO 2520 40 A)(lk:(K.length:Int)=W.things)(lb:(B.length:Int)=W.things):PI W 0 K B A (List.replicate W.ties.length (0,1)):=by
  refine⟨⟨2520,by decide,by decide,fun f hf=>?_⟩,lk,lb,by simp,fun j _=>?_,fun j hj=>by lia⟩
  · rcases hf with hf | hf | rfl | hf
    · exact hk f hf
    · exact hb f hf
    · exact ha
    · rw [(List.mem_replicate.mp hf).2]
      exact rP (by decide) (by decide)
  · unfold be
    rw [List.getD_eq_getElem?_getD,List.getElem?_replicate]
    split<;>rfl
theorem xo{W:aR}(ok:W.Ok){ds:List Int}(hd:hG ds):∃(K B:List Fr) (A:Fr) (O:List Fr) (ds':List Int),iC [.l (ds.map .int),.d (ar W)]=some (.d (lm K B A O),[.l (ds'.map .int),.d (ar W)])∧hG ds'∧PI W W.ties.length K B A O:=by
  have wl:=ok.len
  have g1':=zY (W:=W)
  have ql:((W.ties.map aY).length:Int)=(W.ties.length:Int):=by simp
  obtain⟨d1,K,c1,hd1,lk,hk⟩:=vf ok hd (v2:=none) (v3:=none) (v4:=none) (v5:=none) (v6:=none) (v7:=none) (v8:=none) (v9:=none) (v10:=none) (v11:=none) (v12:=none)
  obtain⟨d2,B,c2,hd2,lb,hb⟩:=vf ok hd1 (v2:=some (.l (K.map dF))) (v3:=none) (v4:=none) (v5:=none) (v6:=none) (v7:=none) (v8:=none) (v9:=none) (v10:=none) (v11:=none) (v12:=none)
  have e1:lV=eO:=rfl
  have e2:l_=gM:=rfl
  obtain⟨n,d3,t3,a3,b3,hd3⟩:=gC hd2
  obtain⟨n2,d4,t4,a4,b4,hd4⟩:=gC hd3
  have gm:∀e:En,aW e (.d (.int n2)) (.d (.int 3))=some (.d (.int (n2 % 3))):=fun e=>aJ (by decide)
  obtain⟨A,ta,ha⟩:=tI (n:=n) (k:=n2 % 3) a3 (by lia) (by lia)
  have gr:∀e:En,bf e (.l [.tuple [.int 0,.int 1]]) (.d (.int W.ties.length))=some (.l ((List.replicate W.ties.length ((0,1):Fr)).map dF)):=fun e=>by
    rw [CD (by lia) (by lia),Int.toNat_natCast,List.map_replicate];rfl
  have p0:=yP hk hb ha lk lb
  obtain⟨e',h1,hI⟩:=bj (own:=[]) (g:=af 6) (f:=cm) (Ao W A) (a_ 0 W.ties.length) 0 (gf d4 W K B A (List.replicate W.ties.length (0,1)) none none none none none none none) (fun i x e hx hI=>by
    obtain⟨hd,hI⟩:=hI
    rename_i ds K B O v6 v7 v8 v9 v10 v11 v12
    rw [Nat.zero_add] at*
    obtain⟨rfl,hlt⟩:=cW hx
    rw [Int.zero_add]
    obtain⟨e2,q1,q2⟩:=rQ ok hlt hI hd (v7:=v7) (v8:=v8) (v9:=v9) (v10:=v10) (v11:=v11) (v12:=v12)
    exact⟨_,e2,rfl,q1,a9,q2⟩) (.mk hd4 p0)
  rw [Nat.zero_add,cz] at hI
  have hi:l9 (gf d4 W K B A (List.replicate W.ties.length (0,1)) none none none none none none none)=some (a_ 0 W.ties.length,[],gf d4 W K B A (List.replicate W.ties.length (0,1)) none none none none none none none):=by
    have:=cq (fs:=aa (a8 (g1 jH) (aa (aq aV (ae 1) (vC (.int 1))) ah)) ah) (e:=gf d4 W K B A (List.replicate W.ties.length (0,1)) none none none none none none none) (e1:=gf d4 W K B A (List.replicate W.ties.length (0,1)) none none none none none none none) (n:=(W.ties.length:Int)) (by
      unfold gf
      generalize List.map dF (List.replicate W.ties.length (0,1))=OO at*
      generalize ar W=WW at*
      simp? [g1']) (by lia) (by lia)
    rw [Int.toNat_natCast] at this
    exact this
  have hs:=fun Wl=>(br (W:=Wl) (g:=af 6) (f:=cm) hi).trans h1
  cases hI
  rename_i ds' K' B' O' v6 v7 v8 v9 v10 v11 v12 hd' hP
  refine⟨K',B',A,O',ds',?_,hd',hP⟩
  unfold gf lm at*
  generalize List.map dF (List.replicate W.ties.length (0,1))=OO at*
  generalize dF A=AA at*
  generalize K.map dF=KK at*
  generalize B.map dF=BB at*
  generalize K'.map dF=K2 at*
  generalize B'.map dF=B2 at*
  generalize O'.map dF=O2 at*
  generalize ar W=WW at*
  generalize W.ties.map aY=TT at*
  simp? [iC,pM,e1,e2,c1,c2,t3,t4,gm,ta,g1',ql,gr,hs]
theorem PO.bitsN{D V:Int}{n:Nat}{f:Fr}(h:PO D V f)(hD:0 < D)(hb:Bt n D)(hV:V≤1073741824):FQ (n+31) f:=by
  obtain⟨u,hu⟩:=h.dn
  have p:=h.low.pos
  have e:=jq p
  have p':=cB p
  have e2:f.1*D=f.2*u:=by
    have:(f.1:Rat)*(D:Rat)=(f.2:Rat)*(u:Rat):=by rw [←e,←hu];grind
    exact_mod_cast this
  have dv:f.2 ∣ D:=by
    have c:Nat.Coprime f.2.natAbs f.1.natAbs:=by
      have:=h.low.cop
      rw [Int.gcd_comm] at this
      exact this
    have d2:f.2.natAbs ∣ f.1.natAbs*D.natAbs:=by
      rw [←Int.natAbs_mul]
      exact Int.natAbs_dvd_natAbs.mpr ⟨u,e2⟩
    exact Int.natAbs_dvd_natAbs.mp (c.dvd_of_dvd_mul_left d2)
  have le:=Int.le_of_dvd hD dv
  have n0:0≤f.1:=by
    have:=Rat.mul_nonneg h.ge (Rat.le_of_lt p')
    rw [e] at this
    exact_mod_cast this
  have up:f.1≤V*f.2:=by
    have:(f.1:Rat)≤(V:Rat)*(f.2:Rat):=by rw [←e];exact Rat.mul_le_mul_of_nonneg_right h.le (Rat.le_of_lt p')
    exact_mod_cast this
  have b2:Bt n f.2:=hb.of_le (by lia)
  have v2:Bt 31 (1073741824:Int):=by unfold Bt;decide
  refine⟨p,((v2.mul b2).mono (n:=n+31) (by lia)).of_le ?_,b2.mono (by lia)⟩
  have:V*f.2≤1073741824*f.2:=Int.mul_le_mul_of_nonneg_right hV (by lia)
  lia
structure d_ (M V:Int) (L:List Fr):Prop where
  m0:0 < M
  bt:Bt 3500 M
  v0:0≤V
  v1:V≤8388608
  po:∀f∈L,PO M V f
  fq:∀f∈L,FQ 420 f
  len:L.length≤100
theorem yS{M:Int}:PO M 0 (0,1):=⟨⟨by decide,by decide⟩,by rw [r9];exact Rat.le_refl,by rw [r9];exact Rat.le_refl,0,by rw [r9];grind⟩
theorem PO.pl{M V V':Int}{f g:Fr}(h:PO M V f)(k:PO M V' g):PO M (V+V') (L2.pl f g):=by
  obtain⟨u,hu⟩:=h.dn
  obtain⟨v,hv⟩:=k.dn
  have e:=fN h.low.pos k.low.pos
  refine⟨ie.pl h.low.pos k.low.pos,?_,?_,u+v,?_⟩
  · rw [e];have:=h.ge;have:=k.ge;grind
  · rw [e,Rat.intCast_add];have:=h.le;have:=k.le;grind
  · rw [e,Rat.intCast_add,←hu,←hv];grind
theorem d_.part{M V:Int}{L:List Fr}(h:d_ M V L):∀i:Nat,i≤L.length→PO M (V*(i:Int)) (au (0,1) (L.take i))
  | 0,_=>by rw [List.take_zero];simp only [Int.natCast_zero,Int.mul_zero];exact yS
  | i+1,hi=>by
    have ih:=h.part i (by lia)
    have hx:L[i]?=some L[i]:=List.getElem?_eq_getElem (by lia)
    rw [iJ hx]
    have:=ih.pl (h.po _ (List.mem_of_getElem? hx))
    rw [show V*((i+1:Nat):Int)=V*(i:Int)+V by rw [Int.natCast_succ,Int.mul_add,Int.mul_one]]
    exact this
theorem d_.partQ{M V:Int}{L:List Fr}(h:d_ M V L)(i:Nat)(hi:i≤L.length):FQ 3531 (au (0,1) (L.take i)):=by
  have l:=h.len
  have:V*(i:Int)≤8388608*100:=Int.mul_le_mul h.v1 (by lia) (by lia) (by decide)
  exact(h.part i hi).bitsN h.m0 h.bt (by lia)
theorem d_.po_all{M V:Int}{L:List Fr}(h:d_ M V L):PO M (V*(L.length:Int)) (au (0,1) L):=by
  have:=h.part L.length (Nat.le_refl _)
  rwa [List.take_length] at this
theorem pG:∀(L:List Fr) {a:Fr},0 < a.2→(∀f∈L,0 < f.2)→vR (au a L)=vR a+(L.map vR).sum∧0 < (au a L).2
  | [],a,h,_=>⟨by show vR a=_;simp;grind,h⟩
  | f::r,a,h,hf=>by
    have hf0:=hf f (by simp)
    obtain⟨e1,e2⟩:=pG r (a:=pl a f) (ki h hf0) fun g hg=>hf g (by simp [hg])
    refine⟨?_,e2⟩
    show vR (au (pl a f) r)=_
    rw [e1,fN h hf0,List.map_cons,List.sum_cons]
    grind
theorem kS{M V:Int}{L:List Fr}(h:d_ M V L){N:Option Sv}{own:gD}(ho:∀p∈own,p.1=0∧N=some (.l p.2)):∃v2,j8 own (af 2) eC (L.map dF) [N,some (.d (.tuple [.int 0,.int 1])),none]=some (.nx [N,some (.d (dF (au (0,1) L))),v2]):=by
  obtain⟨e',h1,⟨v2,he⟩⟩:=bj (own:=own) (g:=af 2) (f:=eC) (fun i e=>∃v2,e=[N,some (.d (dF (au (0,1) (L.take i)))),v2]) (L.map dF) 0 [N,some (.d (.tuple [.int 0,.int 1])),none] (fun i x e hx ⟨v2,he⟩=>by
    subst he
    rw [Nat.zero_add] at*
    rw [List.getElem?_map] at hx
    obtain⟨f,hf,rfl⟩:=Option.map_eq_some_iff.mp hx
    have il:=(List.getElem?_eq_some_iff.mp hf).1
    have tp:=zy (h.partQ i (by lia)) (h.fq _ (List.mem_of_getElem? hf)) (by decide)
    rw [←iJ hf] at tp
    refine⟨[N,some (.d (dF (au (0,1) (L.take i)))),some (.d (dF f))],[N,some (.d (dF (au (0,1) (L.take (i+1))))),some (.d (dF f))],rfl,?_,fun p hp=>by obtain⟨e1,e2⟩:=ho p hp;rw [e1,e2];rfl,_,rfl⟩
    generalize dF (au (0,1) (L.take i))=A at*
    generalize dF (au (0,1) (L.take (i+1)))=B at*
    generalize dF f=C at*
    simp? [eC,tp]) ⟨none,rfl⟩
  rw [Nat.zero_add,List.length_map,List.take_length] at he
  subst he
  exact⟨v2,h1⟩
theorem j1{M V:Int}{L:List Fr}(h:d_ M V L){N:Sv}(hN:N=.d (.tuple (L.map dF))∨N=.d (.list (L.map dF))):cQ [N]=some (.d (dF (au (0,1) L)),[N]):=by
  obtain⟨v2,hl⟩:=kS h (N:=some N) (own:=[]) fun p hp=>by cases hp
  have hs:∀Wl,cN Wl eH (af 2) eC [some N,some (.d (.tuple [.int 0,.int 1])),none]=some (.nx [some N,some (.d (dF (au (0,1) L))),v2]):=fun Wl=>by
    rcases hN with rfl | rfl
    · rw [br (show eH _=_ from oW rfl)]
      exact hl
    · rw [br (show eH _=_ from sL rfl)]
      exact hl
  generalize dF (au (0,1) L)=q at hs ⊢
  rcases hN with rfl | rfl<;>(generalize L.map dF=M at hs ⊢;simp? [cQ,oD,hs])
theorem xt{M V:Int}{L:List Fr}(h:d_ M V L):cQ [.l (L.map dF)]=some (.d (dF (au (0,1) L)),[.l (L.map dF)]):=by
  obtain⟨v2,hl⟩:=kS h (N:=some (.l (L.map dF))) (own:=[(0,L.map dF)]) fun p hp=>by simp at hp;subst hp;exact⟨rfl,rfl⟩
  have hs:∀Wl,0∉Wl→cN Wl eH (af 2) eC [some (.l (L.map dF)),some (.d (.tuple [.int 0,.int 1])),none]=some (.nx [some (.l (L.map dF)),some (.d (dF (au (0,1) L))),v2]):=fun Wl hW=>by
    unfold cN
    rw [show eH [some (.l (L.map dF)),some (.d (.tuple [.int 0,.int 1])),none]=some (L.map dF,[(0,L.map dF)],[some (.l (L.map dF)),some (.d (.tuple [.int 0,.int 1])),none]) from rfl]
    simpa [hW] using hl
  generalize dF (au (0,1) L)=q at hs ⊢
  generalize L.map dF=M at hs ⊢
  simp? [cQ,oD,hs]
theorem tG{M V:Int}{L:List Fr}(h:d_ M V L){N:Sv}(hN:N=.d (.tuple (L.map dF))):fF [N]=some (.d (dF (au (0,1) L)),[N]):=by
  obtain⟨e',h1,⟨v2,he⟩⟩:=bj (own:=[]) (g:=af 2) (f:=dD) (fun i e=>∃v2,e=[some N,some (.d (dF (au (0,1) (L.take i)))),v2]) (L.map dF) 0 [some N,some (.d (.tuple [.int 0,.int 1])),none] (fun i x e hx ⟨v2,he⟩=>by
    subst he
    rw [Nat.zero_add] at*
    rw [List.getElem?_map] at hx
    obtain⟨f,hf,rfl⟩:=Option.map_eq_some_iff.mp hx
    have il:=(List.getElem?_eq_some_iff.mp hf).1
    have tp:=dP (h.partQ i (by lia)) (h.fq _ (List.mem_of_getElem? hf)) (by decide)
    rw [←iJ hf] at tp
    refine⟨[some N,some (.d (dF (au (0,1) (L.take i)))),some (.d (dF f))],[some N,some (.d (dF (au (0,1) (L.take (i+1))))),some (.d (dF f))],rfl,?_,a9,_,rfl⟩
    subst hN
    generalize dF (au (0,1) (L.take i))=A at*
    generalize dF (au (0,1) (L.take (i+1)))=B at*
    generalize dF f=C at*
    simp? [dD,tp]) ⟨none,rfl⟩
  rw [Nat.zero_add,List.length_map,List.take_length] at he
  subst he
  subst hN
  have hs:∀Wl,cN Wl gN (af 2) dD [some (.d (.tuple (L.map dF))),some (.d (.tuple [.int 0,.int 1])),none]=some (.nx [some (.d (.tuple (L.map dF))),some (.d (dF (au (0,1) L))),v2]):=fun Wl=>by
    rw [br (show gN _=_ from oW rfl)]
    exact h1
  generalize dF (au (0,1) L)=q at hs ⊢
  generalize L.map dF=M at hs ⊢
  simp? [fF,pP,hs]
def lE(W:aR)(ws:List Fr):List Fr:=(ws.zip W.ties).map fun p=>tm p.1 (a7 p.2)
theorem zm{n:Nat}{f:Fr}(h:S1 n f):FQ n f:=⟨h.low.pos,h.top,h.bt⟩
theorem Ai{n:Nat}{f:Fr}(h:S1 n f):0≤vR f∧vR f≤1:=by
  have p:=h.low.pos
  have e:=jq p
  have p':=cB p
  constructor
  · refine Rat.not_lt.mp fun z=>?_
    have q:0 < - vR f:=by grind
    have:=Rat.mul_pos q p'
    have q2:(0:Rat)≤(f.1:Rat):=by exact_mod_cast h.lo
    have q3: - vR f*(f.2:Rat)= - (f.1:Rat):=by rw [←e];grind
    rw [q3] at this
    grind
  · refine Rat.not_lt.mp fun z=>?_
    have q:0 < vR f - 1:=by grind
    have:=Rat.mul_pos q p'
    have q2:(f.1:Rat)≤(f.2:Rat):=by exact_mod_cast h.hi
    have q3:(vR f - 1)*(f.2:Rat)=(f.1:Rat) - (f.2:Rat):=by rw [←e];grind
    rw [q3] at this
    grind
theorem tN{W:aR}(ok:W.Ok){t:fP}(ht:t∈W.ties):vR (a7 t)=vR (cC t)*(t.worth:Rat):=by
  unfold a7
  rw [kU (oG ok ht).pos (eA ok ht).pos,jp]
theorem wa{a b:Rat}(a0:0≤a)(a1:a≤1)(b0:0≤b):0≤a*b∧a*b≤b:=by
  refine⟨Rat.mul_nonneg a0 b0,?_⟩
  have:0≤(1 - a)*b:=Rat.mul_nonneg (by grind) b0
  grind
theorem xF{W:aR}(ok:W.Ok){ws:List Fr}(h:∀f∈ws,S1 195 f)(hl:ws.length=W.ties.length){D:Int}(d0:0 < D)(db:Bt 370 D)(dv:∀f∈ws,f.2 ∣ D):d_ (D*uq (W.ties.map cC)) 1000 (lE W ws):=by
  have wl:=ok.len
  have hc:∀f∈W.ties.map cC,S1 7 f:=fun f hf=>by
    obtain⟨t,ht,rfl⟩:=List.mem_map.mp hf
    exact gK ok ht
  refine⟨Int.mul_pos d0 (jR fun f hf=>(hc f hf).low.pos),(db.mul (iF fun f hf=>(hc f hf).bt)).mono (by rw [List.length_map];lia),by decide,by decide,fun f hf=>?_,fun f hf=>?_,by unfold lE;rw [List.length_map,List.length_zip];lia⟩
  · unfold lE at hf
    obtain⟨⟨s,t⟩,hp,rfl⟩:=List.mem_map.mp hf
    have hs:=(List.of_mem_zip hp).1
    have ht:=(List.of_mem_zip hp).2
    have S:=h s hs
    have C:=gK ok ht
    have o:=ok.ties t ht
    obtain⟨a,ha⟩:=dv s hs
    obtain⟨b,hb⟩:=iT (List.mem_map_of_mem (f:=cC) ht)
    have gp:=(iy ok ht).pos
    have ev:vR (tm s (a7 t))=vR s*(vR (cC t)*(t.worth:Rat)):=by rw [kU S.low.pos gp,tN ok ht]
    obtain⟨s0,s1⟩:=Ai S
    obtain⟨c0,c1⟩:=Ai C
    have w0:(0:Rat)≤(t.worth:Rat):=by exact_mod_cast o.w0
    have w1:(t.worth:Rat)≤((1000:Int):Rat):=by exact_mod_cast o.w1
    obtain⟨g0,g1⟩:=wa c0 c1 w0
    obtain⟨k0,k1⟩:=wa s0 s1 g0
    refine⟨ie.lowM (Int.mul_pos S.low.pos gp),by show 0≤vR (tm s (a7 t));rw [ev];exact k0,?_,s.1*a*(t.top*b*t.worth),?_⟩
    · show vR (tm s (a7 t))≤_
      rw [ev];exact Rat.le_trans k1 (Rat.le_trans g1 w1)
    · show vR (tm s (a7 t))*_=_
      have e1:=jq S.low.pos
      have e2:vR (cC t)*(t.bot:Rat)=(t.top:Rat):=jq (f:=cC t) C.low.pos
      have hb':uq (W.ties.map cC)=t.bot*b:=hb
      rw [ev,ha,hb']
      simp only [Rat.intCast_mul]
      rw [←e1,←e2]
      generalize vR s=x at*
      generalize vR (cC t)=y at*
      grind
  · unfold lE at hf
    obtain⟨⟨s,t⟩,hp,rfl⟩:=List.mem_map.mp hf
    exact((zm (h s (List.of_mem_zip hp).1)).tm (iy ok (List.of_mem_zip hp).2)).mono (by decide)
def E1:PyData→PyData
  | .tuple [f,.tuple [_,_,.tuple [.int a,.int b],.int w]]=>dF (tm (D7 f) (tm (a,b) (w,1)))
  | _=>.none
theorem mO{W:aR}(ok:W.Ok){ws:List Fr}(h:∀f∈ws,S1 195 f)(hl:ws.length=W.ties.length){D:Int}(d0:0 < D)(db:Bt 370 D)(dv:∀f∈ws,f.2 ∣ D):cy [.d (ar W),.d (.tuple (ws.map dF))]=some (.d (dF (au (0,1) (lE W ws))),[.d (ar W),.d (.tuple (ws.map dF))]):=by
  have wl:=ok.len
  have g1':=zY (W:=W)
  obtain⟨t',_,hf⟩:=gL (cs:=[]) (g:=bB (ao (af 0) (ao (af 1) bo))) (ft:=cJ) (fe:=bI) (b:=fun _=>true) (y:=E1) (u:=zB) 2 ((ws.zip W.ties).map kR) [none,none] [] rfl (fun x hx t ht=>by
      obtain⟨p,hp,rfl⟩:=List.mem_map.mp hx
      exact Ag (cs:=[]) rfl rfl rfl t ht) (fun x hx=>by
      obtain⟨p,hp,rfl⟩:=List.mem_map.mp hx
      rfl) (fun x _=>rfl) (fun x hx _=>by
      obtain⟨⟨s,t⟩,hp,rfl⟩:=List.mem_map.mp hx
      have S:=h s (List.of_mem_zip hp).1
      have ht:=(List.of_mem_zip hp).2
      have tg:=B0 ok ht
      have fs:=zm S
      have fg:=iy ok ht
      have tt:=lA (n:=1000) fs.pos fg.pos (fs.top.mono (by decide)) (fs.bot.mono (by decide)) (fg.top.mono (by decide)) (fg.bot.mono (by decide)) (by decide)
      show bI [some (.d (dF s)),some (.d (aY t))]=some (.d (dF (tm s (a7 t))),[some (.d (dF s)),some (.d (aY t))])
      generalize dF (tm s (a7 t))=R at*
      generalize dF (a7 t)=G at*
      generalize aY t=T at*
      generalize dF s=S' at*
      simp? [bI,tg,tt]) (by rw [List.length_map,List.length_zip];simp;lia)
  have hi:cF [some (.d (ar W)),some (.d (.tuple (ws.map dF)))]=some ((ws.zip W.ties).map kR,[],[some (.d (ar W)),some (.d (.tuple (ws.map dF)))]):=by
    rw [←j3]
    generalize W.ties.map aY=TT at*
    generalize ws.map dF=FF at*
    generalize ar W=WW at*
    simp? [cF,i5,g1']
  have hv:=j2 (cp:=[]) (nT:=2) (fi:=cF) (g:=bB (ao (af 0) (ao (af 1) bo))) (ft:=cJ) (fe:=bI) (cs:=[]) (t:=[none,none]) (t':=t') hi rfl rfl hf
  rw [List.nil_append,fZ,List.map_map] at hv
  have em:(ws.zip W.ties).map (Function.comp E1 kR)=(lE W ws).map dF:=by
    unfold lE
    rw [List.map_map]
    rfl
  rw [em] at hv
  have ts:=j1 (xF ok h hl d0 db dv) (N:=.d (.list ((lE W ws).map dF))) (.inr rfl)
  generalize dF (au (0,1) (lE W ws))=R at*
  generalize (lE W ws).map dF=M at*
  generalize ws.map dF=FF at*
  generalize ar W=WW at*
  simp? [cy,iq,hv,ts]
theorem pC{W:aR}(ok:W.Ok){ws:List Fr}(h:∀f∈ws,S1 195 f)(hl:ws.length=W.ties.length){D:Int}(d0:0 < D)(db:Bt 370 D)(dv:∀f∈ws,f.2 ∣ D):di [.d (ar W),.d (.tuple (ws.map dF))]=some (.d (dF (au (0,1) (lE W ws))),[.d (ar W),.d (.tuple (ws.map dF))]):=by
  have wl:=ok.len
  have g1':=zY (W:=W)
  have so:=xF ok h hl d0 db dv
  have ll:(lE W ws).length=(ws.zip W.ties).length:=by unfold lE;rw [List.length_map]
  obtain⟨e',h1,⟨v3,v4,he⟩⟩:=bj (own:=[]) (g:=bB (ao (af 3) (ao (af 4) bo))) (f:=c9) (fun i e=>∃v3 v4,e=[some (.d (ar W)),some (.d (.tuple (ws.map dF))),some (.d (dF (au (0,1) ((lE W ws).take i)))),v3,v4]) ((ws.zip W.ties).map kR) 0 [some (.d (ar W)),some (.d (.tuple (ws.map dF))),some (.d (.tuple [.int 0,.int 1])),none,none] (fun i x e hx ⟨v3,v4,he⟩=>by
    subst he
    rw [Nat.zero_add] at*
    rw [List.getElem?_map] at hx
    obtain⟨⟨s,t⟩,hf,rfl⟩:=Option.map_eq_some_iff.mp hx
    have il:=(List.getElem?_eq_some_iff.mp hf).1
    have hp:=List.mem_of_getElem? hf
    have S:=h s (List.of_mem_zip hp).1
    have ht:=(List.of_mem_zip hp).2
    have fs:=zm S
    have fc:=oG ok ht
    have fw:=eA ok ht
    have fsc:=fs.tm fc
    have t1:=iX (n:=1000) fs.pos fc.pos (fs.top.mono (by decide)) (fs.bot.mono (by decide)) (fc.top.mono (by decide)) (fc.bot.mono (by decide)) (by decide)
    have t2:=iX (n:=1000) fsc.pos fw.pos (fsc.top.mono (by decide)) (fsc.bot.mono (by decide)) (fw.top.mono (by decide)) (fw.bot.mono (by decide)) (by decide)
    have eq:tm (tm s (cC t)) (t.worth,1)=tm s (a7 t):=by
      refine xE (ie.lowM (Int.mul_pos fsc.pos fw.pos)) (ie.lowM (Int.mul_pos fs.pos (iy ok ht).pos)) ?_
      show vR (tm (tm s (cC t)) (t.worth,1))=vR (tm s (a7 t))
      rw [kU fsc.pos fw.pos,kU fs.pos fc.pos,kU fs.pos (iy ok ht).pos,tN ok ht,jp]
      grind
    rw [eq] at t2
    have hx2:(lE W ws)[i]?=some (tm s (a7 t)):=by unfold lE;rw [List.getElem?_map,hf];rfl
    have tp:=dP (so.partQ i (by lia)) (so.fq _ (List.mem_of_getElem? hx2)) (by decide)
    rw [←iJ hx2] at tp
    refine⟨[some (.d (ar W)),some (.d (.tuple (ws.map dF))),some (.d (dF (au (0,1) ((lE W ws).take i)))),some (.d (dF s)),some (.d (aY t))],[some (.d (ar W)),some (.d (.tuple (ws.map dF))),some (.d (dF (au (0,1) ((lE W ws).take (i+1))))),some (.d (dF s)),some (.d (aY t))],rfl,?_,a9,_,_,rfl⟩
    change bC [.d (dF s),.d (.tuple [.int t.top,.int t.bot])]=some (.d (dF (tm s (cC t))),[.d (dF s),.d (.tuple [.int t.top,.int t.bot])]) at t1
    change bC [.d (dF (tm s (cC t))),.d (.tuple [.int t.worth,.int 1])]=some (.d (dF (tm s (a7 t))),[.d (dF (tm s (cC t))),.d (.tuple [.int t.worth,.int 1])]) at t2
    generalize dF (au (0,1) ((lE W ws).take i))=A at*
    generalize dF (au (0,1) ((lE W ws).take (i+1)))=B at*
    generalize dF (tm s (a7 t))=G at*
    generalize dF (tm s (cC t))=C at*
    generalize dF s=S' at*
    generalize ws.map dF=FF at*
    generalize ar W=WW at*
    unfold aY
    simp? [c9,t1,t2,tp]) ⟨none,none,rfl⟩
  rw [Nat.zero_add,List.length_map,←ll,List.take_length] at he
  subst he
  have hi:eR [some (.d (ar W)),some (.d (.tuple (ws.map dF))),some (.d (.tuple [.int 0,.int 1])),none,none]=some ((ws.zip W.ties).map kR,[],[some (.d (ar W)),some (.d (.tuple (ws.map dF))),some (.d (.tuple [.int 0,.int 1])),none,none]):=by
    rw [←j3]
    generalize W.ties.map aY=TT at*
    generalize ws.map dF=FF at*
    generalize ar W=WW at*
    simp? [eR,i5,g1']
  have hs:=fun Wl=>(br (W:=Wl) (g:=bB (ao (af 3) (ao (af 4) bo))) (f:=c9) hi).trans h1
  generalize dF (au (0,1) (lE W ws))=R at*
  generalize ws.map dF=FF at*
  generalize ar W=WW at*
  simp? [di,jA,hs]
def kM(W:aR)(B:List Fr):List Fr:=(B.zip W.pat).map fun p=>tm p.1 (p.2,1)
theorem PO.times{D V:Int}{f:Fr}{n m:Int}(h:PO D V f)(n0:0≤n)(n1:n≤m)(v0:0≤V):PO D (V*m) (L2.tm f (n,1)):=by
  obtain⟨u,hu⟩:=h.dn
  have p1:0 < ((n,1):Fr).2:=by show(0:Int) < 1;decide
  have e:vR (L2.tm f (n,1))=vR f*(n:Rat):=by rw [kU h.low.pos p1,jp]
  have nR:(0:Rat)≤(n:Rat):=by exact_mod_cast n0
  refine⟨ie.lowM (Int.mul_pos h.low.pos p1),?_,?_,u*n,?_⟩
  · show 0≤vR (L2.tm f (n,1))
    rw [e];exact Rat.mul_nonneg h.ge nR
  · show vR (L2.tm f (n,1))≤_
    rw [e,Rat.intCast_mul]
    have q1:vR f*(n:Rat)≤(V:Rat)*(n:Rat):=Rat.mul_le_mul_of_nonneg_right h.le nR
    have q2:(V:Rat)*(n:Rat)≤(V:Rat)*(m:Rat):=Rat.mul_le_mul_of_nonneg_left (by exact_mod_cast n1) (by exact_mod_cast v0)
    exact Rat.le_trans q1 q2
  · show vR (L2.tm f (n,1))*_=_
    rw [e,Rat.intCast_mul,←hu];grind
theorem PO.up{D V V':Int}{f:Fr}(h:PO D V f)(hv:V≤V'):PO D V' f:=by
  have:=h.mono 1 hv
  rwa [Int.mul_one] at this
structure pI (W:aR) (D:Int) (K B:List Fr) (A:Fr) (O:List Fr):Prop where
  d0:0 < D
  db:Bt 230 D
  po:∀f,(f∈K∨f∈B∨f=A∨f∈O)→PO D 16040 f
  rq:d9 250 W K B A O
theorem PI.pw{W:aR}(ok:W.Ok){K B O:List Fr}{A:Fr}(h:PI W W.ties.length K B A O):∃D,pI W D K B A O:=by
  have wl:=ok.len
  obtain⟨D,d0,d1,hp⟩:=h.ex
  exact⟨D,d0,ko d0 d1 wl,fun f hf=>(hp f hf).up (by lia),(h.rows wl).1⟩
theorem pI.row{W:aR}(ok:W.Ok){D:Int}{K B O:List Fr}{A:Fr}(h:pI W D K B A O):d_ D 16040 K∧d_ D 16040 O∧d_ D 320800 (kM W B)∧PO D 641600 (tm A (W.asks,1)):=by
  have wl:=ok.len;have t1:=ok.t1;have lk:=h.rq.lk;have lb:=h.rq.lb;have lo:=h.rq.lo;have pl:=ok.pl
  have bt:Bt 3500 D:=h.db.mono (by decide)
  refine⟨⟨h.d0,bt,by decide,by decide,fun f hf=>h.po f (.inl hf),fun f hf=>(h.rq.k f hf).mono (by decide),by lia⟩,⟨h.d0,bt,by decide,by decide,fun f hf=>h.po f (.inr (.inr (.inr hf))),fun f hf=>(h.rq.o f hf).mono (by decide),by lia⟩,⟨h.d0,bt,by decide,by decide,fun f hf=>?_,fun f hf=>?_,by unfold kM;rw [List.length_map,List.length_zip];lia⟩,?_⟩
  · unfold kM at hf
    obtain⟨⟨b,p⟩,hz,rfl⟩:=List.mem_map.mp hf
    have hp:=ok.pat p (List.of_mem_zip hz).2
    exact(h.po b (.inr (.inl (List.of_mem_zip hz).1))).times (m:=20) hp.1 hp.2 (by decide)
  · unfold kM at hf
    obtain⟨⟨b,p⟩,hz,rfl⟩:=List.mem_map.mp hf
    have hp:=ok.pat p (List.of_mem_zip hz).2
    exact((h.rq.b b (List.of_mem_zip hz).1).tm (m:=5) (b:=(p,1)) ⟨by show(0:Int) < 1;decide,by show Bt 5 p;unfold Bt;lia,by show Bt 5 1;unfold Bt;decide⟩).mono (by decide)
  · exact(h.po A (.inr (.inr (.inl rfl)))).times (m:=40) ok.a0 ok.a1 (by decide)
def rS(W:aR)(K B:List Fr)(A:Fr)(O:List Fr):List Fr:=[au (0,1) K,au (0,1) (kM W B),tm A (W.asks,1),au (0,1) O]
theorem pI.four{W:aR}(ok:W.Ok){D:Int}{K B O:List Fr}{A:Fr}(h:pI W D K B A O):d_ D 5132800 (rS W K B A O):=by
  have wl:=ok.len;have t1:=ok.t1;have lk:=h.rq.lk;have lb:=h.rq.lb;have lo:=h.rq.lo;have pl:=ok.pl
  obtain⟨r1,r2,r3,r4⟩:=h.row ok
  have lB:(kM W B).length≤16:=by unfold kM;rw [List.length_map,List.length_zip];lia
  have c:∀{V:Int} {L:List Fr},d_ D V L→L.length≤16→V≤320800→PO D 5132800 (au (0,1) L):=fun{V L} s hl hv=>s.po_all.up (by
    have:V*(L.length:Int)≤320800*16:=Int.mul_le_mul hv (by lia) (by lia) (by decide)
    lia)
  have po:∀f∈rS W K B A O,PO D 5132800 f:=fun f hf=>by
    unfold rS at hf
    simp only [List.mem_cons,List.not_mem_nil,or_false] at hf
    rcases hf with rfl | rfl | rfl | rfl
    · exact c r1 (by lia) (by decide)
    · exact c r3 lB (by decide)
    · exact r4.up (by decide)
    · exact c r2 (by lia) (by decide)
  exact⟨h.d0,h.db.mono (by decide),by decide,by decide,po,fun f hf=>((po f hf).bitsN h.d0 h.db (by decide)).mono (by decide),by unfold rS;simp⟩
def EW:PyData→PyData
  | .tuple [f,.int p]=>dF (tm (D7 f) (p,1))
  | _=>.none
def xM(p:Fr × Int):PyData:=.tuple [dF p.1,.int p.2]
theorem r_:∀(ws:List Fr) (ps:List Int),hE (ws.map dF) (ps.map .int)=(ws.zip ps).map xM
  | [],_=>by cases ‹List Int›<;>rfl
  | _::_,[]=>rfl
  | w::ws,t::ts=>by
    show PyData.tuple [dF w,.int t]::hE (ws.map dF) (ts.map .int)=_
    rw [r_ ws ts]
    rfl
theorem mN{W:aR}(ok:W.Ok){D:Int}{K B O:List Fr}{A:Fr}(h:pI W D K B A O):cx [.d (ar W),.d (lm K B A O)]=some (.d (dF (au (0,1) (rS W K B A O))),[.d (ar W),.d (lm K B A O)]):=by
  have wl:=ok.len;have t1:=ok.t1;have lb:=h.rq.lb
  have g2':=DV (W:=W)
  have g3':=DX (W:=W)
  obtain⟨r1,r2,r3,r4⟩:=h.row ok
  obtain⟨t',_,hf⟩:=gL (cs:=[]) (g:=bB (ao (af 0) (ao (af 1) bo))) (ft:=cJ) (fe:=bH) (b:=fun _=>true) (y:=EW) (u:=zB) 2 ((B.zip W.pat).map xM) [none,none] [] rfl (fun x hx t ht=>by
      obtain⟨p,hp,rfl⟩:=List.mem_map.mp hx
      exact Ag (cs:=[]) rfl rfl rfl t ht) (fun x hx=>by
      obtain⟨p,hp,rfl⟩:=List.mem_map.mp hx
      rfl) (fun x _=>rfl) (fun x hx _=>by
      obtain⟨⟨s,p⟩,hp,rfl⟩:=List.mem_map.mp hx
      have fs:=h.rq.b s (List.of_mem_zip hp).1
      have pp:=ok.pat p (List.of_mem_zip hp).2
      have fp:FQ 5 ((p,1):Fr):=⟨by show(0:Int) < 1;decide,by show Bt 5 p;unfold Bt;lia,by show Bt 5 1;unfold Bt;decide⟩
      have tt:=lA (n:=1000) fs.pos fp.pos (fs.top.mono (by decide)) (fs.bot.mono (by decide)) (fp.top.mono (by decide)) (fp.bot.mono (by decide)) (by decide)
      change cG [.d (dF s),.d (.tuple [.int p,.int 1])]=some (.d (dF (tm s (p,1))),[.d (dF s),.d (.tuple [.int p,.int 1])]) at tt
      show bH [some (.d (dF s)),some (.d (.int p))]=some (.d (dF (tm s (p,1))),[some (.d (dF s)),some (.d (.int p))])
      generalize dF (tm s (p,1))=R at*
      generalize dF s=S' at*
      simp? [bH,tt]) (by rw [List.length_map,List.length_zip];simp;lia)
  have hi:∀e2 e4 e5 e6:Option Sv,cE [some (.d (ar W)),some (.d (lm K B A O)),e2,some (.d (.tuple (B.map dF))),e4,e5,e6]=some ((B.zip W.pat).map xM,[],[some (.d (ar W)),some (.d (lm K B A O)),e2,some (.d (.tuple (B.map dF))),e4,e5,e6]):=fun e2 e4 e5 e6=>by
    rw [←r_]
    generalize W.pat.map PyData.int=TT at*
    generalize B.map dF=FF at*
    generalize lm K B A O=PP at*
    generalize ar W=WW at*
    simp? [cE,i5,g2']
  have hv:=fun e2 e4 e5 e6=>j2 (cp:=[]) (nT:=2) (fi:=cE) (g:=bB (ao (af 0) (ao (af 1) bo))) (ft:=cJ) (fe:=bH) (cs:=[]) (t:=[none,none]) (t':=t') (hi e2 e4 e5 e6) rfl rfl hf
  have em:(B.zip W.pat).map (Function.comp EW xM)=(kM W B).map dF:=by
    unfold kM
    rw [List.map_map]
    rfl
  simp only [List.nil_append,fZ,List.map_map,em] at hv
  have s1:=j1 r1 (N:=.d (.tuple (K.map dF))) (.inl rfl)
  have s2:=xt r3
  have s4:=j1 r2 (N:=.d (.tuple (O.map dF))) (.inl rfl)
  have s5:=j1 (h.four ok) (N:=.d (.list ((rS W K B A O).map dF))) (.inr rfl)
  have fa:=h.rq.a
  have fw:FQ 6 ((W.asks,1):Fr):=⟨by show(0:Int) < 1;decide,by have:=ok.a0;have:=ok.a1;show Bt 6 W.asks;unfold Bt;lia,by show Bt 6 1;unfold Bt;decide⟩
  have s3:=lA (n:=1000) fa.pos fw.pos (fa.top.mono (by decide)) (fa.bot.mono (by decide)) (fw.top.mono (by decide)) (fw.bot.mono (by decide)) (by decide)
  change cG [.d (dF A),.d (.tuple [.int W.asks,.int 1])]=some (.d (dF (tm A (W.asks,1))),[.d (dF A),.d (.tuple [.int W.asks,.int 1])]) at s3
  have ep:(rS W K B A O).map dF=[dF (au (0,1) K),dF (au (0,1) (kM W B)),dF (tm A (W.asks,1)),dF (au (0,1) O)]:=rfl
  rw [ep] at s5
  unfold lm at*
  generalize dF (au (0,1) (rS W K B A O))=R at*
  generalize dF (au (0,1) K)=y1 at*
  generalize dF (au (0,1) (kM W B))=y2 at*
  generalize dF (tm A (W.asks,1))=y3 at*
  generalize dF (au (0,1) O)=y4 at*
  generalize (kM W B).map dF=BN at*
  generalize K.map dF=KK at*
  generalize B.map dF=BB at*
  generalize O.map dF=OO at*
  generalize dF A=AA at*
  generalize ar W=WW at*
  simp? [cx,io,hv,s1,s2,s3,s4,s5,g3']
theorem Da{W:aR}(ok:W.Ok){D:Int}{K B O:List Fr}{A:Fr}(h:pI W D K B A O):au (pl (au (0,1) K) (au (0,1) O)) (kM W B++[tm A (W.asks,1)])=au (0,1) (rS W K B A O)∧∀i:Nat,i≤(kM W B).length+1→FQ 300 (au (pl (au (0,1) K) (au (0,1) O)) ((kM W B++[tm A (W.asks,1)]).take i)):=by
  have wl:=ok.len;have t1:=ok.t1;have lk:=h.rq.lk;have lb:=h.rq.lb;have lo:=h.rq.lo;have pl':=ok.pl
  obtain⟨r1,r2,r3,r4⟩:=h.row ok
  have P1:=r1.po_all
  have P2:=r2.po_all
  have f4:=h.four ok
  have lB:(kM W B).length≤16:=by unfold kM;rw [List.length_map,List.length_zip];lia
  have P0:PO D 1026560 (pl (au (0,1) K) (au (0,1) O)):=(P1.pl P2).up (by lia)
  have poL:∀f∈kM W B++[tm A (W.asks,1)],PO D 641600 f:=fun f hf=>by
    rcases List.mem_append.mp hf with q | q
    · exact(r3.po f q).up (by decide)
    · simp at q;subst q;exact r4
  have part:∀(L:List Fr) {a:Fr} {V:Int},PO D V a→(∀f∈L,PO D 641600 f)→PO D (V+641600*(L.length:Int)) (au a L):=by
    intro L
    induction L with
    | nil=>intro a V ha _;simpa [au] using ha
    | cons f r ih=>
      intro a V ha hf
      have:=ih (ha.pl (hf f (by simp))) fun g hg=>hf g (by simp [hg])
      show PO D _ (au (pl a f) r)
      exact this.up (by simp only [List.length_cons];lia)
  refine⟨?_,fun i hi=>?_⟩
  · have e1:=pG (kM W B++[tm A (W.asks,1)]) P0.low.pos (fun f hf=>(poL f hf).low.pos)
    have e2:=pG (rS W K B A O) (a:=(0,1)) (by decide) (fun f hf=>(f4.po f hf).low.pos)
    have b1:=pG (kM W B) (a:=(0,1)) (by decide) (fun f hf=>(r3.po f hf).low.pos)
    refine xE (part _ P0 poL).low f4.po_all.low ?_
    rw [e1.1,e2.1,fN P1.low.pos P2.low.pos,List.map_append,xk]
    unfold rS
    simp only [List.map_cons,List.map_nil,List.sum_cons,List.sum_nil]
    rw [b1.1,r9]
    grind
  · have q:=part ((kM W B++[tm A (W.asks,1)]).take i) P0 (fun f hf=>poL f (List.mem_of_mem_take hf))
    refine(q.bitsN h.d0 h.db ?_).mono (by decide)
    have:((kM W B++[tm A (W.asks,1)]).take i).length≤17:=by
      rw [List.length_take,List.length_append];simp;lia
    lia
theorem uD{a:Fr}{L:List Fr}{i:Nat}{f:Fr}(h:L[i]?=some f):au a (L.take (i+1))=pl (au a (L.take i)) f:=by
  rw [List.take_succ,h]
  simp [au]
theorem Ar{W:aR}(ok:W.Ok):FQ 6 ((W.asks,1):Fr):=⟨by show(0:Int) < 1;decide,by have:=ok.a0;have:=ok.a1;show Bt 6 W.asks;unfold Bt;lia,by show Bt 6 1;unfold Bt;decide⟩
theorem pB{W:aR}(ok:W.Ok){D:Int}{K B O:List Fr}{A:Fr}(h:pI W D K B A O):dh [.d (ar W),.d (lm K B A O)]=some (.d (dF (au (0,1) (rS W K B A O))),[.d (ar W),.d (lm K B A O)]):=by
  have wl:=ok.len;have t1:=ok.t1;have lb:=h.rq.lb
  have g2':=DV (W:=W)
  have g3':=DX (W:=W)
  obtain⟨r1,r2,r3,r4⟩:=h.row ok
  obtain⟨pe,pq⟩:=Da ok h
  have sK:=tG r1 (N:=.d (.tuple (K.map dF))) rfl
  have sO:=tG r2 (N:=.d (.tuple (O.map dF))) rfl
  have qK:FQ 300 (au (0,1) K):=(r1.po_all.bitsN h.d0 h.db (by have:=r1.len;lia)).mono (by decide)
  have qO:FQ 300 (au (0,1) O):=(r2.po_all.bitsN h.d0 h.db (by have:=r2.len;lia)).mono (by decide)
  have sKO:=dP qK qO (by decide)
  obtain⟨Z,hZ⟩:∃Z,Z=B.zip W.pat++[(A,W.asks)]:=⟨_,rfl⟩
  have hT:kM W B++[tm A (W.asks,1)]=Z.map fun p=>tm p.1 (p.2,1):=by rw [hZ];unfold kM;simp
  have lZ:Z.length=(kM W B).length+1:=by rw [hZ];unfold kM;simp
  have qZ:∀p∈Z,FQ 250 p.1∧FQ 6 ((p.2,1):Fr):=fun p hp=>by
    rw [hZ] at hp
    rcases List.mem_append.mp hp with q | q
    · have pp:=ok.pat p.2 (List.of_mem_zip (show(p.1,p.2)∈_ from q)).2
      exact⟨h.rq.b _ (List.of_mem_zip (show(p.1,p.2)∈_ from q)).1,by show(0:Int) < 1;decide,by show Bt 6 p.2;unfold Bt;lia,by show Bt 6 1;unfold Bt;decide⟩
    · simp at q;subst q;exact⟨h.rq.a,Ar ok⟩
  rw [hT] at pe pq
  generalize pl (au (0,1) K) (au (0,1) O)=a0 at*
  obtain⟨e',h1,⟨v7,v8,he⟩⟩:=bj (own:=[]) (g:=bB (ao (af 7) (ao (af 8) bo))) (f:=cZ) (fun i e=>∃v7 v8,e=[some (.d (ar W)),some (.d (lm K B A O)),some (.d (.tuple (K.map dF))),some (.d (.tuple (B.map dF))),some (.d (dF A)),some (.d (.tuple (O.map dF))),some (.d (dF (au a0 ((Z.map fun p=>tm p.1 (p.2,1)).take i)))),v7,v8]) (Z.map xM) 0 [some (.d (ar W)),some (.d (lm K B A O)),some (.d (.tuple (K.map dF))),some (.d (.tuple (B.map dF))),some (.d (dF A)),some (.d (.tuple (O.map dF))),some (.d (dF a0)),none,none] (fun i x e hx ⟨v7,v8,he⟩=>by
    subst he
    rw [Nat.zero_add] at*
    rw [List.getElem?_map] at hx
    obtain⟨⟨s,m⟩,hf,rfl⟩:=Option.map_eq_some_iff.mp hx
    have il:=(List.getElem?_eq_some_iff.mp hf).1
    obtain⟨fs,fm⟩:=qZ _ (List.mem_of_getElem? hf)
    have t1:=iX (n:=1000) fs.pos fm.pos (fs.top.mono (by decide)) (fs.bot.mono (by decide)) (fm.top.mono (by decide)) (fm.bot.mono (by decide)) (by decide)
    have hx2:(Z.map fun p=>tm p.1 (p.2,1))[i]?=some (tm s (m,1)):=by rw [List.getElem?_map,hf];rfl
    have tp:=dP (pq i (by lia)) (fs.tm fm) (by decide)
    rw [←uD hx2] at tp
    refine⟨[some (.d (ar W)),some (.d (lm K B A O)),some (.d (.tuple (K.map dF))),some (.d (.tuple (B.map dF))),some (.d (dF A)),some (.d (.tuple (O.map dF))),some (.d (dF (au a0 ((Z.map fun p=>tm p.1 (p.2,1)).take i)))),some (.d (dF s)),some (.d (.int m))],[some (.d (ar W)),some (.d (lm K B A O)),some (.d (.tuple (K.map dF))),some (.d (.tuple (B.map dF))),some (.d (dF A)),some (.d (.tuple (O.map dF))),some (.d (dF (au a0 ((Z.map fun p=>tm p.1 (p.2,1)).take (i+1))))),some (.d (dF s)),some (.d (.int m))],rfl,?_,a9,_,_,rfl⟩
    change bC [.d (dF s),.d (.tuple [.int m,.int 1])]=some (.d (dF (tm s (m,1))),[.d (dF s),.d (.tuple [.int m,.int 1])]) at t1
    generalize dF (au a0 ((Z.map fun p=>tm p.1 (p.2,1)).take i))=y1 at*
    generalize dF (au a0 ((Z.map fun p=>tm p.1 (p.2,1)).take (i+1)))=y2 at*
    dsimp only at tp
    generalize dF (tm s (m,1))=y3 at*
    generalize dF s=y4 at*
    generalize lm K B A O=PP at*
    generalize K.map dF=KK at*
    generalize B.map dF=BB at*
    generalize O.map dF=OO at*
    generalize dF A=AA at*
    generalize ar W=WW at*
    simp? [cZ,t1,tp]) ⟨none,none,rfl⟩
  rw [Nat.zero_add,List.length_map,show Z.length=(Z.map fun p=>tm p.1 (p.2,1)).length by simp,List.take_length,pe] at he
  subst he
  have ca:∀(e:En) (xs ys:List PyData),xs.length+ys.length≤1000000→dc e (.l xs) (.l ys)=some (.l (xs++ys)):=fun e xs ys h=>yc h
  have hi:eQ [some (.d (ar W)),some (.d (lm K B A O)),some (.d (.tuple (K.map dF))),some (.d (.tuple (B.map dF))),some (.d (dF A)),some (.d (.tuple (O.map dF))),some (.d (dF a0)),none,none]=some (Z.map xM,[],[some (.d (ar W)),some (.d (lm K B A O)),some (.d (.tuple (K.map dF))),some (.d (.tuple (B.map dF))),some (.d (dF A)),some (.d (.tuple (O.map dF))),some (.d (dF a0)),none,none]):=by
    unfold eQ
    refine oX ?_
    have zb:=r_ B W.pat
    have ez:Z.map xM=(B.zip W.pat).map xM++[.tuple [dF A,.int W.asks]]:=by rw [hZ];simp [xM]
    have lz:((B.zip W.pat).map xM).length≤1000:=by rw [List.length_map,List.length_zip];lia
    rw [ez]
    rw [←zb] at lz ⊢
    generalize W.pat.map PyData.int=TT at*
    generalize B.map dF=BB at*
    have ca':=fun(e:En) (ys:List PyData) (hy:ys.length≤1)=>ca e (hE BB TT) ys (by lia)
    generalize lm K B A O=PP at*
    generalize K.map dF=KK at*
    generalize O.map dF=OO at*
    generalize dF A=AA at*
    generalize dF a0=A0 at*
    generalize ar W=WW at*
    simp? [tM,g2',g3',ca']
  have hs:=fun Wl=>(br (W:=Wl) (g:=bB (ao (af 7) (ao (af 8) bo))) (f:=cZ) hi).trans h1
  unfold lm at*
  generalize dF (au (0,1) (rS W K B A O))=R at*
  generalize dF (au (0,1) K)=y1 at*
  generalize dF (au (0,1) O)=y4 at*
  generalize dF a0=A0 at*
  generalize K.map dF=KK at*
  generalize B.map dF=BB at*
  generalize O.map dF=OO at*
  generalize dF A=AA at*
  generalize ar W=WW at*
  simp? [dh,jz,hs,sK,sO,sKO]
theorem xa{t b:Int}(h:tX t b):S1 7 (t,b):=⟨⟨by have:=h.2.2.1;show(0:Int) < b;lia,h.2.2.2.2⟩,h.1,h.2.1,by have:=h.2.2.1;have:=h.2.2.2.1;show Bt 7 b;unfold Bt;lia⟩
inductive SK (W:aR) (q:Int) (i:Nat):En→Prop
  | mk {ds:List Int} {ws:List Fr} {v4 v5:Option Sv} (hd:hG ds) (hl:ws.length=i) (hs:∀f∈ws,S1 7 f):SK W q i [some (.l (ds.map .int)),some (.d (ar W)),some (.l (ws.map dF)),some (.d (.int q)),v4,v5]
theorem xr{W:aR}(ok:W.Ok){ds:List Int}(hd:hG ds):∃(ws:List Fr) (ds':List Int),iE [.l (ds.map .int),.d (ar W)]=some (.d (.tuple (ws.map dF)),[.l (ds'.map .int),.d (ar W)])∧hG ds'∧ws.length=W.ties.length∧∀f∈ws,S1 7 f:=by
  have wl:=ok.len
  have g1':=zY (W:=W)
  obtain⟨n1,d1,t1, -, -,hd1⟩:=gC hd
  have gm:∀e:En,aW e (.d (.int n1)) (.d (.int 3))=some (.d (.int (n1 % 3))):=fun e=>aJ (by decide)
  have q0:=vi (n:=n1) (k:=3) (by decide);have q1:=vj (n:=n1) (k:=3) (by decide)
  generalize n1 % 3=q at*
  obtain⟨e',h1,hI⟩:=bj (own:=[]) (g:=af 4) (f:=gG) (SK W q) (W.ties.map aY) 0 [some (.l (d1.map .int)),some (.d (ar W)),some (.l []),some (.d (.int q)),none,none] (fun i x e hx hI=>by
    obtain⟨hd,hl,hs⟩:=hI
    rename_i ds ws v4 v5
    rw [Nat.zero_add] at*
    have il:=(List.getElem?_eq_some_iff.mp hx).1
    rw [List.length_map] at il
    obtain⟨n,d2,t2,a2, -,hd2⟩:=gC hd
    obtain⟨ta,ba,ca,oa⟩:=jY n 1 a2
    obtain⟨tb,bb,cb,ob⟩:=jY n 0 a2
    obtain⟨tc,bc,cc,oc⟩:=jY n 2 a2
    obtain⟨z,hz,az⟩:=j4 (xs:=[PyData.tuple [.int ta,.int ba],.tuple [.int tb,.int bb],.tuple [.int tc,.int bc]]) (i:=q) q0 (by simpa using q1)
    obtain⟨f,rfl,hf⟩:∃f:Fr,z=dF f∧S1 7 f:=by
      simp only [List.mem_cons,List.not_mem_nil,or_false] at hz
      rcases hz with rfl | rfl | rfl
      · exact⟨(ta,ba),rfl,xa oa⟩
      · exact⟨(tb,bb),rfl,xa ob⟩
      · exact⟨(tc,bc),rfl,xa oc⟩
    refine⟨[some (.l (ds.map .int)),some (.d (ar W)),some (.l (ws.map dF)),some (.d (.int q)),some (.d x),v5],[some (.l (d2.map .int)),some (.d (ar W)),some (.l ((ws++[f]).map dF)),some (.d (.int q)),some (.d x),some (.d (.int n))],rfl,?_,a9,.mk hd2 (by simp;lia) (fun g hg=>by
      rcases List.mem_append.mp hg with h | h
      · exact hs g h
      · simp at h;subst h;exact hf)⟩
    have ll:(ws.map dF).length < 1000000:=by simp;lia
    rw [List.map_append,List.map_cons,List.map_nil]
    generalize dF f=F at*
    generalize ws.map dF=WF at*
    generalize ar W=WW at*
    simp? [gG,t2,ca,cb,cc,az,ll]) (SK.mk (ws:=[]) hd1 rfl fun f h=>by cases h)
  obtain⟨hd2,hl2,hs2⟩:=hI
  rename_i d2 ws v4 v5
  rw [Nat.zero_add,List.length_map] at hl2
  refine⟨ws,d2,?_,hd2,hl2,hs2⟩
  have hi:jh [some (.l (d1.map .int)),some (.d (ar W)),some (.l []),some (.d (.int q)),none,none]=some (W.ties.map aY,[],[some (.l (d1.map .int)),some (.d (ar W)),some (.l []),some (.d (.int q)),none,none]):=by
    unfold jh
    exact oW (by simp? [g1'])
  have hg:=fun Wl=>br (W:=Wl) (g:=af 4) (f:=gG) hi
  rw [h1] at hg
  generalize ws.map dF=WF at*
  generalize ar W=WW at*
  simp? [iE,pO,t1,gm,hg]
theorem Cb{W:aR}(ok:W.Ok)(b:Bool):Sw b 64025 5 (ar W):=by
  have t0:=ok.t0;have t1:=ok.t1;have a0:=ok.a0;have a1:=ok.a1;have wl:=ok.len;have pl:=ok.pl
  have T2:∀d∈W.ties.map aY,Sw b 1000 3 d:=fun d hd=>by
    obtain⟨t,ht,rfl⟩:=List.mem_map.mp hd
    have o:=ok.ties t ht
    have o0:=o.o0;have o1:=o.o1;have o2:=o.o2;have c0:=o.c0;have c1:=o.c1;have b1:=o.b1;have w0:=o.w0;have w1:=o.w1
    have hd:xR 2 (aY t)=true:=by
      simp only [aY,xR,nJ,Bool.and_eq_true,decide_eq_true_eq,Nat.reducePow]
      exact⟨by decide,by lia,by lia,⟨by decide,by lia,by lia,trivial⟩,by lia,trivial⟩
    exact((rg hd).swF rfl b).mono (by simp [aY,wt,oj]) (by decide)
  have T3:Sw b 16005 4 (.tuple (W.ties.map aY)):=Sw.tup (n:=1000) (dep:=3) (m:=16) T2 (by simpa using wl)
  have P1:Sw b 16005 4 (.tuple (W.pat.map .int)):=(Sw.ints (m:=12) (fun r hr=>by have:=ok.pat r hr;lia) (by lia)).mono (by decide) (by decide)
  have i1:Sw b 16005 4 (.int W.things):=(Sw.int (by lia)).mono (by decide) (by decide)
  have i2:Sw b 16005 4 (.int W.asks):=(Sw.int (by lia)).mono (by decide) (by decide)
  exact Sw.tup (n:=16005) (dep:=4) (m:=4) (fun d hd=>by
    simp only [List.mem_cons,List.not_mem_nil,or_false] at hd
    rcases hd with rfl | rfl | rfl | rfl
    · exact i1
    · exact T3
    · exact P1
    · exact i2) (by simp)
theorem tJ{n:Nat}{f:Fr}(h:FQ n f)(hn:n≤1800):kf [.d (dF f),.d (dF f)]=some (.d (.bool true),[.d (dF f),.d (dF f)]):=by
  have hz:Sz (2*(1801+2)+3) 4 (dF f):=Sz.tup (n:=1801) (dep:=2) (m:=2) (fun d hd=>by
    simp only [List.mem_cons,List.not_mem_nil,or_false] at hd
    rcases hd with rfl | rfl
    · exact Sz.intB (h.top.mono hn) (by decide) (by decide)
    · exact Sz.intB (h.bot.mono hn) (by decide) (by decide)) (by simp)
  have r:∀e,g1 iw e [.d (dF f)]=some (.d (.str (dF f).shown)):=fun e=>sJ (hz.ok (by decide) (by decide))
  have q:∀e,de false e (.d (.str (dF f).shown)) (.d (.str (dF f).shown))=some (.d (.bool true)):=fun e=>yd hz.so
  generalize dF f=d at*
  simp? [kf,uY,r,q]
theorem zU{b:Bool}{f:Fr}(h:FQ 250 f):Sw b 600 3 (dF f):=(Sw.tup (n:=253) (dep:=2) (m:=2) (fun d hd=>by
  simp only [List.mem_cons,List.not_mem_nil,or_false] at hd
  rcases hd with rfl | rfl
  · exact(Sz.intB h.top (by decide) (by decide)).sw b
  · exact(Sz.intB h.bot (by decide) (by decide)).sw b) (by simp)).mono (by decide) (by decide)
theorem oM{b:Bool}{L:List Fr}(h:∀f∈L,FQ 250 f)(hl:L.length≤16):Sw b 20000 4 (.tuple (L.map dF)):=(Sw.tup (n:=600) (dep:=3) (m:=16) (fun d hd=>by
  obtain⟨f,hf,rfl⟩:=List.mem_map.mp hd
  exact zU (h f hf)) (by simpa using hl)).mono (by decide) (by decide)
inductive LI (ns:List Int):En→Prop
  | mk {ds v2 v3 v4 v5 v6} (hd:hG ds):LI ns [some (.d (.list (ns.map .int))),some (.l (ds.map .int)),v2,v3,v4,v5,v6]
theorem vU{ns ds:List Int}{v2 v3 v4 v5 v6:Option Sv}(hd:hG ds):∃e2,Cv [some (.d (.list (ns.map .int))),some (.l (ds.map .int)),v2,v3,v4,v5,v6]=some (.nx e2)∧LI ns e2:=by
  obtain⟨W,d1,tw,hd1,ok, -,tl⟩:=DF ds 8 12 hd (by decide) (by decide) (by decide) (by decide)
  have wl:=ok.len;have tb:=ok.t1
  obtain⟨ws,d2,t2,hd2,hl,hs⟩:=xr ok hd1
  obtain⟨ss,t3,h3,l3,D,d0,db,dv⟩:=xq ok (n:=6) hs hl (by lia) (by decide)
  obtain⟨K,B,A,O,d3,tp,hd3,hP⟩:=xo ok hd2
  obtain⟨D2,hw⟩:=hP.pw ok
  have rq:=hw.rq
  have lk:=rq.lk;have lb:=rq.lb;have lo:=rq.lo
  have sA:Sw true (3*100000+5) 7 (.tuple [ar W,.tuple (ss.map dF),lm K B A O]):=Sw.tup (n:=100000) (dep:=6) (m:=3) (fun x hx=>by
    simp only [List.mem_cons,List.not_mem_nil,or_false] at hx
    rcases hx with rfl | rfl | rfl
    · exact(Cb ok true).mono (by decide) (by decide)
    · exact(oM (fun f hf=>(zm (h3 f hf)).mono (by decide)) (by lia)).mono (by decide) (by decide)
    · exact(Sw.tup (n:=20000) (dep:=4) (m:=4) (fun x hx=>by
        simp only [List.mem_cons,List.not_mem_nil,or_false] at hx
        rcases hx with rfl | rfl | rfl | rfl
        · exact oM rq.k (by lia)
        · exact oM rq.b (by lia)
        · exact(zU rq.a).mono (by decide) (by decide)
        · exact oM rq.o (by lia)) (by simp)).mono (by decide) (by decide)) (by simp)
  have gr:=sA.repr (by decide) (by decide)
  have ge:=fun e=>vE (e:=e) sA.so
  have so:=xF ok h3 l3 d0 db dv
  have a1:=mO ok h3 l3 d0 db dv
  have a2:=pC ok h3 l3 d0 db dv
  have lw:(lE W ss).length≤16:=by unfold lE;rw [List.length_map,List.length_zip];lia
  have hc:∀f∈W.ties.map cC,S1 7 f:=fun f hf=>by
    obtain⟨t,ht,rfl⟩:=List.mem_map.mp hf
    exact gK ok ht
  have bM:Bt 500 (D*uq (W.ties.map cC)):=(db.mul (iF fun f hf=>(hc f hf).bt)).mono (by rw [List.length_map];lia)
  have a3:=tJ (so.po_all.bitsN so.m0 bM (by lia)) (by decide)
  have f4:=hw.four ok
  have b1:=mN ok hw
  have b2:=pB ok hw
  have b3:=tJ (f4.po_all.bitsN hw.d0 hw.db (by unfold rS;simp)) (by decide)
  refine⟨[some (.d (.list (ns.map .int))),some (.l (d3.map .int)),v2,some (.d (ar W)),some (.d (.tuple (ss.map dF))),some (.d (lm K B A O)),some (.d (.str (PyData.tuple [ar W,.tuple (ss.map dF),lm K B A O]).shown))],?_,.mk hd3⟩
  generalize (PyData.tuple [ar W,.tuple (ss.map dF),lm K B A O]).shown=SH at*
  generalize dF (au (0,1) (rS W K B A O))=y1 at*
  generalize dF (au (0,1) (lE W ss))=y2 at*
  generalize lm K B A O=PP at*
  generalize ss.map dF=SS at*
  generalize ws.map dF=WS at*
  generalize ar W=WW at*
  simp? [Cv,tw,t2,t3,tp,gr,ge,a1,a2,a3,b1,b2,b3]
theorem vT(ns:List Int)(hl:ns.length≤63):∃as',mj [.d (.list (ns.map .int))]=some (.d (.bool true),as'):=by
  obtain⟨ds,td,hd⟩:=zw ns hl
  obtain⟨e2,h1,hI⟩:=bj (own:=[]) (g:=af 2) (f:=Cv) (fun _=>LI ns) (a_ 0 4) 0 [some (.d (.list (ns.map .int))),some (.l (ds.map .int)),none,none,none,none,none] (fun i x e hx hI=>by
    obtain⟨hd⟩:=hI
    rename_i ds v2 v3 v4 v5 v6
    obtain⟨e2,k1,k2⟩:=vU (ns:=ns) (v2:=some (.d x)) (v3:=v3) (v4:=v4) (v5:=v5) (v6:=v6) hd
    exact⟨_,e2,rfl,k1,a9,k2⟩) (.mk hd)
  obtain⟨hd2⟩:=hI
  have hfor:=fun Wl=>br (W:=Wl) (g:=af 2) (f:=Cv) (show EY [some (.d (.list (ns.map .int))),some (.l (ds.map .int)),none,none,none,none,none]=some (a_ 0 4,[],[some (.d (.list (ns.map .int))),some (.l (ds.map .int)),none,none,none,none,none]) from rfl)
  rw [h1] at hfor
  simp? [mj,zQ,td,hfor]
def kE(P:Params)(k:Str)(t:Tok)(v:Value):DictEntry:=⟨PyData.keyHash P k,.str k t,v⟩
def kF(n:Str)(s:Stmt)(doc pm:Value)(c:Addr):Obj:=⟨.type "function",none,.func (W.fnOf n n (c_ s) (cD s) (aj s) .none .none doc pm none (.ref c) .none),#[]⟩
def kI(n:Int):Value:=.int n 0
def kC(n:Str)(a:Nat)(l:List Value)(z:Nat):Obj:=⟨.type "code",none,.fields (Value.str n a::Value.str n (a+1)::Value.str "/claim/cut.py" (a+2)::l++[Value.str "/claim/cut.py" z]).toArray,#[]⟩
def kT(l:List Value)(n:Nat):Obj:=⟨.type "tuple",none,.seq l.toArray n,#[]⟩
def xP:Value:=.str "askedpairs.fractions" 187
def EZ:Value:=.str "askedpairs.worthpaper" 234
def DY:Value:=.str "askedpairs.pricepaper" 243
def eS:Value:=.str "law_askedpairs_k48_worths_of_papers" 257
def kK(P:Params):W.Frag:=[(3,⟨.type "dict",none,.dict (List.toArray [kE P "__name__" 165 (.str "law_askedpairs_k48_worths_of_papers" 257),kE P "__doc__" 166 (.none),kE P "__package__" 167 (.none),kE P "__loader__" 168 (.builtin "__main__.__loader__#opaque"),kE P "__spec__" 169 (.none),kE P "__annotations__" 170 (.ref 6),kE P "__builtins__" 171 (.ref 4),kE P "__file__" 173 (.str "/claim/cut.py" 172),kE P "__cached__" 174 (.none),kE P "ZERO" 191 (.ref 15),kE P "common_divisor" 199 (.ref 22),kE P "lowest" 208 (.ref 29),kE P "plus" 216 (.ref 36),kE P "times" 224 (.ref 43),kE P "total" 233 (.ref 50),kE P "gain_of" 242 (.ref 57),kE P "shares_worth" 250 (.ref 62),kE P "prices_worth" 256 (.ref 67),kE P "_law_mixed" 267 (.ref 74),kE P "_law_draws" 278 (.ref 81),kE P "_law_next" 285 (.ref 88),kE P "_law_gcd" 293 (.ref 95),kE P "_law_low" 302 (.ref 102),kE P "_law_plus" 310 (.ref 109),kE P "_law_times" 318 (.ref 116),kE P "_law_less" 326 (.ref 123),kE P "_law_same" 334 (.ref 130),kE P "_law_chance" 343 (.ref 137),kE P "_law_worth" 351 (.ref 144),kE P "_law_ties" 370 (.ref 151),kE P "_law_web" 386 (.ref 158),kE P "_law_sum" 395 (.ref 165),kE P "_law_loads" 401 (.ref 170),kE P "_law_scaled" 407 (.ref 175),kE P "_law_shares" 419 (.ref 182),kE P "_law_lacking" 438 (.ref 189),kE P "_law_price" 446 (.ref 196),kE P "_law_prices" 452 (.ref 201),kE P "_law_prices_sum" 467 (.ref 208),kE P "_law_shares_sum" 478 (.ref 215),kE P "law" 491 (.ref 222)]) 41,#[]⟩),
  (22,kF "common_divisor" bO (.none) xP 21),
  (21,kC "common_divisor" 192 [kI 3,kI 2,kI 0,kI 0,kI 3,.ref 16,.bool true,kI 181,.ref 17,.none,.ref 18,.ref 19,.ref 20,kI 197,kI 3] 198),
  (29,kF "lowest" gy (.none) xP 28),
  (28,kC "lowest" 200 [kI 7,kI 2,kI 0,kI 0,kI 3,.ref 23,.bool true,kI 181,.ref 24,.none,.ref 25,.ref 26,.ref 27,kI 206,kI 7] 207),
  (36,kF "plus" mE (.none) xP 35),
  (35,kC "plus" 209 [kI 12,kI 2,kI 0,kI 0,kI 3,.ref 30,.bool true,kI 181,.ref 31,.none,.ref 32,.ref 33,.ref 34,kI 214,kI 12] 215),
  (43,kF "times" gX (.none) xP 42),
  (42,kC "times" 217 [kI 14,kI 2,kI 0,kI 0,kI 3,.ref 37,.bool true,kI 181,.ref 38,.none,.ref 39,.ref 40,.ref 41,kI 222,kI 14] 223),
  (50,kF "total" iV (.none) xP 49),
  (49,kC "total" 225 [kI 16,kI 1,kI 0,kI 0,kI 3,.ref 44,.bool true,kI 181,.ref 45,.none,.ref 46,.ref 47,.ref 48,kI 231,kI 16] 232),
  (57,kF "gain_of" gv (.none) EZ 56),
  (56,kC "gain_of" 236 [kI 22,kI 1,kI 0,kI 0,kI 3,.ref 51,.bool true,kI 181,.ref 52,.none,.ref 53,.ref 54,.ref 55,kI 240,kI 22] 241),
  (62,kF "shares_worth" bQ (.none) DY 61),
  (61,kC "shares_worth" 245 [kI 25,kI 2,kI 0,kI 0,kI 3,.ref 58,.bool true,kI 181,.ref 59,.none,.none,.none,.ref 60,kI 248,kI 25] 249),
  (67,kF "prices_worth" bP (.none) DY 66),
  (66,kC "prices_worth" 251 [kI 27,kI 2,kI 0,kI 0,kI 3,.ref 63,.bool true,kI 181,.ref 64,.none,.none,.none,.ref 65,kI 254,kI 27] 255),
  (74,kF "_law_mixed" jT (.none) eS 73),
  (73,kC "_law_mixed" 259 [kI 32,kI 2,kI 0,kI 0,kI 3,.ref 68,.bool true,kI 181,.ref 69,.none,.ref 70,.ref 71,.ref 72,kI 265,kI 32] 266),
  (81,kF "_law_draws" jS (.none) eS 80),
  (80,kC "_law_draws" 268 [kI 35,kI 1,kI 0,kI 0,kI 3,.ref 75,.bool true,kI 181,.ref 76,.none,.ref 77,.ref 78,.ref 79,kI 276,kI 35] 277),
  (88,kF "_law_next" iH (.none) eS 87),
  (87,kC "_law_next" 279 [kI 48,kI 1,kI 0,kI 0,kI 3,.ref 82,.bool true,kI 181,.ref 83,.none,.ref 84,.ref 85,.ref 86,kI 283,kI 48] 284),
  (95,kF "_law_gcd" qj (.none) eS 94),
  (94,kC "_law_gcd" 286 [kI 52,kI 2,kI 0,kI 0,kI 3,.ref 89,.bool true,kI 181,.ref 90,.none,.ref 91,.ref 92,.ref 93,kI 291,kI 52] 292),
  (102,kF "_law_low" i7 (.none) eS 101),
  (101,kC "_law_low" 294 [kI 56,kI 2,kI 0,kI 0,kI 3,.ref 96,.bool true,kI 181,.ref 97,.none,.ref 98,.ref 99,.ref 100,kI 300,kI 56] 301),
  (109,kF "_law_plus" gW (.none) eS 108),
  (108,kC "_law_plus" 303 [kI 59,kI 2,kI 0,kI 0,kI 3,.ref 103,.bool true,kI 181,.ref 104,.none,.ref 105,.ref 106,.ref 107,kI 308,kI 59] 309),
  (116,kF "_law_times" fJ (.none) eS 115),
  (115,kC "_law_times" 311 [kI 61,kI 2,kI 0,kI 0,kI 3,.ref 110,.bool true,kI 181,.ref 111,.none,.ref 112,.ref 113,.ref 114,kI 316,kI 61] 317),
  (123,kF "_law_less" mz (.none) eS 122),
  (122,kC "_law_less" 319 [kI 63,kI 2,kI 0,kI 0,kI 3,.ref 117,.bool true,kI 181,.ref 118,.none,.ref 119,.ref 120,.ref 121,kI 324,kI 63] 325),
  (130,kF "_law_same" mB (.none) eS 129),
  (129,kC "_law_same" 327 [kI 65,kI 2,kI 0,kI 0,kI 3,.ref 124,.bool true,kI 181,.ref 125,.none,.ref 126,.ref 127,.ref 128,kI 332,kI 65] 333),
  (137,kF "_law_chance" gn (.none) eS 136),
  (136,kC "_law_chance" 335 [kI 67,kI 2,kI 0,kI 0,kI 3,.ref 131,.bool true,kI 181,.ref 132,.none,.ref 133,.ref 134,.ref 135,kI 341,kI 67] 342),
  (144,kF "_law_worth" jV (.none) eS 143),
  (143,kC "_law_worth" 344 [kI 77,kI 2,kI 0,kI 0,kI 3,.ref 138,.bool true,kI 181,.ref 139,.none,.ref 140,.ref 141,.ref 142,kI 349,kI 77] 350),
  (151,kF "_law_ties" mC (.none) eS 150),
  (150,kC "_law_ties" 352 [kI 79,kI 3,kI 0,kI 0,kI 3,.ref 145,.bool true,kI 181,.ref 146,.none,.ref 147,.ref 148,.ref 149,kI 368,kI 79] 369),
  (158,kF "_law_web" qk (.none) eS 157),
  (157,kC "_law_web" 371 [kI 94,kI 3,kI 0,kI 0,kI 3,.ref 152,.bool true,kI 181,.ref 153,.none,.ref 154,.ref 155,.ref 156,kI 384,kI 94] 385),
  (165,kF "_law_sum" nP (.none) eS 164),
  (164,kC "_law_sum" 387 [kI 104,kI 1,kI 0,kI 0,kI 3,.ref 159,.bool true,kI 181,.ref 160,.none,.ref 161,.ref 162,.ref 163,kI 393,kI 104] 394),
  (170,kF "_law_loads" fH (.none) eS 169),
  (169,kC "_law_loads" 396 [kI 109,kI 2,kI 0,kI 0,kI 3,.ref 166,.bool true,kI 181,.ref 167,.none,.none,.none,.ref 168,kI 399,kI 109] 400),
  (175,kF "_law_scaled" gu (.none) eS 174),
  (174,kC "_law_scaled" 402 [kI 116,kI 2,kI 0,kI 0,kI 3,.ref 171,.bool true,kI 181,.ref 172,.none,.none,.none,.ref 173,kI 405,kI 116] 406),
  (182,kF "_law_shares" iI (.none) eS 181),
  (181,kC "_law_shares" 408 [kI 126,kI 2,kI 0,kI 0,kI 3,.ref 176,.bool true,kI 181,.ref 177,.none,.ref 178,.ref 179,.ref 180,kI 417,kI 126] 418),
  (189,kF "_law_lacking" gq (.none) eS 188),
  (188,kC "_law_lacking" 420 [kI 133,kI 3,kI 0,kI 0,kI 3,.ref 183,.bool true,kI 181,.ref 184,.none,.ref 185,.ref 186,.ref 187,kI 436,kI 133] 437),
  (196,kF "_law_price" jU (.none) eS 195),
  (195,kC "_law_price" 439 [kI 142,kI 2,kI 0,kI 0,kI 3,.ref 190,.bool true,kI 181,.ref 191,.none,.ref 192,.ref 193,.ref 194,kI 444,kI 142] 445),
  (201,kF "_law_prices" eY (.none) eS 200),
  (200,kC "_law_prices" 447 [kI 144,kI 2,kI 0,kI 0,kI 3,.ref 197,.bool true,kI 181,.ref 198,.none,.none,.none,.ref 199,kI 450,kI 144] 451),
  (208,kF "_law_prices_sum" dq (.none) eS 207),
  (207,kC "_law_prices_sum" 453 [kI 160,kI 2,kI 0,kI 0,kI 3,.ref 202,.bool true,kI 181,.ref 203,.none,.ref 204,.ref 205,.ref 206,kI 465,kI 160] 466),
  (215,kF "_law_shares_sum" dr (.none) eS 214),
  (214,kC "_law_shares_sum" 468 [kI 166,kI 2,kI 0,kI 0,kI 3,.ref 209,.bool true,kI 181,.ref 210,.none,.ref 211,.ref 212,.ref 213,kI 476,kI 166] 477),
  (222,kF "law" mD (.none) eS 221),
  (221,kC "law" 479 [kI 171,kI 1,kI 0,kI 0,kI 3,.ref 216,.bool true,kI 181,.ref 217,.none,.ref 218,.ref 219,.ref 220,kI 489,kI 171] 490),
  (15,kT [.int (0) 189,.int (1) 190] 0)]
def kA:List Addr:=[3,22,21,29,28,36,35,43,42,50,49,57,56,62,61,67,66,74,73,81,80,88,87,95,94,102,101,109,108,116,115,123,122,130,129,137,136,144,143,151,150,158,157,165,164,170,169,175,174,182,181,189,188,196,195,201,200,208,207,215,214,222,221,15]
def kq:Program:={PySem.Challenge.pw_askedpairs_k48_worths_of_papers with main:={PySem.Challenge.pw_askedpairs_k48_worths_of_papers.main with body:=[top 1,top 2,top 3,top 4,top 5,top 6,top 8,top 10,top 11,top 13,top 14,top 15,top 16,top 17,top 18,top 19,top 20,top 21,top 22,top 23,top 24,top 25,top 26,top 27,top 28,top 29,top 30,top 31,top 32,top 33,top 34,top 35]}}
def kH:W.Hook:=W.kHook kK kA (fun _=>by kernel_rfl)
theorem left:W.LeftO PySem.Challenge.pw_askedpairs_k48_worths_of_papers kq [] (fun s=>W.xlAt kq [] s&&W.recOk (W.RowW.records (W.OpenRow.toRowW (W.OpenLaw.row PySem.Challenge.rw_askedpairs_k48_worths_of_papers))) s) (W.Hook.obs kH) (W.Hook.val kH) 2154:=fun w=>by kernel_rfl
theorem Ci{P:List Value→Prop}(h:∀a0,P [a0]):∀us:List Value,us.length=1→P us:=fun us e=>match us,e with | [a0],_=>h a0
theorem mP{P:List Value→Prop}(h:∀a0 a1,P [a0,a1]):∀us:List Value,us.length=2→P us:=fun us e=>match us,e with | [a0,a1],_=>h a0 a1
theorem Eu{P:List Value→Prop}(h:∀a0 a1 a2,P [a0,a1,a2]):∀us:List Value,us.length=3→P us:=fun us e=>match us,e with | [a0,a1,a2],_=>h a0 a1 a2
theorem hm{w:World}{h:Heap}{mg:Str→Option Value}{n:Str}{s:Stmt}{a:Addr}{ps:List Str}(c:Addr)(d p:Value)(X:(kK w.params).In h)(G:h.Ns mainGlobals mg)
    (e:(W.nsIn (kK w.params) mainGlobals n,List.lookup a (kK w.params),W.codeIn (kK w.params) (.ref c) n,W.keepIn (kK w.params) (.ref a))=(some (some (.ref a)),some (kF n s d p c),true,true))
    (b:∀(kV doc pm:Value) (an:Option Addr) (cdv ct:Value) (us:List Value),us.length=ps.length→bindArgs (W.fnOf n n (c_ s) (cD s) (aj s) .none kV doc pm an cdv ct) ⟨us,[]⟩=pure (ps.zip us)):
    aX (kK w.params) mg n s a (W.fnOf n n (c_ s) (cD s) (aj s) .none .none d p none (.ref c) .none) ps:=AE X G (congrArg (·.1) e) (congrArg (·.2.1) e) (congrArg (·.2.2.1) e) (congrArg (·.2.2.2) e) b
theorem all_mk{l:W.OpenLaw}{w:World}{h:Heap}{mg:Str→Option Value}{fa:Addr}(X:(kK w.params).In h)(G:h.Ns mainGlobals mg)(hfa:mg "law"=some (.ref fa)):
    ∃fd:FuncData,(∀(s:Shared) (v:Value),BindsTo s fd ⟨[v],[]⟩ [("_law_script",v)])∧∀base:Heap,(kK w.params).In base→base.Ns mainGlobals mg→aC l.prog w (kK w.params) mg base bD 7 fa fd ["_law_script"] (bE (kK w.params) 1 mj):=by
  have e:=hfa.symm.trans (W.mg_of X G (show W.nsIn (kK w.params) mainGlobals "law"=some (some (.ref 222)) by kernel_rfl))
  cases e
  have T:i0 mg:=⟨W.mg_none_of X G (show W.nsIn (kK w.params) mainGlobals "abs"=some none by kernel_rfl),W.mg_none_of X G (show W.nsIn (kK w.params) mainGlobals "len"=some none by kernel_rfl),W.mg_none_of X G (show W.nsIn (kK w.params) mainGlobals "min"=some none by kernel_rfl),W.mg_none_of X G (show W.nsIn (kK w.params) mainGlobals "max"=some none by kernel_rfl),W.mg_none_of X G (show W.nsIn (kK w.params) mainGlobals "range"=some none by kernel_rfl),W.mg_none_of X G (show W.nsIn (kK w.params) mainGlobals "repr"=some none by kernel_rfl),W.mg_none_of X G (show W.nsIn (kK w.params) mainGlobals "tuple"=some none by kernel_rfl),W.mg_none_of X G (show W.nsIn (kK w.params) mainGlobals "int"=some none by kernel_rfl),W.mg_none_of X G (show W.nsIn (kK w.params) mainGlobals "zip"=some none by kernel_rfl),W.mg_none_of X G (show W.nsIn (kK w.params) mainGlobals "list"=some none by kernel_rfl)⟩
  have h_common_divisor:aX (kK w.params) mg "common_divisor" bO 22 _ ["one","other"]:=hm 21 (.none) xP X G (by kernel_rfl) fun _ _ _ _ _ _=>mP fun _ _=>rfl
  have h_lowest:aX (kK w.params) mg "lowest" gy 29 _ ["top","bottom"]:=hm 28 (.none) xP X G (by kernel_rfl) fun _ _ _ _ _ _=>mP fun _ _=>rfl
  have h_plus:aX (kK w.params) mg "plus" mE 36 _ ["one","other"]:=hm 35 (.none) xP X G (by kernel_rfl) fun _ _ _ _ _ _=>mP fun _ _=>rfl
  have h_times:aX (kK w.params) mg "times" gX 43 _ ["one","other"]:=hm 42 (.none) xP X G (by kernel_rfl) fun _ _ _ _ _ _=>mP fun _ _=>rfl
  have h_total:aX (kK w.params) mg "total" iV 50 _ ["row"]:=hm 49 (.none) xP X G (by kernel_rfl) fun _ _ _ _ _ _=>Ci fun _=>rfl
  have h_gain_of:aX (kK w.params) mg "gain_of" gv 57 _ ["tie"]:=hm 56 (.none) EZ X G (by kernel_rfl) fun _ _ _ _ _ _=>Ci fun _=>rfl
  have h_shares_worth:aX (kK w.params) mg "shares_worth" bQ 62 _ ["web","shares"]:=hm 61 (.none) DY X G (by kernel_rfl) fun _ _ _ _ _ _=>mP fun _ _=>rfl
  have h_prices_worth:aX (kK w.params) mg "prices_worth" bP 67 _ ["web","prices"]:=hm 66 (.none) DY X G (by kernel_rfl) fun _ _ _ _ _ _=>mP fun _ _=>rfl
  have hLmixed:aX (kK w.params) mg "_law_mixed" jT 74 _ ["_law_cell","_law_k"]:=hm 73 (.none) eS X G (by kernel_rfl) fun _ _ _ _ _ _=>mP fun _ _=>rfl
  have hLdraws:aX (kK w.params) mg "_law_draws" jS 81 _ ["_law_script"]:=hm 80 (.none) eS X G (by kernel_rfl) fun _ _ _ _ _ _=>Ci fun _=>rfl
  have hLnext:aX (kK w.params) mg "_law_next" iH 88 _ ["_law_drawn"]:=hm 87 (.none) eS X G (by kernel_rfl) fun _ _ _ _ _ _=>Ci fun _=>rfl
  have hLgcd:aX (kK w.params) mg "_law_gcd" qj 95 _ ["_law_one","_law_other"]:=hm 94 (.none) eS X G (by kernel_rfl) fun _ _ _ _ _ _=>mP fun _ _=>rfl
  have hLlow:aX (kK w.params) mg "_law_low" i7 102 _ ["_law_top","_law_bottom"]:=hm 101 (.none) eS X G (by kernel_rfl) fun _ _ _ _ _ _=>mP fun _ _=>rfl
  have hLplus:aX (kK w.params) mg "_law_plus" gW 109 _ ["_law_one","_law_other"]:=hm 108 (.none) eS X G (by kernel_rfl) fun _ _ _ _ _ _=>mP fun _ _=>rfl
  have hLtimes:aX (kK w.params) mg "_law_times" fJ 116 _ ["_law_one","_law_other"]:=hm 115 (.none) eS X G (by kernel_rfl) fun _ _ _ _ _ _=>mP fun _ _=>rfl
  have hLless:aX (kK w.params) mg "_law_less" mz 123 _ ["_law_one","_law_other"]:=hm 122 (.none) eS X G (by kernel_rfl) fun _ _ _ _ _ _=>mP fun _ _=>rfl
  have hLsame:aX (kK w.params) mg "_law_same" mB 130 _ ["_law_found","_law_due"]:=hm 129 (.none) eS X G (by kernel_rfl) fun _ _ _ _ _ _=>mP fun _ _=>rfl
  have hLchance:aX (kK w.params) mg "_law_chance" gn 137 _ ["_law_number","_law_kind"]:=hm 136 (.none) eS X G (by kernel_rfl) fun _ _ _ _ _ _=>mP fun _ _=>rfl
  have hLworth:aX (kK w.params) mg "_law_worth" jV 144 _ ["_law_number","_law_kind"]:=hm 143 (.none) eS X G (by kernel_rfl) fun _ _ _ _ _ _=>mP fun _ _=>rfl
  have hLties:aX (kK w.params) mg "_law_ties" mC 151 _ ["_law_drawn","_law_things","_law_many"]:=hm 150 (.none) eS X G (by kernel_rfl) fun _ _ _ _ _ _=>Eu fun _ _ _=>rfl
  have hLweb:aX (kK w.params) mg "_law_web" qk 158 _ ["_law_drawn","_law_most","_law_ties_here"]:=hm 157 (.none) eS X G (by kernel_rfl) fun _ _ _ _ _ _=>Eu fun _ _ _=>rfl
  have hLsum:aX (kK w.params) mg "_law_sum" nP 165 _ ["_law_rows"]:=hm 164 (.none) eS X G (by kernel_rfl) fun _ _ _ _ _ _=>Ci fun _=>rfl
  have hLloads:aX (kK w.params) mg "_law_loads" fH 170 _ ["_law_web_here","_law_shares_here"]:=hm 169 (.none) eS X G (by kernel_rfl) fun _ _ _ _ _ _=>mP fun _ _=>rfl
  have hLscaled:aX (kK w.params) mg "_law_scaled" gu 175 _ ["_law_web_here","_law_shares_here"]:=hm 174 (.none) eS X G (by kernel_rfl) fun _ _ _ _ _ _=>mP fun _ _=>rfl
  have hLshares:aX (kK w.params) mg "_law_shares" iI 182 _ ["_law_drawn","_law_web_here"]:=hm 181 (.none) eS X G (by kernel_rfl) fun _ _ _ _ _ _=>mP fun _ _=>rfl
  have hLlacking:aX (kK w.params) mg "_law_lacking" gq 189 _ ["_law_web_here","_law_prices_here","_law_tie"]:=hm 188 (.none) eS X G (by kernel_rfl) fun _ _ _ _ _ _=>Eu fun _ _ _=>rfl
  have hLprice:aX (kK w.params) mg "_law_price" jU 196 _ ["_law_number","_law_kind"]:=hm 195 (.none) eS X G (by kernel_rfl) fun _ _ _ _ _ _=>mP fun _ _=>rfl
  have hLprices:aX (kK w.params) mg "_law_prices" eY 201 _ ["_law_drawn","_law_web_here"]:=hm 200 (.none) eS X G (by kernel_rfl) fun _ _ _ _ _ _=>mP fun _ _=>rfl
  have hLprices_sum:aX (kK w.params) mg "_law_prices_sum" dq 208 _ ["_law_web_here","_law_prices_here"]:=hm 207 (.none) eS X G (by kernel_rfl) fun _ _ _ _ _ _=>mP fun _ _=>rfl
  have hLshares_sum:aX (kK w.params) mg "_law_shares_sum" dr 215 _ ["_law_web_here","_law_shares_here"]:=hm 214 (.none) eS X G (by kernel_rfl) fun _ _ _ _ _ _=>mP fun _ _=>rfl
  have h_law:aX (kK w.params) mg "law" mD 222 _ ["_law_script"]:=hm 221 (.none) eS X G (by kernel_rfl) fun _ _ _ _ _ _=>Ci fun _=>rfl
  have lG_15:List.lookup 15 (kK w.params)=some (kT [.int (0) 189,.int (1) 190] 0):=by kernel_rfl
  have m_ZERO:=W.mg_of X G (show W.nsIn (kK w.params) mainGlobals "ZERO"=some (some (.ref 15)) by kernel_rfl)
  have c_ZERO:∀F,DA (kK w.params) F (.tuple [.int (0),.int (1)]) (.ref 15):=fun F=>by simp only [DA,aF];exact⟨15,[V.int (0),V.int (1)],rfl,.inr ⟨_,_,_,lG_15,rfl,rfl,rfl,(by show 2≤sizeLine;decide),(.cons ⟨_,rfl⟩ (.cons ⟨_,rfl⟩ .nil))⟩,⟨_,_,rfl,rfl,⟨_,_,rfl,rfl,rfl⟩⟩⟩
  refine⟨W.fnOf "law" "law" (c_ mD) (cD mD) (aj mD) .none .none (.none) eS none (.ref 221) .none,fun s v=>.of_eq rfl,fun base _ _=>?_⟩
  have G_common_divisor:=jP (P:=l.prog) (w:=w) (base:=base) h_common_divisor T
  have G_lowest:=uk (P:=l.prog) (w:=w) (base:=base) h_lowest T h_common_divisor G_common_divisor
  have G_plus:=yv (P:=l.prog) (w:=w) (base:=base) h_plus T h_lowest G_lowest
  have G_times:=wo (P:=l.prog) (w:=w) (base:=base) h_times T h_lowest G_lowest
  have G_total:=wq (P:=l.prog) (w:=w) (base:=base) h_total T h_plus G_plus m_ZERO c_ZERO
  have G_gain_of:=rL (P:=l.prog) (w:=w) (base:=base) h_gain_of T h_times G_times
  have G_shares_worth:=kZ (P:=l.prog) (w:=w) (base:=base) h_shares_worth T h_total G_total h_times G_times h_gain_of G_gain_of
  have G_prices_worth:=kY (P:=l.prog) (w:=w) (base:=base) h_prices_worth T h_total G_total h_times G_times
  have GLmixed:=wj (P:=l.prog) (w:=w) (base:=base) hLmixed T
  have GLdraws:=wf (P:=l.prog) (w:=w) (base:=base) hLdraws T hLmixed GLmixed
  have GLnext:=yq (P:=l.prog) (w:=w) (base:=base) hLnext T
  have GLgcd:=AU (P:=l.prog) (w:=w) (base:=base) hLgcd T
  have GLlow:=AV (P:=l.prog) (w:=w) (base:=base) hLlow T hLgcd GLgcd
  have GLplus:=yr (P:=l.prog) (w:=w) (base:=base) hLplus T hLlow GLlow
  have GLtimes:=wm (P:=l.prog) (w:=w) (base:=base) hLtimes T hLlow GLlow
  have GLless:=yp (P:=l.prog) (w:=w) (base:=base) hLless T
  have GLsame:=yt (P:=l.prog) (w:=w) (base:=base) hLsame T
  have GLchance:=ug (P:=l.prog) (w:=w) (base:=base) hLchance T hLlow GLlow
  have GLworth:=wn (P:=l.prog) (w:=w) (base:=base) hLworth T
  have GLties:=yu (P:=l.prog) (w:=w) (base:=base) hLties T hLnext GLnext hLchance GLchance hLworth GLworth
  have GLweb:=AX (P:=l.prog) (w:=w) (base:=base) hLweb T hLties GLties hLnext GLnext
  have GLsum:=AW (P:=l.prog) (w:=w) (base:=base) hLsum T hLplus GLplus
  have GLloads:=wg (P:=l.prog) (w:=w) (base:=base) hLloads T hLsum GLsum hLtimes GLtimes
  have GLscaled:=ui (P:=l.prog) (w:=w) (base:=base) hLscaled T hLloads GLloads hLless GLless hLlow GLlow
  have GLshares:=uj (P:=l.prog) (w:=w) (base:=base) hLshares T hLnext GLnext hLchance GLchance
  have GLlacking:=rK (P:=l.prog) (w:=w) (base:=base) hLlacking T hLtimes GLtimes hLplus GLplus
  have GLprice:=wk (P:=l.prog) (w:=w) (base:=base) hLprice T hLlow GLlow
  have GLprices:=uh (P:=l.prog) (w:=w) (base:=base) hLprices T hLprice GLprice hLnext GLnext hLlacking GLlacking hLplus GLplus hLlow GLlow
  have GLprices_sum:=mW (P:=l.prog) (w:=w) (base:=base) hLprices_sum T hLplus GLplus hLsum GLsum hLtimes GLtimes
  have GLshares_sum:=mX (P:=l.prog) (w:=w) (base:=base) hLshares_sum T hLplus GLplus hLtimes GLtimes
  have G_law:=AY (P:=l.prog) (w:=w) (base:=base) h_law T hLdraws GLdraws hLweb GLweb hLscaled GLscaled hLprices GLprices hLshares GLshares hLsame GLsame h_shares_worth G_shares_worth hLshares_sum GLshares_sum h_prices_worth G_prices_worth hLprices_sum GLprices_sum
  exact G_law
def Ds(K:W.Frag):Sp:=fun vs H Q _=>∃(a:Addr) (ns:List Int),vs=[.ref a]∧i_ K H a (ns.map V.int)∧ns.length≤63∧∀H',Q (.bl true) H'
theorem AL{K:W.Frag}{vs:List V}{H:Hp}{Q:VK}{E:XK}(h:Ds K vs H Q E):bE K 1 mj vs H Q E:=by
  obtain⟨a,ns,rfl,hS,hl,q⟩:=h
  obtain⟨as',hm⟩:=vT ns hl
  exact rY hS hm q
theorem walk{l:W.OpenLaw}{q:Program}{loose:List Str}{XP:(Str→Option Value)→Heap→Prop}{YP:World→Heap→Prop}{d:DefRec}{K:Params→W.Frag}(hn:l.most=some 63)(hdf:d.params.defaults=[])
    (hY:∀(w:World) (h:Heap),YP w h→(K w.params).In h)
    (F:∀(w:World) (mg:Str→Option Value) (fa:Addr) (h:Heap),(K w.params).In h→h.Ns mainGlobals mg→mg d.name=some (.ref fa)→
      ∃fd:FuncData,(∀(s:Shared) (u:Value),BindsTo s fd ⟨[u],[]⟩ [("_law_script",u)])∧∀base:Heap,(K w.params).In base→base.Ns mainGlobals mg→aC l.prog w (K w.params) mg base bD 7 fa fd ["_law_script"] (bE (K w.params) 1 mj)):
    W.WalkO q loose XP YP l.row.toRowW d [] (fun f vs=>PySem.call f vs):=
  L2.walk_of (n:=63) (k:=7) (x:="_law_script") (CX:=fun _=>bD) (sp:=fun w=>bE (K w.params) 1 mj) hn (by decide) hdf ⟨rfl,by decide,by decide,rfl⟩ hY F (fun _ _ a ns hl _ hS=>AL ⟨a,ns,rfl,hS,hl,fun _=>rfl⟩) fun _ _ _ _ _ z=>z
end V48
open PySem PySem.W PyProof.Rows
set_option maxRecDepth 100000 in
set_option maxHeartbeats 0 in
theorem PySem.Challenge.cw_askedpairs_k48_worths_of_papers_holds : PySem.Challenge.rw_askedpairs_k48_worths_of_papers.Holds := by
  w_on;o_law
  refine holds_open (q:=V48.kq) (loose:=[]) (Xt:=fun s=>xlAt V48.kq [] s&&recOk (RowW.records (OpenRow.toRowW (OpenLaw.row PySem.Challenge.rw_askedpairs_k48_worths_of_papers))) s) (XP:=XL V48.kq []) (Yf:=Hook.obs V48.kH) (Ya:=Hook.val V48.kH) (YP:=Hook.says V48.kH) (N:=2154) V48.left (Hook.of V48.kH) (Hook.keeps V48.kH) (fun s e=>xl_of s (Bool.and_eq_true_iff.mp e).1) XL.keeps (by rfl) (by rfl) (by rfl) (fun s e=>recFacts_of (Bool.and_eq_true_iff.mp e).2) (by rfl) (by assumption) (by decide+kernel) ⟨rfl,rfl,rfl,rfl,rfl,by decide+kernel⟩ ?hw ?hc
  case hw=>w_witness2
  case hc=>exact V48.walk (l:=PySem.Challenge.rw_askedpairs_k48_worths_of_papers) rfl rfl (fun w h Y=>kIn_of Y) (fun w mg fa h KX G hmg=>V48.all_mk KX G hmg)
